/-
  Of the proof: parts DkP.
-/
import Derived.Shelf.SlMaps.Clone
import Derived.Test.YtjcobogajkfnmaaJ9
import Derived.Test.YtjcobogajkfnmaaJ10

/-
  Layer 9: Read, SyncDir.
-/
namespace Go.Proofs.Ytjcobogajkfnmaa
open Go.RowKit Go.Maps

/-- Read's answer. -/
def reaS (s : Ds) (t : ByteArray) : Except Nat (List Nat) := if s.left = 0 then .error 94 else match getN t s.names with
  | none => .error 92
  | some f => .ok (s.fl f).bs

def ReaA (w : World) (r : Except Nat (List Nat)) (e : Ending) (w' : World) : Prop :=
  (∀ k, r = .error k → e = .returned (.tuple #[.slice none 0 0, .int .i64 (k : Nat)]) ∧ w' = w) ∧
  ∀ bs, r = .ok bs → ∃ v, e = .returned (.tuple #[v, .int .i64 0]) ∧ Fresh w w' v bs ∧ Whole w' v

section
variable {N : Nat} {w : World} {d : Nat} {s : Ds} {ρ : Rho} {nb sb : Nat} {cv : Value}

set_option maxRecDepth 100000 in
set_option maxHeartbeats 400000 in
theorem dread_any (h : Dk N w d s ρ nb sb cv) (t : ByteArray) (ht : t.size ≤ 100000) :
    Calls Try.prog 21 #[.pointer (some ⟨d, 0, none⟩), .string t] w fun e w' => ReaA w (reaS s t) e w' := by
  by_cases hl : s.left = 0
  · have c5 : w.cell? ⟨d, 5, none⟩ = some (.int .i64 s.left) := h.blk.cell 5
    rw [hl] at c5
    have HF := dfind_down w d t c5
    have HR : Hid (reaS s t = .error 94) := hid (if_pos hl)
    clear h hl c5
    go_enter Try.func21, Try.ntmps21
    go_wp2_with fail
    refine HF.mono ?_
    rintro e w1 ⟨rfl, hw1⟩
    subst hw1
    go_wp2_with fail
    go_ret2
    exact ⟨fun k e => by rw [HR.out] at e; cases e; exact ⟨rfl, rfl⟩, fun s' e => by rw [HR.out] at e; cases e⟩
  · have HF := dfind_any h hl t (Nat.le_trans ht (by decide))
    cases hg : getN t s.names with
    | none =>
      rw [hg] at HF
      have HR : Hid (reaS s t = .error 92) := hid (by unfold reaS; rw [if_neg hl, hg])
      unfold fndD at HF
      clear h hl hg
      go_enter Try.func21, Try.ntmps21
      go_wp2_with fail
      refine HF.mono ?_
      rintro e w1 ⟨rfl, hw1⟩
      subst hw1
      go_wp2_with fail
      go_ret2
      exact ⟨fun k e => by rw [HR.out] at e; cases e; exact ⟨rfl, rfl⟩, fun s' e => by rw [HR.out] at e; cases e⟩
    | some f =>
      rw [hg] at HF
      have HR : Hid (reaS s t = .ok (s.fl f).bs) := hid (by unfold reaS; rw [if_neg hl, hg])
      unfold fndD at HF
      have hf : ρ f = 5 := h.nmf _ (getN_mem hg)
      obtain ⟨v, h1, h2, h3⟩ := h.fil f hf
      have HC := pclone_wbig w v _ _ (Src.ofRow h2) (by have := (h.okf f hf).2.1; have := h.room; omega)
      obtain ⟨a, cp, hv, _⟩ := h2.shape
      obtain ⟨m, hm⟩ : ∃ n, n = (s.fl f).bs.length := ⟨_, rfl⟩
      rw [← hm] at hv
      subst hv
      have f0 : w.cell? ⟨f, 0, none⟩ = some (.slice a m cp) := h1.cell 0
      clear h hl hg hf h1 h2 h3 hm
      go_enter Try.func21, Try.ntmps21
      go_wp2_with fail
      refine HF.mono ?_
      rintro e w1 ⟨rfl, hw1⟩
      subst hw1
      clear HF
      go_wp2_with fail
      refine HC.mono ?_
      rintro e w2 ⟨v2, rfl, hf2, hw2⟩
      have HF2 := hid (And.intro hf2 hw2)
      obtain ⟨a2, c2, hv2, _⟩ := hf2.row.shape
      subst hv2
      clear hf2 hw2 HC
      go_wp2_with fail
      go_ret2
      exact ⟨fun k e => (by rw [HR.out] at e; cases e), fun bs e => by rw [HR.out] at e; cases e; exact ⟨_, rfl, HF2.out⟩⟩

end

set_option maxRecDepth 100000 in
set_option maxHeartbeats 1000000 in
theorem dmclone_any (w : World) (b : Nat) (L : Nms) (h : Mp w b L) :
    Calls Try.prog 55 #[.map (some b)] w fun e w' => e = .returned (.map (some w.heap.size)) ∧ Mp w' w.heap.size L ∧ Same w w' ∧ w'.heap.size = w.heap.size + 1 := by
  have hlt := h.lt
  obtain ⟨es, clock, hb, hrest⟩ := h
  have hq := fun w => Go.Proofs.run_eql_map_nil_sl (P := Try.prog) w 59 _ _ (some b) Try.underlying59
  have HQ := hid hrest
  have HLT : Hid (b < w.heap.size) := hlt
  have HB := hid hb
  clear hrest hlt hb
  go_enter Try.func55, Try.ntmps55
  go_wp2
  rw [run_callFunc_extern Try.func72 (by kernel_rfl) (by kernel_rfl) (by kernel_rfl) (e := Extern.MapsClone.clone) (by kernel_rfl), Go.Proofs.run_maps_clone_sl (P := Try.prog) w 59 HB.out]
  simp only [Result.andThen]
  rw [Oper.upon_value]
  go_wp2
  rw [Go.Proofs.run_typeAssert_map_sl _ 59 _ _ _ _ Try.underlying59]
  simp only [Result.andThen]
  rw [Oper.upon_value]
  go_wp2
  go_ret
  have hk : Same w (w.alloc (.map es clock)) := (Kept.refl _ w).alloc _
  exact ⟨rfl, ⟨es, clock, (MapKept.heap_alloc w _).1, HQ.out⟩, hk, by simp⟩

end Go.Proofs.Ytjcobogajkfnmaa
