/-
  Layer 12: the entries of an archive.
-/
import Derived.Test.YthignkloecfcbaaChV
namespace Go.Proofs.Ythignkloecfcbaa
open Go.RowKit Go.Maps Go.Sort

def enE2 (x : Nm × ByteArray) : List Value := [.string x.1.s, .string x.2]
theorem enE2_ok : EncOk enE2 2 := ⟨fun _ => rfl, fun x u hu => by simp [enE2] at hu; rcases hu with rfl | rfl <;> rfl, by decide⟩
theorem Try.infoEnt : (Try.prog.info? 58).map (fun i => (i.zero, i.size, i.bytes)) = some (some (.agg #[.string ⟨#[]⟩, .string ⟨#[]⟩]), 2, 32) := by kernel_rfl

theorem cellsAt_ent (w : World) (x : Nm × ByteArray) : CellsAt (w.alloc (.cells #[.string x.1.s, .string x.2] 58)) ⟨w.heap.size, 0, none⟩ ([x].flatMap enE2) := by
  intro j u hj
  match j, hj with
  | 0, hj => simp [enE2] at hj; subst hj; simp [addAt]
  | 1, hj => simp [enE2] at hj; subst hj; simp [addAt]
  | j + 2, hj => simp [enE2] at hj

/-- Rows of unlike types lie apart. -/
theorem rows_apart {w : World} {B B' t t' k k' n n' : Nat} {v v' : Value} {l l' : List Value} (h : w.ownsRow B t k v n l) (h' : w.ownsRow B' t' k' v' n' l') (ht : t ≠ t') : ∀ j, v.ownBlock = some j → ¬ v'.ownBlock = some j := by
  intro j e e'
  rcases h.2 with ⟨rfl, _⟩ | ⟨g, cap, cur, rfl, _, hg, _⟩
  · cases e
  · rcases h'.2 with ⟨rfl, _⟩ | ⟨g', cap', cur', rfl, _, hg', _⟩
    · cases e'
    · simp only [Value.ownBlock, Option.some.injEq] at e e'
      rw [e] at hg
      rw [e', hg] at hg'
      simp only [Option.some.injEq, Obj.cells.injEq] at hg'
      exact ht hg'.2.1

/-- What entries tells. -/
def EntA (w : World) (f : Nm → Bool) (g : Nm → ByteArray) (e : Ending) (w' : World) : Prop := ∃ v L, e = .returned v ∧ RowC w.heap.size 58 2 enE2 w' v (L.map (fun n => (n, g n))) ∧ RisN L ∧ (∀ n, n ∈ L ↔ f n = true) ∧ L.length ≤ 100000 ∧ Same w w'

set_option maxRecDepth 100000 in
set_option maxHeartbeats 2000000 in
theorem entries_any {K N : Nat} {w : World} {p : Nat} {s : Cs} {ρ : Nat → Nat} {mb : Nat} (h : Ck K N w p s ρ mb) (b : Bx) (t : Int) :
    Calls Try.prog 37 #[.pointer (some ⟨p, 0, none⟩), .agg #[.string b.tn, .string b.ar], .int .i64 t] w fun e w' => EntA w (fun n => isTh (vers s b n) (max t s.floor)) (fun n => (newV (vers s b n) (max t s.floor)).data) e w' := by
  obtain ⟨wA, hwA⟩ : ∃ W, W = w.alloc (.cells #[.string b.tn, .string b.ar] 62) := ⟨_, rfl⟩
  have hka : Same w wA := by rw [hwA]; exact (Kept.refl _ w).alloc _
  obtain ⟨xb, hxb⟩ : ∃ x, x = w.heap.size := ⟨_, rfl⟩
  have BA : Hid (Blk wA xb #[.string b.tn, .string b.ar] 62) := hid (by rw [hwA, hxb]; exact Blk.new w _ _)
  have HKA : Hid (Same w wA) := hka
  have HC : Hid (Ck K N w p s ρ mb) := h
  have HL := list_any (h.same hka) b t
  have y0 := BA.out.cell 0
  have y1 := BA.out.cell 1
  simp at y0 y1
  obtain ⟨g, hg⟩ : ∃ g : Nm → ByteArray, g = fun n => (newV (vers s b n) (max t s.floor)).data := ⟨_, rfl⟩
  rw [← hg]
  have HG : Hid (∀ n, ∃ th, getA (vers s b n) (max t s.floor) = .tuple #[.string (g n), .bool th]) := hid (fun n => by rw [hg]; exact ⟨_, rfl⟩)
  clear h hka hg
  go_enter Try.func37, Try.ntmps37
  go_upto_region 2 with fail
  rw [← hwA, ← hxb]
  clear hwA hxb
  go_wp2_with fail
  refine HL.mono ?_
  rintro e w1 ⟨v, L, rfl, hrow, hris, hmem, hlen, hk1⟩
  clear HL y0 y1
  obtain ⟨na, nc, hv, hne, _⟩ := hrow.shape
  obtain ⟨Ln, hLn⟩ : ∃ x, x = L.length := ⟨_, rfl⟩
  rw [← hLn] at hv
  subst hv
  have HR : Hid (RowE wA.heap.size 9 nmV w1 (.slice na Ln nc) L ∧ RisN L ∧ (∀ n, n ∈ L ↔ isTh (vers s b n) (max t s.floor) = true) ∧ L.length ≤ 100000 ∧ Same w w1 ∧ Ln = L.length ∧ (L ≠ [] → ∃ g, na = some ⟨g, 0, none⟩) ∧ Blk w1 xb #[.string b.tn, .string b.ar] 62 ∧ xb < wA.heap.size) := hid ⟨hrow, hris, hmem, hlen, HKA.out.trans hk1, hLn, hne, BA.out.kept hk1 (fun f => f), BA.out.lt⟩
  have hLl : Ln ≤ 100000 := by omega
  clear hrow hris hmem hlen hk1 hne hLn
  go_wp2_with fail
  go_loopg [7, 17] Ln (fun q z7 z17 wr => ∃ (i : Nat) (a0 : Option Addr) (l0 c0 : Nat), z7 = .slice a0 l0 c0 ∧ z17 = .int .i64 (i : Nat) ∧ Ln - i ≤ q ∧ i ≤ Ln ∧ Hid (RowC w1.heap.size 58 2 enE2 wr (.slice a0 l0 c0) ((L.take i).map (fun n => (n, g n))) ∧ Same w1 wr))
  case atStart => exact ⟨0, none, 0, 0, rfl, rfl, by omega, by omega, hid ⟨by simpa using RowC.nil, Kept.refl _ _⟩⟩
  case round =>
    obtain ⟨i, a0, l0, c0, rfl, rfl, hq, hi, HI⟩ := hrel
    by_cases hlt : i < Ln
    · have hr := HR.out
      have hil : i < L.length := by have := hr.2.2.2.2.2.1; omega
      obtain ⟨gn, rfl⟩ := hr.2.2.2.2.2.2.1 (by intro e; rw [e] at hil; simp at hil)
      have hrown := hr.1.kept HI.out.2 (fun _ _ f => f)
      have hc := RowE.cell (hrown) i hil
      obtain ⟨n, hn⟩ : ∃ n, n = L[i] := ⟨_, rfl⟩
      rw [← hn] at hc
      have hc' : wr.cell? ⟨gn, i, none⟩ = some (.string n.s) := hc
      have hbx := hr.2.2.2.2.2.2.2.1.kept HI.out.2 (fun f => f)
      have y0 := hbx.cell 0
      have y1 := hbx.cell 1
      simp at y0 y1
      have hkw : Same w wr := hr.2.2.2.2.1.trans HI.out.2
      have HGE := get_any (HC.out.same hkw) b n t
      obtain ⟨th, hth⟩ := HG.out n
      rw [hth] at HGE
      obtain ⟨E, hE⟩ : ∃ E, E = (L.take i).map (fun n => (n, g n)) := ⟨_, rfl⟩
      have HN : Hid ((L.take (i + 1)).map (fun n => (n, g n)) = E ++ [(n, g n)] ∧ E.length ≤ 100000) := hid ⟨by rw [List.take_succ_eq_append_getElem hil, List.map_append, hn, hE]; rfl, by rw [hE, List.length_map, List.length_take]; have := hr.2.2.2.1; omega⟩
      rw [← hE] at HI
      have hli : (i : Int) < (Ln : Int) := by omega
      clear hE
      clear hr hil hrown hc hn hbx hkw hth
      go_wp2_with fail
      refine HGE.mono ?_
      rintro e w2 ⟨rfl, hk2⟩
      have HI2 : Hid (RowC w1.heap.size 58 2 enE2 w2 (.slice a0 l0 c0) E ∧ Same w1 w2) := hid ⟨HI.out.1.kept hk2 (fun _ _ f => f), HI.out.2.trans hk2⟩
      clear hk2 HGE y0 y1 hc'
      go_wp2_with (at_builtin; refine wpList_append_c _ enE2 2 enE2_ok (by decide) w1.heap.size 53 58 (.agg #[.string ⟨#[]⟩, .string ⟨#[]⟩]) 32 Try.underlying53 Try.infoEnt rfl (by decide) rfl (.tmp 33) (.tmp 37) rfl (.slice a0 l0 c0) E rfl (HI2.out.1.kept (show Same _ _ from (Kept.refl _ _).alloc _) (fun _ _ f => f)) ⟨w2.heap.size, 0, none⟩ 1 1 [(n, g n)] rfl rfl (cellsAt_ent _ (n, g n)) (by have := HN.out.2; simp; omega) (by have := HI2.out.2.size; simp; omega) ?_)
      intro v5 w5 hr5 hg5
      obtain ⟨a5, c5, hv5, _⟩ := hr5.shape
      subst hv5
      have hk5 : Kept (fun k => (Value.slice a0 l0 c0).ownBlock = some k) w2 w5 := Kept.trans (F := fun _ => False) ((Kept.refl _ w2).alloc _) ((Kept.refl _ _).grown hg5 (fun k e => .inl e)) (fun _ _ f => False.elim f) (fun _ _ e => e)
      have HF : Hid (RowC w1.heap.size 58 2 enE2 w5 (.slice a5 (E ++ [(n, g n)]).length c5) ((L.take (i + 1)).map (fun n => (n, g n))) ∧ Same w1 w5) := hid ⟨by rw [HN.out.1]; exact hr5, Kept.trans HI2.out.2 hk5 (fun _ _ f => f) (fun k hk e => by have := HI2.out.1.ge e; omega)⟩
      obtain ⟨l5, hl5⟩ : ∃ x, x = (E ++ [(n, g n)]).length := ⟨_, rfl⟩
      rw [← hl5] at HF ⊢
      clear hr5 hg5 hk5 hl5
      go_wp2_with fail
      go_roundg (gk - 1)
      case measure => omega
      case rel => exact ⟨i + 1, a5, l5, c5, rfl, by go_num, by omega, by omega, HF⟩
    · have e : i = Ln := by omega
      have HF : Hid (EntA w (fun n => isTh (vers s b n) (max t s.floor)) g (.returned (.slice a0 l0 c0)) wr) := hid (by
        have hr := HR.out
        have hi2 := HI.out
        rw [e, hr.2.2.2.2.2.1, List.take_length] at hi2
        exact ⟨_, L, rfl, hi2.1.base hr.2.2.2.2.1.size, hr.2.1, hr.2.2.1, hr.2.2.2.1, hr.2.2.2.2.1.trans hi2.2⟩)
      go_wp2_with fail
      go_ret
      exact HF.out

end Go.Proofs.Ythignkloecfcbaa
