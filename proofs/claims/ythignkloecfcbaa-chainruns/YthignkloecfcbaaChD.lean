/-
  Layer 12: an entry's chain; Now.
-/
import Derived.Test.YthignkloecfcbaaChC
import Derived.Deep.RegionHeld3
namespace Go.Proofs.Ythignkloecfcbaa
open Go.RowKit Go.Maps Go.Sort

theorem zeroAr (w : World) : (zeroValue 83).run Try.prog w = .ok (.map none) w := by kernel_rfl
theorem zeroCh (w : World) : (zeroValue 72).run Try.prog w = .ok (.pointer none) w := by kernel_rfl

theorem Kept.undrewC {F : Nat → Prop} {w w' : World} (h : Kept F w.drew w') : Kept F w w' := ⟨h.os, h.tape, h.output, h.size, h.block⟩

/-- A pointer to a block, if there is one. -/
def ptO (o : Option Nat) : Value := .pointer (o.map (fun c => ⟨c, 0, none⟩))

section
variable {K N : Nat} {w : World} {p : Nat} {s : Cs} {ρ : Nat → Nat} {mb : Nat}

theorem Ck.look1 (h : Ck K N w p s ρ mb) (b : Bx) : (Instr.lookup 68 (.map (some mb)) (.agg #[.string b.tn, .string b.ar]) false).run Try.prog w = .ok (.map (getK b s.bx)) w := by
  have h1 := h.bm.look klB rdM boxKey 68 83 Try.underlying68 (zeroAr w) b (bxV b) (keyB b)
  rw [show (Value.agg #[.string b.tn, .string b.ar]) = bxV b from rfl, h1]
  cases getK b s.bx <;> rfl

theorem Ck.look2 (h : Ck K N w p s ρ mb) (b : Bx) (n : Nm) : (Instr.lookup 83 (.map (getK b s.bx)) (.string n.s) false).run Try.prog w = .ok (ptO (fndC s b n)) w := by
  unfold fndC
  cases hg : getK b s.bx with
  | none => exact Maps.look_nil false nameKey Try.underlying83 (zeroCh w) (keyN n)
  | some a =>
    have h1 := (h.am a (h.ba _ (getK_mem hg))).look klN rdP nameKey 83 72 Try.underlying83 (zeroCh w) n (nmV n) (keyN n)
    rw [show (Value.string n.s) = nmV n from rfl, h1]
    show _ = Result.ok (ptO (getK n (s.ar a))) w
    cases getK n (s.ar a) <;> rfl

end

set_option maxHeartbeats 400000 in
theorem boxOf_any (w : World) (a b c : ByteArray) :
    Calls Try.prog 45 #[.agg #[.string a, .string b, .string c]] w fun e w' => e = .returned (.agg #[.string a, .string b]) ∧ Same w w' := by
  go_enter Try.func45, Try.ntmps45
  go_wp2_with fail
  refine bodyPost_ret (v := .agg #[.string a, .string b]) (by rw [results_cellC rfl]; simp [go_sem]) rfl ?_
  exact ⟨rfl, ((Kept.refl _ w).alloc _).alloc _⟩

set_option maxHeartbeats 400000 in
theorem find_nil (w : World) (a b c : ByteArray) :
    Calls Try.prog 32 #[.pointer none, .agg #[.string a, .string b, .string c]] w fun e w' => e = .returned (.pointer none) ∧ Same w w' := by
  go_enter Try.func32, Try.ntmps32
  go_wp2_with fail
  go_ret
  exact ⟨rfl, (Kept.refl _ w).alloc _⟩

set_option maxRecDepth 100000 in
set_option maxHeartbeats 1000000 in
theorem find_any {K N : Nat} {w : World} {p : Nat} {s : Cs} {ρ : Nat → Nat} {mb : Nat} (h : Ck K N w p s ρ mb) (b : Bx) (n : Nm) :
    Calls Try.prog 32 #[.pointer (some ⟨p, 0, none⟩), .agg #[.string b.tn, .string b.ar, .string n.s]] w fun e w' => e = .returned (ptO (fndC s b n)) ∧ Same w w' := by
  obtain ⟨wA, hwA⟩ : ∃ W, W = w.alloc (.cells #[.string b.tn, .string b.ar, .string n.s] 36) := ⟨_, rfl⟩
  have hka : Same w wA := by rw [hwA]; exact (Kept.refl _ w).alloc _
  obtain ⟨xb, hxb⟩ : ∃ x, x = w.heap.size := ⟨_, rfl⟩
  have BA : Blk wA xb #[.string b.tn, .string b.ar, .string n.s] 36 := by rw [hwA, hxb]; exact Blk.new w _ _
  have HA : Hid (Ck K N wA p s ρ mb) := hid (h.same hka)
  have HKA : Hid (Same w wA) := hka
  obtain ⟨X, hX⟩ : ∃ X, X = Value.map (getK b s.bx) := ⟨_, rfl⟩
  obtain ⟨Y, hY⟩ : ∃ Y, Y = ptO (fndC s b n) := ⟨_, rfl⟩
  have HL1 : Hid (∀ w', Same wA w' → (Instr.lookup 68 (.map (some mb)) (.agg #[.string b.tn, .string b.ar]) false).run Try.prog w' = .ok X w') := hid (fun w' hk => by rw [hX]; exact (HA.out.same hk).look1 b)
  have HL2 : Hid (∀ w', Same wA w' → (Instr.lookup 83 X (.string n.s) false).run Try.prog w' = .ok Y w') := hid (fun w' hk => by rw [hX, hY]; exact (HA.out.same hk).look2 b n)
  have HBO : Hid (∀ w', Calls Try.prog 45 #[.agg #[.string b.tn, .string b.ar, .string n.s]] w' fun e w2 => e = .returned (.agg #[.string b.tn, .string b.ar]) ∧ Same w' w2) := hid (fun w' => boxOf_any w' _ _ _)
  have c0 := BA.cell 0
  have c1 := BA.cell 1
  have c2 := BA.cell 2
  have p2 : wA.cell? ⟨p, 2, none⟩ = some (.map (some mb)) := (h.same hka).blk.cell 2
  simp at c0 c1 c2
  rw [← hY]
  clear h hka hX hY BA
  go_enter Try.func32, Try.ntmps32
  go_wp2_with fail
  rw [← hwA, ← hxb]
  clear hwA hxb
  have l1 := HL1.out wA (Kept.refl _ _)
  have l2 := HL2.out wA (Kept.refl _ _)
  have hs0 : Same wA wA := Kept.refl _ _
  go_region_held3 (fun w' => w'.cell? ⟨xb, 0, none⟩ = some (.string b.tn) ∧ w'.cell? ⟨xb, 1, none⟩ = some (.string b.ar) ∧ w'.cell? ⟨xb, 2, none⟩ = some (.string n.s) ∧ w'.cell? ⟨p, 2, none⟩ = some (.map (some mb)))
    (first
      | (go_split_ands; exact ⟨hk2.cell (by assumption) (fun f => f), hk2.cell (by assumption) (fun f => f), hk2.cell (by assumption) (fun f => f), hk2.cell (by assumption) (fun f => f)⟩)
      | go_keep)
    (first
      | (go_at_call 45; refine (HBO.out _).mono ?_; rintro e w2 ⟨rfl, hk2⟩; have l1 := HL1.out w2 (by first | exact hk2 | exact Kept.undrewC hk2); have l2 := HL2.out w2 (by first | exact hk2 | exact Kept.undrewC hk2))
      | fail)
  go_wp2_with fail
  go_ret
  exact ⟨rfl, HKA.out.trans (Kept.undrewC hk2)⟩

set_option maxHeartbeats 400000 in
theorem now_nil (w : World) : Calls Try.prog 13 #[.pointer none] w fun e w' => e = .returned (.int .i64 0) ∧ w' = w := by
  go_enter Try.func13, Try.ntmps13
  go_wp2_with fail
  go_ret
  exact ⟨rfl, rfl⟩

set_option maxHeartbeats 400000 in
theorem now_any {K N : Nat} {w : World} {p : Nat} {s : Cs} {ρ : Nat → Nat} {mb : Nat} (h : Ck K N w p s ρ mb) : Calls Try.prog 13 #[.pointer (some ⟨p, 0, none⟩)] w fun e w' => e = .returned (.int .i64 s.now) ∧ w' = w := by
  have c0 : w.cell? ⟨p, 0, none⟩ = some (.int .i64 s.now) := h.blk.cell 0
  clear h
  go_enter Try.func13, Try.ntmps13
  go_wp2_with fail
  go_ret
  exact ⟨rfl, rfl⟩

end Go.Proofs.Ythignkloecfcbaa
