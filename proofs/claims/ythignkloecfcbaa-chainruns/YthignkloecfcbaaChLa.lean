/-
  Layer 12's law: large, built, Same.
-/
import Derived.Test.YthignkloecfcbaaChU
import Derived.Test.YthignkloecfcbaaChDm
namespace Go.Proofs.Ythignkloecfcbaa
open Go.RowKit Go.Maps Go.Sort

/-- How many writes the first calls hold. -/
def sumW (O : Nat → Oc) (k : Nat) : Nat := ((List.range k).map (fun j => (O j).cm.n)).sum
theorem sumW_succ (O : Nat → Oc) (k : Nat) : sumW O (k + 1) = sumW O k + (O k).cm.n := by
  unfold sumW
  rw [List.range_succ, List.map_append, List.sum_append]
  simp

/-- No slice is larger than memory. -/
def SzOps (len : Nat) (O : Nat → Oc) : Prop := len ≤ 140737488351232 ∧ ∀ j, j < len → (O j).cm.n ≤ 140737488351232

theorem Ops12.cells {W : World} {I : Nat → Prop} {b o len : Nat} {O : Nat → Oc} (h : Ops12 W I (some ⟨b, o, none⟩) len O) {j : Nat} (hj : j < len) : W.cell? ⟨b, o + j * 7, none⟩ = some (.int .i64 (O j).k) ∧ W.cell? ⟨b, o + j * 7 + 1, none⟩ = some (.int .i64 (O j).cm.t) ∧ W.cell? ⟨b, o + j * 7 + 2, none⟩ = some (.slice (O j).cm.a (O j).cm.n (O j).cm.c) := by
  obtain ⟨_, b', o', e, _, _, hc⟩ := h j hj
  simp only [Option.some.injEq, Addr.mk.injEq, and_true] at e
  obtain ⟨rfl, rfl⟩ := e
  exact ⟨hc 0 _ rfl, hc 1 _ rfl, hc 2 _ rfl⟩

set_option maxRecDepth 100000 in
set_option maxHeartbeats 1000000 in
theorem clarge_any (w : World) (I : Nat → Prop) (a : Option Addr) (len cap : Nat) (O : Nat → Oc) (h : Ops12 w I a len O) (hz : SzOps len O) :
    Calls Try.prog 8 #[.slice a len cap] w fun e w' => ∃ r : Bool, e = .returned (.bool r) ∧ (r = false → len + sumW O len ≤ 2000) ∧ Same w w' := by
  have HO : Hid (Ops12 w I a len O ∧ SzOps len O) := hid ⟨h, hz⟩
  have hl := hz.1
  clear h hz
  go_enter Try.func8, Try.ntmps8
  go_wp2_with fail
  go_loopg [3, 4] len (fun q z3 z4 wr => ∃ i n : Nat, z3 = .int .i64 (n : Nat) ∧ z4 = .int .i64 (i : Nat) ∧ i ≤ len ∧ len - i ≤ q ∧ n ≤ 2000 + 140737488351232 + 140737488351232 ∧ Hid (Same w wr ∧ n = len + sumW O i))
  case atStart => exact ⟨0, len, rfl, rfl, by omega, by omega, by omega, hid ⟨Kept.refl _ _, by simp [sumW]⟩⟩
  case round =>
    obtain ⟨i, n, rfl, rfl, hi, hiq, hn, HI⟩ := hrel
    by_cases hlt : i < len
    · have c1 : decide (i < len) = true := by simp; omega
      have c1' : decide ((i : Int) < (len : Int)) = true := by simp; omega
      by_cases hn2 : n ≤ 2000
      · have c2 : decide ((n : Int) ≤ 2000) = true := by simp; omega
        have c2' : decide (n ≤ 2000) = true := by simp; omega
        obtain ⟨_, b, o, ha, _⟩ := HO.out.1 i hlt
        subst ha
        obtain ⟨_, _, k2⟩ := (HO.out.1.kept HI.out.1 (fun _ _ _ f => f)).cells hlt
        have hsz := HO.out.2.2 i hlt
        obtain ⟨x, hx⟩ : ∃ x, x = O i := ⟨_, rfl⟩
        rw [← hx] at k2 hsz
        obtain ⟨m, hm⟩ : ∃ m, m = n + x.cm.n := ⟨_, rfl⟩
        have q1 : (n : Int) + (x.cm.n : Int) = (m : Int) := by omega
        have q1w : IntKind.i64.wrap (m : Int) = (m : Int) := by rw [IntKind.wrap_i64]; omega
        have hiw : IntKind.i64.wrap ((i : Int) + 1) = ((i + 1 : Nat) : Int) := by rw [IntKind.wrap_i64]; omega
        have i1 : (0 : Int) ≤ (i : Int) := by omega
        have i2 : (i : Int) < (len : Int) := by omega
        have HM : Hid (m = len + sumW O (i + 1) ∧ m ≤ 2000 + 140737488351232) := hid ⟨by rw [sumW_succ, hm, hx, HI.out.2, Nat.add_assoc], by omega⟩
        clear hx hm hsz
        go_wp2_with fail
        go_roundg (gk - 1)
        case measure => omega
        case rel => exact ⟨i + 1, m, by go_num, by go_num, by omega, by omega, by have := HM.out.2; omega, hid ⟨HI.out.1, HM.out.1⟩⟩
      · have c2 : decide ((n : Int) ≤ 2000) = false := by simp; omega
        have c2' : decide (n ≤ 2000) = false := by simp; omega
        have c3 : decide ((2000 : Int) < (n : Int)) = true := by simp; omega
        have c3' : decide (2000 < n) = true := by simp; omega
        go_wp2_with fail
        go_ret
        exact ⟨true, rfl, fun e => (by cases e), HI.out.1⟩
    · have c1 : decide (i < len) = false := by simp; omega
      have c1' : decide ((i : Int) < (len : Int)) = false := by simp; omega
      have e : i = len := by omega
      have HE : Hid (n = len + sumW O len) := hid (by rw [← e]; have := HI.out.2; rw [e] at this ⊢; exact this)
      obtain ⟨r, hr⟩ : ∃ r, r = decide (2000 < n) := ⟨_, rfl⟩
      have c3 : decide ((2000 : Int) < (n : Int)) = r := by rw [hr]; simp; omega
      have HR : Hid (r = decide (2000 < n)) := hr
      clear e
      go_wp2_with fail
      go_ret
      refine ⟨decide (2000 < n), by first | rfl | (rw [c3, HR.out]), fun e => ?_, HI.out.1⟩
      have := HE.out
      simp at e
      omega

end Go.Proofs.Ythignkloecfcbaa
