/-
  Layer 12's law: built; List and Dump in one form.
-/
import Derived.Test.YthignkloecfcbaaChLa
import Derived.Test.YthignkloecfcbaaChNil
namespace Go.Proofs.Ythignkloecfcbaa
open Go.RowKit Go.Maps Go.Sort

theorem sumW_le (O : Nat → Oc) {i len : Nat} (h : i ≤ len) : sumW O i ≤ sumW O len := by
  induction len with
  | zero => rw [Nat.le_zero.1 h]; exact Nat.le_refl _
  | succ n ih =>
    rcases Nat.lt_or_ge i (n + 1) with e | e
    · rw [sumW_succ]; exact Nat.le_add_right_of_le (ih (by omega))
    · rw [show i = n + 1 by omega]; exact Nat.le_refl _

/-- A store of one's own. -/
def StB (w w' : World) (p : Nat) (M : Mst) (K : Nat) : Prop := ∃ ρ, Sto K w.heap.size w' p M ρ ∧ (∀ k, k < w.heap.size → ρ k = 0) ∧ Same w w'

theorem StB.same {w w1 w2 : World} {p K : Nat} {M : Mst} (h : StB w w1 p M K) (hk : Same w1 w2) : StB w w2 p M K := by
  obtain ⟨ρ, h1, h2, h3⟩ := h
  exact ⟨ρ, h1.same hk, h2, h3.trans hk⟩

theorem StB.step {w w1 w2 : World} {p K : Nat} {M' : Mst} {ρ : Nat → Nat} (h2 : ∀ k, k < w.heap.size → ρ k = 0) (h3 : Same w w1) (hA : StoA K w.heap.size w1 p ρ M' w2) : StB w w2 p M' K := by
  obtain ⟨ρ', g1, g2, g3⟩ := hA
  exact ⟨ρ', g1, fun k hk => g2.zero (Nat.lt_of_lt_of_le hk h3.size) (h2 k hk), Kept.trans h3 g3 (fun _ _ f => f) (fun k hk e => e (h2 k hk))⟩

theorem bput {w w1 : World} {p K : Nat} {M : Mst} (h : StB w w1 p M K) (x : Cm) (hx : CmOk w1 (fun k => k < w.heap.size) x) (hK : K + 3 * x.n ≤ 100000) :
    Calls Try.prog 16 #[.pointer (some ⟨p, 0, none⟩), .agg #[.int .i64 x.t, .slice x.a x.n x.c]] w1 fun e w' => ∃ c M', e = .returned (.int .i64 c) ∧ StB w w' p M' (K + 3 * x.n) ∧ M'.floor = M.floor ∧ ((c = 120 ∧ x.t ≤ M.now ∧ M' = M) ∨ (c = 0 ∧ M.now < x.t ∧ M' = putM M x.t x.ws)) := by
  obtain ⟨ρ, h1, h2, h3⟩ := id h
  by_cases ht : x.t ≤ M.now
  · refine (xput_old h1 x.t ht x.a x.n x.c).mono ?_
    rintro e w' ⟨rfl, hk⟩
    exact ⟨120, M, rfl, ⟨ρ, (h1.more (Nat.le_add_right _ _) hK).same hk, h2, h3.trans hk⟩, rfl, .inl ⟨rfl, ht, rfl⟩⟩
  · have hl := hx.len
    refine (xput_new h1 h3.size x.t (by omega) hx.num.2 x.ws _ (fun k => k < w.heap.size) hx.src h2 (by rw [hl]; exact hK)).mono ?_
    rintro e w' ⟨rfl, hA⟩
    rw [hl] at hA
    exact ⟨0, _, rfl, StB.step h2 h3 hA, rfl, .inr ⟨rfl, by omega, rfl⟩⟩

theorem bdump {w w1 : World} {p K : Nat} {M : Mst} (h : StB w w1 p M K) (t : Int) : Calls Try.prog 15 #[.pointer (some ⟨p, 0, none⟩), .int .i64 t] w1 fun e w' => DumA w1 (visF M.V (max t M.floor)) e w' ∧ StB w w' p M K := by
  obtain ⟨ρ, ⟨s, mb, g, rfl⟩, h2, h3⟩ := id h
  refine (dump_any g t).mono ?_
  intro e w' hd
  refine ⟨hd, ?_⟩
  obtain ⟨v, As, _, _, _, _, _, hk⟩ := hd
  exact h.same hk

set_option maxRecDepth 100000 in
set_option maxHeartbeats 1000000 in
theorem built_any (w : World) (a : Option Addr) (len cap : Nat) (O : Nat → Oc) (h : Ops12 w (fun k => k < w.heap.size) a len O) (hs : len + sumW O len ≤ 2000) :
    Calls Try.prog 12 #[.slice a len cap] w fun e w' => ∃ p M, e = .returned (.pointer (some ⟨p, 0, none⟩)) ∧ StB w w' p M 6000 ∧ M.floor = 0 := by
  have HO : Hid (Ops12 w (fun k => k < w.heap.size) a len O ∧ sumW O len ≤ 2000) := hid ⟨h, by omega⟩
  have hl : len ≤ 2000 := by omega
  clear h hs
  go_enter Try.func12, Try.ntmps12
  go_wp2_with fail
  refine (xnew w).mono ?_
  rintro e w1 ⟨p, ρ, rfl, g1, g2, g3⟩
  have H1 : Hid (StB w w1 p ⟨0, 0, fun _ _ => []⟩ 0) := hid ⟨ρ, g1, g2, g3⟩
  clear g1 g2 g3
  go_wp2_with fail
  go_loopg [4] len (fun q z4 wr => ∃ (i : Nat) (M : Mst), z4 = .int .i64 (i : Nat) ∧ i ≤ len ∧ len - i ≤ q ∧ Hid (StB w wr p M (3 * sumW O i) ∧ M.floor = 0))
  case atStart => exact ⟨0, _, rfl, by omega, by omega, hid ⟨by simpa [sumW] using H1.out, rfl⟩⟩
  case round =>
    obtain ⟨i, M, rfl, hi, hiq, HI⟩ := hrel
    by_cases hlt : i < len
    · have c1 : decide (i < len) = true := by simp; omega
      have c1' : decide ((i : Int) < (len : Int)) = true := by simp; omega
      obtain ⟨_, b, o, ha, _⟩ := HO.out.1 i hlt
      subst ha
      have hsame : Same w _ := HI.out.1.choose_spec.2.2
      have hO' := HO.out.1.kept hsame (fun _ _ _ f => f)
      obtain ⟨k0, k1, k2⟩ := hO'.cells hlt
      have HX : Hid (CmOk _ (fun k => k < w.heap.size) (O i).cm) := hid (hO' i hlt).1.cm
      have HS : Hid (3 * sumW O i + 3 * (O i).cm.n = 3 * sumW O (i + 1) ∧ sumW O (i + 1) ≤ 2000) := hid ⟨by rw [sumW_succ]; omega, Nat.le_trans (sumW_le O (by omega)) HO.out.2⟩
      obtain ⟨x, hx⟩ : ∃ x, x = O i := ⟨_, rfl⟩
      rw [← hx] at k0 k1 k2 HX HS
      have hiw : IntKind.i64.wrap ((i : Int) + 1) = ((i + 1 : Nat) : Int) := by rw [IntKind.wrap_i64]; omega
      have i1 : (0 : Int) ≤ (i : Int) := by omega
      have i2 : (i : Int) < (len : Int) := by omega
      clear hx hO' hsame
      by_cases hk : x.k = 1
      · have c2 : (x.k == 1) = true := by simp [hk]
        rw [hk] at k0
        go_wp2_with fail
        refine (bput HI.out.1 x.cm HX.out (by have := HS.out; omega)).mono ?_
        rintro e w2 ⟨c, M', rfl, h1, h2, _⟩
        have H2 : Hid (StB w w2 p M' (3 * sumW O (i + 1)) ∧ M'.floor = 0) := hid ⟨by rw [← HS.out.1]; exact h1, by rw [h2]; exact HI.out.2⟩
        clear h1 h2
        go_wp2_with fail
        go_roundg (gk - 1)
        case measure => omega
        case rel => exact ⟨i + 1, M', by go_num, by omega, by omega, H2⟩
      · have c2 : (x.k == 1) = false := by simp [hk]
        go_wp2_with fail
        go_roundg (gk - 1)
        case measure => omega
        case rel =>
          obtain ⟨ρ, g1, g2, g3⟩ := HI.out.1
          exact ⟨i + 1, M, by go_num, by omega, by omega, hid ⟨⟨ρ, g1.more (by have := HS.out; omega) (by have := HS.out; omega), g2, g3⟩, HI.out.2⟩⟩
    · have c1 : decide (i < len) = false := by simp; omega
      have c1' : decide ((i : Int) < (len : Int)) = false := by simp; omega
      have e : i = len := by omega
      have HE : Hid (StB w _ p M 6000 ∧ M.floor = 0) := hid (by
        obtain ⟨⟨ρ, g1, g2, g3⟩, g4⟩ := HI.out
        rw [e] at g1
        exact ⟨⟨ρ, g1.more (by have := HO.out.2; omega) (by omega), g2, g3⟩, g4⟩)
      clear e
      go_wp2_with fail
      go_ret
      exact ⟨p, M, rfl, HE.out.1, HE.out.2⟩

end Go.Proofs.Ythignkloecfcbaa
