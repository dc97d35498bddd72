/-
  Layer 12's law ChainPrunes: its mathematics, and the calls.
-/
import Derived.Test.YthignkloecfcbaaChBu
import Derived.Test.YthignkloecfcbaaChSa
namespace Go.Proofs.Ythignkloecfcbaa
open Go.RowKit Go.Maps Go.Sort

theorem upV_drop {l : List Ver} (h : RisV l) (t : Int) {d : Nat} (hd : d ≤ upV l t) : upV (l.drop d) t = upV l t - d := by
  have hl := upV_le l t
  have h1 : (l.take d).countP (fun v => decide (v.t ≤ t)) = d := by
    have h2 : (l.take d).countP (fun v => decide (v.t ≤ t)) = (l.take d).length := List.countP_eq_length.2 (fun a ha => by
      have h3 : a ∈ l.take (upV l t) := (List.take_subset_take_left l hd) ha
      rw [upV_take h] at h3
      exact (List.mem_filter.1 h3).2)
    rw [h2, List.length_take]; omega
  have h4 : upV l t = (l.take d).countP (fun v => decide (v.t ≤ t)) + (l.drop d).countP (fun v => decide (v.t ≤ t)) := by
    conv => lhs; rw [← List.take_append_drop d l]
    exact List.countP_append
  have h5 : (l.drop d).countP (fun v => decide (v.t ≤ t)) = upV (l.drop d) t := rfl
  omega

theorem pruV_twice {l : List Ver} (h : RisV l) (f : Int) : pruV (pruV l f) f = pruV l f := by
  by_cases ht : (newV l f).there = true
  · have h0 : upV l f ≠ 0 := by
      intro e
      unfold newV at ht
      rw [if_pos e] at ht
      exact absurd ht (by decide)
    have e1 : pruV l f = l.drop (upV l f - 1) := by unfold pruV; rw [if_pos ht]
    have hu := upV_drop h f (d := upV l f - 1) (by omega)
    have hu1 : upV (l.drop (upV l f - 1)) f = 1 := by omega
    have hn : newV (l.drop (upV l f - 1)) f = newV l f := by
      unfold newV
      rw [hu1, if_neg (by decide), if_neg h0]
      simp [List.getD_eq_getElem?_getD]
    rw [e1]
    conv => lhs; unfold pruV
    rw [hn, if_pos ht, hu1]
    rfl
  · have e1 : pruV l f = l.drop (upV l f) := by unfold pruV; rw [if_neg ht]
    have hu1 : upV (l.drop (upV l f)) f = 0 := by rw [upV_drop h f (Nat.le_refl _)]; omega
    rw [e1]
    conv => lhs; unfold pruV
    rw [hu1]
    split <;> rfl

section
variable {w w1 : World} {p K : Nat} {M : Mst}

theorem StB.ris (h : StB w w1 p M K) (b : Bx) (n : Nm) : RisV (M.V b n) := by
  obtain ⟨ρ, h1, h2, h3⟩ := h
  exact (h1.vok b n).ris
theorem StB.nums (h : StB w w1 p M K) : 0 ≤ M.floor ∧ M.floor ≤ M.now ∧ M.now ≤ 9223372036854775807 := by
  obtain ⟨ρ, h1, h2, h3⟩ := h
  exact h1.nums
theorem StB.below (h : StB w w1 p M K) : Same w w1 := by
  obtain ⟨ρ, h1, h2, h3⟩ := h
  exact h3

theorem bnow (h : StB w w1 p M K) : Calls Try.prog 13 #[.pointer (some ⟨p, 0, none⟩)] w1 fun e w' => e = .returned (.int .i64 M.now) ∧ Same w1 w' := by
  obtain ⟨ρ, h1, h2, h3⟩ := id h
  refine (xnow h1).mono ?_
  rintro e w' ⟨rfl, rfl⟩
  exact ⟨rfl, Kept.refl _ _⟩

theorem bversions (h : StB w w1 p M K) : Calls Try.prog 18 #[.pointer (some ⟨p, 0, none⟩)] w1 fun e w' => ∃ m : Nat, e = .returned (.int .i64 (m : Nat)) ∧ TotIs M.V m ∧ Same w1 w' := by
  obtain ⟨ρ, h1, h2, h3⟩ := id h
  exact xversions h1

/-- The store behind Prune. -/
def prM (M : Mst) (t : Int) : Mst := if t ≤ M.floor then M else pruM M (min t M.now)

theorem bprune {ρ : Nat → Nat} (h1 : Sto K w.heap.size w1 p M ρ) (h2 : ∀ k, k < w.heap.size → ρ k = 0) (h3 : Same w w1) (t : Int) : Calls Try.prog 19 #[.pointer (some ⟨p, 0, none⟩), .int .i64 t] w1 fun e w' => ∃ (k : Nat) (ρ' : Nat → Nat), e = .returned (.int .i64 (k : Nat)) ∧ (Sto K w.heap.size w' p (prM M t) ρ' ∧ (∀ k, k < w.heap.size → ρ' k = 0) ∧ Same w w') ∧ (∀ k, k < w1.heap.size → ρ k = 0 → ρ' k = 0) ∧ Kept (fun k => ρ k ≠ 0) w1 w' ∧ ∀ m, TotIs M.V m → ∃ m', TotIs (prM M t).V m' ∧ m' + k = m := by
  by_cases ht : t ≤ M.floor
  · refine (xprune_old h1 t ht).mono ?_
    rintro e w' ⟨rfl, hk⟩
    have e1 : prM M t = M := if_pos ht
    rw [e1]
    exact ⟨0, ρ, rfl, ⟨h1.same hk, h2, h3.trans hk⟩, fun _ _ e => e, hk.mono (fun _ _ f => f.elim), fun m hm => ⟨m, hm, rfl⟩⟩
  · refine (xprune_new h1 t (by omega)).mono ?_
    rintro e w' ⟨k, rfl, hA, hT⟩
    have e1 : prM M t = pruM M (min t M.now) := if_neg ht
    rw [e1]
    obtain ⟨ρ', g1, g2, g3⟩ := hA
    exact ⟨k, ρ', rfl, ⟨g1, fun k hk => g2.zero (Nat.lt_of_lt_of_le hk h3.size) (h2 k hk), Kept.trans h3 g3 (fun _ _ f => f) (fun k hk e => e (h2 k hk))⟩, fun k hk e => g2.zero hk e, g3, hT⟩

theorem prM_floor (hn : 0 ≤ M.floor ∧ M.floor ≤ M.now) (t : Int) : (prM M t).floor = max M.floor (min t M.now) ∧ (prM M t).now = M.now := by
  unfold prM
  split
  · constructor
    · omega
    · rfl
  · constructor
    · show min t M.now = _; omega
    · rfl

/-- Pruned once more: nothing goes. -/
theorem prM_twice (hn : 0 ≤ M.floor ∧ M.floor ≤ M.now) (hr : ∀ b n, RisV (M.V b n)) (t : Int) : (prM (prM M t) t).V = (prM M t).V := by
  have hf := (prM_floor hn t)
  unfold prM at hf ⊢
  by_cases h1 : t ≤ M.floor
  · simp only [if_pos h1]
  · simp only [if_neg h1]
    by_cases h2 : t ≤ (pruM M (min t M.now)).floor
    · simp only [if_pos h2]
    · simp only [if_neg h2]
      funext b n
      exact pruV_twice (hr b n) _

theorem prM_vis (hr : ∀ b n, RisV (M.V b n)) (t u : Int) (hu : min t M.now ≤ u) : visF (prM M t).V u = visF M.V u := by
  unfold prM
  split
  · rfl
  · funext b n
    exact visV_prune (hr b n) hu

end

end Go.Proofs.Ythignkloecfcbaa
