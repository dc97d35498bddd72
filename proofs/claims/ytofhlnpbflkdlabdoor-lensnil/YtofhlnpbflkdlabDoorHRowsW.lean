/-
  The reference's Rows, walked.
-/
import Derived.Test.YtofhlnpbflkdlabDoorHRows
namespace Go.Proofs.YtofhlnpbflkdlabDoor
open Go.RowKit

/-- The counters of Rows: the last code, the last length. -/
def Cnt (ns : List Nat) (n i code last : Nat) : Prop := (last = 0 ∧ code = 0 ∧ sumP ns n i = 0) ∨ (0 < last ∧ last ≤ n ∧ (code + 1) * 2 ^ (15 - last) = sumP ns n i)

theorem sumP_le (ns : List Nat) (n i : Nat) : sumP ns n i ≤ measure ns := by
  unfold sumP
  rw [← sumTo_all]
  unfold sumTo
  rw [List.take_of_length_le (Nat.le_refl _)]
  generalize ris ns = l
  induction l with
  | nil => simp
  | cons a r ih =>
    rw [List.filter_cons]
    split
    · simp only [List.map_cons, List.sum_cons]; omega
    · simp only [List.map_cons, List.sum_cons]; omega

theorem Cnt.code_le {ns : List Nat} {n i code last : Nat} (h : Cnt ns n i code last) (hm : measure ns ≤ 32768) : code ≤ 32768 := by
  rcases h with ⟨_, h, _⟩ | ⟨_, _, h⟩
  · omega
  · have h1 := sumP_le ns n i
    have h2 : (code + 1) * 1 ≤ (code + 1) * 2 ^ (15 - last) := Nat.mul_le_mul_left _ (Nat.two_pow_pos _)
    omega

/-- The code of a symbol that comes. -/
theorem Cnt.hit {ns : List Nat} {n i code last : Nat} (h : Cnt ns n i code last) (hk : key ns i = n) (hn : n ≤ 15) : codeOf ns i = (if 0 < last then (code + 1) * 2 ^ (n - last) else code) := by
  have h1 := code_start ns i
  have h2 := sumP_hit ns i
  rw [hk] at h1 h2
  rw [← h2] at h1
  rcases h with ⟨e1, e2, e3⟩ | ⟨e1, e2, e3⟩
  · rw [if_neg (by omega), e2]
    rw [e3] at h1
    rcases Nat.mul_eq_zero.1 h1 with h | h
    · exact h
    · have := Nat.two_pow_pos (15 - n); omega
  · rw [if_pos e1]
    have e4 : (code + 1) * 2 ^ (n - last) * 2 ^ (15 - n) = codeOf ns i * 2 ^ (15 - n) := by
      rw [Nat.mul_assoc, ← Nat.pow_add, show n - last + (15 - n) = 15 - last by omega, e3, h1]
    exact (Nat.eq_of_mul_eq_mul_right (Nat.two_pow_pos _) e4).symm

theorem Cnt.next {ns : List Nat} {i : Nat} (hi : i ∈ ris ns) : Cnt ns (key ns i) (i + 1) (codeOf ns i) (key ns i) := by
  refine .inr ⟨by have := (mem_ris.1 hi).2; omega, Nat.le_refl _, ?_⟩
  rw [sumP_next ns i hi, Nat.add_mul, code_start, Nat.one_mul]

theorem Cnt.miss {ns : List Nat} {n i code last : Nat} (h : Cnt ns n i code last) (hk : key ns i ≠ n) : Cnt ns n (i + 1) code last := by
  unfold Cnt
  rw [sumP_miss ns n i hk]
  exact h

theorem Cnt.round {ns : List Nat} {n code last : Nat} (h : Cnt ns n ns.length code last) : Cnt ns (n + 1) 0 code last := by
  unfold Cnt
  rw [← sumP_round]
  rcases h with h | ⟨h1, h2, h3⟩
  · exact .inl h
  · exact .inr ⟨h1, by omega, h3⟩

/-- The symbols whose rows are laid. -/
def laidR (ns : List Nat) (n i s : Nat) : Prop := key ns s ≠ 0 ∧ pre ns n i s



end Go.Proofs.YtofhlnpbflkdlabDoor
