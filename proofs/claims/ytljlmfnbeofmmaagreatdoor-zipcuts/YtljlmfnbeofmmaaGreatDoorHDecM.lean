import Derived.Test.YtljlmfnbeofmmaaGreatDoorHCode
namespace Go.Proofs.YtljlmfnbeofmmaaGreatDoor
def mxL (ns : List Nat) : Nat := ns.foldl max 0

theorem foldl_max (l : List Nat) (a : Nat) : a ≤ l.foldl max a ∧ (∀ x ∈ l, x ≤ l.foldl max a) ∧ (l.foldl max a = a ∨ l.foldl max a ∈ l) := by
 induction l generalizing a with
 | nil => simp
 | cons b r ih =>
  obtain ⟨h1, h2, h3⟩ := ih (max a b)
  simp only [List.foldl_cons]
  refine ⟨by omega, ?_, ?_⟩
  ·intro x hx
   rcases List.mem_cons.1 hx with rfl | hx
   ·omega
   ·exact h2 x hx
  ·rcases h3 with h | h
   ·rw [h]
    by_cases hab : a ≤ b
    ·right; rw [Nat.max_eq_right hab]; simp
    ·left; omega
   ·right; exact List.mem_cons_of_mem _ h

theorem key_le_mx (ns : List Nat) (s : Nat) : key ns s ≤ mxL ns := by
 by_cases h : s < ns.length
 ·rw [key_get h]; exact (foldl_max ns 0).2.1 _ (List.getElem_mem _)
 ·simp [key, h]

theorem mx_le (ns : List Nat) (b : Nat) (h : ∀ n ∈ ns, n ≤ b) : mxL ns ≤ b := by
 rcases (foldl_max ns 0).2.2 with h1 | h1
 ·unfold mxL; omega
 ·exact h _ h1

end Go.Proofs.YtljlmfnbeofmmaaGreatDoor
