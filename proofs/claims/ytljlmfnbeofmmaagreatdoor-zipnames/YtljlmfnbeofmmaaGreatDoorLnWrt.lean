import Derived.Test.YtljlmfnbeofmmaaGreatDoorLnWr
namespace Go.Proofs.YtljlmfnbeofmmaaGreatDoor
open Go.RowKit

theorem packM_ne (l : List Nat) (h : l ≠ []) : packM l ≠ [] := by
 cases l with
 | nil => exact absurd rfl h
 | cons v r =>
  rw [packM_cons]
  intro e
  exact sayM_ne v (1 + frontN v r) (by omega) (List.append_eq_nil_iff.1 e).1

theorem head_ok (xs ys : List Nat) (hx : ∀ n ∈ xs, n ≤ 15) (hy : ∀ n ∈ ys, n ≤ 15) (h1 : 257 ≤ xs.length) (h2 : xs.length ≤ 286) (h3 : 1 ≤ ys.length) (h4 : ys.length ≤ 30) :
  HeadOk xs ys (comeN (chosen (packM (xs ++ ys))) 19) (chosen (packM (xs ++ ys))) (packN (xs ++ ys)) := by
 have h15 : ∀ n ∈ xs ++ ys, n ≤ 15 := fun n hn => by
  rcases List.mem_append.1 hn with h | h
  ·exact hx n h
  ·exact hy n h
 have hlen : (xs ++ ys).length ≤ 316 := by rw [List.length_append]; omega
 have hne : xs ++ ys ≠ [] := fun e => by have := congrArg List.length e; rw [List.length_append, List.length_nil] at this; omega
 have his := packM_is (xs ++ ys) h15
 have hc := comeN_ge (chosen (packM (xs ++ ys))) 19 (by decide)
 obtain ⟨s0, hs0⟩ := List.exists_mem_of_ne_nil _ (packM_ne _ hne)
 refine ⟨h1, h2, h3, h4, hc.1, hc.2, chosen_length _, chosen_le _, chosen_ok _ s0 hs0 (by have := his s0 hs0; have := this.1; have := (his s0 hs0).2.1; omega), fun j hj hj2 => comeN_rest _ 19 j hj hj2, ?_, ?_⟩
 ·intro s hs
  obtain ⟨t, ht, rfl⟩ := List.mem_map.1 hs
  have hi := his t ht
  have hlt : t.1.toNat < 19 := by have := hi.1; have := hi.2.1; omega
  exact ⟨by rw [chosen_length]; exact hlt, chosen_key _ t ht hlt, hi.2.2.2⟩
 ·rw [packN_cast _ h15, runM_pack _ _ [] h15 (by simp)]
  simp

theorem lensOk_append (xs ys : List Int) : lensOk (xs ++ ys) = (lensOk xs && lensOk ys) := by
 unfold lensOk
 rw [List.any_append, Bool.not_or]

end Go.Proofs.YtljlmfnbeofmmaaGreatDoor
