import Derived.Test.YtljlmfnbeofmmaaGreatDoorLnWrM
namespace Go.Proofs.YtljlmfnbeofmmaaGreatDoor
theorem xbits_le (s : Nat) : xbits s ≤ 7 := by
 unfold xbits
 split
 ·omega
 ·split
  ·omega
  ·split <;> omega

def packN (l : List Nat) : List (Nat × Nat) := (packM l).map (fun s => (s.1.toNat, s.2.toNat))

def StepIs (s : Int × Int) : Prop := 0 ≤ s.1 ∧ s.1 ≤ 18 ∧ 0 ≤ s.2 ∧ s.2.toNat < 2 ^ xbits s.1.toNat

theorem zerosM_is (n : Nat) : ∀ s ∈ zerosM n, StepIs s := by
 induction n using Nat.strongRecOn with
 | ind n ih =>
  intro s hs
  by_cases h : 11 ≤ n
  ·rw [zerosM_big n h] at hs
   rcases List.mem_cons.1 hs with rfl | hs
   ·refine ⟨by simp, by simp, by simp only; omega, ?_⟩
    show (((min n 138 - 11 : Nat) : Int)).toNat < 2 ^ 7
    omega
   ·exact ih _ (by omega) s hs
  ·by_cases h3 : 3 ≤ n
   ·rw [zerosM_mid n (by omega) h3] at hs
    have : s = (17, ((n - 3 : Nat) : Int)) := by simpa using hs
    subst this
    refine ⟨by simp, by simp, by simp only; omega, ?_⟩
    show (((n - 3 : Nat) : Int)).toNat < 2 ^ 3
    omega
   ·rw [zerosM_few n (by omega)] at hs
    have := List.eq_of_mem_replicate hs
    subst this
    exact ⟨by simp, by simp, by simp, by decide⟩

theorem againM_is (v n : Nat) (hv : v ≤ 15) : ∀ s ∈ againM v n, StepIs s := by
 induction n using Nat.strongRecOn with
 | ind n ih =>
  intro s hs
  by_cases h : 3 ≤ n
  ·rw [againM_big v n h] at hs
   rcases List.mem_cons.1 hs with rfl | hs
   ·refine ⟨by simp, by simp, by simp only; omega, ?_⟩
    show (((min n 6 - 3 : Nat) : Int)).toNat < 2 ^ 2
    omega
   ·exact ih _ (by omega) s hs
  ·rw [againM_few v n (by omega)] at hs
   have := List.eq_of_mem_replicate hs
   subst this
   refine ⟨by simp, by simp only; omega, by simp, ?_⟩
   show (0 : Int).toNat < 2 ^ xbits _
   exact Nat.two_pow_pos _

theorem sayM_is (v n : Nat) (hv : v ≤ 15) : ∀ s ∈ sayM v n, StepIs s := by
 intro s hs
 unfold sayM at hs
 split at hs
 ·exact zerosM_is n s hs
 ·rcases List.mem_cons.1 hs with rfl | hs
  ·refine ⟨by simp, by simp only; omega, by simp, ?_⟩
   show (0 : Int).toNat < 2 ^ xbits _
   exact Nat.two_pow_pos _
  ·exact againM_is v _ hv s hs

theorem packM_is (l : List Nat) (h15 : ∀ x ∈ l, x ≤ 15) : ∀ s ∈ packM l, StepIs s := by
 induction hn : l.length using Nat.strongRecOn generalizing l with
 | ind n ih =>
  cases l with
  | nil => intro s hs; simp [packM] at hs
  | cons v r =>
   intro s hs
   rw [packM_cons] at hs
   rcases List.mem_append.1 hs with hs | hs
   ·exact sayM_is v _ (h15 v (by simp)) s hs
   ·exact ih (r.drop (frontN v r)).length (by simp at hn ⊢; omega) _ (fun x hx => h15 x (List.mem_cons_of_mem _ (List.mem_of_mem_drop hx))) rfl s hs

theorem packN_cast (l : List Nat) (h15 : ∀ x ∈ l, x ≤ 15) : (packN l).map (fun s => ((s.1 : Int), (s.2 : Int))) = packM l := by
 unfold packN
 rw [List.map_map]
 conv => rhs; rw [← List.map_id (packM l)]
 refine List.map_congr_left (fun s hs => ?_)
 have h := packM_is l h15 s hs
 simp only [Function.comp, id]
 rw [Int.toNat_of_nonneg h.1, Int.toNat_of_nonneg h.2.2.1]

theorem packN_length (l : List Nat) : (packN l).length ≤ l.length := by
 unfold packN
 rw [List.length_map]
 exact packM_len l

end Go.Proofs.YtljlmfnbeofmmaaGreatDoor
