import Derived.Test.YtljlmfnbeofmmaaGreatDoorLnStepsM
namespace Go.Proofs.YtljlmfnbeofmmaaGreatDoor

def leastM (s : Int) : Nat := if s = 16 then 3 else if s = 17 then 3 else if s = 18 then 11 else 1
def widthM (s : Int) : Nat := if s = 16 then 2 else if s = 17 then 3 else if s = 18 then 7 else 0

theorem widthM_nat (s : Nat) : widthM (s : Int) = xbits s := by
 unfold widthM xbits
 by_cases h1 : s = 16
 ·subst h1; rfl
 ·by_cases h2 : s = 17
  ·subst h2; rfl
  ·by_cases h3 : s = 18
   ·subst h3; rfl
   ·rw [if_neg (by omega), if_neg (by omega), if_neg (by omega), if_neg h1, if_neg h2, if_neg h3]

theorem widthM_le (s : Int) : widthM s ≤ 7 := by
 unfold widthM
 split
 ·omega
 ·split
  ·omega
  ·split <;> omega

theorem leastM_le (s : Int) : 1 ≤ leastM s ∧ leastM s ≤ 11 := by
 unfold leastM
 split
 ·omega
 ·split
  ·omega
  ·split <;> omega

def manyL (s : Int) (lo hi n : Nat) : List (Int × Int) :=
 if 1 ≤ lo ∧ lo ≤ hi ∧ lo ≤ n then (s, ((min n hi - lo : Nat) : Int)) :: manyL s lo hi (n - min n hi) else []
termination_by n
decreasing_by omega

def manyR (lo hi n : Nat) : Nat :=
 if 1 ≤ lo ∧ lo ≤ hi ∧ lo ≤ n then manyR lo hi (n - min n hi) else n
termination_by n
decreasing_by omega

theorem manyL_more {s : Int} {lo hi n : Nat} (h1 : 1 ≤ lo) (h2 : lo ≤ hi) (h3 : lo ≤ n) : manyL s lo hi n = (s, ((min n hi - lo : Nat) : Int)) :: manyL s lo hi (n - min n hi) := by
 rw [manyL, if_pos ⟨h1, h2, h3⟩]
theorem manyL_end {s : Int} {lo hi n : Nat} (h3 : n < lo) : manyL s lo hi n = [] := by rw [manyL, if_neg (by omega)]
theorem manyR_more {lo hi n : Nat} (h1 : 1 ≤ lo) (h2 : lo ≤ hi) (h3 : lo ≤ n) : manyR lo hi n = manyR lo hi (n - min n hi) := by
 rw [manyR, if_pos ⟨h1, h2, h3⟩]
theorem manyR_end {lo hi n : Nat} (h3 : n < lo) : manyR lo hi n = n := by rw [manyR, if_neg (by omega)]

theorem many_le (s : Int) (lo hi n : Nat) (h1 : 1 ≤ lo) (h2 : lo ≤ hi) : (manyL s lo hi n).length + manyR lo hi n ≤ n ∧ manyR lo hi n < lo := by
 induction n using Nat.strongRecOn with
 | ind n ih =>
  by_cases h : lo ≤ n
  ·have := ih (n - min n hi) (by omega)
   rw [manyL_more h1 h2 h, manyR_more h1 h2 h, List.length_cons]
   omega
  ·rw [manyL_end (by omega), manyR_end (by omega)]
   simp; omega

theorem zerosM_many (n : Nat) : zerosM n = manyL 18 11 138 n ++ (manyL 17 3 10 (manyR 11 138 n) ++ List.replicate (manyR 3 10 (manyR 11 138 n)) (0, 0)) := by
 induction n using Nat.strongRecOn with
 | ind n ih =>
  by_cases h : 11 ≤ n
  ·rw [zerosM_big n h, manyL_more (by omega) (by omega) h, manyR_more (by omega) (by omega) h, ih (n - min n 138) (by omega)]
   rfl
  ·rw [manyL_end (n := n) (by omega), manyR_end (n := n) (by omega)]
   by_cases h3 : 3 ≤ n
   ·rw [zerosM_mid n (by omega) h3, manyL_more (by omega) (by omega) h3, manyR_more (by omega) (by omega) h3, show min n 10 = n by omega, Nat.sub_self, manyL_end (by omega), manyR_end (by omega)]
    rfl
   ·rw [zerosM_few n (by omega), manyL_end (by omega), manyR_end (by omega)]
    rfl

theorem againM_many (v n : Nat) : againM v n = manyL 16 3 6 n ++ List.replicate (manyR 3 6 n) ((v : Int), 0) := by
 induction n using Nat.strongRecOn with
 | ind n ih =>
  by_cases h : 3 ≤ n
  ·rw [againM_big v n h, manyL_more (by omega) (by omega) h, manyR_more (by omega) (by omega) h, ih (n - min n 6) (by omega)]
   rfl
  ·rw [againM_few v n (by omega), manyL_end (by omega), manyR_end (by omega)]
   rfl

def comeN (cs : List Nat) : Nat → Nat
 | 0 => 0
 | k + 1 => if 4 < k + 1 ∧ cs.getD (ord.getD k 0) 0 = 0 then comeN cs k else k + 1

theorem comeN_ge (cs : List Nat) (k : Nat) (h : 4 ≤ k) : 4 ≤ comeN cs k ∧ comeN cs k ≤ k := by
 induction k with
 | zero => omega
 | succ k ih =>
  rw [comeN]
  split
  ·have := ih (by omega); omega
  ·omega

theorem comeN_rest (cs : List Nat) (k : Nat) : ∀ j, comeN cs k ≤ j → j < k → cs.getD (ord.getD j 0) 0 = 0 := by
 induction k with
 | zero => intro j _ h; omega
 | succ k ih =>
  intro j h1 h2
  rw [comeN] at h1
  split at h1
  ·rename_i h
   by_cases e : j = k
   ·subst e; exact h.2
   ·exact ih j h1 (by omega)
  ·omega

end Go.Proofs.YtljlmfnbeofmmaaGreatDoor
