import Derived.Test.YtljlmfnbeofmmaaGreatDoorMath
namespace Go.Proofs.YtljlmfnbeofmmaaGreatDoor

structure TK where
 lit : Nat
 len : Int
 dist : Int
deriving DecidableEq

def mayT (t : TK) (said : Nat) : Bool :=
 if t.len = 0 then decide (t.dist = 0) else decide (t.lit = 0 ∧ 3 ≤ t.len ∧ t.len ≤ 258 ∧ 1 ≤ t.dist ∧ t.dist ≤ (said : Int))

def tlen (t : TK) : Nat := (max t.len 1).toNat

def measT (most : Nat) : List TK → Nat → Except Nat Nat
 | [], said => .ok said
 | t :: r, said => if mayT t said = false then .error 60 else if most < said + tlen t then .error 2 else measT most r (said + tlen t)

def cpT (far : Nat) : Nat → List Nat → List Nat
 | 0, out => out
 | n + 1, out => cpT far n (out ++ [out.getD (out.length - far) 0])

def sayT (out : List Nat) (t : TK) : List Nat := if t.len = 0 then out ++ [t.lit] else cpT t.dist.toNat t.len.toNat out

def expT (ts : List TK) (out : List Nat) : List Nat := ts.foldl sayT out

theorem cpT_more (far n : Nat) (out : List Nat) : cpT far (n + 1) out = cpT far n out ++ [(cpT far n out).getD ((cpT far n out).length - far) 0] := by
 induction n generalizing out with
 | zero => rfl
 | succ n ih => rw [cpT, ih, cpT]

theorem mayT_cases {t : TK} {said : Nat} (h : mayT t said = true) : (t.len = 0 ∧ t.dist = 0 ∧ tlen t = 1) ∨ (∃ n d : Nat, t.len = n ∧ t.dist = d ∧ t.lit = 0 ∧ 3 ≤ n ∧ n ≤ 258 ∧ 1 ≤ d ∧ d ≤ said ∧ tlen t = n) := by
 unfold mayT at h
 split at h
 ·rename_i h0
  refine .inl ⟨h0, by simpa using h, ?_⟩
  unfold tlen; rw [h0]; rfl
 ·have h := of_decide_eq_true h
  refine .inr ⟨t.len.toNat, t.dist.toNat, by omega, by omega, h.1, by omega, by omega, by omega, by omega, ?_⟩
  unfold tlen; omega

theorem tlen_pos (t : TK) : 1 ≤ tlen t := by unfold tlen; omega

def blen (n : Nat) : Nat := if n = 0 then 0 else Nat.log2 n + 1

theorem blen_le (n k : Nat) : blen n ≤ k ↔ n < 2 ^ k := by
 unfold blen
 split
 ·rename_i h; subst h; simp; exact Nat.two_pow_pos k
 ·rename_i h
  rw [← Nat.log2_lt h]
  omega

def extM (data : List Nat) (i d : Nat) : Nat → Nat → Nat
 | 0, n => n
 | f + 1, n => if i + n < data.length ∧ data.getD (i + n) 0 = data.getD (i + n - d) 0 then extM data i d f (n + 1) else n

def mlM (data : List Nat) (i d : Nat) : Nat := extM data i d 258 0

theorem extM_ge (data : List Nat) (i d f n : Nat) : n ≤ extM data i d f n ∧ extM data i d f n ≤ n + f := by
 induction f generalizing n with
 | zero => exact ⟨Nat.le_refl _, Nat.le_refl _⟩
 | succ f ih =>
  unfold extM
  split
  ·have := ih (n + 1); omega
  ·omega

theorem extM_agree (data : List Nat) (i d f n : Nat) : ∀ j, n ≤ j → j < extM data i d f n → i + j < data.length ∧ data.getD (i + j) 0 = data.getD (i + j - d) 0 := by
 induction f generalizing n with
 | zero => intro j h1 h2; unfold extM at h2; omega
 | succ f ih =>
  intro j h1 h2
  unfold extM at h2
  split at h2
  ·rename_i hc
   by_cases he : j = n
   ·subst he; exact hc
   ·exact ih (n + 1) j (by omega) h2
  ·omega

theorem mlM_agree (data : List Nat) (i d j : Nat) (h : j < mlM data i d) : i + j < data.length ∧ data.getD (i + j) 0 = data.getD (i + j - d) 0 :=
 extM_agree data i d 258 0 j (Nat.zero_le _) h
theorem mlM_le (data : List Nat) (i d : Nat) : mlM data i d ≤ 258 := by have := extM_ge data i d 258 0; unfold mlM; omega
theorem mlM_in (data : List Nat) (i d : Nat) : mlM data i d = 0 ∨ i + mlM data i d ≤ data.length := by
 rcases Nat.eq_zero_or_pos (mlM data i d) with h | h
 ·exact .inl h
 ·have := (mlM_agree data i d (mlM data i d - 1) (by omega)).1; exact .inr (by omega)
theorem mlM_ne {data : List Nat} {i d n : Nat} (h : data.getD (i + n) 0 ≠ data.getD (i + n - d) 0) : mlM data i d ≤ n := by
 refine Nat.le_of_not_lt (fun hc => h (mlM_agree data i d n hc).2)

theorem extM_step {data : List Nat} {i d f n : Nat} (h1 : i + n < data.length) (h2 : data.getD (i + n) 0 = data.getD (i + n - d) 0) : extM data i d (f + 1) n = extM data i d f (n + 1) := by
 rw [extM, if_pos ⟨h1, h2⟩]
theorem extM_stop {data : List Nat} {i d f n : Nat} (h : ¬ (i + n < data.length ∧ data.getD (i + n) 0 = data.getD (i + n - d) 0)) : extM data i d f n = n := by
 cases f with
 | zero => rfl
 | succ f => rw [extM, if_neg h]

theorem mlM_from {data : List Nat} {i d : Nat} (n : Nat) (hn : n ≤ 258) (h : ∀ j, j < n → i + j < data.length ∧ data.getD (i + j) 0 = data.getD (i + j - d) 0) : mlM data i d = extM data i d (258 - n) n := by
 induction n with
 | zero => rfl
 | succ n ih =>
  rw [ih (by omega) (fun j hj => h j (by omega))]
  have := h n (by omega)
  rw [show 258 - n = (258 - (n + 1)) + 1 by omega, extM_step this.1 this.2]

def bestM (data : List Nat) (i : Nat) : Nat → Nat × Nat
 | 0 => (0, 0)
 | k + 1 => if 3 ≤ mlM data i (k + 1) ∧ (bestM data i k).1 < mlM data i (k + 1) then (mlM data i (k + 1), k + 1) else bestM data i k

def matM (data : List Nat) (i : Nat) : Nat × Nat := bestM data i i

theorem bestM_skip {data : List Nat} {i k : Nat} (h : mlM data i (k + 1) < 3 ∨ mlM data i (k + 1) ≤ (bestM data i k).1) : bestM data i (k + 1) = bestM data i k := by
 rw [bestM, if_neg (by omega)]
theorem bestM_take {data : List Nat} {i k : Nat} (h : 3 ≤ mlM data i (k + 1)) (h2 : (bestM data i k).1 < mlM data i (k + 1)) : bestM data i (k + 1) = (mlM data i (k + 1), k + 1) := by
 rw [bestM, if_pos ⟨h, h2⟩]

theorem bestM_is (data : List Nat) (i k : Nat) : bestM data i k = (0, 0) ∨ ∃ d, 1 ≤ d ∧ d ≤ k ∧ bestM data i k = (mlM data i d, d) ∧ 3 ≤ mlM data i d := by
 induction k with
 | zero => exact .inl rfl
 | succ k ih =>
  rw [bestM]
  split
  ·rename_i h; exact .inr ⟨k + 1, by omega, by omega, rfl, h.1⟩
  ·rcases ih with h | ⟨d, h1, h2, h3⟩
   ·exact .inl h
   ·exact .inr ⟨d, h1, by omega, h3⟩

theorem bestM_full {data : List Nat} {i k : Nat} (m : Nat) (hm : ∀ d, mlM data i d ≤ m) (h : m ≤ (bestM data i k).1) (j : Nat) : bestM data i (k + j) = bestM data i k := by
 induction j with
 | zero => rfl
 | succ j ih => rw [← Nat.add_assoc, bestM_skip (by rw [ih]; have := hm (k + j + 1); omega), ih]

theorem bestM_none {data : List Nat} {i k j : Nat} (h : ∀ d, k < d → d ≤ k + j → mlM data i d < 3) : bestM data i (k + j) = bestM data i k := by
 induction j with
 | zero => rfl
 | succ j ih => rw [← Nat.add_assoc, bestM_skip (.inl (h (k + j + 1) (by omega) (by omega))), ih (fun d h1 h2 => h d h1 (by omega))]

theorem matM_cases (data : List Nat) (i : Nat) : (matM data i = (0, 0)) ∨ ∃ n d, matM data i = (n, d) ∧ 3 ≤ n ∧ n ≤ 258 ∧ 1 ≤ d ∧ d ≤ i ∧ i + n ≤ data.length ∧ ∀ j, j < n → data.getD (i + j) 0 = data.getD (i + j - d) 0 := by
 rcases bestM_is data i i with h | ⟨d, h1, h2, h3, h4⟩
 ·exact .inl h
 ·refine .inr ⟨mlM data i d, d, h3, h4, mlM_le data i d, h1, h2, ?_, fun j hj => (mlM_agree data i d j hj).2⟩
  rcases mlM_in data i d with h | h
  ·omega
  ·exact h

def tokM (data : List Nat) : Nat → Nat → List TK
 | 0, _ => []
 | f + 1, i =>
  if i < data.length then
   (if (matM data i).1 = 0 ∨ (matM data i).1 < (matM data (i + 1)).1 then ⟨data.getD i 0, 0, 0⟩ :: tokM data f (i + 1)
   else ⟨0, ((matM data i).1 : Int), ((matM data i).2 : Int)⟩ :: tokM data f (i + (matM data i).1))
  else []

def findM (data : List Nat) : List TK := if 16384 < data.length then [] else tokM data data.length 0

theorem tokM_end {data : List Nat} {f i : Nat} (h : data.length ≤ i) : tokM data f i = [] := by
 cases f with
 | zero => rfl
 | succ f => rw [tokM, if_neg (by omega)]
theorem tokM_lit {data : List Nat} {f i : Nat} (h : i < data.length) (hm : (matM data i).1 = 0 ∨ (matM data i).1 < (matM data (i + 1)).1) : tokM data (f + 1) i = ⟨data.getD i 0, 0, 0⟩ :: tokM data f (i + 1) := by
 rw [tokM, if_pos h, if_pos hm]
theorem tokM_copy {data : List Nat} {f i : Nat} (h : i < data.length) (hm : ¬ ((matM data i).1 = 0 ∨ (matM data i).1 < (matM data (i + 1)).1)) : tokM data (f + 1) i = ⟨0, ((matM data i).1 : Int), ((matM data i).2 : Int)⟩ :: tokM data f (i + (matM data i).1) := by
 rw [tokM, if_pos h, if_neg hm]

theorem tokM_fuel {data : List Nat} {f g i : Nat} (hf : data.length - i ≤ f) (hg : data.length - i ≤ g) : tokM data f i = tokM data g i := by
 induction f generalizing g i with
 | zero => rw [tokM_end (by omega), tokM_end (by omega)]
 | succ f ih =>
  by_cases h : i < data.length
  ·obtain ⟨g, rfl⟩ : ∃ g', g = g' + 1 := ⟨g - 1, by omega⟩
   by_cases hm : (matM data i).1 = 0 ∨ (matM data i).1 < (matM data (i + 1)).1
   ·rw [tokM_lit h hm, tokM_lit h hm, ih (g := g) (by omega) (by omega)]
   ·rw [tokM_copy h hm, tokM_copy h hm, ih (g := g) (by omega) (by omega)]
  ·rw [tokM_end (by omega), tokM_end (by omega)]

end Go.Proofs.YtljlmfnbeofmmaaGreatDoor
