import Derived.Test.YtljlmfnbeofmmaaGreatDoorDfG
namespace Go.Proofs.YtljlmfnbeofmmaaGreatDoor

def bump (l : List Nat) (i : Nat) : List Nat := l.set i (key l i + 1)

theorem bump_length (l : List Nat) (i : Nat) : (bump l i).length = l.length := by simp [bump]

theorem bump_key (l : List Nat) (i j : Nat) (hi : i < l.length) : key (bump l i) j = key l j + (if i = j then 1 else 0) := by
 unfold bump
 by_cases h : i = j
 ·subst h
  rw [if_pos rfl, key_get (by simpa using hi)]
  simp
 ·simp only [key, List.getD_eq_getElem?_getD, List.getElem?_set]
  rw [if_neg h, if_neg h]
  rfl

def ctsL : List TK → List Nat → List Nat
 | [], l => l
 | t :: r, l => ctsL r (bump l (litMk t).sym)
def ctsD : List TK → List Nat → List Nat
 | [], l => l
 | t :: r, l => ctsD r (if t.len = 0 then l else bump l (distMk t).sym)

theorem ctsL_snoc (ts : List TK) (i : Nat) (h : i < ts.length) (l : List Nat) : ctsL (ts.take (i + 1)) l = bump (ctsL (ts.take i) l) (litMk ts[i]).sym := by
 induction ts generalizing l i with
 | nil => simp at h
 | cons t r ih =>
  cases i with
  | zero => rfl
  | succ i => simp only [List.take_succ_cons, ctsL, List.getElem_cons_succ]; exact ih i (by simpa using h) _

theorem ctsD_snoc (ts : List TK) (i : Nat) (h : i < ts.length) (l : List Nat) : ctsD (ts.take (i + 1)) l = if ts[i].len = 0 then ctsD (ts.take i) l else bump (ctsD (ts.take i) l) (distMk ts[i]).sym := by
 induction ts generalizing l i with
 | nil => simp at h
 | cons t r ih =>
  cases i with
  | zero => rfl
  | succ i => simp only [List.take_succ_cons, ctsD, List.getElem_cons_succ]; exact ih i (by simpa using h) _

theorem ctsL_length (ts : List TK) (l : List Nat) : (ctsL ts l).length = l.length := by
 induction ts generalizing l with
 | nil => rfl
 | cons t r ih => rw [ctsL, ih, bump_length]

theorem ctsD_length (ts : List TK) (l : List Nat) : (ctsD ts l).length = l.length := by
 induction ts generalizing l with
 | nil => rfl
 | cons t r ih =>
  rw [ctsD, ih]
  split
  ·rfl
  ·rw [bump_length]

theorem ctsL_key (ts : List TK) (l : List Nat) (hs : ∀ t ∈ ts, (litMk t).sym < l.length) (j : Nat) : key l j ≤ key (ctsL ts l) j ∧ key (ctsL ts l) j ≤ key l j + ts.length ∧ ((∃ t ∈ ts, (litMk t).sym = j) → 1 ≤ key (ctsL ts l) j) := by
 induction ts generalizing l with
 | nil => exact ⟨Nat.le_refl _, Nat.le_refl _, fun ⟨t, h, _⟩ => by cases h⟩
 | cons t r ih =>
  have h1 := bump_key l (litMk t).sym j (hs t (by simp))
  have h2 := ih (bump l (litMk t).sym) (fun t ht => by rw [bump_length]; exact hs t (by simp [ht]))
  rw [ctsL, List.length_cons]
  refine ⟨by omega, by split at h1 <;> omega, ?_⟩
  rintro ⟨t', ht', hj⟩
  rcases List.mem_cons.1 ht' with rfl | ht'
  ·rw [if_pos hj] at h1; omega
  ·exact h2.2.2 ⟨t', ht', hj⟩

theorem ctsD_key (ts : List TK) (l : List Nat) (hs : ∀ t ∈ ts, t.len ≠ 0 → (distMk t).sym < l.length) (j : Nat) : key l j ≤ key (ctsD ts l) j ∧ key (ctsD ts l) j ≤ key l j + ts.length ∧ ((∃ t ∈ ts, t.len ≠ 0 ∧ (distMk t).sym = j) → 1 ≤ key (ctsD ts l) j) := by
 induction ts generalizing l with
 | nil => exact ⟨Nat.le_refl _, Nat.le_refl _, fun ⟨t, h, _⟩ => by cases h⟩
 | cons t r ih =>
  rw [ctsD, List.length_cons]
  by_cases h0 : t.len = 0
  ·rw [if_pos h0]
   have h2 := ih l (fun t ht => hs t (by simp [ht]))
   refine ⟨h2.1, by omega, ?_⟩
   rintro ⟨t', ht', hn, hj⟩
   rcases List.mem_cons.1 ht' with rfl | ht'
   ·exact absurd h0 hn
   ·exact h2.2.2 ⟨t', ht', hn, hj⟩
  ·rw [if_neg h0]
   have h1 := bump_key l (distMk t).sym j (hs t (by simp) h0)
   have h2 := ih (bump l (distMk t).sym) (fun t ht => by rw [bump_length]; exact hs t (by simp [ht]))
   refine ⟨by omega, by split at h1 <;> omega, ?_⟩
   rintro ⟨t', ht', hn, hj⟩
   rcases List.mem_cons.1 ht' with rfl | ht'
   ·rw [if_pos hj] at h1; omega
   ·exact h2.2.2 ⟨t', ht', hn, hj⟩

def trimZ : Nat → List Nat → List Nat
 | 0, l => l
 | k + 1, l => if 1 < l.length ∧ key l (l.length - 1) = 0 then trimZ k (l.take (l.length - 1)) else l

theorem trimZ_is (k : Nat) (l : List Nat) (hl : 1 ≤ l.length) : ∃ m, trimZ k l = l.take m ∧ 1 ≤ m ∧ m ≤ l.length ∧ ∀ j, m ≤ j → key l j = 0 := by
 induction k generalizing l with
 | zero => exact ⟨l.length, by simp [trimZ], hl, Nat.le_refl _, fun j hj => by simp [key, List.getD_eq_getElem?_getD, List.getElem?_eq_none hj]⟩
 | succ k ih =>
  unfold trimZ
  split
  ·rename_i h
   obtain ⟨m, h1, h2, h3, h4⟩ := ih (l.take (l.length - 1)) (by rw [List.length_take]; omega)
   rw [List.length_take] at h3
   refine ⟨m, by rw [h1, List.take_take]; congr 1; omega, h2, by omega, fun j hj => ?_⟩
   by_cases hjl : j < l.length - 1
   ·have := h4 j hj
    simp only [key, List.getD_eq_getElem?_getD, List.getElem?_take] at this ⊢
    rw [if_pos hjl] at this
    exact this
   ·by_cases he : j = l.length - 1
    ·rw [he]; exact h.2
    ·simp [key, List.getD_eq_getElem?_getD, List.getElem?_eq_none (show l.length ≤ j by omega)]
  ·exact ⟨l.length, by simp, hl, Nat.le_refl _, fun j hj => by simp [key, List.getD_eq_getElem?_getD, List.getElem?_eq_none hj]⟩

end Go.Proofs.YtljlmfnbeofmmaaGreatDoor
