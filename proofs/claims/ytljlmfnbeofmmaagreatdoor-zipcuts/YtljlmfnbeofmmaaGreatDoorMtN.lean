import Derived.Test.YtljlmfnbeofmmaaGreatDoorMtM
namespace Go.Proofs.YtljlmfnbeofmmaaGreatDoor

def triB (data : List Nat) (q a b c : Nat) : Bool := data.getD q 0 == a && data.getD (q + 1) 0 == b && data.getD (q + 2) 0 == c

theorem triB_iff (data : List Nat) (q a b c : Nat) : triB data q a b c = true ↔ (data.getD q 0 = a ∧ data.getD (q + 1) 0 = b ∧ data.getD (q + 2) 0 = c) := by
 simp [triB, and_assoc]

def lastM (data : List Nat) (a b c : Nat) : Nat → Option Nat
 | 0 => none
 | i + 1 => if triB data i a b c = true then some i else lastM data a b c i

theorem lastM_some {data : List Nat} {a b c i q : Nat} (h : lastM data a b c i = some q) : q < i ∧ triB data q a b c = true ∧ ∀ p, q < p → p < i → triB data p a b c = false := by
 induction i with
 | zero => cases h
 | succ i ih =>
  unfold lastM at h
  split at h
  ·rename_i h1
   simp only [Option.some.injEq] at h
   subst h
   exact ⟨by omega, h1, fun p h2 h3 => by omega⟩
  ·rename_i h1
   obtain ⟨g1, g2, g3⟩ := ih h
   refine ⟨by omega, g2, fun p h2 h3 => ?_⟩
   by_cases hp : p = i
   ·subst hp; simpa using h1
   ·exact g3 p h2 (by omega)

theorem lastM_none {data : List Nat} {a b c i : Nat} (h : lastM data a b c i = none) : ∀ p, p < i → triB data p a b c = false := by
 induction i with
 | zero => intro p hp; omega
 | succ i ih =>
  unfold lastM at h
  split at h
  ·cases h
  ·rename_i h1
   intro p hp
   by_cases he : p = i
   ·subst he; simpa using h1
   ·exact ih h p (by omega)

def chA (data : List Nat) (i : Nat) : Int :=
 match lastM data (data.getD i 0) (data.getD (i + 1) 0) (data.getD (i + 2) 0) i with
 | some q => (q : Int)
 | none => -1

def chM (data : List Nat) : List Int := (List.range (data.length - 2)).map (chA data)

theorem chM_length (data : List Nat) : (chM data).length = data.length - 2 := by simp [chM]
theorem chM_get (data : List Nat) (i : Nat) (_h : i < data.length - 2) (h' : i < (chM data).length) : (chM data)[i] = chA data i := by simp [chM]

def sameB (data : List Nat) (p i : Nat) : Bool := triB data p (data.getD i 0) (data.getD (i + 1) 0) (data.getD (i + 2) 0)

theorem sameB_iff (data : List Nat) (p i : Nat) : sameB data p i = true ↔ (data.getD p 0 = data.getD i 0 ∧ data.getD (p + 1) 0 = data.getD (i + 1) 0 ∧ data.getD (p + 2) 0 = data.getD (i + 2) 0) := triB_iff _ _ _ _ _

theorem sameB_trans {data : List Nat} {p q i : Nat} (h : sameB data q i = true) : sameB data p i = sameB data p q := by
 have h1 := (sameB_iff data q i).1 h
 rw [Bool.eq_iff_iff, sameB_iff, sameB_iff, h1.1, h1.2.1, h1.2.2]

theorem chA_cases (data : List Nat) (i : Nat) : (∃ q : Nat, chA data i = q ∧ q < i ∧ sameB data q i = true ∧ ∀ p, q < p → p < i → sameB data p i = false) ∨ (chA data i = -1 ∧ ∀ p, p < i → sameB data p i = false) := by
 unfold chA
 split
 ·rename_i q h; exact .inl ⟨q, rfl, lastM_some h⟩
 ·rename_i h; exact .inr ⟨rfl, lastM_none h⟩

theorem mlM_three {data : List Nat} {i d : Nat} (hd : d ≤ i) (h : sameB data (i - d) i = false) : mlM data i d < 3 := by
 refine Nat.lt_of_not_le (fun hc => ?_)
 have h0 := (mlM_agree data i d 0 (by omega)).2
 have h1 := (mlM_agree data i d 1 (by omega)).2
 have h2 := (mlM_agree data i d 2 (by omega)).2
 have : sameB data (i - d) i = true := by
  rw [sameB_iff]
  refine ⟨?_, ?_, ?_⟩
  ·rw [show i - d = i + 0 - d by omega]; exact h0.symm
  ·rw [show i - d + 1 = i + 1 - d by omega]; exact h1.symm
  ·rw [show i - d + 2 = i + 2 - d by omega]; exact h2.symm
 rw [h] at this
 cases this

def Found (data : List Nat) (i : Nat) (fr : Int) (n d : Nat) : Prop := (n, d) = bestM data i ((i : Int) - 1 - fr).toNat

theorem Found.start {data : List Nat} {i : Nat} : Found data i (chA data i) 0 0 := by
 unfold Found
 rcases chA_cases data i with ⟨q, h1, h2, h3, h4⟩ | ⟨h1, h2⟩
 ·rw [h1, show ((i : Int) - 1 - (q : Int)).toNat = 0 + (i - 1 - q) by omega, bestM_none]
  ·rfl
  ·intro d hd1 hd2
   exact mlM_three (by omega) (h4 (i - d) (by omega) (by omega))
 ·rw [h1, show ((i : Int) - 1 - (-1)).toNat = 0 + i by omega, bestM_none]
  ·rfl
  ·intro d hd1 hd2
   exact mlM_three (by omega) (h2 (i - d) (by omega))

theorem Found.next {data : List Nat} {i q n d : Nat} (hq : q < i) (hs : sameB data q i = true) (h : (n, d) = bestM data i (i - q)) : Found data i (chA data q) n d := by
 unfold Found
 rcases chA_cases data q with ⟨p, h1, h2, h3, h4⟩ | ⟨h1, h2⟩
 ·rw [h1, show ((i : Int) - 1 - (p : Int)).toNat = (i - q) + (q - 1 - p) by omega, bestM_none]
  ·exact h
  ·intro e he1 he2
   refine mlM_three (by omega) ?_
   rw [sameB_trans hs]
   exact h4 (i - e) (by omega) (by omega)
 ·rw [h1, show ((i : Int) - 1 - (-1)).toNat = (i - q) + q by omega, bestM_none]
  ·exact h
  ·intro e he1 he2
   refine mlM_three (by omega) ?_
   rw [sameB_trans hs]
   exact h2 (i - e) (by omega)

theorem Found.done {data : List Nat} {i n d : Nat} (h : Found data i (-1) n d) : (n, d) = matM data i := by
 unfold Found at h
 rw [show ((i : Int) - 1 - (-1)).toNat = i by omega] at h
 exact h

theorem Found.at {data : List Nat} {i q n d : Nat} (hq : q < i) (h : Found data i (q : Int) n d) : (n, d) = bestM data i (i - q - 1) := by
 unfold Found at h
 rw [show ((i : Int) - 1 - (q : Int)).toNat = i - q - 1 by omega] at h
 exact h

theorem Found.not {data : List Nat} {i q n d : Nat} (hq : q < i) (hs : sameB data q i = true) (h : Found data i (q : Int) n d) (hm : mlM data i (i - q) ≤ n) : Found data i (chA data q) n d := by
 refine Found.next hq hs ?_
 have h1 := h.at hq
 have e : i - q = (i - q - 1) + 1 := by omega
 rw [e, bestM_skip (.inr (by rw [← h1, ← e]; exact hm))]
 exact h1

theorem Found.more {data : List Nat} {i q n d : Nat} (hq : q < i) (hs : sameB data q i = true) (h : Found data i (q : Int) n d) (h3 : 3 ≤ mlM data i (i - q)) (hm : n < mlM data i (i - q)) : Found data i (chA data q) (mlM data i (i - q)) (i - q) ∧ bestM data i (i - q) = (mlM data i (i - q), i - q) := by
 have h1 := h.at hq
 have e : i - q = (i - q - 1) + 1 := by omega
 have hb : bestM data i (i - q) = (mlM data i (i - q), i - q) := by
  have := bestM_take (data := data) (i := i) (k := i - q - 1) (by rw [← e]; exact h3) (by rw [← h1, ← e]; exact hm)
  rw [← e] at this
  exact this
 exact ⟨Found.next hq hs hb.symm, hb⟩

theorem Found.full {data : List Nat} {i q n d m : Nat} (hq : q < i) (hs : sameB data q i = true) (h : Found data i (q : Int) n d) (hm : mlM data i (i - q) = m) (h3 : 3 ≤ m) (hn : n < m) (hmax : ∀ e, mlM data i e ≤ m) : (m, i - q) = matM data i := by
 have h1 := (h.more hq hs (by omega) (by omega)).2
 unfold matM
 have := bestM_full (data := data) (i := i) (k := i - q) m hmax (by rw [h1]; simp only; omega) q
 rw [show i - q + q = i by omega] at this
 rw [this, h1, hm]

theorem mlM_max (data : List Nat) (i d : Nat) (h : i ≤ data.length) : mlM data i d ≤ min 258 (data.length - i) := by
 have h1 := mlM_le data i d
 rcases mlM_in data i d with h2 | h2 <;> omega

theorem matM_short {data : List Nat} {i : Nat} (h : data.length < i + 3) : matM data i = (0, 0) := by
 rcases matM_cases data i with h1 | ⟨n, d, _, h3, _, _, _, h4, _⟩
 ·exact h1
 ·omega

end Go.Proofs.YtljlmfnbeofmmaaGreatDoor
