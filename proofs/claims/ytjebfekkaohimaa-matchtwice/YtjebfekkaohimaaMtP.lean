/-
  Data that stand twice: the second time costs few tokens.
-/
import Derived.Test.YtjebfekkaohimaaMtL
namespace Go.Proofs.Ytjebfekkaohimaa

/-- How many of the tokens reach beyond a place. -/
def beyM (K : Nat) : List TK → Nat → Nat
  | [], _ => 0
  | t :: r, said => (if K < said + tlen t then 1 else 0) + beyM K r (said + tlen t)

theorem twice_get (D : List Nat) (i : Nat) (h1 : D.length ≤ i) (h2 : i < 2 * D.length) : (D ++ D).getD i 0 = (D ++ D).getD (i - D.length) 0 := by
  simp only [List.getD]
  rw [List.getElem?_append_right h1, List.getElem?_append_left (by omega)]

/-- In the second half a match reaches as far as it may. -/
theorem twice_ml (D : List Nat) (i : Nat) (_h0 : 0 < D.length) (h1 : D.length ≤ i) (h2 : i ≤ 2 * D.length) : mlM (D ++ D) i D.length = min 258 (2 * D.length - i) := by
  have hl : (D ++ D).length = 2 * D.length := by rw [List.length_append]; omega
  obtain ⟨m, hm⟩ : ∃ m, m = min 258 (2 * D.length - i) := ⟨_, rfl⟩
  rw [← hm, mlM_from m (by omega) (fun j hj => ⟨by rw [hl]; omega, twice_get D (i + j) (by omega) (by omega)⟩)]
  by_cases h : m = 258
  · rw [h]; rfl
  · exact extM_stop (by rw [hl]; omega)

theorem twice_mat (D : List Nat) (i : Nat) (h0 : 0 < D.length) (h1 : D.length ≤ i) (h2 : i ≤ 2 * D.length) : (matM (D ++ D) i).1 = if 2 * D.length < i + 3 then 0 else min 258 (2 * D.length - i) := by
  have hl : (D ++ D).length = 2 * D.length := by rw [List.length_append]; omega
  split
  · rename_i h
    rw [show (matM (D ++ D) i) = (0, 0) from by
      rcases matM_cases (D ++ D) i with h9 | ⟨n, d, _, h3, _, _, _, h4, _⟩
      · exact h9
      · rw [hl] at h4; omega]
  · rename_i h
    have hm := twice_ml D i h0 h1 h2
    have hge := bestM_ge (data := D ++ D) (i := i) (k := i) (d := D.length) h0 h1 (by omega)
    rw [hm] at hge
    rcases matM_cases (D ++ D) i with h9 | ⟨n, d, h9, h3, h4, _, _, h5, _⟩
    · unfold matM at h9; rw [h9] at hge; simp only at hge; omega
    · rw [h9]
      rw [hl] at h5
      unfold matM at h9
      rw [h9] at hge
      simp only at hge ⊢
      omega

/-- So the tokens there are copies of full length, then one copy, then two literals at the most. -/
theorem bey_half (D : List Nat) (h0 : 0 < D.length) (f i : Nat) (h1 : D.length ≤ i) (h2 : i ≤ 2 * D.length) (hf : 2 * D.length - i ≤ f) : beyM D.length (tokM (D ++ D) f i) i ≤ (2 * D.length - i) / 258 + 2 := by
  have hl : (D ++ D).length = 2 * D.length := by rw [List.length_append]; omega
  induction f generalizing i with
  | zero => exact Nat.zero_le _
  | succ f ih =>
    by_cases h : i < 2 * D.length
    · by_cases h3 : 2 * D.length < i + 3
      · -- literals alone
        have hm := twice_mat D i h0 h1 h2
        rw [if_pos h3] at hm
        rw [tokM_lit (by rw [hl]; exact h) (.inl hm), beyM]
        have e1 : tlen ⟨(D ++ D).getD i 0, 0, 0⟩ = 1 := rfl
        rw [e1]
        by_cases h4 : i + 1 < 2 * D.length
        · have hm2 := twice_mat D (i + 1) h0 (by omega) (by omega)
          rw [if_pos (by omega)] at hm2
          obtain ⟨f', rfl⟩ : ∃ f', f = f' + 1 := ⟨f - 1, by omega⟩
          rw [tokM_lit (by rw [hl]; exact h4) (.inl hm2), beyM]
          have e2 : tlen ⟨(D ++ D).getD (i + 1) 0, 0, 0⟩ = 1 := rfl
          rw [e2, tokM_end (by rw [hl]; omega)]
          simp only [beyM]
          split <;> split <;> omega
        · rw [tokM_end (by rw [hl]; omega)]
          simp only [beyM]
          split <;> omega
      · have hm := twice_mat D i h0 h1 h2
        rw [if_neg h3] at hm
        have hm2 := twice_mat D (i + 1) h0 (by omega) (by omega)
        have hnc : ¬ ((matM (D ++ D) i).1 = 0 ∨ (matM (D ++ D) i).1 < (matM (D ++ D) (i + 1)).1) := by
          rw [hm, hm2]
          split <;> omega
        rw [tokM_copy (by rw [hl]; exact h) hnc, beyM]
        have e1 : tlen ⟨0, ((matM (D ++ D) i).1 : Int), ((matM (D ++ D) i).2 : Int)⟩ = (matM (D ++ D) i).1 := by
          unfold tlen; simp only; omega
        rw [e1, hm]
        by_cases h4 : 258 ≤ 2 * D.length - i
        · rw [show min 258 (2 * D.length - i) = 258 by omega]
          have := ih (i + 258) (by omega) (by omega) (by omega)
          split <;> omega
        · rw [show min 258 (2 * D.length - i) = 2 * D.length - i by omega, show i + (2 * D.length - i) = 2 * D.length by omega, tokM_end (by rw [hl]; omega)]
          simp only [beyM]
          split <;> omega
    · rw [tokM_end (by rw [hl]; omega)]
      exact Nat.zero_le _

theorem bey_all (D : List Nat) (h0 : 0 < D.length) (f i : Nat) (h2 : i ≤ 2 * D.length) (hf : 2 * D.length - i ≤ f) : beyM D.length (tokM (D ++ D) f i) i ≤ D.length / 258 + 3 := by
  have hl : (D ++ D).length = 2 * D.length := by rw [List.length_append]; omega
  induction f generalizing i with
  | zero => exact Nat.zero_le _
  | succ f ih =>
    by_cases h1 : D.length ≤ i
    · have := bey_half D h0 (f + 1) i h1 h2 hf
      have : (2 * D.length - i) / 258 ≤ D.length / 258 := Nat.div_le_div_right (by omega)
      omega
    · obtain ⟨t, n, e, hmay, ht, g1, g2, _, _⟩ := tok_cases (data := D ++ D) (f := f) (i := i) (by rw [hl]; omega)
      rw [hl] at g2
      rw [e, beyM, ht]
      by_cases h3 : D.length < i + n
      · rw [if_pos h3]
        have := bey_half D h0 f (i + n) (by omega) g2 (by omega)
        have : (2 * D.length - (i + n)) / 258 ≤ D.length / 258 := Nat.div_le_div_right (by omega)
        omega
      · rw [if_neg h3]
        have := ih (i + n) g2 (by omega)
        omega

/-- What tokens say in all. -/
def allM (ts : List TK) : Nat := (ts.map tlen).sum

theorem allM_data (data : List Nat) (f i : Nat) (hi : i ≤ data.length) (hf : data.length - i ≤ f) : i + allM (tokM data f i) = data.length := by
  induction f generalizing i with
  | zero => rw [tokM_end (by omega)]; show i + 0 = _; omega
  | succ f ih =>
    by_cases h : i < data.length
    · obtain ⟨t, n, e, hmay, ht, g1, g2, _, _⟩ := tok_cases (f := f) h
      rw [e]
      have e1 : allM (t :: tokM data f (i + n)) = tlen t + allM (tokM data f (i + n)) := rfl
      rw [e1, ht]
      have := ih (i + n) g2 (by omega)
      omega
    · rw [tokM_end (by omega)]; show i + 0 = _; omega

theorem allM_snoc (ts : List TK) (i : Nat) (h : i < ts.length) : allM (ts.take (i + 1)) = allM (ts.take i) + tlen ts[i] := by
  unfold allM
  rw [List.take_succ_eq_append_getElem h, List.map_append, List.sum_append]
  simp

theorem beyM_snoc (K : Nat) (ts : List TK) (t : TK) (s : Nat) : beyM K (ts ++ [t]) s = beyM K ts s + (if K < s + allM ts + tlen t then 1 else 0) := by
  induction ts generalizing s with
  | nil => simp [beyM, allM]
  | cons x r ih =>
    have e : allM (x :: r) = tlen x + allM r := rfl
    rw [List.cons_append, beyM, ih, beyM, e, show s + (tlen x + allM r) = s + tlen x + allM r by omega]
    omega

end Go.Proofs.Ytjebfekkaohimaa
