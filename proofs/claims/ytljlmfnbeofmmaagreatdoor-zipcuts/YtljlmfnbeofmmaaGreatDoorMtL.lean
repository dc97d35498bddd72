import Derived.Test.YtljlmfnbeofmmaaGreatDoorMtM
namespace Go.Proofs.YtljlmfnbeofmmaaGreatDoor

theorem take_more (data : List Nat) (i : Nat) (h : i < data.length) : data.take (i + 1) = data.take i ++ [data.getD i 0] := by
 rw [List.take_succ_eq_append_getElem h]; simp [List.getD, h]

theorem cpT_data {data : List Nat} {i d : Nat} (hd : 1 ≤ d) (hd2 : d ≤ i) (n : Nat) (hn : i + n ≤ data.length) (h : ∀ j, j < n → data.getD (i + j) 0 = data.getD (i + j - d) 0) : cpT d n (data.take i) = data.take (i + n) := by
 induction n with
 | zero => rfl
 | succ n ih =>
  have hl : (data.take (i + n)).length = i + n := by rw [List.length_take]; omega
  rw [cpT_more, ih (by omega) (fun j hj => h j (by omega)), hl, ← Nat.add_assoc, take_more data (i + n) (by omega), h n (by omega)]
  have : (data.take (i + n)).getD (i + n - d) 0 = data.getD (i + n - d) 0 := by
   simp only [List.getD]
   rw [List.getElem?_take_of_lt (by omega)]
  rw [this]

theorem tok_cases {data : List Nat} {f i : Nat} (h : i < data.length) : ∃ (t : TK) (n : Nat), tokM data (f + 1) i = t :: tokM data f (i + n) ∧ mayT t i = true ∧ tlen t = n ∧ 1 ≤ n ∧ i + n ≤ data.length ∧ sayT (data.take i) t = data.take (i + n) ∧ (t.len = 0 → t.lit = data.getD i 0 ∧ n = 1) := by
 rcases matM_cases data i with h0 | ⟨n, d, h0, h1, h2, h3, h4, h5, h6⟩
 ·refine ⟨⟨data.getD i 0, 0, 0⟩, 1, tokM_lit h (.inl (by rw [h0])), rfl, rfl, by omega, by omega, ?_, fun _ => ⟨rfl, rfl⟩⟩
  unfold sayT
  rw [if_pos rfl, take_more data i h]
 ·by_cases hm : (matM data i).1 = 0 ∨ (matM data i).1 < (matM data (i + 1)).1
  ·refine ⟨⟨data.getD i 0, 0, 0⟩, 1, tokM_lit h hm, rfl, rfl, by omega, by omega, ?_, fun _ => ⟨rfl, rfl⟩⟩
   unfold sayT
   rw [if_pos rfl, take_more data i h]
  ·refine ⟨⟨0, (n : Int), (d : Int)⟩, n, by rw [tokM_copy h hm, h0], ?_, ?_, by omega, h5, ?_, fun e => ?_⟩
   ·unfold mayT
    rw [if_neg (by simp; omega)]
    simp
    omega
   ·unfold tlen; simp only; omega
   ·unfold sayT
    rw [if_neg (by simp; omega)]
    exact cpT_data h3 h4 n h5 h6
   ·simp at e; omega

theorem expT_data {data : List Nat} {f i : Nat} (hf : data.length - i ≤ f) (hi : i ≤ data.length) : expT (tokM data f i) (data.take i) = data := by
 induction f generalizing i with
 | zero => rw [tokM_end (by omega), show i = data.length by omega, List.take_length]; rfl
 | succ f ih =>
  by_cases h : i < data.length
  ·obtain ⟨t, n, e, _, _, h1, h2, h3, _⟩ := tok_cases (f := f) h
   rw [e]
   show expT (tokM data f (i + n)) (sayT (data.take i) t) = data
   rw [h3]
   exact ih (by omega) h2
  ·rw [tokM_end (by omega), show i = data.length by omega, List.take_length]; rfl

theorem measT_data {data : List Nat} {f i most : Nat} (hf : data.length - i ≤ f) (hi : i ≤ data.length) (hm : data.length ≤ most) : measT most (tokM data f i) i = .ok data.length := by
 induction f generalizing i with
 | zero => rw [tokM_end (by omega), show i = data.length by omega]; rfl
 | succ f ih =>
  by_cases h : i < data.length
  ·obtain ⟨t, n, e, hmay, ht, h1, h2, _, _⟩ := tok_cases (f := f) h
   rw [e, measT, if_neg (by rw [hmay]; decide), ht, if_neg (by omega)]
   exact ih (by omega) h2
  ·rw [tokM_end (by omega), show i = data.length by omega]; rfl

end Go.Proofs.YtljlmfnbeofmmaaGreatDoor
