/-
  Rows of bits, as the reference has them: plain arithmetic.
-/
import Derived.Test.YtaefgnakdadgeaaMath
namespace Go.Proofs.Ytaefgnakdadgeaa

/-- The n lowest bits of v, the lowest first. -/
def bitsOf (v : Nat) : Nat → List Nat
  | 0 => []
  | n + 1 => bitsOf v n ++ [v / 2 ^ n % 2]

theorem bitsOf_length (v n : Nat) : (bitsOf v n).length = n := by
  induction n with
  | zero => rfl
  | succ n ih => simp [bitsOf, ih]

theorem bitsOf_lt (v n : Nat) : ∀ b ∈ bitsOf v n, b < 2 := by
  induction n with
  | zero => simp [bitsOf]
  | succ n ih =>
    intro b hb
    rcases List.mem_append.1 hb with h | h
    · exact ih b h
    · simp at h; omega

theorem bitsOf_n2 (v n : Nat) : n2 (bitsOf v n) = v % 2 ^ n := by
  induction n with
  | zero => simp [bitsOf, n2, Nat.mod_one]
  | succ n ih =>
    rw [more_bits v n 1, bitsOf, n2_append, ih, bitsOf_length]
    simp [n2]

theorem n2_zeros (n : Nat) : n2 (List.replicate n 0) = 0 := by
  induction n with
  | zero => rfl
  | succ n ih => simp [List.replicate_succ, n2, ih]

theorem n2_put (ls : List Nat) (v n : Nat) (h : v < 2 ^ n) : n2 (ls ++ bitsOf v n) = n2 ls + v * 2 ^ ls.length := by
  rw [n2_append, bitsOf_n2, Nat.mod_eq_of_lt h, Nat.mul_comm]

theorem n2_align (ls : List Nat) (n : Nat) : n2 (ls ++ List.replicate n 0) = n2 ls := by
  rw [n2_append, n2_zeros]; simp

theorem n2_take_succ (l : List Nat) (t : Nat) (h : t < l.length) : n2 (l.take (t + 1)) = n2 (l.take t) + l[t] * 2 ^ t := by
  rw [List.take_succ_eq_append_getElem h, n2_append]
  simp [n2, Nat.mul_comm, Nat.min_eq_left (Nat.le_of_lt h)]

/-- The first j bytes of bits. -/
def outOf (ls : List Nat) : Nat → List Nat
  | 0 => []
  | j + 1 => outOf ls j ++ [n2 ((ls.drop (8 * j)).take 8)]

theorem outOf_length (ls : List Nat) (j : Nat) : (outOf ls j).length = j := by
  induction j with
  | zero => rfl
  | succ j ih => simp [outOf, ih]

theorem n2_take_lt (ls : List Nat) (h : ∀ b ∈ ls, b < 2) (i t : Nat) : n2 ((ls.drop i).take t) < 2 ^ t := by
  have h1 := n2_lt ((ls.drop i).take t) (fun b hb => h b (List.mem_of_mem_drop (List.mem_of_mem_take hb)))
  exact Nat.lt_of_lt_of_le h1 (Nat.pow_le_pow_right (by omega) (List.length_take_le _ _))

theorem outOf_lt (ls : List Nat) (h : ∀ b ∈ ls, b < 2) (j : Nat) : ∀ b ∈ outOf ls j, b < 256 := by
  induction j with
  | zero => simp [outOf]
  | succ j ih =>
    intro b hb
    rcases List.mem_append.1 hb with h' | h'
    · exact ih b h'
    · simp at h'; subst h'; exact n2_take_lt ls h _ 8

theorem outOf_n256 (ls : List Nat) (j : Nat) (hj : 8 * j ≤ ls.length + 7) : n256 (outOf ls j) = n2 (ls.take (8 * j)) := by
  induction j with
  | zero => simp [outOf, n256, n2]
  | succ j ih =>
    have e : ls.take (8 * (j + 1)) = ls.take (8 * j) ++ (ls.drop (8 * j)).take 8 := by
      rw [Nat.mul_succ, List.take_add]
    rw [e, n2_append, outOf, n256_append, ih (by omega), outOf_length, List.length_take, Nat.min_eq_left (by omega), pow8]
    simp [n256]

/-- All bytes. -/
theorem outOf_all (ls : List Nat) (j : Nat) (h1 : ls.length ≤ 8 * j) (h2 : 8 * j ≤ ls.length + 7) : n256 (outOf ls j) = n2 ls := by
  rw [outOf_n256 ls j h2, List.take_of_length_le h1]

/-- The bits of bytes: of each byte, from the first on, its eight bits. -/
def ofBytes : List Nat → List Nat
  | [] => []
  | b :: r => bitsOf b 8 ++ ofBytes r

theorem ofBytes_append (a b : List Nat) : ofBytes (a ++ b) = ofBytes a ++ ofBytes b := by
  induction a with
  | nil => rfl
  | cons x r ih => simp [ofBytes, ih]

theorem ofBytes_length (l : List Nat) : (ofBytes l).length = 8 * l.length := by
  induction l with
  | nil => rfl
  | cons x r ih => simp [ofBytes, ih, bitsOf_length]; omega

theorem ofBytes_lt (l : List Nat) : ∀ b ∈ ofBytes l, b < 2 := by
  induction l with
  | nil => simp [ofBytes]
  | cons x r ih =>
    intro b hb
    rcases List.mem_append.1 hb with h | h
    · exact bitsOf_lt x 8 b h
    · exact ih b h

theorem ofBytes_n2 (l : List Nat) (h : ∀ b ∈ l, b < 256) : n2 (ofBytes l) = n256 l := by
  induction l with
  | nil => rfl
  | cons x r ih =>
    have h1 := h x (by simp)
    rw [ofBytes, n2_append, bitsOf_n2, bitsOf_length, ih (fun b hb => h b (by simp [hb])), n256, show (2 : Nat) ^ 8 = 256 from rfl, Nat.mod_eq_of_lt h1]

/-- Some bits of a row, as a number. -/
theorem n2_part (ls : List Nat) (h : ∀ b ∈ ls, b < 2) (a n : Nat) (hl : a + n ≤ ls.length) : n2 ((ls.drop a).take n) = n2 ls / 2 ^ a % 2 ^ n := by
  have e1 : n2 ls = n2 (ls.take a) + 2 ^ a * n2 (ls.drop a) := by
    have := n2_append (ls.take a) (ls.drop a)
    rw [List.take_append_drop, List.length_take, Nat.min_eq_left (by omega)] at this
    exact this
  have h1 : n2 (ls.take a) < 2 ^ a := by
    have := n2_lt (ls.take a) (fun b hb => h b (List.mem_of_mem_take hb))
    rw [List.length_take, Nat.min_eq_left (by omega)] at this
    exact this
  have e2 : n2 (ls.drop a) = n2 ((ls.drop a).take n) + 2 ^ n * n2 ((ls.drop a).drop n) := by
    have := n2_append ((ls.drop a).take n) ((ls.drop a).drop n)
    rw [List.take_append_drop, List.length_take, List.length_drop, Nat.min_eq_left (by omega)] at this
    exact this
  have h2 := n2_take_lt ls h a n
  rw [e1, Nat.add_mul_div_left _ _ (Nat.two_pow_pos _), Nat.div_eq_of_lt h1, Nat.zero_add, e2, Nat.add_mul_mod_self_left, Nat.mod_eq_of_lt (show n2 (List.take n (List.drop a ls)) < 2 ^ n from h2)]

end Go.Proofs.Ytaefgnakdadgeaa
