import Derived.Test.YtljlmfnbeofmmaaGreatDoorMath
namespace Go.Proofs.YtljlmfnbeofmmaaGreatDoor

def bitsOf (v : Nat) : Nat → List Nat
 | 0 => []
 | n + 1 => bitsOf v n ++ [v / 2 ^ n % 2]

theorem bitsOf_length (v n : Nat) : (bitsOf v n).length = n := by
 induction n with
 | zero => rfl
 | succ n ih => simp [bitsOf, ih]

theorem bitsOf_lt (v n : Nat) : ∀ b ∈ bitsOf v n, b < 2 := by
 induction n with
 | zero => simp [bitsOf]
 | succ n ih =>
  intro b hb
  rcases List.mem_append.1 hb with h | h
  ·exact ih b h
  ·simp at h; omega

theorem bitsOf_n2 (v n : Nat) : n2 (bitsOf v n) = v % 2 ^ n := by
 induction n with
 | zero => simp [bitsOf, n2, Nat.mod_one]
 | succ n ih =>
  rw [more_bits v n 1, bitsOf, n2_append, ih, bitsOf_length]
  simp [n2]

theorem n2_zeros (n : Nat) : n2 (List.replicate n 0) = 0 := by
 induction n with
 | zero => rfl
 | succ n ih => simp [List.replicate_succ, n2, ih]

theorem n2_put (ls : List Nat) (v n : Nat) (h : v < 2 ^ n) : n2 (ls ++ bitsOf v n) = n2 ls + v * 2 ^ ls.length := by
 rw [n2_append, bitsOf_n2, Nat.mod_eq_of_lt h, Nat.mul_comm]

theorem n2_align (ls : List Nat) (n : Nat) : n2 (ls ++ List.replicate n 0) = n2 ls := by
 rw [n2_append, n2_zeros]; simp

def ofBytes : List Nat → List Nat
 | [] => []
 | b :: r => bitsOf b 8 ++ ofBytes r

theorem ofBytes_length (l : List Nat) : (ofBytes l).length = 8 * l.length := by
 induction l with
 | nil => rfl
 | cons x r ih => simp [ofBytes, ih, bitsOf_length]; omega

theorem ofBytes_lt (l : List Nat) : ∀ b ∈ ofBytes l, b < 2 := by
 induction l with
 | nil => simp [ofBytes]
 | cons x r ih =>
  intro b hb
  rcases List.mem_append.1 hb with h | h
  ·exact bitsOf_lt x 8 b h
  ·exact ih b h

theorem ofBytes_n2 (l : List Nat) (h : ∀ b ∈ l, b < 256) : n2 (ofBytes l) = n256 l := by
 induction l with
 | nil => rfl
 | cons x r ih =>
  have h1 := h x (by simp)
  rw [ofBytes, n2_append, bitsOf_n2, bitsOf_length, ih (fun b hb => h b (by simp [hb])), n256, show (2 : Nat) ^ 8 = 256 from rfl, Nat.mod_eq_of_lt h1]

end Go.Proofs.YtljlmfnbeofmmaaGreatDoor
