import Derived.Test.YtljlmfnbeofmmaaGreatDoorMath
namespace Go.Proofs.YtljlmfnbeofmmaaGreatDoor

def leOf (v : Nat) : Nat → List Nat
 | 0 => []
 | n + 1 => leOf v n ++ [v / 256 ^ n % 256]

theorem leOf_length (v n : Nat) : (leOf v n).length = n := by
 induction n with
 | zero => rfl
 | succ n ih => simp [leOf, ih]

theorem leOf_n256 (v n : Nat) : n256 (leOf v n) = v % 256 ^ n := by
 induction n with
 | zero => simp [leOf, n256, Nat.mod_one]
 | succ n ih =>
  rw [leOf, n256_append, ih, leOf_length, Nat.pow_succ, Nat.mod_mul]
  simp [n256]

def bytN (cs : List Nat) (a n : Nat) : Nat := n256 ((cs.drop a).take n)

theorem bytN_lt (cs : List Nat) (hb : ∀ b ∈ cs, b < 256) (a n : Nat) : bytN cs a n < 256 ^ n := by
 have h := n256_lt ((cs.drop a).take n) (fun b h => hb b (List.mem_of_mem_drop (List.mem_of_mem_take h)))
 exact Nat.lt_of_lt_of_le h (Nat.pow_le_pow_right (by omega) (List.length_take_le _ _))

def push (r : Nat) : Nat := (r / 2) ^^^ (r % 2 * 3988292384)

def pushN : Nat → Nat → Nat
 | 0, r => r
 | n + 1, r => push (pushN n r)

def push8 (r : Nat) : Nat := pushN 8 r

def reg (r : Nat) (bs : List Nat) : Nat := bs.foldl (fun r b => push8 (r ^^^ b)) r

def not32 (x : Nat) : Nat := 4294967295 - x

def more (sum : Nat) (bs : List Nat) : Nat := not32 (reg (not32 sum) bs)

theorem not32_lt (x : Nat) : not32 x < 4294967296 := by unfold not32; omega
theorem xor_lt32 {a b : Nat} (ha : a < 4294967296) (hb : b < 4294967296) : a ^^^ b < 4294967296 := by
 have e : (4294967296 : Nat) = 2 ^ 32 := by decide
 rw [e] at *
 exact Nat.xor_lt_two_pow ha hb

theorem push_lt {r : Nat} (h : r < 4294967296) : push r < 4294967296 := by
 unfold push
 refine xor_lt32 (by omega) ?_
 have h2 : r % 2 ≤ 1 := by omega
 have h3 : r % 2 * 3988292384 ≤ 1 * 3988292384 := Nat.mul_le_mul_right _ h2
 omega

theorem pushN_lt {r : Nat} (h : r < 4294967296) (n : Nat) : pushN n r < 4294967296 := by
 induction n with
 | zero => exact h
 | succ n ih => exact push_lt ih

theorem reg_lt {r : Nat} (h : r < 4294967296) (bs : List Nat) (hb : ∀ b ∈ bs, b < 256) : reg r bs < 4294967296 := by
 induction bs generalizing r with
 | nil => exact h
 | cons b s ih =>
  have h1 := hb b (by simp)
  exact ih (pushN_lt (xor_lt32 h (by omega)) 8) (fun x hx => hb x (by simp [hx]))

theorem reg_snoc (r : Nat) (bs : List Nat) (b : Nat) : reg r (bs ++ [b]) = push8 (reg r bs ^^^ b) := by simp [reg]
theorem more_lt (s : Nat) (a : List Nat) : more s a < 4294967296 := not32_lt _

end Go.Proofs.YtljlmfnbeofmmaaGreatDoor
