/-
  Plain arithmetic on numbers in bytes and on the check (CRC-32): nothing of the program.
-/
import Derived.Test.YtaefgnakdadgeaaMath
namespace Go.Proofs.Ytaefgnakdadgeaa

/-- The n lowest bytes of v, the lowest first. -/
def leOf (v : Nat) : Nat → List Nat
  | 0 => []
  | n + 1 => leOf v n ++ [v / 256 ^ n % 256]

theorem leOf_length (v n : Nat) : (leOf v n).length = n := by
  induction n with
  | zero => rfl
  | succ n ih => simp [leOf, ih]

theorem leOf_lt (v n : Nat) : ∀ b ∈ leOf v n, b < 256 := by
  induction n with
  | zero => simp [leOf]
  | succ n ih =>
    intro b hb
    rcases List.mem_append.1 hb with h | h
    · exact ih b h
    · simp at h; omega

theorem leOf_n256 (v n : Nat) : n256 (leOf v n) = v % 256 ^ n := by
  induction n with
  | zero => simp [leOf, n256, Nat.mod_one]
  | succ n ih =>
    rw [leOf, n256_append, ih, leOf_length, Nat.pow_succ, Nat.mod_mul]
    simp [n256]

/-- The number that stands at a place. -/
def bytN (cs : List Nat) (a n : Nat) : Nat := n256 ((cs.drop a).take n)

theorem bytN_lt (cs : List Nat) (hb : ∀ b ∈ cs, b < 256) (a n : Nat) : bytN cs a n < 256 ^ n := by
  have h := n256_lt ((cs.drop a).take n) (fun b h => hb b (List.mem_of_mem_drop (List.mem_of_mem_take h)))
  exact Nat.lt_of_lt_of_le h (Nat.pow_le_pow_right (by omega) (List.length_take_le _ _))

/-- The register goes one bit to the right. -/
def push (r : Nat) : Nat := (r / 2) ^^^ (r % 2 * 3988292384)

def pushN : Nat → Nat → Nat
  | 0, r => r
  | n + 1, r => push (pushN n r)

def push8 (r : Nat) : Nat := pushN 8 r

/-- The register behind bytes. -/
def reg (r : Nat) (bs : List Nat) : Nat := bs.foldl (fun r b => push8 (r ^^^ b)) r

/-- The complement. -/
def not32 (x : Nat) : Nat := 4294967295 - x

/-- The check that goes on. -/
def more (sum : Nat) (bs : List Nat) : Nat := not32 (reg (not32 sum) bs)

theorem not32_not32 (x : Nat) (h : x < 4294967296) : not32 (not32 x) = x := by unfold not32; omega
theorem not32_lt (x : Nat) : not32 x < 4294967296 := by unfold not32; omega
theorem not32_inj {x y : Nat} (hx : x < 4294967296) (hy : y < 4294967296) (h : not32 x = not32 y) : x = y := by unfold not32 at h; omega

theorem xor_lt32 {a b : Nat} (ha : a < 4294967296) (hb : b < 4294967296) : a ^^^ b < 4294967296 := by
  have e : (4294967296 : Nat) = 2 ^ 32 := by decide
  rw [e] at *
  exact Nat.xor_lt_two_pow ha hb

theorem xor_zero_of {a b : Nat} (h : a ^^^ b = 0) : a = b := by
  have : a ^^^ b ^^^ b = b := by rw [h, Nat.zero_xor]
  rwa [Nat.xor_assoc, Nat.xor_self, Nat.xor_zero] at this

theorem push_lt {r : Nat} (h : r < 4294967296) : push r < 4294967296 := by
  unfold push
  refine xor_lt32 (by omega) ?_
  have h2 : r % 2 ≤ 1 := by omega
  have h3 : r % 2 * 3988292384 ≤ 1 * 3988292384 := Nat.mul_le_mul_right _ h2
  omega

theorem pushN_lt {r : Nat} (h : r < 4294967296) (n : Nat) : pushN n r < 4294967296 := by
  induction n with
  | zero => exact h
  | succ n ih => exact push_lt ih

theorem reg_lt {r : Nat} (h : r < 4294967296) (bs : List Nat) (hb : ∀ b ∈ bs, b < 256) : reg r bs < 4294967296 := by
  induction bs generalizing r with
  | nil => exact h
  | cons b s ih =>
    have h1 := hb b (by simp)
    exact ih (pushN_lt (xor_lt32 h (by omega)) 8) (fun x hx => hb x (by simp [hx]))

theorem reg_snoc (r : Nat) (bs : List Nat) (b : Nat) : reg r (bs ++ [b]) = push8 (reg r bs ^^^ b) := by simp [reg]
theorem reg_append (r : Nat) (a b : List Nat) : reg r (a ++ b) = reg (reg r a) b := by simp [reg]

theorem more_append (s : Nat) (a b : List Nat) (ha : ∀ x ∈ a, x < 256) : more s (a ++ b) = more (more s a) b := by
  unfold more
  rw [reg_append, not32_not32 _ (reg_lt (not32_lt _) a ha)]

theorem lmore_nil (s : Nat) (h : s < 4294967296) : more s [] = s := not32_not32 s h
theorem more_lt (s : Nat) (a : List Nat) : more s a < 4294967296 := not32_lt _

/-- Pushing is linear. -/
theorem push_xor (a b : Nat) : push (a ^^^ b) = push a ^^^ push b := by
  have h1 : (a ^^^ b) / 2 = (a / 2) ^^^ (b / 2) := by
    have := Nat.shiftRight_xor_distrib (a := a) (b := b) (i := 1)
    simpa [Nat.shiftRight_eq_div_pow] using this
  have h2 : (a ^^^ b) % 2 = (a % 2) ^^^ (b % 2) := by
    have := Nat.xor_mod_two_pow (a := a) (b := b) (n := 1)
    simpa using this
  have h3 : ((a % 2) ^^^ (b % 2)) * 3988292384 = (a % 2 * 3988292384) ^^^ (b % 2 * 3988292384) := by
    rcases Nat.mod_two_eq_zero_or_one a with e | e <;> rcases Nat.mod_two_eq_zero_or_one b with f | f <;> rw [e, f] <;> decide
  unfold push
  rw [h1, h2, h3]
  ac_rfl

theorem pushN_xor (n a b : Nat) : pushN n (a ^^^ b) = pushN n a ^^^ pushN n b := by
  induction n with
  | zero => rfl
  | succ n ih => simp only [pushN, ih, push_xor]

theorem push_zero {d : Nat} (hd : d < 4294967296) (h : push d = 0) : d = 0 := by
  unfold push at h
  have h' := xor_zero_of h
  rcases Nat.mod_two_eq_zero_or_one d with e | e <;> rw [e] at h' <;> omega

theorem pushN_zero {d : Nat} (hd : d < 4294967296) (n : Nat) (h : pushN n d = 0) : d = 0 := by
  induction n with
  | zero => exact h
  | succ n ih => exact ih (push_zero (pushN_lt hd n) h)

theorem push8_inj {a b : Nat} (ha : a < 4294967296) (hb : b < 4294967296) (h : push8 a = push8 b) : a = b := by
  refine xor_zero_of (pushN_zero (xor_lt32 ha hb) 8 ?_)
  rw [pushN_xor]
  show push8 a ^^^ push8 b = 0
  rw [h, Nat.xor_self]

theorem push_double (x : Nat) : push (2 * x) = x := by
  unfold push
  rw [Nat.mul_mod_right, Nat.zero_mul, Nat.xor_zero]
  omega

theorem pushN_pow (n x : Nat) : pushN n (2 ^ n * x) = x := by
  induction n generalizing x with
  | zero => simp [pushN]
  | succ n ih =>
    rw [pushN, Nat.pow_succ, Nat.mul_assoc, ih, push_double]

theorem push8_shift (z : Nat) : push8 (256 * z) = z := pushN_pow 8 z

/-- Of at most four bytes that leave the register at a small number all are nought. -/
theorem reg_small (ds : List Nat) (hd : ∀ b ∈ ds, b < 256) (n : Nat) (hn : ds.length + n = 4) (z : Nat) (hz : z < 256 ^ n) (h : reg 0 ds = z) : z = 0 ∧ ∀ b ∈ ds, b = 0 := by
  obtain ⟨m, hm⟩ : ∃ m, m = ds.length := ⟨_, rfl⟩
  induction m generalizing ds n z with
  | zero =>
    have e0 : ds = [] := List.eq_nil_of_length_eq_zero hm.symm
    subst e0
    exact ⟨by simpa [reg] using h.symm, by simp⟩
  | succ m ih =>
    obtain ⟨es, e, rfl⟩ : ∃ es e, ds = es ++ [e] := by
      rcases List.eq_nil_or_concat ds with e0 | ⟨es, e, e0⟩
      · subst e0; simp at hm
      · exact ⟨es, e, by simpa using e0⟩
    have he : e < 256 := hd e (by simp)
    have hes : ∀ b ∈ es, b < 256 := fun b hb => hd b (by simp [hb])
    rw [reg_snoc] at h
    rw [List.length_append, List.length_singleton] at hn
    have hzz : 256 * z < 256 ^ (n + 1) := by rw [Nat.pow_succ]; omega
    have hle : (256 : Nat) ^ (n + 1) ≤ 256 ^ 4 := Nat.pow_le_pow_right (by omega) (by omega)
    have h32 : 256 * z < 4294967296 := by omega
    have h1 := push8_inj (xor_lt32 (reg_lt (by omega) es hes) (by omega)) h32 (h.trans (push8_shift z).symm)
    have h2 : reg 0 es = 256 * z + e := by
      have h3 : reg 0 es = (256 * z) ^^^ e := by rw [← h1, Nat.xor_assoc, Nat.xor_self, Nat.xor_zero]
      rw [h3]
      have h4 := Nat.two_pow_add_eq_or_of_lt (i := 8) he z
      have h5 : (256 * z) ^^^ e = (256 * z) ||| e := by
        apply Nat.eq_of_testBit_eq
        intro i
        have t1 : (256 * z).testBit i = (decide (8 ≤ i) && z.testBit (i - 8)) := by rw [show 256 * z = z * 2 ^ 8 by omega]; exact Nat.testBit_mul_two_pow z i 8
        rw [Nat.testBit_xor, Nat.testBit_or, t1]
        by_cases hi : 8 ≤ i
        · have : e.testBit i = false := Nat.testBit_lt_two_pow (Nat.lt_of_lt_of_le he (Nat.pow_le_pow_right (n := 2) (by omega) hi))
          simp [this]
        · simp [hi]
      rw [h5]
      exact h4.symm
    have h6 : 256 * z + e < 256 ^ (n + 1) := by rw [Nat.pow_succ]; omega
    obtain ⟨h7, h8⟩ := ih es hes (n + 1) (by omega) _ h6 h2 (by simpa using hm)
    refine ⟨by omega, ?_⟩
    intro b hb
    rcases List.mem_append.1 hb with hb | hb
    · exact h8 b hb
    · simp at hb; omega

/-- Two rows, laid over one another. -/
theorem reg_xor (a c : Nat) (xs ys : List Nat) (hl : xs.length = ys.length) : reg a xs ^^^ reg c ys = reg (a ^^^ c) (List.zipWith (· ^^^ ·) xs ys) := by
  induction xs generalizing a c ys with
  | nil => cases ys with
    | nil => rfl
    | cons => simp at hl
  | cons x r ih => cases ys with
    | nil => simp at hl
    | cons y s =>
      simp only [List.length_cons, Nat.add_right_cancel_iff] at hl
      have e := ih (push8 (a ^^^ x)) (push8 (c ^^^ y)) s hl
      have e2 : push8 (a ^^^ x) ^^^ push8 (c ^^^ y) = push8 (a ^^^ c ^^^ (x ^^^ y)) := by
        unfold push8
        rw [← pushN_xor]
        congr 1
        ac_rfl
      show reg (push8 (a ^^^ x)) r ^^^ reg (push8 (c ^^^ y)) s = reg (push8 (a ^^^ c ^^^ (x ^^^ y))) (List.zipWith (· ^^^ ·) r s)
      rw [e, e2]

theorem push8_zero : push8 0 = 0 := by decide

theorem reg_zeros (n : Nat) : reg 0 (List.replicate n 0) = 0 := by
  induction n with
  | zero => rfl
  | succ n ih =>
    rw [List.replicate_succ]
    show reg (push8 (0 ^^^ 0)) _ = 0
    rw [Nat.xor_self, push8_zero]; exact ih

theorem reg_zeros_inj (n d : Nat) (hd : d < 4294967296) (h : reg d (List.replicate n 0) = 0) : d = 0 := by
  induction n generalizing d with
  | zero => exact h
  | succ n ih =>
    rw [List.replicate_succ] at h
    have h' : reg (push8 (d ^^^ 0)) (List.replicate n 0) = 0 := h
    rw [Nat.xor_zero] at h'
    exact pushN_zero hd 8 (ih _ (pushN_lt hd 8) h')

/-- A change of at most four neighbouring bytes is seen. -/
theorem reg_tells (r : Nat) (xs ys : List Nat) (hl : xs.length = ys.length) (a n : Nat) (ds : List Nat) (hd : ∀ b ∈ ds, b < 256) (h4 : ds.length ≤ 4)
    (hz : List.zipWith (· ^^^ ·) xs ys = List.replicate a 0 ++ ds ++ List.replicate n 0) (h : reg r xs = reg r ys) : ∀ b ∈ ds, b = 0 := by
  have e := reg_xor r r xs ys hl
  rw [h, Nat.xor_self, Nat.xor_self, hz, reg_append, reg_append, reg_zeros] at e
  have h0 := reg_zeros_inj n _ (reg_lt (by omega) ds hd) e.symm
  exact (reg_small ds hd (4 - ds.length) (by omega) 0 (Nat.pow_pos (by omega)) h0).2

end Go.Proofs.Ytaefgnakdadgeaa
