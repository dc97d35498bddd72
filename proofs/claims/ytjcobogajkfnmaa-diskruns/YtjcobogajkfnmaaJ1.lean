/-
  Of the proof: parts Math, Crc, Bits.
-/


/-
  Plain arithmetic on bits and bytes: nothing of the program.
-/
namespace Go.Proofs.Ytjcobogajkfnmaa

/-- The number of bytes, the lowest first. -/
def n256 : List Nat → Nat
  | [] => 0
  | b :: r => b + 256 * n256 r

/-- The number of bits, the lowest first. -/
def n2 : List Nat → Nat
  | [] => 0
  | b :: r => b + 2 * n2 r

theorem n256_append (a b : List Nat) : n256 (a ++ b) = n256 a + 256 ^ a.length * n256 b := by
  induction a with
  | nil => simp [n256]
  | cons x r ih => 
    simp only [List.cons_append, n256, ih, List.length_cons, Nat.pow_succ, Nat.mul_add, Nat.add_assoc]
    rw [Nat.mul_comm (256 ^ r.length) 256, Nat.mul_assoc]

theorem n2_append (a b : List Nat) : n2 (a ++ b) = n2 a + 2 ^ a.length * n2 b := by
  induction a with
  | nil => simp [n2]
  | cons x r ih => 
    simp only [List.cons_append, n2, ih, List.length_cons, Nat.pow_succ, Nat.mul_add, Nat.add_assoc]
    rw [Nat.mul_comm (2 ^ r.length) 2, Nat.mul_assoc]

theorem n256_lt (l : List Nat) (h : ∀ b ∈ l, b < 256) : n256 l < 256 ^ l.length := by
  induction l with
  | nil => simp [n256]
  | cons x r ih =>
    have h1 := h x (by simp)
    have h2 := ih (fun b hb => h b (by simp [hb]))
    simp only [n256, List.length_cons, Nat.pow_succ]
    omega

theorem n2_lt (l : List Nat) (h : ∀ b ∈ l, b < 2) : n2 l < 2 ^ l.length := by
  induction l with
  | nil => simp [n2]
  | cons x r ih =>
    have h1 := h x (by simp)
    have h2 := ih (fun b hb => h b (by simp [hb]))
    simp only [n2, List.length_cons, Nat.pow_succ]
    omega

theorem n256_inj (a b : List Nat) (hl : a.length = b.length) (ha : ∀ x ∈ a, x < 256) (hb : ∀ x ∈ b, x < 256) (h : n256 a = n256 b) : a = b := by
  induction a generalizing b with
  | nil => cases b with
    | nil => rfl
    | cons => simp at hl
  | cons x r ih => cases b with
    | nil => simp at hl
    | cons y s =>
      have h1 := ha x (by simp)
      have h2 := hb y (by simp)
      simp only [n256] at h
      simp only [List.length_cons, Nat.add_right_cancel_iff] at hl
      have e := ih s hl (fun b hb' => ha b (by simp [hb'])) (fun b hb' => hb b (by simp [hb'])) (by omega)
      rw [e]
      congr 1
      omega

theorem pow8 (k : Nat) : 256 ^ k = 2 ^ (8 * k) := by rw [Nat.pow_mul]

theorem n256_get (l : List Nat) (h : ∀ b ∈ l, b < 256) (i : Nat) (hi : i < l.length) : n256 l / 2 ^ (8 * i) % 256 = l[i] := by
  rw [← pow8]
  induction l generalizing i with
  | nil => simp at hi
  | cons x r ih =>
    have h1 := h x (by simp)
    cases i with
    | zero => simp [n256]; omega
    | succ k =>
      have := ih (fun b hb => h b (by simp [hb])) k (by simpa using hi)
      simp only [n256, Nat.pow_succ, List.getElem_cons_succ]
      rw [Nat.mul_comm (256 ^ k) 256, ← Nat.div_div_eq_div_mul, show (x + 256 * n256 r) / 256 = n256 r by omega]
      exact this

/-- The last byte has no bit beyond what was laid. -/
theorem last_lt (bs : List Nat) (b c free : Nat) (hc : 8 * (bs.length + 1) = c + free) (hf : free ≤ 8) (h : n256 (bs ++ [b]) < 2 ^ c) : b < 2 ^ (8 - free) := by
  rw [n256_append] at h
  simp only [n256, Nat.mul_zero, Nat.add_zero] at h
  have e : c = 8 * bs.length + (8 - free) := by omega
  rw [e, Nat.pow_add, ← pow8] at h
  have : 256 ^ bs.length * b < 256 ^ bs.length * 2 ^ (8 - free) := by omega
  exact Nat.lt_of_mul_lt_mul_left this

/-- What the last byte takes up. -/
theorem last_set (bs : List Nat) (b c free x : Nat) (hc : 8 * (bs.length + 1) = c + free) (hf : free ≤ 8) : n256 (bs ++ [b + 2 ^ (8 - free) * x]) = n256 (bs ++ [b]) + 2 ^ c * x := by
  have e : c = 8 * bs.length + (8 - free) := by omega
  simp only [n256_append, n256, Nat.mul_zero, Nat.add_zero]
  rw [e, Nat.pow_add, ← pow8, Nat.mul_add, Nat.mul_assoc, Nat.add_assoc]

theorem or_add (b k x : Nat) (h : b < 2 ^ k) : b ||| (2 ^ k * x) = b + 2 ^ k * x := by
  rw [Nat.or_comm, ← Nat.two_pow_add_eq_or_of_lt h, Nat.add_comm]

/-- A number that is shifted into a byte: what falls off its upper end. -/
theorem shl_byte (v free : Nat) (hf : free ≤ 8) : v * 2 ^ (8 - free) % 256 = 2 ^ (8 - free) * (v % 2 ^ free) := by
  have : (256 : Nat) = 2 ^ (8 - free) * 2 ^ free := by rw [← Nat.pow_add]; simp [hf]
  rw [this, Nat.mul_comm, Nat.mul_mod_mul_left]

theorem pow_split (v k : Nat) : v % 2 ^ k + 2 ^ k * (v / 2 ^ k) = v := by rw [Nat.mod_add_div]

/-- One round of laying: as many bits as the byte has room for. -/
theorem lay_step (X v n c free : Nat) (hv : v < 2 ^ n) :
    X + 2 ^ c * (v % 2 ^ free) + v / 2 ^ (min free n) * 2 ^ (c + min free n) = X + v * 2 ^ c := by
  by_cases h : free ≤ n
  · rw [Nat.min_eq_left h, Nat.pow_add]
    have e := pow_split v free
    calc X + 2 ^ c * (v % 2 ^ free) + v / 2 ^ free * (2 ^ c * 2 ^ free) = X + 2 ^ c * (v % 2 ^ free + 2 ^ free * (v / 2 ^ free)) := by
          rw [Nat.mul_add, Nat.add_assoc]; congr 2; rw [Nat.mul_comm, Nat.mul_assoc]
      _ = _ := by rw [e, Nat.mul_comm]
  · have h' : n ≤ free := by omega
    have h2 : v < 2 ^ free := Nat.lt_of_lt_of_le hv (Nat.pow_le_pow_right (by omega) h')
    rw [Nat.min_eq_right h', Nat.div_eq_of_lt hv, Nat.mod_eq_of_lt h2, Nat.zero_mul, Nat.add_zero, Nat.mul_comm]

/-- Of a byte some bits: they are the whole number's. -/
theorem byte_part (Z u k : Nat) (h : u + k ≤ 8) : Z % 256 / 2 ^ u % 2 ^ k = Z / 2 ^ u % 2 ^ k := by
  have e : (256 : Nat) = 2 ^ u * 2 ^ (8 - u) := by rw [← Nat.pow_add, show u + (8 - u) = 8 by omega]
  rw [e, Nat.mod_mul_right_div_self, Nat.mod_mod_of_dvd _ (Nat.pow_dvd_pow 2 (by omega))]

/-- More bits of a number. -/
theorem more_bits (Y a k : Nat) : Y % 2 ^ (a + k) = Y % 2 ^ a + 2 ^ a * (Y / 2 ^ a % 2 ^ k) := by
  rw [Nat.pow_add, Nat.mod_mul]

/-- One round of cutting: a part of the byte at which the reader stands. -/
theorem cut_step (bs : List Nat) (hb : ∀ b ∈ bs, b < 256) (g got k : Nat) (hk : (g + got) % 8 + k ≤ 8) (hlt : (g + got) / 8 < bs.length) :
    n256 bs / 2 ^ g % 2 ^ got + 2 ^ got * (bs[(g + got) / 8] / 2 ^ ((g + got) % 8) % 2 ^ k) = n256 bs / 2 ^ g % 2 ^ (got + k) := by
  have e := n256_get bs hb _ hlt
  rw [← e, byte_part _ _ _ hk, Nat.div_div_eq_div_mul, ← Nat.pow_add, show 8 * ((g + got) / 8) + (g + got) % 8 = g + got by omega, more_bits, Nat.div_div_eq_div_mul, ← Nat.pow_add]

theorem and_mask (x k : Nat) : x &&& (2 ^ k - 1) = x % 2 ^ k := Nat.and_two_pow_sub_one_eq_mod x k

end Go.Proofs.Ytjcobogajkfnmaa

/-
  Plain arithmetic on numbers in bytes and on the check (CRC-32): nothing of the program.
-/
namespace Go.Proofs.Ytjcobogajkfnmaa

/-- The n lowest bytes of v, the lowest first. -/
def leOf (v : Nat) : Nat → List Nat
  | 0 => []
  | n + 1 => leOf v n ++ [v / 256 ^ n % 256]

theorem leOf_length (v n : Nat) : (leOf v n).length = n := by
  induction n with
  | zero => rfl
  | succ n ih => simp [leOf, ih]

theorem leOf_lt (v n : Nat) : ∀ b ∈ leOf v n, b < 256 := by
  induction n with
  | zero => simp [leOf]
  | succ n ih =>
    intro b hb
    rcases List.mem_append.1 hb with h | h
    · exact ih b h
    · simp at h; omega

theorem leOf_n256 (v n : Nat) : n256 (leOf v n) = v % 256 ^ n := by
  induction n with
  | zero => simp [leOf, n256, Nat.mod_one]
  | succ n ih =>
    rw [leOf, n256_append, ih, leOf_length, Nat.pow_succ, Nat.mod_mul]
    simp [n256]

/-- The number that stands at a place. -/
def bytN (cs : List Nat) (a n : Nat) : Nat := n256 ((cs.drop a).take n)

theorem bytN_lt (cs : List Nat) (hb : ∀ b ∈ cs, b < 256) (a n : Nat) : bytN cs a n < 256 ^ n := by
  have h := n256_lt ((cs.drop a).take n) (fun b h => hb b (List.mem_of_mem_drop (List.mem_of_mem_take h)))
  exact Nat.lt_of_lt_of_le h (Nat.pow_le_pow_right (by omega) (List.length_take_le _ _))

/-- The register goes one bit to the right. -/
def push (r : Nat) : Nat := (r / 2) ^^^ (r % 2 * 3988292384)

def pushN : Nat → Nat → Nat
  | 0, r => r
  | n + 1, r => push (pushN n r)

def push8 (r : Nat) : Nat := pushN 8 r

/-- The register behind bytes. -/
def reg (r : Nat) (bs : List Nat) : Nat := bs.foldl (fun r b => push8 (r ^^^ b)) r

/-- The complement. -/
def not32 (x : Nat) : Nat := 4294967295 - x

/-- The check that goes on. -/
def more (sum : Nat) (bs : List Nat) : Nat := not32 (reg (not32 sum) bs)

theorem not32_not32 (x : Nat) (h : x < 4294967296) : not32 (not32 x) = x := by unfold not32; omega
theorem not32_lt (x : Nat) : not32 x < 4294967296 := by unfold not32; omega
theorem not32_inj {x y : Nat} (hx : x < 4294967296) (hy : y < 4294967296) (h : not32 x = not32 y) : x = y := by unfold not32 at h; omega

theorem xor_lt32 {a b : Nat} (ha : a < 4294967296) (hb : b < 4294967296) : a ^^^ b < 4294967296 := by
  have e : (4294967296 : Nat) = 2 ^ 32 := by decide
  rw [e] at *
  exact Nat.xor_lt_two_pow ha hb

theorem xor_zero_of {a b : Nat} (h : a ^^^ b = 0) : a = b := by
  have : a ^^^ b ^^^ b = b := by rw [h, Nat.zero_xor]
  rwa [Nat.xor_assoc, Nat.xor_self, Nat.xor_zero] at this

theorem push_lt {r : Nat} (h : r < 4294967296) : push r < 4294967296 := by
  unfold push
  refine xor_lt32 (by omega) ?_
  have h2 : r % 2 ≤ 1 := by omega
  have h3 : r % 2 * 3988292384 ≤ 1 * 3988292384 := Nat.mul_le_mul_right _ h2
  omega

theorem pushN_lt {r : Nat} (h : r < 4294967296) (n : Nat) : pushN n r < 4294967296 := by
  induction n with
  | zero => exact h
  | succ n ih => exact push_lt ih

theorem reg_lt {r : Nat} (h : r < 4294967296) (bs : List Nat) (hb : ∀ b ∈ bs, b < 256) : reg r bs < 4294967296 := by
  induction bs generalizing r with
  | nil => exact h
  | cons b s ih =>
    have h1 := hb b (by simp)
    exact ih (pushN_lt (xor_lt32 h (by omega)) 8) (fun x hx => hb x (by simp [hx]))

theorem reg_snoc (r : Nat) (bs : List Nat) (b : Nat) : reg r (bs ++ [b]) = push8 (reg r bs ^^^ b) := by simp [reg]
theorem reg_append (r : Nat) (a b : List Nat) : reg r (a ++ b) = reg (reg r a) b := by simp [reg]

theorem more_append (s : Nat) (a b : List Nat) (ha : ∀ x ∈ a, x < 256) : more s (a ++ b) = more (more s a) b := by
  unfold more
  rw [reg_append, not32_not32 _ (reg_lt (not32_lt _) a ha)]

theorem lmore_nil (s : Nat) (h : s < 4294967296) : more s [] = s := not32_not32 s h
theorem more_lt (s : Nat) (a : List Nat) : more s a < 4294967296 := not32_lt _

/-- Pushing is linear. -/
theorem push_xor (a b : Nat) : push (a ^^^ b) = push a ^^^ push b := by
  have h1 : (a ^^^ b) / 2 = (a / 2) ^^^ (b / 2) := by
    have := Nat.shiftRight_xor_distrib (a := a) (b := b) (i := 1)
    simpa [Nat.shiftRight_eq_div_pow] using this
  have h2 : (a ^^^ b) % 2 = (a % 2) ^^^ (b % 2) := by
    have := Nat.xor_mod_two_pow (a := a) (b := b) (n := 1)
    simpa using this
  have h3 : ((a % 2) ^^^ (b % 2)) * 3988292384 = (a % 2 * 3988292384) ^^^ (b % 2 * 3988292384) := by
    rcases Nat.mod_two_eq_zero_or_one a with e | e <;> rcases Nat.mod_two_eq_zero_or_one b with f | f <;> rw [e, f] <;> decide
  unfold push
  rw [h1, h2, h3]
  ac_rfl

theorem pushN_xor (n a b : Nat) : pushN n (a ^^^ b) = pushN n a ^^^ pushN n b := by
  induction n with
  | zero => rfl
  | succ n ih => simp only [pushN, ih, push_xor]

theorem push_zero {d : Nat} (hd : d < 4294967296) (h : push d = 0) : d = 0 := by
  unfold push at h
  have h' := xor_zero_of h
  rcases Nat.mod_two_eq_zero_or_one d with e | e <;> rw [e] at h' <;> omega

theorem pushN_zero {d : Nat} (hd : d < 4294967296) (n : Nat) (h : pushN n d = 0) : d = 0 := by
  induction n with
  | zero => exact h
  | succ n ih => exact ih (push_zero (pushN_lt hd n) h)

theorem push8_inj {a b : Nat} (ha : a < 4294967296) (hb : b < 4294967296) (h : push8 a = push8 b) : a = b := by
  refine xor_zero_of (pushN_zero (xor_lt32 ha hb) 8 ?_)
  rw [pushN_xor]
  show push8 a ^^^ push8 b = 0
  rw [h, Nat.xor_self]

theorem push_double (x : Nat) : push (2 * x) = x := by
  unfold push
  rw [Nat.mul_mod_right, Nat.zero_mul, Nat.xor_zero]
  omega

theorem pushN_pow (n x : Nat) : pushN n (2 ^ n * x) = x := by
  induction n generalizing x with
  | zero => simp [pushN]
  | succ n ih =>
    rw [pushN, Nat.pow_succ, Nat.mul_assoc, ih, push_double]

theorem push8_shift (z : Nat) : push8 (256 * z) = z := pushN_pow 8 z

/-- Of at most four bytes that leave the register at a small number all are nought. -/
theorem reg_small (ds : List Nat) (hd : ∀ b ∈ ds, b < 256) (n : Nat) (hn : ds.length + n = 4) (z : Nat) (hz : z < 256 ^ n) (h : reg 0 ds = z) : z = 0 ∧ ∀ b ∈ ds, b = 0 := by
  obtain ⟨m, hm⟩ : ∃ m, m = ds.length := ⟨_, rfl⟩
  induction m generalizing ds n z with
  | zero =>
    have e0 : ds = [] := List.eq_nil_of_length_eq_zero hm.symm
    subst e0
    exact ⟨by simpa [reg] using h.symm, by simp⟩
  | succ m ih =>
    obtain ⟨es, e, rfl⟩ : ∃ es e, ds = es ++ [e] := by
      rcases List.eq_nil_or_concat ds with e0 | ⟨es, e, e0⟩
      · subst e0; simp at hm
      · exact ⟨es, e, by simpa using e0⟩
    have he : e < 256 := hd e (by simp)
    have hes : ∀ b ∈ es, b < 256 := fun b hb => hd b (by simp [hb])
    rw [reg_snoc] at h
    rw [List.length_append, List.length_singleton] at hn
    have hzz : 256 * z < 256 ^ (n + 1) := by rw [Nat.pow_succ]; omega
    have hle : (256 : Nat) ^ (n + 1) ≤ 256 ^ 4 := Nat.pow_le_pow_right (by omega) (by omega)
    have h32 : 256 * z < 4294967296 := by omega
    have h1 := push8_inj (xor_lt32 (reg_lt (by omega) es hes) (by omega)) h32 (h.trans (push8_shift z).symm)
    have h2 : reg 0 es = 256 * z + e := by
      have h3 : reg 0 es = (256 * z) ^^^ e := by rw [← h1, Nat.xor_assoc, Nat.xor_self, Nat.xor_zero]
      rw [h3]
      have h4 := Nat.two_pow_add_eq_or_of_lt (i := 8) he z
      have h5 : (256 * z) ^^^ e = (256 * z) ||| e := by
        apply Nat.eq_of_testBit_eq
        intro i
        have t1 : (256 * z).testBit i = (decide (8 ≤ i) && z.testBit (i - 8)) := by rw [show 256 * z = z * 2 ^ 8 by omega]; exact Nat.testBit_mul_two_pow z i 8
        rw [Nat.testBit_xor, Nat.testBit_or, t1]
        by_cases hi : 8 ≤ i
        · have : e.testBit i = false := Nat.testBit_lt_two_pow (Nat.lt_of_lt_of_le he (Nat.pow_le_pow_right (n := 2) (by omega) hi))
          simp [this]
        · simp [hi]
      rw [h5]
      exact h4.symm
    have h6 : 256 * z + e < 256 ^ (n + 1) := by rw [Nat.pow_succ]; omega
    obtain ⟨h7, h8⟩ := ih es hes (n + 1) (by omega) _ h6 h2 (by simpa using hm)
    refine ⟨by omega, ?_⟩
    intro b hb
    rcases List.mem_append.1 hb with hb | hb
    · exact h8 b hb
    · simp at hb; omega

/-- Two rows, laid over one another. -/
theorem reg_xor (a c : Nat) (xs ys : List Nat) (hl : xs.length = ys.length) : reg a xs ^^^ reg c ys = reg (a ^^^ c) (List.zipWith (· ^^^ ·) xs ys) := by
  induction xs generalizing a c ys with
  | nil => cases ys with
    | nil => rfl
    | cons => simp at hl
  | cons x r ih => cases ys with
    | nil => simp at hl
    | cons y s =>
      simp only [List.length_cons, Nat.add_right_cancel_iff] at hl
      have e := ih (push8 (a ^^^ x)) (push8 (c ^^^ y)) s hl
      have e2 : push8 (a ^^^ x) ^^^ push8 (c ^^^ y) = push8 (a ^^^ c ^^^ (x ^^^ y)) := by
        unfold push8
        rw [← pushN_xor]
        congr 1
        ac_rfl
      show reg (push8 (a ^^^ x)) r ^^^ reg (push8 (c ^^^ y)) s = reg (push8 (a ^^^ c ^^^ (x ^^^ y))) (List.zipWith (· ^^^ ·) r s)
      rw [e, e2]

theorem push8_zero : push8 0 = 0 := by decide

theorem reg_zeros (n : Nat) : reg 0 (List.replicate n 0) = 0 := by
  induction n with
  | zero => rfl
  | succ n ih =>
    rw [List.replicate_succ]
    show reg (push8 (0 ^^^ 0)) _ = 0
    rw [Nat.xor_self, push8_zero]; exact ih

theorem reg_zeros_inj (n d : Nat) (hd : d < 4294967296) (h : reg d (List.replicate n 0) = 0) : d = 0 := by
  induction n generalizing d with
  | zero => exact h
  | succ n ih =>
    rw [List.replicate_succ] at h
    have h' : reg (push8 (d ^^^ 0)) (List.replicate n 0) = 0 := h
    rw [Nat.xor_zero] at h'
    exact pushN_zero hd 8 (ih _ (pushN_lt hd 8) h')

/-- A change of at most four neighbouring bytes is seen. -/
theorem reg_tells (r : Nat) (xs ys : List Nat) (hl : xs.length = ys.length) (a n : Nat) (ds : List Nat) (hd : ∀ b ∈ ds, b < 256) (h4 : ds.length ≤ 4)
    (hz : List.zipWith (· ^^^ ·) xs ys = List.replicate a 0 ++ ds ++ List.replicate n 0) (h : reg r xs = reg r ys) : ∀ b ∈ ds, b = 0 := by
  have e := reg_xor r r xs ys hl
  rw [h, Nat.xor_self, Nat.xor_self, hz, reg_append, reg_append, reg_zeros] at e
  have h0 := reg_zeros_inj n _ (reg_lt (by omega) ds hd) e.symm
  exact (reg_small ds hd (4 - ds.length) (by omega) 0 (Nat.pow_pos (by omega)) h0).2

end Go.Proofs.Ytjcobogajkfnmaa

/-
  Rows of bits, as the reference has them: plain arithmetic.
-/
namespace Go.Proofs.Ytjcobogajkfnmaa

/-- The n lowest bits of v, the lowest first. -/
def bitsOf (v : Nat) : Nat → List Nat
  | 0 => []
  | n + 1 => bitsOf v n ++ [v / 2 ^ n % 2]

theorem bitsOf_length (v n : Nat) : (bitsOf v n).length = n := by
  induction n with
  | zero => rfl
  | succ n ih => simp [bitsOf, ih]

theorem bitsOf_lt (v n : Nat) : ∀ b ∈ bitsOf v n, b < 2 := by
  induction n with
  | zero => simp [bitsOf]
  | succ n ih =>
    intro b hb
    rcases List.mem_append.1 hb with h | h
    · exact ih b h
    · simp at h; omega

theorem bitsOf_n2 (v n : Nat) : n2 (bitsOf v n) = v % 2 ^ n := by
  induction n with
  | zero => simp [bitsOf, n2, Nat.mod_one]
  | succ n ih =>
    rw [more_bits v n 1, bitsOf, n2_append, ih, bitsOf_length]
    simp [n2]

theorem n2_zeros (n : Nat) : n2 (List.replicate n 0) = 0 := by
  induction n with
  | zero => rfl
  | succ n ih => simp [List.replicate_succ, n2, ih]

theorem n2_put (ls : List Nat) (v n : Nat) (h : v < 2 ^ n) : n2 (ls ++ bitsOf v n) = n2 ls + v * 2 ^ ls.length := by
  rw [n2_append, bitsOf_n2, Nat.mod_eq_of_lt h, Nat.mul_comm]

theorem n2_align (ls : List Nat) (n : Nat) : n2 (ls ++ List.replicate n 0) = n2 ls := by
  rw [n2_append, n2_zeros]; simp

theorem n2_take_succ (l : List Nat) (t : Nat) (h : t < l.length) : n2 (l.take (t + 1)) = n2 (l.take t) + l[t] * 2 ^ t := by
  rw [List.take_succ_eq_append_getElem h, n2_append]
  simp [n2, Nat.mul_comm, Nat.min_eq_left (Nat.le_of_lt h)]

/-- The first j bytes of bits. -/
def outOf (ls : List Nat) : Nat → List Nat
  | 0 => []
  | j + 1 => outOf ls j ++ [n2 ((ls.drop (8 * j)).take 8)]

theorem outOf_length (ls : List Nat) (j : Nat) : (outOf ls j).length = j := by
  induction j with
  | zero => rfl
  | succ j ih => simp [outOf, ih]

theorem n2_take_lt (ls : List Nat) (h : ∀ b ∈ ls, b < 2) (i t : Nat) : n2 ((ls.drop i).take t) < 2 ^ t := by
  have h1 := n2_lt ((ls.drop i).take t) (fun b hb => h b (List.mem_of_mem_drop (List.mem_of_mem_take hb)))
  exact Nat.lt_of_lt_of_le h1 (Nat.pow_le_pow_right (by omega) (List.length_take_le _ _))

theorem outOf_lt (ls : List Nat) (h : ∀ b ∈ ls, b < 2) (j : Nat) : ∀ b ∈ outOf ls j, b < 256 := by
  induction j with
  | zero => simp [outOf]
  | succ j ih =>
    intro b hb
    rcases List.mem_append.1 hb with h' | h'
    · exact ih b h'
    · simp at h'; subst h'; exact n2_take_lt ls h _ 8

theorem outOf_n256 (ls : List Nat) (j : Nat) (hj : 8 * j ≤ ls.length + 7) : n256 (outOf ls j) = n2 (ls.take (8 * j)) := by
  induction j with
  | zero => simp [outOf, n256, n2]
  | succ j ih =>
    have e : ls.take (8 * (j + 1)) = ls.take (8 * j) ++ (ls.drop (8 * j)).take 8 := by
      rw [Nat.mul_succ, List.take_add]
    rw [e, n2_append, outOf, n256_append, ih (by omega), outOf_length, List.length_take, Nat.min_eq_left (by omega), pow8]
    simp [n256]

/-- All bytes. -/
theorem outOf_all (ls : List Nat) (j : Nat) (h1 : ls.length ≤ 8 * j) (h2 : 8 * j ≤ ls.length + 7) : n256 (outOf ls j) = n2 ls := by
  rw [outOf_n256 ls j h2, List.take_of_length_le h1]

/-- The bits of bytes: of each byte, from the first on, its eight bits. -/
def ofBytes : List Nat → List Nat
  | [] => []
  | b :: r => bitsOf b 8 ++ ofBytes r

theorem ofBytes_append (a b : List Nat) : ofBytes (a ++ b) = ofBytes a ++ ofBytes b := by
  induction a with
  | nil => rfl
  | cons x r ih => simp [ofBytes, ih]

theorem ofBytes_length (l : List Nat) : (ofBytes l).length = 8 * l.length := by
  induction l with
  | nil => rfl
  | cons x r ih => simp [ofBytes, ih, bitsOf_length]; omega

theorem ofBytes_lt (l : List Nat) : ∀ b ∈ ofBytes l, b < 2 := by
  induction l with
  | nil => simp [ofBytes]
  | cons x r ih =>
    intro b hb
    rcases List.mem_append.1 hb with h | h
    · exact bitsOf_lt x 8 b h
    · exact ih b h

theorem ofBytes_n2 (l : List Nat) (h : ∀ b ∈ l, b < 256) : n2 (ofBytes l) = n256 l := by
  induction l with
  | nil => rfl
  | cons x r ih =>
    have h1 := h x (by simp)
    rw [ofBytes, n2_append, bitsOf_n2, bitsOf_length, ih (fun b hb => h b (by simp [hb])), n256, show (2 : Nat) ^ 8 = 256 from rfl, Nat.mod_eq_of_lt h1]

/-- Some bits of a row, as a number. -/
theorem n2_part (ls : List Nat) (h : ∀ b ∈ ls, b < 2) (a n : Nat) (hl : a + n ≤ ls.length) : n2 ((ls.drop a).take n) = n2 ls / 2 ^ a % 2 ^ n := by
  have e1 : n2 ls = n2 (ls.take a) + 2 ^ a * n2 (ls.drop a) := by
    have := n2_append (ls.take a) (ls.drop a)
    rw [List.take_append_drop, List.length_take, Nat.min_eq_left (by omega)] at this
    exact this
  have h1 : n2 (ls.take a) < 2 ^ a := by
    have := n2_lt (ls.take a) (fun b hb => h b (List.mem_of_mem_take hb))
    rw [List.length_take, Nat.min_eq_left (by omega)] at this
    exact this
  have e2 : n2 (ls.drop a) = n2 ((ls.drop a).take n) + 2 ^ n * n2 ((ls.drop a).drop n) := by
    have := n2_append ((ls.drop a).take n) ((ls.drop a).drop n)
    rw [List.take_append_drop, List.length_take, List.length_drop, Nat.min_eq_left (by omega)] at this
    exact this
  have h2 := n2_take_lt ls h a n
  rw [e1, Nat.add_mul_div_left _ _ (Nat.two_pow_pos _), Nat.div_eq_of_lt h1, Nat.zero_add, e2, Nat.add_mul_mod_self_left, Nat.mod_eq_of_lt (show n2 (List.take n (List.drop a ls)) < 2 ^ n from h2)]

end Go.Proofs.Ytjcobogajkfnmaa
