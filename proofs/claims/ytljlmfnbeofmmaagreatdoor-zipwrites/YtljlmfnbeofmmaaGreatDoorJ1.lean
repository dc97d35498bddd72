/-
  Of the proof: parts Math, Crc, ZpM, Bits, MtM, MtN, MtL.
-/


namespace Go.Proofs.YtljlmfnbeofmmaaGreatDoor

def n256 : List Nat → Nat
  | [] => 0
  | b :: r => b + 256 * n256 r

def n2 : List Nat → Nat
  | [] => 0
  | b :: r => b + 2 * n2 r

theorem n256_append (a b : List Nat) : n256 (a ++ b) = n256 a + 256 ^ a.length * n256 b := by
  induction a with
  | nil => simp [n256]
  | cons x r ih =>
    simp only [List.cons_append, n256, ih, List.length_cons, Nat.pow_succ, Nat.mul_add, Nat.add_assoc]
    rw [Nat.mul_comm (256 ^ r.length) 256, Nat.mul_assoc]

theorem n2_append (a b : List Nat) : n2 (a ++ b) = n2 a + 2 ^ a.length * n2 b := by
  induction a with
  | nil => simp [n2]
  | cons x r ih =>
    simp only [List.cons_append, n2, ih, List.length_cons, Nat.pow_succ, Nat.mul_add, Nat.add_assoc]
    rw [Nat.mul_comm (2 ^ r.length) 2, Nat.mul_assoc]

theorem n256_lt (l : List Nat) (h : ∀ b ∈ l, b < 256) : n256 l < 256 ^ l.length := by
  induction l with
  | nil => simp [n256]
  | cons x r ih =>
    have h1 := h x (by simp)
    have h2 := ih (fun b hb => h b (by simp [hb]))
    simp only [n256, List.length_cons, Nat.pow_succ]
    omega

theorem n2_lt (l : List Nat) (h : ∀ b ∈ l, b < 2) : n2 l < 2 ^ l.length := by
  induction l with
  | nil => simp [n2]
  | cons x r ih =>
    have h1 := h x (by simp)
    have h2 := ih (fun b hb => h b (by simp [hb]))
    simp only [n2, List.length_cons, Nat.pow_succ]
    omega

theorem n256_inj (a b : List Nat) (hl : a.length = b.length) (ha : ∀ x ∈ a, x < 256) (hb : ∀ x ∈ b, x < 256) (h : n256 a = n256 b) : a = b := by
  induction a generalizing b with
  | nil => cases b with
    | nil => rfl
    | cons => simp at hl
  | cons x r ih => cases b with
    | nil => simp at hl
    | cons y s =>
      have h1 := ha x (by simp)
      have h2 := hb y (by simp)
      simp only [n256] at h
      simp only [List.length_cons, Nat.add_right_cancel_iff] at hl
      have e := ih s hl (fun b hb' => ha b (by simp [hb'])) (fun b hb' => hb b (by simp [hb'])) (by omega)
      rw [e]
      congr 1
      omega

theorem pow8 (k : Nat) : 256 ^ k = 2 ^ (8 * k) := by rw [Nat.pow_mul]

theorem last_lt (bs : List Nat) (b c free : Nat) (hc : 8 * (bs.length + 1) = c + free) (hf : free ≤ 8) (h : n256 (bs ++ [b]) < 2 ^ c) : b < 2 ^ (8 - free) := by
  rw [n256_append] at h
  simp only [n256, Nat.mul_zero, Nat.add_zero] at h
  have e : c = 8 * bs.length + (8 - free) := by omega
  rw [e, Nat.pow_add, ← pow8] at h
  have : 256 ^ bs.length * b < 256 ^ bs.length * 2 ^ (8 - free) := by omega
  exact Nat.lt_of_mul_lt_mul_left this

theorem last_set (bs : List Nat) (b c free x : Nat) (hc : 8 * (bs.length + 1) = c + free) (hf : free ≤ 8) : n256 (bs ++ [b + 2 ^ (8 - free) * x]) = n256 (bs ++ [b]) + 2 ^ c * x := by
  have e : c = 8 * bs.length + (8 - free) := by omega
  simp only [n256_append, n256, Nat.mul_zero, Nat.add_zero]
  rw [e, Nat.pow_add, ← pow8, Nat.mul_add, Nat.mul_assoc, Nat.add_assoc]

theorem or_add (b k x : Nat) (h : b < 2 ^ k) : b ||| (2 ^ k * x) = b + 2 ^ k * x := by
  rw [Nat.or_comm, ← Nat.two_pow_add_eq_or_of_lt h, Nat.add_comm]

theorem shl_byte (v free : Nat) (hf : free ≤ 8) : v * 2 ^ (8 - free) % 256 = 2 ^ (8 - free) * (v % 2 ^ free) := by
  have : (256 : Nat) = 2 ^ (8 - free) * 2 ^ free := by rw [← Nat.pow_add]; simp [hf]
  rw [this, Nat.mul_comm, Nat.mul_mod_mul_left]

theorem pow_split (v k : Nat) : v % 2 ^ k + 2 ^ k * (v / 2 ^ k) = v := by rw [Nat.mod_add_div]

theorem lay_step (X v n c free : Nat) (hv : v < 2 ^ n) :
    X + 2 ^ c * (v % 2 ^ free) + v / 2 ^ (min free n) * 2 ^ (c + min free n) = X + v * 2 ^ c := by
  by_cases h : free ≤ n
  · rw [Nat.min_eq_left h, Nat.pow_add]
    have e := pow_split v free
    calc X + 2 ^ c * (v % 2 ^ free) + v / 2 ^ free * (2 ^ c * 2 ^ free) = X + 2 ^ c * (v % 2 ^ free + 2 ^ free * (v / 2 ^ free)) := by
          rw [Nat.mul_add, Nat.add_assoc]; congr 2; rw [Nat.mul_comm, Nat.mul_assoc]
      _ = _ := by rw [e, Nat.mul_comm]
  · have h' : n ≤ free := by omega
    have h2 : v < 2 ^ free := Nat.lt_of_lt_of_le hv (Nat.pow_le_pow_right (by omega) h')
    rw [Nat.min_eq_right h', Nat.div_eq_of_lt hv, Nat.mod_eq_of_lt h2, Nat.zero_mul, Nat.add_zero, Nat.mul_comm]

theorem more_bits (Y a k : Nat) : Y % 2 ^ (a + k) = Y % 2 ^ a + 2 ^ a * (Y / 2 ^ a % 2 ^ k) := by
  rw [Nat.pow_add, Nat.mod_mul]

theorem and_mask (x k : Nat) : x &&& (2 ^ k - 1) = x % 2 ^ k := Nat.and_two_pow_sub_one_eq_mod x k

end Go.Proofs.YtljlmfnbeofmmaaGreatDoor

namespace Go.Proofs.YtljlmfnbeofmmaaGreatDoor

def leOf (v : Nat) : Nat → List Nat
 | 0 => []
 | n + 1 => leOf v n ++ [v / 256 ^ n % 256]

theorem leOf_length (v n : Nat) : (leOf v n).length = n := by
 induction n with
 | zero => rfl
 | succ n ih => simp [leOf, ih]

theorem leOf_n256 (v n : Nat) : n256 (leOf v n) = v % 256 ^ n := by
 induction n with
 | zero => simp [leOf, n256, Nat.mod_one]
 | succ n ih =>
  rw [leOf, n256_append, ih, leOf_length, Nat.pow_succ, Nat.mod_mul]
  simp [n256]

def bytN (cs : List Nat) (a n : Nat) : Nat := n256 ((cs.drop a).take n)

theorem bytN_lt (cs : List Nat) (hb : ∀ b ∈ cs, b < 256) (a n : Nat) : bytN cs a n < 256 ^ n := by
 have h := n256_lt ((cs.drop a).take n) (fun b h => hb b (List.mem_of_mem_drop (List.mem_of_mem_take h)))
 exact Nat.lt_of_lt_of_le h (Nat.pow_le_pow_right (by omega) (List.length_take_le _ _))

def push (r : Nat) : Nat := (r / 2) ^^^ (r % 2 * 3988292384)

def pushN : Nat → Nat → Nat
 | 0, r => r
 | n + 1, r => push (pushN n r)

def push8 (r : Nat) : Nat := pushN 8 r

def reg (r : Nat) (bs : List Nat) : Nat := bs.foldl (fun r b => push8 (r ^^^ b)) r

def not32 (x : Nat) : Nat := 4294967295 - x

def more (sum : Nat) (bs : List Nat) : Nat := not32 (reg (not32 sum) bs)

theorem not32_lt (x : Nat) : not32 x < 4294967296 := by unfold not32; omega
theorem xor_lt32 {a b : Nat} (ha : a < 4294967296) (hb : b < 4294967296) : a ^^^ b < 4294967296 := by
 have e : (4294967296 : Nat) = 2 ^ 32 := by decide
 rw [e] at *
 exact Nat.xor_lt_two_pow ha hb

theorem push_lt {r : Nat} (h : r < 4294967296) : push r < 4294967296 := by
 unfold push
 refine xor_lt32 (by omega) ?_
 have h2 : r % 2 ≤ 1 := by omega
 have h3 : r % 2 * 3988292384 ≤ 1 * 3988292384 := Nat.mul_le_mul_right _ h2
 omega

theorem pushN_lt {r : Nat} (h : r < 4294967296) (n : Nat) : pushN n r < 4294967296 := by
 induction n with
 | zero => exact h
 | succ n ih => exact push_lt ih

theorem reg_lt {r : Nat} (h : r < 4294967296) (bs : List Nat) (hb : ∀ b ∈ bs, b < 256) : reg r bs < 4294967296 := by
 induction bs generalizing r with
 | nil => exact h
 | cons b s ih =>
  have h1 := hb b (by simp)
  exact ih (pushN_lt (xor_lt32 h (by omega)) 8) (fun x hx => hb x (by simp [hx]))

theorem reg_snoc (r : Nat) (bs : List Nat) (b : Nat) : reg r (bs ++ [b]) = push8 (reg r bs ^^^ b) := by simp [reg]
theorem more_lt (s : Nat) (a : List Nat) : more s a < 4294967296 := not32_lt _

end Go.Proofs.YtljlmfnbeofmmaaGreatDoor

namespace Go.Proofs.YtljlmfnbeofmmaaGreatDoor

structure Mk where
 way : Nat
 sum : Nat
 packed : Nat
 size : Nat
 name : List Nat
deriving DecidableEq

def tk8 (n : Nat) (r : List Nat) : Option (List Nat × List Nat) := if n ≤ r.length then some (r.take n, r.drop n) else none

def nm8 (n : Nat) (r : List Nat) : Option (Nat × List Nat) := match tk8 n r with
 | none => none
 | some p => some (n256 p.1, p.2)

def ex8 (n v : Nat) (r : List Nat) : Option (List Nat) := match nm8 n r with
 | none => none
 | some p => if p.1 = v then some p.2 else none

def bnd8 {α β : Type} (o : Option α) (f : α → Option β) : Option β := match o with
 | none => none
 | some x => f x

theorem bnd8_some {α β : Type} {o : Option α} {f : α → Option β} {x : α} (h : o = some x) : bnd8 o f = f x := by rw [h]; rfl
theorem bnd8_none {α β : Type} {o : Option α} {f : α → Option β} (h : o = none) : bnd8 o f = none := by rw [h]; rfl

def lab8 (r : List Nat) : Option ((Mk × Nat) × List Nat) :=
 bnd8 (tk8 2 r) fun a => bnd8 (ex8 2 0 a.2) fun r => bnd8 (nm8 2 r) fun way => bnd8 (tk8 4 way.2) fun a =>
 bnd8 (nm8 4 a.2) fun sum => bnd8 (nm8 4 sum.2) fun packed => bnd8 (nm8 4 packed.2) fun size => bnd8 (nm8 2 size.2) fun long =>
 bnd8 (ex8 2 0 long.2) fun r => some ((⟨way.1, sum.1, packed.1, size.1, []⟩, long.1), r)

def Mk.named (m : Mk) (s : List Nat) : Mk := ⟨m.way, m.sum, m.packed, m.size, s⟩

def rec8 (r : List Nat) : Option ((Mk × Nat) × List Nat) :=
 bnd8 (ex8 4 33639248 r) fun r => bnd8 (tk8 2 r) fun a => bnd8 (lab8 a.2) fun l => bnd8 (ex8 2 0 l.2) fun r => bnd8 (ex8 2 0 r) fun r =>
 bnd8 (tk8 6 r) fun a => bnd8 (nm8 4 a.2) fun at' => bnd8 (tk8 l.1.2 at'.2) fun s => some ((l.1.1.named s.1, at'.1), s.2)

def hed8 (m : Mk) (r : List Nat) : Option (List Nat) :=
 bnd8 (ex8 4 67324752 r) fun r => bnd8 (lab8 r) fun l => bnd8 (tk8 l.1.2 l.2) fun s => if l.1.1.named s.1 = m then some s.2 else none

def pie8 (m : Mk) (r : List Nat) : Option (List Nat × List Nat) := bnd8 (hed8 m r) fun r => tk8 m.packed r

def labB (m : Mk) : List Nat := leOf 20 2 ++ (leOf 0 2 ++ (leOf m.way 2 ++ (leOf 0 2 ++ (leOf 33 2 ++ (leOf m.sum 4 ++ (leOf m.packed 4 ++ (leOf m.size 4 ++ (leOf m.name.length 2 ++ leOf 0 2))))))))
def hedB (m : Mk) : List Nat := leOf 67324752 4 ++ (labB m ++ m.name)
def recB (m : Mk) (at' : Nat) : List Nat := leOf 33639248 4 ++ (leOf 20 2 ++ (labB m ++ (leOf 0 2 ++ (leOf 0 2 ++ (leOf 0 2 ++ (leOf 0 4 ++ (leOf at' 4 ++ m.name)))))))
def endB (n long first : Nat) : List Nat := leOf 101010256 4 ++ (leOf 0 2 ++ (leOf 0 2 ++ (leOf n 2 ++ (leOf n 2 ++ (leOf long 4 ++ (leOf first 4 ++ leOf 0 2))))))

structure MkOk (m : Mk) : Prop where
 way : m.way < 65536
 sum : m.sum < 4294967296
 packed : m.packed < 4294967296
 size : m.size < 4294967296
 name : m.name.length < 65536

theorem tk8_app (a r : List Nat) {n : Nat} (h : a.length = n) : tk8 n (a ++ r) = some (a, r) := by
 subst h
 unfold tk8
 rw [if_pos (by simp), List.take_left, List.drop_left]

theorem nm8_app (v n : Nat) (r : List Nat) (h : v < 256 ^ n) : nm8 n (leOf v n ++ r) = some (v, r) := by
 unfold nm8
 rw [tk8_app _ _ (leOf_length v n)]
 simp only
 rw [leOf_n256, Nat.mod_eq_of_lt h]

theorem ex8_app (v n : Nat) (r : List Nat) (h : v < 256 ^ n) : ex8 n v (leOf v n ++ r) = some r := by
 unfold ex8
 rw [nm8_app v n r h]
 simp

theorem lab8_app (m : Mk) (h : MkOk m) (r : List Nat) : lab8 (labB m ++ r) = some ((m.named [], m.name.length), r) := by
 unfold lab8 labB
 simp only [List.append_assoc]
 rw [bnd8_some (tk8_app _ _ (leOf_length 20 2))]
 simp only
 rw [bnd8_some (ex8_app 0 2 _ (by decide)), bnd8_some (nm8_app m.way 2 _ h.way)]
 simp only
 rw [show leOf 0 2 ++ (leOf 33 2 ++ (leOf m.sum 4 ++ (leOf m.packed 4 ++ (leOf m.size 4 ++ (leOf m.name.length 2 ++ (leOf 0 2 ++ r)))))) = (leOf 0 2 ++ leOf 33 2) ++ (leOf m.sum 4 ++ (leOf m.packed 4 ++ (leOf m.size 4 ++ (leOf m.name.length 2 ++ (leOf 0 2 ++ r))))) by simp]
 rw [bnd8_some (tk8_app _ _ (by simp [leOf_length]))]
 simp only
 rw [bnd8_some (nm8_app m.sum 4 _ h.sum)]
 simp only
 rw [bnd8_some (nm8_app m.packed 4 _ h.packed)]
 simp only
 rw [bnd8_some (nm8_app m.size 4 _ h.size)]
 simp only
 rw [bnd8_some (nm8_app m.name.length 2 _ h.name)]
 simp only
 rw [bnd8_some (ex8_app 0 2 _ (by decide))]
 rfl

theorem Mk.named_self (m : Mk) : (m.named []).named m.name = m := rfl

theorem rec8_app (m : Mk) (h : MkOk m) (at' : Nat) (ha : at' < 4294967296) (r : List Nat) : rec8 (recB m at' ++ r) = some ((m, at'), r) := by
 unfold rec8 recB
 simp only [List.append_assoc]
 rw [bnd8_some (ex8_app 33639248 4 _ (by decide)), bnd8_some (tk8_app _ _ (leOf_length 20 2))]
 simp only
 rw [bnd8_some (lab8_app m h _)]
 simp only
 rw [bnd8_some (ex8_app 0 2 _ (by decide)), bnd8_some (ex8_app 0 2 _ (by decide))]
 rw [show leOf 0 2 ++ (leOf 0 4 ++ (leOf at' 4 ++ (m.name ++ r))) = (leOf 0 2 ++ leOf 0 4) ++ (leOf at' 4 ++ (m.name ++ r)) by simp]
 rw [bnd8_some (tk8_app _ _ (by simp [leOf_length]))]
 simp only
 rw [bnd8_some (nm8_app at' 4 _ ha)]
 simp only
 rw [bnd8_some (tk8_app _ _ rfl)]
 rfl

theorem hed8_app (m : Mk) (h : MkOk m) (r : List Nat) : hed8 m (hedB m ++ r) = some r := by
 unfold hed8 hedB
 simp only [List.append_assoc]
 rw [bnd8_some (ex8_app 67324752 4 _ (by decide)), bnd8_some (lab8_app m h _)]
 simp only
 rw [bnd8_some (tk8_app _ _ rfl)]
 simp only
 rw [Mk.named_self, if_pos rfl]

theorem pie8_app (m : Mk) (h : MkOk m) (b r : List Nat) (hb : b.length = m.packed) : pie8 m (hedB m ++ (b ++ r)) = some (b, r) := by
 unfold pie8
 rw [bnd8_some (hed8_app m h _), tk8_app _ _ hb]

theorem labB_length (m : Mk) : (labB m).length = 26 := by simp [labB, leOf_length]
theorem hedB_length (m : Mk) : (hedB m).length = 30 + m.name.length := by simp [hedB, labB_length, leOf_length]; omega
theorem recB_length (m : Mk) (a : Nat) : (recB m a).length = 46 + m.name.length := by simp [recB, labB_length, leOf_length]; omega
theorem endB_length (n l f : Nat) : (endB n l f).length = 22 := by simp [endB, leOf_length]

theorem bnd8_tk {β : Type} (n o : Nat) (r : List Nat) (hn : 0 < n) (f : List Nat × List Nat → Option β) : bnd8 (tk8 n (r.drop o)) f = if o + n ≤ r.length then f ((r.drop o).take n, r.drop (o + n)) else none := by
 unfold tk8
 rw [List.length_drop, List.drop_drop]
 by_cases h : o + n ≤ r.length
 ·rw [if_pos (by omega), if_pos h]; rfl
 ·rw [if_neg (by omega), if_neg h]; rfl

theorem bnd8_nm {β : Type} (n o : Nat) (r : List Nat) (hn : 0 < n) (f : Nat × List Nat → Option β) : bnd8 (nm8 n (r.drop o)) f = if o + n ≤ r.length then f (bytN r o n, r.drop (o + n)) else none := by
 unfold nm8 tk8
 rw [List.length_drop, List.drop_drop]
 by_cases h : o + n ≤ r.length
 ·rw [if_pos (by omega), if_pos h]; rfl
 ·rw [if_neg (by omega), if_neg h]; rfl

theorem bnd8_ex {β : Type} (n v o : Nat) (r : List Nat) (hn : 0 < n) (f : List Nat → Option β) : bnd8 (ex8 n v (r.drop o)) f = if o + n ≤ r.length then (if bytN r o n = v then f (r.drop (o + n)) else none) else none := by
 unfold ex8 nm8 tk8
 rw [List.length_drop, List.drop_drop]
 by_cases h : o + n ≤ r.length
 ·rw [if_pos (by omega), if_pos h]
  simp only
  by_cases h2 : bytN r o n = v
  ·rw [if_pos h2, if_pos (by exact h2)]; rfl
  ·rw [if_neg h2, if_neg (by exact h2)]; rfl
 ·rw [if_neg (by omega), if_neg h]; rfl

def mkAt (r : List Nat) (o : Nat) : Mk := ⟨bytN r (o + 4) 2, bytN r (o + 10) 4, bytN r (o + 14) 4, bytN r (o + 18) 4, []⟩

theorem lab8_is {β : Type} (r : List Nat) (o : Nat) (f : (Mk × Nat) × List Nat → Option β) : bnd8 (lab8 (r.drop o)) f = if o + 26 ≤ r.length ∧ bytN r (o + 2) 2 = 0 ∧ bytN r (o + 24) 2 = 0 then f ((mkAt r o, bytN r (o + 22) 2), r.drop (o + 26)) else none := by
 unfold lab8
 simp only [bnd8_tk, bnd8_nm, bnd8_ex, Nat.add_assoc, Nat.reduceAdd, show (0 : Nat) < 2 by decide, show (0 : Nat) < 4 by decide]
 by_cases h26 : o + 26 ≤ r.length
 ·rw [if_pos (by omega), if_pos (by omega)]
  by_cases h1 : bytN r (o + 2) 2 = 0
  ·rw [if_pos h1, if_pos (by omega), if_pos (by omega), if_pos (by omega), if_pos (by omega), if_pos (by omega), if_pos (by omega), if_pos (by omega)]
   by_cases h2 : bytN r (o + 24) 2 = 0
   ·rw [if_pos h2, if_pos ⟨h26, h1, h2⟩]; rfl
   ·rw [if_neg h2, if_neg (fun h => h2 h.2.2)]; rfl
  ·rw [if_neg h1, if_neg (fun h => h1 h.2.1)]; rfl
 ·conv => rhs; rw [if_neg (fun h => h26 h.1)]
  repeat' split
  all_goals first | rfl | omega

theorem hed8_is (m : Mk) (r : List Nat) : hed8 m r = if 30 ≤ r.length ∧ bytN r 0 4 = 67324752 ∧ bytN r 6 2 = 0 ∧ bytN r 28 2 = 0 ∧ 30 + bytN r 26 2 ≤ r.length ∧ (mkAt r 4).named ((r.drop 30).take (bytN r 26 2)) = m then some (r.drop (30 + bytN r 26 2)) else none := by
 have h0 : r = r.drop 0 := rfl
 unfold hed8
 conv => lhs; rw [h0]
 simp only [bnd8_ex, lab8_is, Nat.zero_add, Nat.reduceAdd, show (0 : Nat) < 4 by decide]
 by_cases h30 : 30 ≤ r.length
 ·by_cases h1 : bytN r 0 4 = 67324752
  ·by_cases h2 : bytN r 6 2 = 0
   ·by_cases h3 : bytN r 28 2 = 0
    ·rw [if_pos (by omega), if_pos h1, if_pos ⟨by omega, h2, h3⟩]
     unfold tk8
     rw [List.length_drop, List.drop_drop]
     by_cases h6 : 30 + bytN r 26 2 ≤ r.length
     ·rw [if_pos (by omega)]
      show (if (mkAt r 4).named ((r.drop 30).take (bytN r 26 2)) = m then some (r.drop (30 + bytN r 26 2)) else none) = _
      by_cases h7 : (mkAt r 4).named ((r.drop 30).take (bytN r 26 2)) = m
      ·rw [if_pos h7, if_pos ⟨h30, h1, h2, h3, h6, h7⟩]
      ·rw [if_neg h7, if_neg (fun h => h7 h.2.2.2.2.2)]
     ·rw [if_neg (by omega), if_neg (fun h => h6 h.2.2.2.2.1)]; rfl
    ·conv => rhs; rw [if_neg (fun h => h3 h.2.2.2.1)]
     repeat' split
     all_goals first | rfl | omega | (exfalso; exact h3 (And.right (And.right (by assumption))))
   ·conv => rhs; rw [if_neg (fun h => h2 h.2.2.1)]
    repeat' split
    all_goals first | rfl | omega | (exfalso; exact h2 (And.left (And.right (by assumption))))
  ·conv => rhs; rw [if_neg (fun h => h1 h.2.1)]
   repeat' split
   all_goals first | rfl | omega | (exfalso; exact h1 (by assumption))
 ·conv => rhs; rw [if_neg (fun h => h30 h.1)]
  repeat' split
  all_goals first | rfl | omega

end Go.Proofs.YtljlmfnbeofmmaaGreatDoor

namespace Go.Proofs.YtljlmfnbeofmmaaGreatDoor

def bitsOf (v : Nat) : Nat → List Nat
 | 0 => []
 | n + 1 => bitsOf v n ++ [v / 2 ^ n % 2]

theorem bitsOf_length (v n : Nat) : (bitsOf v n).length = n := by
 induction n with
 | zero => rfl
 | succ n ih => simp [bitsOf, ih]

theorem bitsOf_lt (v n : Nat) : ∀ b ∈ bitsOf v n, b < 2 := by
 induction n with
 | zero => simp [bitsOf]
 | succ n ih =>
  intro b hb
  rcases List.mem_append.1 hb with h | h
  ·exact ih b h
  ·simp at h; omega

theorem bitsOf_n2 (v n : Nat) : n2 (bitsOf v n) = v % 2 ^ n := by
 induction n with
 | zero => simp [bitsOf, n2, Nat.mod_one]
 | succ n ih =>
  rw [more_bits v n 1, bitsOf, n2_append, ih, bitsOf_length]
  simp [n2]

theorem n2_zeros (n : Nat) : n2 (List.replicate n 0) = 0 := by
 induction n with
 | zero => rfl
 | succ n ih => simp [List.replicate_succ, n2, ih]

theorem n2_put (ls : List Nat) (v n : Nat) (h : v < 2 ^ n) : n2 (ls ++ bitsOf v n) = n2 ls + v * 2 ^ ls.length := by
 rw [n2_append, bitsOf_n2, Nat.mod_eq_of_lt h, Nat.mul_comm]

theorem n2_align (ls : List Nat) (n : Nat) : n2 (ls ++ List.replicate n 0) = n2 ls := by
 rw [n2_append, n2_zeros]; simp

def ofBytes : List Nat → List Nat
 | [] => []
 | b :: r => bitsOf b 8 ++ ofBytes r

theorem ofBytes_length (l : List Nat) : (ofBytes l).length = 8 * l.length := by
 induction l with
 | nil => rfl
 | cons x r ih => simp [ofBytes, ih, bitsOf_length]; omega

theorem ofBytes_lt (l : List Nat) : ∀ b ∈ ofBytes l, b < 2 := by
 induction l with
 | nil => simp [ofBytes]
 | cons x r ih =>
  intro b hb
  rcases List.mem_append.1 hb with h | h
  ·exact bitsOf_lt x 8 b h
  ·exact ih b h

theorem ofBytes_n2 (l : List Nat) (h : ∀ b ∈ l, b < 256) : n2 (ofBytes l) = n256 l := by
 induction l with
 | nil => rfl
 | cons x r ih =>
  have h1 := h x (by simp)
  rw [ofBytes, n2_append, bitsOf_n2, bitsOf_length, ih (fun b hb => h b (by simp [hb])), n256, show (2 : Nat) ^ 8 = 256 from rfl, Nat.mod_eq_of_lt h1]

end Go.Proofs.YtljlmfnbeofmmaaGreatDoor

namespace Go.Proofs.YtljlmfnbeofmmaaGreatDoor

structure TK where
 lit : Nat
 len : Int
 dist : Int
deriving DecidableEq

def mayT (t : TK) (said : Nat) : Bool :=
 if t.len = 0 then decide (t.dist = 0) else decide (t.lit = 0 ∧ 3 ≤ t.len ∧ t.len ≤ 258 ∧ 1 ≤ t.dist ∧ t.dist ≤ (said : Int))

def tlen (t : TK) : Nat := (max t.len 1).toNat

def measT (most : Nat) : List TK → Nat → Except Nat Nat
 | [], said => .ok said
 | t :: r, said => if mayT t said = false then .error 60 else if most < said + tlen t then .error 2 else measT most r (said + tlen t)

def cpT (far : Nat) : Nat → List Nat → List Nat
 | 0, out => out
 | n + 1, out => cpT far n (out ++ [out.getD (out.length - far) 0])

def sayT (out : List Nat) (t : TK) : List Nat := if t.len = 0 then out ++ [t.lit] else cpT t.dist.toNat t.len.toNat out

def expT (ts : List TK) (out : List Nat) : List Nat := ts.foldl sayT out

theorem cpT_more (far n : Nat) (out : List Nat) : cpT far (n + 1) out = cpT far n out ++ [(cpT far n out).getD ((cpT far n out).length - far) 0] := by
 induction n generalizing out with
 | zero => rfl
 | succ n ih => rw [cpT, ih, cpT]

theorem mayT_cases {t : TK} {said : Nat} (h : mayT t said = true) : (t.len = 0 ∧ t.dist = 0 ∧ tlen t = 1) ∨ (∃ n d : Nat, t.len = n ∧ t.dist = d ∧ t.lit = 0 ∧ 3 ≤ n ∧ n ≤ 258 ∧ 1 ≤ d ∧ d ≤ said ∧ tlen t = n) := by
 unfold mayT at h
 split at h
 ·rename_i h0
  refine .inl ⟨h0, by simpa using h, ?_⟩
  unfold tlen; rw [h0]; rfl
 ·have h := of_decide_eq_true h
  refine .inr ⟨t.len.toNat, t.dist.toNat, by omega, by omega, h.1, by omega, by omega, by omega, by omega, ?_⟩
  unfold tlen; omega

theorem tlen_pos (t : TK) : 1 ≤ tlen t := by unfold tlen; omega

def blen (n : Nat) : Nat := if n = 0 then 0 else Nat.log2 n + 1

theorem blen_le (n k : Nat) : blen n ≤ k ↔ n < 2 ^ k := by
 unfold blen
 split
 ·rename_i h; subst h; simp; exact Nat.two_pow_pos k
 ·rename_i h
  rw [← Nat.log2_lt h]
  omega

def extM (data : List Nat) (i d : Nat) : Nat → Nat → Nat
 | 0, n => n
 | f + 1, n => if i + n < data.length ∧ data.getD (i + n) 0 = data.getD (i + n - d) 0 then extM data i d f (n + 1) else n

def mlM (data : List Nat) (i d : Nat) : Nat := extM data i d 258 0

theorem extM_ge (data : List Nat) (i d f n : Nat) : n ≤ extM data i d f n ∧ extM data i d f n ≤ n + f := by
 induction f generalizing n with
 | zero => exact ⟨Nat.le_refl _, Nat.le_refl _⟩
 | succ f ih =>
  unfold extM
  split
  ·have := ih (n + 1); omega
  ·omega

theorem extM_agree (data : List Nat) (i d f n : Nat) : ∀ j, n ≤ j → j < extM data i d f n → i + j < data.length ∧ data.getD (i + j) 0 = data.getD (i + j - d) 0 := by
 induction f generalizing n with
 | zero => intro j h1 h2; unfold extM at h2; omega
 | succ f ih =>
  intro j h1 h2
  unfold extM at h2
  split at h2
  ·rename_i hc
   by_cases he : j = n
   ·subst he; exact hc
   ·exact ih (n + 1) j (by omega) h2
  ·omega

theorem mlM_agree (data : List Nat) (i d j : Nat) (h : j < mlM data i d) : i + j < data.length ∧ data.getD (i + j) 0 = data.getD (i + j - d) 0 :=
 extM_agree data i d 258 0 j (Nat.zero_le _) h
theorem mlM_le (data : List Nat) (i d : Nat) : mlM data i d ≤ 258 := by have := extM_ge data i d 258 0; unfold mlM; omega
theorem mlM_in (data : List Nat) (i d : Nat) : mlM data i d = 0 ∨ i + mlM data i d ≤ data.length := by
 rcases Nat.eq_zero_or_pos (mlM data i d) with h | h
 ·exact .inl h
 ·have := (mlM_agree data i d (mlM data i d - 1) (by omega)).1; exact .inr (by omega)
theorem mlM_ne {data : List Nat} {i d n : Nat} (h : data.getD (i + n) 0 ≠ data.getD (i + n - d) 0) : mlM data i d ≤ n := by
 refine Nat.le_of_not_lt (fun hc => h (mlM_agree data i d n hc).2)

theorem extM_step {data : List Nat} {i d f n : Nat} (h1 : i + n < data.length) (h2 : data.getD (i + n) 0 = data.getD (i + n - d) 0) : extM data i d (f + 1) n = extM data i d f (n + 1) := by
 rw [extM, if_pos ⟨h1, h2⟩]
theorem extM_stop {data : List Nat} {i d f n : Nat} (h : ¬ (i + n < data.length ∧ data.getD (i + n) 0 = data.getD (i + n - d) 0)) : extM data i d f n = n := by
 cases f with
 | zero => rfl
 | succ f => rw [extM, if_neg h]

theorem mlM_from {data : List Nat} {i d : Nat} (n : Nat) (hn : n ≤ 258) (h : ∀ j, j < n → i + j < data.length ∧ data.getD (i + j) 0 = data.getD (i + j - d) 0) : mlM data i d = extM data i d (258 - n) n := by
 induction n with
 | zero => rfl
 | succ n ih =>
  rw [ih (by omega) (fun j hj => h j (by omega))]
  have := h n (by omega)
  rw [show 258 - n = (258 - (n + 1)) + 1 by omega, extM_step this.1 this.2]

def bestM (data : List Nat) (i : Nat) : Nat → Nat × Nat
 | 0 => (0, 0)
 | k + 1 => if 3 ≤ mlM data i (k + 1) ∧ (bestM data i k).1 < mlM data i (k + 1) then (mlM data i (k + 1), k + 1) else bestM data i k

def matM (data : List Nat) (i : Nat) : Nat × Nat := bestM data i i

theorem bestM_skip {data : List Nat} {i k : Nat} (h : mlM data i (k + 1) < 3 ∨ mlM data i (k + 1) ≤ (bestM data i k).1) : bestM data i (k + 1) = bestM data i k := by
 rw [bestM, if_neg (by omega)]
theorem bestM_take {data : List Nat} {i k : Nat} (h : 3 ≤ mlM data i (k + 1)) (h2 : (bestM data i k).1 < mlM data i (k + 1)) : bestM data i (k + 1) = (mlM data i (k + 1), k + 1) := by
 rw [bestM, if_pos ⟨h, h2⟩]

theorem bestM_is (data : List Nat) (i k : Nat) : bestM data i k = (0, 0) ∨ ∃ d, 1 ≤ d ∧ d ≤ k ∧ bestM data i k = (mlM data i d, d) ∧ 3 ≤ mlM data i d := by
 induction k with
 | zero => exact .inl rfl
 | succ k ih =>
  rw [bestM]
  split
  ·rename_i h; exact .inr ⟨k + 1, by omega, by omega, rfl, h.1⟩
  ·rcases ih with h | ⟨d, h1, h2, h3⟩
   ·exact .inl h
   ·exact .inr ⟨d, h1, by omega, h3⟩

theorem bestM_full {data : List Nat} {i k : Nat} (m : Nat) (hm : ∀ d, mlM data i d ≤ m) (h : m ≤ (bestM data i k).1) (j : Nat) : bestM data i (k + j) = bestM data i k := by
 induction j with
 | zero => rfl
 | succ j ih => rw [← Nat.add_assoc, bestM_skip (by rw [ih]; have := hm (k + j + 1); omega), ih]

theorem bestM_none {data : List Nat} {i k j : Nat} (h : ∀ d, k < d → d ≤ k + j → mlM data i d < 3) : bestM data i (k + j) = bestM data i k := by
 induction j with
 | zero => rfl
 | succ j ih => rw [← Nat.add_assoc, bestM_skip (.inl (h (k + j + 1) (by omega) (by omega))), ih (fun d h1 h2 => h d h1 (by omega))]

theorem matM_cases (data : List Nat) (i : Nat) : (matM data i = (0, 0)) ∨ ∃ n d, matM data i = (n, d) ∧ 3 ≤ n ∧ n ≤ 258 ∧ 1 ≤ d ∧ d ≤ i ∧ i + n ≤ data.length ∧ ∀ j, j < n → data.getD (i + j) 0 = data.getD (i + j - d) 0 := by
 rcases bestM_is data i i with h | ⟨d, h1, h2, h3, h4⟩
 ·exact .inl h
 ·refine .inr ⟨mlM data i d, d, h3, h4, mlM_le data i d, h1, h2, ?_, fun j hj => (mlM_agree data i d j hj).2⟩
  rcases mlM_in data i d with h | h
  ·omega
  ·exact h

def tokM (data : List Nat) : Nat → Nat → List TK
 | 0, _ => []
 | f + 1, i =>
  if i < data.length then
   (if (matM data i).1 = 0 ∨ (matM data i).1 < (matM data (i + 1)).1 then ⟨data.getD i 0, 0, 0⟩ :: tokM data f (i + 1)
   else ⟨0, ((matM data i).1 : Int), ((matM data i).2 : Int)⟩ :: tokM data f (i + (matM data i).1))
  else []

def findM (data : List Nat) : List TK := if 16384 < data.length then [] else tokM data data.length 0

theorem tokM_end {data : List Nat} {f i : Nat} (h : data.length ≤ i) : tokM data f i = [] := by
 cases f with
 | zero => rfl
 | succ f => rw [tokM, if_neg (by omega)]
theorem tokM_lit {data : List Nat} {f i : Nat} (h : i < data.length) (hm : (matM data i).1 = 0 ∨ (matM data i).1 < (matM data (i + 1)).1) : tokM data (f + 1) i = ⟨data.getD i 0, 0, 0⟩ :: tokM data f (i + 1) := by
 rw [tokM, if_pos h, if_pos hm]
theorem tokM_copy {data : List Nat} {f i : Nat} (h : i < data.length) (hm : ¬ ((matM data i).1 = 0 ∨ (matM data i).1 < (matM data (i + 1)).1)) : tokM data (f + 1) i = ⟨0, ((matM data i).1 : Int), ((matM data i).2 : Int)⟩ :: tokM data f (i + (matM data i).1) := by
 rw [tokM, if_pos h, if_neg hm]

theorem tokM_fuel {data : List Nat} {f g i : Nat} (hf : data.length - i ≤ f) (hg : data.length - i ≤ g) : tokM data f i = tokM data g i := by
 induction f generalizing g i with
 | zero => rw [tokM_end (by omega), tokM_end (by omega)]
 | succ f ih =>
  by_cases h : i < data.length
  ·obtain ⟨g, rfl⟩ : ∃ g', g = g' + 1 := ⟨g - 1, by omega⟩
   by_cases hm : (matM data i).1 = 0 ∨ (matM data i).1 < (matM data (i + 1)).1
   ·rw [tokM_lit h hm, tokM_lit h hm, ih (g := g) (by omega) (by omega)]
   ·rw [tokM_copy h hm, tokM_copy h hm, ih (g := g) (by omega) (by omega)]
  ·rw [tokM_end (by omega), tokM_end (by omega)]

end Go.Proofs.YtljlmfnbeofmmaaGreatDoor

namespace Go.Proofs.YtljlmfnbeofmmaaGreatDoor

def triB (data : List Nat) (q a b c : Nat) : Bool := data.getD q 0 == a && data.getD (q + 1) 0 == b && data.getD (q + 2) 0 == c

theorem triB_iff (data : List Nat) (q a b c : Nat) : triB data q a b c = true ↔ (data.getD q 0 = a ∧ data.getD (q + 1) 0 = b ∧ data.getD (q + 2) 0 = c) := by
 simp [triB, and_assoc]

def lastM (data : List Nat) (a b c : Nat) : Nat → Option Nat
 | 0 => none
 | i + 1 => if triB data i a b c = true then some i else lastM data a b c i

theorem lastM_some {data : List Nat} {a b c i q : Nat} (h : lastM data a b c i = some q) : q < i ∧ triB data q a b c = true ∧ ∀ p, q < p → p < i → triB data p a b c = false := by
 induction i with
 | zero => cases h
 | succ i ih =>
  unfold lastM at h
  split at h
  ·rename_i h1
   simp only [Option.some.injEq] at h
   subst h
   exact ⟨by omega, h1, fun p h2 h3 => by omega⟩
  ·rename_i h1
   obtain ⟨g1, g2, g3⟩ := ih h
   refine ⟨by omega, g2, fun p h2 h3 => ?_⟩
   by_cases hp : p = i
   ·subst hp; simpa using h1
   ·exact g3 p h2 (by omega)

theorem lastM_none {data : List Nat} {a b c i : Nat} (h : lastM data a b c i = none) : ∀ p, p < i → triB data p a b c = false := by
 induction i with
 | zero => intro p hp; omega
 | succ i ih =>
  unfold lastM at h
  split at h
  ·cases h
  ·rename_i h1
   intro p hp
   by_cases he : p = i
   ·subst he; simpa using h1
   ·exact ih h p (by omega)

def chA (data : List Nat) (i : Nat) : Int :=
 match lastM data (data.getD i 0) (data.getD (i + 1) 0) (data.getD (i + 2) 0) i with
 | some q => (q : Int)
 | none => -1

def chM (data : List Nat) : List Int := (List.range (data.length - 2)).map (chA data)

theorem chM_length (data : List Nat) : (chM data).length = data.length - 2 := by simp [chM]
theorem chM_get (data : List Nat) (i : Nat) (_h : i < data.length - 2) (h' : i < (chM data).length) : (chM data)[i] = chA data i := by simp [chM]

def sameB (data : List Nat) (p i : Nat) : Bool := triB data p (data.getD i 0) (data.getD (i + 1) 0) (data.getD (i + 2) 0)

theorem sameB_iff (data : List Nat) (p i : Nat) : sameB data p i = true ↔ (data.getD p 0 = data.getD i 0 ∧ data.getD (p + 1) 0 = data.getD (i + 1) 0 ∧ data.getD (p + 2) 0 = data.getD (i + 2) 0) := triB_iff _ _ _ _ _

theorem sameB_trans {data : List Nat} {p q i : Nat} (h : sameB data q i = true) : sameB data p i = sameB data p q := by
 have h1 := (sameB_iff data q i).1 h
 rw [Bool.eq_iff_iff, sameB_iff, sameB_iff, h1.1, h1.2.1, h1.2.2]

theorem chA_cases (data : List Nat) (i : Nat) : (∃ q : Nat, chA data i = q ∧ q < i ∧ sameB data q i = true ∧ ∀ p, q < p → p < i → sameB data p i = false) ∨ (chA data i = -1 ∧ ∀ p, p < i → sameB data p i = false) := by
 unfold chA
 split
 ·rename_i q h; exact .inl ⟨q, rfl, lastM_some h⟩
 ·rename_i h; exact .inr ⟨rfl, lastM_none h⟩

theorem mlM_three {data : List Nat} {i d : Nat} (hd : d ≤ i) (h : sameB data (i - d) i = false) : mlM data i d < 3 := by
 refine Nat.lt_of_not_le (fun hc => ?_)
 have h0 := (mlM_agree data i d 0 (by omega)).2
 have h1 := (mlM_agree data i d 1 (by omega)).2
 have h2 := (mlM_agree data i d 2 (by omega)).2
 have : sameB data (i - d) i = true := by
  rw [sameB_iff]
  refine ⟨?_, ?_, ?_⟩
  ·rw [show i - d = i + 0 - d by omega]; exact h0.symm
  ·rw [show i - d + 1 = i + 1 - d by omega]; exact h1.symm
  ·rw [show i - d + 2 = i + 2 - d by omega]; exact h2.symm
 rw [h] at this
 cases this

def Found (data : List Nat) (i : Nat) (fr : Int) (n d : Nat) : Prop := (n, d) = bestM data i ((i : Int) - 1 - fr).toNat

theorem Found.start {data : List Nat} {i : Nat} : Found data i (chA data i) 0 0 := by
 unfold Found
 rcases chA_cases data i with ⟨q, h1, h2, h3, h4⟩ | ⟨h1, h2⟩
 ·rw [h1, show ((i : Int) - 1 - (q : Int)).toNat = 0 + (i - 1 - q) by omega, bestM_none]
  ·rfl
  ·intro d hd1 hd2
   exact mlM_three (by omega) (h4 (i - d) (by omega) (by omega))
 ·rw [h1, show ((i : Int) - 1 - (-1)).toNat = 0 + i by omega, bestM_none]
  ·rfl
  ·intro d hd1 hd2
   exact mlM_three (by omega) (h2 (i - d) (by omega))

theorem Found.next {data : List Nat} {i q n d : Nat} (hq : q < i) (hs : sameB data q i = true) (h : (n, d) = bestM data i (i - q)) : Found data i (chA data q) n d := by
 unfold Found
 rcases chA_cases data q with ⟨p, h1, h2, h3, h4⟩ | ⟨h1, h2⟩
 ·rw [h1, show ((i : Int) - 1 - (p : Int)).toNat = (i - q) + (q - 1 - p) by omega, bestM_none]
  ·exact h
  ·intro e he1 he2
   refine mlM_three (by omega) ?_
   rw [sameB_trans hs]
   exact h4 (i - e) (by omega) (by omega)
 ·rw [h1, show ((i : Int) - 1 - (-1)).toNat = (i - q) + q by omega, bestM_none]
  ·exact h
  ·intro e he1 he2
   refine mlM_three (by omega) ?_
   rw [sameB_trans hs]
   exact h2 (i - e) (by omega)

theorem Found.done {data : List Nat} {i n d : Nat} (h : Found data i (-1) n d) : (n, d) = matM data i := by
 unfold Found at h
 rw [show ((i : Int) - 1 - (-1)).toNat = i by omega] at h
 exact h

theorem Found.at {data : List Nat} {i q n d : Nat} (hq : q < i) (h : Found data i (q : Int) n d) : (n, d) = bestM data i (i - q - 1) := by
 unfold Found at h
 rw [show ((i : Int) - 1 - (q : Int)).toNat = i - q - 1 by omega] at h
 exact h

theorem Found.not {data : List Nat} {i q n d : Nat} (hq : q < i) (hs : sameB data q i = true) (h : Found data i (q : Int) n d) (hm : mlM data i (i - q) ≤ n) : Found data i (chA data q) n d := by
 refine Found.next hq hs ?_
 have h1 := h.at hq
 have e : i - q = (i - q - 1) + 1 := by omega
 rw [e, bestM_skip (.inr (by rw [← h1, ← e]; exact hm))]
 exact h1

theorem Found.more {data : List Nat} {i q n d : Nat} (hq : q < i) (hs : sameB data q i = true) (h : Found data i (q : Int) n d) (h3 : 3 ≤ mlM data i (i - q)) (hm : n < mlM data i (i - q)) : Found data i (chA data q) (mlM data i (i - q)) (i - q) ∧ bestM data i (i - q) = (mlM data i (i - q), i - q) := by
 have h1 := h.at hq
 have e : i - q = (i - q - 1) + 1 := by omega
 have hb : bestM data i (i - q) = (mlM data i (i - q), i - q) := by
  have := bestM_take (data := data) (i := i) (k := i - q - 1) (by rw [← e]; exact h3) (by rw [← h1, ← e]; exact hm)
  rw [← e] at this
  exact this
 exact ⟨Found.next hq hs hb.symm, hb⟩

theorem Found.full {data : List Nat} {i q n d m : Nat} (hq : q < i) (hs : sameB data q i = true) (h : Found data i (q : Int) n d) (hm : mlM data i (i - q) = m) (h3 : 3 ≤ m) (hn : n < m) (hmax : ∀ e, mlM data i e ≤ m) : (m, i - q) = matM data i := by
 have h1 := (h.more hq hs (by omega) (by omega)).2
 unfold matM
 have := bestM_full (data := data) (i := i) (k := i - q) m hmax (by rw [h1]; simp only; omega) q
 rw [show i - q + q = i by omega] at this
 rw [this, h1, hm]

theorem mlM_max (data : List Nat) (i d : Nat) (h : i ≤ data.length) : mlM data i d ≤ min 258 (data.length - i) := by
 have h1 := mlM_le data i d
 rcases mlM_in data i d with h2 | h2 <;> omega

theorem matM_short {data : List Nat} {i : Nat} (h : data.length < i + 3) : matM data i = (0, 0) := by
 rcases matM_cases data i with h1 | ⟨n, d, _, h3, _, _, _, h4, _⟩
 ·exact h1
 ·omega

end Go.Proofs.YtljlmfnbeofmmaaGreatDoor

namespace Go.Proofs.YtljlmfnbeofmmaaGreatDoor

theorem take_more (data : List Nat) (i : Nat) (h : i < data.length) : data.take (i + 1) = data.take i ++ [data.getD i 0] := by
 rw [List.take_succ_eq_append_getElem h]; simp [List.getD, h]

theorem cpT_data {data : List Nat} {i d : Nat} (hd : 1 ≤ d) (hd2 : d ≤ i) (n : Nat) (hn : i + n ≤ data.length) (h : ∀ j, j < n → data.getD (i + j) 0 = data.getD (i + j - d) 0) : cpT d n (data.take i) = data.take (i + n) := by
 induction n with
 | zero => rfl
 | succ n ih =>
  have hl : (data.take (i + n)).length = i + n := by rw [List.length_take]; omega
  rw [cpT_more, ih (by omega) (fun j hj => h j (by omega)), hl, ← Nat.add_assoc, take_more data (i + n) (by omega), h n (by omega)]
  have : (data.take (i + n)).getD (i + n - d) 0 = data.getD (i + n - d) 0 := by
   simp only [List.getD]
   rw [List.getElem?_take_of_lt (by omega)]
  rw [this]

theorem tok_cases {data : List Nat} {f i : Nat} (h : i < data.length) : ∃ (t : TK) (n : Nat), tokM data (f + 1) i = t :: tokM data f (i + n) ∧ mayT t i = true ∧ tlen t = n ∧ 1 ≤ n ∧ i + n ≤ data.length ∧ sayT (data.take i) t = data.take (i + n) ∧ (t.len = 0 → t.lit = data.getD i 0 ∧ n = 1) := by
 rcases matM_cases data i with h0 | ⟨n, d, h0, h1, h2, h3, h4, h5, h6⟩
 ·refine ⟨⟨data.getD i 0, 0, 0⟩, 1, tokM_lit h (.inl (by rw [h0])), rfl, rfl, by omega, by omega, ?_, fun _ => ⟨rfl, rfl⟩⟩
  unfold sayT
  rw [if_pos rfl, take_more data i h]
 ·by_cases hm : (matM data i).1 = 0 ∨ (matM data i).1 < (matM data (i + 1)).1
  ·refine ⟨⟨data.getD i 0, 0, 0⟩, 1, tokM_lit h hm, rfl, rfl, by omega, by omega, ?_, fun _ => ⟨rfl, rfl⟩⟩
   unfold sayT
   rw [if_pos rfl, take_more data i h]
  ·refine ⟨⟨0, (n : Int), (d : Int)⟩, n, by rw [tokM_copy h hm, h0], ?_, ?_, by omega, h5, ?_, fun e => ?_⟩
   ·unfold mayT
    rw [if_neg (by simp; omega)]
    simp
    omega
   ·unfold tlen; simp only; omega
   ·unfold sayT
    rw [if_neg (by simp; omega)]
    exact cpT_data h3 h4 n h5 h6
   ·simp at e; omega

theorem expT_data {data : List Nat} {f i : Nat} (hf : data.length - i ≤ f) (hi : i ≤ data.length) : expT (tokM data f i) (data.take i) = data := by
 induction f generalizing i with
 | zero => rw [tokM_end (by omega), show i = data.length by omega, List.take_length]; rfl
 | succ f ih =>
  by_cases h : i < data.length
  ·obtain ⟨t, n, e, _, _, h1, h2, h3, _⟩ := tok_cases (f := f) h
   rw [e]
   show expT (tokM data f (i + n)) (sayT (data.take i) t) = data
   rw [h3]
   exact ih (by omega) h2
  ·rw [tokM_end (by omega), show i = data.length by omega, List.take_length]; rfl

theorem measT_data {data : List Nat} {f i most : Nat} (hf : data.length - i ≤ f) (hi : i ≤ data.length) (hm : data.length ≤ most) : measT most (tokM data f i) i = .ok data.length := by
 induction f generalizing i with
 | zero => rw [tokM_end (by omega), show i = data.length by omega]; rfl
 | succ f ih =>
  by_cases h : i < data.length
  ·obtain ⟨t, n, e, hmay, ht, h1, h2, _, _⟩ := tok_cases (f := f) h
   rw [e, measT, if_neg (by rw [hmay]; decide), ht, if_neg (by omega)]
   exact ih (by omega) h2
  ·rw [tokM_end (by omega), show i = data.length by omega]; rfl

end Go.Proofs.YtljlmfnbeofmmaaGreatDoor
