/-
  Plain arithmetic of SHA-256 and HMAC: nothing of the program.
-/
import Derived.Test.YtfhfnkhiomahfaaGreatDoorMath
namespace Go.Proofs.YtfhfnkhiomahfaaGreatDoor

/-- A word turned by n bits to the right. -/
def rot (x n : Nat) : Nat := x / 2 ^ n ||| x * 2 ^ (32 - n) % 4294967296
def add3 (a b : Nat) : Nat := (a + b) % 4294967296
def neg3 (x : Nat) : Nat := 4294967295 - x
def earF (x : Nat) : Nat := rot x 7 ^^^ rot x 18 ^^^ x / 8
def latF (x : Nat) : Nat := rot x 17 ^^^ rot x 19 ^^^ x / 1024
def narF (x : Nat) : Nat := rot x 2 ^^^ rot x 13 ^^^ rot x 22
def widF (x : Nat) : Nat := rot x 6 ^^^ rot x 11 ^^^ rot x 25
def choF (x y z : Nat) : Nat := (x &&& y) ^^^ (neg3 x &&& z)
def mosF (x y z : Nat) : Nat := (x &&& y) ^^^ (x &&& z) ^^^ (y &&& z)

theorem pow32 : (4294967296 : Nat) = 2 ^ 32 := by decide
theorem xor3_lt {a b : Nat} (ha : a < 4294967296) (hb : b < 4294967296) : a ^^^ b < 4294967296 := by
  rw [pow32] at *; exact Nat.xor_lt_two_pow ha hb
theorem or3_lt {a b : Nat} (ha : a < 4294967296) (hb : b < 4294967296) : a ||| b < 4294967296 := by
  rw [pow32] at *; exact Nat.or_lt_two_pow ha hb
theorem and3_lt {a b : Nat} (hb : b < 4294967296) : a &&& b < 4294967296 := by
  rw [pow32] at *; exact Nat.and_lt_two_pow _ hb
theorem neg3_lt (x : Nat) : neg3 x < 4294967296 := by unfold neg3; omega
theorem add3_lt (a b : Nat) : add3 a b < 4294967296 := by unfold add3; omega
theorem div3_lt {x : Nat} (n : Nat) (h : x < 4294967296) : x / 2 ^ n < 4294967296 := Nat.lt_of_le_of_lt (Nat.div_le_self _ _) h
theorem rot_lt {x : Nat} (n : Nat) (h : x < 4294967296) : rot x n < 4294967296 := or3_lt (div3_lt n h) (Nat.mod_lt _ (by decide))
theorem earF_lt {x : Nat} (h : x < 4294967296) : earF x < 4294967296 := xor3_lt (xor3_lt (rot_lt _ h) (rot_lt _ h)) (by omega)
theorem latF_lt {x : Nat} (h : x < 4294967296) : latF x < 4294967296 := xor3_lt (xor3_lt (rot_lt _ h) (rot_lt _ h)) (by omega)
theorem narF_lt {x : Nat} (h : x < 4294967296) : narF x < 4294967296 := xor3_lt (xor3_lt (rot_lt _ h) (rot_lt _ h)) (rot_lt _ h)
theorem widF_lt {x : Nat} (h : x < 4294967296) : widF x < 4294967296 := xor3_lt (xor3_lt (rot_lt _ h) (rot_lt _ h)) (rot_lt _ h)
theorem choF_lt {x y z : Nat} (hy : y < 4294967296) (hz : z < 4294967296) : choF x y z < 4294967296 := xor3_lt (and3_lt hy) (and3_lt hz)
theorem mosF_lt {x y z : Nat} (hy : y < 4294967296) (hz : z < 4294967296) : mosF x y z < 4294967296 := xor3_lt (xor3_lt (and3_lt hy) (and3_lt hz)) (and3_lt hz)

/-- The words k. -/
def kL : List Nat := [
  0x428a2f98, 0x71374491, 0xb5c0fbcf, 0xe9b5dba5, 0x3956c25b, 0x59f111f1, 0x923f82a4, 0xab1c5ed5,
  0xd807aa98, 0x12835b01, 0x243185be, 0x550c7dc3, 0x72be5d74, 0x80deb1fe, 0x9bdc06a7, 0xc19bf174,
  0xe49b69c1, 0xefbe4786, 0x0fc19dc6, 0x240ca1cc, 0x2de92c6f, 0x4a7484aa, 0x5cb0a9dc, 0x76f988da,
  0x983e5152, 0xa831c66d, 0xb00327c8, 0xbf597fc7, 0xc6e00bf3, 0xd5a79147, 0x06ca6351, 0x14292967,
  0x27b70a85, 0x2e1b2138, 0x4d2c6dfc, 0x53380d13, 0x650a7354, 0x766a0abb, 0x81c2c92e, 0x92722c85,
  0xa2bfe8a1, 0xa81a664b, 0xc24b8b70, 0xc76c51a3, 0xd192e819, 0xd6990624, 0xf40e3585, 0x106aa070,
  0x19a4c116, 0x1e376c08, 0x2748774c, 0x34b0bcb5, 0x391c0cb3, 0x4ed8aa4a, 0x5b9cca4f, 0x682e6ff3,
  0x748f82ee, 0x78a5636f, 0x84c87814, 0x8cc70208, 0x90befffa, 0xa4506ceb, 0xbef9a3f7, 0xc67178f2]

def ivL : List Nat := [0x6a09e667, 0xbb67ae85, 0x3c6ef372, 0xa54ff53a, 0x510e527f, 0x9b05688c, 0x1f83d9ab, 0x5be0cd19]

/-- A list of words, all of them words. -/
def Wds (n : Nat) (l : List Nat) : Prop := l.length = n ∧ ∀ x ∈ l, x < 4294967296

theorem kL_wds : Wds 64 kL := ⟨by decide, by decide⟩
theorem ivL_wds : Wds 8 ivL := ⟨by decide, by decide⟩

theorem Wds.get {n : Nat} {l : List Nat} (h : Wds n l) (i : Nat) : l.getD i 0 < 4294967296 := by
  by_cases hi : i < l.length
  · rw [List.getD_eq_getElem?_getD, List.getElem?_eq_getElem hi]
    exact h.2 _ (List.getElem_mem _)
  · rw [List.getD_eq_getElem?_getD, List.getElem?_eq_none (by omega)]
    decide

/-- The n first words of a block of bytes, the highest byte first. -/
def wd4 (b : List Nat) (i : Nat) : Nat := ((b.getD (4 * i) 0 * 256 + b.getD (4 * i + 1) 0) * 256 + b.getD (4 * i + 2) 0) * 256 + b.getD (4 * i + 3) 0
def wdsB (b : List Nat) : Nat → List Nat
  | 0 => []
  | n + 1 => wdsB b n ++ [wd4 b n]

/-- The next word. -/
def nxW (l : List Nat) : Nat := add3 (add3 (add3 (l.getD (l.length - 16) 0) (earF (l.getD (l.length - 15) 0))) (l.getD (l.length - 7) 0)) (latF (l.getD (l.length - 2) 0))
def extW : Nat → List Nat → List Nat
  | 0, l => l
  | n + 1, l => extW n l ++ [nxW (extW n l)]

def schW (b : List Nat) : List Nat := extW 48 (wdsB b 16)

theorem wdsB_length (b : List Nat) (n : Nat) : (wdsB b n).length = n := by
  induction n with
  | zero => rfl
  | succ n ih => simp [wdsB, ih]

theorem wd4_lt (b : List Nat) (hb : ∀ x ∈ b, x < 256) (i : Nat) : wd4 b i < 4294967296 := by
  have hg : ∀ j, b.getD j 0 < 256 := by
    intro j
    by_cases hj : j < b.length
    · rw [List.getD_eq_getElem?_getD, List.getElem?_eq_getElem hj]; exact hb _ (List.getElem_mem _)
    · rw [List.getD_eq_getElem?_getD, List.getElem?_eq_none (by omega)]; decide
  have h0 := hg (4 * i)
  have h1 := hg (4 * i + 1)
  have h2 := hg (4 * i + 2)
  have h3 := hg (4 * i + 3)
  unfold wd4
  omega

theorem wdsB_wds (b : List Nat) (hb : ∀ x ∈ b, x < 256) (n : Nat) : Wds n (wdsB b n) := by
  refine ⟨wdsB_length b n, ?_⟩
  induction n with
  | zero => simp [wdsB]
  | succ n ih =>
    intro x hx
    rcases List.mem_append.1 hx with h | h
    · exact ih x h
    · simp at h; rw [h]; exact wd4_lt b hb n

theorem nxW_lt (l : List Nat) : nxW l < 4294967296 := add3_lt _ _

theorem extW_wds {m : Nat} {l : List Nat} (h : Wds m l) (n : Nat) : Wds (m + n) (extW n l) := by
  induction n with
  | zero => exact h
  | succ n ih =>
    refine ⟨by simp [extW, ih.1]; omega, fun x hx => ?_⟩
    rcases List.mem_append.1 hx with q | q
    · exact ih.2 x q
    · simp at q; rw [q]; exact nxW_lt _

theorem schW_wds (b : List Nat) (hb : ∀ x ∈ b, x < 256) : Wds 64 (schW b) := extW_wds (wdsB_wds b hb 16) 48

/-- The eight words on their way. -/
structure S8 where
  a : Nat
  b : Nat
  c : Nat
  d : Nat
  e : Nat
  f : Nat
  g : Nat
  h : Nat

def S8.L (s : S8) : List Nat := [s.a, s.b, s.c, s.d, s.e, s.f, s.g, s.h]
def S8.of (l : List Nat) : S8 := ⟨l.getD 0 0, l.getD 1 0, l.getD 2 0, l.getD 3 0, l.getD 4 0, l.getD 5 0, l.getD 6 0, l.getD 7 0⟩

def tF (s : S8) (k w : Nat) : Nat := add3 (add3 (add3 (add3 s.h (widF s.e)) (choF s.e s.f s.g)) k) w
def uF (s : S8) : Nat := add3 (narF s.a) (mosF s.a s.b s.c)
def rnd (s : S8) (k w : Nat) : S8 := ⟨add3 (tF s k w) (uF s), s.a, s.b, s.c, add3 s.d (tF s k w), s.e, s.f, s.g⟩
def rnds (s : S8) (ws : List Nat) : Nat → S8
  | 0 => s
  | n + 1 => rnd (rnds s ws n) (kL.getD n 0) (ws.getD n 0)

def sumW (x y : List Nat) : List Nat := (List.range 8).map fun i => add3 (x.getD i 0) (y.getD i 0)
def mixF (h : List Nat) (b : List Nat) : List Nat := sumW h (rnds (S8.of h) (schW b) 64).L

theorem S8.of_L {l : List Nat} (h : l.length = 8) : (S8.of l).L = l := by
  match l, h with
  | [x0, x1, x2, x3, x4, x5, x6, x7], _ => rfl

theorem sumW_wds (x y : List Nat) : Wds 8 (sumW x y) := by
  refine ⟨by simp [sumW], fun v hv => ?_⟩
  obtain ⟨i, _, rfl⟩ := List.mem_map.1 hv
  exact add3_lt _ _

theorem mixF_wds (h b : List Nat) : Wds 8 (mixF h b) := sumW_wds _ _

def S8.Ok (s : S8) : Prop := s.a < 4294967296 ∧ s.b < 4294967296 ∧ s.c < 4294967296 ∧ s.d < 4294967296 ∧ s.e < 4294967296 ∧ s.f < 4294967296 ∧ s.g < 4294967296 ∧ s.h < 4294967296

theorem S8.of_ok {n : Nat} {l : List Nat} (h : Wds n l) : (S8.of l).Ok := ⟨h.get _, h.get _, h.get _, h.get _, h.get _, h.get _, h.get _, h.get _⟩
theorem rnd_ok {s : S8} (h : s.Ok) (k w : Nat) : (rnd s k w).Ok := ⟨add3_lt _ _, h.1, h.2.1, h.2.2.1, add3_lt _ _, h.2.2.2.2.1, h.2.2.2.2.2.1, h.2.2.2.2.2.2.1⟩
theorem rnds_ok {s : S8} (h : s.Ok) (ws : List Nat) (n : Nat) : (rnds s ws n).Ok := by
  induction n with
  | zero => exact h
  | succ n ih => exact rnd_ok ih _ _

/-- The words behind n blocks of bytes. -/
def blkS (bs : List Nat) : Nat → List Nat
  | 0 => ivL
  | n + 1 => mixF (blkS bs n) ((bs.drop (64 * n)).take 64)

theorem blkS_wds (bs : List Nat) (n : Nat) : Wds 8 (blkS bs n) := by
  cases n with
  | zero => exact ivL_wds
  | succ n => exact mixF_wds _ _

theorem blkS_append (a b : List Nat) (n : Nat) (h : 64 * n ≤ a.length) : blkS (a ++ b) n = blkS a n := by
  induction n with
  | zero => rfl
  | succ n ih =>
    simp only [blkS]
    rw [ih (by omega), List.drop_append_of_le_length (by omega), List.take_append_of_le_length (by simp; omega)]

/-- The n bytes of a number, the highest first. -/
def beB (v : Nat) : Nat → List Nat
  | 0 => []
  | n + 1 => v / 256 ^ n % 256 :: beB v n

theorem beB_length (v n : Nat) : (beB v n).length = n := by
  induction n with
  | zero => rfl
  | succ n ih => simp [beB, ih]

theorem beB_lt (v n : Nat) : ∀ x ∈ beB v n, x < 256 := by
  induction n with
  | zero => simp [beB]
  | succ n ih =>
    intro x hx
    rcases List.mem_cons.1 hx with h | h
    · omega
    · exact ih x h

/-- How many noughts stand between. -/
def zeN (n : Nat) : Nat := (119 - n % 64) % 64
def tailB (n : Nat) : List Nat := 128 :: (List.replicate (zeN n) 0 ++ beB (8 * n) 8)
def padB (bs : List Nat) : List Nat := bs ++ tailB bs.length

theorem tailB_length (n : Nat) : (tailB n).length = 9 + zeN n := by simp [tailB, beB_length]; omega
theorem padB_mod (bs : List Nat) : (padB bs).length % 64 = 0 := by
  unfold padB
  rw [List.length_append, tailB_length]
  unfold zeN
  omega

theorem tailB_lt (n : Nat) : ∀ x ∈ tailB n, x < 256 := by
  intro x hx
  rcases List.mem_cons.1 hx with h | h
  · omega
  · rcases List.mem_append.1 h with q | q
    · have := List.eq_of_mem_replicate q; omega
    · exact beB_lt _ _ x q

/-- The bytes of words. -/
def digB (ws : List Nat) : List Nat := ws.flatMap fun x => beB x 4

theorem digB_length {n : Nat} {ws : List Nat} (h : ws.length = n) : (digB ws).length = 4 * n := by
  induction ws generalizing n with
  | nil => simp at h; subst h; rfl
  | cons x l ih =>
    simp at h
    subst h
    have := ih rfl
    unfold digB at this ⊢
    rw [List.flatMap_cons, List.length_append, this, beB_length]
    omega

theorem digB_lt (ws : List Nat) : ∀ x ∈ digB ws, x < 256 := by
  intro x hx
  obtain ⟨y, _, h⟩ := List.mem_flatMap.1 hx
  exact beB_lt _ _ x h

def shaF (bs : List Nat) : List Nat := digB (blkS (padB bs) ((padB bs).length / 64))

theorem shaF_length (bs : List Nat) : (shaF bs).length = 32 := digB_length (blkS_wds _ _).1
theorem shaF_lt (bs : List Nat) : ∀ x ∈ shaF bs, x < 256 := digB_lt _

/-- The key as a block. -/
def kyB (key : List Nat) : List Nat :=
  let k := if 64 < key.length then shaF key else key
  k ++ List.replicate (64 - k.length) 0
def macF (key bs : List Nat) : List Nat := shaF ((kyB key).map (· ^^^ 92) ++ shaF ((kyB key).map (· ^^^ 54) ++ bs))

theorem sha_nil : (shaF []).take 4 = [0xe3, 0xb0, 0xc4, 0x42] := by decide +kernel
theorem sha_a : (shaF [97]).take 4 = [0xca, 0x97, 0x81, 0x12] := by decide +kernel
theorem sha_abc : (shaF [97, 98, 99]).take 4 = [0xba, 0x78, 0x16, 0xbf] := by decide +kernel
theorem mac_nil : (macF [] []).take 4 = [0xb6, 0x13, 0x67, 0x9a] := by decide +kernel

end Go.Proofs.YtfhfnkhiomahfaaGreatDoor
