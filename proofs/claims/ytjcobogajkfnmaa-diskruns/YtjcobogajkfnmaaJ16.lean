/-
  Of the proof: parts LGet, LGets.
-/
import Derived.RangeFuncBox
import Derived.Laws.BitsAllLaws
import Derived.RangeFuncLeaves
import Derived.Shelf.Abstract
import Derived.WalkKit
import Derived.OwnWalkIn
import Derived.TacticsInMore
import Derived.LoopNIn
import Derived.LoopIn
import Derived.Test.YtjcobogajkfnmaaJ3
import Derived.Test.YtjcobogajkfnmaaJ1

/-
  The calls that read numbers in bytes: a range over slices.Backward.
-/
namespace Go.Proofs.Ytjcobogajkfnmaa
open Go.RowKit Go.Shelf

attribute [local go_sem] Oper.semAt_some

/-- What the iterator hands on: a place and a byte. -/
abbrev Spot := Nat × Fin 256

def spotV (x : Spot) : Array Value := #[.int .i64 (x.1 : Int), .int .u8 (x.2.val : Int)]

/-- What has come when k rounds are over. -/
def upto (f : Nat → Spot) (k : Nat) : List Spot := (List.range k).map f
theorem upto_succ (f : Nat → Spot) (k : Nat) : upto f (k + 1) = upto f k ++ [f k] := by simp [upto, List.range_succ]
theorem upto_length (f : Nat → Spot) (k : Nat) : (upto f k).length = k := by simp [upto]

/-- What a round keeps: all below n₀, and one block more. -/
def Holds (n₀ B : Nat) (W W' : World) : Prop := Below n₀ W W' ∧ W'.heap[B]? = W.heap[B]?

theorem Holds.trans {n₀ B : Nat} {X Y Z : World} (h : Holds n₀ B X Y) (k : Holds n₀ B Y Z) : Holds n₀ B X Z := ⟨h.1.trans k.1, k.2.trans h.2⟩

theorem Holds.put {n₀ B : Nat} {w : World} (hn : n₀ ≤ w.heap.size) (hB : B < w.heap.size) (W : World) (l : Nat) (o o' : Obj) (hl : w.heap.size ≤ l) (h : W.heap[l]? = some o) (h1 : o.isCells = false) (h2 : o.isWalk = false) : Holds n₀ B W (W.putObj l o') := by
  have hlt := (Array.getElem?_eq_some_iff.1 h).1
  exact ⟨belowK_b hn W l o o' hl h h1 h2, (grownBy_putObj' W l o').block B (by omega) (fun e => by cases e; omega)⟩

theorem Holds.set {n₀ B : Nat} {W : World} (p : Addr) (v : Value) (h1 : n₀ ≤ p.block) (h2 : B ≠ p.block) : Holds n₀ B W (W.setCell p v) :=
  ⟨(Below.refl n₀ W).setCell (p := p) h1 v, Below.heap_setCell _ _ _ _ (fun e => h2 e)⟩







/-- The number that the rounds make. -/
def acc (pre : List Spot) : Nat := pre.foldl (fun v p => v * 256 % 18446744073709551616 + p.2.val) 0
theorem acc_snoc (pre : List Spot) (x : Spot) : acc (pre ++ [x]) = acc pre * 256 % 18446744073709551616 + x.2.val := by simp [acc]

theorem or_low (v x : Nat) (hx : x < 256) : (v * 256 % 18446744073709551616) ||| x = v * 256 % 18446744073709551616 + x := by
  have e : v * 256 % 18446744073709551616 = 2 ^ 8 * (v % 72057594037927936) := by omega
  rw [e, ← Nat.two_pow_add_eq_or_of_lt (i := 8) hx]

theorem acc_lt (pre : List Spot) : acc pre < 18446744073709551616 := by
  rcases List.eq_nil_or_concat pre with rfl | ⟨es, x, e⟩
  · simp [acc]
  · subst e
    rw [List.concat_eq_append, acc_snoc]
    have := x.2.isLt
    omega



end Go.Proofs.Ytjcobogajkfnmaa

/-
  Get16, Get32, Get64, and the reference's Get.
-/
namespace Go.Proofs.Ytjcobogajkfnmaa
open Go.RowKit Go.Shelf

theorem range_shift (k a : Nat) (g : Nat → Nat) : (List.range (k + 1)).map (fun j => g (a + j)) = g a :: (List.range k).map (fun j => g (a + 1 + j)) := by
  rw [List.range_succ_eq_map]
  simp only [List.map_cons, List.map_map, Nat.add_zero, List.cons.injEq, true_and]
  apply List.map_congr_left
  intro j _
  simp only [Function.comp]
  congr 1
  omega

theorem acc_upto (f : Nat → Fin 256) (a n : Nat) (hn : n ≤ 8) (k : Nat) (hk : k ≤ n) :
    acc (upto (fun j => (n - 1 - j, f (a + (n - 1 - j)))) k) = n256 ((List.range k).map (fun j => (f (a + (n - k) + j)).val)) := by
  induction k with
  | zero => rfl
  | succ k ih =>
    have e := range_shift k (a + (n - (k + 1))) (fun j => (f j).val)
    rw [upto_succ, acc_snoc, ih (by omega), e, n256]
    have hlt : n256 ((List.range k).map (fun j => (f (a + (n - k) + j)).val)) < 256 ^ ((List.range k).map (fun j => (f (a + (n - k) + j)).val)).length := by
      apply n256_lt
      intro b hb
      obtain ⟨j, _, rfl⟩ := List.mem_map.1 hb
      exact (f _).isLt
    rw [List.length_map, List.length_range] at hlt
    have hpow : (256 : Nat) ^ k ≤ 256 ^ 7 := Nat.pow_le_pow_right (by omega) (by omega)
    have h7 : (256 : Nat) ^ 7 = 72057594037927936 := by decide
    have e1 : a + (n - (k + 1)) + 1 = a + (n - k) := by omega
    have e2 : a + (n - 1 - k) = a + (n - (k + 1)) := by omega
    rw [e1]
    show n256 _ * 256 % 18446744073709551616 + (f (a + (n - 1 - k))).val = _
    rw [e2]
    omega

/-- A byte of a row, as a number below 256. -/
def byteAt (cs : List Nat) (j : Nat) : Fin 256 := ⟨cs[j]?.getD 0 % 256, Nat.mod_lt _ (by decide)⟩

theorem byteAt_get (cs : List Nat) (hb : ∀ b ∈ cs, b < 256) (j : Nat) (hj : j < cs.length) : (byteAt cs j).val = cs[j] := by
  simp only [byteAt, List.getElem?_eq_getElem hj, Option.getD_some]
  exact Nat.mod_eq_of_lt (hb _ (List.getElem_mem hj))

theorem bytes_part (cs : List Nat) (hb : ∀ b ∈ cs, b < 256) (a n : Nat) (h : a + n ≤ cs.length) : (List.range n).map (fun j => (byteAt cs (a + j)).val) = (cs.drop a).take n := by
  apply List.ext_getElem
  · simp; omega
  · intro i h1 h2
    simp only [List.length_map, List.length_range] at h1
    simp only [List.getElem_map, List.getElem_range, List.getElem_take, List.getElem_drop]
    exact byteAt_get cs hb _ (by omega)





/-- What Get answers: the number, and the error. -/
def gotV (cs : List Nat) (z : Int) (n : Nat) : Nat := if 0 ≤ z ∧ z + n ≤ cs.length then bytN cs z.toNat n else 0
def gotE (len : Nat) (z : Int) (n : Nat) : Int := if 0 ≤ z ∧ z + n ≤ len then 0 else 20

theorem gotV_lt (cs : List Nat) (hb : ∀ b ∈ cs, b < 256) (z : Int) (n : Nat) : gotV cs z n < 256 ^ n := by
  unfold gotV
  split
  · exact bytN_lt cs hb _ n
  · exact Nat.pow_pos (by omega)









theorem bytN_succ (cs : List Nat) (a i : Nat) (h : a + i < cs.length) : bytN cs a (i + 1) = bytN cs a i + 256 ^ i * cs[a + i] := by
  unfold bytN
  have hi : i < (cs.drop a).length := by simp; omega
  rw [List.take_succ_eq_append_getElem hi, n256_append, List.length_take, Nat.min_eq_left (by omega)]
  simp [n256]

theorem or_next (u x i : Nat) (hu : u < 256 ^ i) (hx : x < 256) (hi : i < 8) : bits .or .u64 (u : Int) (IntKind.u64.wrap ((x : Int) * 2 ^ (8 * i))) = ((u + 256 ^ i * x : Nat) : Int) := by
  have h7 : (256 : Nat) ^ i ≤ 256 ^ 7 := Nat.pow_le_pow_right (by omega) (by omega)
  have h8 : (256 : Nat) ^ 7 = 72057594037927936 := by decide
  have hxi : 256 ^ i * x ≤ 256 ^ i * 255 := Nat.mul_le_mul_left _ (by omega)
  have e1 : (x : Int) * 2 ^ (8 * i) = ((256 ^ i * x : Nat) : Int) := by
    rw [pow8]
    simp [Int.mul_comm]
  rw [e1, IntKind.wrap_u64]
  have e2 : ((256 ^ i * x : Nat) : Int) % 18446744073709551616 = ((256 ^ i * x : Nat) : Int) := by omega
  rw [e2, u64_or_nat _ _ (by omega) (by omega)]
  congr 1
  rw [pow8] at hu ⊢
  exact or_add u (8 * i) x hu







end Go.Proofs.Ytjcobogajkfnmaa
