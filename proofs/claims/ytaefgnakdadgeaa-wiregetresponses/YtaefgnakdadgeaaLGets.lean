/-
  Get16, Get32, Get64, and the reference's Get.
-/
import Derived.Test.YtaefgnakdadgeaaLGet
import Derived.Test.YtaefgnakdadgeaaCrc
namespace Go.Proofs.Ytaefgnakdadgeaa
open Go.RowKit Go.Shelf

theorem range_shift (k a : Nat) (g : Nat → Nat) : (List.range (k + 1)).map (fun j => g (a + j)) = g a :: (List.range k).map (fun j => g (a + 1 + j)) := by
  rw [List.range_succ_eq_map]
  simp only [List.map_cons, List.map_map, Nat.add_zero, List.cons.injEq, true_and]
  apply List.map_congr_left
  intro j _
  simp only [Function.comp]
  congr 1
  omega

theorem acc_upto (f : Nat → Fin 256) (a n : Nat) (hn : n ≤ 8) (k : Nat) (hk : k ≤ n) :
    acc (upto (fun j => (n - 1 - j, f (a + (n - 1 - j)))) k) = n256 ((List.range k).map (fun j => (f (a + (n - k) + j)).val)) := by
  induction k with
  | zero => rfl
  | succ k ih =>
    have e := range_shift k (a + (n - (k + 1))) (fun j => (f j).val)
    rw [upto_succ, acc_snoc, ih (by omega), e, n256]
    have hlt : n256 ((List.range k).map (fun j => (f (a + (n - k) + j)).val)) < 256 ^ ((List.range k).map (fun j => (f (a + (n - k) + j)).val)).length := by
      apply n256_lt
      intro b hb
      obtain ⟨j, _, rfl⟩ := List.mem_map.1 hb
      exact (f _).isLt
    rw [List.length_map, List.length_range] at hlt
    have hpow : (256 : Nat) ^ k ≤ 256 ^ 7 := Nat.pow_le_pow_right (by omega) (by omega)
    have h7 : (256 : Nat) ^ 7 = 72057594037927936 := by decide
    have e1 : a + (n - (k + 1)) + 1 = a + (n - k) := by omega
    have e2 : a + (n - 1 - k) = a + (n - (k + 1)) := by omega
    rw [e1]
    show n256 _ * 256 % 18446744073709551616 + (f (a + (n - 1 - k))).val = _
    rw [e2]
    omega

/-- A byte of a row, as a number below 256. -/
def byteAt (cs : List Nat) (j : Nat) : Fin 256 := ⟨cs[j]?.getD 0 % 256, Nat.mod_lt _ (by decide)⟩

theorem byteAt_get (cs : List Nat) (hb : ∀ b ∈ cs, b < 256) (j : Nat) (hj : j < cs.length) : (byteAt cs j).val = cs[j] := by
  simp only [byteAt, List.getElem?_eq_getElem hj, Option.getD_some]
  exact Nat.mod_eq_of_lt (hb _ (List.getElem_mem hj))

theorem bytes_part (cs : List Nat) (hb : ∀ b ∈ cs, b < 256) (a n : Nat) (h : a + n ≤ cs.length) : (List.range n).map (fun j => (byteAt cs (a + j)).val) = (cs.drop a).take n := by
  apply List.ext_getElem
  · simp; omega
  · intro i h1 h2
    simp only [List.length_map, List.length_range] at h1
    simp only [List.getElem_map, List.getElem_range, List.getElem_take, List.getElem_drop]
    exact byteAt_get cs hb _ (by omega)

theorem get_good (w : World) (v : Value) (I : Nat → Prop) (cs : List Nat) (hsrc : Src w I v cs) (hroom : ∀ a n c, v = .slice a n c → n ≤ c) (hb : ∀ b ∈ cs, b < 256) (hlen : cs.length ≤ 100000000) (a n : Nat) (hn : n ≤ 8) (hn0 : 0 < n) (h : a + n ≤ cs.length) :
    Calls Try.prog 61 #[v, .int .i64 (a : Nat), .int .i64 (n : Nat)] w fun e w' => e = .returned (.tuple #[.int .u64 (bytN cs a n : Nat), .int .i64 0]) ∧ Below w.heap.size w w' := by
  obtain ⟨ao, cap, rfl, hsa⟩ := hsrc
  obtain ⟨b, o, rfl, _, hcb⟩ := hsa (by intro e; rw [e] at h; simp at h; omega)
  have hbw : b < w.heap.size := World.block_lt_of_cell? w _ (hcb a (by omega))
  refine (callsIn_wide (n := 3)).1 ?_
  refine (get_in Fence.wide 3 trivial trivial trivial rfl (by omega) w b o cs.length cap a n (byteAt cs) (fun j hj => by rw [byteAt_get cs hb j hj]; exact hcb j hj) hlen (hroom _ _ _ rfl) hn hn0 h hbw).mono ?_
  rintro e w' ⟨rfl, hbel⟩
  have e1 := acc_upto (byteAt cs) a n hn n (Nat.le_refl _)
  rw [Nat.sub_self, Nat.add_zero, bytes_part cs hb a n h] at e1
  refine ⟨?_, hbel⟩
  rw [e1]
  rfl

set_option maxHeartbeats 1000000 in
theorem get_bad (w : World) (ao : Option Addr) (len cap n : Nat) (z : Int) (hn : n ≤ 8) (hlen : len ≤ 100000000) (h : z < 0 ∨ (len : Int) - (n : Int) < z) :
    Calls Try.prog 61 #[.slice ao len cap, .int .i64 z, .int .i64 (n : Nat)] w fun e w' => e = .returned (.tuple #[.int .u64 0, .int .i64 20]) ∧ w' = w := by
  by_cases h0 : z < 0
  · have hd1 : decide (z < 0) = true := by simpa using h0
    clear h
    go_enter Try.func61, Try.ntmps61
    go_wp2_with fail
    go_ret2
    exact ⟨rfl, rfl⟩
  · have hd1 : decide (z < 0) = false := by simpa using h0
    have hd2 : decide ((len : Int) - (n : Int) < z) = true := by simp; omega
    clear h
    go_enter Try.func61, Try.ntmps61
    go_wp2_with fail
    go_ret2
    exact ⟨rfl, rfl⟩

/-- What Get answers: the number, and the error. -/
def gotV (cs : List Nat) (z : Int) (n : Nat) : Nat := if 0 ≤ z ∧ z + n ≤ cs.length then bytN cs z.toNat n else 0
def gotE (len : Nat) (z : Int) (n : Nat) : Int := if 0 ≤ z ∧ z + n ≤ len then 0 else 20

theorem gotV_lt (cs : List Nat) (hb : ∀ b ∈ cs, b < 256) (z : Int) (n : Nat) : gotV cs z n < 256 ^ n := by
  unfold gotV
  split
  · exact bytN_lt cs hb _ n
  · exact Nat.pow_pos (by omega)

theorem get_any (w : World) (v : Value) (I : Nat → Prop) (cs : List Nat) (hsrc : Src w I v cs) (hroom : ∀ a n c, v = .slice a n c → n ≤ c) (hb : ∀ b ∈ cs, b < 256) (hlen : cs.length ≤ 100000000) (z : Int) (n : Nat) (hn : n ≤ 8) (hn0 : 0 < n) :
    Calls Try.prog 61 #[v, .int .i64 z, .int .i64 (n : Nat)] w fun e w' => e = .returned (.tuple #[.int .u64 (gotV cs z n : Nat), .int .i64 (gotE cs.length z n)]) ∧ Below w.heap.size w w' := by
  by_cases h : 0 ≤ z ∧ z + n ≤ cs.length
  · obtain ⟨a, rfl⟩ : ∃ a : Nat, z = a := ⟨z.toNat, by omega⟩
    refine (get_good w v I cs hsrc hroom hb hlen a n hn hn0 (by omega)).mono ?_
    rintro e w' ⟨rfl, hbel⟩
    simp only [gotV, gotE, if_pos h]
    exact ⟨rfl, hbel⟩
  · obtain ⟨ao, cap, rfl, _⟩ := hsrc
    refine (get_bad w ao cs.length cap n z hn hlen (by omega)).mono ?_
    rintro e w' ⟨rfl, rfl⟩
    simp only [gotV, gotE, if_neg h]
    exact ⟨rfl, Below.refl _ _⟩

set_option maxHeartbeats 400000 in
theorem get16_any (w : World) (v : Value) (I : Nat → Prop) (cs : List Nat) (hsrc : Src w I v cs) (hroom : ∀ a n c, v = .slice a n c → n ≤ c) (hb : ∀ b ∈ cs, b < 256) (hlen : cs.length ≤ 100000000) (z : Int) :
    Calls Try.prog 60 #[v, .int .i64 z] w fun e w' => e = .returned (.tuple #[.int .u16 (gotV cs z 2 : Nat), .int .i64 (gotE cs.length z 2)]) ∧ Below w.heap.size w w' := by
  have HC := get_any w v I cs hsrc hroom hb hlen z 2 (by omega) (by omega)
  have hV := gotV_lt cs hb z 2
  obtain ⟨V, hVV⟩ : ∃ V, V = gotV cs z 2 := ⟨_, rfl⟩
  obtain ⟨E, hEE⟩ : ∃ E, E = gotE cs.length z 2 := ⟨_, rfl⟩
  rw [← hVV, ← hEE]
  rw [← hVV, ← hEE] at HC
  rw [← hVV] at hV
  have hV2 : V < 65536 := hV
  clear hV hVV hEE
  go_enter Try.func60, Try.ntmps60
  go_wp2_with fail
  refine HC.mono ?_
  rintro e w' ⟨rfl, hbel⟩
  go_wp2_with fail
  go_ret2
  exact ⟨by congr 4, hbel⟩

set_option maxHeartbeats 400000 in
theorem get32_any (w : World) (v : Value) (I : Nat → Prop) (cs : List Nat) (hsrc : Src w I v cs) (hroom : ∀ a n c, v = .slice a n c → n ≤ c) (hb : ∀ b ∈ cs, b < 256) (hlen : cs.length ≤ 100000000) (z : Int) :
    Calls Try.prog 86 #[v, .int .i64 z] w fun e w' => e = .returned (.tuple #[.int .u32 (gotV cs z 4 : Nat), .int .i64 (gotE cs.length z 4)]) ∧ Below w.heap.size w w' := by
  have HC := get_any w v I cs hsrc hroom hb hlen z 4 (by omega) (by omega)
  have hV := gotV_lt cs hb z 4
  obtain ⟨V, hVV⟩ : ∃ V, V = gotV cs z 4 := ⟨_, rfl⟩
  obtain ⟨E, hEE⟩ : ∃ E, E = gotE cs.length z 4 := ⟨_, rfl⟩
  rw [← hVV, ← hEE]
  rw [← hVV, ← hEE] at HC
  rw [← hVV] at hV
  have hV2 : V < 4294967296 := hV
  clear hV hVV hEE
  go_enter Try.func86, Try.ntmps86
  go_wp2_with fail
  refine HC.mono ?_
  rintro e w' ⟨rfl, hbel⟩
  go_wp2_with fail
  go_ret2
  exact ⟨by congr 4, hbel⟩



theorem bytN_succ (cs : List Nat) (a i : Nat) (h : a + i < cs.length) : bytN cs a (i + 1) = bytN cs a i + 256 ^ i * cs[a + i] := by
  unfold bytN
  have hi : i < (cs.drop a).length := by simp; omega
  rw [List.take_succ_eq_append_getElem hi, n256_append, List.length_take, Nat.min_eq_left (by omega)]
  simp [n256]

theorem or_next (u x i : Nat) (hu : u < 256 ^ i) (hx : x < 256) (hi : i < 8) : bits .or .u64 (u : Int) (IntKind.u64.wrap ((x : Int) * 2 ^ (8 * i))) = ((u + 256 ^ i * x : Nat) : Int) := by
  have h7 : (256 : Nat) ^ i ≤ 256 ^ 7 := Nat.pow_le_pow_right (by omega) (by omega)
  have h8 : (256 : Nat) ^ 7 = 72057594037927936 := by decide
  have hxi : 256 ^ i * x ≤ 256 ^ i * 255 := Nat.mul_le_mul_left _ (by omega)
  have e1 : (x : Int) * 2 ^ (8 * i) = ((256 ^ i * x : Nat) : Int) := by
    rw [pow8]
    simp [Int.mul_comm]
  rw [e1, IntKind.wrap_u64]
  have e2 : ((256 ^ i * x : Nat) : Int) % 18446744073709551616 = ((256 ^ i * x : Nat) : Int) := by omega
  rw [e2, u64_or_nat _ _ (by omega) (by omega)]
  congr 1
  rw [pow8] at hu ⊢
  exact or_add u (8 * i) x hu







end Go.Proofs.Ytaefgnakdadgeaa
