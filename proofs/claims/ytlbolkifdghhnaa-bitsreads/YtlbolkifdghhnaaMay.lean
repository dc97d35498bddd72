/-
  Which numbers may be put; Put at whatever numbers; the reference's May.
-/
import Derived.Test.YtlbolkifdghhnaaTwo
namespace Go.Proofs.Ytlbolkifdghhnaa
open Go.RowKit

/-- Whether the number v of n bits may be put. -/
def mayB (v : Nat) (n : Int) : Bool := decide (0 ≤ n ∧ n ≤ 32 ∧ v < 2 ^ n.toNat)

theorem mayB_true {v : Nat} {n : Int} (h : mayB v n = true) : 0 ≤ n ∧ n ≤ 32 ∧ v < 2 ^ n.toNat := by simpa [mayB] using h
theorem mayB_mk {v : Nat} {n : Int} (h0 : 0 ≤ n) (h1 : n ≤ 32) (h2 : v < 2 ^ n.toNat) : mayB v n = true := by simp [mayB, h0, h1, h2]
theorem mayB_not {v : Nat} {n : Int} (h : ¬ (0 ≤ n ∧ n ≤ 32 ∧ v < 2 ^ n.toNat)) : mayB v n = false := by
  cases e : mayB v n with
  | false => rfl
  | true => exact absurd (mayB_true e) h

/-- The answer of Put. -/
def putE (v : Nat) (n : Int) : Int := if mayB v n then 0 else 1
/-- How many bits come. -/
def putN (v : Nat) (n : Int) : Nat := if mayB v n then n.toNat else 0
/-- The number that is laid. -/
def putV (v : Nat) (n : Int) : Nat := if mayB v n then v else 0

theorem putN_le (v : Nat) (n : Int) : putN v n ≤ 32 := by
  unfold putN
  split
  · rename_i h; have := mayB_true h; omega
  · omega
theorem putV_lt (v : Nat) (n : Int) : putV v n < 2 ^ putN v n := by
  unfold putV putN
  split
  · rename_i h; exact (mayB_true h).2.2
  · simp

/-- Put, whatever the numbers. -/
theorem put_any (p v : Nat) (n : Int) (X c : Nat) (s : Value) (w : World) (hw : Wr w p s X c) (hc : c ≤ 1000000000000) :
    Calls Try.prog 11 #[.pointer (some ⟨p, 0, none⟩), .int .u32 (v : Nat), .int .i64 n] w fun e w' => e = .returned (.int .i64 (putE v n)) ∧
      ∃ s', Wr w' p s' (X + putV v n * 2 ^ c) (c + putN v n) ∧ Kept (Fp p s) w w' ∧ Grew w s s' := by
  by_cases h0 : 0 ≤ n ∧ n ≤ 32
  · by_cases h1 : v < 2 ^ n.toNat
    · have hm := mayB_mk h0.1 h0.2 h1
      simp only [putE, putV, putN, hm, if_true]
      exact put_at p v n.toNat X c s w rfl (by omega) (by omega) h1 hw hc
    · have hm : mayB v n = false := mayB_not (fun h => h1 h.2.2)
      simp only [putE, putV, putN, hm, Bool.false_eq_true, if_false, Nat.zero_mul, Nat.add_zero]
      refine (put_wide_at p v n.toNat w rfl (by omega) (by omega) (by omega)).mono ?_
      rintro e w' ⟨rfl, rfl⟩
      exact ⟨rfl, s, hw, Kept.refl _ _, .inl rfl⟩
  · have hm : mayB v n = false := mayB_not (fun h => h0 ⟨h.1, h.2.1⟩)
    simp only [putE, putV, putN, hm, Bool.false_eq_true, if_false, Nat.zero_mul, Nat.add_zero]
    refine (put_far p v n w h0).mono ?_
    rintro e w' ⟨rfl, rfl⟩
    exact ⟨rfl, s, hw, Kept.refl _ _, .inl rfl⟩

set_option maxHeartbeats 400000 in
theorem may_far (v n : Int) (w : World) (h : ¬ (0 ≤ n ∧ n ≤ 32)) :
    Calls Try.prog 9 #[.int .u32 v, .int .i64 n] w fun e w' => e = .returned (.bool false) ∧ w' = w := by
  by_cases h0 : n < 0
  · clear h
    have hd : decide (n < 0) = true := by simpa using h0
    go_enter Try.func9, Try.ntmps9
    go_wp2
    go_ret
    exact ⟨rfl, rfl⟩
  · have hd : decide (n < 0) = false := by simpa using h0
    have hd2 : decide (32 < n) = true := by simp; omega
    clear h
    go_enter Try.func9, Try.ntmps9
    go_wp2
    go_ret
    exact ⟨rfl, rfl⟩

set_option maxHeartbeats 400000 in
theorem may_near (v n : Nat) (w : World) (h : n ≤ 32) (hv : v < 4294967296) :
    Calls Try.prog 9 #[.int .u32 (v : Nat), .int .i64 (n : Nat)] w fun e w' => e = .returned (.bool (decide (v < 2 ^ n))) ∧ w' = w := by
  have hd : decide ((n : Int) < 0) = false := by simp
  have hd2 : decide (32 < (n : Int)) = false := by simp; omega
  go_enter Try.func9, Try.ntmps9
  go_wp2
  go_loopg [0, 5] n (fun k x i wr => ∃ j u : Nat, j ≤ n ∧ n - j ≤ k ∧ i = .int .i64 (j : Nat) ∧ x = .int .u32 (u : Nat) ∧ u = v / 2 ^ j ∧ wr = w)
  case atStart => exact ⟨0, v, by omega, by omega, rfl, rfl, by simp, rfl⟩
  case round =>
    obtain ⟨j, u, hj, hjk, rfl, rfl, hu, rfl⟩ := hrel
    have HU : Hid (u = v / 2 ^ j) := hu
    have hu2 : u < 4294967296 := by rw [hu]; exact Nat.lt_of_le_of_lt (Nat.div_le_self _ _) hv
    clear hu hd hd2 hv
    by_cases hlt : j < n
    · go_wp2
      go_roundg (gk - 1)
      case measure => omega
      case rel => exact ⟨j + 1, u / 2, by omega, by omega, by go_num, by go_num, by rw [HU.out, Nat.div_div_eq_div_mul, ← Nat.pow_succ], rfl⟩
    · have hjn : j = n := by omega
      go_wp2
      go_ret
      refine ⟨?_, rfl⟩
      have := HU.out
      rw [hjn] at this
      by_cases hv : v < 2 ^ n
      · have e : u = 0 := by rw [this]; exact Nat.div_eq_of_lt hv
        simp [hv, e]
      · have e : 1 ≤ u := by rw [this]; exact (Nat.one_le_div_iff (Nat.two_pow_pos _)).2 (by omega)
        have e2 : ¬ u = 0 := by omega
        simp [hv, e2]

theorem may_any (v : Nat) (n : Int) (w : World) (hv : v < 4294967296) :
    Calls Try.prog 9 #[.int .u32 (v : Nat), .int .i64 n] w fun e w' => e = .returned (.bool (mayB v n)) ∧ w' = w := by
  by_cases h0 : 0 ≤ n ∧ n ≤ 32
  · obtain ⟨m, rfl⟩ : ∃ m : Nat, n = m := ⟨n.toNat, by omega⟩
    refine (may_near v m w (by omega) hv).mono ?_
    rintro e w' ⟨rfl, rfl⟩
    refine ⟨?_, rfl⟩
    congr 2
    unfold mayB
    rw [decide_eq_decide]
    simp only [Int.toNat_natCast]
    omega
  · rw [mayB_not (fun h => h0 ⟨h.1, h.2.1⟩)]
    exact may_far v n w h0

end Go.Proofs.Ytlbolkifdghhnaa
