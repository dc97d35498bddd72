/-
  The small functions of hmac: turned words, choice, most.
-/
import Derived.Test.YtjkmnjjfpdgndaaGreatDoorHmM
import Derived.Test.YtjkmnjjfpdgndaaGreatDoorOwn2
import Derived.Test.YtjkmnjjfpdgndaaGreatDoorSam
import Derived.Laws.BitsAllLaws
namespace Go.Proofs.YtjkmnjjfpdgndaaGreatDoor
open Go.RowKit

theorem neg_and31 (n : Nat) (hn : n < 32) (h0 : 0 < n) : bits .and .u64 (IntKind.u64.wrap (-(n : Int))) 31 = ((32 - n : Nat) : Int) := by
  have e : IntKind.u64.wrap (-(n : Int)) = ((18446744073709551616 - n : Nat) : Int) := by
    simp [IntKind.wrap, IntKind.bits, IntKind.signed]
    omega
  rw [e]
  have h := u64_and_nat (18446744073709551616 - n) 31 (by omega) (by omega)
  have h2 : (18446744073709551616 - n) &&& 31 = (18446744073709551616 - n) % 2 ^ 5 := Nat.and_two_pow_sub_one_eq_mod _ 5
  rw [h2] at h
  exact h.trans (by omega)

theorem or_rot (x n : Nat) (hx : x < 4294967296) : bits .or .u32 ((x : Int) / 2 ^ n) ((x : Int) * 2 ^ (32 - n) % 4294967296) = ((rot x n : Nat) : Int) := by
  have h := u32_or_nat (x / 2 ^ n) (x * 2 ^ (32 - n) % 4294967296) (div3_lt n hx) (Nat.mod_lt _ (by decide))
  have e1 : ((x / 2 ^ n : Nat) : Int) = (x : Int) / 2 ^ n := by simp
  have e2 : ((x * 2 ^ (32 - n) % 4294967296 : Nat) : Int) = (x : Int) * 2 ^ (32 - n) % 4294967296 := by simp
  rw [e1, e2] at h
  exact h

theorem or_rot' (x n : Nat) (hx : x < 4294967296) : bits .or .u32 ((x : Int) * 2 ^ (32 - n) % 4294967296) ((x : Int) / 2 ^ n) = ((rot x n : Nat) : Int) := by
  have h := u32_or_nat (x * 2 ^ (32 - n) % 4294967296) (x / 2 ^ n) (Nat.mod_lt _ (by decide)) (div3_lt n hx)
  have e1 : ((x / 2 ^ n : Nat) : Int) = (x : Int) / 2 ^ n := by simp
  have e2 : ((x * 2 ^ (32 - n) % 4294967296 : Nat) : Int) = (x : Int) * 2 ^ (32 - n) % 4294967296 := by simp
  rw [e1, e2, Nat.or_comm] at h
  exact h

set_option maxHeartbeats 400000 in
theorem rotl_any (w : World) (x n : Nat) (hx : x < 4294967296) (hn : n < 32) (h0 : 0 < n) :
    Calls Tryz.prog 135 #[.int .u32 (x : Nat), .int .i64 (-(n : Int))] w fun e w' => e = .returned (.int .u32 (rot x n : Nat)) ∧ w' = w := by
  have hb := neg_and31 n hn h0
  have hr := or_rot' x n hx
  obtain ⟨m, hm⟩ : ∃ m, m = 32 - n := ⟨_, rfl⟩
  have hnm : n = 32 - m := by omega
  rw [← hm] at hb hr
  have hm1 : m < 32 := by omega
  have hm2 : 0 < m := by omega
  rw [hnm] at hr
  have HR := hid hr
  have HN := hid hnm
  clear hr hm hnm
  go_enter Tryz.func135, Tryz.ntmps135
  go_wp2
  go_ret
  rw [HR.out, ← HN.out]
  exact ⟨rfl, rfl⟩

set_option maxHeartbeats 400000 in
theorem rturn_any (w : World) (x n : Nat) (hx : x < 4294967296) (hn : n < 32) (h0 : 0 < n) :
    Calls Tryz.prog 111 #[.int .u32 (x : Nat), .int .i64 (n : Nat)] w fun e w' => e = .returned (.int .u32 (rot x n : Nat)) ∧ (∃ q, w' = w.drewN q) := by
  have hr := or_rot x n hx
  have HR := hid hr
  clear hr
  go_enter Tryz.func111, Tryz.ntmps111
  go_wp2
  go_quiet (fail)
  go_wp2
  go_ret
  exact ⟨by rw [HR.out]; rfl, _, rfl⟩

set_option maxHeartbeats 400000 in
theorem turn_any (w : World) (x n : Nat) (hx : x < 4294967296) (hn : n < 32) (h0 : 0 < n) :
    Calls Tryz.prog 128 #[.int .u32 (x : Nat), .int .i64 (n : Nat)] w fun e w' => e = .returned (.int .u32 (rot x n : Nat)) ∧ w' = w := by
  have HC := fun W => rotl_any W x n hx hn h0
  go_enter Tryz.func128, Tryz.ntmps128
  go_wp2_with fail
  refine (HC _).mono ?_
  rintro e w' ⟨rfl, rfl⟩
  go_wp2_with fail
  go_ret
  exact ⟨rfl, rfl⟩

theorem xor_i (a b : Nat) (ha : a < 4294967296) (hb : b < 4294967296) : bits .xor .u32 (a : Int) (b : Int) = ((a ^^^ b : Nat) : Int) := u32_xor_nat a b ha hb
theorem and_i (a b : Nat) (ha : a < 4294967296) (hb : b < 4294967296) : bits .and .u32 (a : Int) (b : Int) = ((a &&& b : Nat) : Int) := u32_and_nat a b ha hb

theorem ear_i (x : Nat) (hx : x < 4294967296) : bits .xor .u32 (bits .xor .u32 ((rot x 7 : Nat) : Int) ((rot x 18 : Nat) : Int)) ((x : Int) / 8) = ((earF x : Nat) : Int) := by
  rw [xor_i _ _ (rot_lt 7 hx) (rot_lt 18 hx)]
  exact xor_i _ (x / 8) (xor3_lt (rot_lt 7 hx) (rot_lt 18 hx)) (by omega)
theorem lat_i (x : Nat) (hx : x < 4294967296) : bits .xor .u32 (bits .xor .u32 ((rot x 17 : Nat) : Int) ((rot x 19 : Nat) : Int)) ((x : Int) / 1024) = ((latF x : Nat) : Int) := by
  rw [xor_i _ _ (rot_lt 17 hx) (rot_lt 19 hx)]
  exact xor_i _ (x / 1024) (xor3_lt (rot_lt 17 hx) (rot_lt 19 hx)) (by omega)
theorem nar_i (x : Nat) (hx : x < 4294967296) : bits .xor .u32 (bits .xor .u32 ((rot x 2 : Nat) : Int) ((rot x 13 : Nat) : Int)) ((rot x 22 : Nat) : Int) = ((narF x : Nat) : Int) := by
  rw [xor_i _ _ (rot_lt 2 hx) (rot_lt 13 hx)]
  exact xor_i _ _ (xor3_lt (rot_lt 2 hx) (rot_lt 13 hx)) (rot_lt 22 hx)
theorem wid_i (x : Nat) (hx : x < 4294967296) : bits .xor .u32 (bits .xor .u32 ((rot x 6 : Nat) : Int) ((rot x 11 : Nat) : Int)) ((rot x 25 : Nat) : Int) = ((widF x : Nat) : Int) := by
  rw [xor_i _ _ (rot_lt 6 hx) (rot_lt 11 hx)]
  exact xor_i _ _ (xor3_lt (rot_lt 6 hx) (rot_lt 11 hx)) (rot_lt 25 hx)

set_option maxHeartbeats 400000 in
theorem early_any (w : World) (x : Nat) (hx : x < 4294967296) :
    Calls Tryz.prog 126 #[.int .u32 (x : Nat)] w fun e w' => e = .returned (.int .u32 (earF x : Nat)) ∧ w' = w := by
  have H1 := fun W => turn_any W x 7 hx (by omega) (by omega)
  have H2 := fun W => turn_any W x 18 hx (by omega) (by omega)
  have HE := hid (ear_i x hx)
  go_enter Tryz.func126, Tryz.ntmps126
  go_wp2_with fail
  refine (H1 _).mono ?_
  rintro e w' ⟨rfl, rfl⟩
  go_wp2_with fail
  refine (H2 _).mono ?_
  rintro e w' ⟨rfl, rfl⟩
  go_wp2_with fail
  go_ret
  exact ⟨by rw [← HE.out]; first | rfl | simp, rfl⟩

set_option maxHeartbeats 400000 in
theorem late_any (w : World) (x : Nat) (hx : x < 4294967296) :
    Calls Tryz.prog 127 #[.int .u32 (x : Nat)] w fun e w' => e = .returned (.int .u32 (latF x : Nat)) ∧ w' = w := by
  have H1 := fun W => turn_any W x 17 hx (by omega) (by omega)
  have H2 := fun W => turn_any W x 19 hx (by omega) (by omega)
  have HE := hid (lat_i x hx)
  go_enter Tryz.func127, Tryz.ntmps127
  go_wp2_with fail
  refine (H1 _).mono ?_
  rintro e w' ⟨rfl, rfl⟩
  go_wp2_with fail
  refine (H2 _).mono ?_
  rintro e w' ⟨rfl, rfl⟩
  go_wp2_with fail
  go_ret
  exact ⟨by rw [← HE.out]; first | rfl | simp, rfl⟩

set_option maxHeartbeats 400000 in
theorem narrow_any (w : World) (x : Nat) (hx : x < 4294967296) :
    Calls Tryz.prog 107 #[.int .u32 (x : Nat)] w fun e w' => e = .returned (.int .u32 (narF x : Nat)) ∧ w' = w := by
  have H1 := fun W => turn_any W x 2 hx (by omega) (by omega)
  have H2 := fun W => turn_any W x 13 hx (by omega) (by omega)
  have H3 := fun W => turn_any W x 22 hx (by omega) (by omega)
  have HE := hid (nar_i x hx)
  go_enter Tryz.func107, Tryz.ntmps107
  go_wp2_with fail
  refine (H1 _).mono ?_
  rintro e w' ⟨rfl, rfl⟩
  go_wp2_with fail
  refine (H2 _).mono ?_
  rintro e w' ⟨rfl, rfl⟩
  go_wp2_with fail
  refine (H3 _).mono ?_
  rintro e w' ⟨rfl, rfl⟩
  go_wp2_with fail
  go_ret
  exact ⟨by rw [← HE.out]; first | rfl | simp, rfl⟩

set_option maxHeartbeats 400000 in
theorem wide_any (w : World) (x : Nat) (hx : x < 4294967296) :
    Calls Tryz.prog 105 #[.int .u32 (x : Nat)] w fun e w' => e = .returned (.int .u32 (widF x : Nat)) ∧ w' = w := by
  have H1 := fun W => turn_any W x 6 hx (by omega) (by omega)
  have H2 := fun W => turn_any W x 11 hx (by omega) (by omega)
  have H3 := fun W => turn_any W x 25 hx (by omega) (by omega)
  have HE := hid (wid_i x hx)
  go_enter Tryz.func105, Tryz.ntmps105
  go_wp2_with fail
  refine (H1 _).mono ?_
  rintro e w' ⟨rfl, rfl⟩
  go_wp2_with fail
  refine (H2 _).mono ?_
  rintro e w' ⟨rfl, rfl⟩
  go_wp2_with fail
  refine (H3 _).mono ?_
  rintro e w' ⟨rfl, rfl⟩
  go_wp2_with fail
  go_ret
  exact ⟨by rw [← HE.out]; first | rfl | simp, rfl⟩

theorem not3_i (u : Nat) (h : u < 4294967296) : bits .xor .u32 4294967295 (u : Int) = ((neg3 u : Nat) : Int) := by
  have e := u32_xor_nat 4294967295 u (by omega) h
  have e2 : 4294967295 ^^^ u = neg3 u := by
    have hb : (BitVec.allOnes 32 ^^^ BitVec.ofNat 32 u).toNat = (~~~ BitVec.ofNat 32 u).toNat := by rw [BitVec.allOnes_xor]
    rw [BitVec.toNat_xor, BitVec.toNat_not, BitVec.toNat_allOnes, BitVec.toNat_ofNat, Nat.mod_eq_of_lt (show u < 2 ^ 32 by omega)] at hb
    exact hb
  rw [e2] at e
  exact e

theorem cho_i (x y z : Nat) (hx : x < 4294967296) (hy : y < 4294967296) (hz : z < 4294967296) :
    bits .xor .u32 (bits .and .u32 (x : Int) (y : Int)) (bits .and .u32 (bits .xor .u32 IntKind.u32.max (x : Int)) (z : Int)) = ((choF x y z : Nat) : Int) := by
  have e : IntKind.u32.max = 4294967295 := by decide
  rw [e, not3_i x hx, and_i _ _ hx hy, and_i _ _ (neg3_lt x) hz]
  exact xor_i _ _ (and3_lt hy) (and3_lt hz)
theorem mos_i (x y z : Nat) (hx : x < 4294967296) (hy : y < 4294967296) (hz : z < 4294967296) :
    bits .xor .u32 (bits .xor .u32 (bits .and .u32 (x : Int) (y : Int)) (bits .and .u32 (x : Int) (z : Int))) (bits .and .u32 (y : Int) (z : Int)) = ((mosF x y z : Nat) : Int) := by
  rw [and_i _ _ hx hy, and_i _ _ hx hz, and_i _ _ hy hz, xor_i _ _ (and3_lt hy) (and3_lt hz)]
  exact xor_i _ _ (xor3_lt (and3_lt hy) (and3_lt hz)) (and3_lt hz)

set_option maxHeartbeats 400000 in
theorem choice_any (w : World) (x y z : Nat) (hx : x < 4294967296) (hy : y < 4294967296) (hz : z < 4294967296) :
    Calls Tryz.prog 106 #[.int .u32 (x : Nat), .int .u32 (y : Nat), .int .u32 (z : Nat)] w fun e w' => e = .returned (.int .u32 (choF x y z : Nat)) ∧ w' = w := by
  have HE := hid (cho_i x y z hx hy hz)
  go_enter Tryz.func106, Tryz.ntmps106
  go_wp2_with fail
  go_ret
  exact ⟨by rw [← HE.out]; rfl, rfl⟩

set_option maxHeartbeats 400000 in
theorem most_any (w : World) (x y z : Nat) (hx : x < 4294967296) (hy : y < 4294967296) (hz : z < 4294967296) :
    Calls Tryz.prog 108 #[.int .u32 (x : Nat), .int .u32 (y : Nat), .int .u32 (z : Nat)] w fun e w' => e = .returned (.int .u32 (mosF x y z : Nat)) ∧ w' = w := by
  have HE := hid (mos_i x y z hx hy hz)
  go_enter Tryz.func108, Tryz.ntmps108
  go_wp2_with fail
  go_ret
  exact ⟨by rw [← HE.out]; rfl, rfl⟩

end Go.Proofs.YtjkmnjjfpdgndaaGreatDoor
