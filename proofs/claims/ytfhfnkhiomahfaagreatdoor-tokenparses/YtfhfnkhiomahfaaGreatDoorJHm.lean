/-
  Joined: HmA, HmB, HmC.
-/
import Derived.Test.YtfhfnkhiomahfaaGreatDoorHmM
import Derived.Test.YtfhfnkhiomahfaaGreatDoorOwn2
import Derived.Test.YtfhfnkhiomahfaaGreatDoorSam
import Derived.Laws.BitsAllLaws
import Derived.Test.YtfhfnkhiomahfaaGreatDoorArr
import Derived.Deep.RegionHeld3

/-
  The small functions of hmac: turned words, choice, most.
-/
namespace Go.Proofs.YtfhfnkhiomahfaaGreatDoor
open Go.RowKit

theorem neg_and31 (n : Nat) (hn : n < 32) (h0 : 0 < n) : bits .and .u64 (IntKind.u64.wrap (-(n : Int))) 31 = ((32 - n : Nat) : Int) := by
  have e : IntKind.u64.wrap (-(n : Int)) = ((18446744073709551616 - n : Nat) : Int) := by
    simp [IntKind.wrap, IntKind.bits, IntKind.signed]
    omega
  rw [e]
  have h := u64_and_nat (18446744073709551616 - n) 31 (by omega) (by omega)
  have h2 : (18446744073709551616 - n) &&& 31 = (18446744073709551616 - n) % 2 ^ 5 := Nat.and_two_pow_sub_one_eq_mod _ 5
  rw [h2] at h
  exact h.trans (by omega)

theorem or_rot (x n : Nat) (hx : x < 4294967296) : bits .or .u32 ((x : Int) / 2 ^ n) ((x : Int) * 2 ^ (32 - n) % 4294967296) = ((rot x n : Nat) : Int) := by
  have h := u32_or_nat (x / 2 ^ n) (x * 2 ^ (32 - n) % 4294967296) (div3_lt n hx) (Nat.mod_lt _ (by decide))
  have e1 : ((x / 2 ^ n : Nat) : Int) = (x : Int) / 2 ^ n := by simp
  have e2 : ((x * 2 ^ (32 - n) % 4294967296 : Nat) : Int) = (x : Int) * 2 ^ (32 - n) % 4294967296 := by simp
  rw [e1, e2] at h
  exact h

theorem or_rot' (x n : Nat) (hx : x < 4294967296) : bits .or .u32 ((x : Int) * 2 ^ (32 - n) % 4294967296) ((x : Int) / 2 ^ n) = ((rot x n : Nat) : Int) := by
  have h := u32_or_nat (x * 2 ^ (32 - n) % 4294967296) (x / 2 ^ n) (Nat.mod_lt _ (by decide)) (div3_lt n hx)
  have e1 : ((x / 2 ^ n : Nat) : Int) = (x : Int) / 2 ^ n := by simp
  have e2 : ((x * 2 ^ (32 - n) % 4294967296 : Nat) : Int) = (x : Int) * 2 ^ (32 - n) % 4294967296 := by simp
  rw [e1, e2, Nat.or_comm] at h
  exact h

set_option maxHeartbeats 400000 in
theorem rotl_any (w : World) (x n : Nat) (hx : x < 4294967296) (hn : n < 32) (h0 : 0 < n) :
    Calls Tryz.prog 140 #[.int .u32 (x : Nat), .int .i64 (-(n : Int))] w fun e w' => e = .returned (.int .u32 (rot x n : Nat)) ∧ w' = w := by
  have hb := neg_and31 n hn h0
  have hr := or_rot' x n hx
  obtain ⟨m, hm⟩ : ∃ m, m = 32 - n := ⟨_, rfl⟩
  have hnm : n = 32 - m := by omega
  rw [← hm] at hb hr
  have hm1 : m < 32 := by omega
  have hm2 : 0 < m := by omega
  rw [hnm] at hr
  have HR := hid hr
  have HN := hid hnm
  clear hr hm hnm
  go_enter Tryz.func140, Tryz.ntmps140
  go_wp2
  go_ret
  rw [HR.out, ← HN.out]
  exact ⟨rfl, rfl⟩

set_option maxHeartbeats 400000 in
theorem rturn_any (w : World) (x n : Nat) (hx : x < 4294967296) (hn : n < 32) (h0 : 0 < n) :
    Calls Tryz.prog 116 #[.int .u32 (x : Nat), .int .i64 (n : Nat)] w fun e w' => e = .returned (.int .u32 (rot x n : Nat)) ∧ (∃ q, w' = w.drewN q) := by
  have hr := or_rot x n hx
  have HR := hid hr
  clear hr
  go_enter Tryz.func116, Tryz.ntmps116
  go_wp2
  go_quiet (fail)
  go_wp2
  go_ret
  exact ⟨by rw [HR.out]; rfl, _, rfl⟩

set_option maxHeartbeats 400000 in
theorem turn_any (w : World) (x n : Nat) (hx : x < 4294967296) (hn : n < 32) (h0 : 0 < n) :
    Calls Tryz.prog 133 #[.int .u32 (x : Nat), .int .i64 (n : Nat)] w fun e w' => e = .returned (.int .u32 (rot x n : Nat)) ∧ w' = w := by
  have HC := fun W => rotl_any W x n hx hn h0
  go_enter Tryz.func133, Tryz.ntmps133
  go_wp2_with fail
  refine (HC _).mono ?_
  rintro e w' ⟨rfl, rfl⟩
  go_wp2_with fail
  go_ret
  exact ⟨rfl, rfl⟩

theorem xor_i (a b : Nat) (ha : a < 4294967296) (hb : b < 4294967296) : bits .xor .u32 (a : Int) (b : Int) = ((a ^^^ b : Nat) : Int) := u32_xor_nat a b ha hb
theorem and_i (a b : Nat) (ha : a < 4294967296) (hb : b < 4294967296) : bits .and .u32 (a : Int) (b : Int) = ((a &&& b : Nat) : Int) := u32_and_nat a b ha hb

theorem ear_i (x : Nat) (hx : x < 4294967296) : bits .xor .u32 (bits .xor .u32 ((rot x 7 : Nat) : Int) ((rot x 18 : Nat) : Int)) ((x : Int) / 8) = ((earF x : Nat) : Int) := by
  rw [xor_i _ _ (rot_lt 7 hx) (rot_lt 18 hx)]
  exact xor_i _ (x / 8) (xor3_lt (rot_lt 7 hx) (rot_lt 18 hx)) (by omega)
theorem lat_i (x : Nat) (hx : x < 4294967296) : bits .xor .u32 (bits .xor .u32 ((rot x 17 : Nat) : Int) ((rot x 19 : Nat) : Int)) ((x : Int) / 1024) = ((latF x : Nat) : Int) := by
  rw [xor_i _ _ (rot_lt 17 hx) (rot_lt 19 hx)]
  exact xor_i _ (x / 1024) (xor3_lt (rot_lt 17 hx) (rot_lt 19 hx)) (by omega)
theorem nar_i (x : Nat) (hx : x < 4294967296) : bits .xor .u32 (bits .xor .u32 ((rot x 2 : Nat) : Int) ((rot x 13 : Nat) : Int)) ((rot x 22 : Nat) : Int) = ((narF x : Nat) : Int) := by
  rw [xor_i _ _ (rot_lt 2 hx) (rot_lt 13 hx)]
  exact xor_i _ _ (xor3_lt (rot_lt 2 hx) (rot_lt 13 hx)) (rot_lt 22 hx)
theorem wid_i (x : Nat) (hx : x < 4294967296) : bits .xor .u32 (bits .xor .u32 ((rot x 6 : Nat) : Int) ((rot x 11 : Nat) : Int)) ((rot x 25 : Nat) : Int) = ((widF x : Nat) : Int) := by
  rw [xor_i _ _ (rot_lt 6 hx) (rot_lt 11 hx)]
  exact xor_i _ _ (xor3_lt (rot_lt 6 hx) (rot_lt 11 hx)) (rot_lt 25 hx)

set_option maxHeartbeats 400000 in
theorem early_any (w : World) (x : Nat) (hx : x < 4294967296) :
    Calls Tryz.prog 131 #[.int .u32 (x : Nat)] w fun e w' => e = .returned (.int .u32 (earF x : Nat)) ∧ w' = w := by
  have H1 := fun W => turn_any W x 7 hx (by omega) (by omega)
  have H2 := fun W => turn_any W x 18 hx (by omega) (by omega)
  have HE := hid (ear_i x hx)
  go_enter Tryz.func131, Tryz.ntmps131
  go_wp2_with fail
  refine (H1 _).mono ?_
  rintro e w' ⟨rfl, rfl⟩
  go_wp2_with fail
  refine (H2 _).mono ?_
  rintro e w' ⟨rfl, rfl⟩
  go_wp2_with fail
  go_ret
  exact ⟨by rw [← HE.out]; first | rfl | simp, rfl⟩

set_option maxHeartbeats 400000 in
theorem late_any (w : World) (x : Nat) (hx : x < 4294967296) :
    Calls Tryz.prog 132 #[.int .u32 (x : Nat)] w fun e w' => e = .returned (.int .u32 (latF x : Nat)) ∧ w' = w := by
  have H1 := fun W => turn_any W x 17 hx (by omega) (by omega)
  have H2 := fun W => turn_any W x 19 hx (by omega) (by omega)
  have HE := hid (lat_i x hx)
  go_enter Tryz.func132, Tryz.ntmps132
  go_wp2_with fail
  refine (H1 _).mono ?_
  rintro e w' ⟨rfl, rfl⟩
  go_wp2_with fail
  refine (H2 _).mono ?_
  rintro e w' ⟨rfl, rfl⟩
  go_wp2_with fail
  go_ret
  exact ⟨by rw [← HE.out]; first | rfl | simp, rfl⟩

set_option maxHeartbeats 400000 in
theorem narrow_any (w : World) (x : Nat) (hx : x < 4294967296) :
    Calls Tryz.prog 112 #[.int .u32 (x : Nat)] w fun e w' => e = .returned (.int .u32 (narF x : Nat)) ∧ w' = w := by
  have H1 := fun W => turn_any W x 2 hx (by omega) (by omega)
  have H2 := fun W => turn_any W x 13 hx (by omega) (by omega)
  have H3 := fun W => turn_any W x 22 hx (by omega) (by omega)
  have HE := hid (nar_i x hx)
  go_enter Tryz.func112, Tryz.ntmps112
  go_wp2_with fail
  refine (H1 _).mono ?_
  rintro e w' ⟨rfl, rfl⟩
  go_wp2_with fail
  refine (H2 _).mono ?_
  rintro e w' ⟨rfl, rfl⟩
  go_wp2_with fail
  refine (H3 _).mono ?_
  rintro e w' ⟨rfl, rfl⟩
  go_wp2_with fail
  go_ret
  exact ⟨by rw [← HE.out]; first | rfl | simp, rfl⟩

set_option maxHeartbeats 400000 in
theorem wide_any (w : World) (x : Nat) (hx : x < 4294967296) :
    Calls Tryz.prog 110 #[.int .u32 (x : Nat)] w fun e w' => e = .returned (.int .u32 (widF x : Nat)) ∧ w' = w := by
  have H1 := fun W => turn_any W x 6 hx (by omega) (by omega)
  have H2 := fun W => turn_any W x 11 hx (by omega) (by omega)
  have H3 := fun W => turn_any W x 25 hx (by omega) (by omega)
  have HE := hid (wid_i x hx)
  go_enter Tryz.func110, Tryz.ntmps110
  go_wp2_with fail
  refine (H1 _).mono ?_
  rintro e w' ⟨rfl, rfl⟩
  go_wp2_with fail
  refine (H2 _).mono ?_
  rintro e w' ⟨rfl, rfl⟩
  go_wp2_with fail
  refine (H3 _).mono ?_
  rintro e w' ⟨rfl, rfl⟩
  go_wp2_with fail
  go_ret
  exact ⟨by rw [← HE.out]; first | rfl | simp, rfl⟩

theorem not3_i (u : Nat) (h : u < 4294967296) : bits .xor .u32 4294967295 (u : Int) = ((neg3 u : Nat) : Int) := by
  have e := u32_xor_nat 4294967295 u (by omega) h
  have e2 : 4294967295 ^^^ u = neg3 u := by
    have hb : (BitVec.allOnes 32 ^^^ BitVec.ofNat 32 u).toNat = (~~~ BitVec.ofNat 32 u).toNat := by rw [BitVec.allOnes_xor]
    rw [BitVec.toNat_xor, BitVec.toNat_not, BitVec.toNat_allOnes, BitVec.toNat_ofNat, Nat.mod_eq_of_lt (show u < 2 ^ 32 by omega)] at hb
    exact hb
  rw [e2] at e
  exact e

theorem cho_i (x y z : Nat) (hx : x < 4294967296) (hy : y < 4294967296) (hz : z < 4294967296) :
    bits .xor .u32 (bits .and .u32 (x : Int) (y : Int)) (bits .and .u32 (bits .xor .u32 IntKind.u32.max (x : Int)) (z : Int)) = ((choF x y z : Nat) : Int) := by
  have e : IntKind.u32.max = 4294967295 := by decide
  rw [e, not3_i x hx, and_i _ _ hx hy, and_i _ _ (neg3_lt x) hz]
  exact xor_i _ _ (and3_lt hy) (and3_lt hz)
theorem mos_i (x y z : Nat) (hx : x < 4294967296) (hy : y < 4294967296) (hz : z < 4294967296) :
    bits .xor .u32 (bits .xor .u32 (bits .and .u32 (x : Int) (y : Int)) (bits .and .u32 (x : Int) (z : Int))) (bits .and .u32 (y : Int) (z : Int)) = ((mosF x y z : Nat) : Int) := by
  rw [and_i _ _ hx hy, and_i _ _ hx hz, and_i _ _ hy hz, xor_i _ _ (and3_lt hy) (and3_lt hz)]
  exact xor_i _ _ (xor3_lt (and3_lt hy) (and3_lt hz)) (and3_lt hz)

set_option maxHeartbeats 400000 in
theorem choice_any (w : World) (x y z : Nat) (hx : x < 4294967296) (hy : y < 4294967296) (hz : z < 4294967296) :
    Calls Tryz.prog 111 #[.int .u32 (x : Nat), .int .u32 (y : Nat), .int .u32 (z : Nat)] w fun e w' => e = .returned (.int .u32 (choF x y z : Nat)) ∧ w' = w := by
  have HE := hid (cho_i x y z hx hy hz)
  go_enter Tryz.func111, Tryz.ntmps111
  go_wp2_with fail
  go_ret
  exact ⟨by rw [← HE.out]; rfl, rfl⟩

set_option maxHeartbeats 400000 in
theorem most_any (w : World) (x y z : Nat) (hx : x < 4294967296) (hy : y < 4294967296) (hz : z < 4294967296) :
    Calls Tryz.prog 113 #[.int .u32 (x : Nat), .int .u32 (y : Nat), .int .u32 (z : Nat)] w fun e w' => e = .returned (.int .u32 (mosF x y z : Nat)) ∧ w' = w := by
  have HE := hid (mos_i x y z hx hy hz)
  go_enter Tryz.func113, Tryz.ntmps113
  go_wp2_with fail
  go_ret
  exact ⟨by rw [← HE.out]; rfl, rfl⟩

end Go.Proofs.YtfhfnkhiomahfaaGreatDoor

/-
  Arrays in memory, whole: laid, boxed, loaded, stored; the worlds behind them are named.
-/
namespace Go.Proofs.YtfhfnkhiomahfaaGreatDoor
open Go.RowKit

theorem Blk.wcell {w : World} {g : Nat} {xs : List Nat} {t : TypeId} (h : Blk w g (xs.map wordV).toArray t) (i : Nat) (hi : i < xs.length) : w.cell? ⟨g, i, none⟩ = some (.int .u32 (xs.getD i 0 : Nat)) := by
  rw [h.cell]
  simp [wordV, hi]

theorem Blk.bcell {w : World} {g : Nat} {xs : List Nat} {t : TypeId} (h : Blk w g (xs.map byteV).toArray t) (i : Nat) (hi : i < xs.length) : w.cell? ⟨g, i, none⟩ = some (.int .u8 (xs.getD i 0 : Nat)) := by
  rw [h.cell]
  simp [byteV, hi]

theorem Blk.wset {w : World} {g : Nat} {xs : List Nat} {t : TypeId} (h : Blk w g (xs.map wordV).toArray t) (i y : Nat) : Blk (w.setCell ⟨g, i, none⟩ (.int .u32 (y : Nat))) g ((xs.set i y).map wordV).toArray t := by
  have := h.set i (.int .u32 (y : Nat))
  rw [List.map_set]
  simpa [wordV] using this

theorem Blk.bset {w : World} {g : Nat} {xs : List Nat} {t : TypeId} (h : Blk w g (xs.map byteV).toArray t) (i y : Nat) : Blk (w.setCell ⟨g, i, none⟩ (.int .u8 (y : Nat))) g ((xs.set i y).map byteV).toArray t := by
  have := h.set i (.int .u8 (y : Nat))
  rw [List.map_set]
  simpa [byteV] using this

end Go.Proofs.YtfhfnkhiomahfaaGreatDoor

/-
  The program's spread.
-/
namespace Go.Proofs.YtfhfnkhiomahfaaGreatDoor
open Go.RowKit

/-- The bytes that have come so far of a word. -/
def pnB (b : List Nat) (j : Nat) : Nat → Nat
  | 0 => 0
  | r + 1 => pnB b j r * 256 + b.getD (4 * j + r) 0

/-- The words behind i bytes. -/
def accB (b : List Nat) : Nat → List Nat
  | 0 => List.replicate 64 0
  | i + 1 => (accB b i).set (i / 4) ((accB b i).getD (i / 4) 0 * 256 + b.getD i 0)

theorem getD_byte {b : List Nat} (hb : ∀ x ∈ b, x < 256) (j : Nat) : b.getD j 0 < 256 := by
  by_cases hj : j < b.length
  · rw [List.getD_eq_getElem?_getD, List.getElem?_eq_getElem hj]; exact hb _ (List.getElem_mem _)
  · rw [List.getD_eq_getElem?_getD, List.getElem?_eq_none (by omega)]; decide

theorem accB_length (b : List Nat) (i : Nat) : (accB b i).length = 64 := by
  induction i with
  | zero => simp [accB]
  | succ i ih => simp [accB, ih]

theorem pn4 (b : List Nat) (j : Nat) : pnB b j 4 = wd4 b j := by simp [pnB, wd4]

theorem accB_part (b : List Nat) (j r : Nat) (hr : r ≤ 4) (h0 : accB b (4 * j) = wdsB b j ++ 0 :: List.replicate (63 - j) 0) : accB b (4 * j + r) = wdsB b j ++ pnB b j r :: List.replicate (63 - j) 0 := by
  induction r with
  | zero => exact h0
  | succ r ih =>
    have e : (4 * j + r) / 4 = j := by omega
    have ih2 := ih (by omega)
    rw [show 4 * j + (r + 1) = (4 * j + r) + 1 from rfl, accB, e, ih2]
    have hl := wdsB_length b j
    have hg : (wdsB b j ++ pnB b j r :: List.replicate (63 - j) 0).getD j 0 = pnB b j r := by
      rw [List.getD_eq_getElem?_getD, List.getElem?_append_right (by omega), hl]
      simp
    rw [hg, List.set_append_right _ _ (by omega), hl]
    simp [pnB]

theorem accB_whole (b : List Nat) (j : Nat) (hj : j ≤ 16) : accB b (4 * j) = wdsB b j ++ 0 :: List.replicate (63 - j) 0 := by
  induction j with
  | zero => rfl
  | succ j ih =>
    have h := accB_part b j 4 (by omega) (ih (by omega))
    rw [show 4 * (j + 1) = 4 * j + 4 by omega, h, pn4]
    simp only [wdsB, List.append_assoc, List.singleton_append]
    congr 2
    rw [show 63 - j = (63 - (j + 1)) + 1 by omega, List.replicate_succ]

theorem pnB_lt (b : List Nat) (hb : ∀ x ∈ b, x < 256) (j r : Nat) : pnB b j r < 256 ^ r := by
  induction r with
  | zero => simp [pnB]
  | succ r ih =>
    have h1 := getD_byte hb (4 * j + r)
    rw [pnB, Nat.pow_succ]
    omega

theorem accB_get (b : List Nat) (hb : ∀ x ∈ b, x < 256) (i : Nat) (hi : i < 64) : (accB b i).getD (i / 4) 0 < 16777216 := by
  have h := accB_part b (i / 4) (i % 4) (by omega) (accB_whole b (i / 4) (by omega))
  rw [show 4 * (i / 4) + i % 4 = i by omega] at h
  have hl := wdsB_length b (i / 4)
  rw [h, List.getD_eq_getElem?_getD, List.getElem?_append_right (by omega), hl]
  have h2 := pnB_lt b hb (i / 4) (i % 4)
  have h3 : (256 : Nat) ^ (i % 4) ≤ 256 ^ 3 := Nat.pow_le_pow_right (by omega) (by omega)
  simp
  omega

/-- The words behind the first m more. -/
def extA (b : List Nat) (m : Nat) : List Nat := extW m (wdsB b 16) ++ List.replicate (48 - m) 0

theorem accB_64 (b : List Nat) : accB b 64 = extA b 0 := by
  have := accB_whole b 16 (by omega)
  rw [show 4 * 16 = 64 from rfl] at this
  rw [this]
  rfl

theorem extW_len (b : List Nat) (m : Nat) : (extW m (wdsB b 16)).length = 16 + m := by
  induction m with
  | zero => exact wdsB_length b 16
  | succ m ih => simp [extW, ih]; omega

theorem extA_length (b : List Nat) (m : Nat) (hm : m ≤ 48) : (extA b m).length = 64 := by
  simp [extA, extW_len]; omega

theorem extA_get (b : List Nat) (m k : Nat) (hk : k < 16 + m) : (extA b m).getD k 0 = (extW m (wdsB b 16)).getD k 0 := by
  unfold extA
  rw [List.getD_eq_getElem?_getD, List.getElem?_append_left (by rw [extW_len]; exact hk), List.getD_eq_getElem?_getD]

theorem extA_next (b : List Nat) (m : Nat) (hm : m < 48) : (extA b m).set (16 + m) (nxW (extW m (wdsB b 16))) = extA b (m + 1) := by
  unfold extA
  rw [List.set_append_right _ _ (by rw [extW_len]; exact Nat.le_refl _), extW_len, show 48 - m = (48 - (m + 1)) + 1 by omega, List.replicate_succ]
  simp [extW]

theorem extA_48 (b : List Nat) : extA b 48 = schW b := by simp [extA, schW]

theorem or_word (x y : Nat) (hx : x < 16777216) (hy : y < 256) : bits .or .u32 ((x : Int) * 256) (y : Int) = ((x * 256 + y : Nat) : Int) := by
  have e : (x : Int) * 256 = ((x * 256 : Nat) : Int) := by omega
  rw [e, u32_or_nat (x * 256) y (by omega) (by omega)]
  have h := Nat.two_pow_add_eq_or_of_lt (i := 8) (b := y) hy x
  rw [show 2 ^ 8 * x = x * 256 by omega] at h
  rw [h]

theorem wrap_nat15 (n : Nat) (h : n < 1000000000) : IntKind.i64.wrap (n : Int) = (n : Int) := by
  simp [IntKind.wrap, IntKind.bits, IntKind.signed]
  omega

theorem cell_set15 {w : World} {g i j : Nat} {u v : Value} (hn : i ≠ j) (h : w.cell? ⟨g, i, none⟩ = some v) : (w.setCell ⟨g, j, none⟩ u).drew.cell? ⟨g, i, none⟩ = some v := by
  show (w.setCell ⟨g, j, none⟩ u).cell? ⟨g, i, none⟩ = some v
  rw [World.cell?_setCell_other]
  · exact h
  · intro e; injection e with _ e2; exact hn e2.symm

theorem Tryz.zero64 : (Tryz.prog.info? 153).bind (·.zero) = some (.agg ((List.replicate 64 0).map wordV).toArray) := by kernel_rfl
theorem Tryz.size64 : (Tryz.prog.info? 153).map (·.size) = some 64 := by kernel_rfl
theorem Tryz.sizeB64 : (Tryz.prog.info? 98).map (·.size) = some 64 := by kernel_rfl
theorem Tryz.sizeU8 : (Tryz.prog.info? 5).map (·.size) = some 1 := by kernel_rfl

theorem index_b64 (b : List Nat) (hl : b.length = 64) (i : Nat) (hi : i < 64) (w : World) : (Instr.index 98 (.agg (b.map byteV).toArray) (.int .i64 (i : Nat))).run Tryz.prog w = .ok (.int .u8 (b.getD i 0 : Nat)) w :=
  run_index15 98 5 64 .i64 Tryz.underlying98 Tryz.sizeU8 _ Tryz.underlying5 rfl _ i _ hi (by simp [byteV, hl, hi]) w

set_option maxRecDepth 100000 in
set_option maxHeartbeats 400000 in
theorem spread_any (w : World) (b : List Nat) (hb : ∀ x ∈ b, x < 256) (hl : b.length = 64) :
    Calls Tryz.prog 109 #[.agg (b.map byteV).toArray] w fun e w' => e = .returned (.agg ((schW b).map wordV).toArray) ∧ Same w w' := by
  have HB : Hid (∀ x ∈ b, x < 256) := hb
  have HL : Hid (b.length = 64) := hl
  have hix := fun i hi => index_b64 b hl i hi
  have HIX := hid hix
  clear hb hl hix
  go_enter Tryz.func109, Tryz.ntmps109
  go_wp2_with (first
    | (with_reducible refine at_box 98 ?_; refine wpl_box 98 (b.map byteV).toArray rfl ?_; intro w1 g1 hB1 hk1 hg1 hl1; have HB1 := hid hB1; have HK1 := hid hk1; clear hB1 hk1)
    | (with_reducible refine at_alloc 153 2 ?_; refine wpl_alloc 153 _ Tryz.zero64 ?_; intro w2 g2 hB2 hk2 hg2 hl2; have HB2 := hid hB2; have HK2 := hid hk2; clear hB2 hk2)
    | (with_reducible refine at_alloc 153 3 ?_; refine wpl_alloc 153 _ Tryz.zero64 ?_; intro w3 g3 hB3 hk3 hg3 hl3; have HB3 := hid hB3; have HK3 := hid hk3; clear hB3 hk3)
    | (with_reducible refine at_load 98 7 ?_; refine wpl_load 98 64 _ Tryz.underlying98 rfl Tryz.sizeB64 rfl ((HB1.out.kept HK2.out (fun f => f)).kept HK3.out (fun f => f)) (b.map byteV) (by simp [HL.out]) (take_all15 (by simp [HL.out])) ?_))
  have HK13 : Hid (Same w w3) := hid ((HK1.out.trans HK2.out).trans HK3.out)
  have HB23 : Hid (Blk w3 g2 ((List.replicate 64 0).map wordV).toArray 153) := hid (HB2.out.kept HK3.out (fun f => f))
  have hg23 : g2 < g3 := by omega
  have hgw : w.heap.size ≤ g2 := by have := HK1.out.size; omega
  clear HB1 HK1 HB2 HK2 HK3 hl3 hg3 hl2 hg2 hl1 hg1
  have HB0 : Hid (Blk w3 g3 ((accB b 0).map wordV).toArray 153) := HB3
  clear HB3
  obtain ⟨V, hV⟩ : ∃ V : Value, V = .agg (b.map byteV).toArray := ⟨_, rfl⟩
  rw [← hV] at HIX ⊢
  clear hV
  go_loopg [4, 5, 8] 64 (fun k _ _ z wr => ∃ i : Nat, i ≤ 64 ∧ 64 - i ≤ k ∧ z = .int .i64 (i : Nat) ∧ Hid (Blk wr g3 ((accB b i).map wordV).toArray 153) ∧ Hid (Kept (· = g3) w3 wr))
  case atStart => exact ⟨0, by omega, by omega, rfl, HB0, hid (Kept.refl _ _)⟩
  case round =>
    obtain ⟨i, hi, hik, rfl, HBi, HKi⟩ := hrel
    clear HB0
    by_cases hlt : i < 64
    · have hx := HIX.out i hlt
      obtain ⟨x, hxe⟩ : ∃ x, x = b.getD i 0 := ⟨_, rfl⟩
      have hx2 : x < 256 := by rw [hxe]; exact getD_byte HB.out i
      rw [← hxe] at hx
      have c1 := HBi.out.wcell (i / 4) (by rw [accB_length]; omega)
      obtain ⟨y, hye⟩ : ∃ y, y = (accB b i).getD (i / 4) 0 := ⟨_, rfl⟩
      have hy2 : y < 16777216 := by rw [hye]; exact accB_get b HB.out i hlt
      rw [← hye] at c1
      obtain ⟨q, hq⟩ : ∃ q, q = i / 4 := ⟨_, rfl⟩
      have hqi : (i : Int) / 4 = (q : Int) := by omega
      have hq16 : q < 16 := by omega
      rw [← hq] at c1
      have f1 := HBi.out.frozen q
      have hor := or_word y x hy2 hx2
      obtain ⟨z, hz⟩ : ∃ z, z = y * 256 + x := ⟨_, rfl⟩
      rw [← hz] at hor
      have HZ : Hid (accB b (i + 1) = (accB b i).set q z) := hid (by rw [accB, ← hq, ← hxe, hq, ← hye, hz])
      clear hxe hye hq hz
      go_wp2_with fail
      go_roundg (gk - 1)
      case measure => omega
      case rel =>
        refine ⟨i + 1, by omega, by omega, by go_num, ?_, hid (HKi.out.setCell _ _ (.inl rfl))⟩
        rw [HZ.out]
        exact hid (HBi.out.wset q z)
    · have hin : i = 64 := by omega
      subst hin
      rw [accB_64] at HBi
      clear HIX
      go_wp2_with fail
      go_loopg [6] 48 (fun k z wx => ∃ m : Nat, m ≤ 48 ∧ 48 - m ≤ k ∧ z = .int .i64 ((16 + m : Nat) : Int) ∧ Hid (Blk wx g3 ((extA b m).map wordV).toArray 153) ∧ Hid (Kept (· = g3) w3 wx))
      case atStart => exact ⟨0, by omega, by omega, rfl, HBi, HKi⟩
      case round =>
        clear HBi HKi
        obtain ⟨m, hm, hmk, rfl, HBm, HKm⟩ := hrel
        obtain ⟨j, hj⟩ : ∃ j, j = 16 + m := ⟨_, rfl⟩
        rw [← hj]
        by_cases hlt2 : m < 48
        · have c16 := HBm.out.wcell m (by rw [extA_length b m hm]; omega)
          have c15 := HBm.out.wcell (m + 1) (by rw [extA_length b m hm]; omega)
          have c7 := HBm.out.wcell (m + 9) (by rw [extA_length b m hm]; omega)
          have c2 := HBm.out.wcell (m + 14) (by rw [extA_length b m hm]; omega)
          rw [extA_get b m _ (by omega)] at c16 c15 c7 c2
          have hwd := extW_wds (wdsB_wds b HB.out 16) m
          have v16 := hwd.get m
          have v15 := hwd.get (m + 1)
          have v7 := hwd.get (m + 9)
          have v2 := hwd.get (m + 14)
          have hnx : nxW (extW m (wdsB b 16)) = add3 (add3 (add3 ((extW m (wdsB b 16)).getD m 0) (earF ((extW m (wdsB b 16)).getD (m + 1) 0))) ((extW m (wdsB b 16)).getD (m + 9) 0)) (latF ((extW m (wdsB b 16)).getD (m + 14) 0)) := by
            unfold nxW
            rw [extW_len, show 16 + m - 16 = m by omega, show 16 + m - 15 = m + 1 by omega, show 16 + m - 7 = m + 9 by omega, show 16 + m - 2 = m + 14 by omega]
          generalize (extW m (wdsB b 16)).getD m 0 = x16 at *
          generalize (extW m (wdsB b 16)).getD (m + 1) 0 = x15 at *
          generalize (extW m (wdsB b 16)).getD (m + 9) 0 = x7 at *
          generalize (extW m (wdsB b 16)).getD (m + 14) 0 = x2 at *
          have HE := fun W => early_any W x15 v15
          have HLt := fun W => late_any W x2 v2
          have HEl := earF_lt v15
          have HLl := latF_lt v2
          generalize earF x15 = e15 at *
          generalize latF x2 = l2 at *
          obtain ⟨m1, hm1⟩ : ∃ x, x = m + 1 := ⟨_, rfl⟩
          obtain ⟨m9, hm9⟩ : ∃ x, x = m + 9 := ⟨_, rfl⟩
          obtain ⟨m14, hm14⟩ : ∃ x, x = m + 14 := ⟨_, rfl⟩
          rw [← hm1] at c15
          rw [← hm9] at c7
          rw [← hm14] at c2
          have j16 : (j : Int) - 16 = (m : Int) := by omega
          have j15 : (j : Int) - 15 = (m1 : Int) := by omega
          have j7 : (j : Int) - 7 = (m9 : Int) := by omega
          have j2 : (j : Int) - 2 = (m14 : Int) := by omega
          have jj : j < 64 := by omega
          have p16 : (0 : Int) ≤ (m : Int) := by omega
          have p15 : (0 : Int) ≤ (m1 : Int) := by omega
          have p7 : (0 : Int) ≤ (m9 : Int) := by omega
          have p2 : (0 : Int) ≤ (m14 : Int) := by omega
          have pj : (0 : Int) ≤ (j : Int) := by omega
          have q16 : (m : Int) < 64 := by omega
          have q15 : (m1 : Int) < 64 := by omega
          have q7 : (m9 : Int) < 64 := by omega
          have q2 : (m14 : Int) < 64 := by omega
          have qj : (j : Int) < 64 := by omega
          have k16 : m < 64 := by omega
          have k15 : m1 < 64 := by omega
          have k7 : m9 < 64 := by omega
          have k2 : m14 < 64 := by omega
          have w16 : IntKind.i64.wrap (m : Int) = (m : Int) := wrap_nat15 m (by omega)
          have w15 : IntKind.i64.wrap (m1 : Int) = (m1 : Int) := wrap_nat15 m1 (by omega)
          have w7 : IntKind.i64.wrap (m9 : Int) = (m9 : Int) := wrap_nat15 m9 (by omega)
          have w2 : IntKind.i64.wrap (m14 : Int) = (m14 : Int) := wrap_nat15 m14 (by omega)
          have hcj := HBm.out.wcell j (by rw [extA_length b m hm]; omega)
          have hfj := HBm.out.frozen j
          have HJ : Hid (j = 16 + m) := hid hj
          have HNX := hid hnx
          have HNE : Hid (m ≠ j ∧ m1 ≠ j ∧ m9 ≠ j ∧ m14 ≠ j) := hid (by omega)
          have HM := hid hm
          clear hj hm1 hm9 hm14 hwd hnx v16 v15 v7 v2
          go_wp2_with fail
          go_region_held3 (fun w' => w'.cell? ⟨g3, m, none⟩ = some (.int .u32 (x16 : Nat)) ∧ w'.cell? ⟨g3, m1, none⟩ = some (.int .u32 (x15 : Nat)) ∧ w'.cell? ⟨g3, m9, none⟩ = some (.int .u32 (x7 : Nat)) ∧ w'.cell? ⟨g3, m14, none⟩ = some (.int .u32 (x2 : Nat)))
            (first
              | exact ⟨c16, c15, c7, c2⟩
              | exact ⟨cell_set15 HNE.out.1 c16, cell_set15 HNE.out.2.1 c15, cell_set15 HNE.out.2.2.1 c7, cell_set15 HNE.out.2.2.2 c2⟩
              | go_keep)
            (first
              | (go_at_call 131; refine (HE _).mono ?_; rintro e w5 ⟨rfl, rfl⟩)
              | (go_at_call 132; refine (HLt _).mono ?_; rintro e w6 ⟨rfl, rfl⟩))
          go_wp2_with fail
          go_roundg (gk - 1)
          case measure => omega
          case rel =>
            refine ⟨m + 1, by omega, by omega, by rw [show 16 + (m + 1) = j + 1 by have := HJ.out; omega]; go_num, ?_, hid ((HKm.out.setCell _ _ (.inl rfl)).drew)⟩
            rw [← extA_next b m hlt2, HNX.out, ← HJ.out]
            have e : IntKind.u32.wrap (IntKind.u32.wrap (IntKind.u32.wrap ((x16 : Int) + (e15 : Int)) + (x7 : Int)) + (l2 : Int)) = ((add3 (add3 (add3 x16 e15) x7) l2 : Nat) : Int) := by
              unfold add3
              simp only [IntKind.wrap_u32']
              omega
            have h9 := HBm.out.wset j (add3 (add3 (add3 x16 e15) x7) l2)
            rw [← e] at h9
            exact hid h9
        · have hm48 : m = 48 := by omega
          subst hm48
          have hj64 : j = 64 := by omega
          subst hj64
          rw [extA_48] at HBm
          have HSL : Hid ((schW b).length = 64) := hid (schW_wds b HB.out).1
          clear hj
          go_wp2_with (first
            | (with_reducible refine at_load 153 51 ?_; refine wpl_load 153 64 _ Tryz.underlying153 rfl Tryz.size64 rfl HBm.out ((schW b).map wordV) (by simp [HSL.out]) (take_all15 (by simp [HSL.out])) ?_)
            | (with_reducible refine at_store 153 2 ?_; refine wpl_store 153 64 Tryz.size64 rfl (cells := (schW b).map wordV) rfl (HB23.out.kept HKm.out (by omega)) (by simp) (by simp [HSL.out]) (wordV_one _) ?_; intro w9 hB9 hk9 hs9; have HB9 := hid hB9; have HK9 := hid hk9; clear hB9 hk9 hs9))
          refine bodyPost_ret (results_cell15 rfl 64 _ Tryz.underlying153 rfl Tryz.size64 _ rfl HB9.out (by simp [HSL.out])) rfl ?_
          exact ⟨rfl, (HK13.out.then HKm.out (fun x hx e => by omega)).then HK9.out (fun x hx e => by omega)⟩

end Go.Proofs.YtfhfnkhiomahfaaGreatDoor
