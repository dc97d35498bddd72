import Derived.Test.YtljlmfnbeofmmaaGreatDoorDfN
import Derived.Test.YtljlmfnbeofmmaaGreatDoorMtJ
import Derived.Test.YtljlmfnbeofmmaaGreatDoorMtZ
import Derived.Test.YtljlmfnbeofmmaaGreatDoorLnWrg
namespace Go.Proofs.YtljlmfnbeofmmaaGreatDoor
open Go.RowKit

theorem i64_and_nat (a b : Nat) (ha : a < 2 ^ 62) (hb : b < 2 ^ 62) : bits .and .i64 (a : Int) (b : Int) = ((a &&& b : Nat) : Int) := by
 have h9 : (2 : Nat) ^ 62 = 4611686018427387904 := by decide
 have hx : a &&& b < 2 ^ 62 := Nat.and_lt_two_pow _ hb
 have ho : ∀ c : Nat, c < 2 ^ 62 → (BitVec.ofInt 64 (c : Int)).toNat = c := fun c hc => by
  rw [BitVec.ofInt_natCast, BitVec.toNat_ofNat]; exact Nat.mod_eq_of_lt (by omega)
 show IntKind.i64.wrap ((BitVec.ofInt 64 (a : Int) &&& BitVec.ofInt 64 (b : Int)).toNat : Int) = _
 rw [BitVec.toNat_and, ho a ha, ho b hb, IntKind.wrap_i64]
 omega

theorem spl_extra (n wd : Nat) (hn : n ≤ 100000) (hw : wd ≤ 27) : IntKind.u32.wrap (bits BinOp.and IntKind.i64 (n : Int) (IntKind.i64.wrap (IntKind.i64.wrap (2 ^ wd) - 1))) = ((n % 2 ^ wd : Nat) : Int) := by
 have h9 : (2 : Nat) ^ 62 = 4611686018427387904 := by decide
 have h27 : (2 : Nat) ^ 27 = 134217728 := by decide
 have hp : 2 ^ wd ≤ 2 ^ 27 := Nat.pow_le_pow_right (by decide) hw
 have hp0 : 0 < 2 ^ wd := Nat.two_pow_pos wd
 have e1 : ((2 : Int) ^ wd) = ((2 ^ wd : Nat) : Int) := by simp
 have hmn : n % 2 ^ wd ≤ n := Nat.mod_le _ _
 have e2 : IntKind.i64.wrap (IntKind.i64.wrap (2 ^ wd) - 1) = ((2 ^ wd - 1 : Nat) : Int) := by
  rw [e1]
  generalize 2 ^ wd = p at hp hp0
  rw [IntKind.wrap_i64, IntKind.wrap_i64]
  omega
 rw [e2, i64_and_nat n (2 ^ wd - 1) (by omega) (by omega), and_mask, IntKind.wrap_u32']
 generalize n % 2 ^ wd = x at hmn
 omega

theorem spl_sym (n wd k : Nat) (hn : n ≤ 100000) (hw : wd ≤ 27) (hk : k ≤ 4) : IntKind.i64.wrap (IntKind.i64.wrap ((wd : Int) * (k : Int)) + (n : Int) / 2 ^ wd) = ((wd * k + n / 2 ^ wd : Nat) : Int) := by
 have hq : (n : Int) / 2 ^ wd = ((n / 2 ^ wd : Nat) : Int) := by simp
 have hql : n / 2 ^ wd ≤ n := Nat.div_le_self _ _
 have hm : wd * k ≤ 27 * 4 := Nat.mul_le_mul hw hk
 rw [hq, ← Int.natCast_mul]
 generalize n / 2 ^ wd = q at hql
 generalize wd * k = m at hm
 rw [IntKind.wrap_i64, IntKind.wrap_i64]
 omega

set_option maxRecDepth 100000 in
set_option maxHeartbeats 4000000 in
theorem split3_any (w : World) (n : Nat) (hn : n ≤ 254) :
  Calls Tryz.prog 153 #[.int .i64 (n : Nat), .int .i64 3] w fun e w' => e = .returned (.agg #[.int .i64 (splS n 3 : Nat), .int .u32 (splX n 3 : Nat), .int .i64 (splW n 3 : Nat)]) ∧ Same w w' := by
 have H := lenU_any (w.alloc (.cells #[.int .i64 0, .int .u32 0, .int .i64 0] 164)) (n : Int) (by omega) (by omega)
 rw [show ((n : Int)).toNat = n from rfl] at H
 obtain ⟨b, hb⟩ : ∃ b, blen n = b := ⟨_, rfl⟩
 obtain ⟨wd, hwd⟩ : ∃ wd, splW n 3 = wd := ⟨_, rfl⟩
 rw [hb] at H
 have hmx : max ((b : Int) - 3) 0 = (wd : Int) := by unfold splW at hwd; omega
 have hb30 : b ≤ 20 := by rw [← hb]; exact (blen_le n 20).2 (by omega)
 have hz : wrap64 ((b : Int) - 3) = (b : Int) - 3 := by unfold wrap64; omega
 have hw2 : IntKind.i64.wrap 2 = 2 := rfl
 have hwd27 : wd ≤ 27 := by unfold splW at hwd; omega
 clear hb30
 go_enter Tryz.func153, Tryz.ntmps153
 go_wp2_with fail
 refine H.mono ?_
 rintro e w1 ⟨rfl, hw1⟩
 subst hw1
 clear H
 go_wp2_with fail
 go_region_with fail
 have v1 : IntKind.i64.wrap (IntKind.i64.wrap ((wd : Int) * 4) + (n : Int) / 2 ^ wd) = ((splS n 3 : Nat) : Int) := by
  have := spl_sym n wd 4 (by omega) hwd27 (by decide)
  unfold splS
  rw [hwd]
  exact this
 have v2 : IntKind.u32.wrap (bits BinOp.and IntKind.i64 (n : Int) (IntKind.i64.wrap (IntKind.i64.wrap (2 ^ wd) - 1))) = ((splX n 3 : Nat) : Int) := by
  unfold splX
  rw [hwd]
  exact spl_extra n wd (by omega) hwd27
 rw [v1, v2]
 go_wp2_with fail
 refine bodyPost_ret (v := .agg #[.int .i64 (splS n 3 : Nat), .int .u32 (splX n 3 : Nat), .int .i64 (wd : Nat)]) (by rw [results_cell_one rfl]; simp [go_sem]) rfl ?_
 exact ⟨by rw [hwd], ((Kept.refl _ w).alloc _).drewN _⟩

set_option maxRecDepth 100000 in
set_option maxHeartbeats 4000000 in
theorem split2_any (w : World) (n : Nat) (hn : n ≤ 16383) :
  Calls Tryz.prog 153 #[.int .i64 (n : Nat), .int .i64 2] w fun e w' => e = .returned (.agg #[.int .i64 (splS n 2 : Nat), .int .u32 (splX n 2 : Nat), .int .i64 (splW n 2 : Nat)]) ∧ Same w w' := by
 have H := lenU_any (w.alloc (.cells #[.int .i64 0, .int .u32 0, .int .i64 0] 164)) (n : Int) (by omega) (by omega)
 rw [show ((n : Int)).toNat = n from rfl] at H
 obtain ⟨b, hb⟩ : ∃ b, blen n = b := ⟨_, rfl⟩
 obtain ⟨wd, hwd⟩ : ∃ wd, splW n 2 = wd := ⟨_, rfl⟩
 rw [hb] at H
 have hmx : max ((b : Int) - 2) 0 = (wd : Int) := by unfold splW at hwd; omega
 have hb30 : b ≤ 20 := by rw [← hb]; exact (blen_le n 20).2 (by omega)
 have hz : wrap64 ((b : Int) - 2) = (b : Int) - 2 := by unfold wrap64; omega
 have hw2 : IntKind.i64.wrap 1 = 1 := rfl
 have hwd27 : wd ≤ 27 := by unfold splW at hwd; omega
 clear hb30
 go_enter Tryz.func153, Tryz.ntmps153
 go_wp2_with fail
 refine H.mono ?_
 rintro e w1 ⟨rfl, hw1⟩
 subst hw1
 clear H
 go_wp2_with fail
 go_region_with fail
 have v1 : IntKind.i64.wrap (IntKind.i64.wrap ((wd : Int) * 2) + (n : Int) / 2 ^ wd) = ((splS n 2 : Nat) : Int) := by
  have := spl_sym n wd 2 (by omega) hwd27 (by decide)
  unfold splS
  rw [hwd]
  exact this
 have v2 : IntKind.u32.wrap (bits BinOp.and IntKind.i64 (n : Int) (IntKind.i64.wrap (IntKind.i64.wrap (2 ^ wd) - 1))) = ((splX n 2 : Nat) : Int) := by
  unfold splX
  rw [hwd]
  exact spl_extra n wd (by omega) hwd27
 rw [v1, v2]
 go_wp2_with fail
 refine bodyPost_ret (v := .agg #[.int .i64 (splS n 2 : Nat), .int .u32 (splX n 2 : Nat), .int .i64 (wd : Nat)]) (by rw [results_cell_one rfl]; simp [go_sem]) rfl ?_
 exact ⟨by rw [hwd], ((Kept.refl _ w).alloc _).drewN _⟩

def tokV (t : TK) : Value := .agg #[.int .u8 (t.lit : Nat), .int .i64 t.len, .int .i64 t.dist]
def mkV (m : MK) : Value := .agg #[.int .i64 (m.sym : Nat), .int .u32 (m.extra : Nat), .int .i64 (m.width : Nat)]

set_option maxHeartbeats 2000000 in
theorem isCopy_any (w : World) (t : TK) : Calls Tryz.prog 121 #[tokV t] w fun e w' => e = .returned (.bool (decide (0 < t.len))) ∧ Same w w' := by
 unfold tokV
 obtain ⟨l, n, d⟩ := t
 simp only
 go_enter Tryz.func121, Tryz.ntmps121
 go_wp2_with fail
 go_ret
 exact ⟨rfl, (Kept.refl _ w).alloc _⟩

set_option maxRecDepth 100000 in
set_option maxHeartbeats 4000000 in
theorem distMark_any (w : World) (t : TK) (h1 : 1 ≤ t.dist) (h2 : t.dist ≤ 16384) : Calls Tryz.prog 122 #[tokV t] w fun e w' => e = .returned (mkV (distMk t)) ∧ Same w w' := by
 unfold tokV
 obtain ⟨l, n, d⟩ := t
 simp only at h1 h2 ⊢
 obtain ⟨x, hx⟩ : ∃ x : Nat, d = (x : Int) + 1 := ⟨d.toNat - 1, by omega⟩
 subst hx
 obtain ⟨W, hW⟩ : ∃ W, W = (w.alloc (.cells #[.int .u8 (l : Nat), .int .i64 n, .int .i64 ((x : Int) + 1)] 111)).alloc (.cells #[.int .i64 0, .int .u32 0, .int .i64 0] 164) := ⟨_, rfl⟩
 have HW : Hid (Same w W) := hid (by rw [hW]; exact ((Kept.refl _ w).alloc _).alloc _)
 have HB : Hid (Blk W (w.heap.size + 1) #[.int .i64 0, .int .u32 0, .int .i64 0] 164) := hid (by rw [hW]; have h := Blk.new (w.alloc (.cells #[.int .u8 (l : Nat), .int .i64 n, .int .i64 ((x : Int) + 1)] 111)) #[.int .i64 0, .int .u32 0, .int .i64 0] 164; rw [World.size_alloc] at h; exact h)
 have H := split2_any W x (by omega)
 have hd : (x : Int) + 1 - 1 = (x : Int) := by omega
 have HM : Hid (distMk ⟨l, n, ((x : Int) + 1)⟩ = ⟨splS x 2, splX x 2, splW x 2⟩) := hid (by
  unfold distMk
  simp only
  rw [show ((x : Int) + 1).toNat - 1 = x by omega])
 generalize splS x 2 = sa at H HM
 generalize splX x 2 = sb at H HM
 generalize splW x 2 = sc at H HM
 go_enter Tryz.func122, Tryz.ntmps122
 go_wp2_with fail
 rw [← hW]
 clear hW
 refine H.mono ?_
 rintro e w1 ⟨rfl, hk1⟩
 have HB1 : Hid (Blk w1 (w.heap.size + 1) #[.int .i64 0, .int .u32 0, .int .i64 0] 164) := hid (HB.out.kept hk1 (fun f => f))
 have HK1 : Hid (Same w w1) := hid (Same.trans HW.out hk1)
 have c0 := HB1.out.cell 0
 have c1 := HB1.out.cell 1
 have c2 := HB1.out.cell 2
 have f0 := HB1.out.frozen 0
 have f1 := HB1.out.frozen 1
 have f2 := HB1.out.frozen 2
 simp at c0 c1 c2
 clear hk1 H
 go_wp2_with fail
 have hb3 := ((HB1.out.set 0 (.int .i64 (sa : Nat))).set 1 (.int .u32 (sb : Nat))).set 2 (.int .i64 (sc : Nat))
 have d0 := hb3.cell 0
 have d1 := hb3.cell 1
 have d2 := hb3.cell 2
 simp at d0 d1 d2
 refine bodyPost_ret (v := .agg #[.int .i64 (sa : Nat), .int .u32 (sb : Nat), .int .i64 (sc : Nat)]) (by rw [results_cell_one rfl]; simp [go_sem, d0, d1, d2]) rfl ?_
 refine ⟨by rw [HM.out]; rfl, ((HK1.out.setCell _ _ (.inr (by simp))).setCell _ _ (.inr (by simp))).setCell _ _ (.inr (by simp))⟩

end Go.Proofs.YtljlmfnbeofmmaaGreatDoor
