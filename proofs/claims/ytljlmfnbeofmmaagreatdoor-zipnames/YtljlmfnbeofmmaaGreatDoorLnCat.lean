import Derived.Test.YtljlmfnbeofmmaaGreatDoorLnPk
import Derived.Lib.AppendZerosOnto
import Derived.Lib.Walk
namespace Go.Proofs.YtljlmfnbeofmmaaGreatDoor
open Go.RowKit

set_option maxRecDepth 100000 in
set_option maxHeartbeats 2000000 in
theorem lgrow_any (w : World) (n : Nat) (h1 : 1 ≤ n) (hn : n ≤ 1000000) :
  Calls Tryz.prog 155 #[.slice none 0 0, .int .i64 (n : Nat)] w fun e w' => (∃ G, e = .returned (.slice (some ⟨w.heap.size, 0, none⟩) 0 G) ∧ NRow w.heap.size w' (.slice (some ⟨w.heap.size, 0, none⟩) 0 G) []) ∧ Same w w' := by
 obtain ⟨i0, hi, hz0, hz1, hz2⟩ := info_parts Tryz.infoN
 have hbig : (0 + n) * i0.bytes ≤ 140737488355328 := by rw [hz2]; omega
 have hold : (Builtin.firstCells i0.size 0 (.slice none 0 0)).run Tryz.prog w.drew = .ok ([] : List Value).toArray w.drew := run_firstCells_none w.drew i0.size 0 0 0
 have hrz : ∀ ty, (Builtin.append_ #[117, 3] ty #[.slice none 0 0, .int .i64 (n : Nat)]).run Tryz.prog w =
   .ok (.slice (some ⟨w.heap.size, 0, none⟩) (0 + n) (grownCap w (0 + n) 0 3)) (w.drew.alloc (.cells (([] : List Value).toArray ++ Builtin.zeroCells (natV 0).cells n ++ Builtin.zeroCells (natV 0).cells (grownCap w (0 + n) 0 3 - (0 + n))) 3)) := fun ty =>
  Lib.run_append_grow_zeros w 117 3 ty 3 i0 _ .i64 .i64 Tryz.underlying117 Tryz.underlying3 hi hz0 none 0 0 [] hold n (by omega) (by omega) (by omega) (by omega) (by rw [hz2]; omega) (growslice_fits (by omega) hbig)
 have hGn : 0 + n ≤ grownCap w (0 + n) 0 3 := grownCap_ge w _ _ _
 have hGm : grownCap w (0 + n) 0 3 ≤ maxLen := grownCap_le_maxLen w _ _ _ (by unfold maxLen; omega)
 obtain ⟨G, hG⟩ : ∃ G, G = grownCap w (0 + n) 0 3 := ⟨_, rfl⟩
 rw [← hG] at hrz hGn hGm
 rw [Nat.zero_add] at hrz hGn
 obtain ⟨cur, hcur⟩ : ∃ cur, cur = ([] : List Value).toArray ++ Builtin.zeroCells (natV 0).cells n ++ Builtin.zeroCells (natV 0).cells (G - n) := ⟨_, rfl⟩
 have hcs : cur.size = G := by
  rw [hcur]
  have e : (natV 0).cells.size = 1 := rfl
  simp [Builtin.zeroCells, e]
  omega
 rw [← hcur] at hrz
 have HROW : Hid (NRow w.heap.size (w.drew.alloc (.cells cur 3)) (.slice (some ⟨w.heap.size, 0, none⟩) 0 G) []) := hid ⟨rfl, .inr ⟨w.heap.size, G, cur, rfl, Nat.le_refl _, Blk.new w.drew cur 3, Nat.zero_le _, hGm, by rw [hcs, Nat.mul_one], by simp⟩⟩
 have HK : Hid (Same w (w.drew.alloc (.cells cur 3))) := hid (((Kept.refl _ w).drew).alloc _)
 clear hold hbig hi hz0 hz1 hz2 hG hcur hcs hGm
 go_enter Tryz.func155, Tryz.ntmps155
 go_wp2_with (at_builtin; refine Lib.wpList_append_run _ rfl _ _ _ _ rfl _ _ rfl rfl _ _ (hrz _) ?_)
 all_goals
  go_ret
  exact ⟨⟨G, rfl, HROW.out⟩, HK.out⟩

set_option maxRecDepth 100000 in
set_option maxHeartbeats 2000000 in
theorem lconcat_any (w : World) (h la cA lb cB : Nat) (adA adB : Addr) (I J : Nat → Prop) (xs ys : List Int) (hc1 : w.cell? ⟨h, 0, none⟩ = some (.slice (some adA) la cA)) (hc2 : w.cell? ⟨h, 1, none⟩ = some (.slice (some adB) lb cB))
  (hA : SrcE intV w I (.slice (some adA) la cA) xs) (hB : SrcE intV w J (.slice (some adB) lb cB) ys) (hla : 1 ≤ la) (hla2 : la ≤ 1000) (hlb : lb ≤ 1000) :
  Calls Tryz.prog 125 #[.slice (some ⟨h, 0, none⟩) 2 2] w fun e w' => ∃ v', e = .returned v' ∧ IRow w.heap.size w' v' (xs ++ ys) ∧ Same w w' := by
 have hxl := hA.at.1
 have hyl := hB.at.1
 have HA : Hid (SrcE intV w I (.slice (some adA) la cA) xs) := hA
 have HB : Hid (SrcE intV w J (.slice (some adB) lb cB) ys) := hB
 obtain ⟨t, ht⟩ : ∃ t, t = la + lb := ⟨_, rfl⟩
 have htI : (la : Int) + (lb : Int) = (t : Int) := by omega
 have htw : IntKind.i64.wrap (t : Int) = (t : Int) := by rw [IntKind.wrap_i64]; omega
 have HGR := lgrow_any w t (by omega) (by omega)
 have HXL : Hid (la = xs.length ∧ lb = ys.length) := hid ⟨hxl, hyl⟩
 clear hA hB ht hxl hyl
 go_enter Tryz.func125, Tryz.ntmps125
 go_wp2_with fail
 refine wp_loop_rounds 3 ?_
 rw [rounds_succ]
 go_wp2_with fail
 rw [rounds_succ]
 go_wp2_with fail
 rw [rounds_succ]
 go_wp2_with fail
 refine HGR.mono ?_
 rintro e w1 ⟨⟨G, rfl, hr1⟩, hk1⟩
 have HR1 : Hid (IRow w.heap.size w1 (.slice (some ⟨w.heap.size, 0, none⟩) 0 G) []) := hid (hr1.recode (enc' := intV) (ys := []) rfl)
 have HK1 : Hid (Same w w1) := hk1
 have c1 : w1.cell? ⟨h, 0, none⟩ = some (.slice (some adA) la cA) := hk1.cell hc1 (fun f => f)
 have c2 : w1.cell? ⟨h, 1, none⟩ = some (.slice (some adB) lb cB) := hk1.cell hc2 (fun f => f)
 have hsz1 := hk1.size
 clear hr1 hk1 HGR
 go_wp2_with fail
 refine wp_loop_rounds 3 ?_
 rw [rounds_succ]
 go_wp2_with (at_builtin; refine wpList_append_x _ intV intV_one w.heap.size 117 3 (intV 0) 8 Tryz.underlying117 Tryz.infoI rfl (by decide) rfl (.tmp 31) (.tmp 32) rfl _ [] rfl HR1.out _ (some adA) la cA xs rfl (HA.out.same HK1.out) (fun e => by cases e) (by have := HXL.out; simp; omega) hsz1 ?_; intro v3 w3 hr3 hg3; have HR3 : Hid (IRow w.heap.size w3 v3 xs) := hid (by simpa using hr3); have HK3 : Hid (Same w w3) := hid (HK1.out.grown hg3 (fun j e => .inr (HR1.out.ge e))); have d2 : w3.cell? ⟨h, 1, none⟩ = some (.slice (some adB) lb cB) := HK3.out.cell hc2 (fun f => f); clear hr3 hg3)
 have hsz3 := HK3.out.size
 rw [rounds_succ]
 go_wp2_with (at_builtin; refine wpList_append_x _ intV intV_one w.heap.size 117 3 (intV 0) 8 Tryz.underlying117 Tryz.infoI rfl (by decide) rfl (.tmp 31) (.tmp 32) rfl _ xs rfl HR3.out _ (some adB) lb cB ys rfl (HB.out.same HK3.out) (fun e => by cases e) (by have := HXL.out; omega) hsz3 ?_; intro v4 w4 hr4 hg4; have HR4 : Hid (IRow w.heap.size w4 v4 (xs ++ ys)) := hr4; have HK4 : Hid (Same w w4) := hid (HK3.out.grown hg4 (fun j e => .inr (HR3.out.ge e))); clear hr4 hg4)
 rw [rounds_succ]
 go_wp2_with fail
 go_ret
 exact ⟨_, rfl, HR4.out, HK4.out⟩

end Go.Proofs.YtljlmfnbeofmmaaGreatDoor
