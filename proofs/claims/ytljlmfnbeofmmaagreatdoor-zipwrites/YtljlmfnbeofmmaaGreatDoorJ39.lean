/-
  Of the proof: parts LnCat, InPf.
-/
import Derived.Lib.AppendZerosOnto
import Derived.Lib.Walk
import Derived.Deep.RegionLaw
import Derived.Test.YtljlmfnbeofmmaaGreatDoorJ38
import Derived.Test.YtljlmfnbeofmmaaGreatDoorJ26
import Derived.Test.YtljlmfnbeofmmaaGreatDoorJ27
import Derived.Test.YtljlmfnbeofmmaaGreatDoorJ10
import Derived.Test.YtljlmfnbeofmmaaGreatDoorJ6
import Derived.Test.YtljlmfnbeofmmaaGreatDoorJ3

namespace Go.Proofs.YtljlmfnbeofmmaaGreatDoor
open Go.RowKit

set_option maxRecDepth 100000 in
set_option maxHeartbeats 2000000 in
theorem lgrow_any (w : World) (n : Nat) (h1 : 1 ≤ n) (hn : n ≤ 1000000) :
  Calls Tryz.prog 155 #[.slice none 0 0, .int .i64 (n : Nat)] w fun e w' => (∃ G, e = .returned (.slice (some ⟨w.heap.size, 0, none⟩) 0 G) ∧ NRow w.heap.size w' (.slice (some ⟨w.heap.size, 0, none⟩) 0 G) []) ∧ Same w w' := by
 obtain ⟨i0, hi, hz0, hz1, hz2⟩ := info_parts Tryz.infoN
 have hbig : (0 + n) * i0.bytes ≤ 140737488355328 := by rw [hz2]; omega
 have hold : (Builtin.firstCells i0.size 0 (.slice none 0 0)).run Tryz.prog w.drew = .ok ([] : List Value).toArray w.drew := run_firstCells_none w.drew i0.size 0 0 0
 have hrz : ∀ ty, (Builtin.append_ #[117, 3] ty #[.slice none 0 0, .int .i64 (n : Nat)]).run Tryz.prog w =
   .ok (.slice (some ⟨w.heap.size, 0, none⟩) (0 + n) (grownCap w (0 + n) 0 3)) (w.drew.alloc (.cells (([] : List Value).toArray ++ Builtin.zeroCells (natV 0).cells n ++ Builtin.zeroCells (natV 0).cells (grownCap w (0 + n) 0 3 - (0 + n))) 3)) := fun ty =>
  Lib.run_append_grow_zeros w 117 3 ty 3 i0 _ .i64 .i64 Tryz.underlying117 Tryz.underlying3 hi hz0 none 0 0 [] hold n (by omega) (by omega) (by omega) (by omega) (by rw [hz2]; omega) (growslice_fits (by omega) hbig)
 have hGn : 0 + n ≤ grownCap w (0 + n) 0 3 := grownCap_ge w _ _ _
 have hGm : grownCap w (0 + n) 0 3 ≤ maxLen := grownCap_le_maxLen w _ _ _ (by unfold maxLen; omega)
 obtain ⟨G, hG⟩ : ∃ G, G = grownCap w (0 + n) 0 3 := ⟨_, rfl⟩
 rw [← hG] at hrz hGn hGm
 rw [Nat.zero_add] at hrz hGn
 obtain ⟨cur, hcur⟩ : ∃ cur, cur = ([] : List Value).toArray ++ Builtin.zeroCells (natV 0).cells n ++ Builtin.zeroCells (natV 0).cells (G - n) := ⟨_, rfl⟩
 have hcs : cur.size = G := by
  rw [hcur]
  have e : (natV 0).cells.size = 1 := rfl
  simp [Builtin.zeroCells, e]
  omega
 rw [← hcur] at hrz
 have HROW : Hid (NRow w.heap.size (w.drew.alloc (.cells cur 3)) (.slice (some ⟨w.heap.size, 0, none⟩) 0 G) []) := hid ⟨rfl, .inr ⟨w.heap.size, G, cur, rfl, Nat.le_refl _, Blk.new w.drew cur 3, Nat.zero_le _, hGm, by rw [hcs, Nat.mul_one], by simp⟩⟩
 have HK : Hid (Same w (w.drew.alloc (.cells cur 3))) := hid (((Kept.refl _ w).drew).alloc _)
 clear hold hbig hi hz0 hz1 hz2 hG hcur hcs hGm
 go_enter Tryz.func155, Tryz.ntmps155
 go_wp2_with (at_builtin; refine Lib.wpList_append_run _ rfl _ _ _ _ rfl _ _ rfl rfl _ _ (hrz _) ?_)
 all_goals
  go_ret
  exact ⟨⟨G, rfl, HROW.out⟩, HK.out⟩

set_option maxRecDepth 100000 in
set_option maxHeartbeats 2000000 in
theorem lconcat_any (w : World) (h la cA lb cB : Nat) (adA adB : Addr) (I J : Nat → Prop) (xs ys : List Int) (hc1 : w.cell? ⟨h, 0, none⟩ = some (.slice (some adA) la cA)) (hc2 : w.cell? ⟨h, 1, none⟩ = some (.slice (some adB) lb cB))
  (hA : SrcE intV w I (.slice (some adA) la cA) xs) (hB : SrcE intV w J (.slice (some adB) lb cB) ys) (hla : 1 ≤ la) (hla2 : la ≤ 1000) (hlb : lb ≤ 1000) :
  Calls Tryz.prog 125 #[.slice (some ⟨h, 0, none⟩) 2 2] w fun e w' => ∃ v', e = .returned v' ∧ IRow w.heap.size w' v' (xs ++ ys) ∧ Same w w' := by
 have hxl := hA.at.1
 have hyl := hB.at.1
 have HA : Hid (SrcE intV w I (.slice (some adA) la cA) xs) := hA
 have HB : Hid (SrcE intV w J (.slice (some adB) lb cB) ys) := hB
 obtain ⟨t, ht⟩ : ∃ t, t = la + lb := ⟨_, rfl⟩
 have htI : (la : Int) + (lb : Int) = (t : Int) := by omega
 have htw : IntKind.i64.wrap (t : Int) = (t : Int) := by rw [IntKind.wrap_i64]; omega
 have HGR := lgrow_any w t (by omega) (by omega)
 have HXL : Hid (la = xs.length ∧ lb = ys.length) := hid ⟨hxl, hyl⟩
 clear hA hB ht hxl hyl
 go_enter Tryz.func125, Tryz.ntmps125
 go_wp2_with fail
 refine wp_loop_rounds 3 ?_
 rw [rounds_succ]
 go_wp2_with fail
 rw [rounds_succ]
 go_wp2_with fail
 rw [rounds_succ]
 go_wp2_with fail
 refine HGR.mono ?_
 rintro e w1 ⟨⟨G, rfl, hr1⟩, hk1⟩
 have HR1 : Hid (IRow w.heap.size w1 (.slice (some ⟨w.heap.size, 0, none⟩) 0 G) []) := hid (hr1.recode (enc' := intV) (ys := []) rfl)
 have HK1 : Hid (Same w w1) := hk1
 have c1 : w1.cell? ⟨h, 0, none⟩ = some (.slice (some adA) la cA) := hk1.cell hc1 (fun f => f)
 have c2 : w1.cell? ⟨h, 1, none⟩ = some (.slice (some adB) lb cB) := hk1.cell hc2 (fun f => f)
 have hsz1 := hk1.size
 clear hr1 hk1 HGR
 go_wp2_with fail
 refine wp_loop_rounds 3 ?_
 rw [rounds_succ]
 go_wp2_with (at_builtin; refine wpList_append_x _ intV intV_one w.heap.size 117 3 (intV 0) 8 Tryz.underlying117 Tryz.infoI rfl (by decide) rfl (.tmp 31) (.tmp 32) rfl _ [] rfl HR1.out _ (some adA) la cA xs rfl (HA.out.same HK1.out) (fun e => by cases e) (by have := HXL.out; simp; omega) hsz1 ?_; intro v3 w3 hr3 hg3; have HR3 : Hid (IRow w.heap.size w3 v3 xs) := hid (by simpa using hr3); have HK3 : Hid (Same w w3) := hid (HK1.out.grown hg3 (fun j e => .inr (HR1.out.ge e))); have d2 : w3.cell? ⟨h, 1, none⟩ = some (.slice (some adB) lb cB) := HK3.out.cell hc2 (fun f => f); clear hr3 hg3)
 have hsz3 := HK3.out.size
 rw [rounds_succ]
 go_wp2_with (at_builtin; refine wpList_append_x _ intV intV_one w.heap.size 117 3 (intV 0) 8 Tryz.underlying117 Tryz.infoI rfl (by decide) rfl (.tmp 31) (.tmp 32) rfl _ xs rfl HR3.out _ (some adB) lb cB ys rfl (HB.out.same HK3.out) (fun e => by cases e) (by have := HXL.out; omega) hsz3 ?_; intro v4 w4 hr4 hg4; have HR4 : Hid (IRow w.heap.size w4 v4 (xs ++ ys)) := hr4; have HK4 : Hid (Same w w4) := hid (HK3.out.grown hg4 (fun j e => .inr (HR3.out.ge e))); clear hr4 hg4)
 rw [rounds_succ]
 go_wp2_with fail
 go_ret
 exact ⟨_, rfl, HR4.out, HK4.out⟩

end Go.Proofs.YtljlmfnbeofmmaaGreatDoor

namespace Go.Proofs.YtljlmfnbeofmmaaGreatDoor
open Go.RowKit

theorem RowC.nat {B : Nat} {w : World} {v : Value} {xs : List Nat} (h : RowC B 3 1 natL w v xs) : NRow B w v xs := by
 unfold NRow RowE
 unfold RowC at h
 rw [natL_flat] at h
 exact h

set_option maxRecDepth 100000 in
set_option maxHeartbeats 4000000 in
theorem pconcat_any (w : World) (h : Nat) (la lb lc ld : Nat) (ga gb gc gd : Nat) (xa xb xc xd : List Nat)
  (hc0 : w.cell? ⟨h, 0, none⟩ = some (.slice (some ⟨ga, 0, none⟩) la la)) (hc1 : w.cell? ⟨h, 1, none⟩ = some (.slice (some ⟨gb, 0, none⟩) lb lb)) (hc2 : w.cell? ⟨h, 2, none⟩ = some (.slice (some ⟨gc, 0, none⟩) lc lc)) (hc3 : w.cell? ⟨h, 3, none⟩ = some (.slice (some ⟨gd, 0, none⟩) ld ld))
  (hA : NRow 0 w (.slice (some ⟨ga, 0, none⟩) la la) xa) (hB : NRow 0 w (.slice (some ⟨gb, 0, none⟩) lb lb) xb) (hC : NRow 0 w (.slice (some ⟨gc, 0, none⟩) lc lc) xc) (hD : NRow 0 w (.slice (some ⟨gd, 0, none⟩) ld ld) xd) (h1 : 1 ≤ la) (hla : la ≤ 1000) (hlb : lb ≤ 1000) (hlc : lc ≤ 1000) (hld : ld ≤ 1000) :
  Calls Tryz.prog 125 #[.slice (some ⟨h, 0, none⟩) 4 4] w fun e w' => ∃ v', e = .returned v' ∧ NRow w.heap.size w' v' (xa ++ xb ++ xc ++ xd) ∧ Same w w' := by
 have HA : Hid (SrcE natV w _ (.slice (some ⟨ga, 0, none⟩) la la) xa) := hid (SrcE.ofRow hA)
 have HB : Hid (SrcE natV w _ (.slice (some ⟨gb, 0, none⟩) lb lb) xb) := hid (SrcE.ofRow hB)
 have HC : Hid (SrcE natV w _ (.slice (some ⟨gc, 0, none⟩) lc lc) xc) := hid (SrcE.ofRow hC)
 have HD : Hid (SrcE natV w _ (.slice (some ⟨gd, 0, none⟩) ld ld) xd) := hid (SrcE.ofRow hD)
 have HXL : Hid (xa.length = la ∧ xb.length = lb ∧ xc.length = lc ∧ xd.length = ld) := hid ⟨hA.len, hB.len, hC.len, hD.len⟩
 obtain ⟨t1, ht1⟩ : ∃ t, t = la + lb := ⟨_, rfl⟩
 obtain ⟨t2, ht2⟩ : ∃ t, t = t1 + lc := ⟨_, rfl⟩
 obtain ⟨t3, ht3⟩ : ∃ t, t = t2 + ld := ⟨_, rfl⟩
 have hI1 : (la : Int) + (lb : Int) = (t1 : Int) := by omega
 have hI2 : (t1 : Int) + (lc : Int) = (t2 : Int) := by omega
 have hI3 : (t2 : Int) + (ld : Int) = (t3 : Int) := by omega
 have hw1 : IntKind.i64.wrap (t1 : Int) = (t1 : Int) := by rw [IntKind.wrap_i64]; omega
 have hw2 : IntKind.i64.wrap (t2 : Int) = (t2 : Int) := by rw [IntKind.wrap_i64]; omega
 have hw3 : IntKind.i64.wrap (t3 : Int) = (t3 : Int) := by rw [IntKind.wrap_i64]; omega
 have HGR := lgrow_any w t3 (by omega) (by omega)
 have hl1 : t1 ≤ 2000 := by omega
 have hl2 : t2 ≤ 3000 := by omega
 have hl3 : t3 ≤ 4000 := by omega
 clear hA hB hC hD ht1 ht2 ht3
 go_enter Tryz.func125, Tryz.ntmps125
 go_wp2_with fail
 refine wp_loop_rounds 5 ?_
 rw [rounds_succ]
 go_wp2_with fail
 rw [rounds_succ]
 go_wp2_with fail
 rw [rounds_succ]
 go_wp2_with fail
 rw [rounds_succ]
 go_wp2_with fail
 rw [rounds_succ]
 go_wp2_with fail
 refine HGR.mono ?_
 rintro e w1 ⟨⟨G, rfl, hr1⟩, hk1⟩
 have HR1 : Hid (NRow w.heap.size w1 (.slice (some ⟨w.heap.size, 0, none⟩) 0 G) []) := hid hr1
 have HK1 : Hid (Same w w1) := hk1
 have c0 := hk1.cell hc0 (fun f => f)
 have hsz1 := hk1.size
 clear hr1 hk1 HGR
 go_wp2_with fail
 refine wp_loop_rounds 5 ?_
 rw [rounds_succ]
 go_wp2_with (at_builtin; refine wpList_append_x _ natV natV_one w.heap.size 117 3 (natV 0) 8 Tryz.underlying117 Tryz.infoN rfl (by decide) rfl (.tmp 31) (.tmp 32) rfl _ [] rfl HR1.out _ (some ⟨ga, 0, none⟩) la la xa rfl (HA.out.same HK1.out) (fun e => by cases e) (by have := HXL.out; simp; omega) hsz1 ?_; intro v3 w3 hr3 hg3; have HR3 : Hid (NRow w.heap.size w3 v3 xa) := hid (by simpa using hr3); have HK3 : Hid (Same w w3) := hid (HK1.out.grown hg3 (fun j e => .inr (HR1.out.ge e))); have d1 := HK3.out.cell hc1 (fun f => f); clear hr3 hg3)
 have hsz3 := HK3.out.size
 rw [rounds_succ]
 go_wp2_with (at_builtin; refine wpList_append_x _ natV natV_one w.heap.size 117 3 (natV 0) 8 Tryz.underlying117 Tryz.infoN rfl (by decide) rfl (.tmp 31) (.tmp 32) rfl _ xa rfl HR3.out _ (some ⟨gb, 0, none⟩) lb lb xb rfl (HB.out.same HK3.out) (fun e => by cases e) (by have := HXL.out; omega) hsz3 ?_; intro v4 w4 hr4 hg4; have HR4 : Hid (NRow w.heap.size w4 v4 (xa ++ xb)) := hr4; have HK4 : Hid (Same w w4) := hid (HK3.out.grown hg4 (fun j e => .inr (HR3.out.ge e))); have d2 := HK4.out.cell hc2 (fun f => f); clear hr4 hg4)
 have hsz4 := HK4.out.size
 rw [rounds_succ]
 go_wp2_with (at_builtin; refine wpList_append_x _ natV natV_one w.heap.size 117 3 (natV 0) 8 Tryz.underlying117 Tryz.infoN rfl (by decide) rfl (.tmp 31) (.tmp 32) rfl _ (xa ++ xb) rfl HR4.out _ (some ⟨gc, 0, none⟩) lc lc xc rfl (HC.out.same HK4.out) (fun e => by cases e) (by have := HXL.out; rw [List.length_append]; omega) hsz4 ?_; intro v5 w5 hr5 hg5; have HR5 : Hid (NRow w.heap.size w5 v5 (xa ++ xb ++ xc)) := hr5; have HK5 : Hid (Same w w5) := hid (HK4.out.grown hg5 (fun j e => .inr (HR4.out.ge e))); have d3 := HK5.out.cell hc3 (fun f => f); clear hr5 hg5)
 have hsz5 := HK5.out.size
 rw [rounds_succ]
 go_wp2_with (at_builtin; refine wpList_append_x _ natV natV_one w.heap.size 117 3 (natV 0) 8 Tryz.underlying117 Tryz.infoN rfl (by decide) rfl (.tmp 31) (.tmp 32) rfl _ (xa ++ xb ++ xc) rfl HR5.out _ (some ⟨gd, 0, none⟩) ld ld xd rfl (HD.out.same HK5.out) (fun e => by cases e) (by have := HXL.out; rw [List.length_append, List.length_append]; omega) hsz5 ?_; intro v6 w6 hr6 hg6; have HR6 : Hid (NRow w.heap.size w6 v6 (xa ++ xb ++ xc ++ xd)) := hr6; have HK6 : Hid (Same w w6) := hid (HK5.out.grown hg6 (fun j e => .inr (HR5.out.ge e))); clear hr6 hg6)
 rw [rounds_succ]
 go_wp2_with fail
 go_ret
 exact ⟨_, rfl, HR6.out, HK6.out⟩

end Go.Proofs.YtljlmfnbeofmmaaGreatDoor
