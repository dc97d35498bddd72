/-
  Of the proof: parts ZpXa, ZpXc, ZsB, ZsD, ZpXd, ZqA, ZqB, ZqC, ZqD, ZqM.
-/
import Derived.BigQuiet
import Derived.Test.YtljlmfnbeofmmaaGreatDoorJ37
import Derived.Test.YtljlmfnbeofmmaaGreatDoorJ34
import Derived.Test.YtljlmfnbeofmmaaGreatDoorJ6
import Derived.Test.YtljlmfnbeofmmaaGreatDoorJ43
import Derived.Test.YtljlmfnbeofmmaaGreatDoorJ4
import Derived.Test.YtljlmfnbeofmmaaGreatDoorJ32
import Derived.Test.YtljlmfnbeofmmaaGreatDoorJ35
import Derived.Test.YtljlmfnbeofmmaaGreatDoorJ33
import Derived.Test.YtljlmfnbeofmmaaGreatDoorJ41
import Derived.Test.YtljlmfnbeofmmaaGreatDoorJ26
import Derived.Test.YtljlmfnbeofmmaaGreatDoorJ1

namespace Go.Proofs.YtljlmfnbeofmmaaGreatDoor
open Go.RowKit

theorem nil8 {w : World} {v : Value} {bs : List Nat} (h : Row w v bs) : ∀ n c, v = .slice none n c → n = 0 ∧ c = 0 := by
 rintro n c rfl
 rcases h.2 with ⟨h1, _⟩ | ⟨g, cap, cur, h1, _⟩
 ·simp only [Value.slice.injEq] at h1
  exact ⟨h1.2.1, h1.2.2⟩
 ·cases h1

def bodZ (y : En) (bs : List Nat) : List Nat := if bs.length < y.d.size then bs else sb y.d

def labZ (y : En) (bs : List Nat) : Mk := ⟨if bs.length < y.d.size then 8 else 0, more 0 (sb y.d), (bodZ y bs).length, y.d.size, sb y.n⟩

def PackZ (w w' : World) (y : En) (e : Ending) : Prop :=
 ∃ bs v' J, PDef (sb y.d) bs ∧ e = .returned (.tuple #[.agg (mkZ (labZ y bs)), v']) ∧ Src w' J v' (bodZ y bs) ∧ (∀ k, J k → w.heap.size ≤ k) ∧ (∀ n c, v' = .slice none n c → n = 0 ∧ c = 0) ∧ Same w w'

set_option maxRecDepth 100000 in
set_option maxHeartbeats 400000 in
theorem zpack_any (w : World) (y : En) (hd : y.d.size ≤ 8192) (hT : Tab w) :
  Calls Tryz.prog 34 #[.agg #[.string y.n, .string y.d]] w fun e w' => PackZ w w' y e := by
 obtain ⟨W2, hW2⟩ : ∃ W, W = (w.alloc (.cells #[.string y.n, .string y.d] 34)).alloc (.cells #[.int .u16 0, .int .u32 0, .int .u32 0, .int .u32 0, .string ⟨#[]⟩] 60) := ⟨_, rfl⟩
 have HK2 : Hid (Same w W2) := hid (by rw [hW2]; exact ((Kept.refl _ w).alloc _).alloc _)
 have HX2 : Hid (Blk W2 w.heap.size #[.string y.n, .string y.d] 34) := hid (by rw [hW2]; exact (Blk.new w _ _).kept (show Same _ _ from (Kept.refl _ _).alloc _) (fun f => f))
 have HR2 : Hid (Blk W2 (w.heap.size + 1) #[.int .u16 0, .int .u32 0, .int .u32 0, .int .u32 0, .string ⟨#[]⟩] 60) := hid (by rw [hW2]; have h9 := Blk.new (w.alloc (.cells #[.string y.n, .string y.d] 34)) #[.int .u16 0, .int .u32 0, .int .u32 0, .int .u32 0, .string ⟨#[]⟩] 60; rw [World.size_alloc] at h9; exact h9)
 obtain ⟨G, W3, hcv, hk3, hs3, hz3⟩ := bytes8 W2 y.d
 have HR3 : Hid (Blk W3 (w.heap.size + 1) #[.int .u16 0, .int .u32 0, .int .u32 0, .int .u32 0, .string ⟨#[]⟩] 60) := hid (HR2.out.kept hk3 (fun f => f))
 have HZ3 : Hid (W3.heap.size = w.heap.size + 3) := hid (by rw [hz3, hW2, World.size_alloc, World.size_alloc])
 have hcv' := hcv
 rw [hW2] at hcv'
 have HK3 : Hid (Same w W3) := hid (Same.trans HK2.out hk3)
 have HX3 : Hid (Blk W3 w.heap.size #[.string y.n, .string y.d] 34) := hid (HX2.out.kept hk3 (fun f => f))
 obtain ⟨db, hdb⟩ : ∃ b, b = W2.heap.size := ⟨_, rfl⟩
 rw [← hdb] at hs3
 have hdb' := hdb
 rw [hW2, World.size_alloc, World.size_alloc] at hdb'
 have HS3 : Hid (Src W3 (fun k => k = db) (.slice (some ⟨db, 0, none⟩) y.d.size G) (sb y.d)) := hs3
 have hsz : (sb y.d).length = y.d.size := sb_size _
 have hbyte := sb_lt y.d
 have hlw : IntKind.u32.wrap (y.d.size : Int) = (y.d.size : Int) := by rw [IntKind.wrap_u32]; omega
 obtain ⟨xb, hxb⟩ : ∃ b, b = w.heap.size := ⟨_, rfl⟩
 have x0 : W3.cell? ⟨xb, 0, none⟩ = some (.string y.n) := by rw [hxb]; exact HX3.out.cell 0
 have x1 : W3.cell? ⟨xb, 1, none⟩ = some (.string y.d) := by rw [hxb]; exact HX3.out.cell 1
 have HSUM := lsum_any W3 _ _ _ HS3.out hbyte (by rw [hsz]; omega)
 have HSUMd := lsum_any W3.drew _ _ _ (HS3.out.kept (show Same W3 W3.drew from (Kept.refl _ W3).drew) (fun _ _ _ f => f)) hbyte (by rw [hsz]; omega)
 clear hs3 hk3 hcv
 go_enter Tryz.func34, Tryz.ntmps34
 go_wp2_with fail
 have HD2 : Hid (db = w.heap.size + 2) := hid (by omega)
 rw [← hdb', ← hxb]
 clear hcv' hW2 hdb hdb' hz3
 have HDB : Hid (xb = w.heap.size) := hxb
 clear hxb
 have HSUMn := fun wx (hk : Same W3 wx) => lsum_any wx _ _ _ (HS3.out.kept hk (fun _ _ _ f => f)) hbyte (by rw [hsz]; omega)
 go_region_held3 (fun w' => w'.cell? ⟨xb, 0, none⟩ = some (.string y.n))
  (first
   | (go_split_ands; assumption)
   | go_keep)
  (first
   | (go_at_call 28; refine (HSUMn _ (by first | exact Kept.refl _ _ | exact (Kept.refl _ _).drew | exact (Kept.refl _ _).drewN _ | exact ((Kept.refl _ _).drew).alloc _ | exact ((Kept.refl _ _).drewN _).alloc _)).mono ?_; rintro e w4 ⟨rfl, hw4⟩; subst hw4))
 all_goals
  obtain ⟨C, hC⟩ : ∃ C, C = #[Value.int .u16 0, .int .u32 (more 0 (sb y.d) : Nat), .int .u32 0, .int .u32 (y.d.size : Nat), .string y.n] := ⟨_, rfl⟩
  rw [← hC]
  obtain ⟨lb, hlb⟩ : ∃ b, b = W3.heap.size := ⟨_, rfl⟩
  obtain ⟨W4, hW4⟩ : ∃ W, W = (W3.alloc (.cells C 60)).drew := ⟨_, rfl⟩
  have hk4 : Same W3 W4 := by rw [hW4]; exact ((Kept.refl _ W3).alloc _).drew
  have HK4 : Hid (Same w W4) := hid (Same.trans HK3.out hk4)
  have HB4 : Hid (Blk W4 lb C 60) := hid (by rw [hW4, hlb]; exact (Blk.new W3 C 60).drewN 1)
  have HS4 : Hid (Src W4 (fun k => k = db) (.slice (some ⟨db, 0, none⟩) y.d.size G) (sb y.d)) := hid (HS3.out.kept hk4 (fun _ _ _ f => f))
  have HD := deflate_any W4 _ _ _ HS4.out hbyte (fun n c e => by cases e) (by rw [hsz]; omega) (hT.kept HK4.out (fun f => f))
  have HLB3 : Hid (lb = xb + 3 ∧ xb = w.heap.size) := hid ⟨by rw [hlb, HZ3.out, HDB.out], HDB.out⟩
  have HR4 : Hid (Blk W4 (xb + 1) #[.int .u16 0, .int .u32 0, .int .u32 0, .int .u32 0, .string ⟨#[]⟩] 60) := hid (by rw [HDB.out]; exact HR3.out.kept hk4 (fun f => f))
  rw [← hlb, ← hW4]
  clear hW4 hk4 HSUM HSUMd HSUMn hlb
  go_wp2_with fail
  refine HD.mono ?_
  rintro e w5 ⟨v5, bs, rfl, hn5, hp5⟩
  have HP5 : Hid (PDef (sb y.d) bs) := hp5
  have HN5 : Hid (NB W4 w5 v5 bs) := hn5
  have HK5 : Hid (Same w w5) := hid (Same.trans HK4.out hn5.same)
  have HR5 : Hid (Blk w5 (xb + 1) #[.int .u16 0, .int .u32 0, .int .u32 0, .int .u32 0, .string ⟨#[]⟩] 60) := hid (HR4.out.kept hn5.same (fun f => f))
  have HB5 : Hid (Blk w5 lb C 60) := hid (HB4.out.kept hn5.same (fun f => f))
  have HS5 : Hid (Src w5 (fun k => k = db) (.slice (some ⟨db, 0, none⟩) y.d.size G) (sb y.d)) := hid (HS4.out.kept hn5.same (fun _ _ _ f => f))
  obtain ⟨a5, c5, hv5, _⟩ := hn5.row.shape
  obtain ⟨n5, hn5l⟩ : ∃ n, n = bs.length := ⟨_, rfl⟩
  rw [← hn5l] at hv5
  subst hv5
  have HNL : Hid (n5 = bs.length) := hn5l
  have HLT : Hid (lb < W4.heap.size ∧ xb + 1 < W4.heap.size) := hid ⟨HB4.out.lt, HR4.out.lt⟩
  clear hn5 hp5 hn5l HD HB4 HS4
  have k0 : w5.cell? ⟨lb, 0, none⟩ = some (.int .u16 0) := by have := HB5.out.cell 0; rw [hC] at this; exact this
  have k1 : w5.cell? ⟨lb, 1, none⟩ = some (.int .u32 (more 0 (sb y.d) : Nat)) := by have := HB5.out.cell 1; rw [hC] at this; exact this
  have k2 : w5.cell? ⟨lb, 2, none⟩ = some (.int .u32 0) := by have := HB5.out.cell 2; rw [hC] at this; exact this
  have k3 : w5.cell? ⟨lb, 3, none⟩ = some (.int .u32 (y.d.size : Nat)) := by have := HB5.out.cell 3; rw [hC] at this; exact this
  have k4 : w5.cell? ⟨lb, 4, none⟩ = some (.string y.n) := by have := HB5.out.cell 4; rw [hC] at this; exact this
  have z0 := HB5.out.frozen 0
  have z2 := HB5.out.frozen 2
  obtain ⟨rb, hrb⟩ : ∃ b, b = xb + 1 := ⟨_, rfl⟩
  rw [← hrb] at HR5 ⊢
  have hne : ¬ lb = rb := by have := HLB3.out; omega
  have hne' : ¬ rb = lb := by have := HLB3.out; omega
  have HNE : Hid (¬ lb = rb ∧ w.heap.size ≤ rb ∧ w.heap.size ≤ lb ∧ lb < W4.heap.size ∧ rb < W4.heap.size ∧ ¬ db = lb ∧ ¬ db = rb) := hid (by have := HLB3.out; have := HLT.out; have := HD2.out; omega)
  have m0 := HR5.out.cell 0
  have f0 := HR5.out.frozen 0
  have m1 := HR5.out.cell 1
  have f1 := HR5.out.frozen 1
  have m2 := HR5.out.cell 2
  have f2 := HR5.out.frozen 2
  have m3 := HR5.out.cell 3
  have f3 := HR5.out.frozen 3
  have m4 := HR5.out.cell 4
  have f4 := HR5.out.frozen 4
  simp at m0 m1 m2 m3 m4
  have HC5 : Hid (C = #[Value.int .u16 0, .int .u32 (more 0 (sb y.d) : Nat), .int .u32 0, .int .u32 (y.d.size : Nat), .string y.n]) := hC
  clear hrb x0 x1 HR4 HR3 HR2
  by_cases hlt : n5 < y.d.size
  ·have hl1 : decide (n5 < y.d.size) = true := by simp; omega
   have hl2 : (n5 : Int) < (y.d.size : Int) := by omega
   have hnw : IntKind.u32.wrap (n5 : Int) = (n5 : Int) := by rw [IntKind.wrap_u32]; omega
   clear hC
   go_wp2_with fail
   obtain ⟨wz, hwz⟩ : ∃ W, W = (((((((w5.setCell ⟨lb, 0, none⟩ (.int .u16 8)).setCell ⟨lb, 2, none⟩ (.int .u32 (n5 : Nat))).setCell ⟨rb, 0, none⟩ (.int .u16 8)).setCell ⟨rb, 1, none⟩ (.int .u32 (more 0 (sb y.d) : Nat))).setCell ⟨rb, 2, none⟩ (.int .u32 (n5 : Nat))).setCell ⟨rb, 3, none⟩ (.int .u32 (y.d.size : Nat))).setCell ⟨rb, 4, none⟩ (.string y.n)) := ⟨_, rfl⟩
   have hkz : Kept (fun k => k = lb ∨ k = rb) w5 wz := by rw [hwz]; exact ((((((((Kept.refl (fun k => k = lb ∨ k = rb) w5).setCell _ _ (.inl (.inl rfl))).setCell _ _ (.inl (.inl rfl))).setCell _ _ (.inl (.inr rfl))).setCell _ _ (.inl (.inr rfl))).setCell _ _ (.inl (.inr rfl))).setCell _ _ (.inl (.inr rfl))).setCell _ _ (.inl (.inr rfl)))
   have hbz : Blk wz rb #[.int .u16 8, .int .u32 (more 0 (sb y.d) : Nat), .int .u32 (n5 : Nat), .int .u32 (y.d.size : Nat), .string y.n] 60 := by rw [hwz]; have := ((((((HR5.out.kept (show Kept (fun k => k = lb) w5 ((w5.setCell ⟨lb, 0, none⟩ (.int .u16 8)).setCell ⟨lb, 2, none⟩ (.int .u32 (n5 : Nat))) from (((Kept.refl (fun k => k = lb) w5).setCell _ _ (.inl rfl)).setCell _ _ (.inl rfl))) (fun e => HNE.out.1 e.symm)).set 0 (.int .u16 8)).set 1 (.int .u32 (more 0 (sb y.d) : Nat))).set 2 (.int .u32 (n5 : Nat))).set 3 (.int .u32 (y.d.size : Nat))).set 4 (.string y.n)); simpa using this
   have z0 := hbz.cell 0
   have z1 := hbz.cell 1
   have z2 := hbz.cell 2
   have z3 := hbz.cell 3
   have z4 := hbz.cell 4
   simp at z0 z1 z2 z3 z4
   rw [← hwz]
   have hlt' : bs.length < y.d.size := by rw [← HNL.out]; exact hlt
   have hbod : bodZ y bs = bs := by unfold bodZ; rw [if_pos hlt']
   have hlab : mkZ (labZ y bs) = #[.int .u16 8, .int .u32 (more 0 (sb y.d) : Nat), .int .u32 (n5 : Nat), .int .u32 (y.d.size : Nat), .string y.n] := by
    unfold mkZ labZ
    rw [hbod, if_pos hlt', txt_sb, HNL.out]
    rfl
   refine bodyPost_ret (v := .tuple #[.agg (mkZ (labZ y bs)), .slice a5 n5 c5]) (by rw [hlab, results_cell_tmp rfl]; simp [go_sem, z0, z1, z2, z3, z4]) rfl ?_
   refine ⟨bs, _, (fun k => (Value.slice a5 n5 c5).ownBlock = some k), HP5.out, rfl, ?_, (fun k e => by have := HN5.out.new k e; have := HK4.out.size; omega), nil8 HN5.out.row, Same.then HK5.out hkz (fun k hk e => by have := HNE.out; omega)⟩
   rw [hbod]
   exact (Src.ofRow HN5.out.row).kept hkz (fun k hk _ e => by have := HN5.out.new k hk; have := HNE.out; omega)
  ·have hl1 : decide (n5 < y.d.size) = false := by simp; omega
   have hl2 : (y.d.size : Int) ≤ (n5 : Int) := by omega
   clear hC
   go_wp2_with fail
   obtain ⟨wz, hwz⟩ : ∃ W, W = ((((((w5.setCell ⟨lb, 2, none⟩ (.int .u32 (y.d.size : Nat))).setCell ⟨rb, 0, none⟩ (.int .u16 0)).setCell ⟨rb, 1, none⟩ (.int .u32 (more 0 (sb y.d) : Nat))).setCell ⟨rb, 2, none⟩ (.int .u32 (y.d.size : Nat))).setCell ⟨rb, 3, none⟩ (.int .u32 (y.d.size : Nat))).setCell ⟨rb, 4, none⟩ (.string y.n)) := ⟨_, rfl⟩
   have hkz : Kept (fun k => k = lb ∨ k = rb) w5 wz := by rw [hwz]; exact (((((((Kept.refl (fun k => k = lb ∨ k = rb) w5).setCell _ _ (.inl (.inl rfl))).setCell _ _ (.inl (.inr rfl))).setCell _ _ (.inl (.inr rfl))).setCell _ _ (.inl (.inr rfl))).setCell _ _ (.inl (.inr rfl))).setCell _ _ (.inl (.inr rfl)))
   have hbz : Blk wz rb #[.int .u16 0, .int .u32 (more 0 (sb y.d) : Nat), .int .u32 (y.d.size : Nat), .int .u32 (y.d.size : Nat), .string y.n] 60 := by rw [hwz]; have := ((((((HR5.out.kept (show Kept (fun k => k = lb) w5 (w5.setCell ⟨lb, 2, none⟩ (.int .u32 (y.d.size : Nat))) from ((Kept.refl (fun k => k = lb) w5).setCell _ _ (.inl rfl))) (fun e => HNE.out.1 e.symm)).set 0 (.int .u16 0)).set 1 (.int .u32 (more 0 (sb y.d) : Nat))).set 2 (.int .u32 (y.d.size : Nat))).set 3 (.int .u32 (y.d.size : Nat))).set 4 (.string y.n)); simpa using this
   have z0 := hbz.cell 0
   have z1 := hbz.cell 1
   have z2 := hbz.cell 2
   have z3 := hbz.cell 3
   have z4 := hbz.cell 4
   simp at z0 z1 z2 z3 z4
   rw [← hwz]
   have hlt' : ¬ bs.length < y.d.size := by rw [← HNL.out]; exact hlt
   have hbod : bodZ y bs = sb y.d := by unfold bodZ; rw [if_neg hlt']
   have hlab : mkZ (labZ y bs) = #[.int .u16 0, .int .u32 (more 0 (sb y.d) : Nat), .int .u32 (y.d.size : Nat), .int .u32 (y.d.size : Nat), .string y.n] := by
    unfold mkZ labZ
    rw [hbod, if_neg hlt', txt_sb, sb_size]
    rfl
   refine bodyPost_ret (v := .tuple #[.agg (mkZ (labZ y bs)), .slice (some ⟨db, 0, none⟩) y.d.size G]) (by rw [hlab, results_cell_tmp rfl]; simp [go_sem, z0, z1, z2, z3, z4]) rfl ?_
   refine ⟨bs, _, (fun k => k = db), HP5.out, rfl, ?_, (fun k e => by have := HD2.out; omega), (fun n c e => by cases e), Same.then HK5.out hkz (fun k hk e => by have := HNE.out; omega)⟩
   rw [hbod]
   exact HS5.out.kept hkz (fun k hk _ e => by have := HNE.out; omega)

end Go.Proofs.YtljlmfnbeofmmaaGreatDoor

namespace Go.Proofs.YtljlmfnbeofmmaaGreatDoor
open Go.RowKit

set_option maxRecDepth 100000 in
set_option maxHeartbeats 400000 in
theorem zwrite_bad (w : World) (a : Option Addr) (len cap : Nat) (E : Nat → En) (hs : Ents w (fun _ => True) a len E) (hn : len ≤ 100000000) (hcap : len ≤ cap) (hx : Mxl w) (hc : chkE E len ≠ 0) :
  Calls Tryz.prog 13 #[.slice a len cap] w fun e w' => e = .returned (.tuple #[.slice none 0 0, .int .i64 (chkE E len : Nat)]) ∧ Same w w' := by
 have HC := checkw_any w a len cap E hs hn hcap hx
 obtain ⟨c, hcc⟩ : ∃ c, c = chkE E len := ⟨_, rfl⟩
 rw [← hcc] at HC hc ⊢
 have hed : ((c : Int) != 0) = true := by simp; omega
 clear hs hcc hc
 go_enter Tryz.func13, Tryz.ntmps13
 go_wp2_with fail
 refine HC.mono ?_
 rintro e w1 ⟨rfl, hk1⟩
 have HK1 : Hid (Same w w1) := hk1
 clear hk1 HC
 go_wp2_with fail
 refine bodyPost_ret (v := .tuple #[.slice none 0 0, .int .i64 (c : Nat)]) (by simp [results, Tryz.results13, go_sem]) rfl ?_
 exact ⟨rfl, HK1.out⟩

theorem piesB_app (l : List It) (x : It) : piesB (l ++ [x]) = piesB l ++ pieB x := by simp [piesB]

theorem recsB_app (at' : Nat) (l : List It) (x : It) : recsB at' (l ++ [x]) = recsB at' l ++ recB x.lab (at' + (piesB l).length) := by
 induction l generalizing at' with
 | nil => simp [recsB, piesB]
 | cons y r ih =>
  rw [List.cons_append, recsB, recsB, ih, List.append_assoc]
  congr 3
  simp [piesB]
  omega

structure WrI (w wr : World) (E : Nat → En) (i : Nat) (L : List It) (vp vr : Value) : Prop where
 len : L.length = i
 its : ∀ j x, L[j]? = some x → ∃ bs, PDef (sb (E j).d) bs ∧ x = ⟨labZ (E j) bs, bodZ (E j) bs⟩
 pie : Row wr vp (piesB L)
 recs : Row wr vr (recsB 0 L)
 newp : ∀ k, vp.ownBlock = some k → w.heap.size ≤ k
 newr : ∀ k, vr.ownBlock = some k → w.heap.size ≤ k
 apart : ∀ k, vp.ownBlock = some k → vr.ownBlock ≠ some k
 same : Same w wr
 lenp : (piesB L).length ≤ i * 8400
 lenr : (recsB 0 L).length ≤ i * 120

theorem WrI.zero (w wr : World) (E : Nat → En) (hk : Same w wr) : WrI w wr E 0 [] (.slice none 0 0) (.slice none 0 0) :=
 ⟨rfl, fun j x h => (by simp at h), World.ownsRow_nil wr 0 5 1, World.ownsRow_nil wr 0 5 1, fun k e => (by cases e), fun k e => (by cases e), fun k e => (by cases e), hk, by simp [piesB], by simp [recsB]⟩

theorem wrAll_ok {E : Nat → En} {n i : Nat} (h : wrAll E n i = 0) : ∀ j, i ≤ j → j < i + n → wrE E j = 0 := by
 induction n generalizing i with
 | zero => intro j h1 h2; omega
 | succ n ih =>
  intro j h1 h2
  unfold wrAll at h
  split at h
  ·rename_i h3
   by_cases e : j = i
   ·rw [e]; exact h3
   ·exact ih h j (by omega) (by omega)
  ·rename_i h3; exact absurd h h3

theorem chkE_ok {E : Nat → En} {n : Nat} (h : chkE E n = 0) : n ≤ 64 ∧ ∀ j, j < n → nam8 (sb (E j).n) = true ∧ (E j).d.size ≤ 8192 := by
 unfold chkE at h
 split at h
 ·cases h
 ·rename_i h1
  refine ⟨by omega, fun j hj => ?_⟩
  have h2 := wrAll_ok h j (Nat.zero_le _) (by omega)
  unfold wrE at h2
  split at h2
  ·cases h2
  ·rename_i h3
   split at h2
   ·cases h2
   ·rename_i h4
    refine ⟨?_, by omega⟩
    cases h5 : nam8 (sb (E j).n) with
    | true => rfl
    | false => exact absurd (.inl h5) h3

theorem labZ_ok (y : En) (bs : List Nat) (hn : nam8 (sb y.n) = true) (hd : y.d.size ≤ 8192) : MkOk (labZ y bs) ∧ (∀ b ∈ (labZ y bs).name, b < 256) ∧ (labZ y bs).name.length ≤ 64 ∧ (bodZ y bs).length ≤ 8192 := by
 have h1 : (sb y.n).length ≤ 64 := by
  unfold nam8 at hn
  simp only [Bool.and_eq_true, decide_eq_true_eq] at hn
  exact hn.1
 have h2 : (bodZ y bs).length ≤ 8192 := by
  unfold bodZ
  split
  ·omega
  ·rw [sb_size]; exact hd
 refine ⟨⟨?_, more_lt _ _, by show (bodZ y bs).length < _; omega, by show y.d.size < _; omega, by show (sb y.n).length < _; omega⟩, fun b hb => sb_lt y.n b hb, h1, h2⟩
 show (if bs.length < y.d.size then 8 else 0) < 65536
 split <;> omega

theorem pieB_len (x : It) : (pieB x).length = 30 + x.lab.name.length + x.bytes.length := by
 simp [pieB, hedB, labB_len, leOf_length]
 omega

theorem recB_len (m : Mk) (p : Nat) : (recB m p).length = 46 + m.name.length := by
 simp [recB, labB_len, leOf_length]
 omega

end Go.Proofs.YtljlmfnbeofmmaaGreatDoor

namespace Go.Proofs.YtljlmfnbeofmmaaGreatDoor
open Go.RowKit

set_option maxRecDepth 100000 in
set_option maxHeartbeats 1000000 in
theorem rcheck8_any (w : World) (a : Option Addr) (len cap : Nat) (E : Nat → En) (hs : Ents w (fun _ => True) a len E) (hn : len ≤ 100000000) (hz : ∀ j, j < len → (E j).n.size ≤ 16777216 ∧ (E j).d.size ≤ 16777216) :
  Calls Tryz.prog 14 #[.slice a len cap] w fun e w' => e = .returned (.int .i64 (chkE E len : Nat)) ∧ Same w w' := by
 by_cases hbig : 64 < len
 ·have b1 : (64 : Int) < (len : Int) := by omega
  have HE : Hid (chkE E len = 86) := hid (by unfold chkE; rw [if_pos hbig])
  clear hs hbig hz
  go_enter Tryz.func14, Tryz.ntmps14
  go_wp2_with fail
  go_ret
  exact ⟨by rw [HE.out]; rfl, Kept.refl _ _⟩
 ·have b1 : (len : Int) ≤ 64 := by omega
  have HE : Hid (chkE E len = wrAll E (len - 0) 0) := hid (by unfold chkE; rw [if_neg hbig]; rfl)
  have HS : Hid (Ents w (fun _ => True) a len E) := hs
  have HZ : Hid (∀ j, j < len → (E j).n.size ≤ 16777216 ∧ (E j).d.size ≤ 16777216) := hz
  clear hs hbig hz
  go_enter Tryz.func14, Tryz.ntmps14
  go_wp2_with fail
  go_loopg [3] len (fun k z wr => ∃ i : Nat, len - i ≤ k ∧ i ≤ len ∧ z = .int .i64 (i : Nat) ∧ Hid (chkE E len = wrAll E (len - i) i) ∧ Hid (Same w wr))
  case atStart => exact ⟨0, by omega, by omega, rfl, HE, hid (Kept.refl _ _)⟩
  case round =>
   obtain ⟨i, hk, hil, rfl, HF, HK⟩ := hrel
   by_cases hlt : i < len
   ·have hli : decide (i < len) = true := by simp; omega
    obtain ⟨b, o, ha, _, hc0, hc1⟩ := HS.out i hlt
    subst ha
    have HC0 : Hid (w.cell? ⟨b, o + i * 2, none⟩ = some (.string (E i).n) ∧ w.cell? ⟨b, o + i * 2 + 1, none⟩ = some (.string (E i).d)) := hid ⟨hc0, hc1⟩
    have hc0 := HK.out.cell hc0 (fun f => f)
    have hc1 := HK.out.cell hc1 (fun f => f)
    obtain ⟨y, hy⟩ : ∃ y, y = E i := ⟨_, rfl⟩
    rw [← hy] at hc0 hc1 HC0
    have HY : Hid (y = E i) := hy
    have hzy := HZ.out i hlt
    rw [← hy] at hzy
    have hiw : IntKind.i64.wrap ((i : Int) + 1) = ((i + 1 : Nat) : Int) := by rw [IntKind.wrap_i64]; omega
    have i1 : (0 : Int) ≤ (i : Int) := by omega
    have i2 : (i : Int) < (len : Int) := by omega
    have HNM := rname_any wr y.n (by omega)
    clear hy
    cases hnb : nam8 (sb y.n) with
    | false =>
     rw [hnb] at HNM
     have HR : Hid (chkE E len = 80) := hid (by rw [HF.out, wrAll_bad E len i hlt (by unfold wrE; rw [if_pos (.inl (by rw [← HY.out]; exact hnb))]; decide)]; unfold wrE; rw [if_pos (.inl (by rw [← HY.out]; exact hnb))])
     clear hnb
     go_wp2_with fail
     refine HNM.mono ?_
     rintro e w2 ⟨rfl, hw2⟩
     subst hw2
     clear HNM
     go_wp2_with fail
     go_ret
     exact ⟨by rw [HR.out]; rfl, HK.out⟩
    | true =>
     rw [hnb] at HNM
     have HNB : Hid (nam8 (sb (E i).n) = true) := hid (by rw [← HY.out]; exact hnb)
     clear hnb
     go_wp2_with fail
     refine HNM.mono ?_
     rintro e w2 ⟨rfl, hw2⟩
     subst hw2
     clear HNM
     go_wp2_with fail
     obtain ⟨gk0, hgk0⟩ : ∃ g, g = gk := ⟨_, rfl⟩
     have HGK : Hid (len - i ≤ gk0) := hid (by omega)
     go_loopg [4] i (fun k z wr => ∃ j : Nat, i - j ≤ k ∧ j ≤ i ∧ z = .int .i64 (j : Nat) ∧ Hid (anyN E y.n j = false) ∧ Hid (Same w wr))
     case atStart => exact ⟨0, by omega, by omega, rfl, hid rfl, HK⟩
     case round =>
      obtain ⟨j, hk2, hjl, rfl, HN, HK2⟩ := hrel
      by_cases hjt : j < i
      ·have hlj : decide (j < i) = true := by simp; omega
       obtain ⟨b', o', ha', _, hd0, _⟩ := HS.out j (by omega)
       simp only [Option.some.injEq, Addr.mk.injEq, and_true] at ha'
       obtain ⟨rfl, rfl⟩ := ha'
       have hd0 := HK2.out.cell hd0 (fun f => f)
       have hc0 := HK2.out.cell HC0.out.1 (fun f => f)
       obtain ⟨z, hz⟩ : ∃ z, z = E j := ⟨_, rfl⟩
       rw [← hz] at hd0
       have HZJ : Hid (z = E j) := hz
       have hjw : IntKind.i64.wrap ((j : Int) + 1) = ((j + 1 : Nat) : Int) := by rw [IntKind.wrap_i64]; omega
       have j1 : (0 : Int) ≤ (j : Int) := by omega
       have j2 : (j : Int) < (len : Int) := by omega
       have hq := str_beq z.n y.n
       clear hz
       cases hb : decide (z.n = y.n) with
       | true =>
        rw [hb] at hq
        have HR : Hid (chkE E len = 80) := hid (by
         have h9 : anyN E (E i).n i = true := anyN_at hjt (by rw [← HZJ.out, ← HY.out]; exact of_decide_eq_true hb)
         rw [HF.out, wrAll_bad E len i hlt (by unfold wrE; rw [if_pos (.inr h9)]; decide)]; unfold wrE; rw [if_pos (.inr h9)])
        clear hb
        go_wp2_with fail
        go_quiet (fail)
        go_wp2_with fail
        go_ret
        exact ⟨by rw [HR.out]; rfl, HK2.out.drewN _⟩
       | false =>
        rw [hb] at hq
        have HB : Hid (decide (z.n = y.n) = false) := hb
        clear hb
        go_wp2_with fail
        go_quiet (fail)
        go_wp2_with fail
        go_roundg (gk - 1)
        case measure => omega
        case rel => exact ⟨j + 1, by omega, by omega, by go_num, hid (by unfold anyN; rw [HN.out, ← HZJ.out, HB.out]; rfl), hid (HK2.out.drewN _)⟩
      ·have hlj : decide (j < i) = false := by simp; omega
       obtain rfl : j = i := by omega
       have hc1 := HK2.out.cell HC0.out.2 (fun f => f)
       obtain ⟨sz, hsz⟩ : ∃ s, s = y.d.size := ⟨_, rfl⟩
       have hszI : (y.d.size : Int) = (sz : Int) := by rw [hsz]
       have HSZ : Hid (sz = y.d.size) := hsz
       clear hsz
       by_cases hd : 8192 < sz
       ·have bd : decide ((8192 : Int) < (sz : Int)) = true := by simp; omega
        have bd' : decide (8192 < sz) = true := by simp; omega
        have HR : Hid (chkE E len = 87) := hid (by
         have h9 : wrE E j = 87 := by unfold wrE; rw [if_neg (by rw [HNB.out, ← HY.out, HN.out]; simp), if_pos (by rw [← HY.out, ← HSZ.out]; exact hd)]
         rw [HF.out, wrAll_bad E len j hlt (by rw [h9]; decide), h9])
        clear hd
        go_wp2_with fail
        go_ret
        exact ⟨by rw [HR.out]; rfl, HK2.out⟩
       ·have bd : decide ((8192 : Int) < (sz : Int)) = false := by simp; omega
        have bd' : decide (8192 < sz) = false := by simp; omega
        have HR : Hid (chkE E len = wrAll E (len - (j + 1)) (j + 1)) := hid (by
         have h9 : wrE E j = 0 := by unfold wrE; rw [if_neg (by rw [HNB.out, ← HY.out, HN.out]; simp), if_neg (by rw [← HY.out, ← HSZ.out]; exact hd)]
         rw [HF.out, wrAll_step E len j hlt h9])
        clear hd
        go_wp2_with fail
        go_roundg (gk0 - 1)
        case measure => have := HGK.out; omega
        case rel => exact ⟨j + 1, by have := HGK.out; omega, by omega, by go_num, HR, HK2⟩
   ·have hli : decide (i < len) = false := by simp; omega
    obtain rfl : i = len := by omega
    have HR : Hid (chkE E i = 0) := hid (by rw [HF.out, Nat.sub_self]; rfl)
    go_wp2_with fail
    go_ret
    exact ⟨by rw [HR.out]; rfl, HK.out⟩

end Go.Proofs.YtljlmfnbeofmmaaGreatDoor

namespace Go.Proofs.YtljlmfnbeofmmaaGreatDoor
open Go.RowKit

def itsL (E : Nat → En) (B : Nat → List Nat) (n : Nat) : List It := (List.range n).map (fun j => ⟨labZ (E j) (B j), bodZ (E j) (B j)⟩)

theorem itsL_succ (E : Nat → En) (B : Nat → List Nat) (n : Nat) : itsL E B (n + 1) = itsL E B n ++ [⟨labZ (E n) (B n), bodZ (E n) (B n)⟩] := by
 unfold itsL
 rw [List.range_succ, List.map_append]
 rfl

def Pks (w : World) (a : Option Addr) (len : Nat) (B : Nat → List Nat) : Prop :=
 ∀ j, j < len → ∃ b o, a = some ⟨b, o, none⟩ ∧ ∃ av cv, ∃ J : Nat → Prop, w.cell? ⟨b, o + j, none⟩ = some (.slice av (B j).length cv) ∧ Src w J (.slice av (B j).length cv) (B j) ∧ ∀ n c, Value.slice av (B j).length cv = .slice none n c → n = 0 ∧ c = 0

theorem wpList_append_fresh {ops : Array Oper} {rest : List Oper} {o : Oper} {a : Act} {Q : Exit → Act → World → Prop} (w : World) (hgd : o.guard = none) (s x : Operand)
  (ho : o.op = .call { callee := .builtin .append, args := #[s, x], argTypes := #[26, 26] })
  (w0 : World) (v : Value) (bs : List Nat) (hs : a.eval s = v) (hf : Fresh w0 w v bs) (I : Nat → Prop) (xv : Value) (cs : List Nat) (hx : a.eval x = xv) (hnil : ∀ n c, xv = .slice none n c → n = 0 ∧ c = 0) (hsrc : Src w I xv cs) (hlen : bs.length + cs.length ≤ 1000000000000)
  (h : ∀ v' w', Fresh w0 w' v' (bs ++ cs) → wpList Tryz.prog ops Q rest (a.put o.dst v') w') : wpList Tryz.prog ops Q (o :: rest) a w := by
 refine wpList_append_any w hgd s x ho v bs hs hf.row I xv cs hx hnil hsrc hlen ?_
 intro v' w' hr hg ho'
 refine h v' w' ⟨hr, hf.kept.grown hg (fun k e => .inr (hf.new k e)), fun k e => ?_⟩
 rcases ho' with h1 | h1
 ·exact hf.new k (by rw [← h1]; exact e)
 ·rw [h1] at e
  simp only [Option.some.injEq] at e
  have := hf.kept.size
  omega

def fE (p : Nat × Nat) : List Value := [.int .i64 (p.1 : Nat), .int .i64 (p.2 : Nat)]

theorem fE_at (fs : List (Nat × Nat)) (k : Nat) (p : Nat × Nat) (h : fs[k]? = some p) : (fs.flatMap fE)[2 * k]? = some (.int .i64 (p.1 : Nat)) ∧ (fs.flatMap fE)[2 * k + 1]? = some (.int .i64 (p.2 : Nat)) := by
 induction fs generalizing k with
 | nil => simp at h
 | cons q r ih =>
  cases k with
  | zero =>
   simp only [List.getElem?_cons_zero, Option.some.injEq] at h
   subst h
   simp [fE]
  | succ k =>
   have h2 := ih k (by simpa using h)
   rw [List.flatMap_cons, show 2 * (k + 1) = 2 * k + 2 by omega, show 2 * k + 2 + 1 = (2 * k + 1) + 2 by omega]
   simpa [fE] using h2

theorem flds_new (w : World) (fs : List (Nat × Nat)) (cs : Array Value) (h : cs = (fs.flatMap fE).toArray) : Flds (w.alloc (.cells cs 3)) w.heap.size fs := by
 intro k p hp
 obtain ⟨h1, h2⟩ := fE_at fs k p hp
 have hb := Blk.new w cs 3
 rw [hb.cell, hb.cell, h]
 exact ⟨by simpa using h1, by simpa using h2⟩

def hedF (m : Mk) : List (Nat × Nat) := [(67324752, 4), (20, 2), (0, 2), (m.way, 2), (0, 2), (33, 2), (m.sum, 4), (m.packed, 4), (m.size, 4), (m.name.length, 2), (0, 2)]
def recF (m : Mk) (p : Nat) : List (Nat × Nat) := [(33639248, 4), (20, 2), (20, 2), (0, 2), (m.way, 2), (0, 2), (33, 2), (m.sum, 4), (m.packed, 4), (m.size, 4), (m.name.length, 2), (0, 2), (0, 2), (0, 2), (0, 2), (0, 4), (p, 4)]
def endF (n l f : Nat) : List (Nat × Nat) := [(101010256, 4), (0, 2), (0, 2), (n, 2), (n, 2), (l, 4), (f, 4), (0, 2)]

theorem hedF_is (m : Mk) : laidL (hedF m) ++ m.name = hedB m := by simp [laidL, hedF, hedB, labB, List.append_assoc]
theorem recF_is (m : Mk) (p : Nat) : laidL (recF m p) ++ m.name = recB m p := by simp [laidL, recF, recB, labB, List.append_assoc]
theorem endF_is (n l f : Nat) : laidL (endF n l f) = endB n l f := by simp [laidL, endF, endB]

theorem itsL_lens {E : Nat → En} {B : Nat → List Nat} (i : Nat) (h : ∀ j, j < i → nam8 (sb (E j).n) = true ∧ (E j).d.size ≤ 8192) : (piesB (itsL E B i)).length ≤ i * 8400 ∧ (recsB 0 (itsL E B i)).length ≤ i * 120 := by
 induction i with
 | zero => simp [itsL, piesB, recsB]
 | succ i ih =>
  obtain ⟨h1, h2⟩ := ih (fun j hj => h j (by omega))
  have h3 := h i (by omega)
  obtain ⟨_, _, h4, h5⟩ := labZ_ok (E i) (B i) h3.1 h3.2
  rw [itsL_succ, piesB_app, recsB_app, List.length_append, List.length_append, pieB_len, recB_len]
  constructor
  ·show _ + (30 + (labZ (E i) (B i)).name.length + (bodZ (E i) (B i)).length) ≤ _
   omega
  ·show _ + (46 + (labZ (E i) (B i)).name.length) ≤ _
   omega

set_option maxRecDepth 100000 in
set_option maxHeartbeats 1000000 in
theorem rfile_any (w : World) (a : Option Addr) (len cap : Nat) (E : Nat → En) (pa : Option Addr) (pc : Nat) (B : Nat → List Nat) (hs : Ents w (fun _ => True) a len E) (hp : Pks w pa len B) (hn : len ≤ 64) (hok : ∀ j, j < len → nam8 (sb (E j).n) = true ∧ (E j).d.size ≤ 8192) :
  Calls Tryz.prog 17 #[.slice a len cap, .slice pa len pc] w fun e w' => ∃ v', e = .returned v' ∧ Fresh w w' v' (filB (itsL E B len)) := by
 have HS : Hid (Ents w (fun _ => True) a len E) := hs
 have HP : Hid (Pks w pa len B) := hp
 have HOK : Hid (∀ j, j < len → nam8 (sb (E j).n) = true ∧ (E j).d.size ≤ 8192) := hok
 clear hs hp hok
 go_enter Tryz.func17, Tryz.ntmps17
 go_wp2_with fail
 go_loopg [5, 6, 7] len (fun qq z5 z6 z7 wr => ∃ i : Nat, z7 = .int .i64 (i : Nat) ∧ i ≤ len ∧ len - i ≤ qq ∧ Hid (Fresh w wr z5 (piesB (itsL E B i)) ∧ Fresh w wr z6 (recsB 0 (itsL E B i))))
 case atStart => exact ⟨0, rfl, by omega, by omega, hid ⟨⟨World.ownsRow_nil _ 0 5 1, Kept.refl _ _, fun k e => (by cases e)⟩, ⟨World.ownsRow_nil _ 0 5 1, Kept.refl _ _, fun k e => (by cases e)⟩⟩⟩
 case round =>
  obtain ⟨i, rfl, hi1, hiq, HI⟩ := hrel
  obtain ⟨vp, hvp⟩ : ∃ v, v = u5 := ⟨_, rfl⟩
  obtain ⟨vr, hvr⟩ : ∃ v, v = u6 := ⟨_, rfl⟩
  rw [← hvp, ← hvr] at HI
  rw [← hvp, ← hvr]
  clear hvp hvr
  obtain ⟨np, hnp⟩ : ∃ n, n = (piesB (itsL E B i)).length := ⟨_, rfl⟩
  obtain ⟨nr, hnr⟩ : ∃ n, n = (recsB 0 (itsL E B i)).length := ⟨_, rfl⟩
  obtain ⟨ap, cp, hvp, _⟩ := HI.out.1.row.shape
  obtain ⟨ar, cr, hvr, _⟩ := HI.out.2.row.shape
  rw [← hnp] at hvp
  rw [← hnr] at hvr
  subst hvp
  subst hvr
  have HNN : Hid (np = (piesB (itsL E B i)).length ∧ nr = (recsB 0 (itsL E B i)).length) := hid ⟨hnp, hnr⟩
  have hlens := itsL_lens (E := E) (B := B) i (fun j hj => HOK.out j (by omega))
  rw [← hnp, ← hnr] at hlens
  have hnpb : np ≤ 600000 := by omega
  have hnrb : nr ≤ 8000 := by omega
  clear hnp hnr hlens
  have HSW : Hid (Same w wr) := hid HI.out.1.kept
  by_cases hi : i < len
  ·have hli : decide (i < len) = true := by simp; omega
   obtain ⟨b, o, ha, _, k0, k1⟩ := HS.out i hi
   subst ha
   obtain ⟨pb, po, hpa, av, cv, J, p0, ps, pnil⟩ := HP.out i hi
   subst hpa
   obtain ⟨y, hy⟩ : ∃ y, y = E i := ⟨_, rfl⟩
   obtain ⟨bs, hbs⟩ : ∃ y, y = B i := ⟨_, rfl⟩
   rw [← hy] at k0 k1
   rw [← hbs] at p0 ps pnil
   have hyo := HOK.out i hi
   rw [← hy] at hyo
   obtain ⟨lb, hlb⟩ : ∃ n, n = bs.length := ⟨_, rfl⟩
   rw [← hlb] at p0 ps pnil
   obtain ⟨sz, hsz⟩ : ∃ n, n = y.d.size := ⟨_, rfl⟩
   obtain ⟨sn, hsn⟩ : ∃ n, n = y.n.size := ⟨_, rfl⟩
   have hszI : (y.d.size : Int) = (sz : Int) := by rw [hsz]
   have hsnI : (y.n.size : Int) = (sn : Int) := by rw [hsn]
   obtain ⟨m, hm⟩ : ∃ m, m = labZ y bs := ⟨_, rfl⟩
   obtain ⟨bd, hbd⟩ : ∃ d, d = bodZ y bs := ⟨_, rfl⟩
   have hlz := labZ_ok y bs hyo.1 hyo.2
   rw [← hm, ← hbd] at hlz
   have HX : Hid (y = E i ∧ bs = B i ∧ m = labZ y bs ∧ bd = bodZ y bs ∧ lb = bs.length ∧ sz = y.d.size ∧ sn = y.n.size) := hid ⟨hy, hbs, hm, hbd, hlb, hsz, hsn⟩
   have HLZ : Hid (MkOk m ∧ (∀ b ∈ m.name, b < 256) ∧ m.name.length ≤ 64 ∧ bd.length ≤ 8192) := hlz
   have HCL : Hid (w.cell? ⟨b, o + i * 2, none⟩ = some (.string y.n) ∧ w.cell? ⟨b, o + i * 2 + 1, none⟩ = some (.string y.d) ∧ w.cell? ⟨pb, po + i, none⟩ = some (.slice av lb cv) ∧ Src w J (.slice av lb cv) bs ∧ ∀ n c, Value.slice av lb cv = .slice none n c → n = 0 ∧ c = 0) := hid ⟨k0, k1, p0, ps, pnil⟩
   have i1 : (0 : Int) ≤ (i : Int) := by omega
   have i2 : (i : Int) < (len : Int) := by omega
   have hiw : IntKind.i64.wrap ((i : Int) + 1) = ((i + 1 : Nat) : Int) := by rw [IntKind.wrap_i64]; omega
   have k1 := HSW.out.cell k1 (fun f => f)
   obtain ⟨G, W1, hcv0, hk1, hs1, hz1⟩ := bytes8 wr y.d
   rw [← hsz] at hcv0 hs1
   have HK1 : Hid (Same wr W1) := hk1
   have HS1 : Hid (Src W1 (fun k => k = wr.heap.size) (.slice (some ⟨wr.heap.size, 0, none⟩) sz G) (sb y.d)) := hs1
   have HSM := rsum_any W1 _ _ (sb y.d) hs1 (sb_lt _) (by rw [sb_size, ← hsz]; omega)
   have p0 := HK1.out.cell (HSW.out.cell p0 (fun f => f)) (fun f => f)
   have k0 := HK1.out.cell (HSW.out.cell k0 (fun f => f)) (fun f => f)
   have hsum : m.sum = more 0 (sb y.d) := by rw [hm]; rfl
   rw [← hsum] at HSM
   have hsmw : IntKind.i64.wrap (m.sum : Int) = (m.sum : Int) := by rw [IntKind.wrap_i64]; have := hlz.1.sum; omega
   have hyn : y.n = txt m.name := by rw [hm]; exact (txt_sb y.n).symm
   have hmn : m.name.length = sn := by rw [hm, hsn]; exact sb_size y.n
   have hmz : m.size = sz := by rw [hm, hsz]; rfl
   have hmp : m.packed = bd.length := by rw [hm, hbd]; rfl
   have hbody : (lb < sz ∧ m.way = 8 ∧ bd = bs) ∨ (¬ lb < sz ∧ m.way = 0 ∧ bd = sb y.d) := by
    rw [hm, hbd, hlb, hsz]
    unfold labZ bodZ
    by_cases h : bs.length < y.d.size
    ·left; simp [h]
    ·right; simp [h]
   have HMM : Hid (m.sum = more 0 (sb y.d) ∧ m.name.length = sn ∧ m.size = sz ∧ m.packed = bd.length) := hid ⟨hsum, hmn, hmz, hmp⟩
   clear hs1 hz1 hk1 hsum hmn hmz hmp hm hbd hlb hsz hsn hy hbs ps pnil hyo hlz
   rcases hbody with ⟨hc1, hw8, hb8⟩ | ⟨hc1, hw8, hb8⟩
   ·have c1 : decide ((lb : Int) < (sz : Int)) = true := by simp; omega
    have c1' : decide (lb < sz) = true := by simp; omega
    have HWY : Hid (m.way = 8) := hw8
    have HBD : Hid (Src W1 J (.slice av lb cv) bd ∧ (∀ n c, (.slice av lb cv) = Value.slice none n c → n = 0 ∧ c = 0) ∧ lb = bd.length) := hid (⟨by rw [hb8]; exact (HCL.out.2.2.2.1.kept (Same.trans HSW.out HK1.out) (fun _ _ _ f => f)), HCL.out.2.2.2.2, by rw [hb8]; exact HX.out.2.2.2.2.1⟩)
    clear hc1 hw8 hb8
    rw [hyn] at k0 hsnI
    go_wp2_with fail
    refine HSM.mono ?_
    rintro e w2 ⟨rfl, hw2⟩
    subst hw2
    clear HSM
    obtain ⟨W2, hW2⟩ : ∃ W, W = w2.alloc (.cells #[.int .i64 67324752, .int .i64 4, .int .i64 20, .int .i64 2, .int .i64 0, .int .i64 2, .int .i64 8, .int .i64 2, .int .i64 0, .int .i64 2, .int .i64 33, .int .i64 2, .int .i64 (m.sum : Nat), .int .i64 4, .int .i64 (lb : Nat), .int .i64 4, .int .i64 (sz : Nat), .int .i64 4, .int .i64 (sn : Nat), .int .i64 2, .int .i64 0, .int .i64 2] 3) := ⟨_, rfl⟩
    have HKW2 : Hid (Same w2 W2) := hid (by rw [hW2]; exact (Kept.refl _ w2).alloc _)
    have HRW : Hid (Same wr W2) := hid (Same.trans HK1.out HKW2.out)
    have HLD : Calls Tryz.prog 48 #[.slice ap np cp, .slice (some ⟨w2.heap.size, 0, none⟩) 22 22] W2 fun e w' => ∃ v', e = .returned v' ∧ Fresh W2 w' v' (piesB (itsL E B i) ++ laidL (hedF m)) :=
     rlaid_any W2 (.slice ap np cp) _ (piesB (itsL E B i)) w2.heap.size (hedF m) 11 rfl (Src.ofRow (HI.out.1.row.kept HRW.out (fun _ _ f => f))) (by rw [hW2]; exact flds_new w2 (hedF m) _ (by simp [hedF, fE, HWY.out, HMM.out.2.1, HMM.out.2.2.1, HMM.out.2.2.2, ← HBD.out.2.2])) (by have h1 := HLZ.out.1; intro q hq; simp only [hedF, List.mem_cons, List.not_mem_nil, or_false] at hq; have := h1.way; have := h1.sum; have := h1.packed; have := h1.size; have := h1.name; rcases hq with rfl | rfl | rfl | rfl | rfl | rfl | rfl | rfl | rfl | rfl | rfl <;> simp only <;> omega) (by decide) (by decide) (by have := HNN.out; omega) ⟨_, _, _, rfl⟩
    go_wp2_with fail
    rw [← hW2]
    clear hW2
    refine HLD.mono ?_
    rintro e w3 ⟨v3, rfl, hf3⟩
    have HF3 : Hid (Fresh W2 w3 v3 (piesB (itsL E B i) ++ laidL (hedF m))) := hf3
    have HL3 : Hid ((piesB (itsL E B i) ++ laidL (hedF m)).length ≤ 600100) := hid (by rw [List.length_append]; have h9 := laidL_len (hedF m) (by intro q hq; simp only [hedF, List.mem_cons, List.not_mem_nil, or_false] at hq; rcases hq with rfl | rfl | rfl | rfl | rfl | rfl | rfl | rfl | rfl | rfl | rfl <;> simp only <;> omega) 11; rw [List.take_of_length_le (by simp [hedF])] at h9; have := HNN.out; omega)
    have k0 := (Same.trans HKW2.out hf3.kept).cell k0 (fun f => f)
    have HBS : Hid (∀ wx, Same w2 wx → Src wx J (.slice av lb cv) bd) := hid (fun wx hk => HBD.out.1.kept hk (fun _ _ _ f => f))
    have HCZ : Hid (w.cell? ⟨b, o + i * 2, none⟩ = some (.string (txt m.name))) := hid (by rw [← hyn]; exact HCL.out.1)
    clear hf3 HLD
    go_wp2_with (first | (at_builtin; refine wpList_append_str _ rfl (.tmp 61) (.tmp 66) rfl W2 _ _ rfl HF3.out m.name rfl HLZ.out.2.1 (by have := HL3.out; have := HLZ.out.2.2.1; omega) ?_; intro v4 w4 hf4; have HF4 : Hid (Fresh W2 w4 v4 (piesB (itsL E B i) ++ laidL (hedF m) ++ m.name)) := hf4; clear hf4) | (at_builtin; refine wpList_append_fresh _ rfl (.tmp 68) (.tmp 69) rfl W2 _ _ rfl HF4.out _ _ bd rfl HBD.out.2.1 (HBS.out _ (Same.trans HKW2.out HF4.out.kept)) (by rw [List.length_append]; have := HL3.out; have := HLZ.out.2.2; omega) ?_; intro v5 w5 hf5; have HF5 : Hid (Fresh W2 w5 v5 (piesB (itsL E B (i + 1)))) := hid (by rw [itsL_succ, piesB_app, ← HX.out.1, ← HX.out.2.1, ← HX.out.2.2.1, ← HX.out.2.2.2.1]; unfold pieB; rw [show (It.mk m bd).lab = m from rfl, show (It.mk m bd).bytes = bd from rfl, ← hedF_is]; simpa only [List.append_assoc] using hf5); have HW5 : Hid (Same wr w5) := hid (Same.trans HRW.out hf5.kept); have k05 := (Same.trans HSW.out HW5.out).cell HCZ.out (fun f => f); clear hf5 k0))
    obtain ⟨W6, hW6⟩ : ∃ W, W = w5.alloc (.cells #[.int .i64 33639248, .int .i64 4, .int .i64 20, .int .i64 2, .int .i64 20, .int .i64 2, .int .i64 0, .int .i64 2, .int .i64 8, .int .i64 2, .int .i64 0, .int .i64 2, .int .i64 33, .int .i64 2, .int .i64 (m.sum : Nat), .int .i64 4, .int .i64 (lb : Nat), .int .i64 4, .int .i64 (sz : Nat), .int .i64 4, .int .i64 (sn : Nat), .int .i64 2, .int .i64 0, .int .i64 2, .int .i64 0, .int .i64 2, .int .i64 0, .int .i64 2, .int .i64 0, .int .i64 2, .int .i64 0, .int .i64 4, .int .i64 (np : Nat), .int .i64 4] 3) := ⟨_, rfl⟩
    have HKW6 : Hid (Same w5 W6) := hid (by rw [hW6]; exact (Kept.refl _ w5).alloc _)
    have HRW6 : Hid (Same wr W6) := hid (Same.trans HW5.out HKW6.out)
    have HLD : Calls Tryz.prog 48 #[.slice ar nr cr, .slice (some ⟨w5.heap.size, 0, none⟩) 34 34] W6 fun e w' => ∃ v', e = .returned v' ∧ Fresh W6 w' v' (recsB 0 (itsL E B i) ++ laidL (recF m np)) :=
     rlaid_any W6 (.slice ar nr cr) _ (recsB 0 (itsL E B i)) w5.heap.size (recF m np) 17 rfl (Src.ofRow (HI.out.2.row.kept HRW6.out (fun _ _ f => f))) (by rw [hW6]; exact flds_new w5 (recF m np) _ (by simp [recF, fE, HWY.out, HMM.out.2.1, HMM.out.2.2.1, HMM.out.2.2.2, ← HBD.out.2.2])) (by have h1 := HLZ.out.1; intro q hq; simp only [recF, List.mem_cons, List.not_mem_nil, or_false] at hq; have := h1.way; have := h1.sum; have := h1.packed; have := h1.size; have := h1.name; rcases hq with rfl | rfl | rfl | rfl | rfl | rfl | rfl | rfl | rfl | rfl | rfl | rfl | rfl | rfl | rfl | rfl | rfl <;> simp only <;> omega) (by decide) (by decide) (by have := HNN.out; omega) ⟨_, _, _, rfl⟩
    go_wp2_with fail
    rw [← hW6]
    clear hW6
    refine HLD.mono ?_
    rintro e w7 ⟨v7, rfl, hf7⟩
    have HF7 : Hid (Fresh W6 w7 v7 (recsB 0 (itsL E B i) ++ laidL (recF m np))) := hf7
    have HL7 : Hid ((recsB 0 (itsL E B i) ++ laidL (recF m np)).length ≤ 8200) := hid (by rw [List.length_append]; have h9 := laidL_len (recF m np) (by intro q hq; simp only [recF, List.mem_cons, List.not_mem_nil, or_false] at hq; rcases hq with rfl | rfl | rfl | rfl | rfl | rfl | rfl | rfl | rfl | rfl | rfl | rfl | rfl | rfl | rfl | rfl | rfl <;> simp only <;> omega) 17; rw [List.take_of_length_le (by simp [recF])] at h9; have := HNN.out; omega)
    have k07 := (Same.trans HKW6.out hf7.kept).cell k05 (fun f => f)
    clear hf7 HLD k05
    go_wp2_with (at_builtin; refine wpList_append_str _ rfl (.tmp 87) (.tmp 92) rfl W6 _ _ rfl HF7.out m.name rfl HLZ.out.2.1 (by have := HL7.out; have := HLZ.out.2.2.1; omega) ?_; intro v8 w8 hf8)
    have HN : Hid (Fresh w w8 v5 (piesB (itsL E B (i + 1))) ∧ Fresh w w8 v8 (recsB 0 (itsL E B (i + 1)))) := hid (by
     have h68 : Same w5 w8 := Same.trans HKW6.out hf8.kept
     have hww : Same w W2 := Same.trans HSW.out HRW.out
     refine ⟨⟨HF5.out.row.kept h68 (fun _ _ f => f), Same.trans (Same.trans hww HF5.out.kept) h68, fun k e => Nat.le_trans hww.size (HF5.out.new k e)⟩, ?_⟩
     refine Fresh.base8 (Same.trans HSW.out HRW6.out) ?_
     rw [itsL_succ, recsB_app, Nat.zero_add, ← HNN.out.1, ← HX.out.1, ← HX.out.2.1, ← HX.out.2.2.1, ← recF_is, ← List.append_assoc]
     exact hf8)
    clear hf8
    go_wp2_with fail
    go_roundg (gk - 1)
    case measure => omega
    case rel => exact ⟨i + 1, by go_num, by omega, by omega, HN⟩
   ·have c1 : decide ((lb : Int) < (sz : Int)) = false := by simp; omega
    have c1' : decide (lb < sz) = false := by simp; omega
    have HWY : Hid (m.way = 0) := hw8
    have HBD : Hid (Src W1 (fun k => k = wr.heap.size) (.slice (some ⟨wr.heap.size, 0, none⟩) sz G) bd ∧ (∀ n c, (.slice (some ⟨wr.heap.size, 0, none⟩) sz G) = Value.slice none n c → n = 0 ∧ c = 0) ∧ sz = bd.length) := hid (⟨by rw [hb8]; exact HS1.out, fun n c e => (by cases e), by rw [hb8, sb_size]; exact HX.out.2.2.2.2.2.1⟩)
    clear hc1 hw8 hb8
    rw [hyn] at k0 hsnI
    go_wp2_with fail
    refine HSM.mono ?_
    rintro e w2 ⟨rfl, hw2⟩
    subst hw2
    clear HSM
    obtain ⟨W2, hW2⟩ : ∃ W, W = w2.alloc (.cells #[.int .i64 67324752, .int .i64 4, .int .i64 20, .int .i64 2, .int .i64 0, .int .i64 2, .int .i64 0, .int .i64 2, .int .i64 0, .int .i64 2, .int .i64 33, .int .i64 2, .int .i64 (m.sum : Nat), .int .i64 4, .int .i64 (sz : Nat), .int .i64 4, .int .i64 (sz : Nat), .int .i64 4, .int .i64 (sn : Nat), .int .i64 2, .int .i64 0, .int .i64 2] 3) := ⟨_, rfl⟩
    have HKW2 : Hid (Same w2 W2) := hid (by rw [hW2]; exact (Kept.refl _ w2).alloc _)
    have HRW : Hid (Same wr W2) := hid (Same.trans HK1.out HKW2.out)
    have HLD : Calls Tryz.prog 48 #[.slice ap np cp, .slice (some ⟨w2.heap.size, 0, none⟩) 22 22] W2 fun e w' => ∃ v', e = .returned v' ∧ Fresh W2 w' v' (piesB (itsL E B i) ++ laidL (hedF m)) :=
     rlaid_any W2 (.slice ap np cp) _ (piesB (itsL E B i)) w2.heap.size (hedF m) 11 rfl (Src.ofRow (HI.out.1.row.kept HRW.out (fun _ _ f => f))) (by rw [hW2]; exact flds_new w2 (hedF m) _ (by simp [hedF, fE, HWY.out, HMM.out.2.1, HMM.out.2.2.1, HMM.out.2.2.2, ← HBD.out.2.2])) (by have h1 := HLZ.out.1; intro q hq; simp only [hedF, List.mem_cons, List.not_mem_nil, or_false] at hq; have := h1.way; have := h1.sum; have := h1.packed; have := h1.size; have := h1.name; rcases hq with rfl | rfl | rfl | rfl | rfl | rfl | rfl | rfl | rfl | rfl | rfl <;> simp only <;> omega) (by decide) (by decide) (by have := HNN.out; omega) ⟨_, _, _, rfl⟩
    go_wp2_with fail
    rw [← hW2]
    clear hW2
    refine HLD.mono ?_
    rintro e w3 ⟨v3, rfl, hf3⟩
    have HF3 : Hid (Fresh W2 w3 v3 (piesB (itsL E B i) ++ laidL (hedF m))) := hf3
    have HL3 : Hid ((piesB (itsL E B i) ++ laidL (hedF m)).length ≤ 600100) := hid (by rw [List.length_append]; have h9 := laidL_len (hedF m) (by intro q hq; simp only [hedF, List.mem_cons, List.not_mem_nil, or_false] at hq; rcases hq with rfl | rfl | rfl | rfl | rfl | rfl | rfl | rfl | rfl | rfl | rfl <;> simp only <;> omega) 11; rw [List.take_of_length_le (by simp [hedF])] at h9; have := HNN.out; omega)
    have k0 := (Same.trans HKW2.out hf3.kept).cell k0 (fun f => f)
    have HBS : Hid (∀ wx, Same w2 wx → Src wx (fun k => k = wr.heap.size) (.slice (some ⟨wr.heap.size, 0, none⟩) sz G) bd) := hid (fun wx hk => HBD.out.1.kept hk (fun _ _ _ f => f))
    have HCZ : Hid (w.cell? ⟨b, o + i * 2, none⟩ = some (.string (txt m.name))) := hid (by rw [← hyn]; exact HCL.out.1)
    clear hf3 HLD
    go_wp2_with (first | (at_builtin; refine wpList_append_str _ rfl (.tmp 61) (.tmp 66) rfl W2 _ _ rfl HF3.out m.name rfl HLZ.out.2.1 (by have := HL3.out; have := HLZ.out.2.2.1; omega) ?_; intro v4 w4 hf4; have HF4 : Hid (Fresh W2 w4 v4 (piesB (itsL E B i) ++ laidL (hedF m) ++ m.name)) := hf4; clear hf4) | (at_builtin; refine wpList_append_fresh _ rfl (.tmp 68) (.tmp 69) rfl W2 _ _ rfl HF4.out _ _ bd rfl HBD.out.2.1 (HBS.out _ (Same.trans HKW2.out HF4.out.kept)) (by rw [List.length_append]; have := HL3.out; have := HLZ.out.2.2; omega) ?_; intro v5 w5 hf5; have HF5 : Hid (Fresh W2 w5 v5 (piesB (itsL E B (i + 1)))) := hid (by rw [itsL_succ, piesB_app, ← HX.out.1, ← HX.out.2.1, ← HX.out.2.2.1, ← HX.out.2.2.2.1]; unfold pieB; rw [show (It.mk m bd).lab = m from rfl, show (It.mk m bd).bytes = bd from rfl, ← hedF_is]; simpa only [List.append_assoc] using hf5); have HW5 : Hid (Same wr w5) := hid (Same.trans HRW.out hf5.kept); have k05 := (Same.trans HSW.out HW5.out).cell HCZ.out (fun f => f); clear hf5 k0))
    obtain ⟨W6, hW6⟩ : ∃ W, W = w5.alloc (.cells #[.int .i64 33639248, .int .i64 4, .int .i64 20, .int .i64 2, .int .i64 20, .int .i64 2, .int .i64 0, .int .i64 2, .int .i64 0, .int .i64 2, .int .i64 0, .int .i64 2, .int .i64 33, .int .i64 2, .int .i64 (m.sum : Nat), .int .i64 4, .int .i64 (sz : Nat), .int .i64 4, .int .i64 (sz : Nat), .int .i64 4, .int .i64 (sn : Nat), .int .i64 2, .int .i64 0, .int .i64 2, .int .i64 0, .int .i64 2, .int .i64 0, .int .i64 2, .int .i64 0, .int .i64 2, .int .i64 0, .int .i64 4, .int .i64 (np : Nat), .int .i64 4] 3) := ⟨_, rfl⟩
    have HKW6 : Hid (Same w5 W6) := hid (by rw [hW6]; exact (Kept.refl _ w5).alloc _)
    have HRW6 : Hid (Same wr W6) := hid (Same.trans HW5.out HKW6.out)
    have HLD : Calls Tryz.prog 48 #[.slice ar nr cr, .slice (some ⟨w5.heap.size, 0, none⟩) 34 34] W6 fun e w' => ∃ v', e = .returned v' ∧ Fresh W6 w' v' (recsB 0 (itsL E B i) ++ laidL (recF m np)) :=
     rlaid_any W6 (.slice ar nr cr) _ (recsB 0 (itsL E B i)) w5.heap.size (recF m np) 17 rfl (Src.ofRow (HI.out.2.row.kept HRW6.out (fun _ _ f => f))) (by rw [hW6]; exact flds_new w5 (recF m np) _ (by simp [recF, fE, HWY.out, HMM.out.2.1, HMM.out.2.2.1, HMM.out.2.2.2, ← HBD.out.2.2])) (by have h1 := HLZ.out.1; intro q hq; simp only [recF, List.mem_cons, List.not_mem_nil, or_false] at hq; have := h1.way; have := h1.sum; have := h1.packed; have := h1.size; have := h1.name; rcases hq with rfl | rfl | rfl | rfl | rfl | rfl | rfl | rfl | rfl | rfl | rfl | rfl | rfl | rfl | rfl | rfl | rfl <;> simp only <;> omega) (by decide) (by decide) (by have := HNN.out; omega) ⟨_, _, _, rfl⟩
    go_wp2_with fail
    rw [← hW6]
    clear hW6
    refine HLD.mono ?_
    rintro e w7 ⟨v7, rfl, hf7⟩
    have HF7 : Hid (Fresh W6 w7 v7 (recsB 0 (itsL E B i) ++ laidL (recF m np))) := hf7
    have HL7 : Hid ((recsB 0 (itsL E B i) ++ laidL (recF m np)).length ≤ 8200) := hid (by rw [List.length_append]; have h9 := laidL_len (recF m np) (by intro q hq; simp only [recF, List.mem_cons, List.not_mem_nil, or_false] at hq; rcases hq with rfl | rfl | rfl | rfl | rfl | rfl | rfl | rfl | rfl | rfl | rfl | rfl | rfl | rfl | rfl | rfl | rfl <;> simp only <;> omega) 17; rw [List.take_of_length_le (by simp [recF])] at h9; have := HNN.out; omega)
    have k07 := (Same.trans HKW6.out hf7.kept).cell k05 (fun f => f)
    clear hf7 HLD k05
    go_wp2_with (at_builtin; refine wpList_append_str _ rfl (.tmp 87) (.tmp 92) rfl W6 _ _ rfl HF7.out m.name rfl HLZ.out.2.1 (by have := HL7.out; have := HLZ.out.2.2.1; omega) ?_; intro v8 w8 hf8)
    have HN : Hid (Fresh w w8 v5 (piesB (itsL E B (i + 1))) ∧ Fresh w w8 v8 (recsB 0 (itsL E B (i + 1)))) := hid (by
     have h68 : Same w5 w8 := Same.trans HKW6.out hf8.kept
     have hww : Same w W2 := Same.trans HSW.out HRW.out
     refine ⟨⟨HF5.out.row.kept h68 (fun _ _ f => f), Same.trans (Same.trans hww HF5.out.kept) h68, fun k e => Nat.le_trans hww.size (HF5.out.new k e)⟩, ?_⟩
     refine Fresh.base8 (Same.trans HSW.out HRW6.out) ?_
     rw [itsL_succ, recsB_app, Nat.zero_add, ← HNN.out.1, ← HX.out.1, ← HX.out.2.1, ← HX.out.2.2.1, ← recF_is, ← List.append_assoc]
     exact hf8)
    clear hf8
    go_wp2_with fail
    go_roundg (gk - 1)
    case measure => omega
    case rel => exact ⟨i + 1, by go_num, by omega, by omega, HN⟩
  ·have hli : decide (i < len) = false := by simp; omega
   obtain rfl : i = len := by omega
   go_wp2_with (at_builtin; refine wpList_append_fresh _ rfl (.tmp 98) (.tmp 99) rfl w _ _ rfl HI.out.1 _ _ (recsB 0 (itsL E B i)) rfl (nil8 HI.out.2.row) (Src.ofRow HI.out.2.row) (by have := HNN.out; omega) ?_; intro v3 w3 hf3)
   have HF3 : Hid (Fresh w w3 v3 (piesB (itsL E B i) ++ recsB 0 (itsL E B i))) := hf3
   obtain ⟨a3, c3, hv3, _⟩ := hf3.row.shape
   obtain ⟨n3, hn3⟩ : ∃ n, n = (piesB (itsL E B i) ++ recsB 0 (itsL E B i)).length := ⟨_, rfl⟩
   have HN3 : Hid (n3 = (piesB (itsL E B i) ++ recsB 0 (itsL E B i)).length) := hn3
   rw [← hn3] at hv3
   subst hv3
   obtain ⟨W6, hW6⟩ : ∃ W, W = w3.alloc (.cells #[.int .i64 101010256, .int .i64 4, .int .i64 0, .int .i64 2, .int .i64 0, .int .i64 2, .int .i64 (i : Nat), .int .i64 2, .int .i64 (i : Nat), .int .i64 2, .int .i64 (nr : Nat), .int .i64 4, .int .i64 (np : Nat), .int .i64 4, .int .i64 0, .int .i64 2] 3) := ⟨_, rfl⟩
   have HKW6 : Hid (Same w3 W6) := hid (by rw [hW6]; exact (Kept.refl _ w3).alloc _)
   have HLD : Calls Tryz.prog 48 #[.slice a3 n3 c3, .slice (some ⟨w3.heap.size, 0, none⟩) 16 16] W6 fun e w' => ∃ v', e = .returned v' ∧ Fresh W6 w' v' (piesB (itsL E B i) ++ recsB 0 (itsL E B i) ++ laidL (endF i nr np)) :=
    rlaid_any W6 (.slice a3 n3 c3) _ _ w3.heap.size (endF i nr np) 8 rfl (Src.ofRow (HF3.out.row.kept HKW6.out (fun _ _ f => f))) (by rw [hW6]; exact flds_new w3 (endF i nr np) _ (by simp [endF, fE])) (by intro q hq; simp only [endF, List.mem_cons, List.not_mem_nil, or_false] at hq; rcases hq with rfl | rfl | rfl | rfl | rfl | rfl | rfl | rfl <;> simp only <;> omega) (by decide) (by decide) (by rw [← HN3.out]; have := HN3.out; rw [List.length_append] at this; have := HNN.out; omega) ⟨_, _, _, rfl⟩
   clear hf3 hn3
   go_wp2_with fail
   rw [← hW6]
   clear hW6
   refine HLD.mono ?_
   rintro e w7 ⟨v7, rfl, hf7⟩
   have HF7 : Hid (Fresh w w7 v7 (filB (itsL E B i))) := hid (by
    refine Fresh.base8 (Same.trans HF3.out.kept HKW6.out) ?_
    unfold filB
    rw [show (itsL E B i).length = i by simp [itsL], ← HNN.out.1, ← HNN.out.2, ← endF_is, ← List.append_assoc]
    exact hf7)
   clear hf7 HLD
   go_wp2_with fail
   go_ret
   exact ⟨_, rfl, HF7.out⟩

end Go.Proofs.YtljlmfnbeofmmaaGreatDoor

namespace Go.Proofs.YtljlmfnbeofmmaaGreatDoor
open Go.RowKit

def ItsOf (E : Nat → En) (len : Nat) (L : List It) : Prop := L.length = len ∧ ∀ j x, L[j]? = some x → ∃ bs, PDef (sb (E j).d) bs ∧ x = ⟨labZ (E j) bs, bodZ (E j) bs⟩

set_option maxRecDepth 100000 in
set_option maxHeartbeats 400000 in
theorem zwrite_good (w : World) (a : Option Addr) (len cap : Nat) (E : Nat → En) (hs : Ents w (fun _ => True) a len E) (hcap : len ≤ cap) (hx : Mxl w) (hT : Tab w) (hc : chkE E len = 0) :
  Calls Tryz.prog 13 #[.slice a len cap] w fun e w' => ∃ v' L, e = .returned (.tuple #[v', .int .i64 0]) ∧ Fresh w w' v' (filB L) ∧ ItsOf E len L := by
 obtain ⟨h64, hok⟩ := chkE_ok hc
 have HC := checkw_any w a len cap E hs (by omega) hcap hx
 rw [hc] at HC
 have HS : Hid (Ents w (fun _ => True) a len E) := hs
 have HT : Hid (Tab w) := hT
 have HOK : Hid (∀ j, j < len → nam8 (sb (E j).n) = true ∧ (E j).d.size ≤ 8192) := hok
 clear hs hx hT hc hok
 go_enter Tryz.func13, Tryz.ntmps13
 go_wp2_with fail
 refine HC.mono ?_
 rintro e w1 ⟨rfl, hk1⟩
 have HK1 : Hid (Same w w1) := hk1
 clear hk1 HC
 go_wp2_with fail
 go_loopg [5, 6, 18] len (fun qq z5 z6 z18 wr => ∃ (i : Nat) (L : List It), z18 = .int .i64 (i : Nat) ∧ i ≤ len ∧ len - i ≤ qq ∧ Hid (WrI w wr E i L z5 z6))
 case atStart => exact ⟨0, [], rfl, by omega, by omega, hid (WrI.zero w w1 E HK1.out)⟩
 case round =>
  clear HK1
  obtain ⟨i, L, rfl, hi1, hiq, HI⟩ := hrel
  obtain ⟨vp, hvp⟩ : ∃ v, v = u5 := ⟨_, rfl⟩
  obtain ⟨vr, hvr⟩ : ∃ v, v = u6 := ⟨_, rfl⟩
  rw [← hvp, ← hvr] at HI
  rw [← hvp, ← hvr]
  clear hvp hvr
  obtain ⟨np, hnp⟩ : ∃ n, n = (piesB L).length := ⟨_, rfl⟩
  obtain ⟨nr, hnr⟩ : ∃ n, n = (recsB 0 L).length := ⟨_, rfl⟩
  obtain ⟨ap, cp, hvp, _⟩ := HI.out.pie.shape
  obtain ⟨ar, cr, hvr, _⟩ := HI.out.recs.shape
  rw [← hnp] at hvp
  rw [← hnr] at hvr
  subst hvp
  subst hvr
  have HNN : Hid (np = (piesB L).length ∧ nr = (recsB 0 L).length) := hid ⟨hnp, hnr⟩
  have hnpb : np ≤ 600000 := by have := HI.out.lenp; omega
  have hnrb : nr ≤ 8000 := by have := HI.out.lenr; omega
  clear hnp hnr
  by_cases hi : i < len
  ·have hli : decide (i < len) = true := by simp; omega
   obtain ⟨b, o, ha, _, k0, k1⟩ := HS.out i hi
   subst ha
   have k0 := HI.out.same.cell k0 (fun f => f)
   have k1 := HI.out.same.cell k1 (fun f => f)
   obtain ⟨y, hy⟩ : ∃ y, y = E i := ⟨_, rfl⟩
   rw [← hy] at k0 k1
   have HY : Hid (y = E i) := hy
   have hyo := HOK.out i hi
   rw [← hy] at hyo
   have hiw : IntKind.i64.wrap ((i : Int) + 1) = ((i + 1 : Nat) : Int) := by rw [IntKind.wrap_i64]; omega
   have HYO : Hid (nam8 (sb y.n) = true ∧ y.d.size ≤ 8192) := hyo
   obtain ⟨wA, hwA⟩ : ∃ W, W = wr.alloc (.cells #[.string y.n, .string y.d] 34) := ⟨_, rfl⟩
   have hkA : Same wr wA := by rw [hwA]; exact (Kept.refl _ wr).alloc _
   have HKA : Hid (Same wr wA) := hkA
   have HP := zpack_any wA y hyo.2 (HT.out.kept (Same.trans HI.out.same hkA) (fun f => f))
   clear hy hyo hkA
   go_wp2_with fail
   rw [← hwA]
   clear hwA
   refine HP.mono ?_
   rintro e w2 ⟨bs, v2, J, hpd, rfl, hsJ, hJ, hnil, hk2⟩
   have hlz := labZ_ok y bs HYO.out.1 HYO.out.2
   obtain ⟨m, hm⟩ : ∃ m, m = labZ y bs := ⟨_, rfl⟩
   obtain ⟨bd, hbd⟩ : ∃ d, d = bodZ y bs := ⟨_, rfl⟩
   rw [← hm, ← hbd] at hlz
   rw [← hbd] at hsJ
   rw [← hm]
   have HX : Hid (PDef (sb y.d) bs ∧ m = labZ y bs ∧ bd = bodZ y bs) := hid ⟨hpd, hm, hbd⟩
   have HLZ : Hid (MkOk m ∧ (∀ b ∈ m.name, b < 256) ∧ m.name.length ≤ 64 ∧ bd.length ≤ 8192) := hlz
   have HK2 : Hid (Same wr w2) := hid (Same.trans HKA.out hk2)
   have HJ : Hid (∀ k, J k → wr.heap.size ≤ k) := hid (fun k h => Nat.le_trans HKA.out.size (hJ k h))
   have HNI : Hid (∀ n c, v2 = .slice none n c → n = 0 ∧ c = 0) := hnil
   have HS2 : Hid (Src w2 J v2 bd) := hsJ
   obtain ⟨wB, hwB⟩ : ∃ W, W = w2.alloc (.cells #[.int .u16 (m.way : Nat), .int .u32 (m.sum : Nat), .int .u32 (m.packed : Nat), .int .u32 (m.size : Nat), .string (txt m.name)] 60) := ⟨_, rfl⟩
   obtain ⟨lb, hlb⟩ : ∃ b, b = w2.heap.size := ⟨_, rfl⟩
   have HLBK : Hid (LabBk wB lb m) := hid (by rw [hwB, hlb]; exact Blk.new w2 _ _)
   have HKB : Hid (Same w2 wB) := hid (by rw [hwB]; exact (Kept.refl _ w2).alloc _)
   have HLB : Hid (wr.heap.size ≤ lb) := hid (by rw [hlb]; exact HK2.out.size)
   obtain ⟨c0, c1, c2, c3, c4⟩ := HLBK.out.cells
   have H3 := record_any wB m np hlz.1 hlz.2.1 (by omega)
   unfold mkZ at H3 ⊢
   clear hpd hm hbd hsJ hJ hnil hk2 hlz HP
   go_wp2_with fail
   rw [← hwB, ← hlb]
   clear hwB hlb
   refine H3.mono ?_
   rintro e w3 ⟨v3, rfl, hf3⟩
   have HF3 : Hid (Fresh wB w3 v3 (recB m np)) := hf3
   have HK3 : Hid (Same wr w3) := hid (Same.trans HK2.out (Same.trans HKB.out hf3.kept))
   have HRr : Hid (Row w3 (.slice ar nr cr) (recsB 0 L)) := hid (HI.out.recs.kept HK3.out (fun _ _ f => f))
   clear hf3 H3 c0 c1 c2 c3 c4
   go_wp2_with (at_builtin; refine wpList_append_any _ rfl (.tmp 27) (.tmp 31) rfl _ (recsB 0 L) rfl HRr.out _ _ (recB m np) rfl (nil8 HF3.out.row) (Src.ofRow HF3.out.row) (by rw [recB_len]; have := HNN.out; have := HLZ.out.2.2.1; omega) ?_)
   intro v4 w4 hr4 hg4 ho4
   have HK4 : Hid (Kept (fun k => (Value.slice ar nr cr).ownBlock = some k) w3 w4) := hid ((Kept.refl _ w3).grown hg4 (fun k e => .inl e))
   have HR4 : Hid (Row w4 v4 (recsB 0 L ++ recB m np)) := hr4
   have HO4 : Hid (v4.ownBlock = (Value.slice ar nr cr).ownBlock ∨ v4.ownBlock = some w3.heap.size) := ho4
   have HLR : Hid (∀ k, (Value.slice ar nr cr).ownBlock = some k → k < wr.heap.size) := hid (fun k e => (World.ownsRow.lt HI.out.recs k e).2)
   have HLP : Hid (∀ k, (Value.slice ap np cp).ownBlock = some k → k < wr.heap.size) := hid (fun k e => (World.ownsRow.lt HI.out.pie k e).2)
   have HL4 : Hid (LabBk w4 lb m) := hid (Blk.kept (HLBK.out.kept HF3.out.kept) HK4.out (fun e => by have := HLR.out lb e; have := HLB.out; omega))
   have HP4 : Hid (Row w4 (.slice ap np cp) (piesB L)) := hid ((HI.out.pie.kept HK3.out (fun _ _ f => f)).kept HK4.out (fun k e f => HI.out.apart k e f))
   have HS4 : Hid (Src w4 J v2 bd) := hid ((HS2.out.kept (Same.trans HKB.out HF3.out.kept) (fun _ _ _ f => f)).kept HK4.out (fun k hk _ e => by have := HJ.out k hk; have := HLR.out k e; omega))
   obtain ⟨c0, c1, c2, c3, c4⟩ := HL4.out.cells
   have H5 := head_any w4 m HLZ.out.1 HLZ.out.2.1
   unfold mkZ at H5
   clear hr4 hg4 ho4
   go_wp2_with fail
   refine H5.mono ?_
   rintro e w5 ⟨v5, rfl, hf5⟩
   have HF5 : Hid (Fresh w4 w5 v5 (hedB m)) := hf5
   have HP5 : Hid (Row w5 (.slice ap np cp) (piesB L)) := hid (HP4.out.kept hf5.kept (fun _ _ f => f))
   clear hf5 H5 c0 c1 c2 c3 c4
   go_wp2_with (first | (at_builtin; refine wpList_append_any _ rfl (.tmp 33) (.tmp 35) rfl _ (piesB L) rfl HP5.out _ _ (hedB m) rfl (nil8 HF5.out.row) (Src.ofRow HF5.out.row) (by have := HNN.out; have := HLZ.out.2.2.1; simp [hedB, labB_len, leOf_length]; omega) ?_; intro v6 w6 hr6 hg6 ho6; have HR6 : Hid (Row w6 v6 (piesB L ++ hedB m)) := hr6; have HK6 : Hid (Kept (fun k => (Value.slice ap np cp).ownBlock = some k) w5 w6) := hid ((Kept.refl _ w5).grown hg6 (fun k e => .inl e)); have HO6 : Hid (v6.ownBlock = (Value.slice ap np cp).ownBlock ∨ v6.ownBlock = some w5.heap.size) := ho6; have HS6 : Hid (Src w6 J v2 bd) := hid ((HS4.out.kept HF5.out.kept (fun _ _ _ f => f)).kept HK6.out (fun k hk _ e => by have := HJ.out k hk; have := HLP.out k e; omega)); clear hr6 hg6 ho6) | (at_builtin; refine wpList_append_any _ rfl (.tmp 36) (.tmp 37) rfl _ (piesB L ++ hedB m) rfl HR6.out J _ bd rfl HNI.out HS6.out (by have := HNN.out; have := HLZ.out.2.2; simp [hedB, labB_len, leOf_length]; omega) ?_; intro v7 w7 hr7 hg7 ho7))
   have ho7' : v7.ownBlock = v6.ownBlock ∨ v7.ownBlock = some w6.heap.size := ho7
   have HK7 : Hid (Kept (fun k => v6.ownBlock = some k) w6 w7) := hid ((Kept.refl _ w6).grown hg7 (fun k e => .inl e))
   have HW : Hid (WrI w w7 E (i + 1) (L ++ [⟨m, bd⟩]) v7 v4) := hid (by
    have hszA := HK3.out.size
    have hsz4 := HK4.out.size
    have hsz5 := HF5.out.kept.size
    have hsz6 := HK6.out.size
    have hszw := HI.out.same.size
    have hv4 : ∀ k, v4.ownBlock = some k → k < w4.heap.size := fun k e => (World.ownsRow.lt HR4.out k e).2
    have hn4 : ∀ k, v4.ownBlock = some k → w.heap.size ≤ k := by
     intro k e
     rcases HO4.out with h | h
     ·exact HI.out.newr k (by rw [← h]; exact e)
     ·rw [h] at e; simp only [Option.some.injEq] at e; omega
    have hn6 : ∀ k, v6.ownBlock = some k → w.heap.size ≤ k := by
     intro k e
     rcases HO6.out with h | h
     ·exact HI.out.newp k (by rw [← h]; exact e)
     ·rw [h] at e; simp only [Option.some.injEq] at e; omega
    have hap : ∀ k, (Value.slice ap np cp).ownBlock = some k → v4.ownBlock ≠ some k := by
     intro k e e4
     rcases HO4.out with h | h
     ·exact HI.out.apart k e (by rw [← h]; exact e4)
     ·rw [h] at e4; simp only [Option.some.injEq] at e4; have := HLP.out k e; omega
    have hap6 : ∀ k, v6.ownBlock = some k → v4.ownBlock ≠ some k := by
     intro k e e4
     rcases HO6.out with h | h
     ·exact hap k (by rw [← h]; exact e) e4
     ·rw [h] at e; simp only [Option.some.injEq] at e; have := hv4 k e4; omega
    have hx : (pieB ⟨m, bd⟩).length ≤ 8400 := by rw [pieB_len]; have := HLZ.out.2.2; show 30 + m.name.length + bd.length ≤ 8400; omega
    refine ⟨by rw [List.length_append, HI.out.len]; rfl, ?_, ?_, ?_, ?_, hn4, ?_, ?_, ?_, ?_⟩
    ·intro j x hj
     by_cases e : j < i
     ·rw [List.getElem?_append_left (by rw [HI.out.len]; exact e)] at hj
      exact HI.out.its j x hj
     ·have hlt := (List.getElem?_eq_some_iff.1 hj).1
      rw [List.length_append, HI.out.len] at hlt
      simp only [List.length_cons, List.length_nil] at hlt
      obtain rfl : j = i := by omega
      rw [List.getElem?_append_right (by rw [HI.out.len]; exact Nat.le_refl _), HI.out.len, Nat.sub_self] at hj
      simp only [List.getElem?_cons_zero, Option.some.injEq] at hj
      subst hj
      refine ⟨bs, ?_, ?_⟩
      ·rw [← HY.out]; exact HX.out.1
      ·rw [← HY.out, ← HX.out.2.1, ← HX.out.2.2]
    ·rw [piesB_app]
     have : pieB ⟨m, bd⟩ = hedB m ++ bd := rfl
     rw [this, ← List.append_assoc]
     exact hr7
    ·rw [recsB_app, Nat.zero_add, ← HNN.out.1]
     exact (((HR4.out.kept HF5.out.kept (fun _ _ f => f)).kept HK6.out (fun k e f => hap k f e)).kept HK7.out (fun k e f => hap6 k f e))
    ·intro k e
     rcases ho7' with h | h
     ·exact hn6 k (by rw [← h]; exact e)
     ·rw [h] at e; simp only [Option.some.injEq] at e; omega
    ·intro k e e4
     rcases ho7' with h | h
     ·exact hap6 k (by rw [← h]; exact e) e4
     ·rw [h] at e; simp only [Option.some.injEq] at e; have := hv4 k e4; omega
    ·exact Same.then (Same.then (Same.trans (Same.then (Same.trans HI.out.same HK3.out) HK4.out (fun k hk f => by have := HI.out.newr k f; omega)) HF5.out.kept) HK6.out (fun k hk f => by have := HI.out.newp k f; omega)) HK7.out (fun k hk f => by have := hn6 k f; omega)
    ·rw [piesB_app, List.length_append]; have := HI.out.lenp; rw [Nat.succ_mul]; omega
    ·rw [recsB_app, List.length_append, recB_len]; have := HI.out.lenr; have := HLZ.out.2.2.1; rw [Nat.succ_mul]; show (recsB 0 L).length + (46 + m.name.length) ≤ _; omega)
   clear hr7 hg7 ho7 ho7'
   go_wp2_with fail
   go_roundg (gk - 1)
   case measure => omega
   case rel => exact ⟨i + 1, _, by go_num, by omega, by omega, HW⟩
  ·have hli : decide (i < len) = false := by simp; omega
   obtain rfl : i = len := by omega
   have HE := endw_any wr i nr np (by omega) (by omega) (by omega)
   go_wp2_with fail
   refine HE.mono ?_
   rintro e w2 ⟨v2, rfl, hf2⟩
   have hlen2 : (endB i nr np).length = 22 := by simp [endB, leOf_length]
   obtain ⟨a2, c2, hv2, _⟩ := hf2.row.shape
   rw [hlen2] at hv2
   subst hv2
   have HF2 : Hid (Fresh wr w2 (.slice a2 22 c2) (endB i nr np)) := hf2
   obtain ⟨wB, hwB⟩ : ∃ W, W = w2.alloc (.cells #[.slice ap np cp, .slice ar nr cr, .slice a2 22 c2] 26) := ⟨_, rfl⟩
   have hb := Blk.new w2 #[.slice ap np cp, .slice ar nr cr, .slice a2 22 c2] 26
   rw [← hwB] at hb
   have hkB : Same w2 wB := by rw [hwB]; exact (Kept.refl _ w2).alloc _
   have hkW : Same wr wB := Same.trans hf2.kept hkB
   have HCC := bconcat_any wB w2.heap.size ap ar a2 np nr 22 cp cr c2 _ _ _ (piesB L) (recsB 0 L) (endB i nr np) (hb.cell 0) (hb.cell 1) (hb.cell 2) ((Src.ofRow HI.out.pie).kept hkW (fun _ _ _ f => f)) ((Src.ofRow HI.out.recs).kept hkW (fun _ _ _ f => f)) ((Src.ofRow hf2.row).kept hkB (fun _ _ _ f => f)) (nil8 HI.out.pie) (nil8 HI.out.recs) (nil8 hf2.row) (by decide) (by omega) (by omega) (by decide)
   have HKW : Hid (Same w wB) := hid (Same.trans HI.out.same hkW)
   clear hf2 hb hkB hkW HE hlen2
   go_wp2_with fail
   rw [← hwB]
   clear hwB
   refine HCC.mono ?_
   rintro e w3 ⟨v3, rfl, hf3⟩
   have HF3 : Hid (Fresh w w3 v3 (filB L)) := hid (by
    have h9 := Fresh.base8 HKW.out hf3
    unfold filB
    rw [HI.out.len, ← HNN.out.1, ← HNN.out.2, ← List.append_assoc]
    exact h9)
   clear hf3 HCC
   go_wp2_with fail
   refine bodyPost_ret (v := .tuple #[v3, .int .i64 0]) (by simp [results, Tryz.results13, go_sem]) rfl ?_
   exact ⟨v3, L, rfl, HF3.out, HI.out.len, HI.out.its⟩

end Go.Proofs.YtljlmfnbeofmmaaGreatDoor

namespace Go.Proofs.YtljlmfnbeofmmaaGreatDoor
open Go.RowKit

def UnpZ (w w' : World) (o : Except Nat (List Nat)) (e : Ending) : Prop :=
 (∀ d, o = .ok d → e = .returned (.string (txt d))) ∧ (∀ n, o = .error n → e = pan8 n) ∧ Same w w'

set_option maxRecDepth 100000 in
set_option maxHeartbeats 400000 in
theorem unpack0_good (w : World) (m : Mk) (a : Option Addr) (n c : Nat) (I : Nat → Prop) (bs : List Nat) (hs : Src w I (.slice a n c) bs) (hb : ∀ b ∈ bs, b < 256) (hl : bs.length ≤ 100000) (hw : m.way = 0) (hq : more 0 bs = m.sum) :
  Calls Tryz.prog 59 #[.agg (itZ m (.slice a n c))] w fun e w' => UnpZ w w' (.ok bs) e := by
 have HS : Hid (Src w I (.slice a n c) bs) := hs
 have HB : Hid ((∀ b ∈ bs, b < 256) ∧ bs.length ≤ 100000) := hid ⟨hb, hl⟩
 have w8 : ((m.way : Int) == 8) = false := by simp; omega
 clear hs hb hl
 obtain ⟨W1, hW1⟩ : ∃ W, W = w.alloc (.cells (itZ m (.slice a n c)) 78) := ⟨_, rfl⟩
 obtain ⟨xb, hxb⟩ : ∃ b, b = w.heap.size := ⟨_, rfl⟩
 have HK1 : Hid (Same w W1) := hid (by rw [hW1]; exact (Kept.refl _ w).alloc _)
 have HX1 : Hid (Blk W1 xb (itZ m (.slice a n c)) 78) := hid (by rw [hW1, hxb]; exact Blk.new w _ _)
 have q1 : W1.cell? ⟨xb, 1, none⟩ = some (.int .u32 (m.sum : Nat)) := HX1.out.cell 1
 have HSN : Hid (∀ wx, Same W1 wx → Calls Tryz.prog 28 #[.slice a n c] wx fun e w' => e = .returned (.int .u32 (more 0 bs : Nat)) ∧ w' = wx) := hid (fun wx hk => lsum_any wx _ _ _ (HS.out.kept (Same.trans HK1.out hk) (fun _ _ _ f => f)) HB.out.1 (by have := HB.out.2; omega))
 have HGS : Hid (∀ wx, Same W1 wx → (convert 26 9 (.slice a n c)).run Tryz.prog wx = .ok (.string (txt bs)) wx) := hid (fun wx hk => str8 (HS.out.kept (Same.trans HK1.out hk) (fun _ _ _ f => f)) (by obtain ⟨_, _, e, _⟩ := HS.out; simp only [Value.slice.injEq] at e; exact e.2.1.symm))
 obtain ⟨sm, hsm⟩ : ∃ s, s = more 0 bs := ⟨_, rfl⟩
 rw [← hsm] at HSN hq
 unfold itZ at hW1 ⊢
 ·have hqb : ((sm : Int) == (m.sum : Int)) = true := by simp; omega
  clear hsm hq
  go_enter Tryz.func59, Tryz.ntmps59
  go_wp2_with fail
  rw [hw] at hW1
  rw [← hxb]
  have e1 : w.alloc (Obj.cells #[Value.int .u16 0, .int .u32 (m.sum : Nat), .int .u32 (m.packed : Nat), .int .u32 (m.size : Nat), .string (txt m.name), .slice a n c] 78) = W1 := hW1.symm
  rw [e1]
  clear hW1 e1 hxb
  go_region_held3 (fun w' => w'.cell? ⟨xb, 1, none⟩ = some (.int .u32 (m.sum : Nat)))
   (first
    | (go_split_ands; assumption)
    | go_keep)
   (first
    | (go_at_call 28; refine (HSN.out _ (by first | exact Kept.refl _ _ | exact (Kept.refl _ _).drew | exact (Kept.refl _ _).drewN _)).mono ?_; rintro e w4 ⟨rfl, hw4⟩; subst hw4)
    | (go_at_call 58; refine (need_ok _ _).mono ?_; rintro e w5 ⟨rfl, hw5⟩; subst hw5))
  all_goals
   have gs := HGS.out W1.drew ((Kept.refl _ W1).drew)
   go_wp2_with fail
   go_ret
   exact ⟨fun d e => by simp only [Except.ok.injEq] at e; subst e; rfl, fun k e => by simp at e, Same.trans HK1.out ((Kept.refl _ W1).drew)⟩
end Go.Proofs.YtljlmfnbeofmmaaGreatDoor

namespace Go.Proofs.YtljlmfnbeofmmaaGreatDoor
open Go.RowKit

set_option maxRecDepth 100000 in
set_option maxHeartbeats 400000 in
theorem info_any (w : World) (m : Mk) (v : Value) (hm : MkOk m) :
  Calls Tryz.prog 52 #[.agg (itZ m v)] w fun e w' => e = .returned (.agg #[.string (txt m.name), .int .i64 (m.size : Nat), .int .i64 (m.packed : Nat), .int .u32 (m.sum : Nat), .int .i64 (m.way : Nat)]) ∧ Same w w' := by
 have h1 : IntKind.i64.wrap (m.size : Int) = (m.size : Int) := by rw [IntKind.wrap_i64]; have := hm.size; omega
 have h2 : IntKind.i64.wrap (m.packed : Int) = (m.packed : Int) := by rw [IntKind.wrap_i64]; have := hm.packed; omega
 have h3 : IntKind.i64.wrap (m.way : Int) = (m.way : Int) := by rw [IntKind.wrap_i64]; have := hm.way; omega
 clear hm
 unfold itZ
 go_enter Tryz.func52, Tryz.ntmps52
 go_wp2_with fail
 obtain ⟨wz, hwz⟩ : ∃ W, W = (w.alloc (.cells #[.int .u16 (m.way : Nat), .int .u32 (m.sum : Nat), .int .u32 (m.packed : Nat), .int .u32 (m.size : Nat), .string (txt m.name), v] 78)).alloc (.cells #[.string (txt m.name), .int .i64 (m.size : Nat), .int .i64 (m.packed : Nat), .int .u32 (m.sum : Nat), .int .i64 (m.way : Nat)] 50) := ⟨_, rfl⟩
 have hb := Blk.new (w.alloc (.cells #[.int .u16 (m.way : Nat), .int .u32 (m.sum : Nat), .int .u32 (m.packed : Nat), .int .u32 (m.size : Nat), .string (txt m.name), v] 78)) #[.string (txt m.name), .int .i64 (m.size : Nat), .int .i64 (m.packed : Nat), .int .u32 (m.sum : Nat), .int .i64 (m.way : Nat)] 50
 rw [World.size_alloc, ← hwz] at hb
 have hk : Same w wz := by rw [hwz]; exact ((Kept.refl _ w).alloc _).alloc _
 have z0 := hb.cell 0
 have z1 := hb.cell 1
 have z2 := hb.cell 2
 have z3 := hb.cell 3
 have z4 := hb.cell 4
 simp at z0 z1 z2 z3 z4
 rw [← hwz]
 refine bodyPost_ret (v := .agg #[.string (txt m.name), .int .i64 (m.size : Nat), .int .i64 (m.packed : Nat), .int .u32 (m.sum : Nat), .int .i64 (m.way : Nat)]) (by rw [results_cell8 rfl]; simp [go_sem, z0, z1, z2, z3, z4]) rfl ?_
 exact ⟨rfl, hk⟩

set_option maxRecDepth 100000 in
set_option maxHeartbeats 400000 in
theorem gaveNone_any (w : World) :
  Calls Tryz.prog 50 #[.nilIface] w fun e w' => e = .returned (.int .i64 0) ∧ w' = w := by
 go_enter Tryz.func50, Tryz.ntmps50
 go_wp2_with fail
 go_ret
 exact ⟨rfl, rfl⟩

theorem Tryz.asErrno (v : Value) (w : World) : (Instr.typeAssert (.iface 27 v) 20 27 false).run Tryz.prog w = .ok v w := by kernel_rfl

set_option maxRecDepth 100000 in
set_option maxHeartbeats 400000 in
theorem gaveSome_any (w : World) (n : Nat) :
  Calls Tryz.prog 50 #[.iface 27 (.int .i64 (n : Nat))] w fun e w' => e = .returned (.int .i64 (n : Nat)) ∧ w' = w := by
 have hta := Tryz.asErrno (.int .i64 (n : Nat)) w
 go_enter Tryz.func50, Tryz.ntmps50
 go_wp2_with fail
 go_ret
 exact ⟨rfl, rfl⟩

end Go.Proofs.YtljlmfnbeofmmaaGreatDoor

namespace Go.Proofs.YtljlmfnbeofmmaaGreatDoor
open Go.RowKit

set_option maxRecDepth 100000 in
set_option maxHeartbeats 400000 in
theorem unpack0_bad (w : World) (m : Mk) (a : Option Addr) (n c : Nat) (I : Nat → Prop) (bs : List Nat) (hs : Src w I (.slice a n c) bs) (hb : ∀ b ∈ bs, b < 256) (hl : bs.length ≤ 100000) (hw : m.way = 0) (hq : ¬ more 0 bs = m.sum) :
  Calls Tryz.prog 59 #[.agg (itZ m (.slice a n c))] w fun e w' => UnpZ w w' (.error 83) e := by
 have HS : Hid (Src w I (.slice a n c) bs) := hs
 have HB : Hid ((∀ b ∈ bs, b < 256) ∧ bs.length ≤ 100000) := hid ⟨hb, hl⟩
 have w8 : ((m.way : Int) == 8) = false := by simp; omega
 clear hs hb hl
 obtain ⟨W1, hW1⟩ : ∃ W, W = w.alloc (.cells (itZ m (.slice a n c)) 78) := ⟨_, rfl⟩
 obtain ⟨xb, hxb⟩ : ∃ b, b = w.heap.size := ⟨_, rfl⟩
 have HK1 : Hid (Same w W1) := hid (by rw [hW1]; exact (Kept.refl _ w).alloc _)
 have HX1 : Hid (Blk W1 xb (itZ m (.slice a n c)) 78) := hid (by rw [hW1, hxb]; exact Blk.new w _ _)
 have q1 : W1.cell? ⟨xb, 1, none⟩ = some (.int .u32 (m.sum : Nat)) := HX1.out.cell 1
 have HSN : Hid (∀ wx, Same W1 wx → Calls Tryz.prog 28 #[.slice a n c] wx fun e w' => e = .returned (.int .u32 (more 0 bs : Nat)) ∧ w' = wx) := hid (fun wx hk => lsum_any wx _ _ _ (HS.out.kept (Same.trans HK1.out hk) (fun _ _ _ f => f)) HB.out.1 (by have := HB.out.2; omega))
 have HGS : Hid (∀ wx, Same W1 wx → (convert 26 9 (.slice a n c)).run Tryz.prog wx = .ok (.string (txt bs)) wx) := hid (fun wx hk => str8 (HS.out.kept (Same.trans HK1.out hk) (fun _ _ _ f => f)) (by obtain ⟨_, _, e, _⟩ := HS.out; simp only [Value.slice.injEq] at e; exact e.2.1.symm))
 obtain ⟨sm, hsm⟩ : ∃ s, s = more 0 bs := ⟨_, rfl⟩
 rw [← hsm] at HSN hq
 unfold itZ at hW1 ⊢
 ·have hqb : ((sm : Int) == (m.sum : Int)) = false := by simp; omega
  clear hsm hq
  go_enter Tryz.func59, Tryz.ntmps59
  go_wp2_with fail
  rw [hw] at hW1
  rw [← hxb]
  have e1 : w.alloc (Obj.cells #[Value.int .u16 0, .int .u32 (m.sum : Nat), .int .u32 (m.packed : Nat), .int .u32 (m.size : Nat), .string (txt m.name), .slice a n c] 78) = W1 := hW1.symm
  rw [e1]
  clear hW1 e1 hxb
  go_region_dies
  ·refine (HSN.out _ ((Kept.refl _ W1).drew)).mono ?_
   rintro e w4 ⟨rfl, hw4⟩
   subst hw4
   have q2 : W1.drew.cell? ⟨xb, 1, none⟩ = some (.int .u32 (m.sum : Nat)) := q1
   go_wp2_with fail
   refine wpAny_ready (rs := [4]) (by kernel_rfl) (by simp) ?_
   refine AllReady.cons rfl (fun K hK => ?_) AllReady.nil
   go_simp
   refine hK _ _ ?_
   clear hK K
   refine wpAny_ready (rs := [5]) (by kernel_rfl) (by simp) ?_
   refine AllReady.cons rfl (fun K hK => ?_) AllReady.nil
   go_simp
   refine hK _ _ ?_
   clear hK K
   refine wpAny_ready (rs := [6]) (by kernel_rfl) (by simp) ?_
   refine AllReady.cons rfl (fun K hK => ?_) AllReady.nil
   go_simp
   refine (need_bad _ 83).mono ?_
   rintro e w5 ⟨rfl, hw5⟩
   subst hw5
   exact ⟨rfl, fun d e => (by simp at e), fun k e => (by simp only [Except.error.injEq] at e; subst e; rfl), Same.trans HK1.out ((Kept.refl _ W1).drew)⟩
  ·refine (HSN.out _ ((Kept.refl _ W1).drew)).mono ?_
   rintro e w4 ⟨rfl, hw4⟩
   subst hw4
   have q2 : W1.drew.cell? ⟨xb, 1, none⟩ = some (.int .u32 (m.sum : Nat)) := q1
   go_wp2_with fail
   refine wpAny_ready (rs := [5]) (by kernel_rfl) (by simp) ?_
   refine AllReady.cons rfl (fun K hK => ?_) AllReady.nil
   go_simp
   refine hK _ _ ?_
   clear hK K
   refine wpAny_ready (rs := [6]) (by kernel_rfl) (by simp) ?_
   refine AllReady.cons rfl (fun K hK => ?_) AllReady.nil
   go_simp
   refine (need_bad _ 83).mono ?_
   rintro e w5 ⟨rfl, hw5⟩
   subst hw5
   exact ⟨rfl, fun d e => (by simp at e), fun k e => (by simp only [Except.error.injEq] at e; subst e; rfl), Same.trans HK1.out ((Kept.refl _ W1).drew)⟩

end Go.Proofs.YtljlmfnbeofmmaaGreatDoor

namespace Go.Proofs.YtljlmfnbeofmmaaGreatDoor
open Go.RowKit

set_option maxRecDepth 100000 in
set_option maxHeartbeats 400000 in
theorem open_long (w : World) (a : Option Addr) (n c : Nat) (hn : 1048576 < n) (hn2 : n ≤ 100000000) :
  Calls Tryz.prog 51 #[.slice a n c] w fun e w' => e = pan8 2 ∧ Same w w' := by
 have b1 : decide ((n : Int) ≤ 1048576) = false := by simp; omega
 have b2 : decide (n ≤ 1048576) = false := by simp; omega
 have HO := need_bad w 2
 clear hn
 go_enter Tryz.func51, Tryz.ntmps51
 go_wp2_with fail
 refine HO.mono ?_
 rintro e w1 ⟨rfl, hw1⟩
 subst hw1
 clear HO
 unfold pan8
 go_wp2_with fail
 exact ⟨rfl, rfl, Kept.refl _ _⟩

set_option maxRecDepth 100000 in
set_option maxHeartbeats 400000 in
theorem open_short (w : World) (a : Option Addr) (n c : Nat) (hn : n < 22) :
  Calls Tryz.prog 51 #[.slice a n c] w fun e w' => e = pan8 81 ∧ Same w w' := by
 have b1 : decide ((n : Int) ≤ 1048576) = true := by simp; omega
 have b2 : decide (n ≤ 1048576) = true := by simp; omega
 have b3 : decide ((22 : Int) ≤ (n : Int)) = false := by simp; omega
 have b4 : decide (22 ≤ n) = false := by simp; omega
 have HO := need_ok w (.int .i64 2)
 have HP := need_bad w 81
 clear hn
 go_enter Tryz.func51, Tryz.ntmps51
 go_wp2_with fail
 refine HO.mono ?_
 rintro e w1 ⟨rfl, hw1⟩
 subst hw1
 clear HO
 go_wp2_with fail
 refine HP.mono ?_
 rintro e w2 ⟨rfl, hw2⟩
 subst hw2
 clear HP
 unfold pan8
 go_wp2_with fail
 exact ⟨rfl, rfl, Kept.refl _ _⟩

set_option maxRecDepth 100000 in
set_option maxHeartbeats 400000 in
theorem open_end (w : World) (b o : Nat) (c : Nat) (bs : List Nat) (n : Nat) (hL : n = bs.length) (hs : Src w (fun k => k < w.heap.size) (.slice (some ⟨b, o, none⟩) n c) bs) (hb : ∀ x ∈ bs, x < 256) (hcap : n ≤ c) (h1 : 22 ≤ n) (h2 : n ≤ 1048576) (x : Nat) (he : end8 (bs.drop (n - 22)) (n - 22) = .error x) :
  Calls Tryz.prog 51 #[.slice (some ⟨b, o, none⟩) n c] w fun e w' => e = pan8 x ∧ Same w w' := by
 have b1 : decide ((n : Int) ≤ 1048576) = true := by simp; omega
 have b2 : decide (n ≤ 1048576) = true := by simp; omega
 have b3 : decide ((22 : Int) ≤ (n : Int)) = true := by simp; omega
 have b4 : decide (22 ≤ n) = true := by simp; omega
 obtain ⟨p, hp⟩ : ∃ p, p = n - 22 := ⟨_, rfl⟩
 have hpI : (n : Int) - 22 = (p : Int) := by omega
 have hpw : IntKind.i64.wrap (p : Int) = (p : Int) := by rw [IntKind.wrap_i64]; omega
 have i1 : (0 : Int) ≤ (p : Int) := by omega
 have i2 : (p : Int) ≤ (n : Int) := by omega
 have i3 : (n : Int) ≤ (c : Int) := by omega
 have HO := need_ok w (.int .i64 2)
 have HP := need_ok w (.int .i64 81)
 rw [← hp] at he
 have hdl : (bs.drop p).length = 22 := by rw [List.length_drop]; omega
 have HSD : Hid (∀ c', Src w (fun k => k < w.heap.size) (.slice (some ⟨b, o + p, none⟩) (bs.drop p).length c') (bs.drop p)) := hid (fun c' => by
  obtain ⟨ao, cap, e, h9⟩ := hs
  simp only [Value.slice.injEq] at e
  obtain ⟨e1, e2, e3⟩ := e
  refine ⟨_, _, rfl, fun _ => ⟨b, o + p, rfl, ?_⟩⟩
  obtain ⟨b', o', e4, h5, h6⟩ := h9 (fun e => by rw [e] at hL; simp at hL; omega)
  rw [← e1] at e4
  simp only [Option.some.injEq, Addr.mk.injEq, and_true] at e4
  obtain ⟨rfl, rfl⟩ := e4
  refine ⟨h5, fun j hj => ?_⟩
  rw [List.length_drop] at hj
  have := h6 (p + j) (by omega)
  rw [List.getElem_drop, Nat.add_assoc]
  exact this)
 have HE : Hid (∀ c', 22 ≤ c' → Calls Tryz.prog 91 #[.slice (some ⟨b, o + p, none⟩) 22 c', .int .i64 (p : Nat)] w fun e w' => EndA w w' (end8 (bs.drop p) p) e) := hid (fun c' h9 => by
  have h8 := end_any w.heap.size w (bs.drop p) (some ⟨b, o + p, none⟩) c' p (HSD.out c') (by omega) (Nat.le_refl _) (fun x hx => hb x (List.mem_of_mem_drop hx)) (by omega) (by omega) (by simp)
  rw [hdl] at h8
  exact h8)
 have hnp : n - p = 22 := by omega
 have HER : Hid (end8 (bs.drop p) p = .error x) := he
 clear hs hb h1 h2 hdl he hp hL
 go_enter Tryz.func51, Tryz.ntmps51
 go_wp2_with fail
 refine HO.mono ?_
 rintro e w1 ⟨rfl, hw1⟩
 subst hw1
 clear HO
 go_wp2_with fail
 refine HP.mono ?_
 rintro e w2 ⟨rfl, hw2⟩
 subst hw2
 clear HP
 go_wp2_with fail
 refine (HE.out _ (by omega)).mono ?_
 intro e w3 h3
 obtain ⟨rfl, hk3⟩ := h3.2 x HER.out
 have HK3 : Hid (Same w2 w3) := hk3
 clear h3 hk3
 unfold pan8
 go_wp2_with fail
 exact ⟨rfl, rfl, HK3.out⟩

end Go.Proofs.YtljlmfnbeofmmaaGreatDoor

namespace Go.Proofs.YtljlmfnbeofmmaaGreatDoor

theorem anyN_no {E : Nat → En} {s : ByteArray} {n : Nat} (h : anyN E s n = false) : ∀ i, i < n → (E i).n ≠ s := by
 intro i hi e
 rw [anyN_at hi e] at h
 cases h

theorem chkE_apart {E : Nat → En} {n : Nat} (h : chkE E n = 0) : ∀ i j, i < j → j < n → (E i).n ≠ (E j).n := by
 intro i j hij hj
 unfold chkE at h
 split at h
 ·cases h
 ·have h2 := wrAll_ok h j (Nat.zero_le _) (by omega)
  unfold wrE at h2
  split at h2
  ·cases h2
  ·rename_i h3
   cases h5 : anyN E (E j).n j with
   | true => exact absurd (.inr h5) h3
   | false => exact anyN_no h5 i hij

theorem labZ_it {y : En} {bs : List Nat} (hn : nam8 (sb y.n) = true) (hd : y.d.size ≤ 8192) : ItOk ⟨labZ y bs, bodZ y bs⟩ := by
 obtain ⟨h1, _, _, h4⟩ := labZ_ok y bs hn hd
 refine ⟨h1, rfl, chk8_mk hn (by simp) ?_ hd ?_ ?_⟩
 ·show (if bs.length < y.d.size then 8 else 0) = 0 ∨ (if bs.length < y.d.size then 8 else 0) = 8
  split
  ·exact .inr rfl
  ·exact .inl rfl
 ·show (bodZ y bs).length ≤ 16384
  omega
 ·show (if bs.length < y.d.size then 8 else 0) = 8 ∨ (bodZ y bs).length = y.d.size
  by_cases h : bs.length < y.d.size
  ·rw [if_pos h]; exact .inl rfl
  ·right
   unfold bodZ
   rw [if_neg h, sb_size]

theorem its_ok {E : Nat → En} {len : Nat} {L : List It} (h : ItsOf E len L) (hc : chkE E len = 0) : (∀ x ∈ L, ItOk x) ∧ (names8 L).Nodup ∧ L.length ≤ 64 := by
 obtain ⟨h64, hok⟩ := chkE_ok hc
 refine ⟨fun x hx => ?_, ?_, by rw [h.1]; exact h64⟩
 ·obtain ⟨j, hj, rfl⟩ := List.getElem_of_mem hx
  obtain ⟨bs, _, e⟩ := h.2 j L[j] (List.getElem?_eq_getElem hj)
  rw [e]
  have := hok j (by rw [← h.1]; exact hj)
  exact labZ_it this.1 this.2
 ·unfold List.Nodup names8
  rw [List.pairwise_map, List.pairwise_iff_getElem]
  intro i j hi hj hij e
  obtain ⟨b1, _, e1⟩ := h.2 i L[i] (List.getElem?_eq_getElem hi)
  obtain ⟨b2, _, e2⟩ := h.2 j L[j] (List.getElem?_eq_getElem hj)
  rw [e1, e2] at e
  exact chkE_apart hc i j hij (by rw [← h.1]; exact hj) (sb_inj e)

theorem piesB_le {L : List It} (h : ∀ x ∈ L, ItOk x) : (piesB L).length ≤ L.length * 16600 ∧ (recsB 0 L).length ≤ L.length * 120 := by
 rw [recsB_length]
 induction L with
 | nil => simp [piesB]
 | cons x r ih =>
  obtain ⟨i1, i2⟩ := ih (fun y hy => h y (by simp [hy]))
  have hx := h x (by simp)
  obtain ⟨hn, _, _, _, hp, _⟩ := chk8_zero hx.ok
  have hn2 : x.lab.name.length ≤ 64 := by
   unfold nam8 at hn
   simp only [Bool.and_eq_true, decide_eq_true_eq] at hn
   exact hn.1
  have := hx.len
  rw [piesB_cons, List.length_append, pieB_length, List.length_cons]
  simp only [List.map_cons, List.sum_cons]
  constructor
  ·omega
  ·omega

theorem its_small {E : Nat → En} {len : Nat} {L : List It} (h : ItsOf E len L) (hc : chkE E len = 0) : (filB L).length ≤ 1048576 := by
 obtain ⟨h64, hok⟩ := chkE_ok hc
 obtain ⟨ho, hnd, hl⟩ := its_ok h hc
 have h2 := (piesB_le ho).2
 have h3 : (piesB L).length ≤ L.length * 8400 := by
  have : ∀ x ∈ L, (pieB x).length ≤ 8400 := fun x hx => by
   obtain ⟨j, hj, rfl⟩ := List.getElem_of_mem hx
   obtain ⟨bs, _, e⟩ := h.2 j L[j] (List.getElem?_eq_getElem hj)
   rw [pieB_length, e]
   have h9 := hok j (by rw [← h.1]; exact hj)
   obtain ⟨_, _, h3, h4⟩ := labZ_ok (E j) bs h9.1 h9.2
   show 30 + (labZ (E j) bs).name.length + (bodZ (E j) bs).length ≤ 8400
   omega
  clear h2 ho hl h hnd
  induction L with
  | nil => simp [piesB]
  | cons x r ih =>
   have i1 := ih (fun y hy => this y (by simp [hy]))
   have := this x (by simp)
   rw [piesB_cons, List.length_append, List.length_cons]
   omega
 rw [filB_length]
 omega

theorem its_open {E : Nat → En} {len : Nat} {L : List It} (h : ItsOf E len L) (hc : chkE E len = 0) : opf8 (filB L) = .ok L := by
 obtain ⟨h1, h2, h3⟩ := its_ok h hc
 exact opf8_laid L h1 h2 h3 (its_small h hc)

end Go.Proofs.YtljlmfnbeofmmaaGreatDoor
