import Derived.Test.YtljlmfnbeofmmaaGreatDoorZpXb
import Derived.Test.YtljlmfnbeofmmaaGreatDoorZpT
import Derived.Test.YtljlmfnbeofmmaaGreatDoorLSum
import Derived.Test.YtljlmfnbeofmmaaGreatDoorDfQ
namespace Go.Proofs.YtljlmfnbeofmmaaGreatDoor
open Go.RowKit

theorem nil8 {w : World} {v : Value} {bs : List Nat} (h : Row w v bs) : ∀ n c, v = .slice none n c → n = 0 ∧ c = 0 := by
 rintro n c rfl
 rcases h.2 with ⟨h1, _⟩ | ⟨g, cap, cur, h1, _⟩
 ·simp only [Value.slice.injEq] at h1
  exact ⟨h1.2.1, h1.2.2⟩
 ·cases h1

def bodZ (y : En) (bs : List Nat) : List Nat := if bs.length < y.d.size then bs else sb y.d

def labZ (y : En) (bs : List Nat) : Mk := ⟨if bs.length < y.d.size then 8 else 0, more 0 (sb y.d), (bodZ y bs).length, y.d.size, sb y.n⟩

def PackZ (w w' : World) (y : En) (e : Ending) : Prop :=
 ∃ bs v' J, PDef (sb y.d) bs ∧ e = .returned (.tuple #[.agg (mkZ (labZ y bs)), v']) ∧ Src w' J v' (bodZ y bs) ∧ (∀ k, J k → w.heap.size ≤ k) ∧ (∀ n c, v' = .slice none n c → n = 0 ∧ c = 0) ∧ Same w w'

set_option maxRecDepth 100000 in
set_option maxHeartbeats 400000 in
theorem zpack_any (w : World) (y : En) (hd : y.d.size ≤ 8192) (hT : Tab w) :
  Calls Tryz.prog 34 #[.agg #[.string y.n, .string y.d]] w fun e w' => PackZ w w' y e := by
 obtain ⟨W2, hW2⟩ : ∃ W, W = (w.alloc (.cells #[.string y.n, .string y.d] 34)).alloc (.cells #[.int .u16 0, .int .u32 0, .int .u32 0, .int .u32 0, .string ⟨#[]⟩] 60) := ⟨_, rfl⟩
 have HK2 : Hid (Same w W2) := hid (by rw [hW2]; exact ((Kept.refl _ w).alloc _).alloc _)
 have HX2 : Hid (Blk W2 w.heap.size #[.string y.n, .string y.d] 34) := hid (by rw [hW2]; exact (Blk.new w _ _).kept (show Same _ _ from (Kept.refl _ _).alloc _) (fun f => f))
 have HR2 : Hid (Blk W2 (w.heap.size + 1) #[.int .u16 0, .int .u32 0, .int .u32 0, .int .u32 0, .string ⟨#[]⟩] 60) := hid (by rw [hW2]; have h9 := Blk.new (w.alloc (.cells #[.string y.n, .string y.d] 34)) #[.int .u16 0, .int .u32 0, .int .u32 0, .int .u32 0, .string ⟨#[]⟩] 60; rw [World.size_alloc] at h9; exact h9)
 obtain ⟨G, W3, hcv, hk3, hs3, hz3⟩ := bytes8 W2 y.d
 have HR3 : Hid (Blk W3 (w.heap.size + 1) #[.int .u16 0, .int .u32 0, .int .u32 0, .int .u32 0, .string ⟨#[]⟩] 60) := hid (HR2.out.kept hk3 (fun f => f))
 have HZ3 : Hid (W3.heap.size = w.heap.size + 3) := hid (by rw [hz3, hW2, World.size_alloc, World.size_alloc])
 have hcv' := hcv
 rw [hW2] at hcv'
 have HK3 : Hid (Same w W3) := hid (Same.trans HK2.out hk3)
 have HX3 : Hid (Blk W3 w.heap.size #[.string y.n, .string y.d] 34) := hid (HX2.out.kept hk3 (fun f => f))
 obtain ⟨db, hdb⟩ : ∃ b, b = W2.heap.size := ⟨_, rfl⟩
 rw [← hdb] at hs3
 have hdb' := hdb
 rw [hW2, World.size_alloc, World.size_alloc] at hdb'
 have HS3 : Hid (Src W3 (fun k => k = db) (.slice (some ⟨db, 0, none⟩) y.d.size G) (sb y.d)) := hs3
 have hsz : (sb y.d).length = y.d.size := sb_size _
 have hbyte := sb_lt y.d
 have hlw : IntKind.u32.wrap (y.d.size : Int) = (y.d.size : Int) := by rw [IntKind.wrap_u32]; omega
 obtain ⟨xb, hxb⟩ : ∃ b, b = w.heap.size := ⟨_, rfl⟩
 have x0 : W3.cell? ⟨xb, 0, none⟩ = some (.string y.n) := by rw [hxb]; exact HX3.out.cell 0
 have x1 : W3.cell? ⟨xb, 1, none⟩ = some (.string y.d) := by rw [hxb]; exact HX3.out.cell 1
 have HSUM := lsum_any W3 _ _ _ HS3.out hbyte (by rw [hsz]; omega)
 have HSUMd := lsum_any W3.drew _ _ _ (HS3.out.kept (show Same W3 W3.drew from (Kept.refl _ W3).drew) (fun _ _ _ f => f)) hbyte (by rw [hsz]; omega)
 clear hs3 hk3 hcv
 go_enter Tryz.func34, Tryz.ntmps34
 go_wp2_with fail
 have HD2 : Hid (db = w.heap.size + 2) := hid (by omega)
 rw [← hdb', ← hxb]
 clear hcv' hW2 hdb hdb' hz3
 have HDB : Hid (xb = w.heap.size) := hxb
 clear hxb
 have HSUMn := fun wx (hk : Same W3 wx) => lsum_any wx _ _ _ (HS3.out.kept hk (fun _ _ _ f => f)) hbyte (by rw [hsz]; omega)
 go_region_held3 (fun w' => w'.cell? ⟨xb, 0, none⟩ = some (.string y.n))
  (first
   | (go_split_ands; assumption)
   | go_keep)
  (first
   | (go_at_call 28; refine (HSUMn _ (by first | exact Kept.refl _ _ | exact (Kept.refl _ _).drew | exact (Kept.refl _ _).drewN _ | exact ((Kept.refl _ _).drew).alloc _ | exact ((Kept.refl _ _).drewN _).alloc _)).mono ?_; rintro e w4 ⟨rfl, hw4⟩; subst hw4))
 all_goals
  obtain ⟨C, hC⟩ : ∃ C, C = #[Value.int .u16 0, .int .u32 (more 0 (sb y.d) : Nat), .int .u32 0, .int .u32 (y.d.size : Nat), .string y.n] := ⟨_, rfl⟩
  rw [← hC]
  obtain ⟨lb, hlb⟩ : ∃ b, b = W3.heap.size := ⟨_, rfl⟩
  obtain ⟨W4, hW4⟩ : ∃ W, W = (W3.alloc (.cells C 60)).drew := ⟨_, rfl⟩
  have hk4 : Same W3 W4 := by rw [hW4]; exact ((Kept.refl _ W3).alloc _).drew
  have HK4 : Hid (Same w W4) := hid (Same.trans HK3.out hk4)
  have HB4 : Hid (Blk W4 lb C 60) := hid (by rw [hW4, hlb]; exact (Blk.new W3 C 60).drewN 1)
  have HS4 : Hid (Src W4 (fun k => k = db) (.slice (some ⟨db, 0, none⟩) y.d.size G) (sb y.d)) := hid (HS3.out.kept hk4 (fun _ _ _ f => f))
  have HD := deflate_any W4 _ _ _ HS4.out hbyte (fun n c e => by cases e) (by rw [hsz]; omega) (hT.kept HK4.out (fun f => f))
  have HLB3 : Hid (lb = xb + 3 ∧ xb = w.heap.size) := hid ⟨by rw [hlb, HZ3.out, HDB.out], HDB.out⟩
  have HR4 : Hid (Blk W4 (xb + 1) #[.int .u16 0, .int .u32 0, .int .u32 0, .int .u32 0, .string ⟨#[]⟩] 60) := hid (by rw [HDB.out]; exact HR3.out.kept hk4 (fun f => f))
  rw [← hlb, ← hW4]
  clear hW4 hk4 HSUM HSUMd HSUMn hlb
  go_wp2_with fail
  refine HD.mono ?_
  rintro e w5 ⟨v5, bs, rfl, hn5, hp5⟩
  have HP5 : Hid (PDef (sb y.d) bs) := hp5
  have HN5 : Hid (NB W4 w5 v5 bs) := hn5
  have HK5 : Hid (Same w w5) := hid (Same.trans HK4.out hn5.same)
  have HR5 : Hid (Blk w5 (xb + 1) #[.int .u16 0, .int .u32 0, .int .u32 0, .int .u32 0, .string ⟨#[]⟩] 60) := hid (HR4.out.kept hn5.same (fun f => f))
  have HB5 : Hid (Blk w5 lb C 60) := hid (HB4.out.kept hn5.same (fun f => f))
  have HS5 : Hid (Src w5 (fun k => k = db) (.slice (some ⟨db, 0, none⟩) y.d.size G) (sb y.d)) := hid (HS4.out.kept hn5.same (fun _ _ _ f => f))
  obtain ⟨a5, c5, hv5, _⟩ := hn5.row.shape
  obtain ⟨n5, hn5l⟩ : ∃ n, n = bs.length := ⟨_, rfl⟩
  rw [← hn5l] at hv5
  subst hv5
  have HNL : Hid (n5 = bs.length) := hn5l
  have HLT : Hid (lb < W4.heap.size ∧ xb + 1 < W4.heap.size) := hid ⟨HB4.out.lt, HR4.out.lt⟩
  clear hn5 hp5 hn5l HD HB4 HS4
  have k0 : w5.cell? ⟨lb, 0, none⟩ = some (.int .u16 0) := by have := HB5.out.cell 0; rw [hC] at this; exact this
  have k1 : w5.cell? ⟨lb, 1, none⟩ = some (.int .u32 (more 0 (sb y.d) : Nat)) := by have := HB5.out.cell 1; rw [hC] at this; exact this
  have k2 : w5.cell? ⟨lb, 2, none⟩ = some (.int .u32 0) := by have := HB5.out.cell 2; rw [hC] at this; exact this
  have k3 : w5.cell? ⟨lb, 3, none⟩ = some (.int .u32 (y.d.size : Nat)) := by have := HB5.out.cell 3; rw [hC] at this; exact this
  have k4 : w5.cell? ⟨lb, 4, none⟩ = some (.string y.n) := by have := HB5.out.cell 4; rw [hC] at this; exact this
  have z0 := HB5.out.frozen 0
  have z2 := HB5.out.frozen 2
  obtain ⟨rb, hrb⟩ : ∃ b, b = xb + 1 := ⟨_, rfl⟩
  rw [← hrb] at HR5 ⊢
  have hne : ¬ lb = rb := by have := HLB3.out; omega
  have hne' : ¬ rb = lb := by have := HLB3.out; omega
  have HNE : Hid (¬ lb = rb ∧ w.heap.size ≤ rb ∧ w.heap.size ≤ lb ∧ lb < W4.heap.size ∧ rb < W4.heap.size ∧ ¬ db = lb ∧ ¬ db = rb) := hid (by have := HLB3.out; have := HLT.out; have := HD2.out; omega)
  have m0 := HR5.out.cell 0
  have f0 := HR5.out.frozen 0
  have m1 := HR5.out.cell 1
  have f1 := HR5.out.frozen 1
  have m2 := HR5.out.cell 2
  have f2 := HR5.out.frozen 2
  have m3 := HR5.out.cell 3
  have f3 := HR5.out.frozen 3
  have m4 := HR5.out.cell 4
  have f4 := HR5.out.frozen 4
  simp at m0 m1 m2 m3 m4
  have HC5 : Hid (C = #[Value.int .u16 0, .int .u32 (more 0 (sb y.d) : Nat), .int .u32 0, .int .u32 (y.d.size : Nat), .string y.n]) := hC
  clear hrb x0 x1 HR4 HR3 HR2
  by_cases hlt : n5 < y.d.size
  ·have hl1 : decide (n5 < y.d.size) = true := by simp; omega
   have hl2 : (n5 : Int) < (y.d.size : Int) := by omega
   have hnw : IntKind.u32.wrap (n5 : Int) = (n5 : Int) := by rw [IntKind.wrap_u32]; omega
   clear hC
   go_wp2_with fail
   obtain ⟨wz, hwz⟩ : ∃ W, W = (((((((w5.setCell ⟨lb, 0, none⟩ (.int .u16 8)).setCell ⟨lb, 2, none⟩ (.int .u32 (n5 : Nat))).setCell ⟨rb, 0, none⟩ (.int .u16 8)).setCell ⟨rb, 1, none⟩ (.int .u32 (more 0 (sb y.d) : Nat))).setCell ⟨rb, 2, none⟩ (.int .u32 (n5 : Nat))).setCell ⟨rb, 3, none⟩ (.int .u32 (y.d.size : Nat))).setCell ⟨rb, 4, none⟩ (.string y.n)) := ⟨_, rfl⟩
   have hkz : Kept (fun k => k = lb ∨ k = rb) w5 wz := by rw [hwz]; exact ((((((((Kept.refl (fun k => k = lb ∨ k = rb) w5).setCell _ _ (.inl (.inl rfl))).setCell _ _ (.inl (.inl rfl))).setCell _ _ (.inl (.inr rfl))).setCell _ _ (.inl (.inr rfl))).setCell _ _ (.inl (.inr rfl))).setCell _ _ (.inl (.inr rfl))).setCell _ _ (.inl (.inr rfl)))
   have hbz : Blk wz rb #[.int .u16 8, .int .u32 (more 0 (sb y.d) : Nat), .int .u32 (n5 : Nat), .int .u32 (y.d.size : Nat), .string y.n] 60 := by rw [hwz]; have := ((((((HR5.out.kept (show Kept (fun k => k = lb) w5 ((w5.setCell ⟨lb, 0, none⟩ (.int .u16 8)).setCell ⟨lb, 2, none⟩ (.int .u32 (n5 : Nat))) from (((Kept.refl (fun k => k = lb) w5).setCell _ _ (.inl rfl)).setCell _ _ (.inl rfl))) (fun e => HNE.out.1 e.symm)).set 0 (.int .u16 8)).set 1 (.int .u32 (more 0 (sb y.d) : Nat))).set 2 (.int .u32 (n5 : Nat))).set 3 (.int .u32 (y.d.size : Nat))).set 4 (.string y.n)); simpa using this
   have z0 := hbz.cell 0
   have z1 := hbz.cell 1
   have z2 := hbz.cell 2
   have z3 := hbz.cell 3
   have z4 := hbz.cell 4
   simp at z0 z1 z2 z3 z4
   rw [← hwz]
   have hlt' : bs.length < y.d.size := by rw [← HNL.out]; exact hlt
   have hbod : bodZ y bs = bs := by unfold bodZ; rw [if_pos hlt']
   have hlab : mkZ (labZ y bs) = #[.int .u16 8, .int .u32 (more 0 (sb y.d) : Nat), .int .u32 (n5 : Nat), .int .u32 (y.d.size : Nat), .string y.n] := by
    unfold mkZ labZ
    rw [hbod, if_pos hlt', txt_sb, HNL.out]
    rfl
   refine bodyPost_ret (v := .tuple #[.agg (mkZ (labZ y bs)), .slice a5 n5 c5]) (by rw [hlab, results_cell_tmp rfl]; simp [go_sem, z0, z1, z2, z3, z4]) rfl ?_
   refine ⟨bs, _, (fun k => (Value.slice a5 n5 c5).ownBlock = some k), HP5.out, rfl, ?_, (fun k e => by have := HN5.out.new k e; have := HK4.out.size; omega), nil8 HN5.out.row, Same.then HK5.out hkz (fun k hk e => by have := HNE.out; omega)⟩
   rw [hbod]
   exact (Src.ofRow HN5.out.row).kept hkz (fun k hk _ e => by have := HN5.out.new k hk; have := HNE.out; omega)
  ·have hl1 : decide (n5 < y.d.size) = false := by simp; omega
   have hl2 : (y.d.size : Int) ≤ (n5 : Int) := by omega
   clear hC
   go_wp2_with fail
   obtain ⟨wz, hwz⟩ : ∃ W, W = ((((((w5.setCell ⟨lb, 2, none⟩ (.int .u32 (y.d.size : Nat))).setCell ⟨rb, 0, none⟩ (.int .u16 0)).setCell ⟨rb, 1, none⟩ (.int .u32 (more 0 (sb y.d) : Nat))).setCell ⟨rb, 2, none⟩ (.int .u32 (y.d.size : Nat))).setCell ⟨rb, 3, none⟩ (.int .u32 (y.d.size : Nat))).setCell ⟨rb, 4, none⟩ (.string y.n)) := ⟨_, rfl⟩
   have hkz : Kept (fun k => k = lb ∨ k = rb) w5 wz := by rw [hwz]; exact (((((((Kept.refl (fun k => k = lb ∨ k = rb) w5).setCell _ _ (.inl (.inl rfl))).setCell _ _ (.inl (.inr rfl))).setCell _ _ (.inl (.inr rfl))).setCell _ _ (.inl (.inr rfl))).setCell _ _ (.inl (.inr rfl))).setCell _ _ (.inl (.inr rfl)))
   have hbz : Blk wz rb #[.int .u16 0, .int .u32 (more 0 (sb y.d) : Nat), .int .u32 (y.d.size : Nat), .int .u32 (y.d.size : Nat), .string y.n] 60 := by rw [hwz]; have := ((((((HR5.out.kept (show Kept (fun k => k = lb) w5 (w5.setCell ⟨lb, 2, none⟩ (.int .u32 (y.d.size : Nat))) from ((Kept.refl (fun k => k = lb) w5).setCell _ _ (.inl rfl))) (fun e => HNE.out.1 e.symm)).set 0 (.int .u16 0)).set 1 (.int .u32 (more 0 (sb y.d) : Nat))).set 2 (.int .u32 (y.d.size : Nat))).set 3 (.int .u32 (y.d.size : Nat))).set 4 (.string y.n)); simpa using this
   have z0 := hbz.cell 0
   have z1 := hbz.cell 1
   have z2 := hbz.cell 2
   have z3 := hbz.cell 3
   have z4 := hbz.cell 4
   simp at z0 z1 z2 z3 z4
   rw [← hwz]
   have hlt' : ¬ bs.length < y.d.size := by rw [← HNL.out]; exact hlt
   have hbod : bodZ y bs = sb y.d := by unfold bodZ; rw [if_neg hlt']
   have hlab : mkZ (labZ y bs) = #[.int .u16 0, .int .u32 (more 0 (sb y.d) : Nat), .int .u32 (y.d.size : Nat), .int .u32 (y.d.size : Nat), .string y.n] := by
    unfold mkZ labZ
    rw [hbod, if_neg hlt', txt_sb, sb_size]
    rfl
   refine bodyPost_ret (v := .tuple #[.agg (mkZ (labZ y bs)), .slice (some ⟨db, 0, none⟩) y.d.size G]) (by rw [hlab, results_cell_tmp rfl]; simp [go_sem, z0, z1, z2, z3, z4]) rfl ?_
   refine ⟨bs, _, (fun k => k = db), HP5.out, rfl, ?_, (fun k e => by have := HD2.out; omega), (fun n c e => by cases e), Same.then HK5.out hkz (fun k hk e => by have := HNE.out; omega)⟩
   rw [hbod]
   exact HS5.out.kept hkz (fun k hk _ e => by have := HNE.out; omega)

end Go.Proofs.YtljlmfnbeofmmaaGreatDoor
