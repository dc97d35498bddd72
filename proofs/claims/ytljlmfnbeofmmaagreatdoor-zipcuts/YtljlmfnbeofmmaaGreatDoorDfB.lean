import Derived.Test.YtljlmfnbeofmmaaGreatDoorDfA
namespace Go.Proofs.YtljlmfnbeofmmaaGreatDoor
open Go.RowKit

set_option maxRecDepth 100000 in
set_option maxHeartbeats 1000000 in
theorem litMark0 (w : World) (l : Nat) (d : Int) (hl : l < 256) : Calls Tryz.prog 120 #[.agg #[.int .u8 (l : Nat), .int .i64 0, .int .i64 d]] w fun e w' => e = .returned (.agg #[.int .i64 (l : Nat), .int .u32 0, .int .i64 0]) ∧ Same w w' := by
 obtain ⟨W, hW⟩ : ∃ W, W = (w.alloc (.cells #[.int .u8 (l : Nat), .int .i64 0, .int .i64 d] 111)).alloc (.cells #[.int .i64 0, .int .u32 0, .int .i64 0] 164) := ⟨_, rfl⟩
 have HW : Hid (Same w W) := hid (by rw [hW]; exact ((Kept.refl _ w).alloc _).alloc _)
 have HA : Hid (Blk W w.heap.size #[.int .u8 (l : Nat), .int .i64 0, .int .i64 d] 111) := hid (by rw [hW]; exact (Blk.new w _ _).kept ((Kept.refl (fun _ => False) _).alloc _) (fun f => f))
 have HB : Hid (Blk W (w.heap.size + 1) #[.int .i64 0, .int .u32 0, .int .i64 0] 164) := hid (by rw [hW]; have h := Blk.new (w.alloc (.cells #[.int .u8 (l : Nat), .int .i64 0, .int .i64 d] 111)) #[.int .i64 0, .int .u32 0, .int .i64 0] 164; rw [World.size_alloc] at h; exact h)
 have HC := isCopy_any W ⟨l, 0, d⟩
 unfold tokV at HC
 simp only at HC
 simp only [show decide ((0 : Int) < 0) = false from by decide] at HC
 have hlw : wrap64 (l : Int) = (l : Int) := by unfold wrap64; omega
 go_enter Tryz.func120, Tryz.ntmps120
 go_wp2_with fail
 rw [← hW]
 clear hW
 refine HC.mono ?_
 rintro e w1 ⟨rfl, hk1⟩
 have HA1 : Hid (Blk w1 w.heap.size #[.int .u8 (l : Nat), .int .i64 0, .int .i64 d] 111) := hid (HA.out.kept hk1 (fun f => f))
 have HB1 : Hid (Blk w1 (w.heap.size + 1) #[.int .i64 0, .int .u32 0, .int .i64 0] 164) := hid (HB.out.kept hk1 (fun f => f))
 have HK1 : Hid (Same w w1) := hid (Same.trans HW.out hk1)
 have e0 := HA1.out.cell 0
 have e1 := HA1.out.cell 1
 simp at e0 e1
 have c0 := HB1.out.cell 0
 have c1 := HB1.out.cell 1
 have c2 := HB1.out.cell 2
 have f0 := HB1.out.frozen 0
 have f1 := HB1.out.frozen 1
 have f2 := HB1.out.frozen 2
 simp at c0 c1 c2
 clear hk1 HC
 go_wp2_with fail
 have hb3 := ((HB1.out.set 0 (.int .i64 (l : Nat))).set 1 (.int .u32 0)).set 2 (.int .i64 0)
 have d0 := hb3.cell 0
 have d1 := hb3.cell 1
 have d2 := hb3.cell 2
 simp at d0 d1 d2
 refine bodyPost_ret (v := .agg #[.int .i64 (l : Nat), .int .u32 0, .int .i64 0]) (by rw [results_cell_one rfl]; simp [go_sem, d0, d1, d2]) rfl ?_
 exact ⟨rfl, ((HK1.out.setCell _ _ (.inr (by simp))).setCell _ _ (.inr (by simp))).setCell _ _ (.inr (by simp))⟩

set_option maxRecDepth 100000 in
set_option maxHeartbeats 1000000 in
theorem litMark258 (w : World) (l : Nat) (d : Int)  : Calls Tryz.prog 120 #[.agg #[.int .u8 (l : Nat), .int .i64 258, .int .i64 d]] w fun e w' => e = .returned (.agg #[.int .i64 285, .int .u32 0, .int .i64 0]) ∧ Same w w' := by
 obtain ⟨W, hW⟩ : ∃ W, W = (w.alloc (.cells #[.int .u8 (l : Nat), .int .i64 258, .int .i64 d] 111)).alloc (.cells #[.int .i64 0, .int .u32 0, .int .i64 0] 164) := ⟨_, rfl⟩
 have HW : Hid (Same w W) := hid (by rw [hW]; exact ((Kept.refl _ w).alloc _).alloc _)
 have HA : Hid (Blk W w.heap.size #[.int .u8 (l : Nat), .int .i64 258, .int .i64 d] 111) := hid (by rw [hW]; exact (Blk.new w _ _).kept ((Kept.refl (fun _ => False) _).alloc _) (fun f => f))
 have HB : Hid (Blk W (w.heap.size + 1) #[.int .i64 0, .int .u32 0, .int .i64 0] 164) := hid (by rw [hW]; have h := Blk.new (w.alloc (.cells #[.int .u8 (l : Nat), .int .i64 258, .int .i64 d] 111)) #[.int .i64 0, .int .u32 0, .int .i64 0] 164; rw [World.size_alloc] at h; exact h)
 have HC := isCopy_any W ⟨l, 258, d⟩
 unfold tokV at HC
 simp only at HC
 simp only [show decide ((0 : Int) < 258) = true from by decide] at HC
 go_enter Tryz.func120, Tryz.ntmps120
 go_wp2_with fail
 rw [← hW]
 clear hW
 refine HC.mono ?_
 rintro e w1 ⟨rfl, hk1⟩
 have HA1 : Hid (Blk w1 w.heap.size #[.int .u8 (l : Nat), .int .i64 258, .int .i64 d] 111) := hid (HA.out.kept hk1 (fun f => f))
 have HB1 : Hid (Blk w1 (w.heap.size + 1) #[.int .i64 0, .int .u32 0, .int .i64 0] 164) := hid (HB.out.kept hk1 (fun f => f))
 have HK1 : Hid (Same w w1) := hid (Same.trans HW.out hk1)
 have e0 := HA1.out.cell 0
 have e1 := HA1.out.cell 1
 simp at e0 e1
 have c0 := HB1.out.cell 0
 have c1 := HB1.out.cell 1
 have c2 := HB1.out.cell 2
 have f0 := HB1.out.frozen 0
 have f1 := HB1.out.frozen 1
 have f2 := HB1.out.frozen 2
 simp at c0 c1 c2
 clear hk1 HC
 go_wp2_with fail
 have hb3 := ((HB1.out.set 0 (.int .i64 285)).set 1 (.int .u32 0)).set 2 (.int .i64 0)
 have d0 := hb3.cell 0
 have d1 := hb3.cell 1
 have d2 := hb3.cell 2
 simp at d0 d1 d2
 refine bodyPost_ret (v := .agg #[.int .i64 285, .int .u32 0, .int .i64 0]) (by rw [results_cell_one rfl]; simp [go_sem, d0, d1, d2]) rfl ?_
 exact ⟨rfl, ((HK1.out.setCell _ _ (.inr (by simp))).setCell _ _ (.inr (by simp))).setCell _ _ (.inr (by simp))⟩

set_option maxRecDepth 100000 in
set_option maxHeartbeats 1000000 in
theorem litMarkX (w : World) (l : Nat) (d : Int) (x : Nat) (hx : x ≤ 254) : Calls Tryz.prog 120 #[.agg #[.int .u8 (l : Nat), .int .i64 ((x : Int) + 3), .int .i64 d]] w fun e w' => e = .returned (.agg #[.int .i64 ((257 + splS x 3 : Nat) : Int), .int .u32 (splX x 3 : Nat), .int .i64 (splW x 3 : Nat)]) ∧ Same w w' := by
 obtain ⟨W, hW⟩ : ∃ W, W = (w.alloc (.cells #[.int .u8 (l : Nat), .int .i64 ((x : Int) + 3), .int .i64 d] 111)).alloc (.cells #[.int .i64 0, .int .u32 0, .int .i64 0] 164) := ⟨_, rfl⟩
 have HW : Hid (Same w W) := hid (by rw [hW]; exact ((Kept.refl _ w).alloc _).alloc _)
 have HA : Hid (Blk W w.heap.size #[.int .u8 (l : Nat), .int .i64 ((x : Int) + 3), .int .i64 d] 111) := hid (by rw [hW]; exact (Blk.new w _ _).kept ((Kept.refl (fun _ => False) _).alloc _) (fun f => f))
 have HB : Hid (Blk W (w.heap.size + 1) #[.int .i64 0, .int .u32 0, .int .i64 0] 164) := hid (by rw [hW]; have h := Blk.new (w.alloc (.cells #[.int .u8 (l : Nat), .int .i64 ((x : Int) + 3), .int .i64 d] 111)) #[.int .i64 0, .int .u32 0, .int .i64 0] 164; rw [World.size_alloc] at h; exact h)
 have HC := isCopy_any W ⟨l, ((x : Int) + 3), d⟩
 unfold tokV at HC
 simp only at HC
 have hpos : decide ((0 : Int) < (x : Int) + 3) = true := by simp; omega
 rw [hpos] at HC
 have hn258 : ((x : Int) + 3 == 258) = false := by simp; omega
 have hx3 : (x : Int) + 3 - 3 = (x : Int) := by omega
 have HSP : Hid (∀ wx, Calls Tryz.prog 153 #[.int .i64 (x : Nat), .int .i64 3] wx fun e w' => e = .returned (.agg #[.int .i64 (splS x 3 : Nat), .int .u32 (splX x 3 : Nat), .int .i64 (splW x 3 : Nat)]) ∧ Same wx w') := hid (fun wx => split3_any wx x hx)
 have HSM := splS_small x 3 5 (by omega) (by decide)
 generalize splS x 3 = sa at HSP HSM ⊢
 generalize splX x 3 = sb at HSP ⊢
 generalize splW x 3 = sc at HSP ⊢
 have hs28 : sa ≤ 30 := by simp at HSM; omega
 obtain ⟨s2, hs2⟩ : ∃ s, 257 + sa = s := ⟨_, rfl⟩
 rw [hs2]
 have hs2I : (sa : Int) + 257 = (s2 : Int) := by omega
 clear HSM hpos hs2
 go_enter Tryz.func120, Tryz.ntmps120
 go_wp2_with fail
 rw [← hW]
 clear hW
 refine HC.mono ?_
 rintro e w1 ⟨rfl, hk1⟩
 have HA1 : Hid (Blk w1 w.heap.size #[.int .u8 (l : Nat), .int .i64 ((x : Int) + 3), .int .i64 d] 111) := hid (HA.out.kept hk1 (fun f => f))
 have HB1 : Hid (Blk w1 (w.heap.size + 1) #[.int .i64 0, .int .u32 0, .int .i64 0] 164) := hid (HB.out.kept hk1 (fun f => f))
 have HK1 : Hid (Same w w1) := hid (Same.trans HW.out hk1)
 have e0 := HA1.out.cell 0
 have e1 := HA1.out.cell 1
 simp at e0 e1
 clear hk1 HC
 go_wp2_with fail
 refine (HSP.out w1).mono ?_
 rintro e w2 ⟨rfl, hk2⟩
 have HB2 : Hid (Blk w2 (w.heap.size + 1) #[.int .i64 0, .int .u32 0, .int .i64 0] 164) := hid (HB1.out.kept hk2 (fun f => f))
 have HK2 : Hid (Same w w2) := hid (Same.trans HK1.out hk2)
 have hlt2 : w.heap.size + 1 < w2.heap.size := HB2.out.lt
 have c0 := HB2.out.cell 0
 have c1 := HB2.out.cell 1
 have c2 := HB2.out.cell 2
 have f0 := HB2.out.frozen 0
 have f1 := HB2.out.frozen 1
 have f2 := HB2.out.frozen 2
 simp at c0 c1 c2
 clear hk2 e0 e1
 go_wp2_with fail
 have hb3 := (((HB2.out.set 0 (.int .i64 (s2 : Nat))).set 1 (.int .u32 (sb : Nat))).set 2 (.int .i64 (sc : Nat))).kept ((Kept.refl (fun _ => False) _).alloc (.cells #[.int .i64 (s2 : Nat), .int .u32 (sb : Nat), .int .i64 (sc : Nat)] 164)) (fun f => f)
 have d0 := hb3.cell 0
 have d1 := hb3.cell 1
 have d2 := hb3.cell 2
 simp at d0 d1 d2
 refine bodyPost_ret (v := .agg #[.int .i64 (s2 : Nat), .int .u32 (sb : Nat), .int .i64 (sc : Nat)]) (by rw [results_cell_one rfl]; simp [go_sem, d0, d1, d2]) rfl ?_
 exact ⟨rfl, (((HK2.out.setCell _ _ (.inr (by simp))).setCell _ _ (.inr (by simp))).setCell _ _ (.inr (by simp))).alloc _⟩

theorem litMark_any (w : World) (t : TK) (h : t.len = 0 ∨ (3 ≤ t.len ∧ t.len ≤ 258)) (hl : t.lit < 256) : Calls Tryz.prog 120 #[tokV t] w fun e w' => e = .returned (mkV (litMk t)) ∧ Same w w' := by
 obtain ⟨l, n, d⟩ := t
 simp only at h hl
 by_cases h0 : n = 0
 ·subst h0
  have hm : litMk ⟨l, 0, d⟩ = ⟨l, 0, 0⟩ := by unfold litMk; rw [if_pos rfl]
  rw [hm]
  exact litMark0 w l d hl
 ·by_cases h258 : n = 258
  ·subst h258
   have hm : litMk ⟨l, 258, d⟩ = ⟨285, 0, 0⟩ := by unfold litMk; rw [if_neg (by simp), if_pos rfl]
   rw [hm]
   exact litMark258 w l d
  ·obtain ⟨x, rfl⟩ : ∃ x : Nat, n = (x : Int) + 3 := ⟨n.toNat - 3, by omega⟩
   have hm : litMk ⟨l, (x : Int) + 3, d⟩ = ⟨257 + splS x 3, splX x 3, splW x 3⟩ := by unfold litMk; simp only; rw [if_neg h0, if_neg h258, show ((x : Int) + 3).toNat - 3 = x by omega]
   rw [hm]
   exact litMarkX w l d x (by omega)

end Go.Proofs.YtljlmfnbeofmmaaGreatDoor
