/-
  The law's 'awake': the document's examples.
-/
import Derived.Test.YtofhlnpbflkdlabDoorLnRd
import Derived.Test.YtofhlnpbflkdlabDoorLnPk
import Derived.Test.YtofhlnpbflkdlabDoorLnUk
import Derived.Test.YtofhlnpbflkdlabDoorLnSame
import Derived.Test.YtofhlnpbflkdlabDoorLnLaw
import Derived.Test.YtofhlnpbflkdlabDoorHAwake
namespace Go.Proofs.YtofhlnpbflkdlabDoor
open Go.RowKit

/-- A literal row of steps. -/
theorem src_steps (w : World) (ss : List (Int × Int)) (n : Nat) (hn : ss.length = n) : StSrc (w.alloc (.cells (ss.flatMap stC).toArray 35)) (fun k => k = w.heap.size) (.slice (some ⟨w.heap.size, 0, none⟩) n n) ss := by
  subst hn
  refine ⟨_, _, rfl, Nat.le_refl _, fun _ => ⟨_, _, rfl, rfl, fun j hj i hi => ?_⟩⟩
  rw [← flat_get stC_ok ss j i hj hi]
  simp

theorem ex_pack : packA [0, 0, 0, 3, 3, 3, 3, 3, 0] = .ok [(17, 0), (3, 0), (16, 1), (0, 0)] := by
  unfold packA
  rw [if_pos (by decide)]
  have e : ([0, 0, 0, 3, 3, 3, 3, 3, 0] : List Int).map Int.toNat = [0, 0, 0, 3, 3, 3, 3, 3, 0] := by decide
  have f1 : frontN 0 [0, 0, 3, 3, 3, 3, 3, 0] = 2 := by decide
  have f2 : frontN 3 [3, 3, 3, 3, 0] = 4 := by decide
  have f3 : frontN 0 [] = 0 := by decide
  rw [e, packM_cons, f1]
  have d1 : ([0, 0, 3, 3, 3, 3, 3, 0] : List Nat).drop 2 = [3, 3, 3, 3, 3, 0] := by decide
  rw [d1, packM_cons, f2]
  have d2 : ([3, 3, 3, 3, 0] : List Nat).drop 4 = [0] := by decide
  rw [d2, packM_cons, f3]
  have d3 : ([] : List Nat).drop 0 = [] := by decide
  have p0 : packM [] = [] := by rw [packM]
  rw [d3, p0]
  have s1 : sayM 0 (1 + 2) = [(17, 0)] := by unfold sayM; rw [if_pos rfl, zerosM_mid 3 (by decide) (by decide)]; rfl
  have s2 : sayM 3 (1 + 4) = [(3, 0), (16, 1)] := by unfold sayM; rw [if_neg (by decide), againM_big 3 4 (by decide), show 4 - min 4 6 = 0 by decide, againM_few 3 0 (by decide)]; rfl
  have s3 : sayM 0 (1 + 0) = [(0, 0)] := by unfold sayM; rw [if_pos rfl, zerosM_few 1 (by decide)]; rfl
  rw [s1, s2, s3]
  rfl

theorem ex_unp : unpM [(5, 0), (16, 3)] 7 = .ok [5, 5, 5, 5, 5, 5, 5] := by rfl
theorem ex_unp2 : unpM [(16, 0)] 3 = .error 41 := by rfl
theorem ex_read : readF (ofBytes [255, 255]) 0 = .error 40 := by
  unfold readF
  rw [if_neg (by decide), if_pos (by decide)]

theorem Tab.pos {w : World} (h : Tab w) : 0 < w.heap.size := World.block_lt_of_cell? w _ (h 0 (by decide))

set_option maxRecDepth 100000 in
set_option maxHeartbeats 4000000 in
theorem lawake_any (w : World) (hT : Tab w) : Calls Tryd.prog 4 #[] w fun e w' => e = .returned (.bool true) ∧ Same w w' := by
  have HT : Hid (Tab w) := hT
  have HC1 := lpack_any (w.alloc (.cells #[.int .i64 0, .int .i64 0, .int .i64 0, .int .i64 3, .int .i64 3, .int .i64 3, .int .i64 3, .int .i64 3, .int .i64 0] 3)) (.slice (some ⟨w.heap.size, 0, none⟩) 9 9) _ [0, 0, 0, 3, 3, 3, 3, 3, 0] (src_ints w _ 9 rfl) (by decide)
  rw [ex_pack] at HC1
  clear hT
  go_enter Tryd.func4, Tryd.ntmps4
  go_wp2_with fail
  refine HC1.mono ?_
  rintro e w1 ⟨v1, rfl, hr1, hk1⟩
  have HR1 : Hid (StRow w.heap.size w1 v1 [(17, 0), (3, 0), (16, 1), (0, 0)]) := hid (RowC.base hr1 (by simp))
  have HK1 : Hid (Same w w1) := hid (Same.trans ((Kept.refl _ w).alloc _) hk1)
  clear hr1 hk1 HC1
  have HC2 := lunpack_any (w1.alloc (.cells #[.int .i64 5, .int .i64 0, .int .i64 16, .int .i64 3] 35)) (.slice (some ⟨w1.heap.size, 0, none⟩) 2 2) _ [(5, 0), (16, 3)] 7 (src_steps w1 _ 2 rfl) (by decide)
  rw [ex_unp] at HC2
  go_wp2_with fail
  refine HC2.mono ?_
  rintro e w2 ⟨v2, rfl, hn2⟩
  have HR2 : Hid (NRow w.heap.size w2 v2 [5, 5, 5, 5, 5, 5, 5]) := hid (RowE.base hn2.row (by have := HK1.out.size; simp; omega))
  have HK2 : Hid (Same w1 w2) := hid (Same.trans ((Kept.refl _ w1).alloc _) hn2.same)
  clear hn2 HC2
  have HC3 := lunpack_any (w2.alloc (.cells #[.int .i64 16, .int .i64 0] 35)) (.slice (some ⟨w2.heap.size, 0, none⟩) 1 1) _ [(16, 0)] 3 (src_steps w2 _ 1 rfl) (by decide)
  rw [ex_unp2] at HC3
  go_wp2_with fail
  refine HC3.mono ?_
  rintro e w3 ⟨rfl, hk3⟩
  have HK3 : Hid (Same w2 w3) := hid (Same.trans ((Kept.refl _ w2).alloc _) hk3)
  clear hk3 HC3
  have HC4 := newReader_any (.slice (some ⟨w3.heap.size, 0, none⟩) 2 2) _ [255, 255] (w3.alloc (.cells #[.int .u8 255, .int .u8 255] 5)) (src_bytes w3 _ 2 rfl) (by decide) (by decide)
  go_wp2_with fail
  refine HC4.mono ?_
  rintro e w4 ⟨p, s, rfl, hst4, hk4, hf4⟩
  have HK4 : Hid (Same w3 w4) := hid (Same.trans ((Kept.refl _ w3).alloc _) hk4)
  have HKA : Hid (Same w w4) := hid (Same.trans (Same.trans HK1.out HK2.out) (Same.trans HK3.out HK4.out))
  have hp4 := hf4 p (.inl rfl)
  have HPW : Hid (w3.heap.size ≤ p ∧ w.heap.size ≤ w3.heap.size) := hid ⟨by simp at hp4; omega, (Same.trans (Same.trans HK1.out HK2.out) HK3.out).size⟩
  have HC5 := lread_any w4 p 0 s [255, 255] hst4 (by decide) (by decide) (HT.out.kept HKA.out (fun f => f)) (fun e => by have := HT.out.pos; have := HPW.out; omega)
  rw [ex_read] at HC5
  clear hst4 hk4 hf4 HC4 hp4
  go_wp2_with fail
  refine HC5.mono ?_
  rintro e w5 ⟨⟨rfl, _, _⟩, hk5⟩
  have HK5 : Hid (Same w w5) := hid (Same.then HKA.out hk5 (fun k hk e => by have := HPW.out; omega))
  have HR1b : Hid (StRow w.heap.size w5 v1 [(17, 0), (3, 0), (16, 1), (0, 0)]) := hid (RowC.kept (RowC.kept HR1.out (Same.trans HK2.out (Same.trans HK3.out HK4.out)) (fun _ _ f => f)) hk5 (fun k e h => by have h1 := HR1.out.lt e; have h2 := (Same.trans HK2.out HK3.out).size; have := HPW.out; omega))
  have HR2b : Hid (NRow w.heap.size w5 v2 [5, 5, 5, 5, 5, 5, 5]) := hid (RowE.kept (HR2.out.same (Same.trans HK3.out HK4.out)) hk5 (fun k e h => by have h1 := HR2.out.lt e; have h2 := HK3.out.size; have := HPW.out; omega))
  clear hk5 HC5
  have HS1 := same_any v1 (.slice (some ⟨w5.heap.size, 0, none⟩) 4 4) _ _ _ [(17, 0), (3, 0), (16, 1), (0, 0)] (w5.alloc (.cells #[.int .i64 17, .int .i64 0, .int .i64 3, .int .i64 0, .int .i64 16, .int .i64 1, .int .i64 0, .int .i64 0] 35)) (SrcC.kept stC_ok (SrcC.ofRow stC_ok HR1b.out) ((Kept.refl (fun _ => False) w5).alloc _) (fun _ _ _ f => f)) (src_steps w5 _ 4 rfl) (by decide) (by decide)
  have hd1 : decide (([(17, 0), (3, 0), (16, 1), (0, 0)] : List (Int × Int)) = [(17, 0), (3, 0), (16, 1), (0, 0)]) = true := by simp
  rw [hd1] at HS1
  clear hd1
  go_wp2_with fail
  refine HS1.mono ?_
  rintro e w6 ⟨rfl, hk6⟩
  have HK6' : Hid (Same w5 w6) := hid (Same.trans ((Kept.refl _ w5).alloc _) hk6)
  have HK6 : Hid (Same w w6) := hid (Same.trans HK5.out HK6'.out)
  clear HS1 hk6
  have HS2 := keepInts_any v2 (.slice (some ⟨w6.heap.size, 0, none⟩) 7 7) _ _ [5, 5, 5, 5, 5, 5, 5] [5, 5, 5, 5, 5, 5, 5] (w6.alloc (.cells #[.int .i64 5, .int .i64 5, .int .i64 5, .int .i64 5, .int .i64 5, .int .i64 5, .int .i64 5] 3)) (((SrcE.ofRow (HR2b.out.same HK6'.out)).same ((Kept.refl _ w6).alloc _)).recode (enc' := intV) rfl) (src_ints w6 _ 7 rfl) (by decide) (by decide)
  have hd2 : decide (([5, 5, 5, 5, 5, 5, 5] : List Int) = [5, 5, 5, 5, 5, 5, 5]) = true := by simp
  rw [hd2] at HS2
  clear hd2
  go_wp2_with fail
  refine HS2.mono ?_
  rintro e w7 ⟨rfl, hk7⟩
  have HK7 : Hid (Same w w7) := hid (Same.trans HK6.out (Same.trans ((Kept.refl _ w6).alloc _) hk7))
  clear HS2 hk7
  go_wp2_with fail
  go_ret
  exact ⟨rfl, HK7.out⟩

end Go.Proofs.YtofhlnpbflkdlabDoor
