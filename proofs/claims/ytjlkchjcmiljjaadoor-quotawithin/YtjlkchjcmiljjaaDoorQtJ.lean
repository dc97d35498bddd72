/-
  Layer 17: the law's own: awake.
-/
import Derived.Test.YtjlkchjcmiljjaaDoorQtI
import Derived.Test.YtjlkchjcmiljjaaDoorQtH
namespace Go.Proofs.YtjlkchjcmiljjaaDoor
open Go.RowKit Go.Maps

def taA : Tn := ⟨⟨#[97]⟩, ⟨#[]⟩, 10, 2, by decide⟩
def taB : Tn := ⟨⟨#[98]⟩, ⟨#[]⟩, 5, 5, by decide⟩
def xsA : List Tn := [taA, taB]
def sA : Nm := ⟨⟨#[97]⟩, by decide⟩
def sC : Nm := ⟨⟨#[99]⟩, by decide⟩

theorem shoA17 : sho ⟨#[97]⟩ = true := by unfold sho; rw [Lib.toList_data]; decide
theorem shoB17 : sho ⟨#[98]⟩ = true := by unfold sho; rw [Lib.toList_data]; decide

theorem xsA_good : GoodT xsA := by
  refine ⟨fun t ht => ?_, ?_⟩
  · unfold xsA at ht
    rcases List.mem_cons.1 ht with rfl | ht
    · unfold tnB; rw [show sho taA.n = true from shoA17]; decide
    · rw [List.mem_singleton] at ht
      rw [ht]; unfold tnB; rw [show sho taB.n = true from shoB17]; decide
  · unfold xsA
    rw [List.pairwise_cons]
    exact ⟨fun x hx => by rw [List.mem_singleton] at hx; rw [hx]; decide, List.pairwise_singleton _ _⟩

/-- The states of the document's examples. -/
def qA1 : Sq := resS xsA (newS 2) sA.s ⟨6, 1⟩
def qA2 : Sq := resS xsA qA1 sA.s ⟨6, 0⟩
def qA3 : Sq := takeS qA2 1
def qA4 : Sq := takeS qA3 1

section
variable {w : World} {p ma mr : Nat} {bl : List Nat}

theorem resA1 (h : Qb w p ma mr bl xsA (newS 2)) : Calls Tryd.prog 16 #[.pointer (some ⟨p, 0, none⟩), .string ⟨#[97]⟩, .agg #[.int .i64 6, .int .i64 1]] w fun e w' => e = .returned (.tuple #[.int .i64 1, .int .i64 0]) ∧ Qb w' p ma mr bl xsA qA1 ∧ Kept (FQ p ma mr bl) w w' := by
  have h9 := qres_any h sA ⟨6, 1⟩ (by decide)
  rw [show resZ xsA (newS 2) sA.s ⟨6, 1⟩ = (1, 0) by decide +kernel] at h9
  exact h9

theorem resA2 (h : Qb w p ma mr bl xsA qA1) : Calls Tryd.prog 16 #[.pointer (some ⟨p, 0, none⟩), .string ⟨#[97]⟩, .agg #[.int .i64 6, .int .i64 0]] w fun e w' => e = .returned (.tuple #[.int .i64 0, .int .i64 171]) ∧ Qb w' p ma mr bl xsA qA2 ∧ Kept (FQ p ma mr bl) w w' := by
  have h9 := qres_any h sA ⟨6, 0⟩ (by decide +kernel)
  rw [show resZ xsA qA1 sA.s ⟨6, 0⟩ = (0, 171) by decide +kernel] at h9
  exact h9

theorem leftA2 : leftV xsA qA2 sA.s = .tuple #[.agg #[.int .i64 4, .int .i64 1], .int .i64 0] := by
  unfold leftV
  rw [show idxT xsA sA.s = some 0 by decide +kernel]
  simp only
  rw [show leftQ xsA qA2 0 = ⟨4, 1⟩ by decide +kernel]
  rfl

theorem leftA (h : Qb w p ma mr bl xsA qA2) : Calls Tryd.prog 12 #[.pointer (some ⟨p, 0, none⟩), .string ⟨#[97]⟩] w fun e w' => e = .returned (.tuple #[.agg #[.int .i64 4, .int .i64 1], .int .i64 0]) ∧ Same w w' := by
  have h9 := qleft_any h sA
  rw [leftA2] at h9
  exact h9

theorem takeA3 (h : Qb w p ma mr bl xsA qA2) : Calls Tryd.prog 17 #[.pointer (some ⟨p, 0, none⟩), .int .i64 1] w fun e w' => e = .returned (.int .i64 0) ∧ Qb w' p ma mr bl xsA qA3 ∧ Kept (FQ p ma mr bl) w w' := by
  have h9 := qtake_any h ⟨1, by decide⟩
  rw [show takeZ qA2 1 = 0 by decide +kernel] at h9
  exact h9

theorem useA3 : useV xsA qA3 sA.s = .tuple #[.agg #[.int .i64 6, .int .i64 1], .int .i64 0] := by
  unfold useV
  rw [show idxT xsA sA.s = some 0 by decide +kernel]
  simp only
  rw [show qA3.use 0 = ⟨6, 1⟩ by decide +kernel]
  rfl

theorem useA (h : Qb w p ma mr bl xsA qA3) : Calls Tryd.prog 11 #[.pointer (some ⟨p, 0, none⟩), .string ⟨#[97]⟩] w fun e w' => e = .returned (.tuple #[.agg #[.int .i64 6, .int .i64 1], .int .i64 0]) ∧ Same w w' := by
  have h9 := quse_any h sA
  rw [useA3] at h9
  exact h9

theorem takeA4 (h : Qb w p ma mr bl xsA qA3) : Calls Tryd.prog 17 #[.pointer (some ⟨p, 0, none⟩), .int .i64 1] w fun e w' => e = .returned (.int .i64 172) ∧ Qb w' p ma mr bl xsA qA4 ∧ Kept (FQ p ma mr bl) w w' := by
  have h9 := qtake_any h ⟨1, by decide⟩
  rw [show takeZ qA3 1 = 172 by decide +kernel] at h9
  exact h9

theorem useC4 : useV xsA qA4 sC.s = noU 170 := by
  unfold useV
  rw [show idxT xsA sC.s = none by decide +kernel]

theorem useC (h : Qb w p ma mr bl xsA qA4) : Calls Tryd.prog 11 #[.pointer (some ⟨p, 0, none⟩), .string ⟨#[99]⟩] w fun e w' => e = .returned (.tuple #[.agg #[.int .i64 0, .int .i64 0], .int .i64 170]) ∧ Same w w' := by
  have h9 := quse_any h sC
  rw [useC4] at h9
  exact h9

end

theorem srcA {w : World} {g : Nat} (hb : Blk w g #[.string ⟨#[97]⟩, .string ⟨#[]⟩, .int .i64 10, .int .i64 2, .string ⟨#[98]⟩, .string ⟨#[]⟩, .int .i64 5, .int .i64 5] 29) : SrcC 4 tnE w (fun k => k < w.heap.size) (.slice (some ⟨g, 0, none⟩) 2 2) xsA := by
  refine ⟨some ⟨g, 0, none⟩, 2, rfl, by decide, fun _ => ⟨g, 0, rfl, hb.lt, fun j hj i hi => ?_⟩⟩
  have hj2 : j = 0 ∨ j = 1 := by simp [xsA] at hj; omega
  have hi4 : i = 0 ∨ i = 1 ∨ i = 2 ∨ i = 3 := by omega
  rcases hj2 with rfl | rfl
  · rcases hi4 with rfl | rfl | rfl | rfl
    · exact hb.cell 0
    · exact hb.cell 1
    · exact hb.cell 2
    · exact hb.cell 3
  · rcases hi4 with rfl | rfl | rfl | rfl
    · exact hb.cell 4
    · exact hb.cell 5
    · exact hb.cell 6
    · exact hb.cell 7

set_option maxRecDepth 100000 in
set_option maxHeartbeats 2000000 in
theorem awake17 (w : World) : Calls Tryd.prog 13 #[] w fun e w' => e = .returned (.bool true) ∧ Same w w' := by
  obtain ⟨W1, hW1⟩ : ∃ W, W = w.alloc (.cells #[.string ⟨#[97]⟩, .string ⟨#[]⟩, .int .i64 10, .int .i64 2, .string ⟨#[98]⟩, .string ⟨#[]⟩, .int .i64 5, .int .i64 5] 29) := ⟨_, rfl⟩
  obtain ⟨xb, hxb⟩ : ∃ b, b = w.heap.size := ⟨_, rfl⟩
  have hB1 : Blk W1 xb #[.string ⟨#[97]⟩, .string ⟨#[]⟩, .int .i64 10, .int .i64 2, .string ⟨#[98]⟩, .string ⟨#[]⟩, .int .i64 5, .int .i64 5] 29 := by rw [hW1, hxb]; exact Blk.new w _ _
  have HK1 : Hid (Same w W1) := hid (by rw [hW1]; exact (Kept.refl _ w).alloc _)
  have HN := qnew_good W1 _ _ _ xsA (srcA hB1) (by decide) xsA_good
  clear hB1
  go_enter Tryd.func13, Tryd.ntmps13
  go_wp2_with fail
  rw [← hW1, ← hxb]
  clear hW1 hxb
  refine HN.mono ?_
  rintro e w2 ⟨p, ma, mr, bl, rfl, hq2, hk2, hnw⟩
  have HK2 := hid (Same.trans HK1.out hk2)
  have HF : Hid (∀ k, k < w.heap.size → ¬ FQ p ma mr bl k) := hid (fun k hk f => by have := hnw k f; have := HK1.out.size; omega)
  have HR := resA1 hq2
  clear hq2 hk2 hnw HN
  go_wp2_with fail
  refine HR.mono ?_
  rintro e w3 ⟨rfl, hq3, hk3⟩
  have HK3 := hid (HK2.out.then hk3 HF.out)
  have HR3 := resA2 hq3
  clear hq3 hk3 HR
  go_wp2_with fail
  refine HR3.mono ?_
  rintro e w4 ⟨rfl, hq4, hk4⟩
  have HK4 := hid (HK3.out.then hk4 HF.out)
  have HQ4 := hid hq4
  have HR4 := leftA hq4
  clear hq4 hk4 HR3
  go_wp2_with fail
  refine HR4.mono ?_
  rintro e w5 ⟨rfl, hk5⟩
  obtain ⟨W6, hW6⟩ : ∃ W, W = w5.alloc (.cells #[.int .i64 4, .int .i64 1] 31) := ⟨_, rfl⟩
  obtain ⟨g6, hg6⟩ : ∃ b, b = w5.heap.size := ⟨_, rfl⟩
  have hk56 : Same w4 W6 := by rw [hW6]; exact hk5.alloc _
  have HB6 : Hid (Blk W6 g6 #[.int .i64 4, .int .i64 1] 31) := hid (by rw [hW6, hg6]; exact Blk.new w5 _ _)
  have HK6 := hid (Same.trans HK4.out hk56)
  have HN6 : Hid (∀ k, FQ p ma mr bl k → k ≠ g6) := hid (fun k f e => by have := (HQ4.out.same hk5).fp_lt f; omega)
  have HR5 := takeA3 (HQ4.out.same hk56)
  clear hk5 hk56 HR4
  go_upto_region 7 with fail
  rw [← hW6, ← hg6]
  clear hW6 hg6
  go_wp2_with fail
  refine HR5.mono ?_
  rintro e w7 ⟨rfl, hq7, hk7⟩
  have HK7 := hid (HK6.out.then hk7 HF.out)
  have HB7 := hid (HB6.out.kept hk7 (fun f => HN6.out _ f rfl))
  have HQ7 := hid hq7
  have HR7 := useA hq7
  clear hq7 hk7 HR5
  go_wp2_with fail
  refine HR7.mono ?_
  rintro e w8 ⟨rfl, hk8⟩
  obtain ⟨W9, hW9⟩ : ∃ W, W = w8.alloc (.cells #[.int .i64 6, .int .i64 1] 31) := ⟨_, rfl⟩
  obtain ⟨g9, hg9⟩ : ∃ b, b = w8.heap.size := ⟨_, rfl⟩
  have hk89 : Same w7 W9 := by rw [hW9]; exact hk8.alloc _
  have HB9 : Hid (Blk W9 g9 #[.int .i64 6, .int .i64 1] 31) := hid (by rw [hW9, hg9]; exact Blk.new w8 _ _)
  have HB69 := hid (HB7.out.kept hk89 (fun f => f))
  have HK9 := hid (Same.trans HK7.out hk89)
  have HN9 : Hid (∀ k, FQ p ma mr bl k → k ≠ g9) := hid (fun k f e => by have := (HQ7.out.same hk8).fp_lt f; omega)
  have HR8 := takeA4 (HQ7.out.same hk89)
  clear hk8 hk89 HR7
  go_upto_region 9 with fail
  rw [← hW9, ← hg9]
  clear hW9 hg9
  go_wp2_with fail
  refine HR8.mono ?_
  rintro e w10 ⟨rfl, hqA, hkA⟩
  have HKA := hid (HK9.out.then hkA HF.out)
  have HBA := hid (And.intro (HB9.out.kept hkA (fun f => HN9.out _ f rfl)) (HB69.out.kept hkA (fun f => HN6.out _ f rfl)))
  have HRA := useC hqA
  clear hqA hkA HR8
  go_wp2_with fail
  refine HRA.mono ?_
  rintro e w11 ⟨rfl, hkB⟩
  obtain ⟨W12, hW12⟩ : ∃ W, W = w11.alloc (.cells #[.int .i64 0, .int .i64 0] 31) := ⟨_, rfl⟩
  have hkC : Same w10 W12 := by rw [hW12]; exact hkB.alloc _
  have HKC := hid (Same.trans HKA.out hkC)
  obtain ⟨a0, a1, _, _⟩ := (HBA.out.1.kept hkC (fun f => f)).c2
  obtain ⟨d0, d1, _, _⟩ := (HBA.out.2.kept hkC (fun f => f)).c2
  clear hkB hkC HRA
  go_upto_region 11 with fail
  rw [← hW12]
  clear hW12
  go_wp2_with fail
  go_ret
  exact ⟨rfl, HKC.out⟩

end Go.Proofs.YtjlkchjcmiljjaaDoor
