/-
  Layer 16: the law's own: one, awake.
-/
import Derived.Test.YtfhfnkhiomahfaaGreatDoorTkI
namespace Go.Proofs.YtfhfnkhiomahfaaGreatDoor
open Go.RowKit Go.Maps Go.Shelf

theorem TnR.some {xs : List Tn} {T : List (Nm × ByteArray)} (h : TnR xs T) (ha : T.Pairwise (fun p q => p.1 ≠ q.1)) {t : Tn} (ht : t ∈ xs) : getG t.nm T = some t.k := getG_of_mem ha ((h _).2 ⟨t, ht, rfl⟩)

theorem TnR.none {xs : List Tn} {T : List (Nm × ByteArray)} (h : TnR xs T) (s : Nm) (hn : ∀ y ∈ xs, y.n ≠ s.s) : getG s T = none := getG_eq_none (fun p hp e => by
  obtain ⟨t, ht, rfl⟩ := (h p).1 hp
  exact hn t ht (by have := congrArg Nm.s e; exact this))

theorem TnR.small {xs : List Tn} {T : List (Nm × ByteArray)} (h : TnR xs T) (hg : GoodT xs) : ∀ y ∈ T, y.2.size ≤ 64 := fun y hy => by
  obtain ⟨t, ht, rfl⟩ := (h y).1 hy
  have h9 := hg.1 t ht
  unfold tnB at h9
  simp only [Bool.and_eq_true, decide_eq_true_eq] at h9
  exact h9.2.1

def tnA : Tn := ⟨⟨#[97]⟩, ⟨#[107]⟩, 100, 10, by decide⟩

theorem shoA : sho ⟨#[97]⟩ = true := by unfold sho; rw [Lib.toList_data]; decide

theorem tnA_good : GoodT [tnA] := ⟨fun t ht => by rw [List.mem_singleton] at ht; rw [ht]; unfold tnB; rw [show sho tnA.n = true from shoA]; decide, List.pairwise_singleton _ _⟩

set_option maxHeartbeats 400000 in
theorem one_any (w : World) : Calls Tryz.prog 23 #[] w fun e w' => e = .returned (.slice (some ⟨w.heap.size, 0, none⟩) 1 1) ∧ SrcC 4 tnE w' (fun k => k < w'.heap.size) (.slice (some ⟨w.heap.size, 0, none⟩) 1 1) [tnA] ∧ Same w w' := by
  obtain ⟨W1, hW1⟩ : ∃ W, W = w.alloc (.cells #[.string ⟨#[97]⟩, .string ⟨#[107]⟩, .int .i64 100, .int .i64 10] 51) := ⟨_, rfl⟩
  have HB : Hid (Blk W1 w.heap.size #[.string ⟨#[97]⟩, .string ⟨#[107]⟩, .int .i64 100, .int .i64 10] 51) := hid (by rw [hW1]; exact Blk.new w _ _)
  have HK1 : Hid (Same w W1) := hid (by rw [hW1]; exact (Kept.refl _ w).alloc _)
  go_enter Tryz.func23, Tryz.ntmps23
  go_wp2_with fail
  rw [← hW1]
  go_ret
  refine ⟨rfl, ⟨some ⟨w.heap.size, 0, none⟩, 1, rfl, by simp, fun _ => ⟨w.heap.size, 0, rfl, HB.out.lt, fun j hj i hi => ?_⟩⟩, HK1.out⟩
  obtain rfl : j = 0 := by simp at hj; omega
  have hi4 : i = 0 ∨ i = 1 ∨ i = 2 ∨ i = 3 := by omega
  rcases hi4 with rfl | rfl | rfl | rfl
  · exact HB.out.cell 0
  · exact HB.out.cell 1
  · exact HB.out.cell 2
  · exact HB.out.cell 3

def tkA (n : Nat) : ByteArray := tx6 (tokL ⟨#[97]⟩ 9 n ⟨#[107]⟩)

theorem mayA (n : Nat) (h1 : 1 ≤ n) (h2 : n ≤ 1000000000) : May6 ⟨#[97]⟩ (9 : Nat) n := ⟨shoA, by omega, by omega⟩

theorem parA (n : Nat) (h1 : 1 ≤ n) (h2 : n ≤ 1000000000) : ParR (tkA n).data.toList ⟨#[97]⟩ 9 n (macL ⟨#[107]⟩ (bodL ⟨#[97]⟩ 9 n)) := by
  unfold tkA
  rw [tx6_data]
  exact tok_par _ _ _ _ (mayA n h1 h2)

theorem macL_sz (k : ByteArray) (b : List UInt8) : (tx6 (macL k b)).size = 64 := by rw [tx6_size, macL_length]

set_option maxRecDepth 100000 in
set_option maxHeartbeats 2000000 in
theorem awake_any (w : World) (hW : W6 w) : Calls Tryz.prog 9 #[] w fun e w' => e = .returned (.bool true) ∧ Same w w' := by
  have HW := hid hW
  have HO := one_any w
  clear hW
  go_enter Tryz.func9, Tryz.ntmps9
  go_wp2_with fail
  refine HO.mono ?_
  rintro e w1 ⟨rfl, hs1, hk1⟩
  have HN := new_any w1 _ _ _ _ hs1
  have HK1 := hid hk1
  clear hs1 hk1 HO
  go_wp2_with fail
  refine HN.mono ?_
  rintro e w2 hn2
  obtain ⟨p, mt, mr, T, rfl, hB2, hR2, hk2, hp2, _, hmr2⟩ : ∃ p mt mr T, e = .returned (.tuple #[.pointer (some ⟨p, 0, none⟩), .int .i64 0]) ∧ Bk w2 p mt mr T 0 [] ∧ TnR [tnA] T ∧ Same w1 w2 ∧ w1.heap.size ≤ p ∧ w1.heap.size ≤ mt ∧ w1.heap.size ≤ mr := by
    rcases hn2 with ⟨h8, _⟩ | ⟨_, hng, _⟩ | ⟨_, _, h9⟩
    · simp at h8
    · exact absurd tnA_good hng
    · exact h9
  have HK2 : Hid (Same w w2) := hid (Same.trans HK1.out hk2)
  have HPM : Hid (w.heap.size ≤ p ∧ w.heap.size ≤ mr) := hid ⟨by have := HK1.out.size; omega, by have := HK1.out.size; omega⟩
  have hap := hB2.ten.apart nameKey
  have HGA : Hid (getG tnA.nm T = some ⟨#[107]⟩) := hid (hR2.some hap (by simp))
  have HGB : Hid (getG ⟨⟨#[98]⟩, by decide⟩ T = none) := hid (hR2.none _ (fun y hy e => by rw [List.mem_singleton] at hy; rw [hy] at e; exact absurd e (by decide)))
  have HSM : Hid (∀ y ∈ T, y.2.size ≤ 64) := hid (hR2.small tnA_good)
  have HB2 := hid hB2
  have HSC : Hid (secG T ⟨#[97]⟩ = some ⟨#[107]⟩) := hid (by unfold secG; rw [dif_pos (show (ByteArray.mk #[97]).size ≤ maxLen by decide)]; exact HGA.out)
  have HI1 := issue_ok HW.out HK2.out HPM.out.1 HB2.out tnA.nm ⟨#[107]⟩ HGA.out shoA (by decide) 9 (by decide) (by decide)
  rw [show tnA.nm.s = ⟨#[97]⟩ from rfl, show tx6 (tokL ⟨#[97]⟩ 9 (0 + 1) ⟨#[107]⟩) = tkA 1 from rfl, Nat.zero_add] at HI1
  clear hB2 hR2 hk2 hp2 hmr2 hn2 hap HN
  obtain ⟨ta, hta⟩ : ∃ x, x = tkA 1 := ⟨_, rfl⟩
  obtain ⟨tb, htb⟩ : ∃ x, x = tkA 2 := ⟨_, rfl⟩
  rw [← hta] at HI1
  have HTA := hid hta
  have HTB := hid htb
  clear hta htb
  go_wp2_with fail
  refine HI1.mono ?_
  rintro e w3 ⟨rfl, hB3, hk3⟩
  have HB3 := hid hB3
  have HK3 : Hid (Same w w3) := hid (HK2.out.then hk3 (fun k hk e => by have := HPM.out; omega))
  have HI2 := issue_none HB3.out _ HGB.out 9
  clear hB3 hk3 HI1
  go_wp2_with fail
  refine HI2.mono ?_
  rintro e w4 ⟨rfl, hk4⟩
  have HB4 := hid (HB3.out.same hk4)
  have HK4 : Hid (Same w w4) := hid (Same.trans HK3.out hk4)
  have HI3 := issue_late HB4.out tnA.nm _ HGA.out (-1) (by decide)
  rw [show tnA.nm.s = ⟨#[97]⟩ from rfl] at HI3
  clear hk4 HI2
  go_wp2_with fail
  refine HI3.mono ?_
  rintro e w5 ⟨rfl, hk5⟩
  have HB5 := hid (HB4.out.same hk5)
  have HK5 : Hid (Same w w5) := hid (Same.trans HK4.out hk5)
  have HI4 := issue_ok HW.out HK5.out HPM.out.1 HB5.out tnA.nm ⟨#[107]⟩ HGA.out shoA (by decide) 9 (by decide) (by decide)
  rw [show tnA.nm.s = ⟨#[97]⟩ from rfl, show tx6 (tokL ⟨#[97]⟩ 9 (1 + 1) ⟨#[107]⟩) = tb from HTB.out.symm, show 1 + 1 = 2 from rfl] at HI4
  clear hk5 HI3
  go_wp2_with fail
  refine HI4.mono ?_
  rintro e w6 ⟨rfl, hB6, hk6⟩
  have HB6 := hid hB6
  have HK6 : Hid (Same w w6) := hid (HK5.out.then hk6 (fun k hk e => by have := HPM.out; omega))
  have HC1 := check_par (HW.out.same HK6.out) HB6.out HSM.out ta 9 (by rw [HTA.out]; exact parA 1 (by decide) (by decide))
  rw [HSC.out, show chkV ⟨#[97]⟩ 9 1 (macL ⟨#[107]⟩ (bodL ⟨#[97]⟩ 9 1)) (some ⟨#[107]⟩) (revG [] 1) 9 = .tuple #[clV ⟨#[97]⟩ 9 1, .int .i64 0] by rw [chkV_in rfl (by decide)]; rfl] at HC1
  unfold clV at HC1
  clear hB6 hk6 HI4
  go_wp2_with fail
  refine HC1.mono ?_
  rintro e w7 ⟨rfl, hk7⟩
  obtain ⟨W8, hW8⟩ : ∃ W, W = w7.alloc (.cells #[.string ⟨#[97]⟩, .int .i64 9, .int .i64 1] 23) := ⟨_, rfl⟩
  obtain ⟨g1, hg1⟩ : ∃ g, g = w7.heap.size := ⟨_, rfl⟩
  have hk78 : Same w6 W8 := by rw [hW8]; exact hk7.alloc _
  have HB8 := hid (HB6.out.same hk78)
  have HK8 : Hid (Same w W8) := hid (Same.trans HK6.out hk78)
  have HG1 : Hid (Blk W8 g1 #[.string ⟨#[97]⟩, .int .i64 9, .int .i64 1] 23) := hid (by rw [hW8, hg1]; exact Blk.new w7 _ _)
  have HM1 : Hid (mr < g1) := hid (by rw [hg1]; exact (HB6.out.same hk7).rev.lt)
  have HC2 := check_par (HW.out.same HK8.out) HB8.out HSM.out ta 10 (by rw [HTA.out]; exact parA 1 (by decide) (by decide))
  rw [HSC.out, chkV_old rfl (by decide)] at HC2
  unfold noC clV at HC2
  clear hk7 hk78 HC1
  go_upto_region 9 with fail
  rw [← hW8, ← hg1]
  clear hW8 hg1
  go_wp2_with fail
  refine HC2.mono ?_
  rintro e w9 ⟨rfl, hk9⟩
  obtain ⟨W10, hW10⟩ : ∃ W, W = w9.alloc (.cells #[.string ⟨#[]⟩, .int .i64 0, .int .i64 0] 23) := ⟨_, rfl⟩
  have hkA : Same W8 W10 := by rw [hW10]; exact hk9.alloc _
  have HB10 := hid (HB8.out.same hkA)
  have HK10 : Hid (Same w W10) := hid (Same.trans HK8.out hkA)
  have HG10 := hid (HG1.out.kept hkA (fun f => f))
  have HPA := parse_ok W10 (HW.out.same HK10.out) tb (by rw [HTB.out]; exact parA 2 (by decide) (by decide))
  unfold clV at HPA
  obtain ⟨mm, hmm⟩ : ∃ m, m = tx6 (macL ⟨#[107]⟩ (bodL ⟨#[97]⟩ 9 2)) := ⟨_, rfl⟩
  rw [← hmm] at HPA
  have hmz : mm.size = 64 := by rw [hmm]; exact macL_sz _ _
  clear hk9 hkA HC2 HG1 hmm
  go_upto_region 10 with fail
  rw [← hW10]
  clear hW10
  go_wp2_with fail
  refine HPA.mono ?_
  rintro e w11 ⟨rfl, hk11⟩
  obtain ⟨W12, hW12⟩ : ∃ W, W = w11.alloc (.cells #[.string ⟨#[97]⟩, .int .i64 9, .int .i64 2] 23) := ⟨_, rfl⟩
  obtain ⟨g2, hg2⟩ : ∃ g, g = w11.heap.size := ⟨_, rfl⟩
  have hkA : Same W10 W12 := by rw [hW12]; exact hk11.alloc _
  have HB12 := hid (HB10.out.same hkA)
  have HK12 : Hid (Same w W12) := hid (Same.trans HK10.out hkA)
  have HG12 := hid (HG10.out.kept hkA (fun f => f))
  have HH12 : Hid (Blk W12 g2 #[.string ⟨#[97]⟩, .int .i64 9, .int .i64 2] 23) := hid (by rw [hW12, hg2]; exact Blk.new w11 _ _)
  have HM2 : Hid (mr < g2) := hid (by rw [hg2]; exact (HB10.out.same hk11).rev.lt)
  have HRV := revoke_ok HB12.out ⟨1, by decide⟩ (by decide) (by decide)
  clear hk11 hkA HPA HG10
  go_upto_region 11 with fail
  rw [← hW12, ← hg2]
  clear hW12 hg2
  go_wp2_with fail
  refine HRV.mono ?_
  rintro e w13 ⟨rfl, hB13, hk13⟩
  have HB13 := hid hB13
  have HK13 : Hid (Same w w13) := hid (HK12.out.then hk13 (fun k hk e => by have := HPM.out; omega))
  have HG13 := hid (HG12.out.kept hk13 (fun e => by have := HM1.out; omega))
  have HH13 := hid (HH12.out.kept hk13 (fun e => by have := HM2.out; omega))
  have HC3 := check_par (HW.out.same HK13.out) HB13.out HSM.out ta 9 (by rw [HTA.out]; exact parA 1 (by decide) (by decide))
  rw [HSC.out, chkV_in rfl (by decide), show (if revG (putG kI ⟨1, by decide⟩ () []) 1 = true then noC 163 else Value.tuple #[clV ⟨#[97]⟩ (9 : Nat) (1 : Nat), .int .i64 0]) = noC 163 from rfl] at HC3
  unfold noC clV at HC3
  clear hB13 hk13 HRV
  go_wp2_with fail
  refine HC3.mono ?_
  rintro e w14 ⟨rfl, hk14⟩
  obtain ⟨W15, hW15⟩ : ∃ W, W = w14.alloc (.cells #[.string ⟨#[]⟩, .int .i64 0, .int .i64 0] 23) := ⟨_, rfl⟩
  have hkA : Same w13 W15 := by rw [hW15]; exact hk14.alloc _
  have HK15 : Hid (Same w W15) := hid (Same.trans HK13.out hkA)
  obtain ⟨a0, a1, a2, _, _, _⟩ := (HG13.out.kept hkA (fun f => f)).c3
  obtain ⟨d0, d1, d2, _, _, _⟩ := (HH13.out.kept hkA (fun f => f)).c3
  clear hk14 hkA HC3
  go_upto_region 14 with fail
  rw [← hW15]
  clear hW15
  go_wp2_with fail
  go_ret
  exact ⟨rfl, HK15.out⟩

end Go.Proofs.YtfhfnkhiomahfaaGreatDoor
