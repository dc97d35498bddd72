/-
  The law LensPacks.
-/
import Derived.Test.YtofhlnpbflkdlaaDoorLnAw
import Derived.Test.YtofhlnpbflkdlaaDoorHArgs
namespace Go.Proofs.YtofhlnpbflkdlaaDoor
open Go.RowKit

/-- What the law writes over: the first answer's blocks. -/
abbrev Mid (lo hi : Nat) (k : Nat) : Prop := lo ≤ k ∧ k < hi

/-- A row's block, whole. -/
theorem RowC.blk {α : Type} {B t k : Nat} {enc : α → List Value} {w : World} {ao : Option Addr} {n cap : Nat} {xs : List α} (h : RowC B t k enc w (.slice ao n cap) xs) (hne : xs ≠ []) : ∃ g cur, ao = some ⟨g, 0, none⟩ ∧ B ≤ g ∧ g < w.heap.size ∧ Blk w g cur t ∧ n * k ≤ cur.size := by
  rcases h.2 with ⟨e, e0⟩ | ⟨g, c, cur, e, hB, hg, hnc, _, hcs, _⟩
  · exact absurd (List.eq_nil_of_length_eq_zero e0) hne
  · simp only [Value.slice.injEq] at e
    obtain ⟨rfl, rfl, rfl⟩ := e
    exact ⟨g, cur, rfl, hB, (Array.getElem?_eq_some_iff.1 hg).1, hg, by rw [hcs]; exact Nat.mul_le_mul_right _ hnc⟩

set_option maxRecDepth 100000 in
set_option maxHeartbeats 4000000 in
theorem packs_good (W : World) (a : Option Addr) (L cap : Nat) (zs : List Int) (ss : List (Int × Int)) (hs : SrcE intV W (fun k => k < W.heap.size) (.slice a L cap) zs) (hl : zs.length = L) (hlong : L ≤ 1048576) (hpa : packA zs = .ok ss) (hss : ss.length ≤ 1000) (hT : Tab W) :
    Calls Tryd.prog 3 #[.slice a L cap] W fun e w' => e = .returned (.bool true) ∧ Same W w' := by
  have HS : Hid (SrcE intV W (fun k => k < W.heap.size) (.slice a L cap) zs) := hs
  have HT : Hid (Tab W) := hT
  have HL : Hid (zs.length = L) := hl
  have HPA : Hid (packA zs = .ok ss) := hpa
  have HLE := lent_any W _ _ zs hs (by omega)
  rw [hl] at HLE
  have b1 : decide ((1048576 : Int) < (L : Int)) = false := by simp; omega
  have HZL : Hid (zs.length ≤ 10000000) := hid (by omega)
  have HSS : Hid (ss.length ≤ 10000000) := hid (by omega)
  clear hs hl hpa hT
  go_enter Tryd.func3, Tryd.ntmps3
  go_wp2_with fail
  refine HLE.mono ?_
  rintro e w1 ⟨g, rfl, hL1, hk1, hg1, hg2⟩
  have HLN : Hid (Lent w1 g zs) := hL1
  have HK1 : Hid (Same W w1) := hk1
  have hsr1 := hL1.src
  rw [HL.out] at hsr1
  have HP1 := lpack_any w1 _ _ zs hsr1 HZL.out
  rw [HPA.out] at HP1
  clear hL1 hk1 hsr1 HLE b1
  go_wp2_with fail
  refine HP1.mono ?_
  rintro e w2 ⟨v2, rfl, hr2, hk2⟩
  have HR2 : Hid (StRow w1.heap.size w2 v2 ss) := hr2
  have HK2 : Hid (Same w1 w2) := hk2
  have hKW2 := Same.trans HK1.out hk2
  have HP2 := pack_any w2 _ _ zs (HS.out.same hKW2) HZL.out
  rw [HPA.out] at HP2
  have HKW2 : Hid (Same W w2) := hKW2
  clear hr2 hk2 hKW2 HP1
  go_wp2_with fail
  refine HP2.mono ?_
  rintro e w3 ⟨v3, rfl, hr3, hk3⟩
  have HR3 : Hid (StRow w2.heap.size w3 v3 ss) := hr3
  have HK3 : Hid (Same w2 w3) := hk3
  have HSM := same_any v2 v3 _ _ ss ss w3 (SrcC.ofRow stC_ok (RowC.kept HR2.out hk3 (fun _ _ f => f))) (SrcC.ofRow stC_ok hr3) (by omega) (by omega)
  have hd : decide (ss = ss) = true := by simp
  rw [hd] at HSM
  clear hr3 hk3 hd HP2
  go_wp2_with fail
  refine HSM.mono ?_
  rintro e w4 ⟨rfl, hk4⟩
  have HK4 : Hid (Same w3 w4) := hk4
  have HR2b : Hid (StRow w1.heap.size w4 v2 ss) := hid (RowC.kept HR2.out (Same.trans HK3.out hk4) (fun _ _ f => f))
  obtain ⟨a2, c2, hv2, _⟩ := HR2b.out.shape
  subst hv2
  obtain ⟨P, hP⟩ : ∃ P, P = ss.length := ⟨_, rfl⟩
  have HLT : Hid (∀ k, (Value.slice a2 ss.length c2).ownBlock = some k → k < w2.heap.size) := hid (fun k e => HR2.out.lt e)
  rw [← hP] at HR2b HR2 HLT hss ⊢
  have HBK : Hid (P = 0 ∨ ∃ gs cur, a2 = some ⟨gs, 0, none⟩ ∧ Mid w1.heap.size w2.heap.size gs ∧ Blk w4 gs cur 31 ∧ P * 2 ≤ cur.size) := hid (by
    by_cases h0 : ss = []
    · exact .inl (by rw [hP, h0]; rfl)
    · obtain ⟨gs, cur, e, hB, _, hb, hn⟩ := RowC.blk HR2b.out h0
      exact .inr ⟨gs, cur, e, ⟨hB, HLT.out gs (by rw [e]; rfl)⟩, hb, hn⟩)
  clear hk4 HSM hP HR2b HR2
  go_wp2_with fail
  go_loopg [9] P (fun q zi wr => ∃ (i : Nat), P - i ≤ q ∧ i ≤ P ∧ zi = .int .i64 (i : Nat) ∧ Hid (P = 0 ∨ ∃ gs cur, a2 = some ⟨gs, 0, none⟩ ∧ Mid w1.heap.size w2.heap.size gs ∧ Blk wr gs cur 31 ∧ P * 2 ≤ cur.size) ∧ Hid (Kept (Mid w1.heap.size w2.heap.size) w4 wr))
  case atStart => exact ⟨0, by omega, by omega, rfl, HBK, Kept.refl _ _⟩
  case round =>
    clear HBK
    obtain ⟨i, hq, hi, rfl, HBK, HK⟩ := hrel
    by_cases hlt : i < P
    · rcases HBK.out with h0 | ⟨gs, cur, rfl, hmid, hb, hsz⟩
      · omega
      · have c1 := hb.cell (i * 2)
        have c2' := hb.cell (i * 2 + 1)
        rw [Array.getElem?_eq_getElem (by omega)] at c1 c2'
        have f1 := hb.frozen (i * 2)
        have f2 := hb.frozen (i * 2 + 1)
        generalize cur[i * 2] = x1 at c1
        generalize cur[i * 2 + 1] = x2 at c2'
        have HB2 : Hid (Blk ((wr.setCell ⟨gs, i * 2, none⟩ (.int .i64 77)).setCell ⟨gs, i * 2 + 1, none⟩ (.int .i64 0)) gs ((cur.setIfInBounds (i * 2) (.int .i64 77)).setIfInBounds (i * 2 + 1) (.int .i64 0)) 31) := hid ((hb.set _ _).set _ _)
        have HKN : Hid (Kept (Mid w1.heap.size w2.heap.size) w4 ((wr.setCell ⟨gs, i * 2, none⟩ (.int .i64 77)).setCell ⟨gs, i * 2 + 1, none⟩ (.int .i64 0))) := hid ((HK.out.setCell _ _ (.inl hmid)).setCell _ _ (.inl hmid))
        have HMID : Hid (Mid w1.heap.size w2.heap.size gs) := hmid
        have HSZ : Hid (P * 2 ≤ cur.size) := hsz
        clear hb hmid hsz HBK
        go_wp2_with fail
        go_roundg (gk - 1)
        case measure => omega
        case rel => exact ⟨i + 1, by omega, by omega, by go_num, hid (.inr ⟨gs, _, rfl, HMID.out, HB2.out, by simpa using HSZ.out⟩), HKN⟩
    · have hiP : i = P := by omega
      subst hiP
      clear hq hlt HBK
      have hKA : Kept (Mid w1.heap.size w2.heap.size) w2 wr := Kept.trans (Same.trans HK3.out HK4.out) HK.out (fun _ _ f => f.elim) (fun _ _ h => h)
      have HLN5 : Hid (Lent wr g zs) := hid ((HLN.out.kept HK2.out (fun f => f)).kept hKA (fun h => by have := h.1; omega))
      have HKW : Hid (Same W wr) := hid (Same.then HKW2.out hKA (fun k hk e => by have h1 := e.1; have h2 := HK1.out.size; omega))
      have HR3b : Hid (StRow w2.heap.size wr v3 ss) := hid (RowC.kept (RowC.kept HR3.out HK4.out (fun _ _ f => f)) HK.out (fun k e h => by have h1 := HR3.out.ge e; have h2 := h.2; omega))
      have hsr5 := HLN5.out.src
      rw [HL.out] at hsr5
      have HP3 := lpack_any wr _ _ zs hsr5 HZL.out
      rw [HPA.out] at HP3
      clear hKA hsr5
      go_wp2_with fail
      refine HP3.mono ?_
      rintro e w6 ⟨v6, rfl, hr6, hk6⟩
      have HR6 : Hid (StRow wr.heap.size w6 v6 ss) := hr6
      have HK6 : Hid (Same wr w6) := hk6
      have HAW := lawake_any w6 (HT.out.kept (Same.trans HKW.out hk6) (fun f => f))
      clear hr6 hk6 HP3
      go_wp2_with fail
      refine HAW.mono ?_
      rintro e w7 ⟨rfl, hk7⟩
      have HK7 : Hid (Same wr w7) := hid (Same.trans HK6.out hk7)
      have HSM := same_any v6 v3 _ _ ss ss w7 (SrcC.ofRow stC_ok (RowC.kept HR6.out hk7 (fun _ _ f => f))) (SrcC.ofRow stC_ok (RowC.kept HR3b.out HK7.out (fun _ _ f => f))) HSS.out HSS.out
      have hd : decide (ss = ss) = true := by simp
      rw [hd] at HSM
      clear hk7 HAW hd
      go_wp2_with fail
      refine HSM.mono ?_
      rintro e w8 ⟨rfl, hk8⟩
      have HK8 : Hid (Same wr w8) := hid (Same.trans HK7.out hk8)
      have HKE := kept_any w8 g _ _ zs (HLN5.out.kept HK8.out (fun f => f)) (HS.out.same (Same.trans HKW.out HK8.out)) HZL.out
      rw [HL.out] at HKE
      clear hk8 HSM
      go_wp2_with fail
      refine HKE.mono ?_
      rintro e w9 ⟨rfl, hk9⟩
      have HK9 : Hid (Same W w9) := hid (Same.trans HKW.out (Same.trans HK8.out hk9))
      clear hk9 HKE
      go_wp2_with fail
      go_ret
      exact ⟨rfl, HK9.out⟩

set_option maxRecDepth 100000 in
set_option maxHeartbeats 4000000 in
theorem packs_bad (W : World) (a : Option Addr) (L cap : Nat) (zs : List Int) (er : Nat) (hs : SrcE intV W (fun k => k < W.heap.size) (.slice a L cap) zs) (hl : zs.length = L) (hlong : L ≤ 1048576) (hpa : packA zs = .error er) (hT : Tab W) :
    Calls Tryd.prog 3 #[.slice a L cap] W fun e w' => e = .returned (.bool true) ∧ Same W w' := by
  have HS : Hid (SrcE intV W (fun k => k < W.heap.size) (.slice a L cap) zs) := hs
  have HT : Hid (Tab W) := hT
  have HL : Hid (zs.length = L) := hl
  have HPA : Hid (packA zs = .error er) := hpa
  have HLE := lent_any W _ _ zs hs (by omega)
  rw [hl] at HLE
  have b1 : decide ((1048576 : Int) < (L : Int)) = false := by simp; omega
  have HZL : Hid (zs.length ≤ 10000000) := hid (by omega)
  have HNI : Hid (∀ w : World, StSrc w (fun _ => False) (.slice none 0 0) []) := hid (fun w => ⟨none, 0, rfl, Nat.le_refl _, fun h => absurd rfl h⟩)
  clear hs hl hpa hT
  go_enter Tryd.func3, Tryd.ntmps3
  go_wp2_with fail
  refine HLE.mono ?_
  rintro e w1 ⟨g, rfl, hL1, hk1, hg1, hg2⟩
  have HLN : Hid (Lent w1 g zs) := hL1
  have HK1 : Hid (Same W w1) := hk1
  have hsr1 := hL1.src
  rw [HL.out] at hsr1
  have HP1 := lpack_any w1 _ _ zs hsr1 HZL.out
  rw [HPA.out] at HP1
  clear hL1 hk1 hsr1 HLE b1
  go_wp2_with fail
  refine HP1.mono ?_
  rintro e w2 ⟨rfl, hk2⟩
  have HK2 : Hid (Same W w2) := hid (Same.trans HK1.out hk2)
  have HLN2 : Hid (Lent w2 g zs) := hid (HLN.out.kept hk2 (fun f => f))
  have HP2 := pack_any w2 _ _ zs (HS.out.same HK2.out) HZL.out
  rw [HPA.out] at HP2
  clear hk2 HP1 HLN
  go_wp2_with fail
  refine HP2.mono ?_
  rintro e w3 ⟨rfl, hk3⟩
  have HK3 : Hid (Same w2 w3) := hk3
  have HSM : Calls Tryd.prog 13 #[.slice none 0 0, .slice none 0 0] w3 fun e w' => e = .returned (.bool true) ∧ Same w3 w' := same_any _ _ _ _ [] [] w3 (HNI.out w3) (HNI.out w3) (by decide) (by decide)
  clear hk3 HP2
  go_wp2_with fail
  refine HSM.mono ?_
  rintro e w4 ⟨rfl, hk4⟩
  have HK4 : Hid (Same W w4) := hid (Same.trans HK2.out (Same.trans HK3.out hk4))
  have HLN4 : Hid (Lent w4 g zs) := hid (HLN2.out.kept (Same.trans HK3.out hk4) (fun f => f))
  have hsr4 := HLN4.out.src
  rw [HL.out] at hsr4
  have HP3 := lpack_any w4 _ _ zs hsr4 HZL.out
  rw [HPA.out] at HP3
  clear hk4 HSM hsr4
  go_wp2_with fail
  refine wp_loop_rounds 1 ?_
  rw [rounds_succ]
  go_wp2_with fail
  refine HP3.mono ?_
  rintro e w6 ⟨rfl, hk6⟩
  have HK6 : Hid (Same w4 w6) := hk6
  have HAW := lawake_any w6 (HT.out.kept (Same.trans HK4.out hk6) (fun f => f))
  clear hk6 HP3
  go_wp2_with fail
  refine HAW.mono ?_
  rintro e w7 ⟨rfl, hk7⟩
  have HK7 : Hid (Same w4 w7) := hid (Same.trans HK6.out hk7)
  have HSM : Calls Tryd.prog 13 #[.slice none 0 0, .slice none 0 0] w7 fun e w' => e = .returned (.bool true) ∧ Same w7 w' := same_any _ _ _ _ [] [] w7 (HNI.out w7) (HNI.out w7) (by decide) (by decide)
  clear hk7 HAW
  go_wp2_with fail
  refine HSM.mono ?_
  rintro e w8 ⟨rfl, hk8⟩
  have HK8 : Hid (Same w4 w8) := hid (Same.trans HK7.out hk8)
  have HKE := kept_any w8 g _ _ zs (HLN4.out.kept HK8.out (fun f => f)) (HS.out.same (Same.trans HK4.out HK8.out)) HZL.out
  rw [HL.out] at HKE
  clear hk8 HSM
  go_wp2_with fail
  refine HKE.mono ?_
  rintro e w9 ⟨rfl, hk9⟩
  have HK9 : Hid (Same W w9) := hid (Same.trans HK4.out (Same.trans HK8.out hk9))
  clear hk9 HKE
  go_wp2_with fail
  go_ret
  exact ⟨rfl, HK9.out⟩

set_option maxRecDepth 100000 in
set_option maxHeartbeats 4000000 in
theorem lensPacks_all (a : Option Addr) (len cap : Nat) (zs : List Int) (W : World) (h : IsRow .i64 W a len cap zs) (hT : Tab W) :
    Calls Tryd.prog 3 #[.slice a len cap] W fun e w' => e = .returned (.bool true) ∧ Below W.heap.size W w' := by
  obtain ⟨hs, hl⟩ := h.ints
  clear h
  suffices H : Calls Tryd.prog 3 #[.slice a len cap] W fun e w' => e = .returned (.bool true) ∧ Same W w' from H.mono (fun e w' h => ⟨h.1, h.2.bel⟩)
  have HAW := lawake_any W hT
  by_cases hlong : 1048576 < len
  · have b1 : decide ((1048576 : Int) < (len : Int)) = true := by simp; omega
    clear hlong hl hs
    go_enter Tryd.func3, Tryd.ntmps3
    go_wp2_with fail
    refine HAW.mono ?_
    rintro e w5 ⟨rfl, hk5⟩
    have HK5 : Hid (Same W w5) := hk5
    clear hk5 HAW
    go_wp2_with fail
    go_ret
    exact ⟨rfl, HK5.out⟩
  · cases hpa : packA (zs.take len) with
    | error er => exact packs_bad W a len cap _ er hs hl (by omega) hpa hT
    | ok ss =>
      refine packs_good W a len cap _ ss hs hl (by omega) hpa ?_ hT
      unfold packA at hpa
      split at hpa
      · rename_i h1
        simp only [Except.ok.injEq] at hpa
        subst hpa
        have := packM_len ((zs.take len).map Int.toNat)
        have := h1.1
        rw [List.length_map] at *
        omega
      · cases hpa

end Go.Proofs.YtofhlnpbflkdlaaDoor
