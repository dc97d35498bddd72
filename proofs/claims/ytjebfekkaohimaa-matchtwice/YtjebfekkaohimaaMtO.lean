/-
  The law MatchRound.
-/
import Derived.Test.YtjebfekkaohimaaMtK
import Derived.Test.YtjebfekkaohimaaMtL
import Derived.Test.YtjebfekkaohimaaRSam
import Derived.Test.YtjebfekkaohimaaArgs
namespace Go.Proofs.Ytjebfekkaohimaa
open Go.RowKit

theorem Same.bel {w w' : World} (h : Same w w') : Below w.heap.size w w' := Kept.below h (Nat.le_refl _) (fun _ _ f => f)

theorem findM_small {data : List Nat} (h : data.length ≤ 16384) : findM data = tokM data data.length 0 := by unfold findM; rw [if_neg (by omega)]

theorem plain_snoc (data : List Nat) (i : Nat) (h : i < data.length) : plainM (data.take (i + 1)) = plainM (data.take i) + (if data.getD i 0 < 144 then 8 else 9) := by
  rw [take_more data i h, plainM_append]
  unfold plainM
  simp

set_option maxRecDepth 100000 in
set_option maxHeartbeats 4000000 in
theorem mround_good (W : World) (I : Nat → Prop) (ao : Option Addr) (L cap : Nat) (data : List Nat) (hs : Src W I (.slice ao L cap) data) (hL : data.length = L) (hb : ∀ b ∈ data, b < 256) (h16 : L ≤ 16384) :
    Calls Try.prog 6 #[.slice ao L cap] W fun e w' => e = .returned (.bool true) ∧ Same W w' := by
  have HF := mfind_any W _ I data hs hb (by omega)
  rw [findM_small (by omega)] at HF
  obtain ⟨ts, hts⟩ : ∃ ts, ts = tokM data data.length 0 := ⟨_, rfl⟩
  rw [← hts] at HF
  have hm1 : measT L ts 0 = .ok data.length := by rw [hts]; exact measT_data (by omega) (by omega) (by omega)
  have hm2 : measT 16384 ts 0 = .ok data.length := by rw [hts]; exact measT_data (by omega) (by omega) (by omega)
  have HE : Hid (expT ts [] = data) := hid (by rw [hts]; have := expT_data (data := data) (f := data.length) (i := 0) (by omega) (by omega); simpa using this)
  have HC : Hid (costT ts ≤ plainM data) := hid (by rw [hts]; have := costT_data (data := data) (f := data.length) (i := 0) (by omega); simpa using this)
  have HLN : Hid (ts.length ≤ L) := hid (by rw [hts]; have := tokM_many (data := data) (f := data.length) (i := 0); omega)
  have HM3 : Hid (0 < L → measT (L - 1) ts 0 = .error 2) := hid (fun h => by rw [hts]; exact measT_less (by omega) (by omega) (by omega) (by omega))
  have HM1 := hid hm1
  have HM2 := hid hm2
  have HS := hid hs
  have HL := hid hL
  have HB := hid hb
  have b1 : decide ((16384 : Int) < (L : Int)) = false := by simp; omega
  clear hs hL hb hts hm1 hm2
  go_enter Try.func6, Try.ntmps6
  go_wp2_with fail
  refine HF.mono ?_
  rintro e w1 ⟨v1, rfl, hr1, hk1⟩
  have HR1 := hid hr1
  have HK1 := hid hk1
  obtain ⟨a1, c1, hv1, _⟩ := hr1.shape
  have H2 := mexp_any w1 v1 _ ts L (SrcC.ofRow tkC_ok hr1) (by have := HLN.out; omega) h16
  rw [HM1.out] at H2
  obtain ⟨n1, hn1⟩ : ∃ n, n = ts.length := ⟨_, rfl⟩
  have HN1 := hid hn1
  rw [← hn1] at hv1
  subst hv1
  clear hr1 hk1 HF b1 hn1
  go_wp2_with fail
  refine H2.mono ?_
  rintro e w2 ⟨v2, rfl, hf2⟩
  rw [HE.out] at hf2
  have HF2 := hid hf2
  have HK2 := hid (Same.trans HK1.out hf2.kept)
  have hr2 := RowC.kept HR1.out hf2.kept (fun _ _ f => f)
  have HR2 := hid hr2
  have H3 := mcost_any w2 _ _ ts (SrcC.ofRow tkC_ok hr2) (by have := HLN.out; omega)
  rw [HM2.out] at H3
  simp only [cosA, errT] at H3
  obtain ⟨cst, hcst⟩ : ∃ c, c = costT ts := ⟨_, rfl⟩
  rw [← hcst] at H3
  have HCST := hid hcst
  clear hcst
  obtain ⟨a2, c2, hv2, _⟩ := hf2.row.shape
  obtain ⟨n2, hn2⟩ : ∃ n, n = data.length := ⟨_, rfl⟩
  rw [← hn2] at hv2
  subst hv2
  clear hf2 hr2 H2 HR1 HK1 hn2
  go_wp2_with fail
  refine H3.mono ?_
  rintro e w3 ⟨rfl, hk3⟩
  have HK3 := hid (Same.trans HK2.out hk3)
  have HR3 := hid (RowC.kept HR2.out hk3 (fun _ _ f => f))
  have HB3 := hid (HF2.out.row.kept hk3 (fun _ _ f => f))
  clear hk3 H3 HR2 HK2 HF2
  go_wp2_with fail
  go_loopg [8, 9] L (fun q zp zi wr => ∃ (i p : Nat), L - i ≤ q ∧ i ≤ L ∧ zi = .int .i64 (i : Nat) ∧ zp = .int .i64 (p : Nat) ∧ p ≤ 9 * i ∧ Hid (p = plainM (data.take i)) ∧ wr = w3)
  case atStart => exact ⟨0, 0, by omega, by omega, rfl, rfl, by omega, hid rfl, rfl⟩
  case round =>
    obtain ⟨i, p, hq, hi, rfl, rfl, hp, HP, rfl⟩ := hrel
    by_cases hlt : i < L
    · obtain ⟨b, o, e1, hcell⟩ : ∃ b o, ao = some ⟨b, o, none⟩ ∧ wr.cell? ⟨b, o + i, none⟩ = some (.int .u8 (data.getD i 0 : Nat)) := by
        obtain ⟨ao', cap', e9, e2⟩ := HS.out.kept HK3.out (fun _ _ _ f => f)
        injection e9 with e3 _ _
        subst e3
        have hid : i < data.length := by rw [HL.out]; exact hlt
        obtain ⟨b, o, e4, _, e5⟩ := e2 (by intro e; rw [e] at hid; simp at hid)
        exact ⟨b, o, e4, by rw [e5 i hid]; simp [List.getD, hid]⟩
      subst e1
      have HPN := hid (plain_snoc data i (by rw [HL.out]; exact hlt))
      obtain ⟨x, hx⟩ : ∃ x, x = data.getD i 0 := ⟨_, rfl⟩
      rw [← hx] at hcell HPN
      clear hx
      by_cases hx : x < 144
      · have g : decide (144 ≤ (x : Int)) = false := by simp; omega
        have HPN2 := hid (HPN.out.trans (by rw [if_pos hx, ← HP.out]))
        clear hx HPN
        go_wp2_with fail
        go_roundg (gk - 1)
        case measure => omega
        case rel => exact ⟨i + 1, p + 8, by omega, by omega, by go_num, by go_num, by omega, hid HPN2.out.symm, rfl⟩
      · have g : decide (144 ≤ (x : Int)) = true := by simp; omega
        have HPN2 := hid (HPN.out.trans (by rw [if_neg hx, ← HP.out]))
        clear hx HPN
        go_wp2_with fail
        go_roundg (gk - 1)
        case measure => omega
        case rel => exact ⟨i + 1, p + 9, by omega, by omega, by go_num, by go_num, by omega, hid HPN2.out.symm, rfl⟩
    · have hiL : i = L := by omega
      have hpp : p = plainM data := by have h := HP.out; rwa [hiL, ← HL.out, List.take_length] at h
      have HCP : Hid (cst ≤ p) := hid (by rw [hpp, HCST.out]; exact HC.out)
      by_cases h0 : L = 0
      · have g0 : decide ((0 : Int) < (L : Int)) = false := by simp; omega
        have g0' : decide (0 < L) = false := by simp; omega
        have hiL2 : ¬ i < L := by omega
        have HKZ := HK3
        have HBZ := HB3
        have HRZ := HR3
        obtain ⟨wZ, hwZ⟩ : ∃ w, w = wr := ⟨_, rfl⟩
        subst hwZ
        clear hiL hpp hq h0
        have H5 := mawake_any wZ
        go_wp2_with fail
        refine H5.mono ?_
        rintro e w5 ⟨rfl, hk5⟩
        have HK5 := hid (Same.trans HKZ.out hk5)
        have H6 := bsame_any (.slice a2 n2 c2) (.slice ao L cap) _ _ data data w5 (Src.ofRow (HBZ.out.kept hk5 (fun _ _ f => f))) (HS.out.kept HK5.out (fun _ _ _ f => f)) (by have := HL.out; omega) (by have := HL.out; omega)
        rw [show decide (data = data) = true by simp] at H6
        have HR5 := hid (RowC.kept HRZ.out hk5 (fun _ _ f => f))
        clear hk5 H5
        go_wp2_with fail
        refine H6.mono ?_
        rintro e w6 ⟨rfl, m6, hw6⟩
        have hk6 : Same w5 w6 := by rw [hw6]; exact (Kept.refl _ w5).drewN m6
        have HK6 := hid (Same.trans HK5.out hk6)
        have H7 := mcheck_any w6 _ _ ts (SrcC.ofRow tkC_ok (RowC.kept HR5.out hk6 (fun _ _ f => f))) (by have := HLN.out; omega)
        rw [HM2.out] at H7
        simp only [errT] at H7
        clear hk6 hw6 H6
        go_wp2_with fail
        refine H7.mono ?_
        rintro e w7 ⟨rfl, hk7⟩
        have HK7 := hid (Same.trans HK6.out hk7)
        have hcp : cst ≤ p := by have := HCP.out; omega
        have hnl : n1 ≤ L := by have := HLN.out; have := HN1.out; omega
        clear hk7 H7
        go_wp2_with fail
        go_ret
        exact ⟨rfl, HK7.out⟩
      · have H4 := mexp_any wr (.slice a1 n1 c1) _ ts (L - 1) (SrcC.ofRow tkC_ok HR3.out) (by have := HLN.out; omega) (by omega)
        rw [HM3.out (by omega)] at H4
        obtain ⟨L1, hL1⟩ : ∃ x, x = L - 1 := ⟨_, rfl⟩
        rw [← hL1] at H4
        have hsub : (L : Int) - 1 = (L1 : Int) := by omega
        have g0 : decide ((0 : Int) < (L : Int)) = true := by simp; omega
        have g0' : decide (0 < L) = true := by simp; omega
        have hiL2 : ¬ i < L := by omega
        clear hiL hpp hq h0 hL1
        go_wp2_with fail
        refine H4.mono ?_
        rintro e wZ ⟨rfl, hkZ⟩
        have HKZ := hid (Same.trans HK3.out hkZ)
        have HBZ := hid (HB3.out.kept hkZ (fun _ _ f => f))
        have HRZ := hid (RowC.kept HR3.out hkZ (fun _ _ f => f))
        clear hkZ H4
        have H5 := mawake_any wZ
        go_wp2_with fail
        refine H5.mono ?_
        rintro e w5 ⟨rfl, hk5⟩
        have HK5 := hid (Same.trans HKZ.out hk5)
        have H6 := bsame_any (.slice a2 n2 c2) (.slice ao L cap) _ _ data data w5 (Src.ofRow (HBZ.out.kept hk5 (fun _ _ f => f))) (HS.out.kept HK5.out (fun _ _ _ f => f)) (by have := HL.out; omega) (by have := HL.out; omega)
        rw [show decide (data = data) = true by simp] at H6
        have HR5 := hid (RowC.kept HRZ.out hk5 (fun _ _ f => f))
        clear hk5 H5
        go_wp2_with fail
        refine H6.mono ?_
        rintro e w6 ⟨rfl, m6, hw6⟩
        have hk6 : Same w5 w6 := by rw [hw6]; exact (Kept.refl _ w5).drewN m6
        have HK6 := hid (Same.trans HK5.out hk6)
        have H7 := mcheck_any w6 _ _ ts (SrcC.ofRow tkC_ok (RowC.kept HR5.out hk6 (fun _ _ f => f))) (by have := HLN.out; omega)
        rw [HM2.out] at H7
        simp only [errT] at H7
        clear hk6 hw6 H6
        go_wp2_with fail
        refine H7.mono ?_
        rintro e w7 ⟨rfl, hk7⟩
        have HK7 := hid (Same.trans HK6.out hk7)
        have hcp : cst ≤ p := by have := HCP.out; omega
        have hnl : n1 ≤ L := by have := HLN.out; have := HN1.out; omega
        clear hk7 H7
        go_wp2_with fail
        go_ret
        exact ⟨rfl, HK7.out⟩

set_option maxHeartbeats 1000000 in
theorem mround_long (W : World) (ao : Option Addr) (L cap : Nat) (h : 16384 < L) :
    Calls Try.prog 6 #[.slice ao L cap] W fun e w' => e = .returned (.bool true) ∧ Same W w' := by
  have b1 : decide ((16384 : Int) < (L : Int)) = true := by simp; omega
  have HA := mawake_any W
  clear h
  go_enter Try.func6, Try.ntmps6
  go_wp2_with fail
  refine HA.mono ?_
  rintro e w1 ⟨rfl, hk⟩
  have HK := hid hk
  clear hk HA
  go_wp2_with fail
  go_ret
  exact ⟨rfl, HK.out⟩

theorem matchRound_all (a0 : Option Addr) (len0 cap0 : Nat) (z0 : List Int) (w : World) (w0 : IsRow .u8 w a0 len0 cap0 z0) :
    Calls Try.prog 6 #[.slice a0 len0 cap0] w fun e w' => e = .returned (.bool true) ∧ Below w.heap.size w w' := by
  suffices H : Calls Try.prog 6 #[.slice a0 len0 cap0] w fun e w' => e = .returned (.bool true) ∧ Same w w' from H.mono (fun e w' h => ⟨h.1, h.2.bel⟩)
  by_cases h : 16384 < len0
  · exact mround_long w a0 len0 cap0 h
  · obtain ⟨bs, hs, hl, hb⟩ := w0.src
    exact mround_good w _ a0 len0 cap0 bs hs hl hb (by omega)

end Go.Proofs.Ytjebfekkaohimaa
