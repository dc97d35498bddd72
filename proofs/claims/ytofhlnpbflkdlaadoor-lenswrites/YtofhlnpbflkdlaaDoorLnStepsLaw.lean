/-
  The law LensSteps.
-/
import Derived.Test.YtofhlnpbflkdlaaDoorLnAw
import Derived.Test.YtofhlnpbflkdlaaDoorHArgs
namespace Go.Proofs.YtofhlnpbflkdlaaDoor
open Go.RowKit

theorem unp_at_less (l : List Nat) (h15 : ∀ x ∈ l, x ≤ 15) (hn : l.length ≤ 316) : unpM (packM l) ((l.length : Int) - 1) = .error (if l.length = 0 then 1 else 41) := by
  by_cases h : l.length = 0
  · rw [if_pos h, unp_far _ _ (by omega)]
  · rw [if_neg h, unp_less l h15 hn (by omega)]

theorem unp_at_more (l : List Nat) (h15 : ∀ x ∈ l, x ≤ 15) (hn : l.length ≤ 316) : unpM (packM l) ((l.length : Int) + 1) = .error (if l.length = 316 then 1 else 41) := by
  by_cases h : l.length = 316
  · rw [if_pos h, unp_far _ _ (by omega)]
  · rw [if_neg h, unp_more l h15 (by omega)]

/-- Numbers of a list that may be, from 0 on. -/
theorem nat_of_ok {zs : List Int} (hok : lensOk zs = true) : (zs.map Int.toNat).map natV = zs.map intV ∧ ∀ x ∈ zs.map Int.toNat, x ≤ 15 := by
  have hb := (lensOk_iff zs).1 hok
  constructor
  · rw [List.map_map]
    refine List.map_congr_left (fun z hz => ?_)
    simp only [Function.comp, natV, intV]
    rw [Int.toNat_of_nonneg (hb z hz).1]
  · intro x hx
    obtain ⟨z, hz, rfl⟩ := List.mem_map.1 hx
    have := hb z hz
    omega

theorem int_of_ok {zs : List Int} (hok : lensOk zs = true) : (zs.map Int.toNat).map (fun (n : Nat) => (n : Int)) = zs := by
  have hb := (lensOk_iff zs).1 hok
  rw [List.map_map]
  conv => rhs; rw [← List.map_id zs]
  refine List.map_congr_left (fun z hz => ?_)
  simp only [Function.comp, id]
  rw [Int.toNat_of_nonneg (hb z hz).1]

set_option maxRecDepth 100000 in
set_option maxHeartbeats 800000 in
theorem steps_good (W : World) (a : Option Addr) (L cap : Nat) (zs : List Int) (ns : List Nat) (cl cm : Nat) (hs : SrcE intV W (fun k => k < W.heap.size) (.slice a L cap) zs) (hl : zs.length = L) (h316 : L ≤ 316) (hok : lensOk zs = true) (hns : ns = zs.map Int.toNat) (hT : Tab W)
    (hcl : cl = if L = 0 then 1 else 41) (hcm : cm = if L = 316 then 1 else 41) :
    Calls Tryd.prog 7 #[.slice a L cap] W fun e w' => e = .returned (.bool true) ∧ Same W w' := by
  have hn15 := (nat_of_ok hok).2
  rw [← hns] at hn15
  have hnl : ns.length = L := by rw [hns, List.length_map, hl]
  have HC1 := lpack_any W _ _ zs hs (by omega)
  rw [packA_good (by omega) hok, ← hns] at HC1
  have HU1 : Hid (unpM (packM ns) (L : Int) = .ok ns) := hid (by rw [← hnl]; exact unp_same ns hn15 (by omega))
  obtain ⟨lm, hlm⟩ : ∃ x : Int, (L : Int) - 1 = x := ⟨_, rfl⟩
  obtain ⟨lp, hlp⟩ : ∃ x : Int, (L : Int) + 1 = x := ⟨_, rfl⟩
  have HU2 : Hid (unpM (packM ns) lm = .error cl) := hid (by rw [hcl, ← hlm, ← hnl]; exact unp_at_less ns hn15 (by omega))
  have HU3 : Hid (unpM (packM ns) lp = .error cm) := hid (by rw [hcm, ← hlp, ← hnl]; exact unp_at_more ns hn15 (by omega))
  have hw3 : IntKind.i64.wrap lm = lm := by rw [IntKind.wrap_i64]; omega
  have hw4 : IntKind.i64.wrap lp = lp := by rw [IntKind.wrap_i64]; omega
  have hpl : (packM ns).length ≤ L := by have := packM_len ns; omega
  have HS : Hid (SrcE intV W (fun k => k < W.heap.size) (.slice a L cap) zs) := hs
  have HT : Hid (Tab W) := hT
  have HI : Hid (ns.map natV = zs.map intV) := hid (by rw [hns]; exact (nat_of_ok hok).1)
  have HZL : Hid (zs.length ≤ 10000000) := hid (by omega)
  have b1 : decide ((1048576 : Int) < (L : Int)) = false := by simp; omega
  have HCL : Hid (cl = if L = 0 then 1 else 41) := hcl
  have HCM : Hid (cm = if L = 316 then 1 else 41) := hcm
  clear hs hok hns hT hn15 hnl hl hcl hcm
  go_enter Tryd.func7, Tryd.ntmps7
  go_wp2_with fail
  refine HC1.mono ?_
  rintro e w1 ⟨v1, rfl, hr1, hk1⟩
  have HR1 : Hid (StRow W.heap.size w1 v1 (packM ns)) := hr1
  have HK1 : Hid (Same W w1) := hk1
  obtain ⟨a1, cap1, hv1, _⟩ := hr1.shape
  subst hv1
  obtain ⟨P, hP⟩ : ∃ P, P = (packM ns).length := ⟨_, rfl⟩
  rw [← hP] at HR1 hpl ⊢
  have HPL : Hid ((packM ns).length ≤ 10000000) := hid (by omega)
  clear hr1 hk1 HC1 hP
  have HC2 := lunpack_any w1 _ _ (packM ns) (L : Int) (SrcC.ofRow stC_ok HR1.out) HPL.out
  rw [HU1.out] at HC2
  go_wp2_with fail
  refine HC2.mono ?_
  rintro e w2 ⟨v2, rfl, hn2⟩
  have HR2 : Hid (NRow w1.heap.size w2 v2 ns) := hn2.row
  have HK2 : Hid (Same w1 w2) := hn2.same
  have HR1b : Hid (StRow W.heap.size w2 (.slice a1 P cap1) (packM ns)) := hid (RowC.kept HR1.out HK2.out (fun _ _ f => f))
  clear hn2 HC2 HR1
  have HC3 := lunpack_any w2 _ _ (packM ns) lm (SrcC.ofRow stC_ok HR1b.out) HPL.out
  rw [HU2.out] at HC3
  go_wp2_with fail
  refine HC3.mono ?_
  rintro e w3 ⟨rfl, hk3⟩
  have HK3 : Hid (Same w2 w3) := hk3
  have HR1c : Hid (StRow W.heap.size w3 (.slice a1 P cap1) (packM ns)) := hid (RowC.kept HR1b.out HK3.out (fun _ _ f => f))
  clear hk3 HC3 HR1b
  have HC4 := lunpack_any w3 _ _ (packM ns) lp (SrcC.ofRow stC_ok HR1c.out) HPL.out
  rw [HU3.out] at HC4
  go_wp2_with fail
  refine HC4.mono ?_
  rintro e w4 ⟨rfl, hk4⟩
  have HK4 : Hid (Same W w4) := hid (Same.trans (Same.trans HK1.out HK2.out) (Same.trans HK3.out hk4))
  have HR2b : Hid (NRow w1.heap.size w4 v2 ns) := hid (HR2.out.same (Same.trans HK3.out hk4))
  have HAW := lawake_any w4 (HT.out.kept HK4.out (fun f => f))
  clear hk4 HC4 HR1c HR2
  have HLAST : Hid (∀ w5, Same w4 w5 → Calls Tryd.prog 17 #[v2, .slice a L cap] w5 fun e w' => e = .returned (.bool true) ∧ Same w5 w') := hid (fun w5 hk => by
    have h := keepInts_any v2 (.slice a L cap) _ _ zs zs w5 ((SrcE.ofRow (HR2b.out.same hk)).recode (enc' := intV) HI.out.symm) (HS.out.same (Same.trans HK4.out hk)) HZL.out HZL.out
    have hd : decide (zs = zs) = true := by simp
    rw [hd] at h
    exact h)
  have hLP : decide ((P : Int) ≤ (L : Int)) = true := by simp; omega
  by_cases h0 : L = 0
  · subst h0
    have e1 : cl = 1 := by rw [HCL.out]; rfl
    have e2 : cm = 41 := by rw [HCM.out]; rfl
    subst e1 e2
    clear HCL HCM
    go_wp2_with fail
    refine HAW.mono ?_
    rintro e w5 ⟨rfl, hk5⟩
    have HL2 := HLAST.out w5 hk5
    have HK5 : Hid (Same W w5) := hid (Same.trans HK4.out hk5)
    clear hk5 HAW HLAST
    go_wp2_with fail
    refine HL2.mono ?_
    rintro e w6 ⟨rfl, hk6⟩
    have HK6 : Hid (Same W w6) := hid (Same.trans HK5.out hk6)
    clear hk6 HL2
    go_wp2_with fail
    go_ret
    exact ⟨rfl, HK6.out⟩
  · have e1 : cl = 41 := by rw [HCL.out, if_neg h0]
    have hL0 : ((L : Int) == 0) = false := by simp; omega
    have hL1 : 0 < L := by omega
    by_cases h3 : L = 316
    · have e2 : cm = 1 := by rw [HCM.out, if_pos h3]
      have hL3 : ((L : Int) == 316) = true := by simp; omega
      subst e1 e2
      clear HCL HCM h0 h3
      go_wp2_with fail
      refine HAW.mono ?_
      rintro e w5 ⟨rfl, hk5⟩
      have HL2 := HLAST.out w5 hk5
      have HK5 : Hid (Same W w5) := hid (Same.trans HK4.out hk5)
      clear hk5 HAW HLAST
      go_wp2_with fail
      refine HL2.mono ?_
      rintro e w6 ⟨rfl, hk6⟩
      have HK6 : Hid (Same W w6) := hid (Same.trans HK5.out hk6)
      clear hk6 HL2
      go_wp2_with fail
      go_ret
      exact ⟨rfl, HK6.out⟩
    · have e2 : cm = 41 := by rw [HCM.out, if_neg h3]
      subst e1 e2
      clear HCL HCM h0 h3
      go_wp2_with fail
      refine HAW.mono ?_
      rintro e w5 ⟨rfl, hk5⟩
      have HL2 := HLAST.out w5 hk5
      have HK5 : Hid (Same W w5) := hid (Same.trans HK4.out hk5)
      clear hk5 HAW HLAST
      go_wp2_with fail
      refine HL2.mono ?_
      rintro e w6 ⟨rfl, hk6⟩
      have HK6 : Hid (Same W w6) := hid (Same.trans HK5.out hk6)
      clear hk6 HL2
      go_wp2_with fail
      go_ret
      exact ⟨rfl, HK6.out⟩

set_option maxRecDepth 100000 in
set_option maxHeartbeats 4000000 in
theorem lensSteps_all (a : Option Addr) (len cap : Nat) (zs : List Int) (W : World) (h : IsRow .i64 W a len cap zs) (hT : Tab W) :
    Calls Tryd.prog 7 #[.slice a len cap] W fun e w' => e = .returned (.bool true) ∧ Below W.heap.size W w' := by
  obtain ⟨hs, hl⟩ := h.ints
  clear h
  suffices H : Calls Tryd.prog 7 #[.slice a len cap] W fun e w' => e = .returned (.bool true) ∧ Same W w' from H.mono (fun e w' h => ⟨h.1, h.2.bel⟩)
  have HAW := lawake_any W hT
  by_cases hlong : 1048576 < len
  · have b1 : decide ((1048576 : Int) < (len : Int)) = true := by simp; omega
    clear hlong hl hs
    go_enter Tryd.func7, Tryd.ntmps7
    go_wp2_with fail
    refine HAW.mono ?_
    rintro e w5 ⟨rfl, hk5⟩
    have HK5 : Hid (Same W w5) := hk5
    clear hk5 HAW
    go_wp2_with fail
    go_ret
    exact ⟨rfl, HK5.out⟩
  · by_cases hb : 316 < (zs.take len).length ∨ lensOk (zs.take len) = false
    · have HC1 := lpack_any W _ _ (zs.take len) hs (by omega)
      rw [packA_bad hb] at HC1
      have HT : Hid (Tab W) := hT
      have b1 : decide ((1048576 : Int) < (len : Int)) = false := by simp; omega
      clear hb hs hT hl HAW
      go_enter Tryd.func7, Tryd.ntmps7
      go_wp2_with fail
      refine HC1.mono ?_
      rintro e w1 ⟨rfl, hk1⟩
      have HK1 : Hid (Same W w1) := hk1
      have HAW := lawake_any w1 (HT.out.kept hk1 (fun f => f))
      clear hk1 HC1
      go_wp2_with fail
      refine HAW.mono ?_
      rintro e w5 ⟨rfl, hk5⟩
      have HK5 : Hid (Same W w5) := hid (Same.trans HK1.out hk5)
      clear hk5 HAW
      go_wp2_with fail
      go_ret
      exact ⟨rfl, HK5.out⟩
    · have hok : lensOk (zs.take len) = true := by
        cases hx : lensOk (zs.take len) with
        | true => rfl
        | false => exact absurd (.inr hx) hb
      exact steps_good W a len cap _ _ _ _ hs hl (by have h2 : ¬ 316 < (zs.take len).length := fun h => hb (.inl h); omega) hok rfl hT rfl rfl

end Go.Proofs.YtofhlnpbflkdlaaDoor
