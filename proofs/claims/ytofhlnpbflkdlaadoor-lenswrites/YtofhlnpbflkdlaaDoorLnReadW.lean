/-
  The reference's Read, walked.
-/
import Derived.Test.YtofhlnpbflkdlaaDoorLnRead
namespace Go.Proofs.YtofhlnpbflkdlaaDoor
open Go.RowKit

set_option maxRecDepth 100000 in
set_option maxHeartbeats 8000000 in
theorem rread_any (w : World) (v : Value) (I : Nat → Prop) (ls : List Nat) (a : Nat) (hs : Src w I v ls) (hIb : ∀ k, I k → k < w.heap.size) (hb : ∀ b ∈ ls, b < 2) (ha : a ≤ ls.length) (hlen : ls.length ≤ 100000000) :
    Calls Tryd.prog 25 #[v, .int .i64 (a : Nat)] w fun r w' => ReadA w w' r (readF ls a) := by
  obtain ⟨ao, cap, rfl, hsa⟩ := id hs
  clear hsa
  have HS : Hid (Src w I (.slice ao ls.length cap) ls) := hs
  have HI : Hid (∀ k, I k → k < w.heap.size) := hIb
  have HB : Hid (∀ b ∈ ls, b < 2) := hb
  obtain ⟨M, hM⟩ : ∃ M, M = ls.length := ⟨_, rfl⟩
  rw [← hM] at HS ha hlen ⊢
  have HM : Hid (M = ls.length) := hM
  clear hs hIb hb hM
  have HOR : Hid (SrcE natV (w.alloc (.cells #[.int .i64 16, .int .i64 17, .int .i64 18, .int .i64 0, .int .i64 8, .int .i64 7, .int .i64 9, .int .i64 6, .int .i64 10, .int .i64 5, .int .i64 11, .int .i64 4, .int .i64 12, .int .i64 3, .int .i64 13, .int .i64 2, .int .i64 14, .int .i64 1, .int .i64 15] 3)) (fun k => k = w.heap.size) (.slice (some ⟨w.heap.size, 0, none⟩) 19 19) ord) := src_nats w ord 19 rfl
  have HK0 : Hid (Same w (w.alloc (.cells #[.int .i64 16, .int .i64 17, .int .i64 18, .int .i64 0, .int .i64 8, .int .i64 7, .int .i64 9, .int .i64 6, .int .i64 10, .int .i64 5, .int .i64 11, .int .i64 4, .int .i64 12, .int .i64 3, .int .i64 13, .int .i64 2, .int .i64 14, .int .i64 1, .int .i64 15] 3))) := (Kept.refl _ w).alloc _
  have hz0 : (w.alloc (.cells #[.int .i64 16, .int .i64 17, .int .i64 18, .int .i64 0, .int .i64 8, .int .i64 7, .int .i64 9, .int .i64 6, .int .i64 10, .int .i64 5, .int .i64 11, .int .i64 4, .int .i64 12, .int .i64 3, .int .i64 13, .int .i64 2, .int .i64 14, .int .i64 1, .int .i64 15] 3)).heap.size = w.heap.size + 1 := by simp
  go_enter Tryd.func25, Tryd.ntmps25
  go_upto_region 2 with fail
  generalize w.alloc (.cells #[.int .i64 16, .int .i64 17, .int .i64 18, .int .i64 0, .int .i64 8, .int .i64 7, .int .i64 9, .int .i64 6, .int .i64 10, .int .i64 5, .int .i64 11, .int .i64 4, .int .i64 12, .int .i64 3, .int .i64 13, .int .i64 2, .int .i64 14, .int .i64 1, .int .i64 15] 3) = wO at *
  have HHA : Hid (HdB (wO.alloc (.cells #[.slice ao M cap, .int .i64 (a : Nat), .int .i64 0] 76)) wO.heap.size (.slice ao M cap) a 0) := Blk.new wO _ _
  have HKA : Hid (Same w (wO.alloc (.cells #[.slice ao M cap, .int .i64 (a : Nat), .int .i64 0] 76))) := hid (HK0.out.alloc _)
  have HOA : Hid (SrcE natV (wO.alloc (.cells #[.slice ao M cap, .int .i64 (a : Nat), .int .i64 0] 76)) (fun k => k = w.heap.size) (.slice (some ⟨w.heap.size, 0, none⟩) 19 19) ord) := hid (HOR.out.same ((Kept.refl _ wO).alloc _))
  go_upto_region 3 with fail
  generalize wO.alloc (.cells #[.slice ao M cap, .int .i64 (a : Nat), .int .i64 0] 76) = wA at *
  obtain ⟨h, hh⟩ : ∃ h, h = w.heap.size + 1 := ⟨_, rfl⟩
  rw [hz0, ← hh] at HHA
  rw [← hh]
  have HHW : Hid (h = w.heap.size + 1) := hh
  clear hh hz0 HOR HK0
  have HTK := fun (wx : World) (c e n : Nat) (hk : Same w wx) (hH : HdB wx h (.slice ao M cap) c e) (hn : n ≤ 32) (hc : c ≤ M) => htake_any wx h (.slice ao M cap) I ls c e n hH (HS.out.kept hk (fun _ _ _ f => f)) HB.out hn (by have := HM.out; omega) (by have := HM.out; omega)
  have HT : Hid (∀ (wx : World) (c e n : Nat), Same w wx → HdB wx h (.slice ao M cap) c e → n ≤ 32 → c ≤ M → Calls Tryd.prog 48 #[.pointer (some ⟨h, 0, none⟩), .int .i64 (n : Nat)] wx fun r w' => r = .returned (.int .i64 ((hTake ls c e n).1 : Nat)) ∧ HdB w' h (.slice ao M cap) (hTake ls c e n).2.1 (hTake ls c e n).2.2 ∧ Kept (· = h) wx w') := HTK
  clear HTK
  -- three numbers
  have T1 := HT.out wA a 0 5 HKA.out HHA.out (by decide) ha
  obtain ⟨x1, c1, e1, ht1⟩ : ∃ x c e, hTake ls a 0 5 = (x, c, e) := ⟨_, _, _, rfl⟩
  have hc1 : c1 ≤ M := by have := hTake_le ls a 0 5 (by have := HM.out; omega); rw [ht1] at this; have := HM.out; simp only at *; omega
  rw [ht1] at T1
  have HT1 : Hid (hTake ls a 0 5 = (x1, c1, e1)) := ht1
  have hx1 : x1 ≤ 31 := by
    have := numAt_lt ls HB.out a 5
    unfold hTake at ht1
    split at ht1
    · simp at ht1; omega
    · split at ht1
      · simp at ht1; omega
      · simp at ht1; omega
  clear ht1
  go_wp2_with fail
  refine T1.mono ?_
  rintro r w1 ⟨rfl, hh1, hk1⟩
  have HK1 : Hid (Same w w1) := hid (Same.then HKA.out hk1 (fun x hx e => by have := HHW.out; omega))
  have HH1 : Hid (HdB w1 h (.slice ao M cap) c1 e1) := hh1
  have HO1 : Hid (SrcE natV w1 (fun k => k = w.heap.size) (.slice (some ⟨w.heap.size, 0, none⟩) 19 19) ord) := hid (HOA.out.kept hk1 (fun k hk _ e => by have := HHW.out; omega))
  clear hh1 hk1 T1 HHA HOA HKA
  have T2 := HT.out w1 c1 e1 5 HK1.out HH1.out (by decide) hc1
  obtain ⟨x2, c2, e2, ht2⟩ : ∃ x c e, hTake ls c1 e1 5 = (x, c, e) := ⟨_, _, _, rfl⟩
  have hc2 : c2 ≤ M := by have := hTake_le ls c1 e1 5 (by have := HM.out; omega); rw [ht2] at this; have := HM.out; simp only at *; omega
  rw [ht2] at T2
  have HT2 : Hid (hTake ls c1 e1 5 = (x2, c2, e2)) := ht2
  have hx2 : x2 ≤ 31 := by
    have := numAt_lt ls HB.out c1 5
    unfold hTake at ht2
    split at ht2
    · simp at ht2; omega
    · split at ht2
      · simp at ht2; omega
      · simp at ht2; omega
  clear ht2
  go_wp2_with fail
  refine T2.mono ?_
  rintro r w2 ⟨rfl, hh2, hk2⟩
  have HK2 : Hid (Same w w2) := hid (Same.then HK1.out hk2 (fun x hx e => by have := HHW.out; omega))
  have HH2 : Hid (HdB w2 h (.slice ao M cap) c2 e2) := hh2
  have HO2 : Hid (SrcE natV w2 (fun k => k = w.heap.size) (.slice (some ⟨w.heap.size, 0, none⟩) 19 19) ord) := hid (HO1.out.kept hk2 (fun k hk _ e => by have := HHW.out; omega))
  clear hh2 hk2 T2 HH1 HO1
  have T3 := HT.out w2 c2 e2 4 HK2.out HH2.out (by decide) hc2
  obtain ⟨x3, c3, e3, ht3⟩ : ∃ x c e, hTake ls c2 e2 4 = (x, c, e) := ⟨_, _, _, rfl⟩
  have hc3 : c3 ≤ M := by have := hTake_le ls c2 e2 4 (by have := HM.out; omega); rw [ht3] at this; have := HM.out; simp only at *; omega
  rw [ht3] at T3
  have HT3 : Hid (hTake ls c2 e2 4 = (x3, c3, e3)) := ht3
  have hx3 : x3 ≤ 15 := by
    have := numAt_lt ls HB.out c2 4
    unfold hTake at ht3
    split at ht3
    · simp at ht3; omega
    · split at ht3
      · simp at ht3; omega
      · simp at ht3; omega
  clear ht3
  go_wp2_with fail
  refine T3.mono ?_
  rintro r w3 ⟨rfl, hh3, hk3⟩
  have HK3 : Hid (Same w w3) := hid (Same.then HK2.out hk3 (fun x hx e => by have := HHW.out; omega))
  have HH3 : Hid (HdB w3 h (.slice ao M cap) c3 e3) := hh3
  have HO3 : Hid (SrcE natV w3 (fun k => k = w.heap.size) (.slice (some ⟨w.heap.size, 0, none⟩) 19 19) ord) := hid (HO2.out.kept hk3 (fun k hk _ e => by have := HHW.out; omega))
  clear hh3 hk3 T3 HH2 HO2
  have k2 := HH3.out.cell 2
  simp at k2
  by_cases hfit : M < a + 14
  · have he3 : e3 = 10 := hTake_three ls a (by have := HM.out; omega) (x1, c1, e1) (x2, c2, e2) (x3, c3, e3) HT1.out HT2.out HT3.out
    have HE : Hid (readF ls a = .error 10) := hid (by unfold readF; rw [if_pos (by have := HM.out; omega)])
    subst he3
    clear hfit
    go_wp2_with fail
    go_quiet (fail)
    go_wp2_with fail
    refine bodyPost_ret (v := .tuple #[.slice none 0 0, .slice none 0 0, .int .i64 0, .int .i64 10]) (by simp [results, Tryd.results25, go_sem]) rfl ?_
    rw [HE.out]
    exact ⟨rfl, HK3.out.drewN _⟩
  · have hV : x1 = numAt ls a 5 ∧ x2 = numAt ls (a + 5) 5 ∧ x3 = numAt ls (a + 10) 4 ∧ c3 = a + 14 ∧ e3 = 0 := by
      have h1 := HT1.out
      rw [hTake_ok (by have := HM.out; omega)] at h1
      simp only [Prod.mk.injEq] at h1
      obtain ⟨rfl, rfl, rfl⟩ := h1
      have h2 := HT2.out
      rw [hTake_ok (by have := HM.out; omega)] at h2
      simp only [Prod.mk.injEq] at h2
      obtain ⟨rfl, rfl, rfl⟩ := h2
      have h3 := HT3.out
      rw [hTake_ok (by have := HM.out; omega)] at h3
      simp only [Prod.mk.injEq] at h3
      obtain ⟨rfl, rfl, rfl⟩ := h3
      exact ⟨rfl, rfl, rfl, rfl, rfl⟩
    have HV : Hid (x1 = numAt ls a 5 ∧ x2 = numAt ls (a + 5) 5 ∧ x3 = numAt ls (a + 10) 4) := hid ⟨hV.1, hV.2.1, hV.2.2.1⟩
    have hc3' : c3 = a + 14 := hV.2.2.2.1
    have he3 : e3 = 0 := hV.2.2.2.2
    have HC3 : Hid (c3 = a + 14) := hc3'
    subst he3
    clear hV hc3' HT1 HT2 HT3
    obtain ⟨lit, hlit⟩ : ∃ lit, lit = x1 + 257 := ⟨_, rfl⟩
    obtain ⟨dist, hdist⟩ : ∃ dist, dist = x2 + 1 := ⟨_, rfl⟩
    obtain ⟨many, hmany⟩ : ∃ many, many = x3 + 4 := ⟨_, rfl⟩
    have hlI : (x1 : Int) + 257 = (lit : Int) := by omega
    have hdI : (x2 : Int) + 1 = (dist : Int) := by omega
    have hmI : (x3 : Int) + 4 = (many : Int) := by omega
    have HRF : Hid (readF ls a = (if 286 < lit ∨ 30 < dist then .error 40
      else if M < a + 14 + 3 * many then .error 10
      else if chkN (codesF ls (a + 14) many) ≠ 0 then .error (chkN (codesF ls (a + 14) many))
      else match bodyF (codesF ls (a + 14) many) ls (lit + dist) (lit + dist) [] (a + 14 + 3 * many) with
        | .error e => .error e
        | .ok (l, c) => .ok ((l.take lit, l.drop lit), c - a))) := hid (by
      unfold readF
      rw [if_neg (by have := HM.out; omega), hlit, hdist, hmany, HV.out.1, HV.out.2.1, HV.out.2.2, HM.out]
      rfl)
    have hml : many ≤ 19 ∧ lit ≤ 288 ∧ dist ≤ 32 := by omega
    clear hlit hdist hmany HV hfit
    by_cases hbig : 286 < lit
    · have HE : Hid (readF ls a = .error 40) := hid (by rw [HRF.out, if_pos (.inl hbig)])
      have b1 : decide ((286 : Int) < (lit : Int)) = true := by simp; omega
      go_wp2_with fail
      refine bodyPost_ret (v := .tuple #[.slice none 0 0, .slice none 0 0, .int .i64 0, .int .i64 40]) (by simp [results, Tryd.results25, go_sem]) rfl ?_
      rw [HE.out]
      exact ⟨rfl, HK3.out⟩
    · have b1 : decide ((286 : Int) < (lit : Int)) = false := by simp; omega
      by_cases hbig2 : 30 < dist
      · have HE : Hid (readF ls a = .error 40) := hid (by rw [HRF.out, if_pos (.inr hbig2)])
        have b2 : decide ((30 : Int) < (dist : Int)) = true := by simp; omega
        go_wp2_with fail
        refine bodyPost_ret (v := .tuple #[.slice none 0 0, .slice none 0 0, .int .i64 0, .int .i64 40]) (by simp [results, Tryd.results25, go_sem]) rfl ?_
        rw [HE.out]
        exact ⟨rfl, HK3.out⟩
      · have b2 : decide ((30 : Int) < (dist : Int)) = false := by simp; omega
        have HRG : Hid (readF ls a = (if M < a + 14 + 3 * many then .error 10
          else if chkN (codesF ls (a + 14) many) ≠ 0 then .error (chkN (codesF ls (a + 14) many))
          else match bodyF (codesF ls (a + 14) many) ls (lit + dist) (lit + dist) [] (a + 14 + 3 * many) with
            | .error e => .error e
            | .ok (l, c) => .ok ((l.take lit, l.drop lit), c - a))) := hid (by rw [HRF.out, if_neg (by omega)])
        have hld : lit ≤ 286 ∧ dist ≤ 30 := by omega
        have hhz : h < w3.heap.size := HH3.out.lt
        clear hbig hbig2 HRF
        go_wp2_with (at_make; refine wpList_make_e _ natV 0 w3.heap.size 22 3 8 Tryd.underlying22 Tryd.infoN rfl (by decide) rfl _ _ rfl _ _ _ _ 19 rfl rfl rfl rfl (by omega) (Nat.le_refl _) ?_; intro w4 hr4 hg4 hs4; have HR4 : Hid (NRow w3.heap.size w4 (.slice (some ⟨w3.heap.size, 0, none⟩) 19 19) (codesF ls (a + 14) 0)) := hr4; have HKN : Hid (Same w3 w4) := hid ((Kept.refl _ w3).grown hg4 (by simp)); clear hr4 hg4)
        obtain ⟨gC, hgC⟩ : ∃ g, g = w3.heap.size := ⟨_, rfl⟩
        rw [← hgC] at HR4 hhz ⊢
        have hwh : w.heap.size < gC := by have := HHW.out; omega
        have hwh1 : w.heap.size < h := by have := HHW.out; omega
        have HK4 : Hid (Same w w4) := hid (Same.trans HK3.out HKN.out)
        have HH4 : Hid (HdB w4 h (.slice ao M cap) c3 0) := hid (HH3.out.kept HKN.out (fun f => f))
        have HO4 : Hid (SrcE natV w4 (fun k => k = w.heap.size) (.slice (some ⟨w.heap.size, 0, none⟩) 19 19) ord) := hid (HO3.out.same HKN.out)
        clear hgC HH3 HO3 k2 b1 b2 HKN
        go_loopg [14] many (fun q zi wr => ∃ (i c e : Nat) (xs : List Nat), many - i ≤ q ∧ i ≤ many ∧ zi = .int .i64 (i : Nat) ∧ c ≤ M ∧ Hid (HdB wr h (.slice ao M cap) c e) ∧ Hid (NRow gC wr (.slice (some ⟨gC, 0, none⟩) 19 19) xs) ∧ Hid (CodesAt ls a i c e xs) ∧ Hid (SrcE natV wr (fun k => k = w.heap.size) (.slice (some ⟨w.heap.size, 0, none⟩) 19 19) ord) ∧ Hid (Same w wr))
        case atStart => exact ⟨0, c3, 0, _, by omega, by omega, rfl, hc3, HH4, HR4, hid (.inl ⟨by have := HM.out; have := HC3.out; omega, by have := HC3.out; omega, rfl, rfl⟩), HO4, HK4⟩
        case round =>
          clear HR4 HH4 HO4 HK4
          obtain ⟨i, c, e, xs, hq, hi, rfl, hcM, HHr, HRr, HCr, HOr, HKr⟩ := hrel
          by_cases hlt : i < many
          · obtain ⟨b, o, cap2, e2, _, _, cO⟩ := HOr.out.get i (by show i < 19; omega)
            simp only [Value.slice.injEq, Option.some.injEq, Addr.mk.injEq, and_true] at e2
            obtain ⟨⟨rfl, rfl⟩, hxe, rfl⟩ := e2
            clear hxe
            obtain ⟨oi, hoi⟩ : ∃ oi, oi = ord.getD i 0 := ⟨_, rfl⟩
            have hio : i < ord.length := by show i < 19; omega
            have hog : ord[i] = oi := by rw [hoi]; simp [List.getD, hio]
            rw [hog, Nat.zero_add] at cO
            unfold natV at cO
            have ho18 : oi ≤ 18 := by rw [hoi]; exact ord_le i (by omega)
            obtain ⟨x, c', e', ht⟩ : ∃ x c' e', hTake ls c e 3 = (x, c', e') := ⟨_, _, _, rfl⟩
            have HTX0 := HT.out wr.drew c e 3 HKr.out.drew HHr.out (by decide) hcM
            rw [ht] at HTX0
            have HTX : Hid (Calls Tryd.prog 48 #[.pointer (some ⟨h, 0, none⟩), .int .i64 3] wr.drew fun r w' => r = .returned (.int .i64 (x : Nat)) ∧ HdB w' h (.slice ao M cap) c' e' ∧ Kept (· = h) wr.drew w') := HTX0
            have hc'M : c' ≤ M := by have := hTake_le ls c e 3 (by have := HM.out; omega); rw [ht] at this; have := HM.out; simp only at *; omega
            have HCN : Hid (CodesAt ls a (i + 1) c' e' (xs.set oi x)) := hid (by rw [hoi]; exact HCr.out.next ht)
            have hxl : xs.length = 19 := HRr.out.len
            have HXL : Hid (xs.length = 19) := hxl
            have hgh : ¬ gC = h := by omega
            have hwh2 : ¬ w.heap.size = h := by omega
            have hi19 : i < 19 := by omega
            have ho19 : oi < 19 := by omega
            have HCO : Hid (wr.cell? ⟨w.heap.size, i, none⟩ = some (.int .i64 (oi : Nat))) := cO
            clear hoi hio hog HTX0 ht hxl ho18
            go_wp2_with fail
            go_region_with (go_at_call 48; refine HTX.out.mono ?_; rintro r w5 ⟨rfl, hh5, hk5⟩; have cO5 : w5.cell? ⟨w.heap.size, i, none⟩ = some (.int .i64 (oi : Nat)) := hk5.cell HCO.out hwh2; have hr5 : NRow gC w5 (.slice (some ⟨gC, 0, none⟩) 19 19) xs := RowE.kept (show NRow gC wr.drew (.slice (some ⟨gC, 0, none⟩) 19 19) xs from HRr.out) hk5 (fun k hk e => by simp [Value.ownBlock] at hk; omega); have cS5 := hr5.cell oi (by have := HXL.out; omega); have fS5 := hr5.frozen oi; have HR5 : Hid (NRow gC w5 (.slice (some ⟨gC, 0, none⟩) 19 19) xs) := hr5; have HH5 : Hid (HdB w5 h (.slice ao M cap) c' e') := hh5; have HK5 : Hid (Kept (· = h) wr w5) := hid ⟨hk5.os, hk5.tape, hk5.output, hk5.size, hk5.block⟩; clear hr5 hh5 hk5)
            all_goals
              have HR6 : Hid (NRow gC (w5.setCell ⟨gC, oi, none⟩ (.int .i64 (x : Nat))) (.slice (some ⟨gC, 0, none⟩) 19 19) (xs.set oi x)) := hid (HR5.out.lay oi x)
              have HKS : Hid (Kept (· = gC) w5 (w5.setCell ⟨gC, oi, none⟩ (.int .i64 (x : Nat)))) := hid ((Kept.refl (· = gC) w5).setCell ⟨gC, oi, none⟩ _ (.inl rfl))
              have HH6 : Hid (HdB (w5.setCell ⟨gC, oi, none⟩ (.int .i64 (x : Nat))) h (.slice ao M cap) c' e') := hid (HH5.out.kept HKS.out (fun e => by omega))
              have HO6 : Hid (SrcE natV (w5.setCell ⟨gC, oi, none⟩ (.int .i64 (x : Nat))) (fun k => k = w.heap.size) (.slice (some ⟨w.heap.size, 0, none⟩) 19 19) ord) := hid ((HOr.out.kept HK5.out (fun k hk _ e => by omega)).kept HKS.out (fun k hk _ e => by omega))
              have HK6 : Hid (Same w (w5.setCell ⟨gC, oi, none⟩ (.int .i64 (x : Nat)))) := hid (Same.then (Same.then HKr.out HK5.out (fun x hx e => by omega)) HKS.out (fun x hx e => by omega))
              go_wp2_with fail
              go_roundg (gk - 1)
              case measure => omega
              case rel => exact ⟨i + 1, c', e', _, by omega, by omega, by go_num, hc'M, HH6, HR6, HCN, HO6, HK6⟩
          · have him : i = many := by omega
            subst him
            have hlt' : decide (i < i) = false := by simp
            clear hlt hq hi
            obtain ⟨w4, hw4⟩ : ∃ w4, w4 = wr := ⟨_, rfl⟩
            subst hw4
            have k2 := HHr.out.cell 2
            simp at k2
            by_cases hfit : M < a + 14 + 3 * i
            · have he : e = 10 := by
                rcases HCr.out with ⟨h1, _⟩ | ⟨_, h2⟩
                · have := HM.out; omega
                · exact h2
              have HE : Hid (readF ls a = .error 10) := hid (by rw [HRG.out, if_pos hfit])
              subst he
              clear hfit
              go_wp2_with fail
              go_quiet (fail)
              go_wp2_with fail
              refine bodyPost_ret (v := .tuple #[.slice none 0 0, .slice none 0 0, .int .i64 0, .int .i64 10]) (by simp [results, Tryd.results25, go_sem]) rfl ?_
              rw [HE.out]
              exact ⟨rfl, HKr.out.drewN _⟩
            · have hce : c = a + 14 + 3 * i ∧ e = 0 ∧ xs = codesF ls (a + 14) i := by
                rcases HCr.out with ⟨_, h1, h2, h3⟩ | ⟨h1, _⟩
                · exact ⟨h1, h2, h3⟩
                · have := HM.out; omega
              obtain ⟨hce1, rfl, hxs⟩ := hce
              have HCC : Hid (c = a + 14 + 3 * i) := hce1
              have h7 := codesF_le ls HB.out (a + 14) i
              have hl19 := codesF_length ls (a + 14) i
              rw [← hxs] at h7 hl19
              have HRH : Hid (readF ls a = (if chkN xs ≠ 0 then .error (chkN xs)
                else match bodyF xs ls (lit + dist) (lit + dist) [] c with
                  | .error e => .error e
                  | .ok (l, c) => .ok ((l.take lit, l.drop lit), c - a))) := hid (by rw [HRG.out, if_neg hfit, hxs, hce1])
              have HCK := rcheck_any w4 (.slice (some ⟨gC, 0, none⟩) 19 19) _ (xs.map (fun (n : Nat) => (n : Int))) (SrcE.recode (enc' := intV) (SrcE.ofRow HRr.out) (by rw [List.map_map]; rfl)) (by rw [List.length_map]; omega)
              rw [chk_codes xs hl19 h7] at HCK
              have HX7 : Hid ((∀ x ∈ xs, x ≤ 7) ∧ xs.length = 19) := ⟨h7, hl19⟩
              obtain ⟨ck, hck⟩ : ∃ ck, ck = chkN xs := ⟨_, rfl⟩
              rw [← hck] at HCK
              have hac : a ≤ c := by omega
              clear hce1 hxs hfit HRG HCr h7 hl19
              go_wp2_with fail
              clear hlt'
              refine HCK.mono ?_
              rintro r w5 ⟨rfl, hw5⟩
              subst hw5
              clear HCK
              by_cases hck0 : ck = 0
              · have hm : measure xs ≤ 32768 := by
                  rw [hck] at hck0
                  unfold chkN at hck0
                  split at hck0
                  · omega
                  · omega
                have HRO := rows_any w5 (.slice (some ⟨gC, 0, none⟩) 19 19) _ xs (SrcE.ofRow HRr.out) (by have := HX7.out.2; omega) (fun n hn => by have := HX7.out.1 n hn; omega) hm
                rw [HX7.out.2] at HRO
                have HRI : Hid (readF ls a = (match bodyF xs ls (lit + dist) (lit + dist) [] c with
                  | .error e => .error e
                  | .ok (l, c) => .ok ((l.take lit, l.drop lit), c - a))) := hid (by rw [HRH.out, if_neg (by omega)])
                rw [hck0]
                clear hck hck0 hm HRH
                go_wp2_with fail
                refine HRO.mono ?_
                rintro r w6 ⟨go, rs, rfl, hrw⟩
                have hgoR : w5.heap.size ≤ go := hrw.row.ge rfl
                have hh5 : h < w5.heap.size := HHr.out.lt
                have HRW6 : Hid (RW w w6 go 19 xs (fun s => key xs s ≠ 0) rs) := hid (hrw.down HKr.out)
                have HOFF : Hid (RowsOff w go xs rs h) := hid ⟨by omega, by omega, fun s hs hp e => by have := (hrw.have' s hs hp).2 h e; omega⟩
                have HH6 : Hid (HdB w6 h (.slice ao M cap) c 0) := hid (HHr.out.kept hrw.same (fun f => f))
                have HK6 : Hid (Same w w6) := hid (Same.trans HKr.out hrw.same)
                clear hrw HRO HRr HOr HHr HKr k2
                obtain ⟨N, hN⟩ : ∃ N, N = lit + dist := ⟨_, rfl⟩
                have hNI : (lit : Int) + (dist : Int) = (N : Int) := by omega
                have hN316 : N ≤ 316 := by omega
                have hlN : lit < N ∨ dist = 0 := by omega
                rw [← hN] at HRI
                have HN : Hid (N = lit + dist) := hN
                clear hN
                go_wp2_with fail
                go_loopg [17] N (fun q zl wr => ∃ (f c2 : Nat) (l : List Nat), f ≤ q ∧ N - l.length ≤ f ∧ l.length ≤ N ∧ c2 ≤ M ∧ a ≤ c2 ∧ Hid (bodyF xs ls N N [] c = bodyF xs ls N f l c2) ∧ Hid (∀ x ∈ l, x ≤ 15) ∧ Hid (NRow w.heap.size wr zl l) ∧ Hid (zl.ownBlock ≠ some h ∧ True) ∧ Hid (HdB wr h (.slice ao M cap) c2 0) ∧ Hid (RW w wr go 19 xs (fun s => key xs s ≠ 0) rs) ∧ Hid (Same w wr))
                case atStart => exact ⟨N, c, [], by omega, by simp, by simp, hcM, hac, hid rfl, hid (by simp), RowE.nil, hid ⟨by simp [Value.ownBlock], trivial⟩, HH6, HRW6, HK6⟩
                case round =>
                  clear HH6 HRW6 HK6
                  obtain ⟨f, c2, l, hfq, hfN, hlle, hc2M, hac2, HBD, H15, HL, HOL, HHr, HRW, HKr⟩ := hrel
                  obtain ⟨al, capl, hvl, hal, hal0, hlc, _⟩ := HL.out.shape
                  subst hvl
                  obtain ⟨Ln, hLn⟩ : ∃ Ln, Ln = l.length := ⟨_, rfl⟩
                  rw [← hLn] at HL hfN hlle hlc HOL ⊢
                  have HLn : Hid (Ln = l.length) := hLn
                  by_cases hlt : Ln < N
                  · obtain ⟨f', rfl⟩ : ∃ f', f = f' + 1 := ⟨f - 1, by omega⟩
                    have HST := hstep_any wr w h (.slice ao M cap) I ls c2 go 19 xs rs HHr.out (HS.out.kept HKr.out (fun _ _ _ g => g)) (fun k hk e => by have := HI.out k hk; have := HHW.out; omega) HB.out (by have := HM.out; omega) (by have := HM.out; omega) HRW.out HX7.out.2.symm (by decide) (fun s => by
                      by_cases e : s < xs.length
                      · rw [key_get e]; have := HX7.out.1 _ (List.getElem_mem e); omega
                      · simp [key, e]) HOFF.out
                    cases hsf : stepF xs ls c2 with
                    | error er =>
                      rw [hsf] at HST
                      have HE : Hid (readF ls a = .error er) := hid (by rw [HRI.out, HBD.out, bodyF_err (by omega) hsf])
                      clear hLn hsf
                      go_wp2_with fail
                      refine HST.mono ?_
                      rintro r w7 ⟨⟨ea, eb, ec, rfl, hh7, hne⟩, hk7⟩
                      have k2 := hh7.cell 2
                      simp at k2
                      have hh7l := hh7.lt
                      have HK7 : Hid (Same w w7) := hid (Same.then HKr.out hk7 (fun x hx e => by omega))
                      have hed : ((er : Int) != 0) = true := by simp; omega
                      have hnh : h ≠ w7.heap.size := by omega
                      have hnh2 : w7.heap.size ≠ h := by omega
                      clear hh7 hk7 hne HST
                      go_wp2_with fail
                      go_quiet (fail)
                      go_wp2_with fail
                      refine bodyPost_ret (v := .tuple #[.slice none 0 0, .slice none 0 0, .int .i64 0, .int .i64 (er : Nat)]) (by simp [results, Tryd.results25, go_sem]) rfl ?_
                      rw [HE.out]
                      exact ⟨rfl, (HK7.out.alloc _).drewN _⟩
                    | ok p =>
                      obtain ⟨⟨sy, ex⟩, c4⟩ := p
                      rw [hsf] at HST
                      have h4M := stepF_le hsf
                      have h4a := stepF_ge hsf
                      have HBS : Hid (bodyF xs ls N N [] c = match withM l ((sy : Int), (ex : Int)) N with | none => .error 41 | some m => bodyF xs ls N f' m c4) := hid (by rw [HBD.out, bodyF_step (by omega) hsf]; rfl)
                      clear hLn hsf
                      go_wp2_with fail
                      refine HST.mono ?_
                      rintro r w7 ⟨⟨rfl, hh7⟩, hk7⟩
                      have k2 := hh7.cell 2
                      simp at k2
                      have hh7l := hh7.lt
                      have HH7 : Hid (HdB w7 h (.slice ao M cap) c4 0) := hh7
                      have HK7 : Hid (Same w w7) := hid (Same.then HKr.out hk7 (fun x hx e => by omega))
                      have hlk : ∀ k, (Value.slice al Ln capl).ownBlock = some k → k ≠ h := fun k hk e => HOL.out.1 (by rw [hk, e])
                      have HL7 : Hid (NRow w.heap.size w7 (.slice al Ln capl) l) := hid (HL.out.kept hk7 hlk)
                      have HRW7 : Hid (RW w w7 go 19 xs (fun s => key xs s ≠ 0) rs) := hid (HRW.out.off HOFF.out hk7)
                      have hnh : h ≠ w7.heap.size := by omega
                      have hnh2 : w7.heap.size ≠ h := by omega
                      have HK8 : Hid (Same w7 (w7.alloc (.cells #[.int .i64 (sy : Nat), .int .i64 (ex : Nat)] 31))) := (Kept.refl _ w7).alloc _
                      have hs8 : (w7.alloc (.cells #[.int .i64 (sy : Nat), .int .i64 (ex : Nat)] 31)).heap.size = w7.heap.size + 1 := by simp
                      have HS8 : Hid ((w7.alloc (.cells #[.int .i64 (sy : Nat), .int .i64 (ex : Nat)] 31)).heap.size = w7.heap.size + 1) := hs8
                      clear hh7 hk7 HST hlk hs8
                      cases hwm : withM l ((sy : Int), (ex : Int)) N with
                      | none =>
                        have HE : Hid (readF ls a = .error 41) := hid (by rw [HRI.out, HBS.out, hwm])
                        have HW := with_no (w7.alloc (.cells #[.int .i64 (sy : Nat), .int .i64 (ex : Nat)] 31)) w.heap.size (.slice al Ln capl) l (sy : Int) (ex : Int) N (HL7.out.same HK8.out) (by have := HLn.out; omega) H15.out (by omega) hwm
                        clear hwm
                        go_wp2_with fail
                        refine HW.mono ?_
                        rintro r w9 ⟨rfl, hk9⟩
                        have HK9 : Hid (Same w w9) := hid (Same.trans HK7.out (Same.trans HK8.out hk9))
                        clear hk9 HW
                        go_wp2_with fail
                        refine bodyPost_ret (v := .tuple #[.slice none 0 0, .slice none 0 0, .int .i64 0, .int .i64 41]) (by simp [results, Tryd.results25, go_sem]) rfl ?_
                        rw [HE.out]
                        exact ⟨rfl, HK9.out⟩
                      | some m =>
                        have hgr := withM_grows hwm H15.out
                        have HBM : Hid (bodyF xs ls N N [] c = bodyF xs ls N f' m c4) := hid (by rw [HBS.out, hwm])
                        have H15m : Hid (∀ x ∈ m, x ≤ 15) := hid hgr.2.2
                        have hml : Ln < m.length ∧ m.length ≤ N := by have := HLn.out; omega
                        have HW := with_yes (w7.alloc (.cells #[.int .i64 (sy : Nat), .int .i64 (ex : Nat)] 31)) w.heap.size (.slice al Ln capl) l m (sy : Int) (ex : Int) N (HL7.out.same HK8.out) (by have := HLn.out; omega) H15.out (by omega) hwm
                        have h4M2 : c4 ≤ M := by have := HM.out; omega
                        clear hwm hgr h4M
                        go_wp2_with fail
                        refine HW.mono ?_
                        rintro r w9 ⟨v9, rfl, hn9⟩
                        have HK9 : Hid (Same w w9) := hid (Same.trans HK7.out (Same.trans HK8.out hn9.same))
                        have HL9 : Hid (NRow w.heap.size w9 v9 m) := hid (RowE.base hn9.row (by have h1 := HS8.out; have h2 := HK7.out.size; omega))
                        have HOL9 : Hid (v9.ownBlock ≠ some h ∧ True) := hid ⟨fun e => by have h1 := hn9.row.ge e; have h2 := HS8.out; omega, trivial⟩
                        have HH9 : Hid (HdB w9 h (.slice ao M cap) c4 0) := hid (HH7.out.kept (Same.trans HK8.out hn9.same) (fun f => f))
                        have HRW9 : Hid (RW w w9 go 19 xs (fun s => key xs s ≠ 0) rs) := hid (HRW7.out.later (Same.trans HK8.out hn9.same))
                        clear hn9 HW
                        go_wp2_with fail
                        go_roundg (gk - 1)
                        case measure => omega
                        case rel => exact ⟨f', c4, m, by omega, by omega, by omega, by omega, by omega, HBM, H15m, HL9, HOL9, HH9, HRW9, HK9⟩
                  · have hlN2 : Ln = N := by omega
                    have hlt' : decide (Ln < N) = false := by simp; omega
                    have HEND : Hid (readF ls a = .ok ((l.take lit, l.drop lit), c2 - a)) := hid (by rw [HRI.out, HBD.out, bodyF_end (by omega)])
                    obtain ⟨gl, hgl⟩ := hal (by intro e; rw [e] at hLn; simp at hLn; omega)
                    subst hgl
                    have hglb : w.heap.size ≤ gl := HL.out.ge rfl
                    have k1 := HHr.out.cell 1
                    simp at k1
                    obtain ⟨n, hn⟩ : ∃ n, n = c2 - a := ⟨_, rfl⟩
                    have hnI : (c2 : Int) - (a : Int) = (n : Int) := by omega
                    have hwn : IntKind.i64.wrap (n : Int) = (n : Int) := by rw [IntKind.wrap_i64]; omega
                    have hlitc : lit ≤ capl := by omega
                    have hlitL : lit ≤ Ln := by omega
                    have hlitc2 : lit < capl := by omega
                    have HSA : Hid (SrcE natV wr (fun k => w.heap.size ≤ k) (.slice (some ⟨gl, 0, none⟩) lit capl) (l.take lit)) := hid (by
                      have h0 := (SrcE.ofRow HL.out).mono (J := fun k => w.heap.size ≤ k) (fun k hk => by simp [Value.ownBlock] at hk; omega)
                      rw [hLn] at h0
                      exact h0.part lit (by omega))
                    have HSB : Hid (SrcE natV wr (fun k => w.heap.size ≤ k) (.slice (some ⟨gl, lit, none⟩) (Ln - lit) (capl - lit)) (l.drop lit)) := hid (by
                      have h0 := (SrcE.ofRow HL.out).mono (J := fun k => w.heap.size ≤ k) (fun k hk => by simp [Value.ownBlock] at hk; omega)
                      rw [hLn] at h0 ⊢
                      exact h0.tail lit lit (by omega) (fun _ => by omega))
                    rw [← hn] at HEND
                    clear hn hlt hLn hlN2
                    go_wp2_with fail
                    go_quiet (fail)
                    go_wp2_with fail
                    refine bodyPost_ret (v := .tuple #[.slice (some ⟨gl, 0, none⟩) lit capl, .slice (some ⟨gl, lit, none⟩) (Ln - lit) (capl - lit), .int .i64 (n : Nat), .int .i64 0]) (by simp [results, Tryd.results25, go_sem]) rfl ?_
                    rw [HEND.out]
                    exact ⟨⟨_, _, rfl, HSA.out.kept ((Kept.refl (fun _ => False) wr).drewN _) (fun _ _ _ f => f), HSB.out.kept ((Kept.refl (fun _ => False) wr).drewN _) (fun _ _ _ f => f)⟩, HKr.out.drewN _⟩
              · have hckd : ((ck : Int) != 0) = true := by simp; omega
                have HE : Hid (readF ls a = .error ck) := hid (by rw [HRH.out, if_pos (by omega), hck])
                clear hck hck0
                go_wp2_with fail
                refine bodyPost_ret (v := .tuple #[.slice none 0 0, .slice none 0 0, .int .i64 0, .int .i64 (ck : Nat)]) (by simp [results, Tryd.results25, go_sem]) rfl ?_
                rw [HE.out]
                exact ⟨rfl, HKr.out⟩

end Go.Proofs.YtofhlnpbflkdlaaDoor
