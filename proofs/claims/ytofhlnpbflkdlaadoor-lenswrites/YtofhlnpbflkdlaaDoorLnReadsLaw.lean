/-
  The law LensReads.
-/
import Derived.Test.YtofhlnpbflkdlaaDoorLnAw
import Derived.Test.YtofhlnpbflkdlaaDoorLnReadW
import Derived.Test.YtofhlnpbflkdlaaDoorHArgs
namespace Go.Proofs.YtofhlnpbflkdlaaDoor
open Go.RowKit

theorem src_nil (w : World) (I : Nat → Prop) : SrcE intV w I (.slice none 0 0) [] := ⟨none, 0, rfl, Nat.le_refl _, fun h => absurd rfl h⟩

theorem ints_nil (w : World) : Calls Tryd.prog 17 #[.slice none 0 0, .slice none 0 0] w fun e w' => e = .returned (.bool true) ∧ Same w w' := by
  have h := keepInts_any _ _ (fun _ => False) (fun _ => False) [] [] w (src_nil w _) (src_nil w _) (by decide) (by decide)
  exact h

theorem ints_same (w : World) (va vb : Value) (I J : Nat → Prop) (xs : List Nat) (ha : SrcE natV w I va xs) (hb : SrcE natV w J vb xs) (hx : xs.length ≤ 10000000) : Calls Tryd.prog 17 #[va, vb] w fun e w' => e = .returned (.bool true) ∧ Same w w' := by
  have e : (xs.map (fun (n : Nat) => (n : Int))).map intV = xs.map natV := by rw [List.map_map]; rfl
  have h := keepInts_any va vb I J (xs.map (fun (n : Nat) => (n : Int))) (xs.map (fun (n : Nat) => (n : Int))) w (ha.recode e) (hb.recode e) (by simpa using hx) (by simpa using hx)
  have hd : decide (xs.map (fun (n : Nat) => (n : Int)) = xs.map (fun (n : Nat) => (n : Int))) = true := by simp
  rw [hd] at h
  exact h

theorem bodyF_short {ns ls : List Nat} {N : Nat} {m : List Nat} {c c' : Nat} (h : bodyF ns ls N N [] c = .ok (m, c')) : m.length = N := (bodyF_ok N [] m c c' h (by simp) (by simp) (by simp)).1

theorem readF_short {ls : List Nat} {a n : Nat} {x y : List Nat} (h : readF ls a = .ok ((x, y), n)) (hb : ∀ b ∈ ls, b < 2) : x.length ≤ 1000 ∧ y.length ≤ 1000 := by
  unfold readF at h
  split at h
  · cases h
  · split at h
    · cases h
    · rename_i h2
      split at h
      · cases h
      · split at h
        · cases h
        · split at h
          · cases h
          · rename_i l c hbf
            simp only [Except.ok.injEq, Prod.mk.injEq] at h
            obtain ⟨⟨rfl, rfl⟩, _⟩ := h
            have := bodyF_short hbf
            have h1 := numAt_lt ls hb a 5
            have h3 := numAt_lt ls hb (a + 5) 5
            simp only [List.length_take, List.length_drop]
            omega

set_option maxRecDepth 100000 in
set_option maxHeartbeats 4000000 in
theorem reads_good (W : World) (a : Option Addr) (len cap k : Nat) (bs : List Nat) (hs : Src W (fun j => j < W.heap.size) (.slice a len cap) bs) (hl : bs.length = len) (hb : ∀ b ∈ bs, b < 256) (hlong : len ≤ 1048576) (hk7 : k ≤ 7) (hk8 : k ≤ 8 * len) (hT : Tab W) :
    Calls Tryd.prog 6 #[.slice a len cap, .int .i64 (k : Nat)] W fun e w' => e = .returned (.bool true) ∧ Same W w' := by
  have HG := goneR_any W _ _ bs k hs (by omega) hb (by omega)
  have HS : Hid (Src W (fun j => j < W.heap.size) (.slice a len cap) bs) := hs
  have HB : Hid (∀ b ∈ bs, b < 256) := hb
  have HT : Hid (Tab W) := hT
  have HL : Hid (bs.length = len) := hl
  have b1 : decide ((1048576 : Int) < (len : Int)) = false := by simp; omega
  have b2 : decide ((k : Int) < 0) = false := by simp
  have b3 : decide ((7 : Int) < (k : Int)) = false := by simp; omega
  obtain ⟨M, hM⟩ : ∃ M, M = 8 * len := ⟨_, rfl⟩
  have hMI : (8 : Int) * (len : Int) = (M : Int) := by omega
  have hMw : IntKind.i64.wrap (M : Int) = (M : Int) := by rw [IntKind.wrap_i64]; omega
  have b4 : decide ((M : Int) < (k : Int)) = false := by simp; omega
  have HM : Hid (M = 8 * bs.length) := hid (by rw [hM, hl])
  clear hs hb hT hl hM
  go_enter Tryd.func6, Tryd.ntmps6
  go_wp2_with fail
  refine HG.mono ?_
  rintro e w1 ⟨p, s, rfl, hst, hk1, hf⟩
  have HST1 : Hid (St w1 p s bs k) := hst
  have HK1 : Hid (Same W w1) := hk1
  have HF : Hid (∀ j, Fp p s j → W.heap.size ≤ j) := hf
  have HRD := lread_any w1 p k s bs hst (by rw [HL.out]; omega) (by rw [HL.out]; omega) (HT.out.kept hk1 (fun f => f)) (fun e => by have := HT.out.pos; have := hf p (.inl rfl); omega)
  clear hst hk1 hf HG b1 b2 b3 b4
  go_wp2_with fail
  refine HRD.mono ?_
  rintro e w2 ⟨hra, hk2⟩
  have HK2 : Hid (Same W w2) := hid (Same.then HK1.out hk2 (fun j hj e => by have := HF.out p (.inl rfl); omega))
  have HOF := refOf_any w2 _ _ bs (HS.out.kept HK2.out (fun _ _ _ f => f)) (by rw [HL.out]; omega) HB.out
  clear hk2 HRD
  cases hrf : readF (ofBytes bs) k with
  | error er =>
    rw [hrf] at hra
    obtain ⟨rfl, her, hs2⟩ := hra
    have HST2 : Hid (St w2 p s bs k) := hs2
    have HRF : Hid (readF (ofBytes bs) k = .error er) := hrf
    clear hs2 hrf her
    go_wp2_with fail
    refine HOF.mono ?_
    rintro e w3 ⟨v3, rfl, hg3⟩
    have hk3 : Same w2 w3 := hg3.kept.mono (fun _ _ e => by cases e)
    have HRR := rread_any w3 v3 _ (ofBytes bs) k (Src.ofRow hg3.row) (fun j e => hg3.row.lt e) (ofBytes_lt bs) (by rw [ofBytes_length, HL.out]; exact hk8) (by rw [ofBytes_length, HL.out]; omega)
    rw [HRF.out] at HRR
    have HK3 : Hid (Same w2 w3) := hk3
    clear hg3 hk3 HOF
    go_wp2_with fail
    refine HRR.mono ?_
    rintro e w4 ⟨rfl, hk4⟩
    have HK4 : Hid (Same W w4) := hid (Same.trans HK2.out (Same.trans HK3.out hk4))
    have HST4 : Hid (St w4 p s bs k) := hid (HST2.out.kept (Same.trans HK3.out hk4) (fun _ _ f => f))
    have HAW := lawake_any w4 (HT.out.kept HK4.out (fun f => f))
    clear hk4 HRR
    go_wp2_with fail
    refine HAW.mono ?_
    rintro e w5 ⟨rfl, hk5⟩
    have HK5 : Hid (Same w4 w5) := hk5
    have HI1 := ints_nil w5
    clear hk5 HAW
    go_wp2_with fail
    refine HI1.mono ?_
    rintro e w6 ⟨rfl, hk6⟩
    have HK6 : Hid (Same w4 w6) := hid (Same.trans HK5.out hk6)
    have HI2 := ints_nil w6
    clear hk6 HI1
    go_wp2_with fail
    refine HI2.mono ?_
    rintro e w7 ⟨rfl, hk7'⟩
    have HK7 : Hid (Same w4 w7) := hid (Same.trans HK6.out hk7')
    have HG7 := gone_any p k s bs w7 (HST4.out.kept HK7.out (fun _ _ f => f))
    have HL7 := left_any p k s bs w7 (HST4.out.kept HK7.out (fun _ _ f => f)) (by rw [HL.out]; exact hk8) (by rw [HL.out]; omega)
    obtain ⟨q, hq⟩ : ∃ q, q = M - k := ⟨_, rfl⟩
    rw [← HM.out, ← hq] at HL7
    have hqI : (M : Int) - (k : Int) = (q : Int) := by have := HM.out; have := HL.out; omega
    have hqw : IntKind.i64.wrap (q : Int) = (q : Int) := by rw [IntKind.wrap_i64]; have := HM.out; have := HL.out; omega
    clear hk7' HI2 hq
    go_wp2_with fail
    refine HG7.mono ?_
    rintro e w8 ⟨rfl, hw8⟩
    subst hw8
    clear HG7
    go_wp2_with fail
    refine HL7.mono ?_
    rintro e w9 ⟨rfl, m9, hw9⟩
    subst hw9
    clear HL7
    go_wp2_with fail
    go_ret
    exact ⟨rfl, (Same.trans HK4.out HK7.out).drewN _⟩
  | ok r =>
    obtain ⟨⟨xa, xb⟩, n⟩ := r
    rw [hrf] at hra
    obtain ⟨⟨va, vb, rfl, hra, hrb⟩, hc2, hs2⟩ := hra
    obtain ⟨t, ht⟩ : ∃ t, t = k + n := ⟨_, rfl⟩
    rw [← ht] at hs2 hc2
    have HST2 : Hid (St w2 p s bs t) := hs2
    have HRA : Hid (NRow w1.heap.size w2 va xa) := hra
    have HRB : Hid (NRow w1.heap.size w2 vb xb) := hrb
    have HRF : Hid (readF (ofBytes bs) k = .ok ((xa, xb), n)) := hrf
    have HSH : Hid (xa.length ≤ 1000 ∧ xb.length ≤ 1000) := hid (readF_short hrf (ofBytes_lt bs))
    have htI : (k : Int) + (n : Int) = (t : Int) := by omega
    have HTK : Hid (t = k + n ∧ t ≤ 8 * bs.length) := hid ⟨ht, hc2⟩
    have htw : IntKind.i64.wrap (t : Int) = (t : Int) := by rw [IntKind.wrap_i64]; have := HL.out; omega
    clear hs2 hrf hra hrb hc2 ht
    go_wp2_with fail
    refine HOF.mono ?_
    rintro e w3 ⟨v3, rfl, hg3⟩
    have hk3 : Same w2 w3 := hg3.kept.mono (fun _ _ e => by cases e)
    have HRR := rread_any w3 v3 _ (ofBytes bs) k (Src.ofRow hg3.row) (fun j e => hg3.row.lt e) (ofBytes_lt bs) (by rw [ofBytes_length, HL.out]; exact hk8) (by rw [ofBytes_length, HL.out]; omega)
    rw [HRF.out] at HRR
    have HK3 : Hid (Same w2 w3) := hk3
    clear hg3 hk3 HOF
    go_wp2_with fail
    refine HRR.mono ?_
    rintro e w4 ⟨⟨wa, wb, rfl, hwa, hwb⟩, hk4⟩
    have HWA : Hid (SrcE natV w4 (fun j => w3.heap.size ≤ j) wa xa) := hwa
    have HWB : Hid (SrcE natV w4 (fun j => w3.heap.size ≤ j) wb xb) := hwb
    have HK34 : Hid (Same w2 w4) := hid (Same.trans HK3.out hk4)
    have HK4 : Hid (Same W w4) := hid (Same.trans HK2.out HK34.out)
    have HST4 : Hid (St w4 p s bs t) := hid (HST2.out.kept HK34.out (fun _ _ f => f))
    have HAW := lawake_any w4 (HT.out.kept HK4.out (fun f => f))
    clear hk4 HRR hwa hwb
    go_wp2_with fail
    refine HAW.mono ?_
    rintro e w5 ⟨rfl, hk5⟩
    have HK5 : Hid (Same w4 w5) := hk5
    have HI1 := ints_same w5 va wa _ _ xa (SrcE.ofRow (HRA.out.same (Same.trans HK34.out hk5))) (HWA.out.same hk5) (by have := HSH.out; omega)
    clear hk5 HAW
    go_wp2_with fail
    refine HI1.mono ?_
    rintro e w6 ⟨rfl, hk6⟩
    have HK6 : Hid (Same w4 w6) := hid (Same.trans HK5.out hk6)
    have HI2 := ints_same w6 vb wb _ _ xb (SrcE.ofRow (HRB.out.same (Same.trans HK34.out HK6.out))) (HWB.out.same HK6.out) (by have := HSH.out; omega)
    clear hk6 HI1
    go_wp2_with fail
    refine HI2.mono ?_
    rintro e w7 ⟨rfl, hk7'⟩
    have HK7 : Hid (Same w4 w7) := hid (Same.trans HK6.out hk7')
    have HG7 := gone_any p t s bs w7 (HST4.out.kept HK7.out (fun _ _ f => f))
    have HL7 := left_any p t s bs w7 (HST4.out.kept HK7.out (fun _ _ f => f)) HTK.out.2 (by rw [HL.out]; omega)
    obtain ⟨q, hq⟩ : ∃ q, q = M - t := ⟨_, rfl⟩
    rw [← HM.out, ← hq] at HL7
    obtain ⟨q1, hq1⟩ : ∃ q, q = M - k := ⟨_, rfl⟩
    have hq1I : (M : Int) - (k : Int) = (q1 : Int) := by have := HM.out; have := HL.out; omega
    have hq1w : IntKind.i64.wrap (q1 : Int) = (q1 : Int) := by rw [IntKind.wrap_i64]; have := HM.out; have := HL.out; omega
    have hqI : (q1 : Int) - (n : Int) = (q : Int) := by have := HM.out; have := HL.out; have := HTK.out; omega
    have hqw : IntKind.i64.wrap (q : Int) = (q : Int) := by rw [IntKind.wrap_i64]; have := HM.out; have := HL.out; omega
    clear hk7' HI2 hq hq1
    go_wp2_with fail
    refine HG7.mono ?_
    rintro e w8 ⟨rfl, hw8⟩
    subst hw8
    clear HG7
    go_wp2_with fail
    refine HL7.mono ?_
    rintro e w9 ⟨rfl, m9, hw9⟩
    subst hw9
    clear HL7
    go_wp2_with fail
    go_ret
    exact ⟨rfl, (Same.trans HK4.out HK7.out).drewN _⟩

set_option maxRecDepth 100000 in
set_option maxHeartbeats 4000000 in
theorem lensReads_all (a : Option Addr) (len cap : Nat) (zs : List Int) (skip : Int) (W : World) (h : IsRow .u8 W a len cap zs) (_hm : (Lit.int .i64 skip).wf = true) (hT : Tab W) :
    Calls Tryd.prog 6 #[.slice a len cap, .int .i64 skip] W fun e w' => e = .returned (.bool true) ∧ Below W.heap.size W w' := by
  obtain ⟨bs, hs, hl, hb⟩ := h.src
  have hmax := h.max
  clear h
  suffices H : Calls Tryd.prog 6 #[.slice a len cap, .int .i64 skip] W fun e w' => e = .returned (.bool true) ∧ Same W w' from H.mono (fun e w' h => ⟨h.1, h.2.bel⟩)
  have HAW := lawake_any W hT
  by_cases hlong : 1048576 < len
  · have b1 : decide ((1048576 : Int) < (len : Int)) = true := by simp; omega
    clear hlong hl hs hmax
    go_enter Tryd.func6, Tryd.ntmps6
    go_wp2_with fail
    refine HAW.mono ?_
    rintro e w5 ⟨rfl, hk5⟩
    have HK5 : Hid (Same W w5) := hk5
    clear hk5 HAW
    go_wp2_with fail
    go_ret
    exact ⟨rfl, HK5.out⟩
  · have b1 : decide ((1048576 : Int) < (len : Int)) = false := by simp; omega
    by_cases hn : skip < 0
    · have b2 : decide (skip < 0) = true := by simp; omega
      clear hlong hl hs hmax hn
      go_enter Tryd.func6, Tryd.ntmps6
      go_wp2_with fail
      refine HAW.mono ?_
      rintro e w5 ⟨rfl, hk5⟩
      have HK5 : Hid (Same W w5) := hk5
      clear hk5 HAW
      go_wp2_with fail
      go_ret
      exact ⟨rfl, HK5.out⟩
    · have b2 : decide (skip < 0) = false := by simp; omega
      by_cases h7 : 7 < skip
      · have b3 : decide (7 < skip) = true := by simp; omega
        clear hlong hl hs hmax hn h7
        go_enter Tryd.func6, Tryd.ntmps6
        go_wp2_with fail
        refine HAW.mono ?_
        rintro e w5 ⟨rfl, hk5⟩
        have HK5 : Hid (Same W w5) := hk5
        clear hk5 HAW
        go_wp2_with fail
        go_ret
        exact ⟨rfl, HK5.out⟩
      · obtain ⟨k, rfl⟩ : ∃ n : Nat, skip = (n : Int) := ⟨skip.toNat, by omega⟩
        by_cases h8 : 8 * len < k
        · have b3 : decide ((7 : Int) < (k : Int)) = false := by simp; omega
          obtain ⟨M, hM⟩ : ∃ M, M = 8 * len := ⟨_, rfl⟩
          have hMI : (8 : Int) * (len : Int) = (M : Int) := by omega
          have hMw : IntKind.i64.wrap (M : Int) = (M : Int) := by rw [IntKind.wrap_i64]; omega
          have b4 : M < k := by omega
          clear hlong hl hs hmax hn h7 h8 hM
          go_enter Tryd.func6, Tryd.ntmps6
          go_wp2_with fail
          refine HAW.mono ?_
          rintro e w5 ⟨rfl, hk5⟩
          have HK5 : Hid (Same W w5) := hk5
          clear hk5 HAW
          go_wp2_with fail
          go_ret
          exact ⟨rfl, HK5.out⟩
        · exact reads_good W a len cap k bs hs hl hb (by omega) (by omega) (by omega) hT

end Go.Proofs.YtofhlnpbflkdlaaDoor
