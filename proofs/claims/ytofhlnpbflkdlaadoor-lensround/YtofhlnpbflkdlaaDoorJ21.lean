/-
  Of the proof: parts LnAw, LnReadsLaw, LnStepsLaw.
-/
import Derived.Test.YtofhlnpbflkdlaaDoorJ20
import Derived.Test.YtofhlnpbflkdlaaDoorJ15
import Derived.Test.YtofhlnpbflkdlaaDoorJ14
import Derived.Test.YtofhlnpbflkdlaaDoorJ9
import Derived.Test.YtofhlnpbflkdlaaDoorJ18
import Derived.Test.YtofhlnpbflkdlaaDoorJ13
import Derived.Test.YtofhlnpbflkdlaaDoorJ6

/-
  The law's 'awake': the document's examples.
-/
namespace Go.Proofs.YtofhlnpbflkdlaaDoor
open Go.RowKit

/-- A literal row of steps. -/
theorem src_steps (w : World) (ss : List (Int × Int)) (n : Nat) (hn : ss.length = n) : StSrc (w.alloc (.cells (ss.flatMap stC).toArray 31)) (fun k => k = w.heap.size) (.slice (some ⟨w.heap.size, 0, none⟩) n n) ss := by
  subst hn
  refine ⟨_, _, rfl, Nat.le_refl _, fun _ => ⟨_, _, rfl, rfl, fun j hj i hi => ?_⟩⟩
  rw [← flat_get stC_ok ss j i hj hi]
  simp

theorem ex_pack : packA [0, 0, 0, 3, 3, 3, 3, 3, 0] = .ok [(17, 0), (3, 0), (16, 1), (0, 0)] := by
  unfold packA
  rw [if_pos (by decide)]
  have e : ([0, 0, 0, 3, 3, 3, 3, 3, 0] : List Int).map Int.toNat = [0, 0, 0, 3, 3, 3, 3, 3, 0] := by decide
  have f1 : frontN 0 [0, 0, 3, 3, 3, 3, 3, 0] = 2 := by decide
  have f2 : frontN 3 [3, 3, 3, 3, 0] = 4 := by decide
  have f3 : frontN 0 [] = 0 := by decide
  rw [e, packM_cons, f1]
  have d1 : ([0, 0, 3, 3, 3, 3, 3, 0] : List Nat).drop 2 = [3, 3, 3, 3, 3, 0] := by decide
  rw [d1, packM_cons, f2]
  have d2 : ([3, 3, 3, 3, 0] : List Nat).drop 4 = [0] := by decide
  rw [d2, packM_cons, f3]
  have d3 : ([] : List Nat).drop 0 = [] := by decide
  have p0 : packM [] = [] := by rw [packM]
  rw [d3, p0]
  have s1 : sayM 0 (1 + 2) = [(17, 0)] := by unfold sayM; rw [if_pos rfl, zerosM_mid 3 (by decide) (by decide)]; rfl
  have s2 : sayM 3 (1 + 4) = [(3, 0), (16, 1)] := by unfold sayM; rw [if_neg (by decide), againM_big 3 4 (by decide), show 4 - min 4 6 = 0 by decide, againM_few 3 0 (by decide)]; rfl
  have s3 : sayM 0 (1 + 0) = [(0, 0)] := by unfold sayM; rw [if_pos rfl, zerosM_few 1 (by decide)]; rfl
  rw [s1, s2, s3]
  rfl

theorem ex_unp : unpM [(5, 0), (16, 3)] 7 = .ok [5, 5, 5, 5, 5, 5, 5] := by rfl
theorem ex_unp2 : unpM [(16, 0)] 3 = .error 41 := by rfl
theorem ex_read : readF (ofBytes [255, 255]) 0 = .error 40 := by
  unfold readF
  rw [if_neg (by decide), if_pos (by decide)]

theorem Tab.pos {w : World} (h : Tab w) : 0 < w.heap.size := World.block_lt_of_cell? w _ (h 0 (by decide))

set_option maxRecDepth 100000 in
set_option maxHeartbeats 4000000 in
theorem lawake_any (w : World) (hT : Tab w) : Calls Tryd.prog 9 #[] w fun e w' => e = .returned (.bool true) ∧ Same w w' := by
  have HT : Hid (Tab w) := hT
  have HC1 := lpack_any (w.alloc (.cells #[.int .i64 0, .int .i64 0, .int .i64 0, .int .i64 3, .int .i64 3, .int .i64 3, .int .i64 3, .int .i64 3, .int .i64 0] 3)) (.slice (some ⟨w.heap.size, 0, none⟩) 9 9) _ [0, 0, 0, 3, 3, 3, 3, 3, 0] (src_ints w _ 9 rfl) (by decide)
  rw [ex_pack] at HC1
  clear hT
  go_enter Tryd.func9, Tryd.ntmps9
  go_wp2_with fail
  refine HC1.mono ?_
  rintro e w1 ⟨v1, rfl, hr1, hk1⟩
  have HR1 : Hid (StRow w.heap.size w1 v1 [(17, 0), (3, 0), (16, 1), (0, 0)]) := hid (RowC.base hr1 (by simp))
  have HK1 : Hid (Same w w1) := hid (Same.trans ((Kept.refl _ w).alloc _) hk1)
  clear hr1 hk1 HC1
  have HC2 := lunpack_any (w1.alloc (.cells #[.int .i64 5, .int .i64 0, .int .i64 16, .int .i64 3] 31)) (.slice (some ⟨w1.heap.size, 0, none⟩) 2 2) _ [(5, 0), (16, 3)] 7 (src_steps w1 _ 2 rfl) (by decide)
  rw [ex_unp] at HC2
  go_wp2_with fail
  refine HC2.mono ?_
  rintro e w2 ⟨v2, rfl, hn2⟩
  have HR2 : Hid (NRow w.heap.size w2 v2 [5, 5, 5, 5, 5, 5, 5]) := hid (RowE.base hn2.row (by have := HK1.out.size; simp; omega))
  have HK2 : Hid (Same w1 w2) := hid (Same.trans ((Kept.refl _ w1).alloc _) hn2.same)
  clear hn2 HC2
  have HC3 := lunpack_any (w2.alloc (.cells #[.int .i64 16, .int .i64 0] 31)) (.slice (some ⟨w2.heap.size, 0, none⟩) 1 1) _ [(16, 0)] 3 (src_steps w2 _ 1 rfl) (by decide)
  rw [ex_unp2] at HC3
  go_wp2_with fail
  refine HC3.mono ?_
  rintro e w3 ⟨rfl, hk3⟩
  have HK3 : Hid (Same w2 w3) := hid (Same.trans ((Kept.refl _ w2).alloc _) hk3)
  clear hk3 HC3
  have HC4 := newReader_any (.slice (some ⟨w3.heap.size, 0, none⟩) 2 2) _ [255, 255] (w3.alloc (.cells #[.int .u8 255, .int .u8 255] 5)) (src_bytes w3 _ 2 rfl) (by decide) (by decide)
  go_wp2_with fail
  refine HC4.mono ?_
  rintro e w4 ⟨p, s, rfl, hst4, hk4, hf4⟩
  have HK4 : Hid (Same w3 w4) := hid (Same.trans ((Kept.refl _ w3).alloc _) hk4)
  have HKA : Hid (Same w w4) := hid (Same.trans (Same.trans HK1.out HK2.out) (Same.trans HK3.out HK4.out))
  have hp4 := hf4 p (.inl rfl)
  have HPW : Hid (w3.heap.size ≤ p ∧ w.heap.size ≤ w3.heap.size) := hid ⟨by simp at hp4; omega, (Same.trans (Same.trans HK1.out HK2.out) HK3.out).size⟩
  have HC5 := lread_any w4 p 0 s [255, 255] hst4 (by decide) (by decide) (HT.out.kept HKA.out (fun f => f)) (fun e => by have := HT.out.pos; have := HPW.out; omega)
  rw [ex_read] at HC5
  clear hst4 hk4 hf4 HC4 hp4
  go_wp2_with fail
  refine HC5.mono ?_
  rintro e w5 ⟨⟨rfl, _, _⟩, hk5⟩
  have HK5 : Hid (Same w w5) := hid (Same.then HKA.out hk5 (fun k hk e => by have := HPW.out; omega))
  have HR1b : Hid (StRow w.heap.size w5 v1 [(17, 0), (3, 0), (16, 1), (0, 0)]) := hid (RowC.kept (RowC.kept HR1.out (Same.trans HK2.out (Same.trans HK3.out HK4.out)) (fun _ _ f => f)) hk5 (fun k e h => by have h1 := HR1.out.lt e; have h2 := (Same.trans HK2.out HK3.out).size; have := HPW.out; omega))
  have HR2b : Hid (NRow w.heap.size w5 v2 [5, 5, 5, 5, 5, 5, 5]) := hid (RowE.kept (HR2.out.same (Same.trans HK3.out HK4.out)) hk5 (fun k e h => by have h1 := HR2.out.lt e; have h2 := HK3.out.size; have := HPW.out; omega))
  clear hk5 HC5
  have HS1 := same_any v1 (.slice (some ⟨w5.heap.size, 0, none⟩) 4 4) _ _ _ [(17, 0), (3, 0), (16, 1), (0, 0)] (w5.alloc (.cells #[.int .i64 17, .int .i64 0, .int .i64 3, .int .i64 0, .int .i64 16, .int .i64 1, .int .i64 0, .int .i64 0] 31)) (SrcC.kept stC_ok (SrcC.ofRow stC_ok HR1b.out) ((Kept.refl (fun _ => False) w5).alloc _) (fun _ _ _ f => f)) (src_steps w5 _ 4 rfl) (by decide) (by decide)
  have hd1 : decide (([(17, 0), (3, 0), (16, 1), (0, 0)] : List (Int × Int)) = [(17, 0), (3, 0), (16, 1), (0, 0)]) = true := by simp
  rw [hd1] at HS1
  clear hd1
  go_wp2_with fail
  refine HS1.mono ?_
  rintro e w6 ⟨rfl, hk6⟩
  have HK6' : Hid (Same w5 w6) := hid (Same.trans ((Kept.refl _ w5).alloc _) hk6)
  have HK6 : Hid (Same w w6) := hid (Same.trans HK5.out HK6'.out)
  clear HS1 hk6
  have HS2 := keepInts_any v2 (.slice (some ⟨w6.heap.size, 0, none⟩) 7 7) _ _ [5, 5, 5, 5, 5, 5, 5] [5, 5, 5, 5, 5, 5, 5] (w6.alloc (.cells #[.int .i64 5, .int .i64 5, .int .i64 5, .int .i64 5, .int .i64 5, .int .i64 5, .int .i64 5] 3)) (((SrcE.ofRow (HR2b.out.same HK6'.out)).same ((Kept.refl _ w6).alloc _)).recode (enc' := intV) rfl) (src_ints w6 _ 7 rfl) (by decide) (by decide)
  have hd2 : decide (([5, 5, 5, 5, 5, 5, 5] : List Int) = [5, 5, 5, 5, 5, 5, 5]) = true := by simp
  rw [hd2] at HS2
  clear hd2
  go_wp2_with fail
  refine HS2.mono ?_
  rintro e w7 ⟨rfl, hk7⟩
  have HK7 : Hid (Same w w7) := hid (Same.trans HK6.out (Same.trans ((Kept.refl _ w6).alloc _) hk7))
  clear HS2 hk7
  go_wp2_with fail
  go_ret
  exact ⟨rfl, HK7.out⟩

end Go.Proofs.YtofhlnpbflkdlaaDoor

/-
  The law LensReads.
-/
namespace Go.Proofs.YtofhlnpbflkdlaaDoor
open Go.RowKit

theorem src_nil (w : World) (I : Nat → Prop) : SrcE intV w I (.slice none 0 0) [] := ⟨none, 0, rfl, Nat.le_refl _, fun h => absurd rfl h⟩

theorem ints_nil (w : World) : Calls Tryd.prog 17 #[.slice none 0 0, .slice none 0 0] w fun e w' => e = .returned (.bool true) ∧ Same w w' := by
  have h := keepInts_any _ _ (fun _ => False) (fun _ => False) [] [] w (src_nil w _) (src_nil w _) (by decide) (by decide)
  exact h

theorem ints_same (w : World) (va vb : Value) (I J : Nat → Prop) (xs : List Nat) (ha : SrcE natV w I va xs) (hb : SrcE natV w J vb xs) (hx : xs.length ≤ 10000000) : Calls Tryd.prog 17 #[va, vb] w fun e w' => e = .returned (.bool true) ∧ Same w w' := by
  have e : (xs.map (fun (n : Nat) => (n : Int))).map intV = xs.map natV := by rw [List.map_map]; rfl
  have h := keepInts_any va vb I J (xs.map (fun (n : Nat) => (n : Int))) (xs.map (fun (n : Nat) => (n : Int))) w (ha.recode e) (hb.recode e) (by simpa using hx) (by simpa using hx)
  have hd : decide (xs.map (fun (n : Nat) => (n : Int)) = xs.map (fun (n : Nat) => (n : Int))) = true := by simp
  rw [hd] at h
  exact h

theorem bodyF_short {ns ls : List Nat} {N : Nat} {m : List Nat} {c c' : Nat} (h : bodyF ns ls N N [] c = .ok (m, c')) : m.length = N := (bodyF_ok N [] m c c' h (by simp) (by simp) (by simp)).1

theorem readF_short {ls : List Nat} {a n : Nat} {x y : List Nat} (h : readF ls a = .ok ((x, y), n)) (hb : ∀ b ∈ ls, b < 2) : x.length ≤ 1000 ∧ y.length ≤ 1000 := by
  unfold readF at h
  split at h
  · cases h
  · split at h
    · cases h
    · rename_i h2
      split at h
      · cases h
      · split at h
        · cases h
        · split at h
          · cases h
          · rename_i l c hbf
            simp only [Except.ok.injEq, Prod.mk.injEq] at h
            obtain ⟨⟨rfl, rfl⟩, _⟩ := h
            have := bodyF_short hbf
            have h1 := numAt_lt ls hb a 5
            have h3 := numAt_lt ls hb (a + 5) 5
            simp only [List.length_take, List.length_drop]
            omega

set_option maxRecDepth 100000 in
set_option maxHeartbeats 4000000 in
theorem reads_good (W : World) (a : Option Addr) (len cap k : Nat) (bs : List Nat) (hs : Src W (fun j => j < W.heap.size) (.slice a len cap) bs) (hl : bs.length = len) (hb : ∀ b ∈ bs, b < 256) (hlong : len ≤ 1048576) (hk7 : k ≤ 7) (hk8 : k ≤ 8 * len) (hT : Tab W) :
    Calls Tryd.prog 6 #[.slice a len cap, .int .i64 (k : Nat)] W fun e w' => e = .returned (.bool true) ∧ Same W w' := by
  have HG := goneR_any W _ _ bs k hs (by omega) hb (by omega)
  have HS : Hid (Src W (fun j => j < W.heap.size) (.slice a len cap) bs) := hs
  have HB : Hid (∀ b ∈ bs, b < 256) := hb
  have HT : Hid (Tab W) := hT
  have HL : Hid (bs.length = len) := hl
  have b1 : decide ((1048576 : Int) < (len : Int)) = false := by simp; omega
  have b2 : decide ((k : Int) < 0) = false := by simp
  have b3 : decide ((7 : Int) < (k : Int)) = false := by simp; omega
  obtain ⟨M, hM⟩ : ∃ M, M = 8 * len := ⟨_, rfl⟩
  have hMI : (8 : Int) * (len : Int) = (M : Int) := by omega
  have hMw : IntKind.i64.wrap (M : Int) = (M : Int) := by rw [IntKind.wrap_i64]; omega
  have b4 : decide ((M : Int) < (k : Int)) = false := by simp; omega
  have HM : Hid (M = 8 * bs.length) := hid (by rw [hM, hl])
  clear hs hb hT hl hM
  go_enter Tryd.func6, Tryd.ntmps6
  go_wp2_with fail
  refine HG.mono ?_
  rintro e w1 ⟨p, s, rfl, hst, hk1, hf⟩
  have HST1 : Hid (St w1 p s bs k) := hst
  have HK1 : Hid (Same W w1) := hk1
  have HF : Hid (∀ j, Fp p s j → W.heap.size ≤ j) := hf
  have HRD := lread_any w1 p k s bs hst (by rw [HL.out]; omega) (by rw [HL.out]; omega) (HT.out.kept hk1 (fun f => f)) (fun e => by have := HT.out.pos; have := hf p (.inl rfl); omega)
  clear hst hk1 hf HG b1 b2 b3 b4
  go_wp2_with fail
  refine HRD.mono ?_
  rintro e w2 ⟨hra, hk2⟩
  have HK2 : Hid (Same W w2) := hid (Same.then HK1.out hk2 (fun j hj e => by have := HF.out p (.inl rfl); omega))
  have HOF := refOf_any w2 _ _ bs (HS.out.kept HK2.out (fun _ _ _ f => f)) (by rw [HL.out]; omega) HB.out
  clear hk2 HRD
  cases hrf : readF (ofBytes bs) k with
  | error er =>
    rw [hrf] at hra
    obtain ⟨rfl, her, hs2⟩ := hra
    have HST2 : Hid (St w2 p s bs k) := hs2
    have HRF : Hid (readF (ofBytes bs) k = .error er) := hrf
    clear hs2 hrf her
    go_wp2_with fail
    refine HOF.mono ?_
    rintro e w3 ⟨v3, rfl, hg3⟩
    have hk3 : Same w2 w3 := hg3.kept.mono (fun _ _ e => by cases e)
    have HRR := rread_any w3 v3 _ (ofBytes bs) k (Src.ofRow hg3.row) (fun j e => hg3.row.lt e) (ofBytes_lt bs) (by rw [ofBytes_length, HL.out]; exact hk8) (by rw [ofBytes_length, HL.out]; omega)
    rw [HRF.out] at HRR
    have HK3 : Hid (Same w2 w3) := hk3
    clear hg3 hk3 HOF
    go_wp2_with fail
    refine HRR.mono ?_
    rintro e w4 ⟨rfl, hk4⟩
    have HK4 : Hid (Same W w4) := hid (Same.trans HK2.out (Same.trans HK3.out hk4))
    have HST4 : Hid (St w4 p s bs k) := hid (HST2.out.kept (Same.trans HK3.out hk4) (fun _ _ f => f))
    have HAW := lawake_any w4 (HT.out.kept HK4.out (fun f => f))
    clear hk4 HRR
    go_wp2_with fail
    refine HAW.mono ?_
    rintro e w5 ⟨rfl, hk5⟩
    have HK5 : Hid (Same w4 w5) := hk5
    have HI1 := ints_nil w5
    clear hk5 HAW
    go_wp2_with fail
    refine HI1.mono ?_
    rintro e w6 ⟨rfl, hk6⟩
    have HK6 : Hid (Same w4 w6) := hid (Same.trans HK5.out hk6)
    have HI2 := ints_nil w6
    clear hk6 HI1
    go_wp2_with fail
    refine HI2.mono ?_
    rintro e w7 ⟨rfl, hk7'⟩
    have HK7 : Hid (Same w4 w7) := hid (Same.trans HK6.out hk7')
    have HG7 := gone_any p k s bs w7 (HST4.out.kept HK7.out (fun _ _ f => f))
    have HL7 := left_any p k s bs w7 (HST4.out.kept HK7.out (fun _ _ f => f)) (by rw [HL.out]; exact hk8) (by rw [HL.out]; omega)
    obtain ⟨q, hq⟩ : ∃ q, q = M - k := ⟨_, rfl⟩
    rw [← HM.out, ← hq] at HL7
    have hqI : (M : Int) - (k : Int) = (q : Int) := by have := HM.out; have := HL.out; omega
    have hqw : IntKind.i64.wrap (q : Int) = (q : Int) := by rw [IntKind.wrap_i64]; have := HM.out; have := HL.out; omega
    clear hk7' HI2 hq
    go_wp2_with fail
    refine HG7.mono ?_
    rintro e w8 ⟨rfl, hw8⟩
    subst hw8
    clear HG7
    go_wp2_with fail
    refine HL7.mono ?_
    rintro e w9 ⟨rfl, m9, hw9⟩
    subst hw9
    clear HL7
    go_wp2_with fail
    go_ret
    exact ⟨rfl, (Same.trans HK4.out HK7.out).drewN _⟩
  | ok r =>
    obtain ⟨⟨xa, xb⟩, n⟩ := r
    rw [hrf] at hra
    obtain ⟨⟨va, vb, rfl, hra, hrb⟩, hc2, hs2⟩ := hra
    obtain ⟨t, ht⟩ : ∃ t, t = k + n := ⟨_, rfl⟩
    rw [← ht] at hs2 hc2
    have HST2 : Hid (St w2 p s bs t) := hs2
    have HRA : Hid (NRow w1.heap.size w2 va xa) := hra
    have HRB : Hid (NRow w1.heap.size w2 vb xb) := hrb
    have HRF : Hid (readF (ofBytes bs) k = .ok ((xa, xb), n)) := hrf
    have HSH : Hid (xa.length ≤ 1000 ∧ xb.length ≤ 1000) := hid (readF_short hrf (ofBytes_lt bs))
    have htI : (k : Int) + (n : Int) = (t : Int) := by omega
    have HTK : Hid (t = k + n ∧ t ≤ 8 * bs.length) := hid ⟨ht, hc2⟩
    have htw : IntKind.i64.wrap (t : Int) = (t : Int) := by rw [IntKind.wrap_i64]; have := HL.out; omega
    clear hs2 hrf hra hrb hc2 ht
    go_wp2_with fail
    refine HOF.mono ?_
    rintro e w3 ⟨v3, rfl, hg3⟩
    have hk3 : Same w2 w3 := hg3.kept.mono (fun _ _ e => by cases e)
    have HRR := rread_any w3 v3 _ (ofBytes bs) k (Src.ofRow hg3.row) (fun j e => hg3.row.lt e) (ofBytes_lt bs) (by rw [ofBytes_length, HL.out]; exact hk8) (by rw [ofBytes_length, HL.out]; omega)
    rw [HRF.out] at HRR
    have HK3 : Hid (Same w2 w3) := hk3
    clear hg3 hk3 HOF
    go_wp2_with fail
    refine HRR.mono ?_
    rintro e w4 ⟨⟨wa, wb, rfl, hwa, hwb⟩, hk4⟩
    have HWA : Hid (SrcE natV w4 (fun j => w3.heap.size ≤ j) wa xa) := hwa
    have HWB : Hid (SrcE natV w4 (fun j => w3.heap.size ≤ j) wb xb) := hwb
    have HK34 : Hid (Same w2 w4) := hid (Same.trans HK3.out hk4)
    have HK4 : Hid (Same W w4) := hid (Same.trans HK2.out HK34.out)
    have HST4 : Hid (St w4 p s bs t) := hid (HST2.out.kept HK34.out (fun _ _ f => f))
    have HAW := lawake_any w4 (HT.out.kept HK4.out (fun f => f))
    clear hk4 HRR hwa hwb
    go_wp2_with fail
    refine HAW.mono ?_
    rintro e w5 ⟨rfl, hk5⟩
    have HK5 : Hid (Same w4 w5) := hk5
    have HI1 := ints_same w5 va wa _ _ xa (SrcE.ofRow (HRA.out.same (Same.trans HK34.out hk5))) (HWA.out.same hk5) (by have := HSH.out; omega)
    clear hk5 HAW
    go_wp2_with fail
    refine HI1.mono ?_
    rintro e w6 ⟨rfl, hk6⟩
    have HK6 : Hid (Same w4 w6) := hid (Same.trans HK5.out hk6)
    have HI2 := ints_same w6 vb wb _ _ xb (SrcE.ofRow (HRB.out.same (Same.trans HK34.out HK6.out))) (HWB.out.same HK6.out) (by have := HSH.out; omega)
    clear hk6 HI1
    go_wp2_with fail
    refine HI2.mono ?_
    rintro e w7 ⟨rfl, hk7'⟩
    have HK7 : Hid (Same w4 w7) := hid (Same.trans HK6.out hk7')
    have HG7 := gone_any p t s bs w7 (HST4.out.kept HK7.out (fun _ _ f => f))
    have HL7 := left_any p t s bs w7 (HST4.out.kept HK7.out (fun _ _ f => f)) HTK.out.2 (by rw [HL.out]; omega)
    obtain ⟨q, hq⟩ : ∃ q, q = M - t := ⟨_, rfl⟩
    rw [← HM.out, ← hq] at HL7
    obtain ⟨q1, hq1⟩ : ∃ q, q = M - k := ⟨_, rfl⟩
    have hq1I : (M : Int) - (k : Int) = (q1 : Int) := by have := HM.out; have := HL.out; omega
    have hq1w : IntKind.i64.wrap (q1 : Int) = (q1 : Int) := by rw [IntKind.wrap_i64]; have := HM.out; have := HL.out; omega
    have hqI : (q1 : Int) - (n : Int) = (q : Int) := by have := HM.out; have := HL.out; have := HTK.out; omega
    have hqw : IntKind.i64.wrap (q : Int) = (q : Int) := by rw [IntKind.wrap_i64]; have := HM.out; have := HL.out; omega
    clear hk7' HI2 hq hq1
    go_wp2_with fail
    refine HG7.mono ?_
    rintro e w8 ⟨rfl, hw8⟩
    subst hw8
    clear HG7
    go_wp2_with fail
    refine HL7.mono ?_
    rintro e w9 ⟨rfl, m9, hw9⟩
    subst hw9
    clear HL7
    go_wp2_with fail
    go_ret
    exact ⟨rfl, (Same.trans HK4.out HK7.out).drewN _⟩

set_option maxRecDepth 100000 in
set_option maxHeartbeats 4000000 in
theorem lensReads_all (a : Option Addr) (len cap : Nat) (zs : List Int) (skip : Int) (W : World) (h : IsRow .u8 W a len cap zs) (_hm : (Lit.int .i64 skip).wf = true) (hT : Tab W) :
    Calls Tryd.prog 6 #[.slice a len cap, .int .i64 skip] W fun e w' => e = .returned (.bool true) ∧ Below W.heap.size W w' := by
  obtain ⟨bs, hs, hl, hb⟩ := h.src
  have hmax := h.max
  clear h
  suffices H : Calls Tryd.prog 6 #[.slice a len cap, .int .i64 skip] W fun e w' => e = .returned (.bool true) ∧ Same W w' from H.mono (fun e w' h => ⟨h.1, h.2.bel⟩)
  have HAW := lawake_any W hT
  by_cases hlong : 1048576 < len
  · have b1 : decide ((1048576 : Int) < (len : Int)) = true := by simp; omega
    clear hlong hl hs hmax
    go_enter Tryd.func6, Tryd.ntmps6
    go_wp2_with fail
    refine HAW.mono ?_
    rintro e w5 ⟨rfl, hk5⟩
    have HK5 : Hid (Same W w5) := hk5
    clear hk5 HAW
    go_wp2_with fail
    go_ret
    exact ⟨rfl, HK5.out⟩
  · have b1 : decide ((1048576 : Int) < (len : Int)) = false := by simp; omega
    by_cases hn : skip < 0
    · have b2 : decide (skip < 0) = true := by simp; omega
      clear hlong hl hs hmax hn
      go_enter Tryd.func6, Tryd.ntmps6
      go_wp2_with fail
      refine HAW.mono ?_
      rintro e w5 ⟨rfl, hk5⟩
      have HK5 : Hid (Same W w5) := hk5
      clear hk5 HAW
      go_wp2_with fail
      go_ret
      exact ⟨rfl, HK5.out⟩
    · have b2 : decide (skip < 0) = false := by simp; omega
      by_cases h7 : 7 < skip
      · have b3 : decide (7 < skip) = true := by simp; omega
        clear hlong hl hs hmax hn h7
        go_enter Tryd.func6, Tryd.ntmps6
        go_wp2_with fail
        refine HAW.mono ?_
        rintro e w5 ⟨rfl, hk5⟩
        have HK5 : Hid (Same W w5) := hk5
        clear hk5 HAW
        go_wp2_with fail
        go_ret
        exact ⟨rfl, HK5.out⟩
      · obtain ⟨k, rfl⟩ : ∃ n : Nat, skip = (n : Int) := ⟨skip.toNat, by omega⟩
        by_cases h8 : 8 * len < k
        · have b3 : decide ((7 : Int) < (k : Int)) = false := by simp; omega
          obtain ⟨M, hM⟩ : ∃ M, M = 8 * len := ⟨_, rfl⟩
          have hMI : (8 : Int) * (len : Int) = (M : Int) := by omega
          have hMw : IntKind.i64.wrap (M : Int) = (M : Int) := by rw [IntKind.wrap_i64]; omega
          have b4 : M < k := by omega
          clear hlong hl hs hmax hn h7 h8 hM
          go_enter Tryd.func6, Tryd.ntmps6
          go_wp2_with fail
          refine HAW.mono ?_
          rintro e w5 ⟨rfl, hk5⟩
          have HK5 : Hid (Same W w5) := hk5
          clear hk5 HAW
          go_wp2_with fail
          go_ret
          exact ⟨rfl, HK5.out⟩
        · exact reads_good W a len cap k bs hs hl hb (by omega) (by omega) (by omega) hT

end Go.Proofs.YtofhlnpbflkdlaaDoor

/-
  The law LensSteps.
-/
namespace Go.Proofs.YtofhlnpbflkdlaaDoor
open Go.RowKit

theorem unp_at_less (l : List Nat) (h15 : ∀ x ∈ l, x ≤ 15) (hn : l.length ≤ 316) : unpM (packM l) ((l.length : Int) - 1) = .error (if l.length = 0 then 1 else 41) := by
  by_cases h : l.length = 0
  · rw [if_pos h, unp_far _ _ (by omega)]
  · rw [if_neg h, unp_less l h15 hn (by omega)]

theorem unp_at_more (l : List Nat) (h15 : ∀ x ∈ l, x ≤ 15) (hn : l.length ≤ 316) : unpM (packM l) ((l.length : Int) + 1) = .error (if l.length = 316 then 1 else 41) := by
  by_cases h : l.length = 316
  · rw [if_pos h, unp_far _ _ (by omega)]
  · rw [if_neg h, unp_more l h15 (by omega)]

/-- Numbers of a list that may be, from 0 on. -/
theorem nat_of_ok {zs : List Int} (hok : lensOk zs = true) : (zs.map Int.toNat).map natV = zs.map intV ∧ ∀ x ∈ zs.map Int.toNat, x ≤ 15 := by
  have hb := (lensOk_iff zs).1 hok
  constructor
  · rw [List.map_map]
    refine List.map_congr_left (fun z hz => ?_)
    simp only [Function.comp, natV, intV]
    rw [Int.toNat_of_nonneg (hb z hz).1]
  · intro x hx
    obtain ⟨z, hz, rfl⟩ := List.mem_map.1 hx
    have := hb z hz
    omega

theorem int_of_ok {zs : List Int} (hok : lensOk zs = true) : (zs.map Int.toNat).map (fun (n : Nat) => (n : Int)) = zs := by
  have hb := (lensOk_iff zs).1 hok
  rw [List.map_map]
  conv => rhs; rw [← List.map_id zs]
  refine List.map_congr_left (fun z hz => ?_)
  simp only [Function.comp, id]
  rw [Int.toNat_of_nonneg (hb z hz).1]

set_option maxRecDepth 100000 in
set_option maxHeartbeats 800000 in
theorem steps_good (W : World) (a : Option Addr) (L cap : Nat) (zs : List Int) (ns : List Nat) (cl cm : Nat) (hs : SrcE intV W (fun k => k < W.heap.size) (.slice a L cap) zs) (hl : zs.length = L) (h316 : L ≤ 316) (hok : lensOk zs = true) (hns : ns = zs.map Int.toNat) (hT : Tab W)
    (hcl : cl = if L = 0 then 1 else 41) (hcm : cm = if L = 316 then 1 else 41) :
    Calls Tryd.prog 7 #[.slice a L cap] W fun e w' => e = .returned (.bool true) ∧ Same W w' := by
  have hn15 := (nat_of_ok hok).2
  rw [← hns] at hn15
  have hnl : ns.length = L := by rw [hns, List.length_map, hl]
  have HC1 := lpack_any W _ _ zs hs (by omega)
  rw [packA_good (by omega) hok, ← hns] at HC1
  have HU1 : Hid (unpM (packM ns) (L : Int) = .ok ns) := hid (by rw [← hnl]; exact unp_same ns hn15 (by omega))
  obtain ⟨lm, hlm⟩ : ∃ x : Int, (L : Int) - 1 = x := ⟨_, rfl⟩
  obtain ⟨lp, hlp⟩ : ∃ x : Int, (L : Int) + 1 = x := ⟨_, rfl⟩
  have HU2 : Hid (unpM (packM ns) lm = .error cl) := hid (by rw [hcl, ← hlm, ← hnl]; exact unp_at_less ns hn15 (by omega))
  have HU3 : Hid (unpM (packM ns) lp = .error cm) := hid (by rw [hcm, ← hlp, ← hnl]; exact unp_at_more ns hn15 (by omega))
  have hw3 : IntKind.i64.wrap lm = lm := by rw [IntKind.wrap_i64]; omega
  have hw4 : IntKind.i64.wrap lp = lp := by rw [IntKind.wrap_i64]; omega
  have hpl : (packM ns).length ≤ L := by have := packM_len ns; omega
  have HS : Hid (SrcE intV W (fun k => k < W.heap.size) (.slice a L cap) zs) := hs
  have HT : Hid (Tab W) := hT
  have HI : Hid (ns.map natV = zs.map intV) := hid (by rw [hns]; exact (nat_of_ok hok).1)
  have HZL : Hid (zs.length ≤ 10000000) := hid (by omega)
  have b1 : decide ((1048576 : Int) < (L : Int)) = false := by simp; omega
  have HCL : Hid (cl = if L = 0 then 1 else 41) := hcl
  have HCM : Hid (cm = if L = 316 then 1 else 41) := hcm
  clear hs hok hns hT hn15 hnl hl hcl hcm
  go_enter Tryd.func7, Tryd.ntmps7
  go_wp2_with fail
  refine HC1.mono ?_
  rintro e w1 ⟨v1, rfl, hr1, hk1⟩
  have HR1 : Hid (StRow W.heap.size w1 v1 (packM ns)) := hr1
  have HK1 : Hid (Same W w1) := hk1
  obtain ⟨a1, cap1, hv1, _⟩ := hr1.shape
  subst hv1
  obtain ⟨P, hP⟩ : ∃ P, P = (packM ns).length := ⟨_, rfl⟩
  rw [← hP] at HR1 hpl ⊢
  have HPL : Hid ((packM ns).length ≤ 10000000) := hid (by omega)
  clear hr1 hk1 HC1 hP
  have HC2 := lunpack_any w1 _ _ (packM ns) (L : Int) (SrcC.ofRow stC_ok HR1.out) HPL.out
  rw [HU1.out] at HC2
  go_wp2_with fail
  refine HC2.mono ?_
  rintro e w2 ⟨v2, rfl, hn2⟩
  have HR2 : Hid (NRow w1.heap.size w2 v2 ns) := hn2.row
  have HK2 : Hid (Same w1 w2) := hn2.same
  have HR1b : Hid (StRow W.heap.size w2 (.slice a1 P cap1) (packM ns)) := hid (RowC.kept HR1.out HK2.out (fun _ _ f => f))
  clear hn2 HC2 HR1
  have HC3 := lunpack_any w2 _ _ (packM ns) lm (SrcC.ofRow stC_ok HR1b.out) HPL.out
  rw [HU2.out] at HC3
  go_wp2_with fail
  refine HC3.mono ?_
  rintro e w3 ⟨rfl, hk3⟩
  have HK3 : Hid (Same w2 w3) := hk3
  have HR1c : Hid (StRow W.heap.size w3 (.slice a1 P cap1) (packM ns)) := hid (RowC.kept HR1b.out HK3.out (fun _ _ f => f))
  clear hk3 HC3 HR1b
  have HC4 := lunpack_any w3 _ _ (packM ns) lp (SrcC.ofRow stC_ok HR1c.out) HPL.out
  rw [HU3.out] at HC4
  go_wp2_with fail
  refine HC4.mono ?_
  rintro e w4 ⟨rfl, hk4⟩
  have HK4 : Hid (Same W w4) := hid (Same.trans (Same.trans HK1.out HK2.out) (Same.trans HK3.out hk4))
  have HR2b : Hid (NRow w1.heap.size w4 v2 ns) := hid (HR2.out.same (Same.trans HK3.out hk4))
  have HAW := lawake_any w4 (HT.out.kept HK4.out (fun f => f))
  clear hk4 HC4 HR1c HR2
  have HLAST : Hid (∀ w5, Same w4 w5 → Calls Tryd.prog 17 #[v2, .slice a L cap] w5 fun e w' => e = .returned (.bool true) ∧ Same w5 w') := hid (fun w5 hk => by
    have h := keepInts_any v2 (.slice a L cap) _ _ zs zs w5 ((SrcE.ofRow (HR2b.out.same hk)).recode (enc' := intV) HI.out.symm) (HS.out.same (Same.trans HK4.out hk)) HZL.out HZL.out
    have hd : decide (zs = zs) = true := by simp
    rw [hd] at h
    exact h)
  have hLP : decide ((P : Int) ≤ (L : Int)) = true := by simp; omega
  by_cases h0 : L = 0
  · subst h0
    have e1 : cl = 1 := by rw [HCL.out]; rfl
    have e2 : cm = 41 := by rw [HCM.out]; rfl
    subst e1 e2
    clear HCL HCM
    go_wp2_with fail
    refine HAW.mono ?_
    rintro e w5 ⟨rfl, hk5⟩
    have HL2 := HLAST.out w5 hk5
    have HK5 : Hid (Same W w5) := hid (Same.trans HK4.out hk5)
    clear hk5 HAW HLAST
    go_wp2_with fail
    refine HL2.mono ?_
    rintro e w6 ⟨rfl, hk6⟩
    have HK6 : Hid (Same W w6) := hid (Same.trans HK5.out hk6)
    clear hk6 HL2
    go_wp2_with fail
    go_ret
    exact ⟨rfl, HK6.out⟩
  · have e1 : cl = 41 := by rw [HCL.out, if_neg h0]
    have hL0 : ((L : Int) == 0) = false := by simp; omega
    have hL1 : 0 < L := by omega
    by_cases h3 : L = 316
    · have e2 : cm = 1 := by rw [HCM.out, if_pos h3]
      have hL3 : ((L : Int) == 316) = true := by simp; omega
      subst e1 e2
      clear HCL HCM h0 h3
      go_wp2_with fail
      refine HAW.mono ?_
      rintro e w5 ⟨rfl, hk5⟩
      have HL2 := HLAST.out w5 hk5
      have HK5 : Hid (Same W w5) := hid (Same.trans HK4.out hk5)
      clear hk5 HAW HLAST
      go_wp2_with fail
      refine HL2.mono ?_
      rintro e w6 ⟨rfl, hk6⟩
      have HK6 : Hid (Same W w6) := hid (Same.trans HK5.out hk6)
      clear hk6 HL2
      go_wp2_with fail
      go_ret
      exact ⟨rfl, HK6.out⟩
    · have e2 : cm = 41 := by rw [HCM.out, if_neg h3]
      subst e1 e2
      clear HCL HCM h0 h3
      go_wp2_with fail
      refine HAW.mono ?_
      rintro e w5 ⟨rfl, hk5⟩
      have HL2 := HLAST.out w5 hk5
      have HK5 : Hid (Same W w5) := hid (Same.trans HK4.out hk5)
      clear hk5 HAW HLAST
      go_wp2_with fail
      refine HL2.mono ?_
      rintro e w6 ⟨rfl, hk6⟩
      have HK6 : Hid (Same W w6) := hid (Same.trans HK5.out hk6)
      clear hk6 HL2
      go_wp2_with fail
      go_ret
      exact ⟨rfl, HK6.out⟩

set_option maxRecDepth 100000 in
set_option maxHeartbeats 4000000 in
theorem lensSteps_all (a : Option Addr) (len cap : Nat) (zs : List Int) (W : World) (h : IsRow .i64 W a len cap zs) (hT : Tab W) :
    Calls Tryd.prog 7 #[.slice a len cap] W fun e w' => e = .returned (.bool true) ∧ Below W.heap.size W w' := by
  obtain ⟨hs, hl⟩ := h.ints
  clear h
  suffices H : Calls Tryd.prog 7 #[.slice a len cap] W fun e w' => e = .returned (.bool true) ∧ Same W w' from H.mono (fun e w' h => ⟨h.1, h.2.bel⟩)
  have HAW := lawake_any W hT
  by_cases hlong : 1048576 < len
  · have b1 : decide ((1048576 : Int) < (len : Int)) = true := by simp; omega
    clear hlong hl hs
    go_enter Tryd.func7, Tryd.ntmps7
    go_wp2_with fail
    refine HAW.mono ?_
    rintro e w5 ⟨rfl, hk5⟩
    have HK5 : Hid (Same W w5) := hk5
    clear hk5 HAW
    go_wp2_with fail
    go_ret
    exact ⟨rfl, HK5.out⟩
  · by_cases hb : 316 < (zs.take len).length ∨ lensOk (zs.take len) = false
    · have HC1 := lpack_any W _ _ (zs.take len) hs (by omega)
      rw [packA_bad hb] at HC1
      have HT : Hid (Tab W) := hT
      have b1 : decide ((1048576 : Int) < (len : Int)) = false := by simp; omega
      clear hb hs hT hl HAW
      go_enter Tryd.func7, Tryd.ntmps7
      go_wp2_with fail
      refine HC1.mono ?_
      rintro e w1 ⟨rfl, hk1⟩
      have HK1 : Hid (Same W w1) := hk1
      have HAW := lawake_any w1 (HT.out.kept hk1 (fun f => f))
      clear hk1 HC1
      go_wp2_with fail
      refine HAW.mono ?_
      rintro e w5 ⟨rfl, hk5⟩
      have HK5 : Hid (Same W w5) := hid (Same.trans HK1.out hk5)
      clear hk5 HAW
      go_wp2_with fail
      go_ret
      exact ⟨rfl, HK5.out⟩
    · have hok : lensOk (zs.take len) = true := by
        cases hx : lensOk (zs.take len) with
        | true => rfl
        | false => exact absurd (.inr hx) hb
      exact steps_good W a len cap _ _ _ _ hs hl (by have h2 : ¬ 316 < (zs.take len).length := fun h => hb (.inl h); omega) hok rfl hT rfl rfl

end Go.Proofs.YtofhlnpbflkdlaaDoor
