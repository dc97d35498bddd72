/-
  The law MatchJoins.
-/
import Derived.Test.YtjebfekkaohimaaMtU
namespace Go.Proofs.Ytjebfekkaohimaa
open Go.RowKit

set_option maxRecDepth 100000 in
set_option maxHeartbeats 4000000 in
theorem mjoins_good (W : World) (a : Option Addr) (L cap : Nat) (ts : List TK) (a' : Option Addr) (L' cap' : Nat) (us : List TK) (hs : TkSrc W (fun k => k < W.heap.size) (.slice a L cap) ts) (hl : ts.length = L) (hs' : TkSrc W (fun k => k < W.heap.size) (.slice a' L' cap') us) (hl' : us.length = L') (ha' : a' = none → cap' = 0) (hlong : L ≤ 1048576) (hlong' : L' ≤ 1048576) :
    Calls Try.prog 8 #[.slice a L cap, .slice a' L' cap'] W fun e w' => e = .returned (.bool true) ∧ Same W w' := by
  have HS : Hid (TkSrc W (fun k => k < W.heap.size) (.slice a L cap) ts) := hs
  have HS' : Hid (TkSrc W (fun k => k < W.heap.size) (.slice a' L' cap') us) := hs'
  have HA' : Hid (a' = none → cap' = 0) := ha'
  have HL : Hid (ts.length = L ∧ L ≤ 1048576) := ⟨hl, hlong⟩
  have HL' : Hid (us.length = L' ∧ L' ≤ 1048576) := ⟨hl', hlong'⟩
  have b1 : decide ((1048576 : Int) < (L : Int)) = false := by simp; omega
  have b2 : decide ((1048576 : Int) < (L' : Int)) = false := by simp; omega
  have H1 := mexp_un W _ _ ts 16384 hs (by omega)
  clear hs hs' hl hl' ha' hlong hlong'
  obtain ⟨e1, he1⟩ : ∃ c, c = expC ts 16384 := ⟨_, rfl⟩
  obtain ⟨e2, he2⟩ : ∃ c, c = expC us 16384 := ⟨_, rfl⟩
  obtain ⟨A, hA⟩ : ∃ c, c = expD ts 16384 := ⟨_, rfl⟩
  obtain ⟨B, hB⟩ : ∃ c, c = expD us 16384 := ⟨_, rfl⟩
  have HC : Hid (expC ts 16384 = e1 ∧ expC us 16384 = e2 ∧ expD ts 16384 = A ∧ expD us 16384 = B) := hid ⟨he1.symm, he2.symm, hA.symm, hB.symm⟩
  rw [← he1, ← hA] at H1
  clear he1 he2 hA hB
  go_enter Try.func8, Try.ntmps8
  go_wp2_with fail
  refine H1.mono ?_
  rintro e w1 ⟨v1, rfl, hf1⟩
  have HF1 := hid hf1
  have H2 := mexp_un w1 _ _ us 16384 (SrcC.kept tkC_ok HS'.out hf1.kept (fun _ _ _ f => f)) (by have := HL'.out; omega)
  rw [HC.out.2.1, HC.out.2.2.2] at H2
  clear hf1 H1
  go_wp2_with fail
  refine H2.mono ?_
  rintro e w2 ⟨v2, rfl, hf2⟩
  have HF2 := hid hf2
  have HK2 := hid (Same.trans HF1.out.kept hf2.kept)
  have HA2 := hid (HF1.out.later hf2.kept (fun _ f => f.elim))
  clear hf2 H2
  by_cases hok : e1 = 0 ∧ e2 = 0
  case neg =>
    have H9 := mawake_any w2
    by_cases h1 : e1 = 0
    · have h2 : ((e2 : Int) != 0) = true := by simp; omega
      clear hok
      subst h1
      go_wp2_with fail
      refine H9.mono ?_
      rintro e w9 ⟨rfl, hk9⟩
      have HK9 := hid (Same.trans HK2.out hk9)
      clear hk9 H9
      go_wp2_with fail
      go_ret
      exact ⟨rfl, HK9.out⟩
    · have h2 : ((e1 : Int) != 0) = true := by simp; omega
      clear hok h1
      go_wp2_with fail
      refine H9.mono ?_
      rintro e w9 ⟨rfl, hk9⟩
      have HK9 := hid (Same.trans HK2.out hk9)
      clear hk9 H9
      go_wp2_with fail
      go_ret
      exact ⟨rfl, HK9.out⟩
  case pos =>
    obtain ⟨rfl, rfl⟩ := hok
    obtain ⟨na, hna⟩ := expC_ok HC.out.1
    obtain ⟨nb, hnb⟩ := expC_ok HC.out.2.1
    have HNA := hid hna
    have HNB := hid hnb
    have hna16 := (measT_le hna (Nat.zero_le _)).2
    have hnb16 := (measT_le hnb (Nat.zero_le _)).2
    have HAB : Hid (A = expT ts [] ∧ B = expT us [] ∧ A.length = na ∧ B.length = nb) := hid (by
      have h1 := exp_ok hna
      have h2 := exp_ok hnb
      have hc := HC.out
      exact ⟨by rw [← hc.2.2.1, h1.2.1], by rw [← hc.2.2.2, h2.2.1], by rw [← hc.2.2.1, h1.2.1, h1.2.2], by rw [← hc.2.2.2, h2.2.1, h2.2.2]⟩)
    have H3 := tlent_any w2 _ a L cap ts (SrcC.kept tkC_ok HS.out HK2.out (fun _ _ _ f => f)) HL.out.1 (by have := HL.out; omega)
    obtain ⟨L1, hL1⟩ : ∃ x, x = L + 1 := ⟨_, rfl⟩
    have HL1 := hid hL1
    obtain ⟨g3, hg3⟩ : ∃ g, g = w2.heap.size := ⟨_, rfl⟩
    have HG3 := hid hg3
    rw [← hL1, ← hg3] at H3
    clear hL1 hg3 hna hnb
    go_wp2_with fail
    refine H3.mono ?_
    rintro e w3 ⟨rfl, hr3, hk3⟩
    have HK3 := hid (Same.trans HK2.out hk3)
    have HA3 := hid (HA2.out.later hk3 (fun _ f => f.elim))
    have HB3 := hid (HF2.out.later hk3 (fun _ f => f.elim))
    have hlt3 : g3 < w3.heap.size := (Array.getElem?_eq_some_iff.1 hr3).1
    have HR3 : Hid (RowC g3 38 3 tkC w3 (.slice (some ⟨g3, 0, none⟩) L L1) ts) := hid (by
      have h := hr3.row6 (by have := HL.out; omega)
      rw [HL.out.1, ← HL1.out] at h
      exact h)
    have HBL : Hid ((∀ k, v1.ownBlock = some k → W.heap.size ≤ k ∧ k < g3) ∧ (∀ k, v2.ownBlock = some k → k < g3)) := hid ⟨fun k hk => ⟨HA2.out.new k hk, by rw [HG3.out]; exact HA2.out.row.lt hk⟩, fun k hk => by rw [HG3.out]; exact HF2.out.row.lt hk⟩
    have HS3' := hid (SrcC.kept tkC_ok HS'.out HK3.out (fun _ _ _ f => f))
    have HLL : Hid (ts.length + us.length ≤ 1000000000) := hid (by have := HL.out; have := HL'.out; omega)
    clear hr3 hk3 H3 HA2 HF1 HF2
    go_wp2_with (at_builtin; refine wpList_append_cx _ tkC 3 tkC_ok (by decide) g3 22 38 (.agg #[.int .u8 0, .int .i64 0, .int .i64 0]) 24 Try.underlying22 Try.infoTk rfl (by decide) rfl (.tmp 45) (.tmp 46) rfl (.slice (some ⟨g3, 0, none⟩) L L1) ts rfl HR3.out _ a' L' cap' us rfl HS3'.out HA'.out HLL.out (by omega) ?_)
    intro v4 w4 hr4 hg4
    have hk34 : Kept (· = g3) w3 w4 := (Kept.refl _ w3).grown hg4 (fun j e => .inl (by injection e with e; exact e.symm))
    have HK4 : Hid (Same W w4) := hid (Same.then HK3.out hk34 (fun x hx e => by have h9 := HG3.out; have := HK2.out.size; omega))
    have HA4 : Hid (Row w4 v1 A) := hid (HA3.out.row.kept hk34 (fun k hk e => by have := (HBL.out.1 k hk).2; omega))
    have HB4 : Hid (Row w4 v2 B) := hid (HB3.out.row.kept hk34 (fun k hk e => by have := HBL.out.2 k hk; omega))
    have HX4 : Hid (RowC g3 38 3 tkC w4 v4 (ts ++ us)) := hid hr4
    have hg34 : g3 ≤ w4.heap.size := by have := hk34.size; omega
    have HLX : Hid ((ts ++ us).length ≤ 10000000) := hid (by rw [List.length_append]; have := HL.out; have := HL'.out; omega)
    have H5 := mexp_un w4 _ _ (ts ++ us) 16384 (SrcC.ofRow tkC_ok hr4) HLX.out
    obtain ⟨p1, c1, hv1, _⟩ := HA4.out.shape
    obtain ⟨p2, c2, hv2, _⟩ := HB4.out.shape
    rw [HAB.out.2.2.1] at hv1
    rw [HAB.out.2.2.2] at hv2
    subst hv1 hv2
    have HMJ := hid (measT_join HNA.out HNB.out)
    clear hr4 hg4 hk34 HA3 HB3 HR3 HS3'
    by_cases hbig : 16384 < na + nb
    · have hm := HMJ.out
      rw [if_neg (by omega)] at hm
      rw [(exp_long hm).1, (exp_long hm).2] at H5
      clear hm
      go_wp2_with fail
      refine H5.mono ?_
      rintro e w5 ⟨v5, rfl, hf5⟩
      have HK5 := hid (Same.trans HK4.out hf5.kept)
      have H9 := mawake_any w5
      clear hf5 H5
      go_wp2_with fail
      refine H9.mono ?_
      rintro e w9 ⟨rfl, hk9⟩
      have HK9 := hid (Same.trans HK5.out hk9)
      clear hk9 H9
      go_wp2_with fail
      go_ret
      exact ⟨rfl, HK9.out⟩
    · have hm := HMJ.out
      rw [if_pos (by omega)] at hm
      have HMX := hid hm
      rw [(exp_ok hm).1, (exp_ok hm).2.1, expT_join HNB.out, ← HAB.out.1, ← HAB.out.2.1] at H5
      obtain ⟨m, hmm⟩ : ∃ m, m = costT ts := ⟨_, rfl⟩
      obtain ⟨n, hnn⟩ : ∃ n, n = costT us := ⟨_, rfl⟩
      obtain ⟨s, hss⟩ : ∃ s : Nat, s = m + n := ⟨_, rfl⟩
      have hmb : m ≤ 60000000 := by rw [hmm]; exact costT_small HNA.out
      have hnb' : n ≤ 60000000 := by rw [hnn]; exact costT_small HNB.out
      have hsum : (m : Int) + (n : Int) = (s : Int) := by omega
      have HCO : Hid (costT ts = m ∧ costT us = n ∧ costT (ts ++ us) = s) := hid ⟨hmm.symm, hnn.symm, by rw [costT_join, hss, hmm, hnn]⟩
      clear hm hmm hnn hss
      go_wp2_with fail
      refine H5.mono ?_
      rintro e w5 ⟨v5, rfl, hf5⟩
      have HK5 := hid (Same.trans HK4.out hf5.kept)
      have HA5 := hid (HA4.out.kept hf5.kept (fun _ _ f => f))
      have HB5 := hid (HB4.out.kept hf5.kept (fun _ _ f => f))
      have HX5 := hid (RowC.kept HX4.out hf5.kept (fun _ _ f => f))
      have HC5 := hid hf5.row
      have HN5 : Hid (∀ k, v5.ownBlock = some k → g3 ≤ k) := hid (fun k hk => by have := hf5.new k hk; omega)
      have H6 := mcost_any w5 _ _ ts (SrcC.kept tkC_ok HS.out HK5.out (fun _ _ _ f => f)) (by have := HL.out; omega)
      rw [HNA.out] at H6
      simp only [cosA, errT, HCO.out.1] at H6
      clear hf5 H5 HA4 HB4 HX4 HK4
      go_wp2_with fail
      refine H6.mono ?_
      rintro e w6 ⟨rfl, hk6⟩
      have HK6 := hid (Same.trans HK5.out hk6)
      have H7 := mcost_any w6 _ _ us (SrcC.kept tkC_ok HS'.out HK6.out (fun _ _ _ f => f)) (by have := HL'.out; omega)
      rw [HNB.out] at H7
      simp only [cosA, errT, HCO.out.2.1] at H7
      have HKa := hid hk6
      clear hk6 H6
      go_wp2_with fail
      refine H7.mono ?_
      rintro e w7 ⟨rfl, hk7⟩
      have HKb := hid (Same.trans HKa.out hk7)
      have H8 := mcost_any w7 _ _ (ts ++ us) (SrcC.ofRow tkC_ok (RowC.kept HX5.out HKb.out (fun _ _ f => f))) HLX.out
      rw [HMX.out] at H8
      simp only [cosA, errT, HCO.out.2.2] at H8
      clear hk7 H7
      go_wp2_with fail
      refine H8.mono ?_
      rintro e w8 ⟨rfl, hk8⟩
      have HKc := hid (Same.trans HKb.out hk8)
      have H9 := mawake_any w8
      clear hk8 H8
      go_wp2_with fail
      refine H9.mono ?_
      rintro e w9 ⟨rfl, hk9⟩
      have HKd := hid (Same.trans HKc.out hk9)
      have HA9 := hid (HA5.out.kept HKd.out (fun _ _ f => f))
      have HB9 := hid (HB5.out.kept HKd.out (fun _ _ f => f))
      have HC9 := hid (HC5.out.kept HKd.out (fun _ _ f => f))
      have HK9 := hid (Same.trans HK5.out HKd.out)
      have HNL : Hid (∀ n c, (Value.slice p2 nb c2) = .slice none n c → n = 0 ∧ c = 0) := hid (fun n c e => by have h := HB9.out; rw [e] at h; exact h.none6)
      have HLN : Hid (A.length + B.length ≤ 1000000000000) := hid (by have := HAB.out; omega)
      clear hk9 H9 HA5 HB5 HC5 HX5
      go_wp2_with (at_builtin; refine wpList_wanted rfl ?_; refine wpList_append_any _ rfl (.tmp 86) (.tmp 87) rfl (.slice p1 na c1) A rfl HA9.out _ (.slice p2 nb c2) B rfl HNL.out (Src.ofRow HB9.out) HLN.out ?_)
      intro v10 w10 hr10 hg10 ho10
      have HK10 : Hid (Same W w10) := hid (HK9.out.grown hg10 (fun k hk => .inr (HBL.out.1 k hk).1))
      have HC10 : Hid (Row w10 v5 (A ++ B)) := hid (HC9.out.kept (F := fun k => Value.ownBlock (.slice p1 na c1) = some k) ((Kept.refl _ w9).grown hg10 (fun k hk => .inl hk)) (fun k hk e => by have h1 := HN5.out k hk; have h2 := (HBL.out.1 k e).2; omega))
      have H11 := bsame_any v5 v10 _ _ (A ++ B) (A ++ B) w10 (Src.ofRow HC10.out) (Src.ofRow hr10) (by rw [List.length_append]; exact HLN.out) (by rw [List.length_append]; exact HLN.out)
      rw [show decide (A ++ B = A ++ B) = true by simp] at H11
      clear hr10 hg10 ho10
      go_wp2_with fail
      refine H11.mono ?_
      rintro e w11 ⟨rfl, m11, hw11⟩
      have HK11 : Hid (Same W w11) := hid (by rw [hw11]; exact HK10.out.drewN m11)
      clear hw11 H11
      go_wp2_with fail
      go_ret
      exact ⟨by simp, HK11.out⟩

set_option maxHeartbeats 1000000 in
theorem matchJoins_all (a : Option Addr) (len cap : Nat) (ts : List TK) (a' : Option Addr) (len' cap' : Nat) (us : List TK) (W : World) (hs : TkSrc W (fun k => k < W.heap.size) (.slice a len cap) ts) (hl : ts.length = len) (_ : a = none → cap = 0) (hs' : TkSrc W (fun k => k < W.heap.size) (.slice a' len' cap') us) (hl' : us.length = len') (ha' : a' = none → cap' = 0) :
    Calls Try.prog 8 #[.slice a len cap, .slice a' len' cap'] W fun e w' => e = .returned (.bool true) ∧ Below W.heap.size W w' := by
  suffices H : Calls Try.prog 8 #[.slice a len cap, .slice a' len' cap'] W fun e w' => e = .returned (.bool true) ∧ Same W w' from H.mono (fun e w' h => ⟨h.1, h.2.bel6⟩)
  have HAW := mawake_any W
  by_cases hlong : 1048576 < len
  · have b1 : decide ((1048576 : Int) < (len : Int)) = true := by simp; omega
    clear hlong hl hs hl' hs' ha'
    go_enter Try.func8, Try.ntmps8
    go_wp2_with fail
    refine HAW.mono ?_
    rintro e w5 ⟨rfl, hk5⟩
    have HK5 : Hid (Same W w5) := hk5
    clear hk5 HAW
    go_wp2_with fail
    go_ret
    exact ⟨rfl, HK5.out⟩
  · by_cases hlong' : 1048576 < len'
    · have b1 : decide ((1048576 : Int) < (len : Int)) = false := by simp; omega
      have b2 : decide ((1048576 : Int) < (len' : Int)) = true := by simp; omega
      clear hlong hl hs hl' hs' ha' hlong'
      go_enter Try.func8, Try.ntmps8
      go_wp2_with fail
      refine HAW.mono ?_
      rintro e w5 ⟨rfl, hk5⟩
      have HK5 : Hid (Same W w5) := hk5
      clear hk5 HAW
      go_wp2_with fail
      go_ret
      exact ⟨rfl, HK5.out⟩
    · exact mjoins_good W a len cap ts a' len' cap' us hs hl hs' hl' ha' (by omega) (by omega)

end Go.Proofs.Ytjebfekkaohimaa
