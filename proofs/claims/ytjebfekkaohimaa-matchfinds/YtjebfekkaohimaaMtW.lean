/-
  The reference's Cost, and the law MatchCosts.
-/
import Derived.Test.YtjebfekkaohimaaMtV
import Derived.BigQuiet
namespace Go.Proofs.Ytjebfekkaohimaa
open Go.RowKit

theorem lenX_rows : ∀ n : Fin 259, 3 ≤ n.val → lenX n.val = (if n.val ≤ 10 ∨ n.val = 258 then 0 else if n.val ≤ 18 then 1 else if n.val ≤ 34 then 2 else if n.val ≤ 66 then 3 else if n.val ≤ 130 then 4 else 5) := by decide +kernel

set_option maxHeartbeats 1000000 in
theorem rlen_any (w : World) (n : Nat) (h3 : 3 ≤ n) (h : n ≤ 258) :
    Calls Try.prog 33 #[.int .i64 (n : Nat)] w fun e w' => e = .returned (.int .i64 (lenX n : Nat)) ∧ w' = w := by
  have hx := lenX_rows ⟨n, by omega⟩ h3
  simp only at hx
  have HX := hid hx
  clear hx
  go_enter Try.func33, Try.ntmps33
  go_wp2
  all_goals
    go_ret
    refine ⟨congrArg Ending.returned (congrArg (Value.int IntKind.i64) ?_), rfl⟩
    rw [HX.out]
    repeat' split
    all_goals first
      | rfl
      | (exfalso; omega)
      | (exfalso; simp_all; omega)

set_option maxRecDepth 100000 in
set_option maxHeartbeats 1000000 in
theorem rdist_any (w : World) (d : Nat) (h1 : 1 ≤ d) (h : d ≤ 20000) :
    Calls Try.prog 34 #[.int .i64 (d : Nat)] w fun e w' => e = .returned (.int .i64 (distX d : Nat)) ∧ w' = w := by
  have HX : Hid (∀ k, distX d ≤ k ↔ d ≤ 4 * 2 ^ k) := hid (fun k => distX_le d k h1)
  have HD : Hid (1 ≤ d) := h1
  clear h1
  go_enter Try.func34, Try.ntmps34
  go_wp2
  go_loopg [3, 4] 14 (fun q zb zm wr => wr = w ∧ ∃ (k p : Nat), zb = .int .i64 (k : Nat) ∧ zm = .int .i64 (p : Nat) ∧ 14 - k ≤ q ∧ k ≤ 14 ∧ 4 ≤ p ∧ p ≤ 65536 ∧ Hid (p = 4 * 2 ^ k ∧ k ≤ distX d))
  case atStart => exact ⟨rfl, 0, 4, rfl, rfl, by omega, by omega, by omega, by omega, hid ⟨by decide, Nat.zero_le _⟩⟩
  case round =>
    obtain ⟨rfl, k, p, rfl, rfl, hq, hk, hp4, hp, HP⟩ := hrel
    by_cases hlt : p < d
    · have hk13 : k < 13 := by
        have h13 : distX d ≤ 13 := (HX.out 13).2 (by omega)
        have := HP.out.2
        rcases Nat.lt_or_ge k 13 with h | h
        · exact h
        · exfalso
          have e : k = 13 := by omega
          have := HP.out.1
          rw [e] at this
          omega
      have hp2 : 2 * p ≤ 65536 := by
        have h9 : 2 ^ k ≤ 2 ^ 12 := Nat.pow_le_pow_right (by decide) (by omega)
        have := HP.out.1
        omega
      have HP2 : Hid (2 * p = 4 * 2 ^ (k + 1) ∧ k + 1 ≤ distX d) := hid (by
        refine ⟨by rw [HP.out.1, Nat.pow_succ]; omega, ?_⟩
        refine Nat.lt_of_not_le (fun hc => ?_)
        have := (HX.out k).1 hc
        have := HP.out.1
        omega)
      go_wp2
      go_roundg (gk - 1)
      case measure => omega
      case rel => exact ⟨rfl, k + 1, 2 * p, by go_num, by go_num, by omega, by omega, by omega, by omega, HP2⟩
    · have HE : Hid (distX d = k) := hid (by
        have h9 := (HX.out k).2 (by have := HP.out.1; omega)
        have := HP.out.2
        omega)
      go_wp2
      go_ret
      exact ⟨by rw [HE.out]; rfl, rfl⟩

set_option maxRecDepth 100000 in
set_option maxHeartbeats 2000000 in
theorem rcost_any (w : World) (v : Value) (I : Nat → Prop) (ts : List TK) (hs : TkSrc w I v ts) (hlen : ts.length ≤ 10000000) :
    Calls Try.prog 22 #[v] w fun e w' => e = .returned (.tuple #[.int .i64 (cosA ts (measT 16384 ts 0) : Nat), .int .i64 (errT (measT 16384 ts 0) : Nat)]) ∧ Same w w' := by
  obtain ⟨ao, cap, rfl, hx1, hx2⟩ := id hs
  clear hx1 hx2
  have HS : Hid (TkSrc w I (.slice ao ts.length cap) ts) := hs
  have HC := rcheck_any w _ I ts hs hlen
  clear hs
  cases hr : measT 16384 ts 0 with
  | error c =>
    have hc := measT_err hr
    rw [hr] at HC
    simp only [errT, cosA] at HC ⊢
    have hcd : ((c : Int) != 0) = true := by simp; omega
    clear hr hc
    go_enter Try.func22, Try.ntmps22
    go_wp2_with fail
    refine HC.mono ?_
    rintro e w1 ⟨rfl, hk⟩
    have HK : Hid (Same w w1) := hk
    clear hk HC
    go_wp2_with fail
    go_ret2
    exact ⟨rfl, HK.out⟩
  | ok n =>
    rw [hr] at HC
    simp only [errT, cosA] at HC ⊢
    have HMS := hid (measT_small hr (Nat.le_refl _))
    have hl16 : ts.length ≤ 16385 := by
      rcases Nat.eq_zero_or_pos ts.length with h0 | h0
      · omega
      · obtain ⟨c, h1, _, h2⟩ := HMS.out (ts.length - 1) (by omega)
        omega
    clear hr
    go_enter Try.func22, Try.ntmps22
    go_wp2_with fail
    refine HC.mono ?_
    rintro e w1 ⟨rfl, hk⟩
    have HK : Hid (Same w w1) := hk
    clear hk HC
    go_wp2_with fail
    go_loopg [5, 6] ts.length (fun q zc zi wr => ∃ (i c : Nat), ts.length - i ≤ q ∧ i ≤ ts.length ∧ zi = .int .i64 (i : Nat) ∧ zc = .int .i64 (c : Nat) ∧ c ≤ 3000 * i ∧ Hid (c = costT (ts.take i)) ∧ Hid (Same w wr))
    case atStart => exact ⟨0, 0, by omega, by omega, rfl, rfl, by omega, hid rfl, HK⟩
    case round =>
      clear HK
      obtain ⟨i, c, hq, hi, rfl, rfl, hc, HCT, HK⟩ := hrel
      by_cases hlt : i < ts.length
      · obtain ⟨b, o, e1, c1, c2, c3⟩ := HS.out.at HK.out i hlt
        subst e1
        obtain ⟨c0, h1, h2, _⟩ := HMS.out i hlt
        have hw3 := widT_small h2 h1
        have HCT2 : Hid (costT (ts.take (i + 1)) = c + widT ts[i]) := hid (by rw [costT_snoc ts i hlt, HCT.out])
        have hcs := mayT_cases h2
        obtain ⟨t, ht⟩ : ∃ t, t = ts[i] := ⟨_, rfl⟩
        rw [← ht] at c1 c2 c3 hw3 HCT2 hcs
        obtain ⟨lit, len, dist⟩ := t
        simp only at c1 c2 c3
        clear ht h2
        rcases hcs with ⟨h0, h1', _⟩ | ⟨n, d, h0, h1', h2, h3, h4, h5, h6, _⟩
        · simp only at h0 h1'
          subst h0 h1'
          by_cases hl : lit < 144
          · have HW : Hid (costT (ts.take (i + 1)) = c + 8) := hid (by rw [HCT2.out]; unfold widT; rw [if_pos rfl, if_pos hl])
            have g : decide ((lit : Int) < 144) = true := by simp; omega
            clear HCT2 hw3
            go_wp2_with fail
            go_roundg (gk - 1)
            case measure => omega
            case rel => exact ⟨i + 1, c + 8, by omega, by omega, by go_num, by go_num, by omega, hid HW.out.symm, HK⟩
          · have HW : Hid (costT (ts.take (i + 1)) = c + 9) := hid (by rw [HCT2.out]; unfold widT; rw [if_pos rfl, if_neg hl])
            have g : decide ((lit : Int) < 144) = false := by simp; omega
            clear HCT2 hw3
            go_wp2_with fail
            go_roundg (gk - 1)
            case measure => omega
            case rel => exact ⟨i + 1, c + 9, by omega, by omega, by go_num, by go_num, by omega, hid HW.out.symm, HK⟩
        · simp only at h0 h1' h2
          subst h0 h1' h2
          have g0 : ((n : Int) == 0) = false := by simp; omega
          have HX := fun m => rlen_any (wr.drewN m) n h3 h4
          have HY := fun m => rdist_any (wr.drewN m) d h5 (by omega)
          obtain ⟨x, hx⟩ : ∃ x, x = lenX n := ⟨_, rfl⟩
          obtain ⟨y, hy⟩ : ∃ y, y = distX d := ⟨_, rfl⟩
          have hx5 : x ≤ 5 := by rw [hx]; exact lenX_le n h4
          have hy12 : y ≤ 12 := by rw [hy]; exact (distX_le d 12 h5).2 (by omega)
          have HW : Hid (costT (ts.take (i + 1)) = c + ((if n < 115 then 12 else 13) + (x + y))) := hid (by rw [HCT2.out]; unfold widT; rw [if_neg (by simp; omega), hx, hy]; simp; split <;> split <;> omega)
          rw [← hx] at HX
          rw [← hy] at HY
          clear hx hy HCT2 hw3 h5 h6
          obtain ⟨s, hsx⟩ : ∃ s : Nat, s = c + 12 + x + y := ⟨_, rfl⟩
          by_cases h115 : n < 115
          · have HW2 : Hid (costT (ts.take (i + 1)) = s) := hid (by rw [HW.out, if_pos h115]; omega)
            clear HW
            go_wp2_with fail
            go_quiet (first | (go_at_call 33; exact Calls.quiet_of_same (HX _)) | (go_at_call 34; exact Calls.quiet_of_same (HY _)))
            go_wp2_with fail
            go_roundg (gk - 1)
            case measure => omega
            case rel => exact ⟨i + 1, s, by omega, by omega, by go_num, by go_num, by omega, hid HW2.out.symm, hid (HK.out.drewN _)⟩
          · have HW2 : Hid (costT (ts.take (i + 1)) = s + 1) := hid (by rw [HW.out, if_neg h115]; omega)
            clear HW
            go_wp2_with fail
            go_quiet (first | (go_at_call 33; exact Calls.quiet_of_same (HX _)) | (go_at_call 34; exact Calls.quiet_of_same (HY _)))
            go_wp2_with fail
            go_roundg (gk - 1)
            case measure => omega
            case rel => exact ⟨i + 1, s + 1, by omega, by omega, by go_num, by go_num, by omega, hid HW2.out.symm, hid (HK.out.drewN _)⟩
      · have hin : i = ts.length := by omega
        have HE : Hid (costT ts = c) := hid (by have h := HCT.out; rw [hin, List.take_length] at h; exact h.symm)
        clear hin
        go_wp2_with fail
        go_ret2
        exact ⟨by rw [HE.out]; rfl, HK.out⟩

set_option maxRecDepth 100000 in
set_option maxHeartbeats 2000000 in
theorem mcosts_good (W : World) (a : Option Addr) (L cap : Nat) (ts : List TK) (hs : TkSrc W (fun k => k < W.heap.size) (.slice a L cap) ts) (hl : ts.length = L) (hlong : L ≤ 1048576) :
    Calls Try.prog 5 #[.slice a L cap] W fun e w' => e = .returned (.bool true) ∧ Same W w' := by
  have HS : Hid (TkSrc W (fun k => k < W.heap.size) (.slice a L cap) ts) := hs
  have HL : Hid (ts.length = L) := hl
  have b1 : decide ((1048576 : Int) < (L : Int)) = false := by simp; omega
  have H1 := tlent_any W _ a L cap ts hs hl (by omega)
  obtain ⟨L1, hL1⟩ : ∃ x, x = L + 1 := ⟨_, rfl⟩
  have HL1 := hid hL1
  rw [← hL1] at H1
  have hLb : L ≤ 1048576 := hlong
  obtain ⟨c, hc⟩ : ∃ c, c = cosA ts (measT 16384 ts 0) := ⟨_, rfl⟩
  obtain ⟨k, hk⟩ : ∃ k, k = errT (measT 16384 ts 0) := ⟨_, rfl⟩
  have HC : Hid (cosA ts (measT 16384 ts 0) = c ∧ errT (measT 16384 ts 0) = k) := hid ⟨hc.symm, hk.symm⟩
  obtain ⟨g1, hg1⟩ : ∃ g, g = W.heap.size := ⟨_, rfl⟩
  have HG1 := hid hg1
  rw [← hg1] at H1
  clear hs hL1 hl hlong hc hk hg1
  go_enter Try.func5, Try.ntmps5
  go_wp2_with fail
  refine H1.mono ?_
  rintro e w1 ⟨rfl, hr1, hk1⟩
  have HK1 := hid hk1
  have HR1 := hid hr1
  have hsrc : TkSrc w1 (fun k => k = g1) (.slice (some ⟨g1, 0, none⟩) L L1) ts := by have h := hr1.toks L1 (by have := HL1.out; have := HL.out; omega); rw [HL.out] at h; exact h
  have H2 := mcost_any w1 _ _ ts hsrc (by rw [HL.out]; omega)
  rw [HC.out.1, HC.out.2] at H2
  clear hr1 hk1 hsrc H1
  go_wp2_with fail
  refine H2.mono ?_
  rintro e w3 ⟨rfl, hk3⟩
  have HK3 := hid (Same.trans HK1.out hk3)
  have H4 := tback_any w3 g1 _ a L cap ts (HR1.out.kept hk3 (fun f => f)) (SrcC.kept tkC_ok HS.out HK3.out (fun _ _ _ f => f)) HL.out (by omega)
  rw [← HL1.out] at H4
  clear hk3 H2
  go_wp2_with fail
  refine H4.mono ?_
  rintro e w4 ⟨rfl, hk4⟩
  have HK4 : Hid (Same W w4) := hid (Same.then HK3.out hk4 (fun x hx e => by have := HG1.out; omega))
  have H5 := rcost_any w4 _ _ ts (SrcC.kept tkC_ok HS.out HK4.out (fun _ _ _ f => f)) (by rw [HL.out]; omega)
  rw [HC.out.1, HC.out.2] at H5
  clear hk4 H4 HR1 HK1 HK3
  go_wp2_with fail
  refine H5.mono ?_
  rintro e w5 ⟨rfl, hk5⟩
  have HK5 := hid (Same.trans HK4.out hk5)
  have H9 := mawake_any w5
  clear hk5 H5 HK4
  go_wp2_with fail
  refine H9.mono ?_
  rintro e w9 ⟨rfl, hk9⟩
  have HK9 := hid (Same.trans HK5.out hk9)
  clear hk9 H9 HK5
  go_wp2_with fail
  go_ret
  exact ⟨by simp, HK9.out⟩

set_option maxHeartbeats 1000000 in
theorem matchCosts_all (a : Option Addr) (len cap : Nat) (ts : List TK) (W : World) (hs : TkSrc W (fun k => k < W.heap.size) (.slice a len cap) ts) (hl : ts.length = len) (_ : a = none → cap = 0) :
    Calls Try.prog 5 #[.slice a len cap] W fun e w' => e = .returned (.bool true) ∧ Below W.heap.size W w' := by
  suffices H : Calls Try.prog 5 #[.slice a len cap] W fun e w' => e = .returned (.bool true) ∧ Same W w' from H.mono (fun e w' h => ⟨h.1, h.2.bel6⟩)
  have HAW := mawake_any W
  by_cases hlong : 1048576 < len
  · have b1 : decide ((1048576 : Int) < (len : Int)) = true := by simp; omega
    clear hlong hl hs
    go_enter Try.func5, Try.ntmps5
    go_wp2_with fail
    refine HAW.mono ?_
    rintro e w5 ⟨rfl, hk5⟩
    have HK5 : Hid (Same W w5) := hk5
    clear hk5 HAW
    go_wp2_with fail
    go_ret
    exact ⟨rfl, HK5.out⟩
  · exact mcosts_good W a len cap ts hs hl (by omega)

end Go.Proofs.Ytjebfekkaohimaa
