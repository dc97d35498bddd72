/-
  What the law lends and gets back; the reference's Same of tokens.
-/
import Derived.Test.YtjebfekkaohimaaMtB
import Derived.Test.YtjebfekkaohimaaRawM
import Derived.Laws.StructEq
namespace Go.Proofs.Ytjebfekkaohimaa
open Go.RowKit

theorem Try.tkUnder : Try.prog.underlying 38 = some (.struct (Try.prog.fieldsOf 38)) := by kernel_rfl
theorem Try.tkHeld : Try.prog.stoodInHeld 38 = false := by kernel_rfl
theorem Try.tkGuard : Try.prog.eqGuardType Try.prog.depth 38 = false := by kernel_rfl
set_option maxRecDepth 100000 in
set_option maxHeartbeats 2000000 in
theorem tsame_any (va vb : Value) (I J : Nat → Prop) (xs ys : List TK) (w : World) (ha : TkSrc w I va xs) (hb : TkSrc w J vb ys) (hx : xs.length ≤ 1000000000) (hy : ys.length ≤ 1000000000) :
    Calls Try.prog 20 #[va, vb] w fun e w' => e = .returned (.bool (decide (xs = ys))) ∧ ∃ m, w' = w.drewN m := by
  obtain ⟨ao, ca, rfl, _⟩ := id ha
  obtain ⟨bo, cb, rfl, _⟩ := id hb
  have HA := hid ha
  have HB := hid hb
  clear ha hb
  by_cases hl : xs.length = ys.length
  · have HL : Hid (xs.length = ys.length) := hl
    have hd : ((xs.length : Int) != (ys.length : Int)) = false := by simp [hl]
    clear hl
    go_enter Try.func20, Try.ntmps20
    go_wp2
    clear hd
    go_loopg [5] xs.length (fun k i wr => ∃ j : Nat, j ≤ xs.length ∧ xs.length - j ≤ k ∧ i = .int .i64 j ∧ (∃ m, wr = w.drewN m) ∧ xs.take j = ys.take j)
    case atStart => exact ⟨0, by omega, by omega, rfl, ⟨0, rfl⟩, by simp⟩
    case round =>
      obtain ⟨j, hj, hjk, rfl, ⟨m, rfl⟩, ht⟩ := hrel
      have HT : Hid (xs.take j = ys.take j) := ht
      clear ht
      by_cases hlt : j < xs.length
      · have hlt2 : j < ys.length := by have := HL.out; omega
        obtain ⟨b1, o1, rfl, c1, c2, c3⟩ := HA.out.at (Kept.refl _ w) j hlt
        obtain ⟨b2, o2, rfl, d1, d2, d3⟩ := HB.out.at (Kept.refl _ w) j hlt2
        obtain ⟨x, hx1⟩ : ∃ x, x = xs[j] := ⟨_, rfl⟩
        obtain ⟨y, hy1⟩ : ∃ y, y = ys[j] := ⟨_, rfl⟩
        rw [← hx1] at c1 c2 c3
        rw [← hy1] at d1 d2 d3
        have HX : Hid (x = xs[j]) := hx1
        have HY : Hid (y = ys[j]) := hy1
        obtain ⟨xl, xn, xd⟩ := x
        obtain ⟨yl, yn, yd⟩ := y
        clear hx1 hy1
        simp only at c1 c2 c3 d1 d2 d3
        by_cases he : xl = yl ∧ xn = yn ∧ xd = yd
        · obtain ⟨rfl, rfl, rfl⟩ := he
          go_wp2
          go_quiet (fail)
          go_wp2
          go_roundg (gk - 1)
          case measure => omega
          case rel => exact ⟨j + 1, by omega, by omega, by go_num, ⟨_, rfl⟩, by rw [List.take_succ_eq_append_getElem hlt, List.take_succ_eq_append_getElem hlt2, HT.out, ← HX.out, ← HY.out]⟩
        · have HNE : Hid (¬ xs = ys) := hid (fun e => he (by
            have h9 : (⟨xl, xn, xd⟩ : TK) = ⟨yl, yn, yd⟩ := by rw [HX.out, HY.out]; subst e; rfl
            simpa using h9))
          have hc : ((xl : Int) == (yl : Int)) = false ∨ (xl = yl ∧ (xn == yn) = false) ∨ (xl = yl ∧ xn = yn ∧ (xd == yd) = false) := by
            by_cases h1 : xl = yl
            · by_cases h2 : xn = yn
              · exact .inr (.inr ⟨h1, h2, by simp; exact fun h3 => he ⟨h1, h2, h3⟩⟩)
              · exact .inr (.inl ⟨h1, by simpa using h2⟩)
            · exact .inl (by simp; omega)
          clear he HX HY
          rcases hc with hc | ⟨rfl, hc⟩ | ⟨rfl, rfl, hc⟩
          all_goals
            go_wp2
            go_quiet (fail)
            go_wp2
            go_ret
            exact ⟨by simp [HNE.out], _, drewN_add _ _ _⟩
      · have hjl : j = xs.length := by omega
        subst hjl
        go_wp2
        go_ret
        refine ⟨?_, _, rfl⟩
        have h1 := HT.out
        rw [List.take_of_length_le (Nat.le_refl _), List.take_of_length_le (by have := HL.out; omega)] at h1
        simp [h1]
  · have hd : ((xs.length : Int) != (ys.length : Int)) = true := by simp; omega
    have hne : ¬ xs = ys := fun e => hl (by rw [e])
    have HNE : Hid (¬ xs = ys) := hne
    clear hne hl
    go_enter Try.func20, Try.ntmps20
    go_wp2
    go_ret
    exact ⟨by simp [HNE.out], 0, rfl⟩

def tk0 : TK := ⟨0, 0, 0⟩
def tkMark : TK := ⟨0, -7, 0⟩

theorem Try.infoTk1 : (Try.prog.info? 38).map (·.size) = some 3 := by kernel_rfl

/-- What is lent of tokens: the tokens, and a mark behind them. -/
theorem lent_toks (ts : List TK) (L : Nat) (hL : ts.length = L) : splice ((List.replicate (L + 1) tk0).flatMap tkC) 0 (ts.flatMap tkC) = (ts ++ [tk0]).flatMap tkC := by
  have e1 := flat_length tkC_ok ts
  have e2 : List.replicate (L + 1) tk0 = List.replicate L tk0 ++ [tk0] := List.replicate_succ'
  have e3 : ((List.replicate L tk0).flatMap tkC).length = L * 3 := by rw [flat_length tkC_ok, List.length_replicate]
  rw [splice_head, e1, hL, e2, List.flatMap_append, List.flatMap_append, ← e3, List.drop_left]

theorem mark_toks (ts : List TK) (L : Nat) (hL : ts.length = L) : ((ts ++ [tk0]).flatMap tkC).set (L * 3 + 1) (.int .i64 (-7)) = (ts ++ [tkMark]).flatMap tkC := by
  have e1 := flat_length tkC_ok ts
  rw [List.flatMap_append, List.flatMap_append, List.set_append_right _ _ (by rw [e1, hL]; omega), e1, hL, show L * 3 + 1 - L * 3 = 1 by omega]
  rfl

/-- The head of a block that is known whole, as a slice of tokens. -/
theorem Raw.toks {w : World} {g : Nat} {ss tt : List TK} (h : Raw w g 38 ((ss ++ tt).flatMap tkC)) (cap : Nat) (hc : ss.length ≤ cap) : TkSrc w (fun k => k = g) (.slice (some ⟨g, 0, none⟩) ss.length cap) ss := by
  refine ⟨_, _, rfl, hc, fun _ => ⟨g, 0, rfl, rfl, fun j hj i hi => ?_⟩⟩
  rw [Nat.zero_add, h.cell, flat_get tkC_ok (ss ++ tt) j i (by simp; omega) hi, List.getElem_append_left hj]

set_option maxRecDepth 100000 in
set_option maxHeartbeats 2000000 in
theorem tlent_any (w : World) (I : Nat → Prop) (a : Option Addr) (L cap : Nat) (ts : List TK) (hs : TkSrc w I (.slice a L cap) ts) (hl : ts.length = L) (hlong : L ≤ 10000000) :
    Calls Try.prog 10 #[.slice a L cap] w fun e w' => e = .returned (.slice (some ⟨w.heap.size, 0, none⟩) L (L + 1)) ∧ Raw w' w.heap.size 38 ((ts ++ [tkMark]).flatMap tkC) ∧ Same w w' := by
  have HS := hid hs
  have HL := hid hl
  obtain ⟨L1, hL1⟩ : ∃ x, x = L + 1 := ⟨_, rfl⟩
  have hL1I : (L : Int) + 1 = (L1 : Int) := by omega
  have hLL : L < L1 := by omega
  have HMIN : Hid (Nat.min L L1 = L) := hid (Nat.min_eq_left (by omega))
  have HE1 : Hid ((ts.flatMap tkC).length = L * 3) := hid (by rw [flat_length tkC_ok, hl])
  have HFIT : Hid (0 + (ts.flatMap tkC).length ≤ ((List.replicate L1 tk0).flatMap tkC).length) := hid (by rw [HE1.out, flat_length tkC_ok, List.length_replicate]; omega)
  have HLS : Hid (splice ((List.replicate L1 tk0).flatMap tkC) 0 (ts.flatMap tkC) = (ts ++ [tk0]).flatMap tkC) := hid (by rw [hL1]; exact lent_toks ts L hl)
  have HMK := hid (mark_toks ts L hl)
  have HG0 : Hid (((ts ++ [tk0]).flatMap tkC)[L * 3 + 1]? = some (.int .i64 0)) := hid (by
    have h := flat_get tkC_ok (ts ++ [tk0]) L 1 (by simp; omega) (by decide)
    rw [h, List.getElem_append_right (by omega)]
    simp [tkC, tk0])
  have HL1 := hid hL1
  have hL1b : L1 ≤ 10000001 := by omega
  rw [← hL1]
  clear hs hL1 hl hlong
  go_enter Try.func10, Try.ntmps10
  go_wp2_with (first
    | (at_make; refine wpList_make_c _ tkC 3 tkC_ok tk0 w.heap.size 22 38 (.agg #[.int .u8 0, .int .i64 0, .int .i64 0]) 24 Try.underlying22 Try.infoTk rfl (by decide) rfl _ _ rfl _ _ _ _ L1 rfl rfl rfl rfl (by omega) (Nat.le_refl _) ?_; intro w2 hr2 hg2 hs2; have HR2 : Hid (Raw w2 w.heap.size 38 ((List.replicate L1 tk0).flatMap tkC)) := hid hr2.raw; have HK2 : Hid (Same w w2) := hid ((Kept.refl _ w).grown hg2 (fun j e => by cases e)); clear hr2 hg2)
    | (with_reducible refine atCopy ?_; refine wpList_copy_k _ rfl (.tmp 8) (.tmp 9) 22 22 rfl 38 3 Try.underlying22 Try.infoTk1 w.heap.size 0 L1 L1 a L cap rfl rfl _ 38 HR2.out (ts.flatMap tkC) (by rw [HMIN.out]; exact HE1.out) (fun h => SrcC.cellsAt tkC_ok (SrcC.kept tkC_ok HS.out HK2.out (fun _ _ _ f => f)) (fun e => by rw [e] at h; simp at h)) (by decide) HFIT.out (flat_one tkC_ok _) L HMIN.out ?_; intro w3 hr3 hg3; have HR3 : Hid (Raw w3 w.heap.size 38 ((ts ++ [tk0]).flatMap tkC)) := hid (by rw [← HLS.out]; exact hr3); have HK3 : Hid (Same w w3) := hid (HK2.out.grown hg3 (fun j e => .inr (by injection e with e; omega))); have c1 : w3.cell? ⟨w.heap.size, L * 3 + 1, none⟩ = some (.int .i64 0) := (by rw [HR3.out.cell, HG0.out]); have f1 : w3.frozen? ⟨w.heap.size, L * 3 + 1, none⟩ = false := HR3.out.frozen _; clear hr3 hg3))
  go_ret
  refine ⟨rfl, ?_, HK3.out.setCell _ _ (.inr (Nat.le_refl _))⟩
  rw [← HMK.out]
  exact HR3.out.set _ _

set_option maxRecDepth 100000 in
set_option maxHeartbeats 2000000 in
theorem tback_any (w : World) (g : Nat) (I : Nat → Prop) (a : Option Addr) (L cap : Nat) (ts : List TK) (hr : Raw w g 38 ((ts ++ [tkMark]).flatMap tkC)) (hs : TkSrc w I (.slice a L cap) ts) (hl : ts.length = L) (hlong : L ≤ 10000000) :
    Calls Try.prog 13 #[.slice (some ⟨g, 0, none⟩) L (L + 1), .slice a L cap] w fun e w' => e = .returned (.bool true) ∧ Kept (· = g) w w' := by
  have HS := hid hs
  have HL := hid hl
  have HR := hid hr
  have hsrc : TkSrc w (fun k => k = g) (.slice (some ⟨g, 0, none⟩) L (L + 1)) ts := by have h := hr.toks (L + 1) (by omega); rw [hl] at h; exact h
  have HSM := tsame_any _ _ _ _ ts ts w hsrc hs (by omega) (by omega)
  rw [show decide (ts = ts) = true by simp] at HSM
  have hG : ((ts ++ [tkMark]).flatMap tkC)[L * 3]? = some (.int .u8 0) ∧ ((ts ++ [tkMark]).flatMap tkC)[L * 3 + 1]? = some (.int .i64 (-7)) ∧ ((ts ++ [tkMark]).flatMap tkC)[L * 3 + 2]? = some (.int .i64 0) := by
    have h0 := flat_get tkC_ok (ts ++ [tkMark]) L 0 (by simp; omega) (by decide)
    have h1 := flat_get tkC_ok (ts ++ [tkMark]) L 1 (by simp; omega) (by decide)
    have h2 := flat_get tkC_ok (ts ++ [tkMark]) L 2 (by simp; omega) (by decide)
    rw [Nat.add_zero] at h0
    rw [h0, h1, h2, List.getElem_append_right (by omega)]
    simp [tkC, tkMark]
  have c0 : w.cell? ⟨g, L * 3, none⟩ = some (.int .u8 0) := by rw [hr.cell, hG.1]
  have c1 : w.cell? ⟨g, L * 3 + 1, none⟩ = some (.int .i64 (-7)) := by rw [hr.cell, hG.2.1]
  have c2 : w.cell? ⟨g, L * 3 + 2, none⟩ = some (.int .i64 0) := by rw [hr.cell, hG.2.2]
  have HLEN : Hid (((ts ++ [tkMark]).flatMap tkC).length = 3 * (L + 1)) := hid (by rw [flat_length tkC_ok, List.length_append, hl]; simp; omega)
  obtain ⟨L1, hL1⟩ : ∃ x, x = L + 1 := ⟨_, rfl⟩
  have hL1I : (L : Int) + 1 = (L1 : Int) := by omega
  have hLL : L < L1 := by omega
  have hL1b : L1 ≤ 10000001 := by omega
  rw [← hL1] at HSM HLEN ⊢
  clear hs hl hr hsrc hG hlong hL1
  go_enter Try.func13, Try.ntmps13
  go_wp2_with fail
  refine HSM.mono ?_
  rintro e w1 ⟨rfl, m1, hw1⟩
  have hk1 : Same w w1 := by rw [hw1]; exact (Kept.refl _ w).drewN m1
  have HK1 : Hid (Kept (· = g) w w1) := hid (hk1.mono (fun _ _ f => f.elim))
  have HR1 := hid (HR.out.kept hk1 (fun f => f))
  clear hk1 hw1 HSM c0 c1 c2
  go_wp2_with fail
  go_loopg [7] L1 (fun q zi wr => ∃ (i : Nat) (C : List Value), zi = .int .i64 (i : Nat) ∧ L1 - i ≤ q ∧ i ≤ L1 ∧ Hid (Raw wr g 38 C ∧ C.length = 3 * L1) ∧ Hid (Kept (· = g) w wr))
  case atStart => exact ⟨0, _, rfl, by omega, by omega, hid ⟨HR1.out, HLEN.out⟩, HK1⟩
  case round =>
    clear HR1 HK1
    obtain ⟨i, C, rfl, hq, hi, HC, HK⟩ := hrel
    by_cases hlt : i < L1
    · have hC := HC.out.2
      have e0 := HC.out.1.cell (i * 3)
      have e1 := HC.out.1.cell (i * 3 + 1)
      have e2 := HC.out.1.cell (i * 3 + 2)
      rw [List.getElem?_eq_getElem (by omega)] at e0 e1 e2
      have y0 := HC.out.1.frozen (i * 3)
      have y1 := HC.out.1.frozen (i * 3 + 1)
      have y2 := HC.out.1.frozen (i * 3 + 2)
      generalize C[i * 3]'(by omega) = u0 at e0
      generalize C[i * 3 + 1]'(by omega) = u1 at e1
      generalize C[i * 3 + 2]'(by omega) = u2 at e2
      clear hC
      go_wp2_with fail
      go_roundg (gk - 1)
      case measure => omega
      case rel => exact ⟨i + 1, _, by go_num, by omega, by omega, hid ⟨((HC.out.1.set _ _).set _ _).set _ _, by simp [HC.out.2]⟩, hid (((HK.out.setCell _ _ (.inl rfl)).setCell _ _ (.inl rfl)).setCell _ _ (.inl rfl))⟩
    · go_wp2_with fail
      go_ret
      exact ⟨rfl, HK.out⟩

end Go.Proofs.Ytjebfekkaohimaa
