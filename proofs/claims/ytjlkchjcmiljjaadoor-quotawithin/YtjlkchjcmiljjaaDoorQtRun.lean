/-
  QuotaRuns' walk.
-/
import Derived.Test.YtjlkchjcmiljjaaDoorQtS
import Derived.Test.YtjlkchjcmiljjaaDoorQtRC
namespace Go.Proofs.YtjlkchjcmiljjaaDoor
open Go.RowKit Go.Shelf Go.Maps

theorem SrcC.at5w {w : World} {I : Nat → Prop} {ao : Option Addr} {n c : Nat} {xs : List Ow} (h : SrcC 5 owE w I (.slice ao n c) xs) (j : Nat) (hj : j < n) : ∃ b o t, ao = some ⟨b, o, none⟩ ∧ I b ∧ xs[j]? = some t ∧ w.cell? ⟨b, o + j * 5, none⟩ = some (.int .i64 t.kind) ∧ w.cell? ⟨b, o + j * 5 + 1, none⟩ = some (.string t.tn) ∧ w.cell? ⟨b, o + j * 5 + 2, none⟩ = some (.int .i64 t.u.b) ∧ w.cell? ⟨b, o + j * 5 + 3, none⟩ = some (.int .i64 t.u.e) ∧ w.cell? ⟨b, o + j * 5 + 4, none⟩ = some (.int .i64 t.id) := by
  obtain ⟨a', c', e, hl, hc⟩ := h
  injection e with e1 e2 e3
  have hjx : j < xs.length := by omega
  obtain ⟨b, o, h1, h2, h3⟩ := hc (fun e => by rw [e] at hjx; simp at hjx)
  exact ⟨b, o, xs[j], e1.trans h1, h2, List.getElem?_eq_getElem hjx, h3 j hjx 0 (by omega), h3 j hjx 1 (by omega), h3 j hjx 2 (by omega), h3 j hjx 3 (by omega), h3 j hjx 4 (by omega)⟩

def opN (k : Int) (t : Tn) : Ow := ⟨k, t.n, ⟨0, 0⟩, 0, t.ok, by decide⟩

/-- New, and the reference's New behind it. -/
theorem bo_new {w0 w1 w2 : World} {ao : Option Addr} {n c : Nat} {xs : List Tn} (h : SrcC 4 tnE w0 (fun k => k < w0.heap.size) (.slice ao n c) xs) (h01 : Same w0 w1) {p ma mr : Nat} {bl : List Nat} (hb : Qb w1 p ma mr bl xs (newS xs.length)) (hnw : ∀ k, FQ p ma mr bl k → w0.heap.size ≤ k) {q : Nat} {uv : Value} (hr : Rq w1.heap.size w2 q (.slice ao n c) uv (.slice none 0 0) xs (newS xs.length)) (h12 : Same w1 w2) :
    Bo w0 w1.heap.size w2 p ma mr bl q (.slice ao n c) uv xs (newS xs.length) :=
  ⟨hb.same h12, ⟨_, hr⟩, h.kept tnE_ok (Same.trans h01 h12) (fun _ _ _ f => f), fun k f => ⟨hnw k f, hb.fp_lt f⟩, h01.size, h12.size, Same.trans h01 h12⟩

set_option maxRecDepth 100000 in
set_option maxHeartbeats 4000000 in
theorem runs17 (w : World) (ao : Option Addr) (n c : Nat) (xs : List Tn) (h : SrcC 4 tnE w (fun k => k < w.heap.size) (.slice ao n c) xs) (so : Option Addr) (m sc : Nat) (os : List Ow) (hs : SrcC 5 owE w (fun k => k < w.heap.size) (.slice so m sc) os) :
    Calls Tryd.prog 4 #[.slice ao n c, .slice so m sc] w fun e w' => e = .returned (.bool true) ∧ Same w w' := by
  have HS := hid h
  have HN := hid h.len4
  have HO := hid hs
  have HA : Hid (∀ W, Calls Tryd.prog 13 #[] W fun e w' => e = .returned (.bool true) ∧ Same W w') := hid awake17
  by_cases hgo : n ≤ 1000 ∧ m ≤ 1000
  case neg =>
    have d : decide ((1000 : Int) < (n : Int)) = true ∨ (decide ((1000 : Int) < (n : Int)) = false ∧ decide ((1000 : Int) < (m : Int)) = true) := by
      by_cases e : 1000 < n
      · exact .inl (by simp; omega)
      · exact .inr ⟨by simp; omega, by simp; omega⟩
    clear hgo h hs
    go_enter Tryd.func4, Tryd.ntmps4
    rcases d with d1 | ⟨d1, d2⟩
    all_goals
      go_wp2_with fail
      refine (HA.out _).mono ?_
      rintro e w2 ⟨rfl, hk2⟩
      have HK2 := hid hk2
      clear hk2
      go_wp2_with fail
      go_ret
      exact ⟨rfl, HK2.out⟩
  case pos =>
    have d1 : decide ((1000 : Int) < (n : Int)) = false := by simp; omega
    have d2 : decide ((1000 : Int) < (m : Int)) = false := by simp; omega
    have HM := hid hgo
    have HC := rqcheck_any w ao n c xs _ h
    clear hgo h hs
    go_enter Tryd.func4, Tryd.ntmps4
    go_wp2_with fail
    refine HC.mono ?_
    rintro e w1 ⟨⟨z, rfl, hz⟩, hk1⟩
    have HK1 := hid hk1
    have HZ := hid hz
    clear HC hk1 hz
    by_cases hz0 : z = 0
    case neg =>
      have e0 : (z != 0) = true := by simpa [bne] using hz0
      clear hz0
      go_wp2_with fail
      refine (HA.out _).mono ?_
      rintro e w2 ⟨rfl, hk2⟩
      have HK2 := hid (Same.trans HK1.out hk2)
      clear hk2
      go_wp2_with fail
      go_ret
      exact ⟨rfl, HK2.out⟩
    case pos =>
      subst hz0
      have HG := hid HZ.out.zero
      have HS1 := hid ((HS.out.kept tnE_ok HK1.out (fun _ _ _ f => f)).mono (fun j (hj : j < w.heap.size) => Nat.lt_of_lt_of_le hj HK1.out.size))
      have HNW := qnew_good w1 _ _ _ xs HS1.out HG.out.1 HG.out.2
      clear HZ
      go_wp2_with fail
      refine HNW.mono ?_
      rintro e w2 ⟨p, ma, mr, bl, rfl, hq2, hk2, hnw⟩
      have HK2 := hid (Same.trans HK1.out hk2)
      have HQ2 := hid hq2
      have HFQ : Hid (∀ k, FQ p ma mr bl k → w.heap.size ≤ k) := hid (fun k f => by have := hnw k f; have := HK1.out.size; omega)
      have HRN := rqnew_any w2 ao n c xs ((HS.out.kept tnE_ok HK2.out (fun _ _ _ f => f)).mono (fun j (hj : j < w.heap.size) => Nat.lt_of_lt_of_le hj HK2.out.size)) (by have := HM.out.1; omega)
      clear hq2 hk2 hnw HNW
      go_wp2_with fail
      refine HRN.mono ?_
      rintro e w3 ⟨q, uv, rfl, hr3, hk3⟩
      have HB3 : Hid (Bo w w2.heap.size w3 p ma mr bl q (.slice ao n c) uv xs (newS xs.length)) := hid (bo_new HS.out HK2.out HQ2.out HFQ.out hr3 hk3)
      clear hr3 hk3 HRN
      go_wp2_with fail
      go_loopg [8] m (fun qq z8 wr => ∃ i : Nat, z8 = .int .i64 (i : Nat) ∧ i ≤ m ∧ m - i ≤ qq ∧ ∃ S, Hid (Bo w w2.heap.size wr p ma mr bl q (.slice ao n c) uv xs S ∧ S.last ≤ i))
      case atStart => exact ⟨0, rfl, by omega, by omega, newS xs.length, hid ⟨HB3.out, Nat.le_refl _⟩⟩
      case round =>
        obtain ⟨i, rfl, hi, hiq, S, HI⟩ := hrel
        by_cases hlt : i < m
        · have e1 : decide ((i : Int) < (m : Int)) = true := by simp; omega
          have e2 : decide (i < m) = true := by simp; omega
          obtain ⟨b, o, t, rfl, _, _, k0, k1, k2, k3, k4⟩ := HO.out.at5w i hlt
          have k0 := HI.out.1.same.cell k0 (fun f => f)
          have k1 := HI.out.1.same.cell k1 (fun f => f)
          have k2 := HI.out.1.same.cell k2 (fun f => f)
          have k3 := HI.out.1.same.cell k3 (fun f => f)
          have k4 := HI.out.1.same.cell k4 (fun f => f)
          have c1 : (0 : Int) ≤ (i : Int) := by omega
          have c2 : (i : Int) < (m : Int) := by omega
          have hiw : IntKind.i64.wrap ((i : Int) + 1) = ((i + 1 : Nat) : Int) := by rw [IntKind.wrap_i64]; have := HM.out.2; omega
          have HLT := hid hlt
          have HST := step17 HI.out.1 (by have := HI.out.2; have := HM.out.2; omega) t
          unfold owV at HST
          obtain ⟨gk0, hgk0⟩ : ∃ g, g = gk := ⟨_, rfl⟩
          have HGK := hid hgk0
          clear hgk0 hlt
          go_wp2_with fail
          refine HST.mono ?_
          rintro e w5 ⟨rfl, hb5⟩
          have HB5 := hid hb5
          have HL5 : Hid ((stepS xs S t).last ≤ i + 1) := hid (by have := stepS_last xs S t; have := HI.out.2; omega)
          obtain ⟨S5, hS5⟩ : ∃ s, s = stepS xs S t := ⟨_, rfl⟩
          rw [← hS5] at HB5 HL5
          clear hb5 HST k0 k1 k2 k3 k4 hS5
          go_wp2_with fail
          go_loopg [9] n (fun qq z9 wk => ∃ j : Nat, z9 = .int .i64 (j : Nat) ∧ j ≤ n ∧ n - j ≤ qq ∧ Hid (Bo w w2.heap.size wk p ma mr bl q (.slice ao n c) uv xs S5))
          case atStart => exact ⟨0, rfl, by omega, by omega, HB5⟩
          case round =>
            obtain ⟨j, rfl, hj, hjq, HJ⟩ := hrel
            by_cases hjl : j < n
            · have f1 : decide ((j : Int) < (n : Int)) = true := by simp; omega
              have f2 : decide (j < n) = true := by simp; omega
              obtain ⟨b', o', x, rfl, _, _, j0, _, _, _⟩ := HS.out.at4 j hjl
              have J0 := hid j0
              have j1 := HJ.out.same.cell j0 (fun f => f)
              have g1 : (0 : Int) ≤ (j : Int) := by omega
              have g2 : (j : Int) < (n : Int) := by omega
              have hjw : IntKind.i64.wrap ((j : Int) + 1) = ((j + 1 : Nat) : Int) := by rw [IntKind.wrap_i64]; have := HM.out.1; omega
              have HJL := hid hjl
              have HS2 := step_k2 HJ.out (opN 2 x) rfl
              unfold owV opN at HS2
              clear j0 hjl
              go_wp2_with fail
              refine HS2.mono ?_
              rintro e w6 ⟨rfl, hb6⟩
              have HB6 := hid hb6
              have HS3 := step_k3 hb6 (by have := HL5.out; have := HLT.out; have := HM.out.2; omega) (opN 3 x) rfl
              unfold owV opN at HS3
              clear j1
              have j1 := HB6.out.same.cell J0.out (fun f => f)
              clear hb6 HS2
              go_wp2_with fail
              refine HS3.mono ?_
              rintro e w7 ⟨rfl, hb7⟩
              have HB7 := hid hb7
              clear hb7 HS3 j1
              go_wp2_with fail
              go_roundg (gk - 1)
              case measure => have := HJL.out; omega
              case rel => exact ⟨j + 1, by go_num, HJL.out, by omega, HB7⟩
            · have f1 : decide ((j : Int) < (n : Int)) = false := by simp; omega
              have f2 : decide (j < n) = false := by simp; omega
              clear hjl
              go_wp2_with fail
              go_roundg (gk0 - 1)
              case measure => have := HLT.out; have := HGK.out; omega
              case rel => exact ⟨i + 1, by go_num, HLT.out, by have := HGK.out; omega, S5, hid ⟨HJ.out, HL5.out⟩⟩
        · have e1 : decide ((i : Int) < (m : Int)) = false := by simp; omega
          have e2 : decide (i < m) = false := by simp; omega
          have HSM := hid HI.out.1.same
          clear hlt
          go_wp2_with fail
          refine (HA.out _).mono ?_
          rintro e w9 ⟨rfl, hk9⟩
          have HK9 := hid (Same.trans HSM.out hk9)
          clear hk9
          go_wp2_with fail
          go_ret
          exact ⟨rfl, HK9.out⟩

theorem quotaRuns_all (ao : Option Addr) (n c : Nat) (xs : List Tn) (so : Option Addr) (m sc : Nat) (os : List Ow) (W : World) (h : SrcC 4 tnE W (fun k => k < W.heap.size) (.slice ao n c) xs) (hs : SrcC 5 owE W (fun k => k < W.heap.size) (.slice so m sc) os) (_hT : Mxl W) :
    Calls Tryd.prog 4 #[.slice ao n c, .slice so m sc] W fun e W' => e = .returned (.bool true) ∧ Below W.heap.size W W' :=
  (runs17 W ao n c xs h so m sc os hs).mono fun _ _ ⟨he, hk⟩ => ⟨he, Kept.below hk (Nat.le_refl _) (fun _ _ f => f)⟩

end Go.Proofs.YtjlkchjcmiljjaaDoor
