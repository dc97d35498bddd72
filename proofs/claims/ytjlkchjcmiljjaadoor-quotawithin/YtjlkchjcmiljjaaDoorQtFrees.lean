/-
  QuotaFrees' walk.
-/
import Derived.Test.YtjlkchjcmiljjaaDoorQtRun
import Derived.Test.YtjlkchjcmiljjaaDoorQtFr2
import Derived.BigQuiet
namespace Go.Proofs.YtjlkchjcmiljjaaDoor
open Go.RowKit Go.Shelf Go.Maps

theorem cellsAt_us (W : World) (u : Us) : CellsAt (W.alloc (.cells #[.int .i64 u.b, .int .i64 u.e] 31)) ⟨W.heap.size, 0, none⟩ ([u].flatMap usE) := by
  have hb := Blk.new W #[.int .i64 u.b, .int .i64 u.e] 31
  intro j v hv
  rw [addAt, Nat.zero_add]
  simp only [List.flatMap_cons, List.flatMap_nil, List.append_nil, usE] at hv
  match j, hv with
  | 0, hv => exact (hb.cell 0).trans hv
  | 1, hv => exact (hb.cell 1).trans hv
  | j + 2, hv => simp at hv

set_option maxRecDepth 100000 in
set_option maxHeartbeats 4000000 in
theorem frees17 (w : World) (ao : Option Addr) (n c : Nat) (xs : List Tn) (h : SrcC 4 tnE w (fun k => k < w.heap.size) (.slice ao n c) xs) (so : Option Addr) (m sc : Nat) (os : List Ow) (hs : SrcC 5 owE w (fun k => k < w.heap.size) (.slice so m sc) os) (s : Nm) (u : Us) :
    Calls Tryd.prog 6 #[.slice ao n c, .slice so m sc, .string s.s, .agg #[.int .i64 u.b, .int .i64 u.e]] w fun e w' => e = .returned (.bool true) ∧ Same w w' := by
  obtain ⟨W1, hW1⟩ : ∃ W, W = w.alloc (.cells #[.int .i64 u.b, .int .i64 u.e] 31) := ⟨_, rfl⟩
  obtain ⟨b7, hb7⟩ : ∃ b, b = w.heap.size := ⟨_, rfl⟩
  have HB7 : Hid (Blk W1 b7 #[.int .i64 u.b, .int .i64 u.e] 31) := hid (by rw [hW1, hb7]; exact Blk.new w _ _)
  have HK1 : Hid (Same w W1) := hid (by rw [hW1]; exact (Kept.refl _ w).alloc _)
  have HS1 := hid ((h.kept tnE_ok HK1.out (fun _ _ _ f => f)).mono (fun j (hj : j < w.heap.size) => Nat.lt_of_lt_of_le hj HK1.out.size))
  have HO := hid (hs.kept owE_ok HK1.out (fun _ _ _ f => f))
  have HN := hid h.len4
  have HA : Hid (∀ W, Calls Tryd.prog 13 #[] W fun e w' => e = .returned (.bool true) ∧ Same W w') := hid awake17
  by_cases hgo : n ≤ 1000 ∧ m ≤ 1000
  case neg =>
    have d : decide ((1000 : Int) < (n : Int)) = true ∨ (decide ((1000 : Int) < (n : Int)) = false ∧ decide ((1000 : Int) < (m : Int)) = true) := by
      by_cases e : 1000 < n
      · exact .inl (by simp; omega)
      · exact .inr ⟨by simp; omega, by simp; omega⟩
    clear hgo h hs
    go_enter Tryd.func6, Tryd.ntmps6
    go_upto_region 1 with fail
    rw [← hW1, ← hb7]
    clear hW1 hb7
    rcases d with d1 | ⟨d1, d2⟩
    all_goals
      go_wp2_with fail
      go_ret
      exact ⟨rfl, HK1.out⟩
  case pos =>
    have d1 : decide ((1000 : Int) < (n : Int)) = false := by simp; omega
    have d2 : decide ((1000 : Int) < (m : Int)) = false := by simp; omega
    have HM := hid hgo
    clear hgo h hs
    obtain ⟨z, hz⟩ := CkT.ex xs
    by_cases hz0 : z = 0
    case neg =>
      have e0 : (z == 0) = false := by simpa using hz0
      have e1 : (z != 0) = true := by simpa [bne] using hz0
      have HNW := qnew_bad W1 ao n c xs _ HS1.out z hz e0
      clear hz hz0
      go_enter Tryd.func6, Tryd.ntmps6
      go_upto_region 1 with fail
      rw [← hW1, ← hb7]
      clear hW1 hb7
      go_wp2_with fail
      refine HNW.mono ?_
      rintro e w2 ⟨rfl, hk2⟩
      have HK2 := hid (Same.trans HK1.out hk2)
      clear hk2 HNW
      go_wp2_with fail
      refine (HA.out _).mono ?_
      rintro e w3 ⟨rfl, hk3⟩
      have HK3 := hid (Same.trans HK2.out hk3)
      clear hk3
      go_wp2_with fail
      go_ret
      exact ⟨rfl, HK3.out⟩
    case pos =>
      subst hz0
      have HG := hid hz.zero
      have HNW := qnew_good W1 _ _ _ xs HS1.out HG.out.1 HG.out.2
      clear hz
      go_enter Tryd.func6, Tryd.ntmps6
      go_upto_region 1 with fail
      rw [← hW1, ← hb7]
      clear hW1 hb7
      go_wp2_with fail
      refine HNW.mono ?_
      rintro e w2 ⟨p, ma, mr, bl, rfl, hq2, hk2, hnw⟩
      have HK2 := hid hk2
      have HQ2 := hid hq2
      have HFQ := hid hnw
      have HRN := rqnew_any w2 ao n c xs ((HS1.out.kept tnE_ok HK2.out (fun _ _ _ f => f)).mono (fun j (hj : j < W1.heap.size) => Nat.lt_of_lt_of_le hj HK2.out.size)) (by have := HM.out.1; omega)
      clear hq2 hk2 hnw HNW
      go_wp2_with fail
      refine HRN.mono ?_
      rintro e w3 ⟨q, uv, rfl, hr3, hk3⟩
      have HB3 : Hid (Bo W1 w2.heap.size w3 p ma mr bl q (.slice ao n c) uv xs (newS xs.length)) := hid (bo_new HS1.out HK2.out HQ2.out HFQ.out hr3 hk3)
      clear hr3 hk3 HRN
      go_wp2_with fail
      go_loopg [12] m (fun qq z8 wr => ∃ i : Nat, z8 = .int .i64 (i : Nat) ∧ i ≤ m ∧ m - i ≤ qq ∧ ∃ S, Hid (Bo W1 w2.heap.size wr p ma mr bl q (.slice ao n c) uv xs S ∧ S.last ≤ i))
      case atStart => exact ⟨0, rfl, by omega, by omega, newS xs.length, hid ⟨HB3.out, Nat.le_refl _⟩⟩
      case round =>
        obtain ⟨i, rfl, hi, hiq, S, HI⟩ := hrel
        by_cases hlt : i < m
        · have e1 : decide ((i : Int) < (m : Int)) = true := by simp; omega
          have e2 : decide (i < m) = true := by simp; omega
          obtain ⟨b, o, t, rfl, _, _, k0, k1, k2, k3, k4⟩ := HO.out.at5w i hlt
          have k0 := HI.out.1.same.cell k0 (fun f => f)
          have k1 := HI.out.1.same.cell k1 (fun f => f)
          have k2 := HI.out.1.same.cell k2 (fun f => f)
          have k3 := HI.out.1.same.cell k3 (fun f => f)
          have k4 := HI.out.1.same.cell k4 (fun f => f)
          have c1 : (0 : Int) ≤ (i : Int) := by omega
          have c2 : (i : Int) < (m : Int) := by omega
          have hiw : IntKind.i64.wrap ((i : Int) + 1) = ((i + 1 : Nat) : Int) := by rw [IntKind.wrap_i64]; have := HM.out.2; omega
          have HLT := hid hlt
          have HST := step17 HI.out.1 (by have := HI.out.2; have := HM.out.2; omega) t
          unfold owV at HST
          clear hlt
          go_wp2_with fail
          refine HST.mono ?_
          rintro e w5 ⟨rfl, hb5⟩
          have HB5 := hid hb5
          have HL5 : Hid ((stepS xs S t).last ≤ i + 1) := hid (by have := stepS_last xs S t; have := HI.out.2; omega)
          clear hb5 HST k0 k1 k2 k3 k4
          go_wp2_with fail
          go_roundg (gk - 1)
          case measure => have := HLT.out; omega
          case rel => exact ⟨i + 1, by go_num, HLT.out, by omega, _, hid ⟨HB5.out, HL5.out⟩⟩
        · have e1 : decide ((i : Int) < (m : Int)) = false := by simp; omega
          have e2 : decide (i < m) = false := by simp; omega
          obtain ⟨V9, rfl⟩ : ∃ W, W = wr := ⟨_, rfl⟩
          have HQ9 := hid HI.out.1.bk
          have HK9 := hid HI.out.1.same
          have HL9 : Hid (S.last ≤ 1000) := hid (by have := HI.out.2; have := HM.out.2; omega)
          have HFL : Hid (∀ k, FQ p ma mr bl k → W1.heap.size ≤ k ∧ k < V9.heap.size) := hid (fun k f => ⟨HFQ.out k f, HQ9.out.fp_lt f⟩)
          clear hlt HI HB3
          go_wp2_with fail
          go_loopg [13, 14] n (fun qq z13 z14 wk => ∃ (j : Nat) (a1 : Option Addr) (n1 c1 : Nat), z13 = .slice a1 n1 c1 ∧ z14 = .int .i64 (j : Nat) ∧ j ≤ n ∧ n - j ≤ qq ∧ Hid (Same V9 wk ∧ RowC V9.heap.size 31 2 usE wk (.slice a1 n1 c1) ((List.range j).map (leftQ xs S))))
          case atStart => exact ⟨0, none, 0, 0, rfl, rfl, by omega, by omega, hid ⟨Kept.refl _ _, RowC.nil⟩⟩
          case round =>
            obtain ⟨j, a1, n1, c1, rfl, rfl, hj, hjq, HJ⟩ := hrel
            by_cases hjl : j < n
            · have f1 : decide ((j : Int) < (n : Int)) = true := by simp; omega
              have f2 : decide (j < n) = true := by simp; omega
              obtain ⟨b', o', x, rfl, _, hx, j0, _, _, _⟩ := HS1.out.at4 j hjl
              have j1 := (Same.trans HK9.out HJ.out.1).cell j0 (fun f => f)
              have g1 : (0 : Int) ≤ (j : Int) := by omega
              have g2 : (j : Int) < (n : Int) := by omega
              have hjw : IntKind.i64.wrap ((j : Int) + 1) = ((j + 1 : Nat) : Int) := by rw [IntKind.wrap_i64]; have := HM.out.1; omega
              have HJL := hid hjl
              have HLF := qleft_any (HQ9.out.same HJ.out.1) x.nm
              rw [show x.nm.s = x.n from rfl, leftV_at HG.out.2 hx] at HLF
              obtain ⟨lf, hlf⟩ : ∃ u, u = leftQ xs S j := ⟨_, rfl⟩
              rw [← hlf] at HLF
              have HRR : Hid ((List.range (j + 1)).map (leftQ xs S) = (List.range j).map (leftQ xs S) ++ [lf]) := hid (by rw [hlf, List.range_succ, List.map_append]; rfl)
              have HLEN : Hid (((List.range j).map (leftQ xs S)).length = j) := hid (by simp)
              clear j0 hjl hx hlf
              go_wp2_with fail
              refine HLF.mono ?_
              rintro e w5 ⟨rfl, hk5⟩
              obtain ⟨W6, hW6⟩ : ∃ W, W = w5.alloc (.cells #[.int .i64 lf.b, .int .i64 lf.e] 31) := ⟨_, rfl⟩
              obtain ⟨g6, hg6⟩ : ∃ b, b = w5.heap.size := ⟨_, rfl⟩
              have hk56 : Same wr W6 := by rw [hW6]; exact hk5.alloc _
              obtain ⟨y0, y1, _, _⟩ := (show Blk W6 g6 #[.int .i64 lf.b, .int .i64 lf.e] 31 from by rw [hW6, hg6]; exact Blk.new w5 _ _).c2
              have HK6 := hid (Same.trans HJ.out.1 hk56)
              have HR6 := hid (HJ.out.2.kept hk56 (fun _ _ f => f))
              clear hk5 hk56 HLF j1
              go_upto_region 16 with fail
              rw [← hW6, ← hg6]
              clear hW6 hg6
              go_wp2_with (at_builtin; refine wpList_append_c _ usE 2 usE_ok (by decide) V9.heap.size 44 31 (.agg #[.int .i64 0, .int .i64 0]) 16 Tryd.underlying44 Tryd.infoUse17 rfl (by decide) rfl (.tmp 73) (.tmp 75) rfl (.slice a1 n1 c1) ((List.range j).map (leftQ xs S)) rfl (HR6.out.kept (show Same W6 _ from (Kept.refl _ _).alloc _) (fun _ _ f => f)) ⟨W6.heap.size, 0, none⟩ 1 1 [lf] rfl rfl (cellsAt_us W6 lf) (by rw [HLEN.out]; have := HJL.out; have := HM.out.1; simp; omega) (by have := HK6.out.size; simp; omega) ?_; intro v7 w7 hr7 hg7; have hk7 : Kept (fun k => (Value.slice a1 n1 c1).ownBlock = some k) W6 w7 := Kept.trans (show Same W6 _ from (Kept.refl _ W6).alloc _) ((Kept.refl _ _).grown hg7 (fun k e => .inl e)) (fun _ _ f => f.elim) (fun _ _ e => e); have HR7 := hid hr7; have HK7 : Hid (Same V9 w7) := hid (HK6.out.then hk7 (fun k hk e => by have := HR6.out.ge e; omega)); clear hr7 hg7 hk7; obtain ⟨a7, n7, c7, e7⟩ : ∃ a n c, v7 = Value.slice a n c := (by obtain ⟨a, c, e, _⟩ := HR7.out.shape; exact ⟨a, _, c, e⟩); subst e7)
              go_roundg (gk - 1)
              case measure => have := HJL.out; omega
              case rel => exact ⟨j + 1, a7, n7, c7, by go_num, by go_num, HJL.out, by omega, hid ⟨HK7.out, by rw [HRR.out]; exact HR7.out⟩⟩
            · have f1 : decide ((j : Int) < (n : Int)) = false := by simp; omega
              have f2 : decide (j < n) = false := by simp; omega
              obtain rfl : j = n := by omega
              obtain ⟨y0, y1, _, _⟩ := (HB7.out.kept (Same.trans HK9.out HJ.out.1) (fun f => f)).c2
              have HRS := qres_any (HQ9.out.same HJ.out.1) s u (by have := HL9.out; omega)
              have HWK := hid HJ.out.1
              have HRW := hid HJ.out.2
              have HFR := hid (res_free HQ9.out.inv s.s u)
              obtain ⟨z1, hz1⟩ : ∃ z, z = (resZ xs S s.s u).1 := ⟨_, rfl⟩
              obtain ⟨z2, hz2⟩ : ∃ z, z = (resZ xs S s.s u).2 := ⟨_, rfl⟩
              rw [← hz1, ← hz2] at HRS HFR
              unfold usV at HRS
              have HZ1 := hid hz1
              clear hjl HJ hz1 hz2
              go_wp2_with fail
              refine HRS.mono ?_
              rintro e w5 ⟨rfl, hq5, hk5⟩
              have HQ5 := hid hq5
              have HK5 : Hid (Same W1 w5) := hid ((Same.trans HK9.out HWK.out).then hk5 (fun k hk f => by have := HFL.out k f; omega))
              have HR5 := hid (HRW.out.kept hk5 (fun j e f => by have := HFL.out j f; have := HRW.out.ge e; omega))
              clear hq5 hk5 HRS y0 y1
              -- behind both ways the book has the same left
              go_upto_region 18 with fail
              go_cut [91] from 84 to 91 (fun z wx => z = .bool false ∧ Hid (Same W1 wx ∧ RowC V9.heap.size 31 2 usE wx (.slice a1 n1 c1) ((List.range j).map (leftQ xs S)) ∧ ∃ T : Sq, Qb wx p ma mr bl xs T ∧ T.us = S.us ∧ T.hs = S.hs ∧ ∃ nb : Nb, nb.v = z1 ∧ T.find nb.v = none))
              case first =>
                rcases HFR.out with ⟨h0, h1, h2, h3⟩ | ⟨h0, id, h1, h2, h3, h4, h5⟩
                · have g0 : (z2 == 0) = false := by simpa using h0
                  have HFIN : Hid (Same W1 w5 ∧ RowC V9.heap.size 31 2 usE w5 (.slice a1 n1 c1) ((List.range j).map (leftQ xs S)) ∧ ∃ T : Sq, Qb w5 p ma mr bl xs T ∧ T.us = S.us ∧ T.hs = S.hs ∧ ∃ nb : Nb, nb.v = z1 ∧ T.find nb.v = none) := hid ⟨HK5.out, HR5.out, S, by have h9 := HQ5.out; rw [h2] at h9; exact h9, rfl, rfl, ⟨0, by decide⟩, h1.symm, h3⟩
                  clear h0 h1 h2 h3
                  go_wp2_with fail
                  go_meet
                  exact ⟨rfl, HFIN⟩
                · have g0 : (z2 == 0) = true := by simpa using h0
                  obtain ⟨nb, hnb⟩ : ∃ nb : Nb, nb.v = z1 := nb_res xs S s.s u z1 HL9.out HZ1.out
                  have HFE := qfree_is HQ5.out nb
                  rw [hnb, h1, h2] at HFE
                  rw [← h1] at HFE
                  have HZ := hid (And.intro hnb (And.intro h1 (And.intro h3 (And.intro h4 h5))))
                  clear h0 h1 h2 h3 h4 h5 hnb
                  go_wp2_with fail
                  refine HFE.mono ?_
                  rintro e w6 ⟨rfl, hq6, hk6⟩
                  have HFIN : Hid (Same W1 w6 ∧ RowC V9.heap.size 31 2 usE w6 (.slice a1 n1 c1) ((List.range j).map (leftQ xs S)) ∧ ∃ T : Sq, Qb w6 p ma mr bl xs T ∧ T.us = S.us ∧ T.hs = S.hs ∧ ∃ nb : Nb, nb.v = z1 ∧ T.find nb.v = none) := hid ⟨HK5.out.then hk6 (fun k hk f => by have := HFL.out k f; omega), HR5.out.kept hk6 (fun j e f => by have := HFL.out j f; have := HR5.out.ge e; omega), _, hq6, by rw [HZ.out.2.1]; exact HZ.out.2.2.1, by rw [HZ.out.2.1]; exact HZ.out.2.2.2.1, nb, HZ.out.1, by rw [HZ.out.1, HZ.out.2.1]; exact HZ.out.2.2.2.2⟩
                  clear hq6 hk6 HFE
                  go_wp2_with fail
                  go_meet
                  exact ⟨rfl, HFIN⟩
              case rest =>
                obtain ⟨rfl, HC⟩ := hcut
                obtain ⟨T, hT⟩ := HC.out.2.2
                have HT := hid hT
                have HKC := hid HC.out.1
                have HRC := hid HC.out.2.1
                obtain ⟨Vc, rfl⟩ : ∃ W, W = wc := ⟨_, rfl⟩
                clear hT HC
                go_wp2_with fail
                go_loopg [19] j (fun qq z19 wk => ∃ i2 : Nat, z19 = .int .i64 (i2 : Nat) ∧ i2 ≤ j ∧ j - i2 ≤ qq ∧ Hid (Same Vc wk))
                case atStart => exact ⟨0, rfl, by omega, by omega, hid (Kept.refl _ _)⟩
                case round =>
                  obtain ⟨i2, rfl, hi2, hiq2, HI2⟩ := hrel
                  by_cases hjl : i2 < j
                  · have f1 : decide ((i2 : Int) < (j : Int)) = true := by simp; omega
                    have f2 : decide (i2 < j) = true := by simp; omega
                    obtain ⟨b', o', x, rfl, _, hx, j0, _, _, _⟩ := HS1.out.at4 i2 hjl
                    have j1 := (Same.trans HKC.out HI2.out).cell j0 (fun f => f)
                    have g1 : (0 : Int) ≤ (i2 : Int) := by omega
                    have g2 : (i2 : Int) < (j : Int) := by omega
                    have hjw : IntKind.i64.wrap ((i2 : Int) + 1) = ((i2 + 1 : Nat) : Int) := by rw [IntKind.wrap_i64]; have := HM.out.1; omega
                    have HJL := hid hjl
                    have HLF := qleft_any (HT.out.1.same HI2.out) x.nm
                    rw [show x.nm.s = x.n from rfl, leftV_at HG.out.2 hx, leftQ_same HT.out.2.1 HT.out.2.2.1] at HLF
                    obtain ⟨lf, hlf⟩ : ∃ u, u = leftQ xs S i2 := ⟨_, rfl⟩
                    rw [← hlf] at HLF
                    have hshape := HRC.out.shape
                    obtain ⟨ar, cr, er, hgr, _⟩ := hshape
                    obtain ⟨gr, hgr⟩ := hgr (fun e => by have := congrArg List.length e; simp at this; omega)
                    have hn1 : n1 = j := by injection er with _ e _; simpa using e
                    have ha1 : a1 = some ⟨gr, 0, none⟩ := by injection er with e _ _; rw [e, hgr]
                    subst ha1 hn1
                    have hlt2 : i2 < ((List.range n1).map (leftQ xs S)).length := by simpa using hjl
                    have r0 := HRC.out.cell usE_ok i2 0 hlt2 (by decide)
                    have r1 := HRC.out.cell usE_ok i2 1 hlt2 (by decide)
                    have hge : ((List.range n1).map (leftQ xs S))[i2] = lf := by rw [hlf]; simp
                    rw [hge] at r0 r1
                    have HR0 : Hid (Vc.cell? ⟨gr, i2 * 2, none⟩ = some (.int .i64 lf.b) ∧ Vc.cell? ⟨gr, i2 * 2 + 1, none⟩ = some (.int .i64 lf.e)) := hid ⟨r0, r1⟩
                    clear j0 hjl hx hlf er hgr hlt2 r0 r1 hge
                    go_wp2_with fail
                    refine HLF.mono ?_
                    rintro e w7 ⟨rfl, hk7⟩
                    obtain ⟨W8, hW8⟩ : ∃ W, W = w7.alloc (.cells #[.int .i64 lf.b, .int .i64 lf.e] 31) := ⟨_, rfl⟩
                    obtain ⟨g8, hg8⟩ : ∃ b, b = w7.heap.size := ⟨_, rfl⟩
                    have hk78 : Same wr W8 := by rw [hW8]; exact hk7.alloc _
                    have HK8 := hid (Same.trans HI2.out hk78)
                    obtain ⟨y0, y1, _, _⟩ := (show Blk W8 g8 #[.int .i64 lf.b, .int .i64 lf.e] 31 from by rw [hW8, hg8]; exact Blk.new w7 _ _).c2
                    have r0 := HK8.out.cell HR0.out.1 (fun f => f)
                    have r1 := HK8.out.cell HR0.out.2 (fun f => f)
                    clear hk7 hk78 HLF j1
                    go_upto_region 24 with fail
                    rw [← hW8, ← hg8]
                    clear hW8 hg8
                    go_quiet (fail)
                    go_wp2_with fail
                    go_roundg (gk - 1)
                    case measure => have := HJL.out; omega
                    case rel => exact ⟨i2 + 1, by go_num, HJL.out, by omega, hid (HK8.out.drewN _)⟩
                  · have f1 : decide ((i2 : Int) < (j : Int)) = false := by simp; omega
                    have f2 : decide (i2 < j) = false := by simp; omega
                    clear hjl
                    go_wp2_with fail
                    refine (HA.out _).mono ?_
                    rintro e w7 ⟨rfl, hk7⟩
                    obtain ⟨hq, _, _, nb, hnb, hnn⟩ := HT.out
                    have HFE := qfree_is (hq.same (Same.trans HI2.out hk7)) nb
                    have ht : takeZ T nb.v = 172 := by unfold takeZ; rw [hnn]
                    have hf : freeS T nb.v = T := by unfold freeS; rw [hnn]
                    rw [ht, hf, hnb] at HFE
                    have HK7 := hid (Same.trans HKC.out (Same.trans HI2.out hk7))
                    clear hk7 hq hnb hnn ht hf
                    go_wp2_with fail
                    refine HFE.mono ?_
                    rintro e w8 ⟨rfl, _, hk8⟩
                    have HK8 : Hid (Same w w8) := hid (Same.trans HK1.out (HK7.out.then hk8 (fun k hk f => by have := HFL.out k f; omega)))
                    clear hk8 HFE
                    go_wp2_with fail
                    go_ret
                    exact ⟨rfl, HK8.out⟩

theorem quotaFrees_all (ao : Option Addr) (n c : Nat) (xs : List Tn) (so : Option Addr) (m sc : Nat) (os : List Ow) (s : ByteArray) (b e : Int) (W : World) (h : SrcC 4 tnE W (fun k => k < W.heap.size) (.slice ao n c) xs) (hs : SrcC 5 owE W (fun k => k < W.heap.size) (.slice so m sc) os) (hz : s.size ≤ maxLen) (_hu : (Lit.int .i64 b).wf = true ∧ (Lit.int .i64 e).wf = true) (_hT : Mxl W) :
    Calls Tryd.prog 6 #[.slice ao n c, .slice so m sc, .string s, .agg #[.int .i64 b, .int .i64 e]] W fun e W' => e = .returned (.bool true) ∧ Below W.heap.size W W' :=
  (frees17 W ao n c xs h so m sc os hs ⟨s, hz⟩ ⟨b, e⟩).mono fun _ _ ⟨he, hk⟩ => ⟨he, Kept.below hk (Nat.le_refl _) (fun _ _ f => f)⟩

end Go.Proofs.YtjlkchjcmiljjaaDoor
