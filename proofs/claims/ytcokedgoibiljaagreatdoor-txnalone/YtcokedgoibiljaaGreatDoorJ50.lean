/-
  Of the proof: parts TzC.
-/
import Derived.BigQuiet
import Derived.Deep.CutRange
import Derived.Shelf.SlSortCmp.QuietGrown
import Derived.Test.YtcokedgoibiljaaGreatDoorJ49

/-
  TxnAlone's walk.
-/
namespace Go.Proofs.YtcokedgoibiljaaGreatDoor
open Go.RowKit Go.Maps Go.Sort Go.Shelf

set_option maxRecDepth 100000 in
set_option maxHeartbeats 40000000 in
theorem alone14 (w : World) (hx : Mxl w) (so : Option Addr) (m sc : Nat) (os : List Ot) (hs : SrcC 6 otE w (fun k => k < w.heap.size) (.slice so m sc) os) (ao : Option Addr) (n c : Nat) (ps : List Ot) (hp : SrcC 6 otE w (fun k => k < w.heap.size) (.slice ao n c) ps) (hm : m ≤ 4611686018427387904 ∧ n ≤ 4611686018427387904) (hd : (∀ o ∈ os, o.dt.size ≤ 4611686018427379712) ∧ ∀ o ∈ ps, o.dt.size ≤ 4611686018427379712) (tn : Nm) :
    Calls Tryz.prog 6 #[.slice so m sc, .slice ao n c, .string tn.s] w fun e w' => e = .returned (.bool true) ∧ Same w w' := by
  have HS := hid hs
  have HP := hid hp
  have HD := hid hd
  have HX := hid hx
  have HL1 := large14 w so m sc hm.1
  have HL2 : Hid (∀ W, Calls Tryz.prog 8 #[.slice none 0 0, .slice ao n c] W fun e w' => e = .returned (.bool (decide (4096 < n))) ∧ Same W w') := hid (fun W => large14 W ao n c hm.2)
  obtain ⟨ts, hts⟩ : ∃ x, x = tn.s := ⟨_, rfl⟩
  have HT : Hid (ts = tn.s) := hts
  rw [← hts]
  clear hs hp hd hx hm hts
  go_enter Tryz.func6, Tryz.ntmps6
  go_wp2_with fail
  refine HL1.mono ?_
  rintro e w1 ⟨rfl, hk1⟩
  have HK1 := hid hk1
  clear hk1 HL1
  by_cases hm1 : 4096 < m
  case pos =>
    have d1 : decide (4096 < m) = true := decide_eq_true hm1
    rw [d1]
    have HA := awake14 w1 (HX.out.kept HK1.out (fun f => f))
    clear hm1 d1
    go_wp2_with fail
    refine HA.mono ?_
    rintro e w2 ⟨rfl, hk2⟩
    have HK2 := hid (Same.trans HK1.out hk2)
    clear hk2 HA
    go_wp2_with fail
    go_ret
    exact ⟨rfl, HK2.out⟩
  case neg =>
    have d1 : decide (4096 < m) = false := decide_eq_false hm1
    have HM : Hid (m ≤ 4096) := hid (by omega)
    rw [d1]
    have HC := HL2.out w1
    clear hm1 d1
    go_wp2_with fail
    refine HC.mono ?_
    rintro e w2 ⟨rfl, hk2⟩
    have HK2 := hid (Same.trans HK1.out hk2)
    clear hk2 HC
    by_cases hn1 : 4096 < n
    case pos =>
      have d1 : decide (4096 < n) = true := decide_eq_true hn1
      rw [d1]
      have HA := awake14 w2 (HX.out.kept HK2.out (fun f => f))
      clear hn1 d1
      go_wp2_with fail
      refine HA.mono ?_
      rintro e w3 ⟨rfl, hk3⟩
      have HK3 := hid (Same.trans HK2.out hk3)
      clear hk3 HA
      go_wp2_with fail
      go_ret
      exact ⟨rfl, HK3.out⟩
    case neg =>
      have d1 : decide (4096 < n) = false := decide_eq_false hn1
      have HN : Hid (n ≤ 4096) := hid (by omega)
      rw [d1]
      have HC := pl_new w2
      clear hn1 d1
      go_wp2_with fail
      refine HC.mono ?_
      rintro e w3 ⟨N, p, rfl, hpl⟩
      have HPL := hid hpl
      clear hpl HC
      go_wp2_with fail
      go_loopg [8] m (fun q z wr => ∃ i : Nat, z = .int .i64 (i : Nat) ∧ i ≤ m ∧ m - i ≤ q ∧ Hid (Pl w2 N p i wr))
      case atStart => exact ⟨0, rfl, by omega, by omega, HPL⟩
      case round =>
        obtain ⟨i, rfl, hi, hiq, HI⟩ := hrel
        by_cases hlt : i < m
        · have e1 : decide ((i : Int) < (m : Int)) = true := by simp; omega
          have e2 : decide (i < m) = true := by simp; omega
          obtain ⟨b, o, t, rfl, _, ht, k0, k1, k2, k3, k4, k5⟩ := HS.out.at6 i hlt
          have HS2 : Hid (Same w wr) := hid (Same.trans HK2.out HI.out.same)
          have k0 := HS2.out.cell k0 (fun f => f)
          have k1 := HS2.out.cell k1 (fun f => f)
          have k2 := HS2.out.cell k2 (fun f => f)
          have k3 := HS2.out.cell k3 (fun f => f)
          have k4 := HS2.out.cell k4 (fun f => f)
          have k5 := HS2.out.cell k5 (fun f => f)
          have HDT : Hid (t.dt.size ≤ 4611686018427379712) := hid (HD.out.1 t (List.mem_of_getElem? ht))
          have c1 : (0 : Int) ≤ (i : Int) := by omega
          have c2 : (i : Int) < (m : Int) := by omega
          have hiw : IntKind.i64.wrap ((i : Int) + 1) = ((i + 1 : Nat) : Int) := by rw [IntKind.wrap_i64]; have := HM.out; omega
          have HLT := hid hlt
          clear ht
          by_cases q1 : t.kind = 1
          · rw [q1] at k0
            clear q1
            have HC : Calls Tryz.prog 15 #[.pointer (some ⟨p, 0, none⟩), .string t.tn] (wr.alloc (.cells #[.int .i64 1, .int .i64 t.num, .string t.tn, .string t.ar, .string t.en, .string t.dt] 24)) _ := pl_beg (HI.out.still ((Kept.refl _ _).alloc _)) (by have := HM.out; omega) t.t
            clear hlt
            go_wp2_with fail
            refine HC.mono ?_
            rintro e w6 ⟨⟨va, vb, rfl⟩, h6⟩
            have H6 := hid h6
            clear h6 HC k0 k1 k2 k3 k4 k5
            go_wp2_with fail
            go_roundg (gk - 1)
            case measure => have := HLT.out; omega
            case rel => exact ⟨i + 1, by go_num, HLT.out, by omega, H6⟩
          by_cases q8 : t.kind = 8
          · rw [q8] at k0
            clear q8 q1
            have HC : Calls Tryz.prog 18 #[.pointer (some ⟨p, 0, none⟩), .int .i64 t.num] (wr.alloc (.cells #[.int .i64 8, .int .i64 t.num, .string t.tn, .string t.ar, .string t.en, .string t.dt] 24)) _ := pl_com (HI.out.still ((Kept.refl _ _).alloc _)) (by have := HM.out; omega) t.n
            clear hlt
            go_wp2_with fail
            refine HC.mono ?_
            rintro e w6 ⟨⟨va, vb, rfl⟩, h6⟩
            have H6 := hid h6
            clear h6 HC k0 k1 k2 k3 k4 k5
            go_wp2_with fail
            go_roundg (gk - 1)
            case measure => have := HLT.out; omega
            case rel => exact ⟨i + 1, by go_num, HLT.out, by omega, H6⟩
          · have r1 : (t.kind == 1) = false := beq_false_of_ne q1
            have r8 : (t.kind == 8) = false := beq_false_of_ne q8
            clear q8 q1
            have HC : Calls Tryz.prog 17 #[.pointer (some ⟨p, 0, none⟩), .int .i64 t.num, .agg #[.int .i64 t.kind, .int .i64 t.num, .string t.tn, .string t.ar, .string t.en, .string t.dt]] (wr.alloc (.cells #[.int .i64 t.kind, .int .i64 t.num, .string t.tn, .string t.ar, .string t.en, .string t.dt] 24)) _ := pl_act (HI.out.still ((Kept.refl _ _).alloc _)) (by have := HM.out; omega) (HX.out.kept HK2.out (fun f => f)) t.n t HDT.out
            clear hlt
            go_wp2_with fail
            refine HC.mono ?_
            rintro e w6 ⟨⟨va, vb, vc, rfl⟩, h6⟩
            have H6 := hid h6
            clear h6 HC k0 k1 k2 k3 k4 k5
            go_wp2_with fail
            go_roundg (gk - 1)
            case measure => have := HLT.out; omega
            case rel => exact ⟨i + 1, by go_num, HLT.out, by omega, H6⟩
        · have e1 : decide ((i : Int) < (m : Int)) = false := by simp; omega
          have e2 : decide (i < m) = false := by simp; omega
          have HIM : Hid (i = m) := hid (by omega)
          clear hlt
          go_wp2_with fail
          obtain ⟨V4, hV4⟩ : ∃ W, W = wr := ⟨_, rfl⟩
          rw [← hV4] at HI ⊢
          have HB := ow_beg HI.out (by have := HM.out; omega) tn
          rw [← HT.out] at HB
          have HH : Hid (Same w V4) := hid (Same.trans HK2.out HI.out.same)
          clear hV4
          refine HB.mono ?_
          rintro e w5 (⟨z, hz, rfl, hk5⟩ | ⟨nb, S1, rfl, hsh, hln, how⟩)
          · have e3 : (z != 0) = true := by simpa [bne] using hz
            have HK5 := hid (Same.trans HK2.out hk5)
            have HA := awake14 w5 (HX.out.kept HK5.out (fun f => f))
            clear hz hk5 HB
            go_wp2_with fail
            refine HA.mono ?_
            rintro e w6 ⟨rfl, hk6⟩
            have HK6 := hid (Same.trans HK5.out hk6)
            clear hk6 HA
            go_wp2_with fail
            go_ret
            exact ⟨rfl, HK6.out⟩
          · have HO5 := hid how
            have HS5 : Hid (sho tn.s = true ∧ S1.ln ≤ 256) := hid ⟨by rw [← HT.out]; exact hsh, hln⟩
            clear how hsh hln HB
            go_wp2_with fail
            go_loopg [12] n (fun q z wk => ∃ j : Nat, z = .int .i64 (j : Nat) ∧ j ≤ n ∧ n - j ≤ q ∧ Hid (Ow w2 N p (m + 1 + j) nb tn S1 wk))
            case atStart => exact ⟨0, rfl, by omega, by omega, by rw [← HIM.out]; exact HO5⟩
            case round =>
              obtain ⟨j, rfl, hj, hjq, HJ⟩ := hrel
              by_cases hjl : j < n
              · have f1 : decide ((j : Int) < (n : Int)) = true := by simp; omega
                have f2 : decide (j < n) = true := by simp; omega
                obtain ⟨b, o, t, rfl, _, ht, k0, k1, k2, k3, k4, k5⟩ := HP.out.at6 j hjl
                have HS2 : Hid (Same w wr) := hid (Same.trans HK2.out HJ.out.same)
                have k0 := HS2.out.cell k0 (fun f => f)
                have k1 := HS2.out.cell k1 (fun f => f)
                have k2 := HS2.out.cell k2 (fun f => f)
                have k3 := HS2.out.cell k3 (fun f => f)
                have k4 := HS2.out.cell k4 (fun f => f)
                have k5 := HS2.out.cell k5 (fun f => f)
                have HDT : Hid (t.dt.size ≤ 4611686018427379712) := hid (HD.out.2 t (List.mem_of_getElem? ht))
                have g1 : (0 : Int) ≤ (j : Int) := by omega
                have g2 : (j : Int) < (n : Int) := by omega
                have hjw : IntKind.i64.wrap ((j : Int) + 1) = ((j + 1 : Nat) : Int) := by rw [IntKind.wrap_i64]; have := HN.out; omega
                have HJL := hid hjl
                have HC : Calls Tryz.prog 17 #[.pointer (some ⟨p, 0, none⟩), .int .i64 nb.v, .agg #[.int .i64 t.kind, .int .i64 t.num, .string t.tn, .string t.ar, .string t.en, .string t.dt]] wr _ := ow_act HJ.out (by have := HM.out; have := HN.out; omega) (HX.out.kept HK2.out (fun f => f)) t HDT.out
                clear ht hjl
                go_wp2_with fail
                refine HC.mono ?_
                rintro e w6 ⟨⟨va, vb, vc, rfl⟩, h6⟩
                have H6 := hid h6
                clear h6 HC k0 k1 k2 k3 k4 k5
                go_wp2_with fail
                go_roundg (gk - 1)
                case measure => have := HJL.out; omega
                case rel => exact ⟨j + 1, by go_num, HJL.out, by omega, H6⟩
              · have f1 : decide ((j : Int) < (n : Int)) = false := by simp; omega
                have f2 : decide (j < n) = false := by simp; omega
                have HJM : Hid (j = n) := hid (by omega)
                clear hjl
                go_wp2_with fail
                obtain ⟨K, B, S, mv, hoe⟩ := HJ.out.ends HS5.out.2 (by have := HM.out; have := HN.out; omega)
                have HOE := hid hoe
                have HC := owe_bes hoe
                clear hoe
                refine HC.mono ?_
                rintro e w7 ⟨t, a, mm, cap, er, xs, rfl, hck, hbes⟩
                have HCK := hid hck
                obtain ⟨W8, hW8⟩ : ∃ W, W = w7.alloc (.cells #[.int .i64 t, .slice a mm cap] 59) := ⟨_, rfl⟩
                obtain ⟨g8, hg8⟩ : ∃ b, b = w7.heap.size := ⟨_, rfl⟩
                have HB8 : Hid (Blk W8 g8 #[.int .i64 t, .slice a mm cap] 59) := hid (by rw [hW8, hg8]; exact Blk.new w7 _ _)
                have HE8 : Hid (Bes w2 K N B p S (.slice a mm cap) xs (fun k => False ∨ k = g8) W8) := hid (hbes.block (by rw [hg8]; exact Nat.le_refl _) (by rw [hW8]; exact (Kept.refl _ _).alloc _) (by rw [hW8, hg8]; simp))
                obtain ⟨T, hT⟩ : ∃ T, T = S.M.now := ⟨_, rfl⟩
                obtain ⟨U, hU⟩ : ∃ U, U = S.M.now - 1 := ⟨_, rfl⟩
                have HNW : Hid (1 ≤ T ∧ T ≤ 30000 ∧ T = S.M.now ∧ U = T - 1) := hid ⟨by
                  obtain ⟨F, ⟨c', τ, _, h2, _⟩⟩ := HOE.out.ma.mg
                  have := h2.now.1
                  omega, by
                  obtain ⟨F, ⟨c', τ, _, h2, _⟩⟩ := HOE.out.ma.mg
                  have := h2.now.2
                  have := HOE.out.bb
                  omega, hT, by rw [hU, hT]⟩
                have HC2 := bes_now HE8.out
                rw [← hU] at HC2
                clear hck hbes HC hT hU
                rw [hW8] at HC2
                go_wp2_with fail
                refine HC2.mono ?_
                rintro e w9 ⟨rfl, hw9⟩
                rw [← hW8] at hw9
                have hw10 := hw9.symm
                subst hw10
                rw [← hg8]
                clear hW8 hg8 hw9 HC2
                have HC3 := bes_com HE8.out nb HCK.out (fun e => by rw [HOE.out.op] at e; cases e) (by have := HOE.out.bb; omega) (by have := HOE.out.kk _ _ _ HCK.out; omega)
                go_wp2_with fail
                refine HC3.mono ?_
                rintro e w10 ⟨m2, rfl, hbes, hk10⟩
                have HE10 := hid hbes
                have HB10 : Hid (Blk w10 g8 #[.int .i64 t, .slice a mm cap] 59) := hid (HB8.out.kept hk10 (fun f => f (.inr rfl)))
                have d0 : w10.cell? ⟨g8, 0, none⟩ = some (.int .i64 t) := HB10.out.cell 0
                have d1 : w10.cell? ⟨g8, 1, none⟩ = some (.slice a mm cap) := HB10.out.cell 1
                clear hbes hk10 HC3
                have HLB : Hid (((S.com xs).ends nb m2).ln < 256 ∧ ((S.com xs).ends nb m2).bg + 1 ≤ 100000) := hid ⟨by
                  show (S.com xs).ln - 1 < 256
                  rw [(com_op S xs).2.2.1]
                  have := HOE.out.ln
                  omega, by
                  show (S.com xs).bg + 1 ≤ 100000
                  rw [(com_op S xs).2.1]
                  have := HOE.out.bg
                  omega⟩
                have HC5 := bes_beg HE10.out tn HS5.out.1 HLB.out.1 HLB.out.2
                rw [← HT.out] at HC5
                have HXS : Hid (xs = [] ∨ (xs ≠ [] ∧ StW mv xs)) := hid (by
                  rcases own_ckt HOE.out.op HOE.out.own.tt HCK.out with ⟨_, ⟨hx0, _⟩ | ⟨hxs, _, _, hst⟩⟩
                  · exact .inl hx0
                  · exact .inr ⟨hxs, hst⟩)
                go_upto_region 26 with fail
                go_cut [145] from 103 to 145 (fun z wx => z = .bool false ∧ wx = w10)
                case first =>
                  clear HC5
                  rcases own_ckt HOE.out.op HOE.out.own.tt HCK.out with ⟨her, ⟨hx0, rfl⟩ | ⟨hxs, rfl, htt, hst⟩⟩
                  · have hN2 : ((S.com xs).ends nb m2).M.now = T := by rw [hx0]; exact com_now0.trans HNW.out.2.2.1.symm
                    have HC4 := bes_now HE10.out
                    rw [hN2, show T - 1 = U from HNW.out.2.2.2.symm] at HC4
                    rcases her with rfl | rfl
                    all_goals
                      clear hN2 hx0
                      go_wp2_with fail
                      refine HC4.mono ?_
                      rintro e w11 ⟨rfl, hw11⟩
                      have hw12 := hw11.symm
                      subst hw12
                      go_wp2_with fail
                      go_meet
                      exact ⟨rfl, rfl⟩
                  · have hN2 : ((S.com xs).ends nb m2).M.now = t + 1 := by rw [com_now hxs, htt]
                    have HTT : Hid (t = T) := hid (htt.trans HNW.out.2.2.1.symm)
                    have HC4 := bes_now HE10.out
                    rw [hN2, show t + 1 - 1 = t from by omega] at HC4
                    have e7 : decide ((0 : Int) < t) = true := decide_eq_true (by have := HNW.out.1; have := HTT.out; omega)
                    have e6 : IntKind.i64.wrap (U + 1) = t := by have := HNW.out; have := HTT.out; rw [IntKind.wrap_i64]; omega
                    have e5 : (t == 0) = false := beq_false_of_ne (by have := HNW.out.1; have := HTT.out; omega)
                    clear hN2 hxs hst htt her
                    go_wp2_with fail
                    refine HC4.mono ?_
                    rintro e w11 ⟨rfl, hw11⟩
                    have hw12 := hw11.symm
                    subst hw12
                    go_wp2_with fail
                    go_meet
                    exact ⟨rfl, rfl⟩
                case rest =>
                  obtain ⟨rfl, hwc⟩ := hcut
                  subst hwc
                  go_wp2_with fail
                  refine HC5.mono ?_
                  rintro e w12 ⟨nb2, rfl, hbes, hk12⟩
                  have HRE : Hid (Rea14 w2 (K + 3 * xs.length) N p nb2 tn (((S.com xs).ends nb m2).beg nb2 tn) (.slice a mm cap) xs (fun k => False ∨ k = g8) 0 w12) := hid (Rea14.new hbes (by have := HOE.out.bb; omega))
                  have HB12 := hid (HB10.out.kept hk12 (fun f => f (.inr rfl)))
                  have HWR : Hid ((∀ j (hj : j < xs.length), Wri14 (((S.com xs).ends nb m2).beg nb2 tn).M tn xs[j]) ∧ xs.Pairwise ltW ∧ mm = xs.length ∧ K + 3 * xs.length ≤ 60000) := hid ⟨by
                    rcases HXS.out with e9 | ⟨g1, g2⟩
                    · intro j hj; rw [e9] at hj; simp at hj
                    · intro j hj
                      obtain ⟨F, hF⟩ := HOE.out.ma.mg
                      have hfl : S.M.floor ≤ S.M.now := by
                        obtain ⟨c', τ, h1, _⟩ := hF
                        exact h1.sto.nums.2.1
                      exact wri14 g1 g2 HOE.out.own hF.upTo hfl j hj, by
                    rcases HXS.out with e9 | ⟨g1, g2⟩
                    · rw [e9]; exact List.Pairwise.nil
                    · exact g2.1, by
                    obtain ⟨a', c', e, _⟩ := HRE.out.row.shape
                    injection e, HOE.out.kk _ _ _ HCK.out⟩
                  obtain ⟨tt, HBT⟩ : ∃ t : Int, Hid (Blk w12 g8 #[.int .i64 t, .slice a mm cap] 59) := ⟨_, HB12⟩
                  obtain ⟨S4, hS4⟩ : ∃ x, x = ((S.com xs).ends nb m2).beg nb2 tn := ⟨_, rfl⟩
                  rw [← hS4] at HRE HWR
                  clear hbes hk12 d0 d1 hS4 HB12 HB10 HE10 HOE HCK HXS HLB
                  go_wp2_with fail
                  go_loopg [20] mm (fun q z wr => ∃ l : Nat, z = .int .i64 (l : Nat) ∧ l ≤ mm ∧ mm - l ≤ q ∧ Hid (Rea14 w2 (K + 3 * xs.length) N p nb2 tn S4 (.slice a mm cap) xs (fun k => False ∨ k = g8) l wr) ∧ Hid (Blk wr g8 #[.int .i64 tt, .slice a mm cap] 59))
                  case atStart => exact ⟨0, rfl, by omega, by omega, HRE, HBT⟩
                  case round =>
                    clear HRE HBT
                    obtain ⟨l, rfl, hl, hlq, HI, HB⟩ := hrel
                    have d1 : wr.cell? ⟨g8, 1, none⟩ = some (.slice a mm cap) := HB.out.cell 1
                    by_cases hll : l < mm
                    · have f3 : decide ((l : Int) < (mm : Int)) = true := by simp; omega
                      have f4 : decide (l < mm) = true := by simp; omega
                      have hlx : l < xs.length := by rw [← HWR.out.2.2.1]; exact hll
                      obtain ⟨g, rfl, r0, r1, r2, r3, r4⟩ : ∃ g, a = some ⟨g, 0, none⟩ ∧ wr.cell? ⟨g, l * 5, none⟩ = some (.string xs[l].b.tn) ∧ wr.cell? ⟨g, l * 5 + 1, none⟩ = some (.string xs[l].b.ar) ∧ wr.cell? ⟨g, l * 5 + 2, none⟩ = some (.string xs[l].n.s) ∧ wr.cell? ⟨g, l * 5 + 3, none⟩ = some (.bool xs[l].there) ∧ wr.cell? ⟨g, l * 5 + 4, none⟩ = some (.string xs[l].data) := by
                        have hr := HI.out.row
                        obtain ⟨ao, cp, e, hag, _⟩ := hr.shape
                        obtain ⟨g, rfl⟩ := hag (by rintro rfl; simp at hlx)
                        injection e with e1 _ _
                        subst e1
                        exact ⟨g, rfl, RowC.cell wrE_ok hr l 0 hlx (by decide), RowC.cell wrE_ok hr l 1 hlx (by decide), RowC.cell wrE_ok hr l 2 hlx (by decide), RowC.cell wrE_ok hr l 3 hlx (by decide), RowC.cell wrE_ok hr l 4 hlx (by decide)⟩
                      obtain ⟨x, hx⟩ : ∃ x, x = xs[l] := ⟨_, rfl⟩
                      have HWX : Hid (Wri14 S4.M tn x) := hid (by rw [hx]; exact HWR.out.1 l hlx)
                      rw [← hx] at r0 r1 r2 r3 r4
                      rw [show x.b.tn = ts from HWX.out.ten.trans HT.out.symm] at r0
                      have e2 : (0 : Int) ≤ (l : Int) := by omega
                      have e3 : (l : Int) < (mm : Int) := by omega
                      have HLL := hid hll
                      have HLX := hid hlx
                      have HXX := hid hx
                      have HML : Hid (mm ≤ 20000) := hid (by have := HWR.out.2.2; omega)
                      clear hx hll hl
                      have HZA : Hid (Rea14 w2 (K + 3 * xs.length) N p nb2 tn S4 (.slice (some ⟨g, 0, none⟩) mm cap) xs (fun k => (False ∨ k = g8) ∨ k = wr.heap.size) l (wr.alloc (.cells #[.string ts, .string x.b.ar, .string x.n.s, .bool x.there, .string x.data] 65))) := hid (HI.out.block (Nat.le_refl _) ((Kept.refl _ _).alloc _) (by simp))
                      have HBA : Hid (Blk (wr.alloc (.cells #[.string ts, .string x.b.ar, .string x.n.s, .bool x.there, .string x.data] 65)) wr.heap.size #[.string ts, .string x.b.ar, .string x.n.s, .bool x.there, .string x.data] 65 ∧ Blk (wr.alloc (.cells #[.string ts, .string x.b.ar, .string x.n.s, .bool x.there, .string x.data] 65)) g8 #[.int .i64 tt, .slice (some ⟨g, 0, none⟩) mm cap] 59) := hid ⟨Blk.new wr _ _, HB.out.kept (show Same wr _ from (Kept.refl _ _).alloc _) (fun f => f)⟩
                      have HC := rea14_read HZA.out (by have := HWR.out.2.2; omega) (HX.out.kept HK2.out (fun f => f)) x HWX.out
                      obtain ⟨gW, hgW⟩ : ∃ b, b = wr.heap.size := ⟨_, rfl⟩
                      rw [← hgW] at HC HBA HZA
                      have HGW : Hid (gW = wr.heap.size) := hid hgW
                      clear hgW HC5
                      go_wp2_with fail
                      try rw [← HGW.out]
                      refine HC.mono ?_
                      rintro e w13 ⟨rfl, hr13, hk13⟩
                      have HR13 := hid (hr13.less (Z' := fun k => False ∨ k = g8) (fun k hk => .inl hk))
                      have HBW := hid (HBA.out.1.kept hk13 (fun f => f (.inr rfl)))
                      have HBG := hid (HBA.out.2.kept hk13 (fun f => f (.inl (.inr rfl))))
                      have s0 : w13.cell? ⟨gW, 0, none⟩ = some (.string ts) := HBW.out.cell 0
                      have s1 : w13.cell? ⟨gW, 1, none⟩ = some (.string x.b.ar) := HBW.out.cell 1
                      have s2 : w13.cell? ⟨gW, 2, none⟩ = some (.string x.n.s) := HBW.out.cell 2
                      have s3 : w13.cell? ⟨gW, 3, none⟩ = some (.bool x.there) := HBW.out.cell 3
                      have s4 : w13.cell? ⟨gW, 4, none⟩ = some (.string x.data) := HBW.out.cell 4
                      have s5 : w13.cell? ⟨g8, 1, none⟩ = some (.slice (some ⟨g, 0, none⟩) mm cap) := HBG.out.cell 1
                      obtain ⟨z, hz⟩ : ∃ z : Int, z = if x.there = true then 0 else 144 := ⟨_, rfl⟩
                      rw [← hz]
                      have e8 : (z == 0) = x.there := by rw [hz]; cases x.there <;> rfl
                      have liw : IntKind.i64.wrap ((l : Int) + 1) = ((l + 1 : Nat) : Int) := by rw [IntKind.wrap_i64]; have := HML.out; omega
                      clear hr13 hk13 HC hz d1 r0 r1 r2 r3 r4 HZA HBA HI HB
                      obtain rfl | ⟨k, hk⟩ : l = 0 ∨ ∃ k, l = k + 1 := by cases l with | zero => exact .inl rfl | succ k => exact .inr ⟨k, rfl⟩
                      · go_wp2_with fail
                        go_quiet (fail)
                        go_wp2_with fail
                        go_roundg (gk - 1)
                        case measure => have := HLL.out; omega
                        case rel => exact ⟨1, by go_num, HLL.out, by omega, hid (HR13.out.still (by first | exact (Kept.refl _ _).drewN _ | exact Kept.refl _ _)), hid (HBG.out.kept (show Same w13 _ by first | exact (Kept.refl _ _).drewN _ | exact Kept.refl _ _) (fun f => f))⟩
                      · subst hk
                        have hkx : k < xs.length := by have := HLX.out; omega
                        obtain ⟨y, hy⟩ : ∃ y, y = xs[k] := ⟨_, rfl⟩
                        have HYT : Hid (y.b.tn = ts) := hid (by rw [hy]; exact (HWR.out.1 k hkx).ten.trans HT.out.symm)
                        have HLS : Hid (∀ q os, Calls Tryz.prog 25 #[.agg #[.string ts, .string y.b.ar, .string y.n.s], .agg #[.string ts, .string x.b.ar, .string x.n.s]] (grow (w13.drewN q) os) fun e w' => e = .returned (.bool true) ∧ Gr (grow (w13.drewN q) os) w') := hid (fun q os => by
                          have h9 := rless14 (grow (w13.drewN q) os) (y.b, y.n) (x.b, x.n)
                          rw [show bef14 (y.b, y.n) (x.b, x.n) = true from (bef14_iff _ _).2 (by rw [hy, HXX.out]; exact List.pairwise_iff_getElem.1 HWR.out.2.1 k (k + 1) hkx HLX.out (by omega))] at h9
                          simp only at h9
                          rw [HYT.out, HWX.out.ten.trans HT.out.symm] at h9
                          exact h9)
                        have r0 : w13.cell? ⟨g, k * 5, none⟩ = some (.string ts) := by rw [← HYT.out, hy]; exact RowC.cell wrE_ok HR13.out.row k 0 hkx (by decide)
                        have r1 : w13.cell? ⟨g, k * 5 + 1, none⟩ = some (.string y.b.ar) := by rw [hy]; exact RowC.cell wrE_ok HR13.out.row k 1 hkx (by decide)
                        have r2 : w13.cell? ⟨g, k * 5 + 2, none⟩ = some (.string y.n.s) := by rw [hy]; exact RowC.cell wrE_ok HR13.out.row k 2 hkx (by decide)
                        have kw : IntKind.i64.wrap (((k + 1 : Nat) : Int) - 1) = (k : Int) := by rw [IntKind.wrap_i64]; have := HML.out; have := HLL.out; omega
                        have k0 : (0 : Int) ≤ (k : Int) := by omega
                        have kv : IntKind.i64.wrap (k : Int) = (k : Int) := by rw [IntKind.wrap_i64]; have := HML.out; have := HLL.out; omega
                        have k1 : (k : Int) < (mm : Int) := by have := HLL.out; omega
                        have k2 : decide ((0 : Int) < ((k + 1 : Nat) : Int)) = true := decide_eq_true (by omega)
                        have HKX := hid hkx
                        have hmo : Tryz.prog.follows .mixedOrders = true := by kernel_rfl
                        have hs1 := HBW.out.lt
                        have hs2 := HBG.out.lt
                        have hs3 : g < w13.heap.size := by
                          obtain ⟨cur, h9, _⟩ := HR13.out.row.cells9
                          exact (Array.getElem?_eq_some_iff.1 h9).1
                        have l0 := fun n os => cell_grown (a := ⟨gW, 0, none⟩) hs1 s0 n os
                        have l1 := fun n os => cell_grown (a := ⟨gW, 1, none⟩) hs1 s1 n os
                        have l2 := fun n os => cell_grown (a := ⟨gW, 2, none⟩) hs1 s2 n os
                        have l3 := fun n os => cell_grown (a := ⟨gW, 3, none⟩) hs1 s3 n os
                        have l4 := fun n os => cell_grown (a := ⟨gW, 4, none⟩) hs1 s4 n os
                        have l5 := fun n os => cell_grown (a := ⟨g8, 1, none⟩) hs2 s5 n os
                        have l6 := fun n os => cell_grown (a := ⟨g, k * 5, none⟩) hs3 r0 n os
                        have l7 := fun n os => cell_grown (a := ⟨g, k * 5 + 1, none⟩) hs3 r1 n os
                        have l8 := fun n os => cell_grown (a := ⟨g, k * 5 + 2, none⟩) hs3 r2 n os
                        clear hs1 hs2 hs3 hy hkx e2 e3
                        go_wp2_with fail
                        go_quiet_grown (first | (go_at_call 25; refine Calls.grown_of (HLS.out _ _)))
                        have liv : IntKind.i64.wrap ((k : Int) + 1 + 1) = ((k + 1 + 1 : Nat) : Int) := by rw [IntKind.wrap_i64]; have := HML.out; have := HLL.out; omega
                        clear l0 l1 l2 l3 l4 l5 l6 l7 l8
                        go_wp2_with fail
                        go_roundg (gk - 1)
                        case measure => have := HLL.out; omega
                        case rel => exact ⟨k + 1 + 1, by go_num, HLL.out, by omega, hid (HR13.out.still (same_grow _ _ _)), hid (HBG.out.kept (show Same w13 _ from same_grow _ _ _) (fun f => f))⟩
                    · have f3 : decide ((l : Int) < (mm : Int)) = false := by simp; omega
                      have f4 : decide (l < mm) = false := by simp; omega
                      have HSA : Hid (Same w wr) := hid (Same.trans HK2.out HI.out.same)
                      have HA := awake14 wr (HX.out.kept HSA.out (fun f => f))
                      clear hll HC5
                      go_wp2_with fail
                      refine HA.mono ?_
                      rintro e w15 ⟨rfl, hk15⟩
                      have HK15 := hid (Same.trans HSA.out hk15)
                      clear hk15 HA
                      go_wp2_with fail
                      go_ret
                      exact ⟨rfl, HK15.out⟩

end Go.Proofs.YtcokedgoibiljaaGreatDoor
