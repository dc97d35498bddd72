/-
  Layer 12's law ChainStays.
-/
import Derived.Test.YtgcialknmbmoeaaChSm
import Derived.BigQuiet
import Derived.Deep.RegionHeld3
namespace Go.Proofs.Ytgcialknmbmoeaa
open Go.RowKit Go.Maps Go.Sort

set_option maxRecDepth 100000 in
set_option maxHeartbeats 2000000 in
theorem chainStays_all (a : Option Addr) (len cap : Nat) (O : Nat → Oc) (x : Cm) (kb : Bx) (kn : Nm) (at' : Int) (w : World) (ho : Ops12 w (fun k => k < w.heap.size) a len O) (hz : SzOps len O) (hx : CmOk w (fun k => k < w.heap.size) x) (_w2 : (Lit.int .i64 at').wf = true) :
    Calls Try.prog 4 #[.slice a len cap, .agg (cmC x).toArray, .agg (kyC kb kn).toArray, .int .i64 at'] w fun e w' => e = .returned (.bool true) ∧ Below w.heap.size w w' := by
  suffices H : Calls Try.prog 4 #[.slice a len cap, .agg (cmC x).toArray, .agg (kyC kb kn).toArray, .int .i64 at'] w fun e w' => e = .returned (.bool true) ∧ Same w w' from H.mono (fun e w' h => ⟨h.1, h.2.bel12⟩)
  clear _w2
  show Calls Try.prog 4 #[.slice a len cap, .agg #[.int .i64 x.t, .slice x.a x.n x.c], .agg #[.string kb.tn, .string kb.ar, .string kn.s], .int .i64 at'] w _
  have HO : Hid (Ops12 w (fun k => k < w.heap.size) a len O ∧ SzOps len O ∧ CmOk w (fun k => k < w.heap.size) x) := hid ⟨ho, hz, hx⟩
  clear ho hz hx
  obtain ⟨wA, hwA⟩ : ∃ W, W = (w.alloc (.cells #[.int .i64 x.t, .slice x.a x.n x.c] 34)).alloc (.cells #[.string kb.tn, .string kb.ar, .string kn.s] 36) := ⟨_, rfl⟩
  obtain ⟨cb, hcb⟩ : ∃ y, y = w.heap.size := ⟨_, rfl⟩
  have HKA : Hid (Same w wA) := hid (by rw [hwA]; exact ((Kept.refl _ w).alloc _).alloc _)
  have BA : Hid (Blk wA cb #[.int .i64 x.t, .slice x.a x.n x.c] 34 ∧ Blk wA (cb + 1) #[.string kb.tn, .string kb.ar, .string kn.s] 36) := hid (by
    rw [hwA, hcb]
    exact ⟨(Blk.new w _ _).kept (F := fun _ => False) ((Kept.refl _ _).alloc _) (fun f => f), by simpa using Blk.new (w.alloc (.cells #[.int .i64 x.t, .slice x.a x.n x.c] 34)) _ _⟩)
  have HC : Hid (∀ w', Same wA w' → w'.cell? ⟨cb, 0, none⟩ = some (.int .i64 x.t) ∧ w'.cell? ⟨cb, 1, none⟩ = some (.slice x.a x.n x.c) ∧ w'.cell? ⟨cb + 1, 0, none⟩ = some (.string kb.tn) ∧ w'.cell? ⟨cb + 1, 1, none⟩ = some (.string kb.ar) ∧ w'.cell? ⟨cb + 1, 2, none⟩ = some (.string kn.s)) := hid (fun w' hk => by
    have h1 := BA.out.1.kept hk (fun f => f)
    have h2 := BA.out.2.kept hk (fun f => f)
    exact ⟨h1.cell 0, h1.cell 1, h2.cell 0, h2.cell 1, h2.cell 2⟩)
  go_enter Try.func4, Try.ntmps4
  go_wp2_with fail
  rw [← hwA, ← hcb]
  clear hwA hcb
  refine (clarge_any wA _ a len cap O (HO.out.1.kept HKA.out (fun _ _ _ f => f)) HO.out.2.1).mono ?_
  rintro e w1 ⟨r, rfl, hr, hk⟩
  have H1 : Hid (Same wA w1) := hid hk
  have HR : Hid (r = false → len + sumW O len ≤ 2000) := hid hr
  obtain ⟨c0, c1, c2, c3, c4⟩ := HC.out w1 H1.out
  clear hk hr
  by_cases hn : 2000 < x.n
  · have q1 : decide ((2000 : Int) < (x.n : Int)) = true := by simp; omega
    have q2 : decide (2000 < x.n) = true := by simp; omega
    cases r with
    | true =>
      go_wp2_with fail
      refine (cawake_any w1).mono ?_
      rintro e w2 ⟨rfl, hk⟩
      go_wp2_with fail
      go_ret
      exact ⟨rfl, HKA.out.trans (H1.out.trans hk)⟩
    | false =>
      go_wp2_with fail
      refine (cawake_any w1).mono ?_
      rintro e w2 ⟨rfl, hk⟩
      go_wp2_with fail
      go_ret
      exact ⟨rfl, HKA.out.trans (H1.out.trans hk)⟩
  have q1 : decide ((2000 : Int) < (x.n : Int)) = false := by simp; omega
  have q2 : decide (2000 < x.n) = false := by simp; omega
  cases r with
  | true =>
    go_wp2_with fail
    refine (cawake_any w1).mono ?_
    rintro e w2 ⟨rfl, hk⟩
    go_wp2_with fail
    go_ret
    exact ⟨rfl, HKA.out.trans (H1.out.trans hk)⟩
  | false =>
    have HL : Hid (len + sumW O len ≤ 2000) := hid (HR.out rfl)
    have HW1 : Hid (Same w w1) := hid (HKA.out.trans H1.out)
    clear HR
    go_wp2_with fail
    refine (built_any w1 a len cap O ((HO.out.1.kept HW1.out (fun _ _ _ f => f)).mono (fun k hk => Nat.lt_of_lt_of_le hk HW1.out.size)) (HL.out)).mono ?_
    rintro e w2 ⟨p, M, rfl, ⟨ρ, g1, g2, g3⟩, hM⟩
    have HS : Hid (Sto 6000 w1.heap.size w2 p M ρ ∧ (∀ k, k < w1.heap.size → ρ k = 0) ∧ Same w1 w2 ∧ M.floor = 0) := hid ⟨g1, g2, g3, hM⟩
    have hN := g1.nums
    clear g1 g2 g3 hM c0 c1 c2 c3 c4
    go_wp2_with fail
    refine (bnow ⟨ρ, HS.out.1, HS.out.2.1, HS.out.2.2.1⟩).mono ?_
    rintro e w3 ⟨rfl, hk3⟩
    have HS3 : Hid (Sto 6000 w1.heap.size w3 p M ρ ∧ (∀ k, k < w1.heap.size → ρ k = 0) ∧ Same w1 w3 ∧ M.floor = 0) := hid ⟨HS.out.1.same hk3, HS.out.2.1, HS.out.2.2.1.trans hk3, HS.out.2.2.2⟩
    clear hk3 HS
    obtain ⟨c0, c1, c2, c3, c4⟩ := HC.out w3 (H1.out.trans HS3.out.2.2.1)
    go_wp2_with fail
    refine (bget ⟨ρ, HS3.out.1, HS3.out.2.1, HS3.out.2.2.1⟩ kb kn at').mono ?_
    rintro e w4 ⟨rfl, hk4⟩
    obtain ⟨A0, hA0⟩ : ∃ y, y = newV (M.V kb kn) (max at' M.floor) := ⟨_, rfl⟩
    rw [← hA0]
    have HA0 := hid hA0
    have HS4 : Hid (Sto 6000 w1.heap.size w4 p M ρ ∧ (∀ k, k < w1.heap.size → ρ k = 0) ∧ Same w1 w4 ∧ M.floor = 0) := hid ⟨HS3.out.1.same hk4, HS3.out.2.1, HS3.out.2.2.1.trans hk4, HS3.out.2.2.2⟩
    clear hk4 HS3 hA0 c0 c1 c2 c3 c4
    go_wp2_with fail
    refine (bdump ⟨ρ, HS4.out.1, HS4.out.2.1, HS4.out.2.2.1⟩ at').mono ?_
    rintro e w5 ⟨⟨v, As, rfl, d1, d2, d3, d4, hk5⟩, _⟩
    have HD := hid d2
    have HP : Hid (StS 6000 w1 w5 p M ρ v As) := hid (StS.first HS4.out.1 HS4.out.2.1 HS4.out.2.2.1 hk5 d1)
    have HF := hid HS4.out.2.2.2
    clear d1 d2 d3 d4 hk5 HS4
    obtain ⟨c0, c1, c2, c3, c4⟩ := HC.out w5 (H1.out.trans HP.out.same)
    go_wp2_with fail
    refine (bget HP.out.stb kb kn M.now).mono ?_
    rintro e w6 ⟨rfl, hk6⟩
    obtain ⟨A1, hA1⟩ : ∃ y, y = newV (M.V kb kn) (max M.now M.floor) := ⟨_, rfl⟩
    rw [← hA1]
    have HA1 : Hid (A1 = newV (M.V kb kn) M.now) := hid (by rw [hA1, show max M.now M.floor = M.now by omega])
    have HP6 := hid (HP.out.kept hk6)
    clear hk6 hA1 c0 c1 c2 c3 c4
    obtain ⟨c0, c1, c2, c3, c4⟩ := HC.out w6 (H1.out.trans HP6.out.same)
    have HX6 : Hid (CmOk w6 (fun k => k < w1.heap.size) x) := hid (by
      have h9 := HO.out.2.2.kept (HW1.out.trans HP6.out.same) (fun _ _ _ f => f)
      exact ⟨h9.src.mono (fun k hk => Nat.lt_of_lt_of_le hk HW1.out.size), h9.len, h9.num⟩)
    go_wp2_with fail
    refine (sput HP6.out x HX6.out (by omega)).mono ?_
    clear c0 c1 c2 c3 c4
    rintro e w7 (⟨rfl, ht, hs7⟩ | ⟨rfl, ht, ρ7, hs7⟩)
    · have HP7 := hid hs7
      clear hs7
      have q3 : decide (x.t ≤ M.now) = true := by simp; omega
      have q4 : (M.now == M.now) = true := by simp
      go_wp2_with fail
      refine (cawake_any w7).mono ?_
      rintro e w8 ⟨rfl, hk8⟩
      have HP8 := hid (HP7.out.kept hk8)
      clear hk8
      obtain ⟨c0, c1, c2, c3, c4⟩ := HC.out w8 (H1.out.trans HP8.out.same)
      go_wp2_with fail
      refine (bnow HP8.out.stb).mono ?_
      rintro e w9 ⟨rfl, hk9⟩
      have HP9 := hid (HP8.out.kept hk9)
      clear hk9 c0 c1 c2 c3 c4
      go_wp2_with fail
      refine (bdump HP9.out.stb at').mono ?_
      rintro e w10 ⟨⟨v2, As2, rfl, d1, d2, d3, d4, hk10⟩, _⟩
      have HP10 := hid (HP9.out.kept hk10)
      have HD2 : Hid (DmAt w9.heap.size w10 v2 As2 ∧ adD As2 = adD As ∧ As2.length ≤ 100000 ∧ ∀ x ∈ As2, x.es.length ≤ 100000) := hid ⟨d1, d2.det HD.out, d3, d4⟩
      clear d1 d2 d3 d4 hk10
      go_wp2_with fail
      refine (dsame_true w10 _ _ v2 v As2 As HD2.out.1 HP10.out.dm HD2.out.2.1 HD2.out.2.2.1 HD2.out.2.2.2).mono ?_
      rintro e w11 ⟨rfl, hk11⟩
      go_wp2_with fail
      go_ret
      exact ⟨rfl, HW1.out.trans (HP10.out.same.trans hk11)⟩
    · have HP7 : Hid (StS (6000 + 3 * x.n) w1 w7 p (putM M x.t x.ws) ρ7 v As) := hid hs7
      clear hs7
      have q3 : decide (x.t ≤ M.now) = false := by simp; omega
      have q4 : (x.t == x.t) = true := by simp
      have HNOW : Hid (∀ W', Same w7 W' → Calls Try.prog 13 #[.pointer (some ⟨p, 0, none⟩)] W' fun e w'' => e = .returned (.int .i64 x.t) ∧ Same W' w'') := hid (fun W' hk => bnow (HP7.out.kept hk).stb)
      have HU : Hid (UpTo M.V x.t) := hid (HP.out.sto.upTo (by omega))
      have HXL : Hid (x.ws.length = x.n ∧ SrcC 5 wrE w1 (fun k => k < w1.heap.size) (.slice x.a x.n x.c) x.ws) := hid (by
        have h9 := HO.out.2.2.kept HW1.out (fun _ _ _ f => f)
        exact ⟨h9.len, h9.src.mono (fun k hk => Nat.lt_of_lt_of_le hk HW1.out.size)⟩)
      have hF0 : M.floor = 0 := HF.out
      have HST : Hid (A1 = newV (putsF M.V (x.ws.take 0) x.t kb kn) x.t) := hid (by rw [HA1.out]; exact (HP.out.sto.newLast kb kn (by omega)).symm)
      obtain ⟨c0, c1, c2, c3, c4⟩ := HC.out w7 (H1.out.trans HP7.out.same)
      go_upto_region 13 with fail
      go_region_held3 (fun w' => w'.cell? ⟨cb, 0, none⟩ = some (.int .i64 x.t))
        (first | (go_split_ands; exact hk8.cell (by assumption) (fun f => f)) | go_keep)
        (first | (go_at_call 13; refine (HNOW.out _ (by first | exact (Kept.refl _ _).drew | exact Kept.refl _ _)).mono ?_; rintro e w8 ⟨rfl, hk8⟩))
      have HP8 := hid (HP7.out.kept (Kept.undrewC hk8))
      clear hk8 HP7 HNOW c0 c1 c2 c3 c4
      obtain ⟨c0, c1, c2, c3, c4⟩ := HC.out w8 (H1.out.trans HP8.out.same)
      by_cases hat : at' < x.t
      · have q5 : decide (at' < x.t) = true := by simp; omega
        go_wp2_with fail
        refine (bget HP8.out.stb kb kn at').mono ?_
        rintro e w9 ⟨rfl, hk9⟩
        have e9 : newV ((putM M x.t x.ws).V kb kn) (max at' (putM M x.t x.ws).floor) = A0 := by
          rw [HA0.out]
          exact puts_old HU.out x.ws kb kn (by show max at' M.floor < x.t; omega)
        rw [e9]
        have HP9 := hid (HP8.out.kept hk9)
        clear hk9 e9 c0 c1 c2 c3 c4
        have q6 : (A0.data.toList == A0.data.toList) = true := by simp
        have q7 : (A0.there == A0.there) = true := by simp
        go_wp2_with fail
        refine (bdump HP9.out.stb at').mono ?_
        rintro e w10 ⟨⟨v2, As2, rfl, d1, d2, d3, d4, hk10⟩, _⟩
        have HP10 := hid (HP9.out.kept hk10)
        have HD2 : Hid (DmAt w9.heap.size w10 v2 As2 ∧ adD As2 = adD As ∧ As2.length ≤ 100000 ∧ ∀ x ∈ As2, x.es.length ≤ 100000) := hid ⟨d1, by
          have hv : visF (putM M x.t x.ws).V (max at' (putM M x.t x.ws).floor) = visF M.V (max at' M.floor) := by
            funext b n
            unfold visF visV
            rw [show newV ((putM M x.t x.ws).V b n) (max at' (putM M x.t x.ws).floor) = newV (M.V b n) (max at' M.floor) from puts_old HU.out x.ws b n (by show max at' M.floor < x.t; omega)]
          rw [hv] at d2
          exact d2.det HD.out, d3, d4⟩
        clear d1 d2 d3 d4 hk10
        go_wp2_with fail
        refine (dsame_true w10 _ _ v2 v As2 As HD2.out.1 HP10.out.dm HD2.out.2.1 HD2.out.2.2.1 HD2.out.2.2.2).mono ?_
        rintro e wB ⟨rfl, hkB⟩
        have HPB : Hid (Same w1 wB ∧ StB w1 wB p (putM M x.t x.ws) (6000 + 3 * x.n)) := hid ⟨HP10.out.same.trans hkB, (HP10.out.kept hkB).stb⟩
        clear hkB HP10 HP9 HP8 HD2 HP HP6 HX6 HA0 HD
        clear q6 q7
        go_wp2_with fail
        go_loopg [14, 15, 19] x.n (fun q z14 z15 z19 wr => ∃ (i : Nat) (A : Ver), z14 = .string A.data ∧ z15 = .bool A.there ∧ z19 = .int .i64 (i : Nat) ∧ i ≤ x.n ∧ x.n - i ≤ q ∧ Hid (Same wB wr ∧ A = newV (putsF M.V (x.ws.take i) x.t kb kn) x.t))
        case atStart => exact ⟨0, A1, rfl, rfl, rfl, by omega, by omega, hid ⟨by first | exact Kept.refl _ _ | exact (Kept.refl _ _).drew, HST.out⟩⟩
        case round =>
          obtain ⟨i, A, rfl, rfl, rfl, hi, hiq, HI⟩ := hrel
          obtain ⟨c0, c1, c2, c3, c4⟩ := HC.out _ (H1.out.trans (HPB.out.1.trans HI.out.1))
          by_cases hlt : i < x.n
          · have u1 : decide (i < x.n) = true := by simp; omega
            have hi5 : i < x.ws.length := by rw [HXL.out.1]; exact hlt
            obtain ⟨ao, cap', hv', _, hcs⟩ := HXL.out.2.kept wrE_ok (HPB.out.1.trans HI.out.1) (fun _ _ _ f => f)
            obtain ⟨g, o, hao, _, hcell⟩ := hcs (by intro e; rw [e] at hi5; simp at hi5)
            injection hv' with e1 en ec
            have hax : x.a = some ⟨g, o, none⟩ := by rw [e1, hao]
            rw [hax] at c1
            obtain ⟨y, hy⟩ : ∃ y, y = x.ws[i] := ⟨_, rfl⟩
            have y0 := hcell i hi5 0 (by decide)
            have y1 := hcell i hi5 1 (by decide)
            have y2 := hcell i hi5 2 (by decide)
            have y3 := hcell i hi5 3 (by decide)
            have y4 := hcell i hi5 4 (by decide)
            rw [← hy] at y0 y1 y2 y3 y4
            simp only [wrE, List.getElem?_cons_zero, List.getElem?_cons_succ, Nat.add_zero] at y0 y1 y2 y3 y4
            simp only [← Nat.add_assoc] at y1 y2 y3 y4
            have HY := hid hy
            have i1 : (0 : Int) ≤ (i : Int) := by omega
            have i2 : (i : Int) < (x.n : Int) := by omega
            have hiw : IntKind.i64.wrap ((i : Int) + 1) = ((i + 1 : Nat) : Int) := by rw [IntKind.wrap_i64]; omega
            clear hcs hcell hao e1 hax hy en ec
            have s1 := streq12 y.b.tn kb.tn
            have s2 := streq12 y.b.ar kb.ar
            have s3 := streq12 y.n.s kn.s
            by_cases hm : y.b.tn = kb.tn ∧ y.b.ar = kb.ar ∧ y.n.s = kn.s
            · obtain ⟨m1, m2, m3⟩ := hm
              have HB : Hid (y.b = kb ∧ y.n = kn) := hid ⟨Bx.ext' m1 m2, Nm.ext' m3⟩
              have HV : Hid (verOf y x.t = newV (putsF M.V (x.ws.take (i + 1)) x.t kb kn) x.t) := hid (by
                rw [← HB.out.1, ← HB.out.2, HY.out]
                exact (puts_hit HU.out x.ws i hi5).symm)
              rw [decide_eq_true m1] at s1
              rw [decide_eq_true m2] at s2
              rw [decide_eq_true m3] at s3
              clear m1 m2 m3
              cases hth : y.there with
              | true =>
                rw [hth] at y3
                obtain ⟨_, _, f2, f3, f4⟩ := HC.out (wr.alloc (.cells #[.string y.b.tn, .string y.b.ar, .string y.n.s, .bool true, .string y.data] 49)) (H1.out.trans (HPB.out.1.trans (HI.out.1.trans ((Kept.refl _ _).alloc _))))
                go_wp2_with fail
                go_roundg (gk - 1)
                case measure => omega
                case rel =>
                  refine ⟨i + 1, ⟨x.t, true, y.data⟩, rfl, rfl, by go_num, by omega, by omega, hid ⟨?_, ?_⟩⟩
                  · exact HI.out.1.trans ((Kept.refl _ _).alloc _)
                  · rw [← HV.out]; unfold verOf; rw [hth]; rfl
              | false =>
                rw [hth] at y3
                obtain ⟨_, _, f2, f3, f4⟩ := HC.out (wr.alloc (.cells #[.string y.b.tn, .string y.b.ar, .string y.n.s, .bool false, .string y.data] 49)) (H1.out.trans (HPB.out.1.trans (HI.out.1.trans ((Kept.refl _ _).alloc _))))
                go_wp2_with fail
                go_roundg (gk - 1)
                case measure => omega
                case rel =>
                  refine ⟨i + 1, ⟨x.t, false, ⟨#[]⟩⟩, rfl, rfl, by go_num, by omega, by omega, hid ⟨?_, ?_⟩⟩
                  · exact HI.out.1.trans ((Kept.refl _ _).alloc _)
                  · rw [← HV.out]; unfold verOf; rw [hth]; rfl
            · have HV : Hid (A = newV (putsF M.V (x.ws.take (i + 1)) x.t kb kn) x.t) := hid (by
                rw [puts_miss x.ws i hi5 kb kn (fun e => hm (by rw [HY.out, ← e.1, ← e.2]; exact ⟨rfl, rfl, rfl⟩))]
                exact HI.out.2)
              obtain ⟨d1, e1⟩ : ∃ r, r = decide (y.b.tn = kb.tn) := ⟨_, rfl⟩
              obtain ⟨d2, e2⟩ : ∃ r, r = decide (y.b.ar = kb.ar) := ⟨_, rfl⟩
              obtain ⟨d3, e3⟩ : ∃ r, r = decide (y.n.s = kn.s) := ⟨_, rfl⟩
              rw [← e1] at s1
              rw [← e2] at s2
              rw [← e3] at s3
              have hd : (d1 && (d2 && d3)) = false := by
                cases d1 <;> cases d2 <;> cases d3 <;> first | rfl | (exfalso; exact hm ⟨of_decide_eq_true e1.symm, of_decide_eq_true e2.symm, of_decide_eq_true e3.symm⟩)
              have hd' : (d1 && d2 && d3) = false := by rw [Bool.and_assoc]; exact hd
              clear e1 e2 e3 hm
              obtain ⟨_, _, f2, f3, f4⟩ := HC.out (wr.alloc (.cells #[.string y.b.tn, .string y.b.ar, .string y.n.s, .bool y.there, .string y.data] 49)) (H1.out.trans (HPB.out.1.trans (HI.out.1.trans ((Kept.refl _ _).alloc _))))
              clear hd'
              cases d1 <;> cases d2 <;> cases d3
              all_goals first
                | (exfalso; revert hd; decide)
                | (go_wp2_with fail
                   go_roundg (gk - 1)
                   case measure => omega
                   case rel => exact ⟨i + 1, A, rfl, rfl, by go_num, by omega, by omega, hid ⟨HI.out.1.trans ((Kept.refl _ _).alloc _), HV.out⟩⟩)
          · have u1 : decide (i < x.n) = false := by simp; omega
            have HE : Hid (newV ((putM M x.t x.ws).V kb kn) (max x.t (putM M x.t x.ws).floor) = A) := hid (by
              rw [HI.out.2, show i = x.ws.length by have := HXL.out.1; omega, List.take_length]
              show newV (putsF M.V x.ws x.t kb kn) (max x.t M.floor) = _
              rw [show max x.t M.floor = x.t by omega])
            go_wp2_with fail
            refine (bget (HPB.out.2.same HI.out.1) kb kn x.t).mono ?_
            rintro e w20 ⟨rfl, hk20⟩
            rw [HE.out]
            have q6 : (A.data.toList == A.data.toList) = true := by simp
            have q7 : (A.there == A.there) = true := by simp
            have HK20 := hid hk20
            clear hk20 c0 c1 c2 c3 c4
            go_wp2_with fail
            refine (cawake_any w20).mono ?_
            rintro e w21 ⟨rfl, hk21⟩
            go_wp2_with fail
            go_ret
            exact ⟨rfl, HW1.out.trans (HPB.out.1.trans (HI.out.1.trans (HK20.out.trans hk21)))⟩
      · have q5 : decide (at' < x.t) = false := by simp; omega
        obtain ⟨wB, rfl⟩ : ∃ W, W = w8 := ⟨_, rfl⟩
        have HPB : Hid (Same w1 wB ∧ StB w1 wB p (putM M x.t x.ws) (6000 + 3 * x.n)) := hid ⟨HP8.out.same, HP8.out.stb⟩
        clear HP8 HP HP6 HX6 HA0 HD c1 c2 c3 c4
        go_wp2_with fail
        clear c0
        go_loopg [14, 15, 19] x.n (fun q z14 z15 z19 wr => ∃ (i : Nat) (A : Ver), z14 = .string A.data ∧ z15 = .bool A.there ∧ z19 = .int .i64 (i : Nat) ∧ i ≤ x.n ∧ x.n - i ≤ q ∧ Hid (Same wB wr ∧ A = newV (putsF M.V (x.ws.take i) x.t kb kn) x.t))
        case atStart => exact ⟨0, A1, rfl, rfl, rfl, by omega, by omega, hid ⟨by first | exact Kept.refl _ _ | exact (Kept.refl _ _).drew, HST.out⟩⟩
        case round =>
          obtain ⟨i, A, rfl, rfl, rfl, hi, hiq, HI⟩ := hrel
          obtain ⟨c0, c1, c2, c3, c4⟩ := HC.out _ (H1.out.trans (HPB.out.1.trans HI.out.1))
          by_cases hlt : i < x.n
          · have u1 : decide (i < x.n) = true := by simp; omega
            have hi5 : i < x.ws.length := by rw [HXL.out.1]; exact hlt
            obtain ⟨ao, cap', hv', _, hcs⟩ := HXL.out.2.kept wrE_ok (HPB.out.1.trans HI.out.1) (fun _ _ _ f => f)
            obtain ⟨g, o, hao, _, hcell⟩ := hcs (by intro e; rw [e] at hi5; simp at hi5)
            injection hv' with e1 en ec
            have hax : x.a = some ⟨g, o, none⟩ := by rw [e1, hao]
            rw [hax] at c1
            obtain ⟨y, hy⟩ : ∃ y, y = x.ws[i] := ⟨_, rfl⟩
            have y0 := hcell i hi5 0 (by decide)
            have y1 := hcell i hi5 1 (by decide)
            have y2 := hcell i hi5 2 (by decide)
            have y3 := hcell i hi5 3 (by decide)
            have y4 := hcell i hi5 4 (by decide)
            rw [← hy] at y0 y1 y2 y3 y4
            simp only [wrE, List.getElem?_cons_zero, List.getElem?_cons_succ, Nat.add_zero] at y0 y1 y2 y3 y4
            simp only [← Nat.add_assoc] at y1 y2 y3 y4
            have HY := hid hy
            have i1 : (0 : Int) ≤ (i : Int) := by omega
            have i2 : (i : Int) < (x.n : Int) := by omega
            have hiw : IntKind.i64.wrap ((i : Int) + 1) = ((i + 1 : Nat) : Int) := by rw [IntKind.wrap_i64]; omega
            clear hcs hcell hao e1 hax hy en ec
            have s1 := streq12 y.b.tn kb.tn
            have s2 := streq12 y.b.ar kb.ar
            have s3 := streq12 y.n.s kn.s
            by_cases hm : y.b.tn = kb.tn ∧ y.b.ar = kb.ar ∧ y.n.s = kn.s
            · obtain ⟨m1, m2, m3⟩ := hm
              have HB : Hid (y.b = kb ∧ y.n = kn) := hid ⟨Bx.ext' m1 m2, Nm.ext' m3⟩
              have HV : Hid (verOf y x.t = newV (putsF M.V (x.ws.take (i + 1)) x.t kb kn) x.t) := hid (by
                rw [← HB.out.1, ← HB.out.2, HY.out]
                exact (puts_hit HU.out x.ws i hi5).symm)
              rw [decide_eq_true m1] at s1
              rw [decide_eq_true m2] at s2
              rw [decide_eq_true m3] at s3
              clear m1 m2 m3
              cases hth : y.there with
              | true =>
                rw [hth] at y3
                obtain ⟨_, _, f2, f3, f4⟩ := HC.out (wr.alloc (.cells #[.string y.b.tn, .string y.b.ar, .string y.n.s, .bool true, .string y.data] 49)) (H1.out.trans (HPB.out.1.trans (HI.out.1.trans ((Kept.refl _ _).alloc _))))
                go_wp2_with fail
                go_roundg (gk - 1)
                case measure => omega
                case rel =>
                  refine ⟨i + 1, ⟨x.t, true, y.data⟩, rfl, rfl, by go_num, by omega, by omega, hid ⟨?_, ?_⟩⟩
                  · exact HI.out.1.trans ((Kept.refl _ _).alloc _)
                  · rw [← HV.out]; unfold verOf; rw [hth]; rfl
              | false =>
                rw [hth] at y3
                obtain ⟨_, _, f2, f3, f4⟩ := HC.out (wr.alloc (.cells #[.string y.b.tn, .string y.b.ar, .string y.n.s, .bool false, .string y.data] 49)) (H1.out.trans (HPB.out.1.trans (HI.out.1.trans ((Kept.refl _ _).alloc _))))
                go_wp2_with fail
                go_roundg (gk - 1)
                case measure => omega
                case rel =>
                  refine ⟨i + 1, ⟨x.t, false, ⟨#[]⟩⟩, rfl, rfl, by go_num, by omega, by omega, hid ⟨?_, ?_⟩⟩
                  · exact HI.out.1.trans ((Kept.refl _ _).alloc _)
                  · rw [← HV.out]; unfold verOf; rw [hth]; rfl
            · have HV : Hid (A = newV (putsF M.V (x.ws.take (i + 1)) x.t kb kn) x.t) := hid (by
                rw [puts_miss x.ws i hi5 kb kn (fun e => hm (by rw [HY.out, ← e.1, ← e.2]; exact ⟨rfl, rfl, rfl⟩))]
                exact HI.out.2)
              obtain ⟨d1, e1⟩ : ∃ r, r = decide (y.b.tn = kb.tn) := ⟨_, rfl⟩
              obtain ⟨d2, e2⟩ : ∃ r, r = decide (y.b.ar = kb.ar) := ⟨_, rfl⟩
              obtain ⟨d3, e3⟩ : ∃ r, r = decide (y.n.s = kn.s) := ⟨_, rfl⟩
              rw [← e1] at s1
              rw [← e2] at s2
              rw [← e3] at s3
              have hd : (d1 && (d2 && d3)) = false := by
                cases d1 <;> cases d2 <;> cases d3 <;> first | rfl | (exfalso; exact hm ⟨of_decide_eq_true e1.symm, of_decide_eq_true e2.symm, of_decide_eq_true e3.symm⟩)
              have hd' : (d1 && d2 && d3) = false := by rw [Bool.and_assoc]; exact hd
              clear e1 e2 e3 hm
              obtain ⟨_, _, f2, f3, f4⟩ := HC.out (wr.alloc (.cells #[.string y.b.tn, .string y.b.ar, .string y.n.s, .bool y.there, .string y.data] 49)) (H1.out.trans (HPB.out.1.trans (HI.out.1.trans ((Kept.refl _ _).alloc _))))
              clear hd'
              cases d1 <;> cases d2 <;> cases d3
              all_goals first
                | (exfalso; revert hd; decide)
                | (go_wp2_with fail
                   go_roundg (gk - 1)
                   case measure => omega
                   case rel => exact ⟨i + 1, A, rfl, rfl, by go_num, by omega, by omega, hid ⟨HI.out.1.trans ((Kept.refl _ _).alloc _), HV.out⟩⟩)
          · have u1 : decide (i < x.n) = false := by simp; omega
            have HE : Hid (newV ((putM M x.t x.ws).V kb kn) (max x.t (putM M x.t x.ws).floor) = A) := hid (by
              rw [HI.out.2, show i = x.ws.length by have := HXL.out.1; omega, List.take_length]
              show newV (putsF M.V x.ws x.t kb kn) (max x.t M.floor) = _
              rw [show max x.t M.floor = x.t by omega])
            go_wp2_with fail
            refine (bget (HPB.out.2.same HI.out.1) kb kn x.t).mono ?_
            rintro e w20 ⟨rfl, hk20⟩
            rw [HE.out]
            have q6 : (A.data.toList == A.data.toList) = true := by simp
            have q7 : (A.there == A.there) = true := by simp
            have HK20 := hid hk20
            clear hk20 c0 c1 c2 c3 c4
            go_wp2_with fail
            refine (cawake_any w20).mono ?_
            rintro e w21 ⟨rfl, hk21⟩
            go_wp2_with fail
            go_ret
            exact ⟨rfl, HW1.out.trans (HPB.out.1.trans (HI.out.1.trans (HK20.out.trans hk21)))⟩

end Go.Proofs.Ytgcialknmbmoeaa
