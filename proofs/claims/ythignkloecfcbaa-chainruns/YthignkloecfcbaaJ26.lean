/-
  Of the proof: parts CrH.
-/
import Derived.Deep.CutRange
import Derived.Deep.RegionLaw
import Derived.BigRegion
import Derived.Test.YthignkloecfcbaaJ24

/-
  Layer 12, the reference: Put.
-/
namespace Go.Proofs.Ythignkloecfcbaa
open Go.RowKit Go.Maps Go.Sort

theorem verOf_there (x : Wr) (t : Int) : (verOf x t).there = x.there := by
  unfold verOf
  cases h : x.there <;> rfl

theorem verOf_eta (x : Wr) (t : Int) : (⟨(verOf x t).t, (verOf x t).there, (verOf x t).data⟩ : Ver) = verOf x t := rfl

set_option maxRecDepth 100000 in
set_option maxHeartbeats 1000000 in
theorem rput_old {N : Nat} {w : World} {p : Nat} {L : List Lv} {now floor : Int} {v : Value} (h : Rc N w p L now floor v) (t : Int) (ht : t ≤ now) (ao : Option Addr) (n cap : Nat) : Calls Try.prog 26 #[.pointer (some ⟨p, 0, none⟩), .agg #[.int .i64 t, .slice ao n cap]] w fun e w' => e = .returned (.int .i64 120) ∧ Same w w' := by
  obtain ⟨wA, hwA⟩ : ∃ W, W = w.alloc (.cells #[.int .i64 t, .slice ao n cap] 34) := ⟨_, rfl⟩
  have hka : Same w wA := by rw [hwA]; exact (Kept.refl _ w).alloc _
  have b1 : decide (t ≤ now) = true := decide_eq_true ht
  have p1 : wA.cell? ⟨p, 1, none⟩ = some (.int .i64 now) := (h.same hka).blk.cell 1
  have x0 : wA.cell? ⟨w.heap.size, 0, none⟩ = some (.int .i64 t) := by rw [hwA]; exact (Blk.new w _ _).cell 0
  have HK := hid hka
  clear h hka ht
  go_enter Try.func26, Try.ntmps26
  go_upto_region 1 with fail
  rw [← hwA]
  clear hwA
  go_region
  all_goals go_wp2_with fail
  all_goals go_ret
  all_goals exact ⟨rfl, HK.out.drew⟩

/-- What the loop over the writes keeps. -/
def RPI (N : Nat) (w : World) (p : Nat) (L : List Lv) (t floor : Int) (v : Value) (F I : Nat → Prop) (xb : Nat) (cm : Array Value) (sv : Value) (ws : List Wr) (i : Nat) (wr : World) (Li : List Lv) (vi : Value) : Prop :=
  Rc N wr p Li t floor vi ∧ ofK Li = putsF (ofK L) (ws.take i) t ∧ Li.length ≤ L.length + i ∧ (∀ j, vi.ownBlock = some j → v.ownBlock = some j ∨ w.heap.size ≤ j) ∧ Kept F w wr ∧ Blk wr xb cm 34 ∧ SrcC 5 wrE wr I sv ws

theorem RPI.next {N : Nat} {w : World} {p : Nat} {L : List Lv} {t floor : Int} {v : Value} {F I : Nat → Prop} {xb : Nat} {cm : Array Value} {sv : Value} {ws : List Wr} {i : Nat} {wr wF : World} {Li L5 : List Lv} {vi v5 : Value} (h : RPI N w p L t floor v F I xb cm sv ws i wr Li vi) (hF : F = fun k => k = p ∨ v.ownBlock = some k) (hI : ∀ j, I j → ¬ F j ∧ j < w.heap.size) (hxp : ¬ xb = p) (hk : Kept (fun k => k = p ∨ vi.ownBlock = some k) wr wF) (hrc : Rc N wF p L5 t floor v5) (hown : ∀ j, v5.ownBlock = some j → vi.ownBlock = some j ∨ wr.heap.size ≤ j) (hvs : ofK L5 = putsF (ofK L) (ws.take (i + 1)) t) (hlen : L5.length ≤ Li.length + 1) : RPI N w p L t floor v F I xb cm sv ws (i + 1) wF L5 v5 := by
  obtain ⟨h1, h2, h3, h4, h5, h6, h7⟩ := h
  refine ⟨hrc, hvs, by omega, fun j e => ?_, Kept.trans h5 hk (fun _ _ e => e) (fun k hkl e => ?_), h6.kept hk (fun e => ?_), h7.kept wrE_ok hk (fun j hj _ e => ?_)⟩
  · rcases hown j e with q | q
    · exact h4 j q
    · exact .inr (Nat.le_trans h5.size q)
  · rw [hF]
    rcases e with e | e
    · exact .inl e
    · rcases h4 k e with q | q
      · exact .inr q
      · omega
  · rcases e with e | e
    · exact hxp e
    · exact h1.row.off_blk h6 (by decide) e
  · rcases e with e | e
    · exact (hI j hj).1 (by rw [hF]; exact .inl e)
    · rcases h4 j e with q | q
      · exact (hI j hj).1 (by rw [hF]; exact .inr q)
      · have := (hI j hj).2; omega

/-- The row is another one. -/
theorem Rc.app {N : Nat} {w w5 : World} {p : Nat} {L L5 : List Lv} {now floor : Int} {v v5 : Value} (h : Rc N w p L now floor v) (hk : Kept (fun k => v.ownBlock = some k) w w5) (hr : RowC N 93 6 lvE w5 v5 L5) (hl : L5.length ≤ 100000) : Rc N (w5.setCell ⟨p, 0, none⟩ v5) p L5 now floor v5 ∧ Kept (fun k => k = p ∨ v.ownBlock = some k) w (w5.setCell ⟨p, 0, none⟩ v5) := by
  have hp : Blk w5 p #[v, .int .i64 now, .int .i64 floor] 30 := h.blk.kept hk (h.row.off_blk h.blk (by decide))
  have hks : Kept (· = p) w5 (w5.setCell ⟨p, 0, none⟩ v5) := (Kept.refl (· = p) w5).setCell _ _ (.inl rfl)
  refine ⟨⟨?_, hr.kept hks (fun k e e2 => hr.off_blk hp (by decide) (by rw [← e2]; exact e)), h.np, hl⟩, Kept.trans hk hks (fun _ _ e => .inr e) (fun _ _ e => .inl e)⟩
  have h9 := hp.set 0 v5
  simpa using h9

/-- What Put leaves. -/
def RPu (N : Nat) (w : World) (p : Nat) (L : List Lv) (t floor : Int) (v : Value) (ws : List Wr) (w' : World) : Prop :=
  ∃ L' v', Rc N w' p L' t floor v' ∧ ofK L' = putsF (ofK L) ws t ∧ L'.length ≤ L.length + ws.length ∧ (∀ j, v'.ownBlock = some j → v.ownBlock = some j ∨ w.heap.size ≤ j) ∧ Kept (fun k => k = p ∨ v.ownBlock = some k) w w'

set_option maxRecDepth 100000 in
set_option maxHeartbeats 8000000 in
theorem rput_new {N : Nat} {w : World} {p : Nat} {L : List Lv} {now floor : Int} {v : Value} (h : Rc N w p L now floor v) (hN : N ≤ w.heap.size) (t : Int) (ht : now < t) (hu : UpTo (ofK L) t) (ws : List Wr) (sv : Value) (I : Nat → Prop) (hs : SrcC 5 wrE w I sv ws) (hI : ∀ j, I j → j ≠ p ∧ (¬ v.ownBlock = some j) ∧ j < w.heap.size) (hK : L.length + ws.length ≤ 100000) :
    Calls Try.prog 26 #[.pointer (some ⟨p, 0, none⟩), .agg #[.int .i64 t, sv]] w fun e w' => e = .returned (.int .i64 0) ∧ RPu N w p L t floor v ws w' := by
  have bt : decide (t ≤ now) = false := decide_eq_false (by omega)
  obtain ⟨ao, cap, hv, hcap, _⟩ := id hs
  obtain ⟨n, hn⟩ : ∃ n, n = ws.length := ⟨_, rfl⟩
  rw [← hn] at hv
  subst hv
  have HSR : Hid (SrcC 5 wrE w I (.slice ao n cap) ws) := hs
  obtain ⟨wA, hwA⟩ : ∃ W, W = w.alloc (.cells #[.int .i64 t, .slice ao n cap] 34) := ⟨_, rfl⟩
  have hka : Same w wA := by rw [hwA]; exact (Kept.refl _ w).alloc _
  obtain ⟨xb, hxb⟩ : ∃ x, x = w.heap.size := ⟨_, rfl⟩
  have BA : Blk wA xb #[.int .i64 t, .slice ao n cap] 34 := by rw [hwA, hxb]; exact Blk.new w _ _
  have x0 := BA.cell 0
  have x1 := BA.cell 1
  simp only [List.getElem?_toArray, List.getElem?_cons_zero, List.getElem?_cons_succ] at x0 x1
  have p1 : wA.cell? ⟨p, 1, none⟩ = some (.int .i64 now) := (h.same hka).blk.cell 1
  have zp := (h.same hka).blk.frozen 1
  obtain ⟨F, hF⟩ : ∃ F : Nat → Prop, F = fun k => k = p ∨ v.ownBlock = some k := ⟨_, rfl⟩
  obtain ⟨wB, hwB⟩ : ∃ W, W = (wA.setCell ⟨p, 1, none⟩ (.int .i64 t)).drew := ⟨_, rfl⟩
  have hkB : Kept (· = p) wA wB := by rw [hwB]; exact ((Kept.refl (· = p) wA).setCell _ _ (.inl rfl)).drew
  have hxp : ¬ xb = p := fun e => by have := h.blk.lt; omega
  have hpB : Blk wB p #[v, .int .i64 t, .int .i64 floor] 30 := by
    rw [hwB]
    have h9 := (h.same hka).blk.set 1 (.int .i64 t)
    have h8 : Blk (wA.setCell ⟨p, 1, none⟩ (.int .i64 t)) p #[v, .int .i64 t, .int .i64 floor] 30 := by simpa using h9
    exact h8
  have hown : ¬ v.ownBlock = some p := h.row.off_blk h.blk (by decide)
  have HB : Hid (Rc N wB p L t floor v ∧ Blk wB xb #[.int .i64 t, .slice ao n cap] 34 ∧ Kept F w wB ∧ SrcC 5 wrE wB I (.slice ao n cap) ws) := hid ⟨⟨hpB, (h.row.kept hka (fun _ _ f => f)).kept hkB (fun k e e2 => hown (by rw [← e2]; exact e)), h.np, h.len⟩, BA.kept hkB hxp, Kept.trans hka hkB (fun _ _ f => f.elim) (fun k _ e => by rw [hF]; exact .inl e), (HSR.out.kept wrE_ok hka (fun _ _ _ f => f)).kept wrE_ok hkB (fun j hj _ e => (hI j hj).1 e)⟩
  have HQ : Hid (N ≤ w.heap.size ∧ UpTo (ofK L) t ∧ (∀ j, I j → ¬ F j ∧ j < w.heap.size) ∧ L.length + ws.length ≤ 100000 ∧ n = ws.length ∧ xb = w.heap.size ∧ N ≤ p ∧ p < w.heap.size) := hid ⟨hN, hu, fun j hj => ⟨fun e => by rw [hF] at e; rcases e with e | e; exact (hI j hj).1 e; exact (hI j hj).2.1 e, (hI j hj).2.2⟩, hK, hn, hxb, h.np, h.blk.lt⟩
  have HF : Hid (F = fun k => k = p ∨ v.ownBlock = some k) := hF
  have hn9 : n ≤ 100000 := by omega
  clear h hN hu hs hI hK hka hkB hpB hcap hn BA hown hxp hF ht
  go_enter Try.func26, Try.ntmps26
  go_upto_region 1 with fail
  rw [← hwA, ← hxb]
  clear hwA hxb
  go_region
  go_wp2_with fail
  rw [← hwB]
  clear hwB x0 x1 p1 zp bt
  obtain ⟨a, c, hv, _, _⟩ := HB.out.1.row.shape
  obtain ⟨l, hl⟩ : ∃ n, n = L.length := ⟨_, rfl⟩
  rw [← hl] at hv
  clear hl
  subst hv
  go_loopg [5] n (fun q z5 wr => ∃ (i : Nat) (Li : List Lv) (ai : Option Addr) (li ci : Nat), n - i ≤ q ∧ i ≤ n ∧ z5 = .int .i64 (i : Nat) ∧ Hid (RPI N w p L t floor (.slice a l c) F I xb #[.int .i64 t, .slice ao n cap] (.slice ao n cap) ws i wr Li (.slice ai li ci)))
  case atStart => exact ⟨0, L, a, l, c, by omega, by omega, rfl, hid ⟨HB.out.1, rfl, by omega, fun j e => .inl e, HB.out.2.2.1, HB.out.2.1, HB.out.2.2.2⟩⟩
  case round =>
    obtain ⟨i, Li, ai, li, ci, hq, hil, rfl, HR⟩ := hrel
    by_cases hlt : i < n
    · have hli : decide (i < n) = true := decide_eq_true hlt
      have hli2 : (i : Int) < (n : Int) := by omega
      have hiw : i < ws.length := by have := HQ.out.2.2.2.2.1; omega
      obtain ⟨b, o, e1, hcell⟩ : ∃ b o, ao = some ⟨b, o, none⟩ ∧ ∀ j (_ : j < ws.length) m (_ : m < 5), wr.cell? ⟨b, o + (j * 5 + m), none⟩ = (wrE ws[j])[m]? := by
        obtain ⟨ao', cap', e1, _, e2⟩ := HR.out.2.2.2.2.2.2
        injection e1 with e3 _ _
        subst e3
        obtain ⟨b, o, e4, _, e5⟩ := e2 (by intro e; rw [e] at hiw; simp at hiw)
        exact ⟨b, o, e4, e5⟩
      subst e1
      obtain ⟨x, hx⟩ : ∃ x, x = ws[i] := ⟨_, rfl⟩
      have f0 := hcell i hiw 0 (by decide)
      have f1 := hcell i hiw 1 (by decide)
      have f2 := hcell i hiw 2 (by decide)
      have f3 := hcell i hiw 3 (by decide)
      have f4 := hcell i hiw 4 (by decide)
      rw [← hx] at f0 f1 f2 f3 f4
      rw [Nat.add_zero] at f0
      rw [← Nat.add_assoc] at f1 f2 f3 f4
      simp only [wrE, List.getElem?_cons_zero, List.getElem?_cons_succ] at f0 f1 f2 f3 f4
      have HXI : Hid (ws.take (i + 1) = ws.take i ++ [x]) := hid (by rw [List.take_succ_eq_append_getElem hiw, hx])
      have c0 : wr.cell? ⟨xb, 0, none⟩ = some (.int .i64 t) := HR.out.2.2.2.2.2.1.cell 0
      have c1 : wr.cell? ⟨xb, 1, none⟩ = some (.slice (some ⟨b, o, none⟩) n cap) := HR.out.2.2.2.2.2.1.cell 1
      obtain ⟨gb, hgb⟩ : ∃ g, g = wr.heap.size := ⟨_, rfl⟩
      obtain ⟨wG, hwG⟩ : ∃ W, W = wr.alloc (.cells #[.string x.b.tn, .string x.b.ar, .string x.n.s, .bool x.there, .string x.data] 49) := ⟨_, rfl⟩
      have hkG : Same wr wG := by rw [hwG]; exact (Kept.refl _ _).alloc _
      have hbg : Blk wG gb #[.string x.b.tn, .string x.b.ar, .string x.n.s, .bool x.there, .string x.data] 49 := by rw [hwG, hgb]; exact Blk.new wr _ _
      have HG : Hid (Blk wG gb #[.string x.b.tn, .string x.b.ar, .string x.n.s, .bool x.there, .string x.data] 49 ∧ Same wr wG ∧ gb = wr.heap.size) := hid ⟨hbg, hkG, hgb⟩
      have hiww : IntKind.i64.wrap ((i : Int) + 1) = ((i + 1 : Nat) : Int) := by rw [IntKind.wrap_i64]; omega
      have hxbG : Blk wG xb #[.int .i64 t, .slice (some ⟨b, o, none⟩) n cap] 34 := HR.out.2.2.2.2.2.1.kept hkG (fun f => f)
      have g0 := hbg.cell 0
      have g1 := hbg.cell 1
      have g2 := hbg.cell 2
      have g3 := hbg.cell 3
      have g4 := hbg.cell 4
      have d0 := hxbG.cell 0
      simp only [List.getElem?_toArray, List.getElem?_cons_zero, List.getElem?_cons_succ] at g0 g1 g2 g3 g4 d0
      clear hcell hiw hx hkG hbg hxbG
      go_upto_region 8 with fail
      rw [← hwG, ← hgb]
      clear hwG hgb f0 f1 f2 f3 f4 c0 c1
      obtain ⟨vb, hvb⟩ : ∃ y, y = wG.heap.size := ⟨_, rfl⟩
      obtain ⟨th, hth⟩ : ∃ q, q = x.there := ⟨_, rfl⟩
      rw [← hth] at HG g3
      obtain ⟨wV, hwV⟩ : ∃ W, W = wG.alloc (.cells #[.string x.b.tn, .string x.b.ar, .string x.n.s, .int .i64 t, .bool th, .string ⟨#[]⟩] 93) := ⟨_, rfl⟩
      have hkV : Same wG wV := by rw [hwV]; exact (Kept.refl _ _).alloc _
      have hbv : Blk wV vb #[.string x.b.tn, .string x.b.ar, .string x.n.s, .int .i64 t, .bool th, .string ⟨#[]⟩] 93 := by rw [hwV, hvb]; exact Blk.new wG _ _
      obtain ⟨dd, hdd⟩ : ∃ d, d = (verOf x t).data := ⟨_, rfl⟩
      have HLV : Hid (lvOf x t = ⟨x.b, x.n, ⟨t, th, dd⟩⟩ ∧ (th = true → dd = x.data) ∧ (th = false → dd = ⟨#[]⟩)) := hid (by
        have e1 : (verOf x t).there = th := by rw [hth]; exact verOf_there x t
        refine ⟨?_, fun e => ?_, fun e => ?_⟩
        · unfold lvOf
          rw [← verOf_eta x t, verOf_t, e1, ← hdd]
        · rw [hdd]; unfold verOf; rw [if_pos (by rw [← hth]; exact e)]
        · rw [hdd]; unfold verOf; rw [if_neg (by rw [← hth, e]; decide)])
      have HV : Hid (Blk wV vb #[.string x.b.tn, .string x.b.ar, .string x.n.s, .int .i64 t, .bool th, .string ⟨#[]⟩] 93 ∧ Same wr wV ∧ wr.heap.size ≤ vb ∧ Blk wV gb #[.string x.b.tn, .string x.b.ar, .string x.n.s, .bool th, .string x.data] 49 ∧ gb ≠ vb) := hid ⟨hbv, HG.out.2.1.trans hkV, by rw [hvb]; exact HG.out.2.1.size, HG.out.1.kept hkV (fun f => f), by have := HG.out.1.lt; omega⟩
      have e3 := HV.out.2.2.2.1.cell 3
      have e4 := HV.out.2.2.2.1.cell 4
      have zv := hbv.frozen 5
      have e5 := hbv.cell 5
      simp only [List.getElem?_toArray, List.getElem?_cons_zero, List.getElem?_cons_succ] at e3 e4 e5
      clear hkV hbv hth hdd
      go_upto_region 9 with fail
      rw [← hwV, ← hvb]
      clear hwV hvb g0 g1 g2 g3 g4 d0
      go_upto_if 42 with fail
      go_cut [7] from 22 to 108 (fun z wx => z = .pointer (some ⟨vb, 0, none⟩) ∧ Hid (Blk wx vb #[.string x.b.tn, .string x.b.ar, .string x.n.s, .int .i64 t, .bool th, .string dd] 93 ∧ Same wr wx ∧ Blk wx gb #[.string x.b.tn, .string x.b.ar, .string x.n.s, .bool th, .string x.data] 49))
      case first =>
        cases th with
        | true =>
          go_wp2_with fail
          go_meet
          refine ⟨rfl, hid ⟨?_, ?_, ?_⟩⟩
          · have h9 := HV.out.1.set 5 (.string x.data)
            rw [HLV.out.2.1 (by decide)]
            simpa using h9
          · exact Kept.trans HV.out.2.1 ((Kept.refl (· = vb) wV).setCell _ _ (.inl rfl)) (fun _ _ f => f) (fun k hk e => by have := HV.out.2.2.1; omega)
          · exact HV.out.2.2.2.1.kept ((Kept.refl (· = vb) wV).setCell _ _ (.inl rfl)) HV.out.2.2.2.2
        | false =>
          go_wp2_with fail
          go_meet
          refine ⟨rfl, hid ⟨?_, HV.out.2.1, HV.out.2.2.2.1⟩⟩
          rw [HLV.out.2.2 (by decide)]
          exact HV.out.1
      case rest =>
        obtain ⟨rfl, HX⟩ := hcut
        clear e3 e4 e5 zv
        have hli9 : li = Li.length := by
          obtain ⟨a9, c9, hv9, _⟩ := HR.out.1.row.shape
          injection hv9
        have HRX : Hid (∀ w', Same wc w' → Rc N w' p Li t floor (.slice ai li ci) ∧ Blk w' gb #[.string x.b.tn, .string x.b.ar, .string x.n.s, .bool th, .string x.data] 49 ∧ Blk w' xb #[.int .i64 t, .slice (some ⟨b, o, none⟩) n cap] 34) := hid (fun w' hk => ⟨HR.out.1.same (HX.out.2.1.trans hk), HX.out.2.2.kept hk (fun f => f), HR.out.2.2.2.2.2.1.kept (HX.out.2.1.trans hk) (fun f => f)⟩)
        have HLL : Hid (li = Li.length ∧ li ≤ 100000) := hid ⟨hli9, by rw [hli9]; exact HR.out.1.len⟩
        have p0 : wc.cell? ⟨p, 0, none⟩ = some (.slice ai li ci) := (HRX.out wc (Kept.refl _ _)).1.blk.cell 0
        clear hli9
        obtain ⟨gk0, hgk0⟩ : ∃ q, q = gk := ⟨_, rfl⟩
        rw [← hgk0] at hq
        go_wp2_with fail
        clear p0
        go_loopg [8, 9] li (fun q z8 z9 ws' => ∃ (k j : Nat), li - j ≤ q ∧ j ≤ li ∧ z8 = .int .i64 (k : Nat) ∧ z9 = .int .i64 (j : Nat) ∧ Hid (SeI Li x.b x.n t j k ∧ Same wc ws'))
        case atStart => exact ⟨li, 0, by omega, by omega, rfl, rfl, hid ⟨.inl ⟨HLL.out.1, fun j hj => by omega⟩, Kept.refl _ _⟩⟩
        case round =>
          obtain ⟨k, j, hqj, hjl, rfl, rfl, HS⟩ := hrel
          obtain ⟨hrc, hgb, hxb⟩ := HRX.out wr HS.out.2
          have p0 : wr.cell? ⟨p, 0, none⟩ = some (.slice ai li ci) := hrc.blk.cell 0
          have m0 : wr.cell? ⟨gb, 0, none⟩ = some (.string x.b.tn) := hgb.cell 0
          have m1 : wr.cell? ⟨gb, 1, none⟩ = some (.string x.b.ar) := hgb.cell 1
          have m2 : wr.cell? ⟨gb, 2, none⟩ = some (.string x.n.s) := hgb.cell 2
          have n0 : wr.cell? ⟨xb, 0, none⟩ = some (.int .i64 t) := hxb.cell 0
          have hiwj : IntKind.i64.wrap ((j : Int) + 1) = ((j + 1 : Nat) : Int) := by have := HLL.out.2; rw [IntKind.wrap_i64]; omega
          by_cases hltj : j < li
          · have hlij : decide (j < li) = true := decide_eq_true hltj
            have hlij2 : (j : Int) < (li : Int) := by omega
            have hltj2 : j < Li.length := by have := HLL.out.1; omega
            obtain ⟨g, hg⟩ : ∃ g, ai = some ⟨g, 0, none⟩ := by
              obtain ⟨a9, c9, hv9, hg9, _⟩ := hrc.row.shape
              injection hv9 with e9 _ _
              obtain ⟨g, e8⟩ := hg9 (fun e => by rw [e] at hltj2; simp at hltj2)
              exact ⟨g, by rw [e9, e8]⟩
            subst hg
            obtain ⟨y, hy⟩ : ∃ y, y = Li[j] := ⟨_, rfl⟩
            have hcw : ∀ q u, q < 6 → (lvE y)[q]? = some u → wr.cell? ⟨g, j * 6 + q, none⟩ = some u := fun q u hq e => by rw [RowC.cell lvE_ok hrc.row j q hltj2 hq, ← hy, e]
            have k0 := hcw 0 (.string y.b.tn) (by decide) rfl
            have k1 := hcw 1 (.string y.b.ar) (by decide) rfl
            have k2 := hcw 2 (.string y.n.s) (by decide) rfl
            have k3 := hcw 3 (.int .i64 y.v.t) (by decide) rfl
            rw [Nat.add_zero] at k0
            have s1 := streq12 y.b.tn x.b.tn
            have s2 := streq12 y.b.ar x.b.ar
            have s3 := streq12 y.n.s x.n.s
            have HY : Hid (y = Li[j]) := hy
            clear hcw hy hrc hgb hxb
            by_cases hm : y.b.tn = x.b.tn ∧ y.b.ar = x.b.ar ∧ y.n.s = x.n.s
            · obtain ⟨m3, m4, m5⟩ := hm
              have HM : Hid (isK x.b x.n Li[j] = true) := hid (by rw [← HY.out]; exact decide_eq_true ⟨Bx.ext' m3 m4, Nm.ext' m5⟩)
              rw [decide_eq_true m3] at s1
              rw [decide_eq_true m4] at s2
              rw [decide_eq_true m5] at s3
              clear m3 m4 m5
              by_cases hyt : y.v.t = t
              · have h1 : (y.v.t == t) = true := by rw [hyt]; exact beq_self_eq_true _
                have HN : Hid (SeI Li x.b x.n t (j + 1) j) := hid (SeI.hit hltj2 HM.out (by rw [← HY.out]; exact hyt))
                clear hyt
                go_wp2_with fail
                go_quiet (fail)
                all_goals go_wp2_with fail
                all_goals go_roundg (gk - 1)
                all_goals first
                  | (case measure => omega)
                  | skip
                all_goals exact ⟨j, j + 1, by omega, by omega, rfl, by go_num, hid ⟨HN.out, HS.out.2.drewN _⟩⟩
              · have h1 : (y.v.t == t) = false := by simpa using hyt
                have HN : Hid (SeI Li x.b x.n t (j + 1) k) := hid (HS.out.1.skip hltj2 (fun e => hyt (by rw [HY.out]; exact e.2)))
                clear hyt
                go_wp2_with fail
                go_quiet (fail)
                all_goals go_wp2_with fail
                all_goals go_roundg (gk - 1)
                all_goals first
                  | (case measure => omega)
                  | skip
                all_goals exact ⟨k, j + 1, by omega, by omega, rfl, by go_num, hid ⟨HN.out, HS.out.2.drewN _⟩⟩
            · have HN : Hid (SeI Li x.b x.n t (j + 1) k) := hid (HS.out.1.skip hltj2 (fun e => absurd (of_decide_eq_true e.1) (fun e2 => hm (by rw [HY.out, e2.1, e2.2]; exact ⟨rfl, rfl, rfl⟩))))
              obtain ⟨d1, e1⟩ : ∃ q, q = decide (y.b.tn = x.b.tn) := ⟨_, rfl⟩
              obtain ⟨d2, e2⟩ : ∃ q, q = decide (y.b.ar = x.b.ar) := ⟨_, rfl⟩
              obtain ⟨d3, e3⟩ : ∃ q, q = decide (y.n.s = x.n.s) := ⟨_, rfl⟩
              rw [← e1] at s1
              rw [← e2] at s2
              rw [← e3] at s3
              have hd : ¬ (d1 = true ∧ d2 = true ∧ d3 = true) := fun e => hm ⟨of_decide_eq_true (e1.symm.trans e.1), of_decide_eq_true (e2.symm.trans e.2.1), of_decide_eq_true (e3.symm.trans e.2.2)⟩
              have hf := (four12 d1 d2 d3).resolve_right hd
              clear e1 e2 e3 hm hd
              rcases hf with rfl | ⟨rfl, rfl⟩ | ⟨rfl, rfl, rfl⟩
              all_goals
                go_wp2_with fail
                go_quiet (fail)
                all_goals go_wp2_with fail
                all_goals go_roundg (gk - 1)
                all_goals first
                  | (case measure => omega)
                  | skip
                all_goals exact ⟨k, j + 1, by omega, by omega, rfl, by go_num, hid ⟨HN.out, HS.out.2.drewN _⟩⟩
          · have hlij : decide (j < li) = false := decide_eq_false hltj
            have HSE : Hid (SeI Li x.b x.n t Li.length k ∧ k ≤ li) := hid (by
              have h9 := HS.out.1
              rw [show j = Li.length by have := HLL.out.1; omega] at h9
              exact ⟨h9, by have := h9.le; have := HLL.out.1; omega⟩)
            have HUP : Hid (UpTo (ofK Li) t) := hid (by rw [HR.out.2.1]; exact HQ.out.2.1.puts _)
            have HPI : Hid (ofK (putL Li x t k) = putsF (ofK L) (ws.take (i + 1)) t) := hid (by rw [putL_is HUP.out HSE.out.1, HXI.out, putsF_snoc, HR.out.2.1])
            have hvx := HX.out.1.kept HS.out.2 (fun f => f)
            have v0 := hvx.cell 0
            have v1 := hvx.cell 1
            have v2 := hvx.cell 2
            have v3 := hvx.cell 3
            have v4 := hvx.cell 4
            have v5 := hvx.cell 5
            simp only [List.getElem?_toArray, List.getElem?_cons_zero, List.getElem?_cons_succ] at v0 v1 v2 v3 v4 v5
            have HWR : Hid (Same wc wr) := hid HS.out.2
            have HRW : Hid (Rc N wr p Li t floor (.slice ai li ci) ∧ Blk wr xb #[.int .i64 t, .slice (some ⟨b, o, none⟩) n cap] 34 ∧ Blk wr vb #[.string x.b.tn, .string x.b.ar, .string x.n.s, .int .i64 t, .bool th, .string dd] 93) := hid ⟨hrc, hxb, hvx⟩
            clear m0 m1 m2 n0 hrc hgb hxb hvx HS
            have HI9 : Hid (RPI N w p L t floor (.slice a l c) F I xb #[.int .i64 t, .slice (some ⟨b, o, none⟩) n cap] (.slice (some ⟨b, o, none⟩) n cap) ws i wr Li (.slice ai li ci)) := hid (by
              obtain ⟨_, h2, h3, h4, h5, _, h7⟩ := HR.out
              have hk9 := HX.out.2.1.trans HWR.out
              exact ⟨HRW.out.1, h2, h3, h4, Kept.trans h5 hk9 (fun _ _ e => e) (fun _ _ f => f.elim), HRW.out.2.1, h7.kept wrE_ok hk9 (fun _ _ _ f => f)⟩)
            have HXP : Hid (¬ xb = p ∧ Li.length ≤ 99999 ∧ N ≤ wr.heap.size) := hid ⟨fun e => by have := HQ.out; omega, by have h1 := HI9.out.2.2.1; have := HQ.out; omega, Nat.le_trans HQ.out.1 HI9.out.2.2.2.2.1.size⟩
            by_cases hk9 : k = li
            · have be : ((k : Int) == (li : Int)) = true := by rw [hk9]; exact beq_self_eq_true _
              have HPE : Hid (putL Li x t k = Li ++ [⟨x.b, x.n, ⟨t, th, dd⟩⟩]) := hid (by unfold putL; rw [if_pos (by rw [hk9]; exact HLL.out.1), HLV.out.1])
              go_upto_region 18 with fail
              have hs0 : Same wr wr := Kept.refl _ _
              have hsA : Same wr (wr.alloc (.cells #[.string x.b.tn, .string x.b.ar, .string x.n.s, .int .i64 t, .bool th, .string dd] 93)) := (Kept.refl _ _).alloc _
              have p0a := hsA.cell p0 (fun f => f)
              clear hsA be hk9
              go_region_law (first
                | (refine step_appendC lvE 6 lvE_ok N 28 93 (.agg #[.string ⟨#[]⟩, .string ⟨#[]⟩, .string ⟨#[]⟩, .int .i64 0, .bool false, .string ⟨#[]⟩]) 80 Try.underlying28 Try.infoLv rfl (by decide) (by rfl) (.tmp 96) (.tmp 98) (by rfl) (.slice ai li ci) Li (by rfl) (HRW.out.1.row.kept (show Same wr _ from by first | exact hs0.alloc _ | exact (hs0.drew).alloc _ | exact (hs0.alloc _).drew) (fun _ _ f => f)) _ 1 1 [(⟨x.b, x.n, ⟨t, th, dd⟩⟩ : Lv)] (by rfl) (by rfl) (by first | exact cellsAt_lv _ ⟨x.b, x.n, ⟨t, th, dd⟩⟩ | exact cellsAt_lv wr ⟨x.b, x.n, ⟨t, th, dd⟩⟩) (by have := HXP.out; simp; omega) (by have := HXP.out; simp; omega) ?_; intro v9 w9 hr9 hg9 hb9; have hk9 : Kept (fun k => (Value.slice ai li ci).ownBlock = some k) wr w9 := Kept.trans (F := fun _ => False) (show Same wr _ from by first | exact hs0.alloc _ | exact (hs0.drew).alloc _ | exact (hs0.alloc _).drew) ((Kept.refl _ _).grown hg9 (fun k e => .inl e)) (fun _ _ f => False.elim f) (fun _ _ e => e); have hb9' : ∀ j, v9.ownBlock = some j → (Value.slice ai li ci).ownBlock = some j ∨ wr.heap.size ≤ j := (fun j e => (hb9 j e).imp id (fun h => by (try simp at h); omega)); have z9 := (HRW.out.1.blk.kept hk9 (HRW.out.1.row.off_blk HRW.out.1.blk (by decide))).frozen 0; have d9 := (HRW.out.1.blk.kept hk9 (HRW.out.1.row.off_blk HRW.out.1.blk (by decide))).cell 0; simp only [List.getElem?_toArray, List.getElem?_cons_zero] at d9; obtain ⟨a9, n9, q9, e9⟩ : ∃ a n q, v9 = Value.slice a n q := (by obtain ⟨a, q, e, _⟩ := hr9.shape; exact ⟨a, _, q, e⟩); subst e9; clear hg9 hb9))
              all_goals
                have HF9 : Hid (Rc N (w9.setCell ⟨p, 0, none⟩ (.slice a9 n9 q9)) p (Li ++ [⟨x.b, x.n, ⟨t, th, dd⟩⟩]) t floor (.slice a9 n9 q9) ∧ Kept (fun k => k = p ∨ (Value.slice ai li ci).ownBlock = some k) wr (w9.setCell ⟨p, 0, none⟩ (.slice a9 n9 q9)) ∧ ∀ j, (Value.slice a9 n9 q9).ownBlock = some j → (Value.slice ai li ci).ownBlock = some j ∨ wr.heap.size ≤ j) := hid (by
                  have h9 := HRW.out.1.app hk9 hr9 (by have := HXP.out; simp; omega)
                  exact ⟨h9.1, h9.2, hb9'⟩)
                clear hr9 hk9 hb9'
                go_wp2_with fail
                go_roundg (gk0 - 1)
              all_goals first
                | (case measure => omega)
                | skip
              all_goals exact ⟨i + 1, _, a9, n9, q9, by omega, by omega, by go_num, hid (HI9.out.next HF.out HQ.out.2.2.1 HXP.out.1 (by first | exact HF9.out.2.1 | exact HF9.out.2.1.drew) (by first | exact HF9.out.1 | exact HF9.out.1.same ((Kept.refl _ _).drew)) HF9.out.2.2 (by rw [← HPE.out]; exact HPI.out) (by simp))⟩
            · have be : ((k : Int) == (li : Int)) = false := by simp; omega
              have hkl : k < Li.length := by have := HSE.out.2; have := HLL.out.1; omega
              have hkb : (k : Int) < (li : Int) := by have := HSE.out.2; omega
              have HPE : Hid (putL Li x t k = Li.set k ⟨x.b, x.n, ⟨t, th, dd⟩⟩) := hid (by unfold putL; rw [if_neg (by omega), HLV.out.1])
              obtain ⟨g, hg⟩ : ∃ g, ai = some ⟨g, 0, none⟩ := by
                obtain ⟨a9, c9, hv9, hg9, _⟩ := HRW.out.1.row.shape
                injection hv9 with e9 _ _
                obtain ⟨g, e8⟩ := hg9 (fun e => by rw [e] at hkl; simp at hkl)
                exact ⟨g, by rw [e9, e8]⟩
              subst hg
              have z0 := HRW.out.1.row.frozen (k * 6)
              have z1 := HRW.out.1.row.frozen (k * 6 + 1)
              have z2 := HRW.out.1.row.frozen (k * 6 + 2)
              have z3 := HRW.out.1.row.frozen (k * 6 + 3)
              have z4 := HRW.out.1.row.frozen (k * 6 + 4)
              have z5 := HRW.out.1.row.frozen (k * 6 + 5)
              obtain ⟨y0, hy0⟩ : ∃ y, wr.cell? ⟨g, k * 6, none⟩ = some y := ⟨_, RowC.cell lvE_ok HRW.out.1.row k 0 hkl (by decide)⟩
              obtain ⟨y1, hy1⟩ : ∃ y, wr.cell? ⟨g, k * 6 + 1, none⟩ = some y := ⟨_, RowC.cell lvE_ok HRW.out.1.row k 1 hkl (by decide)⟩
              obtain ⟨y2, hy2⟩ : ∃ y, wr.cell? ⟨g, k * 6 + 2, none⟩ = some y := ⟨_, RowC.cell lvE_ok HRW.out.1.row k 2 hkl (by decide)⟩
              obtain ⟨y3, hy3⟩ : ∃ y, wr.cell? ⟨g, k * 6 + 3, none⟩ = some y := ⟨_, RowC.cell lvE_ok HRW.out.1.row k 3 hkl (by decide)⟩
              obtain ⟨y4, hy4⟩ : ∃ y, wr.cell? ⟨g, k * 6 + 4, none⟩ = some y := ⟨_, RowC.cell lvE_ok HRW.out.1.row k 4 hkl (by decide)⟩
              obtain ⟨y5, hy5⟩ : ∃ y, wr.cell? ⟨g, k * 6 + 5, none⟩ = some y := ⟨_, RowC.cell lvE_ok HRW.out.1.row k 5 hkl (by decide)⟩
              have HF9 : Hid (Rc N (setL wr g k ⟨x.b, x.n, ⟨t, th, dd⟩⟩) p (Li.set k ⟨x.b, x.n, ⟨t, th, dd⟩⟩) t floor (.slice (some ⟨g, 0, none⟩) li ci) ∧ Kept (fun k => k = p ∨ (Value.slice (some ⟨g, 0, none⟩) li ci).ownBlock = some k) wr (setL wr g k ⟨x.b, x.n, ⟨t, th, dd⟩⟩)) := hid (by
                have h9 := HRW.out.1
                have hgp : ¬ p = g := fun e => h9.row.off_blk h9.blk (by decide) (by rw [e]; rfl)
                exact ⟨⟨h9.blk.kept (setL_kept _ _ _ _) hgp, h9.row.setL k _ hkl, h9.np, by rw [List.length_set]; exact h9.len⟩, (setL_kept _ _ _ _).mono (fun j _ e => .inr (by rw [e]; rfl))⟩)
              unfold setL at HF9
              clear hk9 hkl
              go_upto_region 19 with fail
              go_region
              all_goals go_wp2_with fail
              all_goals go_roundg (gk0 - 1)
              all_goals first
                | (case measure => omega)
                | skip
              all_goals exact ⟨i + 1, _, _, _, _, by omega, by omega, by go_num, hid (HI9.out.next HF.out HQ.out.2.2.1 HXP.out.1 (by first | exact HF9.out.2 | exact HF9.out.2.drew) (by first | exact HF9.out.1 | exact HF9.out.1.same ((Kept.refl _ _).drew)) (fun j e => .inl e) (by rw [← HPE.out]; exact HPI.out) (by simp))⟩
    · have hli : decide (i < n) = false := decide_eq_false hlt
      have c1 : wr.cell? ⟨xb, 1, none⟩ = some (.slice ao n cap) := HR.out.2.2.2.2.2.1.cell 1
      have HE : Hid (ws.take i = ws) := hid (List.take_of_length_le (by have := HQ.out.2.2.2.2.1; omega))
      go_wp2_with fail
      go_ret
      have hr := HR.out
      unfold RPI at hr
      rw [HE.out] at hr
      exact ⟨rfl, Li, .slice ai li ci, hr.1, hr.2.1, by have := hr.2.2.1; have := HQ.out.2.2.2.2.1; omega, hr.2.2.2.1, by rw [← HF.out]; exact hr.2.2.2.2.1⟩

end Go.Proofs.Ythignkloecfcbaa
