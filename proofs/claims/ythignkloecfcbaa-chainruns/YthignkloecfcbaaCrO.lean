/-
  Layer 12's law ChainRuns: a commit, put to both.
-/
import Derived.Test.YthignkloecfcbaaCrN
namespace Go.Proofs.Ythignkloecfcbaa
open Go.RowKit Go.Maps Go.Sort

theorem put12 {K N : Nat} {w : World} {p : Nat} {ρ : Nat → Nat} {M : Mst} {rp : Nat} {L : List Lv} {v : Value} (h : T12 K N w p ρ M rp L v) (t : Int) (ht2 : t ≤ 9223372036854775807) (ws : List Wr) (a : Option Addr) (n c : Nat) (I : Nat → Prop) (hs : SrcC 5 wrE w I (.slice a n c) ws) (hI : ∀ j, I j → ρ j = 0) (hK : K + 3 * ws.length ≤ 100000) : Calls Try.prog 16 #[.pointer (some ⟨p, 0, none⟩), .agg #[.int .i64 t, .slice a n c]] w fun e w2 => ∃ (code : Int) (ρ2 : Nat → Nat) (M2 : Mst), e = .returned (.int .i64 code) ∧ Sto (K + 3 * ws.length) N w2 p M2 ρ2 ∧ ExtC w ρ ρ2 ∧ Kept (fun k => ρ k ≠ 0) w w2 ∧ ((code = 120 ∧ t ≤ M.now ∧ M2 = M) ∨ (code = 0 ∧ M.now < t ∧ M2 = putM M t ws)) := by
  by_cases ht : t ≤ M.now
  · refine (xput_old h.sto t ht a n c).mono ?_
    rintro e w' ⟨rfl, hk⟩
    exact ⟨120, ρ, M, rfl, (h.sto.more (Nat.le_add_right _ _) hK).same hk, ExtC.refl _ _, hk.mono (fun _ _ f => f.elim), .inl ⟨rfl, ht, rfl⟩⟩
  · refine (xput_new h.sto h.hN t (by omega) ht2 ws _ I hs hI hK).mono ?_
    rintro e w' ⟨rfl, ρ', g1, g2, g3⟩
    exact ⟨0, ρ', _, rfl, g1, g2, g3, .inr ⟨rfl, by omega, rfl⟩⟩

theorem put12r {K K' N : Nat} {w w5 : World} {p : Nat} {ρ ρ2 : Nat → Nat} {M M2 : Mst} {rp : Nat} {L : List Lv} {v : Value} (h : T12 K N w p ρ M rp L v) (h5 : Sto K' N w5 p M2 ρ2) (hr : Rc N w5 rp L M.now M.floor v) (hz : ρ2 rp = 0) (hzv : ∀ k, v.ownBlock = some k → ρ2 k = 0) (hN : N ≤ w5.heap.size) (t : Int) (code : Int) (ws : List Wr) (hc : (code = 120 ∧ t ≤ M.now ∧ M2 = M) ∨ (code = 0 ∧ M.now < t ∧ M2 = putM M t ws)) (a : Option Addr) (n c : Nat) (hs : SrcC 5 wrE w5 (fun k => k < N) (.slice a n c) ws) (hK : K' = K + 3 * ws.length) (hb : K' ≤ 100000) : Calls Try.prog 26 #[.pointer (some ⟨rp, 0, none⟩), .agg #[.int .i64 t, .slice a n c]] w5 fun e w6 => e = .returned (.int .i64 code) ∧ (∃ ρ' M' L' v', T12 K' N w6 p ρ' M' rp L' v') ∧ Kept (fun k => N ≤ k) w5 w6 := by
  rcases hc with ⟨rfl, ht, rfl⟩ | ⟨rfl, ht, rfl⟩
  · refine (rput_old hr t ht a n c).mono ?_
    rintro e w' ⟨rfl, hk⟩
    exact ⟨rfl, ⟨ρ2, M2, L, v, ⟨h5.same hk, hr.same hk, h.vs, hz, hzv, by have := h.len; omega, Nat.le_trans hN hk.size⟩⟩, hk.mono (fun _ _ f => f.elim)⟩
  · have hu : UpTo (ofK L) t := fun b n => ⟨h.ris b n, fun x hx => by have := ((h.vok b n).low x hx).2; omega⟩
    refine (rput_new hr hN t ht hu ws _ (fun k => k < N) hs (fun j hj => ⟨fun e => by have := hr.np; omega, fun e => by have := hr.row.ge e; omega, by omega⟩) (by have := h.len; omega)).mono ?_
    rintro e w' ⟨rfl, L', v', g1, g2, g3, g4, g5⟩
    refine ⟨rfl, ⟨ρ2, putM M t ws, L', v', ⟨h5.kept g5 (fun k e => ?_), g1, ?_, hz, fun k e => ?_, by have := h.len; omega, Nat.le_trans hN g5.size⟩⟩, g5.mono (fun k _ e => ?_)⟩
    · rcases e with e | e
      · rw [e]; exact hz
      · exact hzv k e
    · show putsF M.V ws t = ofK L'
      rw [g2, h.vs]
    · rcases g4 k e with q | q
      · exact hzv k q
      · exact h5.zero q
    · rcases e with e | e
      · rw [e]; exact hr.np
      · exact hr.row.ge e

section
variable {K N : Nat} {w : World} {p : Nat} {ρ : Nat → Nat} {M : Mst} {rp : Nat} {L : List Lv} {v : Value}

set_option maxRecDepth 100000 in
set_option maxHeartbeats 4000000 in
theorem cstep1 (h : T12 K N w p ρ M rp L v) (o : Oc) (ho : OcOk w (fun k => k < N) o) (hk : o.k = 1) (hK : K + 3 * o.cm.n ≤ 100000) : Calls Try.prog 11 #[.pointer (some ⟨p, 0, none⟩), .pointer (some ⟨rp, 0, none⟩), .agg (ocC o).toArray] w fun e w' => e = .returned (.bool true) ∧ S12 (K + 3 * o.cm.n) N w p rp w' := by
  obtain ⟨k, cm, b, nm, t⟩ := o
  obtain ⟨ct, ca, cn, cc, ws⟩ := cm
  obtain rfl : k = 1 := hk
  show Calls Try.prog 11 #[.pointer (some ⟨p, 0, none⟩), .pointer (some ⟨rp, 0, none⟩), .agg #[.int .i64 1, .int .i64 ct, .slice ca cn cc, .string b.tn, .string b.ar, .string nm.s, .int .i64 t]] w _
  obtain ⟨wA, hwA⟩ : ∃ W, W = w.alloc (.cells #[.int .i64 1, .int .i64 ct, .slice ca cn cc, .string b.tn, .string b.ar, .string nm.s, .int .i64 t] 38) := ⟨_, rfl⟩
  obtain ⟨xb, hxb⟩ : ∃ y, y = w.heap.size := ⟨_, rfl⟩
  have hka : Same w wA := by rw [hwA]; exact (Kept.refl _ w).alloc _
  have HB : Hid (OcBk wA xb ⟨1, ⟨ct, ca, cn, cc, ws⟩, b, nm, t⟩) := hid (by rw [hwA, hxb]; exact Blk.new w _ _)
  have HT : Hid (T12 K N wA p ρ M rp L v) := hid (h.same hka)
  have HO : Hid (OcOk wA (fun k => k < N) ⟨1, ⟨ct, ca, cn, cc, ws⟩, b, nm, t⟩) := hid (ho.kept hka (fun _ _ _ f => f))
  have HK : Hid (Same w wA ∧ xb = w.heap.size) := hid ⟨hka, hxb⟩
  have HW : Hid (∀ w', Same wA w' → Kept (fun k => N ≤ k) w w') := hid (fun w' hk => (hka.trans hk).mono (fun _ _ f => f.elim))
  obtain ⟨c0, c1, c2, c3, c4, c5, c6⟩ := HB.out.cells
  have HZ0 : Hid (ρ xb = 0) := hid (h.sto.zero (by omega))
  clear h hka ho
  rw [hwA, hxb] at c0 c1 c2 c3 c4 c5 c6
  simp only at c0 c1 c2 c3 c4 c5 c6
  have HWN : Hid (ws.length = cn ∧ cn ≤ 100000) := hid ⟨HO.out.cm.len, by have h9 : K + 3 * cn ≤ 100000 := hK; omega⟩
  have HCO : Hid (∀ w', Same wA w' → Calls Try.prog 25 #[.agg #[.int .i64 ct, .slice ca cn cc]] w' fun e w2 => ∃ v', e = .returned (.agg #[.int .i64 ct, v']) ∧ (∃ aa nn cc, v' = .slice aa nn cc) ∧ RowC w'.heap.size 49 5 wrE w2 v' ws ∧ Same w' w2) := hid (fun w' hk => copied_any w' ct ca cn cc ws _ (HO.out.cm.src.kept wrE_ok hk (fun _ _ _ f => f)) (by have := HWN.out; omega))
  have hK9 := hK
  have HK9 : Hid (K + 3 * cn ≤ 100000) := hK9
  clear hK hK9
  go_enter Try.func11, Try.ntmps11
  go_wp2_with fail
  rw [← hwA, ← hxb]
  clear hwA hxb c0 c1 c2 c3 c4 c5 c6
  refine (HCO.out wA (Kept.refl _ _)).mono ?_
  rintro e w1 ⟨v1, rfl, ⟨aa, nn, cq, rfl⟩, hr1, hk1⟩
  obtain ⟨wC, hwC⟩ : ∃ W, W = w1.alloc (.cells #[.int .i64 ct, .slice aa nn cq] 34) := ⟨_, rfl⟩
  obtain ⟨cb, hcb⟩ : ∃ y, y = w1.heap.size := ⟨_, rfl⟩
  have hkC : Same w1 wC := by rw [hwC]; exact (Kept.refl _ _).alloc _
  have HC : Hid (Same wA wC ∧ Blk wC cb #[.int .i64 ct, .slice aa nn cq] 34 ∧ RowC wA.heap.size 49 5 wrE wC (.slice aa nn cq) ws ∧ wA.heap.size ≤ cb ∧ nn = ws.length) := hid ⟨hk1.trans hkC, by rw [hwC, hcb]; exact Blk.new w1 _ _, hr1.kept hkC (fun _ _ f => f), by rw [hcb]; exact hk1.size, by
    obtain ⟨a9, c9, hv9, _⟩ := hr1.shape
    injection hv9⟩
  have HZR : Hid (∀ k, wA.heap.size ≤ k → ρ k = 0) := hid (fun k hk => HT.out.sto.zero hk)
  have HPU := put12 (HT.out.same HC.out.1) ct HO.out.cm.num.2 ws aa nn cq (fun j => (Value.slice aa nn cq).ownBlock = some j) (SrcC.ofRow wrE_ok HC.out.2.2.1) (fun j e => HZR.out j (HC.out.2.2.1.ge e)) (by have := HWN.out.1; have := HK9.out; omega)
  have y0 := HC.out.2.1.cell 0
  have y1 := HC.out.2.1.cell 1
  simp only [List.getElem?_toArray, List.getElem?_cons_zero, List.getElem?_cons_succ] at y0 y1
  rw [hwC, hcb] at y0 y1
  clear hk1 hr1 hkC HCO
  go_wp2_with fail
  rw [← hwC, ← hcb]
  clear hwC hcb y0 y1
  refine HPU.mono ?_
  rintro e w2 ⟨code, ρ2, M2, rfl, hs2, hx2, hk2, hc2⟩
  clear HPU
  have HP2 : Hid (Sto (K + 3 * ws.length) N w2 p M2 ρ2 ∧ ExtC wC ρ ρ2 ∧ Kept (fun k => ρ k ≠ 0) wC w2 ∧ ((code = 120 ∧ ct ≤ M.now ∧ M2 = M) ∨ (code = 0 ∧ M.now < ct ∧ M2 = putM M ct ws))) := hid ⟨hs2, hx2, hk2, hc2⟩
  have HR2 : Hid (RowC wA.heap.size 49 5 wrE w2 (.slice aa nn cq) ws ∧ Blk w2 cb #[.int .i64 ct, .slice aa nn cq] 34 ∧ OcBk w2 xb ⟨1, ⟨ct, ca, cn, cc, ws⟩, b, nm, t⟩ ∧ SrcC 5 wrE w2 (fun k => k < N) (.slice ca cn cc) ws ∧ Rc N w2 rp L M.now M.floor v ∧ N ≤ wA.heap.size ∧ wA.heap.size ≤ w2.heap.size) := hid (by
    have hz9 : ∀ k, wA.heap.size ≤ k → ¬ ρ k ≠ 0 := fun k hk e => e (HZR.out k hk)
    refine ⟨HC.out.2.2.1.kept hk2 (fun k e => hz9 k (HC.out.2.2.1.ge e)), HC.out.2.1.kept hk2 (hz9 cb HC.out.2.2.2.1), Blk.kept (HB.out.kept HC.out.1 (fun f => f)) hk2 (fun e => e HZ0.out), (HO.out.cm.src.kept wrE_ok HC.out.1 (fun _ _ _ f => f)).kept wrE_ok hk2 (fun j hj _ e => by have := HT.out.sto.ge e; omega), ?_, HT.out.hN, Nat.le_trans HC.out.1.size hk2.size⟩
    have h9 := (HT.out.same HC.out.1)
    exact { h9.ref with blk := h9.ref.blk.kept hk2 (fun e => e h9.zp), row := h9.ref.row.kept hk2 (fun k e e2 => e2 (h9.zv k e)) })
  have HN2 : Hid (nn = ws.length ∧ nn = cn ∧ nn ≤ 100000) := hid (by have h1 := HC.out.2.2.2.2; have h2 := HWN.out; omega)
  clear hs2 hx2 hk2 hc2
  go_wp2_with fail
  go_loopg [9] nn (fun q z9 wr => ∃ i : Nat, nn - i ≤ q ∧ i ≤ nn ∧ z9 = .int .i64 (i : Nat) ∧ Hid (RowC wA.heap.size 49 5 wrE wr (.slice aa nn cq) (spI ws i) ∧ Kept (fun k => (Value.slice aa nn cq).ownBlock = some k) w2 wr))
  case atStart => exact ⟨0, by omega, by omega, rfl, hid ⟨by unfold spI; simpa using HR2.out.1, Kept.refl _ _⟩⟩
  case round =>
    obtain ⟨i, hq, hil, rfl, HS⟩ := hrel
    have HSW : Hid (Blk wr cb #[.int .i64 ct, .slice aa nn cq] 34 ∧ OcBk wr xb ⟨1, ⟨ct, ca, cn, cc, ws⟩, b, nm, t⟩ ∧ SrcC 5 wrE wr (fun k => k < N) (.slice ca cn cc) ws) := hid (by
      have hr := HR2.out
      refine ⟨hr.2.1.kept HS.out.2 (hr.1.off_blk hr.2.1 (by decide)), Blk.kept hr.2.2.1 HS.out.2 (hr.1.off_blk hr.2.2.1 (by decide)), hr.2.2.2.1.kept wrE_ok HS.out.2 (fun j hj _ e => by have := hr.1.ge e; have := hr.2.2.2.2.2.1; omega)⟩)
    have y1 : wr.cell? ⟨cb, 1, none⟩ = some (.slice aa nn cq) := HSW.out.1.cell 1
    obtain ⟨c0, c1, c2, c3, c4, c5, c6⟩ := HSW.out.2.1.cells
    simp only at c0 c1 c2 c3 c4 c5 c6
    by_cases hlt : i < nn
    · have hli : decide (i < nn) = true := decide_eq_true hlt
      have hli2 : (i : Int) < (nn : Int) := by omega
      have hli3 : (i : Int) < (cn : Int) := by have := HN2.out; omega
      have hlt2 : i < ws.length := by have := HN2.out; omega
      obtain ⟨g, hg⟩ : ∃ g, aa = some ⟨g, 0, none⟩ := by
        obtain ⟨a9, c9, hv9, hg9, _⟩ := HR2.out.1.shape
        injection hv9 with e9 _ _
        obtain ⟨g, e8⟩ := hg9 (fun e => by rw [e] at hlt2; simp at hlt2)
        exact ⟨g, by rw [e9, e8]⟩
      subst hg
      obtain ⟨x, hx⟩ : ∃ x, x = ws[i] := ⟨_, rfl⟩
      have hcw : ∀ q u, q < 5 → (wrE x)[q]? = some u → wr.cell? ⟨g, i * 5 + q, none⟩ = some u := fun q u hq e => by rw [RowC.cell wrE_ok HS.out.1 i q (by rw [spI_len ws i (by omega)]; exact hlt2) hq, spI_at ws i hlt2, ← hx, e]
      have k0 := hcw 0 (.string x.b.tn) (by decide) rfl
      have k1 := hcw 1 (.string x.b.ar) (by decide) rfl
      have k2 := hcw 2 (.string x.n.s) (by decide) rfl
      have k3 := hcw 3 (.bool x.there) (by decide) rfl
      have k4 := hcw 4 (.string x.data) (by decide) rfl
      rw [Nat.add_zero] at k0
      obtain ⟨bb, oo, e1, hcell⟩ : ∃ b o, ca = some ⟨b, o, none⟩ ∧ ∀ m (_ : m < 5), wr.cell? ⟨b, o + (i * 5 + m), none⟩ = (wrE x)[m]? := by
        obtain ⟨ao', cap', e1, _, e2⟩ := HSW.out.2.2
        injection e1 with e3 _ _
        subst e3
        obtain ⟨b, o, e4, _, e5⟩ := e2 (by intro e; rw [e] at hlt2; simp at hlt2)
        exact ⟨b, o, e4, fun m hm => by rw [e5 i hlt2 m hm, hx]⟩
      subst e1
      have f0 := hcell 0 (by decide)
      have f1 := hcell 1 (by decide)
      have f2 := hcell 2 (by decide)
      have f3 := hcell 3 (by decide)
      have f4 := hcell 4 (by decide)
      rw [Nat.add_zero] at f0
      rw [← Nat.add_assoc] at f1 f2 f3 f4
      simp only [wrE, List.getElem?_cons_zero, List.getElem?_cons_succ] at f0 f1 f2 f3 f4
      have q0 : (x.b.tn.toList == x.b.tn.toList) = true := by simp
      have q1 : (x.b.ar.toList == x.b.ar.toList) = true := by simp
      have q2 : (x.n.s.toList == x.n.s.toList) = true := by simp
      have q3 : (x.there == x.there) = true := by simp
      have q4 : (x.data.toList == x.data.toList) = true := by simp
      have hiw : IntKind.i64.wrap ((i : Int) + 1) = ((i + 1 : Nat) : Int) := by have := HN2.out.2.2; rw [IntKind.wrap_i64]; omega
      have z0 := HS.out.1.frozen (i * 5)
      have z1 := HS.out.1.frozen (i * 5 + 1)
      have z2 := HS.out.1.frozen (i * 5 + 2)
      have z3 := HS.out.1.frozen (i * 5 + 3)
      have z4 := HS.out.1.frozen (i * 5 + 4)
      have HN : Hid (RowC wA.heap.size 49 5 wrE (setW wr g i sp12) (.slice (some ⟨g, 0, none⟩) nn cq) (spI ws (i + 1)) ∧ Kept (fun k => (Value.slice (some ⟨g, 0, none⟩) nn cq).ownBlock = some k) w2 (setW wr g i sp12)) := hid (by
        have h9 := HS.out.1.setW i sp12 (by rw [spI_len ws i (by omega)]; exact hlt2)
        rw [spI_set ws i hlt2] at h9
        exact ⟨h9, Kept.trans HS.out.2 (setW_kept _ _ _ _) (fun _ _ e => e) (fun k _ e => by rw [e]; rfl)⟩)
      unfold setW sp12 at HN
      clear hcw hx hcell hlt2
      go_wp2_with fail
      go_quiet (fail)
      all_goals go_wp2_with fail
      all_goals go_roundg (gk - 1)
      all_goals first
        | (case measure => omega)
        | skip
      all_goals exact ⟨i + 1, by omega, by omega, by go_num, hid ⟨HN.out.1.kept (show Same _ _ from (Kept.refl _ _).drewN _) (fun _ _ f => f), HN.out.2.drewN _⟩⟩
    · have hli : decide (i < nn) = false := decide_eq_false hlt
      have HPR : Calls Try.prog 26 #[.pointer (some ⟨rp, 0, none⟩), .agg #[.int .i64 ct, .slice ca cn cc]] wr fun e w6 => e = .returned (.int .i64 code) ∧ (∃ ρ' M' L' v', T12 (K + 3 * ws.length) N w6 p ρ' M' rp L' v') ∧ Kept (fun k => N ≤ k) wr w6 := by
        have hp := HP2.out
        have hr := HR2.out
        have hge : ∀ k, (Value.slice aa nn cq).ownBlock = some k → wA.heap.size ≤ k := fun k e => hr.1.ge e
        have hz : ∀ k, k < wC.heap.size → ρ k = 0 → ρ2 k = 0 := fun k hk e => hp.2.1.zero hk e
        have hrc : Rc N wr rp L M.now M.floor v := { hr.2.2.2.2.1 with blk := hr.2.2.2.2.1.blk.kept HS.out.2 (hr.1.off_blk hr.2.2.2.2.1.blk (by decide)), row := hr.2.2.2.2.1.row.kept HS.out.2 (fun k e e2 => by have h1 := HT.out.ref.row.lt e; have h2 := hge k e2; omega) }
        refine put12r HT.out (hp.1.kept HS.out.2 (fun k e => hz k (HC.out.2.2.1.lt e) (HZR.out k (hge k e)))) hrc (hz rp (HT.out.same HC.out.1).ref.blk.lt HT.out.zp) (fun k e => hz k ((HT.out.same HC.out.1).ref.row.lt e) (HT.out.zv k e)) (Nat.le_trans hr.2.2.2.2.2.1 (Nat.le_trans hr.2.2.2.2.2.2 HS.out.2.size)) ct code ws hp.2.2.2 ca cn cc HSW.out.2.2 rfl (by have := HWN.out.1; have := HK9.out; omega)
      have be : (code == code) = true := beq_self_eq_true _
      have HKF : Hid (Kept (fun k => N ≤ k) w wr) := hid (by
        have h1 := HW.out wC HC.out.1
        have h2 := Kept.trans h1 HP2.out.2.2.1 (fun _ _ e => e) (fun k _ e => HT.out.sto.ge e)
        exact Kept.trans h2 HS.out.2 (fun _ _ e => e) (fun k _ e => by have := HR2.out.1.ge e; have := HR2.out.2.2.2.2.2.1; omega))
      clear hlt hq hil
      go_wp2_with fail
      refine HPR.mono ?_
      rintro e w6 ⟨rfl, hT6, hk6⟩
      have HT6 := hid hT6
      have HK6 : Hid (Kept (fun k => N ≤ k) w w6) := hid (Kept.trans HKF.out hk6 (fun _ _ e => e) (fun _ _ e => e))
      clear hT6 hk6 HPR
      go_wp2_with fail
      go_ret
      obtain ⟨ρ', M', L', v', h9⟩ := HT6.out
      rw [HWN.out.1] at h9
      exact ⟨by first | rfl | simp, ρ', M', L', v', h9, HK6.out⟩

end

end Go.Proofs.Ythignkloecfcbaa
