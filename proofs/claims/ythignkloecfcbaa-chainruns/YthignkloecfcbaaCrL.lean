/-
  Layer 12's law ChainRuns: a store and the reference's side by side; a call, held against the other.
-/
import Derived.Test.YthignkloecfcbaaCrJ
import Derived.Test.YthignkloecfcbaaCrK2
namespace Go.Proofs.Ythignkloecfcbaa
open Go.RowKit Go.Maps Go.Sort

/-- A store and the reference's. -/
structure T12 (K N : Nat) (w : World) (p : Nat) (ρ : Nat → Nat) (M : Mst) (rp : Nat) (L : List Lv) (v : Value) : Prop where
  sto : Sto K N w p M ρ
  ref : Rc N w rp L M.now M.floor v
  vs : M.V = ofK L
  zp : ρ rp = 0
  zv : ∀ k, v.ownBlock = some k → ρ k = 0
  len : L.length ≤ K
  hN : N ≤ w.heap.size

section
variable {K N : Nat} {w : World} {p : Nat} {ρ : Nat → Nat} {M : Mst} {rp : Nat} {L : List Lv} {v : Value}

theorem T12.same (h : T12 K N w p ρ M rp L v) {w' : World} (hk : Same w w') : T12 K N w' p ρ M rp L v := { h with sto := h.sto.same hk, ref := h.ref.same hk, hN := Nat.le_trans h.hN hk.size }
theorem T12.vok (h : T12 K N w p ρ M rp L v) (b : Bx) (n : Nm) : VerOk M.now (ofK L b n) := by rw [← h.vs]; exact h.sto.vok b n
theorem T12.ris (h : T12 K N w p ρ M rp L v) (b : Bx) (n : Nm) : RisV (ofK L b n) := (h.vok b n).ris
theorem T12.gone (h : T12 K N w p ρ M rp L v) (b : Bx) (n : Nm) : ∀ x ∈ ofK L b n, x.there = false → x.data = ⟨#[]⟩ := (h.vok b n).gone
theorem T12.more (h : T12 K N w p ρ M rp L v) {K' : Nat} (hK : K ≤ K') (hb : K' ≤ 100000) : T12 K' N w p ρ M rp L v := { h with sto := h.sto.more hK hb, len := Nat.le_trans h.len hK }

end

/-- What a step leaves. -/
def S12 (K N : Nat) (w : World) (p rp : Nat) (w' : World) : Prop := ∃ ρ M L v, T12 K N w' p ρ M rp L v ∧ Kept (fun k => N ≤ k) w w'

def OcBk (w : World) (xb : Nat) (o : Oc) : Prop := Blk w xb #[.int .i64 o.k, .int .i64 o.cm.t, .slice o.cm.a o.cm.n o.cm.c, .string o.b.tn, .string o.b.ar, .string o.nm.s, .int .i64 o.t] 38

theorem OcBk.cells {w : World} {xb : Nat} {o : Oc} (h : OcBk w xb o) : w.cell? ⟨xb, 0, none⟩ = some (.int .i64 o.k) ∧ w.cell? ⟨xb, 1, none⟩ = some (.int .i64 o.cm.t) ∧ w.cell? ⟨xb, 2, none⟩ = some (.slice o.cm.a o.cm.n o.cm.c) ∧ w.cell? ⟨xb, 3, none⟩ = some (.string o.b.tn) ∧ w.cell? ⟨xb, 4, none⟩ = some (.string o.b.ar) ∧ w.cell? ⟨xb, 5, none⟩ = some (.string o.nm.s) ∧ w.cell? ⟨xb, 6, none⟩ = some (.int .i64 o.t) := ⟨h.cell 0, h.cell 1, h.cell 2, h.cell 3, h.cell 4, h.cell 5, h.cell 6⟩

section
variable {K N : Nat} {w : World} {p : Nat} {ρ : Nat → Nat} {M : Mst} {rp : Nat} {L : List Lv} {v : Value}

set_option maxRecDepth 100000 in
set_option maxHeartbeats 4000000 in
theorem cstep2 (h : T12 K N w p ρ M rp L v) (o : Oc) (ho : OcOk w (fun k => k < N) o) (hk : o.k = 2) (hK : K + 3 * o.cm.n ≤ 100000) : Calls Try.prog 11 #[.pointer (some ⟨p, 0, none⟩), .pointer (some ⟨rp, 0, none⟩), .agg (ocC o).toArray] w fun e w' => e = .returned (.bool true) ∧ S12 (K + 3 * o.cm.n) N w p rp w' := by
  obtain ⟨k, cm, b, nm, t⟩ := o
  obtain ⟨ct, ca, cn, cc, ws⟩ := cm
  obtain rfl : k = 2 := hk
  show Calls Try.prog 11 #[.pointer (some ⟨p, 0, none⟩), .pointer (some ⟨rp, 0, none⟩), .agg #[.int .i64 2, .int .i64 ct, .slice ca cn cc, .string b.tn, .string b.ar, .string nm.s, .int .i64 t]] w _
  obtain ⟨wA, hwA⟩ : ∃ W, W = w.alloc (.cells #[.int .i64 2, .int .i64 ct, .slice ca cn cc, .string b.tn, .string b.ar, .string nm.s, .int .i64 t] 38) := ⟨_, rfl⟩
  obtain ⟨xb, hxb⟩ : ∃ y, y = w.heap.size := ⟨_, rfl⟩
  have hka : Same w wA := by rw [hwA]; exact (Kept.refl _ w).alloc _
  have HB : Hid (OcBk wA xb ⟨2, ⟨ct, ca, cn, cc, ws⟩, b, nm, t⟩) := hid (by rw [hwA, hxb]; exact Blk.new w _ _)
  have HT : Hid (T12 K N wA p ρ M rp L v) := hid (h.same hka)
  have HO : Hid (OcOk wA (fun k => k < N) ⟨2, ⟨ct, ca, cn, cc, ws⟩, b, nm, t⟩) := hid (ho.kept hka (fun _ _ _ f => f))
  have HK : Hid (Same w wA ∧ xb = w.heap.size) := hid ⟨hka, hxb⟩
  have HW : Hid (∀ w', Same wA w' → Kept (fun k => N ≤ k) w w') := hid (fun w' hk => (hka.trans hk).mono (fun _ _ f => f.elim))
  obtain ⟨c0, c1, c2, c3, c4, c5, c6⟩ := HB.out.cells
  clear h hka ho
  rw [hwA, hxb] at c0 c1 c2 c3 c4 c5 c6
  simp only at c0 c1 c2 c3 c4 c5 c6
  obtain ⟨A, hA⟩ : ∃ A, A = newV (M.V b nm) (max t M.floor) := ⟨_, rfl⟩
  obtain ⟨d, th⟩ : ∃ d th, A.data = d ∧ A.there = th := ⟨_, _, rfl, rfl⟩
  obtain ⟨th, hd, hth⟩ := th
  have HG1 : Hid (∀ w', Same wA w' → Calls Try.prog 14 #[.pointer (some ⟨p, 0, none⟩), .agg #[.string b.tn, .string b.ar, .string nm.s], .int .i64 t] w' fun e w2 => e = .returned (.tuple #[.string d, .bool th]) ∧ Same w' w2) := hid (fun w' hk => by
    have h9 := xget (HT.out.sto.same hk) b nm t
    unfold getA at h9
    rw [← hA, hd, hth] at h9
    exact h9)
  have HG2 : Hid (∀ w', Same wA w' → Calls Try.prog 27 #[.pointer (some ⟨rp, 0, none⟩), .agg #[.string b.tn, .string b.ar, .string nm.s], .int .i64 t] w' fun e w2 => e = .returned (.tuple #[.string d, .bool th]) ∧ Same w' w2) := hid (fun w' hk => by
    have h9 := rget_any (HT.out.same hk).ref b nm t (HT.out.ris b nm) (HT.out.gone b nm)
    unfold getA at h9
    rw [← HT.out.vs, ← hA, hd, hth] at h9
    exact h9)
  have se := streq12 d d
  rw [decide_eq_true rfl] at se
  have be : (th == th) = true := beq_self_eq_true _
  clear hA hd hth
  go_enter Try.func11, Try.ntmps11
  go_wp2_with fail
  rw [← hwA, ← hxb]
  clear hwA hxb c0 c1 c2 c3 c4 c5 c6
  refine (HG1.out wA (Kept.refl _ _)).mono ?_
  rintro e w1 ⟨rfl, hk1⟩
  have HK1 : Hid (Same wA w1) := hk1
  obtain ⟨c0, c1, c2, c3, c4, c5, c6⟩ := (show OcBk w1 xb _ from HB.out.kept hk1 (fun f => f)).cells
  simp only at c0 c1 c2 c3 c4 c5 c6
  clear hk1
  go_wp2_with fail
  refine (HG2.out w1 HK1.out).mono ?_
  rintro e w2 ⟨rfl, hk2⟩
  have HK2 : Hid (Same wA w2) := hid (HK1.out.trans hk2)
  clear hk2 c0 c1 c2 c3 c4 c5 c6
  go_wp2_with fail
  go_ret
  exact ⟨by first | rfl | simp, ρ, M, L, v, (HT.out.same HK2.out).more (by omega) hK, HW.out _ HK2.out⟩

set_option maxRecDepth 100000 in
set_option maxHeartbeats 4000000 in
theorem cstep4 (h : T12 K N w p ρ M rp L v) (o : Oc) (ho : OcOk w (fun k => k < N) o) (hk : o.k = 4) (hK : K + 3 * o.cm.n ≤ 100000) : Calls Try.prog 11 #[.pointer (some ⟨p, 0, none⟩), .pointer (some ⟨rp, 0, none⟩), .agg (ocC o).toArray] w fun e w' => e = .returned (.bool true) ∧ S12 (K + 3 * o.cm.n) N w p rp w' := by
  obtain ⟨k, cm, b, nm, t⟩ := o
  obtain ⟨ct, ca, cn, cc, ws⟩ := cm
  obtain rfl : k = 4 := hk
  show Calls Try.prog 11 #[.pointer (some ⟨p, 0, none⟩), .pointer (some ⟨rp, 0, none⟩), .agg #[.int .i64 4, .int .i64 ct, .slice ca cn cc, .string b.tn, .string b.ar, .string nm.s, .int .i64 t]] w _
  obtain ⟨wA, hwA⟩ : ∃ W, W = w.alloc (.cells #[.int .i64 4, .int .i64 ct, .slice ca cn cc, .string b.tn, .string b.ar, .string nm.s, .int .i64 t] 38) := ⟨_, rfl⟩
  obtain ⟨xb, hxb⟩ : ∃ y, y = w.heap.size := ⟨_, rfl⟩
  have hka : Same w wA := by rw [hwA]; exact (Kept.refl _ w).alloc _
  have HB : Hid (OcBk wA xb ⟨4, ⟨ct, ca, cn, cc, ws⟩, b, nm, t⟩) := hid (by rw [hwA, hxb]; exact Blk.new w _ _)
  have HT : Hid (T12 K N wA p ρ M rp L v) := hid (h.same hka)
  have HO : Hid (OcOk wA (fun k => k < N) ⟨4, ⟨ct, ca, cn, cc, ws⟩, b, nm, t⟩) := hid (ho.kept hka (fun _ _ _ f => f))
  have HK : Hid (Same w wA ∧ xb = w.heap.size) := hid ⟨hka, hxb⟩
  have HW : Hid (∀ w', Same wA w' → Kept (fun k => N ≤ k) w w') := hid (fun w' hk => (hka.trans hk).mono (fun _ _ f => f.elim))
  obtain ⟨c0, c1, c2, c3, c4, c5, c6⟩ := HB.out.cells
  clear h hka ho
  rw [hwA, hxb] at c0 c1 c2 c3 c4 c5 c6
  simp only at c0 c1 c2 c3 c4 c5 c6
  obtain ⟨r, hr⟩ : ∃ r, r = (newV (M.V b nm) M.now).t := ⟨_, rfl⟩
  have HG1 : Hid (∀ w', Same wA w' → Calls Try.prog 23 #[.pointer (some ⟨p, 0, none⟩), .agg #[.string b.tn, .string b.ar, .string nm.s]] w' fun e w2 => e = .returned (.int .i64 r) ∧ Same w' w2) := hid (fun w' hk => by
    rw [hr]; exact xlast (HT.out.sto.same hk) b nm)
  have HG2 : Hid (∀ w', Same wA w' → Calls Try.prog 29 #[.pointer (some ⟨rp, 0, none⟩), .agg #[.string b.tn, .string b.ar, .string nm.s]] w' fun e w2 => e = .returned (.int .i64 r) ∧ Same w' w2) := hid (fun w' hk => by
    have h9 := rlast_any (HT.out.same hk).ref b nm
    rw [lasK_is (HT.out.ris b nm) (HT.out.vok b nm).low, ← HT.out.vs, ← hr] at h9
    exact h9)
  have be : (r == r) = true := beq_self_eq_true _
  clear hr
  have HKK : Hid (Same wA wA) := hid (Kept.refl _ _)
  go_enter Try.func11, Try.ntmps11
  go_wp2_with fail
  rw [← hwA, ← hxb]
  clear hwA hxb c0 c1 c2 c3 c4 c5 c6
  obtain ⟨c0, c1, c2, c3, c4, c5, c6⟩ := (show OcBk wA xb _ from HB.out.kept (Kept.refl (fun _ => False) _) (fun f => f)).cells
  simp only at c0 c1 c2 c3 c4 c5 c6
  go_region_held3 (fun w' => w'.cell? ⟨xb, 3, none⟩ = some (.string b.tn) ∧ w'.cell? ⟨xb, 4, none⟩ = some (.string b.ar) ∧ w'.cell? ⟨xb, 5, none⟩ = some (.string nm.s))
    (first
      | (go_split_ands; exact ⟨hkc.cell (by assumption) (fun f => f), hkc.cell (by assumption) (fun f => f), hkc.cell (by assumption) (fun f => f)⟩)
      | go_keep)
    (first
      | (go_at_call 23; refine (HG1.out _ (by first | exact HKK.out | exact HKK.out.drew)).mono ?_; rintro e wk ⟨rfl, hkc⟩; have HKK : Hid (Same wA wk) := hid (by first | exact HKK.out.trans hkc | exact HKK.out.trans (Kept.undrewC hkc)))
      | (go_at_call 29; refine (HG2.out _ (by first | exact HKK.out | exact HKK.out.drew)).mono ?_; rintro e wk ⟨rfl, hkc⟩; have HKK : Hid (Same wA wk) := hid (by first | exact HKK.out.trans hkc | exact HKK.out.trans (Kept.undrewC hkc))))
  go_wp2_with fail
  go_ret
  exact ⟨by first | rfl | simp, ρ, M, L, v, (HT.out.same HKK.out).more (by omega) hK, HW.out _ HKK.out⟩

set_option maxRecDepth 100000 in
set_option maxHeartbeats 4000000 in
theorem cstep3 (h : T12 K N w p ρ M rp L v) (o : Oc) (ho : OcOk w (fun k => k < N) o) (hk : o.k = 3) (hK : K + 3 * o.cm.n ≤ 100000) : Calls Try.prog 11 #[.pointer (some ⟨p, 0, none⟩), .pointer (some ⟨rp, 0, none⟩), .agg (ocC o).toArray] w fun e w' => e = .returned (.bool true) ∧ S12 (K + 3 * o.cm.n) N w p rp w' := by
  obtain ⟨k, cm, b, nm, t⟩ := o
  obtain ⟨ct, ca, cn, cc, ws⟩ := cm
  obtain rfl : k = 3 := hk
  show Calls Try.prog 11 #[.pointer (some ⟨p, 0, none⟩), .pointer (some ⟨rp, 0, none⟩), .agg #[.int .i64 3, .int .i64 ct, .slice ca cn cc, .string b.tn, .string b.ar, .string nm.s, .int .i64 t]] w _
  obtain ⟨wA, hwA⟩ : ∃ W, W = w.alloc (.cells #[.int .i64 3, .int .i64 ct, .slice ca cn cc, .string b.tn, .string b.ar, .string nm.s, .int .i64 t] 38) := ⟨_, rfl⟩
  obtain ⟨xb, hxb⟩ : ∃ y, y = w.heap.size := ⟨_, rfl⟩
  have hka : Same w wA := by rw [hwA]; exact (Kept.refl _ w).alloc _
  have HB : Hid (OcBk wA xb ⟨3, ⟨ct, ca, cn, cc, ws⟩, b, nm, t⟩) := hid (by rw [hwA, hxb]; exact Blk.new w _ _)
  have HT : Hid (T12 K N wA p ρ M rp L v) := hid (h.same hka)
  have HO : Hid (OcOk wA (fun k => k < N) ⟨3, ⟨ct, ca, cn, cc, ws⟩, b, nm, t⟩) := hid (ho.kept hka (fun _ _ _ f => f))
  have HK : Hid (Same w wA ∧ xb = w.heap.size) := hid ⟨hka, hxb⟩
  have HW : Hid (∀ w', Same wA w' → Kept (fun k => N ≤ k) w w') := hid (fun w' hk => (hka.trans hk).mono (fun _ _ f => f.elim))
  obtain ⟨c0, c1, c2, c3, c4, c5, c6⟩ := HB.out.cells
  clear h hka ho
  rw [hwA, hxb] at c0 c1 c2 c3 c4 c5 c6
  simp only at c0 c1 c2 c3 c4 c5 c6
  have HL1 : Hid (∀ w', Same wA w' → Calls Try.prog 21 #[.pointer (some ⟨p, 0, none⟩), .agg #[.string b.tn, .string b.ar], .int .i64 t] w' fun e w2 => ∃ v1, e = .returned v1 ∧ (∃ aa nn cc, v1 = .slice aa nn cc) ∧ Same w' w2 ∧ ∀ w3, Same w2 w3 → Calls Try.prog 28 #[.pointer (some ⟨rp, 0, none⟩), .agg #[.string b.tn, .string b.ar], .int .i64 t] w3 fun e w4 => ∃ v2, e = .returned v2 ∧ (∃ aa nn cc, v2 = .slice aa nn cc) ∧ Same w3 w4 ∧ ∀ w5, Same w4 w5 → Calls Try.prog 20 #[v1, v2] w5 fun e w6 => e = .returned (.bool true) ∧ Same w5 w6) := hid (fun w' hk => (xlist (HT.out.sto.same hk) b t).mono (fun e w2 h9 => by
    obtain ⟨v1, xs, rfl, hr1, hs1, hm1, hl1, hk2⟩ := h9
    obtain ⟨aa, cc, hv1, _⟩ := hr1.shape
    refine ⟨v1, rfl, ⟨aa, _, cc, hv1⟩, hk2, fun w3 hk3 => (rlist_any (HT.out.same ((hk.trans hk2).trans hk3)).ref b t HT.out.ris HT.out.gone).mono (fun e w4 h8 => ?_)⟩
    obtain ⟨v2, ys, rfl, hr2, hs2, hm2, hl2, hk4⟩ := h8
    obtain ⟨aa2, cc2, hv2, _⟩ := hr2.shape
    have exy : xs = ys := lis_det ⟨hs1, hm1⟩ ⟨hs2, fun n => by rw [hm2, ← HT.out.vs]⟩
    subst exy
    exact ⟨v2, rfl, ⟨aa2, _, cc2, hv2⟩, hk4, fun w5 hk5 => texts_true w5 _ _ v1 v2 xs (hr1.kept ((hk3.trans hk4).trans hk5) (fun _ _ f => f)) (hr2.kept hk5 (fun _ _ f => f)) (by omega)⟩))
  have HKK : Hid (Same wA wA) := hid (Kept.refl _ _)
  go_enter Try.func11, Try.ntmps11
  go_wp2_with fail
  rw [← hwA, ← hxb]
  clear hwA hxb c0 c1 c2 c3 c4 c5 c6
  obtain ⟨c0, c1, c2, c3, c4, c5, c6⟩ := (show OcBk wA xb _ from HB.out.kept (Kept.refl (fun _ => False) _) (fun f => f)).cells
  simp only at c0 c1 c2 c3 c4 c5 c6
  go_region_held3 (fun w' => w'.cell? ⟨xb, 3, none⟩ = some (.string b.tn) ∧ w'.cell? ⟨xb, 4, none⟩ = some (.string b.ar) ∧ w'.cell? ⟨xb, 5, none⟩ = some (.string nm.s) ∧ w'.cell? ⟨xb, 6, none⟩ = some (.int .i64 t))
    (first
      | (go_split_ands; exact ⟨hkc.cell (by assumption) (fun f => f), hkc.cell (by assumption) (fun f => f), hkc.cell (by assumption) (fun f => f), hkc.cell (by assumption) (fun f => f)⟩)
      | go_keep)
    (first
      | (go_at_call 22; refine (box_any _ b.tn b.ar nm.s).mono ?_; rintro e wk ⟨rfl, hkc⟩; have HKK : Hid (Same wA wk) := hid (by first | exact HKK.out.trans hkc | exact HKK.out.trans (Kept.undrewC hkc)))
      | (go_at_call 21; refine (HL1.out _ (by first | exact HKK.out | exact HKK.out.drew)).mono ?_; rintro e wk ⟨v1, rfl, ⟨aa, nn, cq, rfl⟩, hkc, hcon⟩; have HCN := hid hcon; clear hcon; have HW2 : Hid (Same wk wk) := hid (Kept.refl _ _); have HKK : Hid (Same wA wk) := hid (by first | exact HKK.out.trans hkc | exact HKK.out.trans (Kept.undrewC hkc))))
  clear hkc c0 c1 c2 c3 c4 c5 c6
  obtain ⟨c0, c1, c2, c3, c4, c5, c6⟩ := (show OcBk wk xb _ from HB.out.kept HKK.out (fun f => f)).cells
  simp only at c0 c1 c2 c3 c4 c5 c6
  obtain ⟨wz, hwz⟩ : ∃ W, W = wk := ⟨_, rfl⟩
  have HKZ : Hid (Same wz wz) := hid (Kept.refl _ _)
  have HZA : Hid (Same wA wz) := hid (by rw [hwz]; exact HKK.out)
  rw [← hwz] at HCN c0 c1 c2 c3 c4 c5 c6
  go_wp2_with fail
  try rw [← hwz]
  clear hwz HKK HW2 HL1
  go_region_held3 (fun w' => w'.cell? ⟨xb, 3, none⟩ = some (.string b.tn) ∧ w'.cell? ⟨xb, 4, none⟩ = some (.string b.ar) ∧ w'.cell? ⟨xb, 5, none⟩ = some (.string nm.s) ∧ w'.cell? ⟨xb, 6, none⟩ = some (.int .i64 t))
    (first
      | (go_split_ands; exact ⟨hkc.cell (by assumption) (fun f => f), hkc.cell (by assumption) (fun f => f), hkc.cell (by assumption) (fun f => f), hkc.cell (by assumption) (fun f => f)⟩)
      | go_keep)
    (first
      | (go_at_call 22; refine (box_any _ b.tn b.ar nm.s).mono ?_; rintro e wq ⟨rfl, hkc⟩; have HKZ : Hid (Same wz wq) := hid (by first | exact HKZ.out.trans hkc | exact HKZ.out.trans (Kept.undrewC hkc)))
      | (go_at_call 28; refine (HCN.out _ (by first | exact HKZ.out | exact HKZ.out.drew)).mono ?_; rintro e wq ⟨v2, rfl, ⟨aa2, nn2, cq2, rfl⟩, hkc, hcon⟩; have HCN2 := hid hcon; clear hcon; have HQQ : Hid (Same wq wq) := hid (Kept.refl _ _); have HKZ : Hid (Same wz wq) := hid (by first | exact HKZ.out.trans hkc | exact HKZ.out.trans (Kept.undrewC hkc)))
      | (go_at_call 20; refine (HCN2.out _ (by first | exact HQQ.out | exact HQQ.out.drew)).mono ?_; rintro e wq ⟨rfl, hkc⟩; have HKZ : Hid (Same wz wq) := hid (by first | exact HKZ.out.trans hkc | exact HKZ.out.trans (Kept.undrewC hkc))))
  have HF : Hid (Same wA wq) := hid (HZA.out.trans HKZ.out)
  go_wp2_with fail
  go_ret
  exact ⟨rfl, ρ, M, L, v, (HT.out.same HF.out).more (by omega) hK, HW.out _ HF.out⟩

set_option maxRecDepth 100000 in
set_option maxHeartbeats 4000000 in
theorem cstep6 (h : T12 K N w p ρ M rp L v) (o : Oc) (ho : OcOk w (fun k => k < N) o) (hk : o.k = 6) (hK : K + 3 * o.cm.n ≤ 100000) : Calls Try.prog 11 #[.pointer (some ⟨p, 0, none⟩), .pointer (some ⟨rp, 0, none⟩), .agg (ocC o).toArray] w fun e w' => e = .returned (.bool true) ∧ S12 (K + 3 * o.cm.n) N w p rp w' := by
  obtain ⟨k, cm, b, nm, t⟩ := o
  obtain ⟨ct, ca, cn, cc, ws⟩ := cm
  obtain rfl : k = 6 := hk
  show Calls Try.prog 11 #[.pointer (some ⟨p, 0, none⟩), .pointer (some ⟨rp, 0, none⟩), .agg #[.int .i64 6, .int .i64 ct, .slice ca cn cc, .string b.tn, .string b.ar, .string nm.s, .int .i64 t]] w _
  obtain ⟨wA, hwA⟩ : ∃ W, W = w.alloc (.cells #[.int .i64 6, .int .i64 ct, .slice ca cn cc, .string b.tn, .string b.ar, .string nm.s, .int .i64 t] 38) := ⟨_, rfl⟩
  obtain ⟨xb, hxb⟩ : ∃ y, y = w.heap.size := ⟨_, rfl⟩
  have hka : Same w wA := by rw [hwA]; exact (Kept.refl _ w).alloc _
  have HB : Hid (OcBk wA xb ⟨6, ⟨ct, ca, cn, cc, ws⟩, b, nm, t⟩) := hid (by rw [hwA, hxb]; exact Blk.new w _ _)
  have HT : Hid (T12 K N wA p ρ M rp L v) := hid (h.same hka)
  have HO : Hid (OcOk wA (fun k => k < N) ⟨6, ⟨ct, ca, cn, cc, ws⟩, b, nm, t⟩) := hid (ho.kept hka (fun _ _ _ f => f))
  have HK : Hid (Same w wA ∧ xb = w.heap.size) := hid ⟨hka, hxb⟩
  have HW : Hid (∀ w', Same wA w' → Kept (fun k => N ≤ k) w w') := hid (fun w' hk => (hka.trans hk).mono (fun _ _ f => f.elim))
  obtain ⟨c0, c1, c2, c3, c4, c5, c6⟩ := HB.out.cells
  clear h hka ho
  rw [hwA, hxb] at c0 c1 c2 c3 c4 c5 c6
  simp only at c0 c1 c2 c3 c4 c5 c6
  have HD1 : Hid (∀ w', Same wA w' → Calls Try.prog 15 #[.pointer (some ⟨p, 0, none⟩), .int .i64 t] w' fun e w2 => ∃ v1, e = .returned v1 ∧ (∃ aa nn cc, v1 = .slice aa nn cc) ∧ Same w' w2 ∧ ∀ w3, Same w2 w3 → Calls Try.prog 31 #[.pointer (some ⟨rp, 0, none⟩), .int .i64 t] w3 fun e w4 => ∃ v2, e = .returned v2 ∧ (∃ aa nn cc, v2 = .slice aa nn cc) ∧ Same w3 w4 ∧ ∀ w5, Same w4 w5 → Calls Try.prog 17 #[v1, v2] w5 fun e w6 => e = .returned (.bool true) ∧ Same w5 w6) := hid (fun w' hk => by
    obtain ⟨s, mb, hck, hM⟩ := HT.out.sto.same hk
    refine (dump_any hck t).mono (fun e w2 h9 => ?_)
    obtain ⟨v1, As, rfl, hd1, hi1, hl1, hb1, hk2⟩ := h9
    obtain ⟨aa, cc, hv1, _⟩ := hd1.row.shape
    refine ⟨v1, rfl, ⟨aa, _, cc, hv1⟩, hk2, fun w3 hk3 => (rdump_any (HT.out.same ((hk.trans hk2).trans hk3)).ref t HT.out.ris HT.out.gone).mono (fun e w4 h8 => ?_)⟩
    obtain ⟨v2, Bs, rfl, hd2, hi2, hl2, hb2, hk4⟩ := h8
    obtain ⟨aa2, cc2, hv2, _⟩ := hd2.row.shape
    have e9 : visF (vers s) (max t s.floor) = visF (ofK L) (max t M.floor) := by rw [← HT.out.vs, hM]
    rw [e9] at hi1
    exact ⟨v2, rfl, ⟨aa2, _, cc2, hv2⟩, hk4, fun w5 hk5 => dsame_true w5 _ _ v1 v2 As Bs (hd1.same ((hk3.trans hk4).trans hk5)) (hd2.same hk5) (hi1.det hi2) hl1 hb1⟩)
  go_enter Try.func11, Try.ntmps11
  go_wp2_with fail
  rw [← hwA, ← hxb]
  clear hwA hxb c0 c1 c2 c3 c4 c5 c6
  refine (HD1.out wA (Kept.refl _ _)).mono ?_
  rintro e w1 ⟨v1, rfl, ⟨aa, nn, cq, rfl⟩, hk1, hcon⟩
  have HCN := hid hcon
  have HK1 : Hid (Same wA w1) := hk1
  obtain ⟨c0, c1, c2, c3, c4, c5, c6⟩ := (show OcBk w1 xb _ from HB.out.kept hk1 (fun f => f)).cells
  simp only at c0 c1 c2 c3 c4 c5 c6
  clear hk1 hcon HD1
  go_wp2_with fail
  refine (HCN.out w1 (Kept.refl _ _)).mono ?_
  rintro e w2 ⟨v2, rfl, ⟨aa2, nn2, cq2, rfl⟩, hk2, hcon⟩
  have HCN2 := hid hcon
  have HK2 : Hid (Same wA w2) := hid (HK1.out.trans hk2)
  clear hk2 hcon HCN c0 c1 c2 c3 c4 c5 c6
  go_wp2_with fail
  refine (HCN2.out w2 (Kept.refl _ _)).mono ?_
  rintro e w3 ⟨rfl, hk3⟩
  have HK3 : Hid (Same wA w3) := hid (HK2.out.trans hk3)
  clear hk3 HCN2
  go_wp2_with fail
  go_ret
  exact ⟨rfl, ρ, M, L, v, (HT.out.same HK3.out).more (by omega) hK, HW.out _ HK3.out⟩

set_option maxRecDepth 100000 in
set_option maxHeartbeats 4000000 in
theorem cstep7 (h : T12 K N w p ρ M rp L v) (o : Oc) (ho : OcOk w (fun k => k < N) o) (hk : o.k ≠ 1 ∧ o.k ≠ 2 ∧ o.k ≠ 3 ∧ o.k ≠ 4 ∧ o.k ≠ 5 ∧ o.k ≠ 6) (hK : K + 3 * o.cm.n ≤ 100000) : Calls Try.prog 11 #[.pointer (some ⟨p, 0, none⟩), .pointer (some ⟨rp, 0, none⟩), .agg (ocC o).toArray] w fun e w' => e = .returned (.bool true) ∧ S12 (K + 3 * o.cm.n) N w p rp w' := by
  obtain ⟨k, cm, b, nm, t⟩ := o
  obtain ⟨ct, ca, cn, cc, ws⟩ := cm
  have q1 : ((k : Int) == 1) = false := by simpa using hk.1
  have q2 : ((k : Int) == 2) = false := by simpa using hk.2.1
  have q3 : ((k : Int) == 3) = false := by simpa using hk.2.2.1
  have q4 : ((k : Int) == 4) = false := by simpa using hk.2.2.2.1
  have q5 : ((k : Int) == 5) = false := by simpa using hk.2.2.2.2.1
  have q6 : ((k : Int) == 6) = false := by simpa using hk.2.2.2.2.2
  clear hk
  show Calls Try.prog 11 #[.pointer (some ⟨p, 0, none⟩), .pointer (some ⟨rp, 0, none⟩), .agg #[.int .i64 k, .int .i64 ct, .slice ca cn cc, .string b.tn, .string b.ar, .string nm.s, .int .i64 t]] w _
  obtain ⟨wA, hwA⟩ : ∃ W, W = w.alloc (.cells #[.int .i64 k, .int .i64 ct, .slice ca cn cc, .string b.tn, .string b.ar, .string nm.s, .int .i64 t] 38) := ⟨_, rfl⟩
  obtain ⟨xb, hxb⟩ : ∃ y, y = w.heap.size := ⟨_, rfl⟩
  have hka : Same w wA := by rw [hwA]; exact (Kept.refl _ w).alloc _
  have HB : Hid (OcBk wA xb ⟨k, ⟨ct, ca, cn, cc, ws⟩, b, nm, t⟩) := hid (by rw [hwA, hxb]; exact Blk.new w _ _)
  have HT : Hid (T12 K N wA p ρ M rp L v) := hid (h.same hka)
  have HO : Hid (OcOk wA (fun k => k < N) ⟨k, ⟨ct, ca, cn, cc, ws⟩, b, nm, t⟩) := hid (ho.kept hka (fun _ _ _ f => f))
  have HK : Hid (Same w wA ∧ xb = w.heap.size) := hid ⟨hka, hxb⟩
  have HW : Hid (∀ w', Same wA w' → Kept (fun k => N ≤ k) w w') := hid (fun w' hk => (hka.trans hk).mono (fun _ _ f => f.elim))
  obtain ⟨c0, c1, c2, c3, c4, c5, c6⟩ := HB.out.cells
  clear h hka ho
  rw [hwA, hxb] at c0 c1 c2 c3 c4 c5 c6
  simp only at c0 c1 c2 c3 c4 c5 c6
  obtain ⟨now, hnow⟩ : ∃ x, x = M.now := ⟨_, rfl⟩
  obtain ⟨a0, q0, hv0, _⟩ := HT.out.ref.row.shape
  obtain ⟨l, hl⟩ : ∃ x, x = L.length := ⟨_, rfl⟩
  rw [← hl] at hv0
  have HN1 : Hid (∀ w', Same wA w' → Calls Try.prog 13 #[.pointer (some ⟨p, 0, none⟩)] w' fun e w2 => e = .returned (.int .i64 now) ∧ Same w' w2) := hid (fun w' hk => (xnow (HT.out.sto.same hk)).mono (fun e w2 h9 => ⟨by rw [hnow]; exact h9.1, by rw [h9.2]; exact Kept.refl _ _⟩))
  have HV1 : Hid (∀ w', Same wA w' → Calls Try.prog 18 #[.pointer (some ⟨p, 0, none⟩)] w' fun e w2 => e = .returned (.int .i64 (l : Nat)) ∧ Same w' w2) := hid (fun w' hk => (xversions (HT.out.sto.same hk)).mono (fun e w2 h9 => by
    obtain ⟨m, h1, h2, h3⟩ := h9
    rw [HT.out.vs] at h2
    rw [h1, h2.det (ofK_tot L), hl]
    exact ⟨rfl, h3⟩))
  have HR : Hid (∀ w', Same wA w' → w'.cell? ⟨rp, 0, none⟩ = some (.slice a0 l q0) ∧ w'.cell? ⟨rp, 1, none⟩ = some (.int .i64 now)) := hid (fun w' hk => by
    have h9 := (HT.out.same hk).ref.blk
    rw [hv0] at h9
    rw [hnow]
    exact ⟨h9.cell 0, h9.cell 1⟩)
  have be : (now == now) = true := beq_self_eq_true _
  have be2 : ((l : Int) == (l : Int)) = true := beq_self_eq_true _
  clear hnow hl hv0
  have HKK : Hid (Same wA wA) := hid (Kept.refl _ _)
  go_enter Try.func11, Try.ntmps11
  go_wp2_with fail
  rw [← hwA, ← hxb]
  clear hwA hxb c0 c1 c2 c3 c4 c5 c6
  obtain ⟨r0, r1⟩ := HR.out wA (Kept.refl _ _)
  go_region_held3 (fun w' => w'.cell? ⟨rp, 0, none⟩ = some (.slice a0 l q0) ∧ w'.cell? ⟨rp, 1, none⟩ = some (.int .i64 now))
    (first
      | (go_split_ands; exact ⟨hkc.cell (by assumption) (fun f => f), hkc.cell (by assumption) (fun f => f)⟩)
      | go_keep)
    (first
      | (go_at_call 13; refine (HN1.out _ (by first | exact HKK.out | exact HKK.out.drew)).mono ?_; rintro e wk ⟨rfl, hkc⟩; have HKK : Hid (Same wA wk) := hid (by first | exact HKK.out.trans hkc | exact HKK.out.trans (Kept.undrewC hkc)))
      | (go_at_call 18; refine (HV1.out _ (by first | exact HKK.out | exact HKK.out.drew)).mono ?_; rintro e wk ⟨rfl, hkc⟩; have HKK : Hid (Same wA wk) := hid (by first | exact HKK.out.trans hkc | exact HKK.out.trans (Kept.undrewC hkc))))
  go_wp2_with fail
  go_ret
  exact ⟨by first | rfl | simp, ρ, M, L, v, (HT.out.same HKK.out).more (by omega) hK, HW.out _ HKK.out⟩

end

end Go.Proofs.Ythignkloecfcbaa
