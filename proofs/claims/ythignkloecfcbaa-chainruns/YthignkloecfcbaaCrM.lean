/-
  Layer 12's law ChainRuns: Prune and Put, held against the reference.
-/
import Derived.Test.YthignkloecfcbaaCrL
import Derived.Test.YthignkloecfcbaaCrH
namespace Go.Proofs.Ythignkloecfcbaa
open Go.RowKit Go.Maps Go.Sort

theorem Sto.ge {K N : Nat} {w : World} {p : Nat} {M : Mst} {ρ : Nat → Nat} (h : Sto K N w p M ρ) {k : Nat} (hk : ρ k ≠ 0) : N ≤ k := by
  obtain ⟨s, mb, h1, _⟩ := h
  exact (h1.new k hk).1

theorem cpr_any {K N : Nat} {w : World} {p : Nat} {M : Mst} {ρ : Nat → Nat} (h : Sto K N w p M ρ) (t : Int) : Calls Try.prog 19 #[.pointer (some ⟨p, 0, none⟩), .int .i64 t] w fun e w' => ∃ (k : Nat) (ρ' : Nat → Nat), e = .returned (.int .i64 (k : Nat)) ∧ Sto K N w' p (prM M t) ρ' ∧ ExtC w ρ ρ' ∧ Kept (fun k => ρ k ≠ 0) w w' ∧ ∀ m, TotIs M.V m → ∃ m', TotIs (prM M t).V m' ∧ m' + k = m := by
  by_cases ht : t ≤ M.floor
  · refine (xprune_old h t ht).mono ?_
    rintro e w' ⟨rfl, hk⟩
    have e1 : prM M t = M := if_pos ht
    rw [e1]
    exact ⟨0, ρ, rfl, h.same hk, ExtC.refl _ _, hk.mono (fun _ _ f => f.elim), fun m hm => ⟨m, hm, rfl⟩⟩
  · refine (xprune_new h t (by omega)).mono ?_
    rintro e w' ⟨k, rfl, ⟨ρ', g1, g2, g3⟩, hT⟩
    have e1 : prM M t = pruM M (min t M.now) := if_neg ht
    rw [e1]
    exact ⟨k, ρ', rfl, g1, g2, g3, hT⟩

/-- The versions that Prune leaves. -/
def prLL (L : List Lv) (now floor t : Int) : List Lv := if t ≤ floor then L else L.filter (kpP L (min t now))

theorem prLL_len (L : List Lv) (now floor t : Int) : (prLL L now floor t).length ≤ L.length := by
  unfold prLL
  split
  · exact Nat.le_refl _
  · exact List.length_filter_le _ _

theorem prLL_is {L : List Lv} {M : Mst} (hv : M.V = ofK L) (hr : ∀ b n, RisV (ofK L b n)) (t : Int) : (prM M t).V = ofK (prLL L M.now M.floor t) := by
  unfold prM prLL
  split
  · exact hv
  · rw [prL_is L _ hr]
    unfold pruM
    simp only [hv]

theorem rpr_any {N : Nat} {w : World} {p : Nat} {L : List Lv} {M : Mst} {v : Value} (h : Rc N w p L M.now M.floor v) (hN : N ≤ w.heap.size) (t : Int) (hr : ∀ b n, RisV (ofK L b n)) : Calls Try.prog 30 #[.pointer (some ⟨p, 0, none⟩), .int .i64 t] w fun e w' => ∃ v', e = .returned (.int .i64 ((L.length - (prLL L M.now M.floor t).length : Nat) : Int)) ∧ Rc N w' p (prLL L M.now M.floor t) (prM M t).now (prM M t).floor v' ∧ (∀ j, v'.ownBlock = some j → v.ownBlock = some j ∨ w.heap.size ≤ j) ∧ Kept (· = p) w w' := by
  by_cases ht : t ≤ M.floor
  · refine (rprune_old h t ht).mono ?_
    rintro e w' ⟨rfl, hk⟩
    have e1 : prM M t = M := if_pos ht
    have e2 : prLL L M.now M.floor t = L := if_pos ht
    rw [e1, e2, Nat.sub_self]
    exact ⟨v, rfl, h.same hk, fun j e => .inl e, hk.mono (fun _ _ f => f.elim)⟩
  · refine (rprune_new h hN t (by omega) hr).mono ?_
    rintro e w' ⟨v', rfl, h1, h2, h3⟩
    have e1 : prM M t = pruM M (min t M.now) := if_neg ht
    have e2 : prLL L M.now M.floor t = L.filter (kpP L (min t M.now)) := if_neg ht
    rw [e1, e2]
    exact ⟨v', rfl, h1, fun j e => .inr (h2 j e), h3⟩

theorem prune12 {K N : Nat} {w : World} {p : Nat} {ρ : Nat → Nat} {M : Mst} {rp : Nat} {L : List Lv} {v : Value} (h : T12 K N w p ρ M rp L v) (t : Int) : Calls Try.prog 19 #[.pointer (some ⟨p, 0, none⟩), .int .i64 t] w fun e w2 => e = .returned (.int .i64 ((L.length - (prLL L M.now M.floor t).length : Nat) : Int)) ∧ Kept (fun k => ρ k ≠ 0) w w2 ∧ ∀ w3, Same w2 w3 → Calls Try.prog 30 #[.pointer (some ⟨rp, 0, none⟩), .int .i64 t] w3 fun e w4 => e = .returned (.int .i64 ((L.length - (prLL L M.now M.floor t).length : Nat) : Int)) ∧ (∃ ρ' M' L' v', T12 K N w4 p ρ' M' rp L' v') ∧ Kept (fun k => ρ k ≠ 0 ∨ k = rp) w w4 := by
  refine (cpr_any h.sto t).mono ?_
  rintro e w2 ⟨k, ρ2, rfl, h1, h2, h3, h4⟩
  obtain ⟨m', g1, g2⟩ := h4 L.length (by rw [h.vs]; exact ofK_tot L)
  have g3 : m' = (prLL L M.now M.floor t).length := by
    rw [prLL_is h.vs h.ris] at g1
    exact g1.det (ofK_tot _)
  have hk : k = L.length - (prLL L M.now M.floor t).length := by omega
  subst hk
  refine ⟨rfl, h3, fun w3 hk3 => ?_⟩
  have hr3 : Rc N w3 rp L M.now M.floor v := by
    have hz : ∀ k, v.ownBlock = some k → ¬ ρ k ≠ 0 := fun k e => by simp [h.zv k e]
    have h9 : Rc N w2 rp L M.now M.floor v := { h.ref with blk := h.ref.blk.kept h3 (by simp [h.zp]), row := h.ref.row.kept h3 hz }
    exact h9.same hk3
  have hs3 := Nat.le_trans h3.size hk3.size
  refine (rpr_any hr3 (Nat.le_trans h.hN hs3) t h.ris).mono ?_
  rintro e w4 ⟨v', rfl, q1, q2, q3⟩
  have hlr : rp < w.heap.size := h.ref.blk.lt
  have hzr : ρ2 rp = 0 := h2.zero hlr h.zp
  have hzv : ∀ j, v.ownBlock = some j → ρ2 j = 0 := fun j e => h2.zero (h.ref.row.lt e) (h.zv j e)
  refine ⟨rfl, ⟨ρ2, prM M t, _, v', ⟨(h1.same hk3).kept q3 (fun k e => by rw [e]; exact hzr), q1, prLL_is h.vs h.ris t, hzr, fun k e => ?_, Nat.le_trans (prLL_len _ _ _ _) h.len, Nat.le_trans h.hN (Nat.le_trans hs3 q3.size)⟩⟩, Kept.trans (Kept.trans h3 hk3 (fun _ _ e => e) (fun _ _ f => f.elim)) q3 (fun _ _ e => .inl e) (fun _ _ e => .inr e)⟩
  rcases q2 k e with q | q
  · exact hzv k q
  · exact h1.zero (Nat.le_trans hk3.size q)

section
variable {K N : Nat} {w : World} {p : Nat} {ρ : Nat → Nat} {M : Mst} {rp : Nat} {L : List Lv} {v : Value}

set_option maxRecDepth 100000 in
set_option maxHeartbeats 4000000 in
theorem cstep5 (h : T12 K N w p ρ M rp L v) (o : Oc) (ho : OcOk w (fun k => k < N) o) (hk : o.k = 5) (hK : K + 3 * o.cm.n ≤ 100000) : Calls Try.prog 11 #[.pointer (some ⟨p, 0, none⟩), .pointer (some ⟨rp, 0, none⟩), .agg (ocC o).toArray] w fun e w' => e = .returned (.bool true) ∧ S12 (K + 3 * o.cm.n) N w p rp w' := by
  obtain ⟨k, cm, b, nm, t⟩ := o
  obtain ⟨ct, ca, cn, cc, ws⟩ := cm
  obtain rfl : k = 5 := hk
  show Calls Try.prog 11 #[.pointer (some ⟨p, 0, none⟩), .pointer (some ⟨rp, 0, none⟩), .agg #[.int .i64 5, .int .i64 ct, .slice ca cn cc, .string b.tn, .string b.ar, .string nm.s, .int .i64 t]] w _
  obtain ⟨wA, hwA⟩ : ∃ W, W = w.alloc (.cells #[.int .i64 5, .int .i64 ct, .slice ca cn cc, .string b.tn, .string b.ar, .string nm.s, .int .i64 t] 38) := ⟨_, rfl⟩
  obtain ⟨xb, hxb⟩ : ∃ y, y = w.heap.size := ⟨_, rfl⟩
  have hka : Same w wA := by rw [hwA]; exact (Kept.refl _ w).alloc _
  have HB : Hid (OcBk wA xb ⟨5, ⟨ct, ca, cn, cc, ws⟩, b, nm, t⟩) := hid (by rw [hwA, hxb]; exact Blk.new w _ _)
  have HT : Hid (T12 K N wA p ρ M rp L v) := hid (h.same hka)
  have HO : Hid (OcOk wA (fun k => k < N) ⟨5, ⟨ct, ca, cn, cc, ws⟩, b, nm, t⟩) := hid (ho.kept hka (fun _ _ _ f => f))
  have HK : Hid (Same w wA ∧ xb = w.heap.size) := hid ⟨hka, hxb⟩
  have HW : Hid (∀ w', Same wA w' → Kept (fun k => N ≤ k) w w') := hid (fun w' hk => (hka.trans hk).mono (fun _ _ f => f.elim))
  obtain ⟨c0, c1, c2, c3, c4, c5, c6⟩ := HB.out.cells
  have HZ0 : Hid (ρ xb = 0) := hid (h.sto.zero (by omega))
  have HZ1 : Hid (¬ xb = rp) := hid (fun e => by have := h.ref.blk.lt; omega)
  clear h hka ho
  rw [hwA, hxb] at c0 c1 c2 c3 c4 c5 c6
  simp only at c0 c1 c2 c3 c4 c5 c6
  obtain ⟨kk, hkk⟩ : ∃ q, q = L.length - (prLL L M.now M.floor t).length := ⟨_, rfl⟩
  have HXR : Hid (¬ (ρ xb ≠ 0) ∧ ¬ xb = rp) := hid ⟨fun e => e HZ0.out, HZ1.out⟩
  have HP1 : Hid (∀ w', Same wA w' → Calls Try.prog 19 #[.pointer (some ⟨p, 0, none⟩), .int .i64 t] w' fun e w2 => e = .returned (.int .i64 (kk : Nat)) ∧ w2.cell? ⟨xb, 6, none⟩ = some (.int .i64 t) ∧ ∀ w3, Same w2 w3 → Calls Try.prog 30 #[.pointer (some ⟨rp, 0, none⟩), .int .i64 t] w3 fun e w4 => e = .returned (.int .i64 (kk : Nat)) ∧ w4.cell? ⟨xb, 6, none⟩ = some (.int .i64 t) ∧ (∃ ρ' M' L' v', T12 K N w4 p ρ' M' rp L' v') ∧ Kept (fun k => N ≤ k) w w4) := hid (fun w' hk => (prune12 (HT.out.same hk) t).mono (fun e w2 h9 => by
    obtain ⟨rfl, h2, h3⟩ := h9
    have hb := (HB.out.kept hk (fun f => f))
    refine ⟨by rw [hkk], (show OcBk w2 xb _ from Blk.kept hb h2 HXR.out.1).cells.2.2.2.2.2.2, fun w3 hk3 => (h3 w3 hk3).mono (fun e w4 h8 => ?_)⟩
    obtain ⟨rfl, q1, q2⟩ := h8
    refine ⟨by rw [hkk], (show OcBk w4 xb _ from Blk.kept hb q2 (fun e => e.elim HXR.out.1 HXR.out.2)).cells.2.2.2.2.2.2, q1, Kept.trans (HW.out w' hk) q2 (fun _ _ e => e) (fun k _ e => ?_)⟩
    rcases e with e | e
    · exact HT.out.sto.ge e
    · rw [e]; exact HT.out.ref.np))
  have be : ((kk : Int) == (kk : Int)) = true := beq_self_eq_true _
  clear hkk
  have HKK : Hid (Same wA wA) := hid (Kept.refl _ _)
  go_enter Try.func11, Try.ntmps11
  go_wp2_with fail
  rw [← hwA, ← hxb]
  clear hwA hxb c0 c1 c2 c3 c4 c5 c6
  obtain ⟨c0, c1, c2, c3, c4, c5, c6⟩ := (show OcBk wA xb _ from HB.out.kept (Kept.refl (fun _ => False) _) (fun f => f)).cells
  simp only at c0 c1 c2 c3 c4 c5 c6
  go_region_held3 (fun w' => w'.cell? ⟨xb, 6, none⟩ = some (.int .i64 t))
    (first
      | exact hcl
      | go_keep)
    (first
      | (go_at_call 19; refine (HP1.out _ (by first | exact HKK.out | exact HKK.out.drew)).mono ?_; rintro e wk ⟨rfl, hcl, hcon⟩; have HCN := hid hcon; clear hcon; have HKW : Hid (Same wk wk) := hid (Kept.refl _ _))
      | (go_at_call 30; refine (HCN.out _ (by first | exact HKW.out | exact HKW.out.drew)).mono ?_; rintro e wk ⟨rfl, hcl, hT9, hk9⟩; have HT9 := hid hT9; have HK9 := hid hk9; clear hT9 hk9))
  go_wp2_with fail
  go_ret
  obtain ⟨ρ', M', L', v', h9⟩ := HT9.out
  exact ⟨by first | rfl | simp, ρ', M', L', v', h9.more (by omega) hK, HK9.out⟩

end

end Go.Proofs.Ythignkloecfcbaa
