/-
  Of the proof: parts TxC, TxD, TxQ, TxK, TxL.
-/
import Derived.Test.YtapcjmnibkoegaaGreatDoorJ23
import Derived.Test.YtapcjmnibkoegaaGreatDoorJ38
import Derived.Test.YtapcjmnibkoegaaGreatDoorJ27

/-
  Layer 14: an entry of an open transaction's tenant.
-/
namespace Go.Proofs.YtapcjmnibkoegaaGreatDoor
open Go.RowKit Go.Maps Go.Sort Go.Shelf

theorem results_14 {fn : Func} {a p b : Tmp} {ty : TypeId} (h : fn.results = #[.tmp a, .cell p ty, .tmp b]) (tmps : Array Value) (P : Program) (w w1 w2 : World) (x : Addr) (v : Value) (h1 : (asAddr (tmps.getD p undef)).run P w = .ok x w1) (h2 : (loadVar ty x).run P w1 = .ok v w2) :
    (results fn tmps).run P w = .ok (.tuple #[tmps.getD a undef, v, tmps.getD b undef]) w2 := by
  simp only [results, h]
  simp only [Array.getD_eq_getD_getElem?] at h1 ⊢
  simp [Sem.run_bind, Result.andThen, h1, h2]

theorem setk14 {w : World} {g : Nat} {a0 a1 a2 x0 x1 x2 : Value} {t : TypeId} (hb : Blk w g #[a0, a1, a2] t) : Blk (((w.setCell ⟨g, 0, none⟩ x0).setCell ⟨g, 1, none⟩ x1).setCell ⟨g, 2, none⟩ x2) g #[x0, x1, x2] t ∧ Kept (· = g) w (((w.setCell ⟨g, 0, none⟩ x0).setCell ⟨g, 1, none⟩ x1).setCell ⟨g, 2, none⟩ x2) := by
  refine ⟨?_, (((Kept.refl (· = g) w).setCell _ _ (.inl rfl)).setCell _ _ (.inl rfl)).setCell _ _ (.inl rfl)⟩
  have h9 := ((hb.set 0 x0).set 1 x1).set 2 x2
  simpa using h9

theorem loadK14 {W : World} {g : Nat} {a b c : ByteArray} (hb : Blk W g #[.string a, .string b, .string c] 63) : (loadVar 63 ⟨g, 0, none⟩).run Tryz.prog W = .ok (.agg #[.string a, .string b, .string c]) W := by
  have c0 := hb.cell 0
  have c1 := hb.cell 1
  have c2 := hb.cell 2
  simp only [List.getElem?_toArray, List.getElem?_cons_zero, List.getElem?_cons_succ] at c0 c1 c2
  simp [go_sem, c0, c1, c2]

/-- What entry tells. -/
def entA (c : Tc) (n : Nb) (ar en : ByteArray) : Value :=
  match getK n c.L with
  | none => .tuple #[.pointer none, .agg #[.string ⟨#[]⟩, .string ⟨#[]⟩, .string ⟨#[]⟩], .int .i64 140]
  | some q => if (sho ar && nam8 (sb en)) = true then .tuple #[.pointer (some ⟨q, 0, none⟩), .agg #[.string (c.ow q).s, .string ar, .string en], .int .i64 0] else .tuple #[.pointer none, .agg #[.string ⟨#[]⟩, .string ⟨#[]⟩, .string ⟨#[]⟩], .int .i64 143]

set_option maxRecDepth 100000 in
set_option maxHeartbeats 2000000 in
theorem tentry_any {K N : Nat} {w : World} {p : Nat} {M : Mst} {bg : Int} {c : Tc} {τ : Nat → Nat} (h : Tk K N w p M bg c τ) (n : Nb) (ar en : ByteArray) (hx : Mxl w) : Calls Tryz.prog 66 #[.pointer (some ⟨p, 0, none⟩), .int .i64 n.v, .string ar, .string en] w fun e w' => e = .returned (entA c n ar en) ∧ Same w w' := by
  obtain ⟨wA, hwA⟩ : ∃ W, W = w.alloc (.cells #[.string ⟨#[]⟩, .string ⟨#[]⟩, .string ⟨#[]⟩] 63) := ⟨_, rfl⟩
  obtain ⟨xb, hxb⟩ : ∃ y, y = w.heap.size := ⟨_, rfl⟩
  have hka : Same w wA := by rw [hwA]; exact (Kept.refl _ w).alloc _
  have HB : Hid (Blk wA xb #[.string ⟨#[]⟩, .string ⟨#[]⟩, .string ⟨#[]⟩] 63 ∧ Same w wA ∧ w.heap.size ≤ xb) := hid ⟨by rw [hwA, hxb]; exact Blk.new w _ _, hka, by omega⟩
  have HF := tfind_any (h.same hka) n
  have HS := fun W => short_any W ar
  have HN := fun W (hk : Same wA W) => name_any W en ((hx.kept hka (fun f => f)).kept hk (fun f => f))
  unfold entA
  cases hg : getK n c.L with
  | none =>
    rw [hg] at HF
    change Calls _ _ _ _ (fun e w' => e = .returned (.tuple #[.pointer none, .int .i64 140]) ∧ w' = wA) at HF
    have y0 := HB.out.1.cell 0
    have y1 := HB.out.1.cell 1
    have y2 := HB.out.1.cell 2
    have z0 := HB.out.1.frozen 0
    have z1 := HB.out.1.frozen 1
    have z2 := HB.out.1.frozen 2
    simp only [List.getElem?_toArray, List.getElem?_cons_zero, List.getElem?_cons_succ] at y0 y1 y2
    clear h hg hka hx HN HS
    show Calls _ _ _ _ fun e w' => e = .returned (.tuple #[.pointer none, .agg #[.string ⟨#[]⟩, .string ⟨#[]⟩, .string ⟨#[]⟩], .int .i64 140]) ∧ Same w w'
    go_enter Tryz.func66, Tryz.ntmps66
    go_wp2_with fail
    rw [← hwA, ← hxb]
    refine HF.mono ?_
    rintro e w1 ⟨rfl, rfl⟩
    clear hwA hxb HF
    go_wp2_with fail
    refine bodyPost_ret (v := .tuple #[.pointer none, .agg #[.string ⟨#[]⟩, .string ⟨#[]⟩, .string ⟨#[]⟩], .int .i64 140]) (by rw [results_14 (a := 8) (p := 9) (b := 10) (ty := 63) rfl _ _ _ _ _ ⟨xb, 0, none⟩ _ rfl (loadK14 (setk14 HB.out.1).1)]; rfl) rfl ?_
    exact ⟨rfl, Kept.trans HB.out.2.1 (setk14 HB.out.1).2 (fun _ _ f => f) (fun k hk e => by have := HB.out.2.2; omega)⟩
  | some q =>
    rw [hg] at HF
    change Calls _ _ _ _ (fun e w' => e = .returned (.tuple #[.pointer (some ⟨q, 0, none⟩), .int .i64 0]) ∧ w' = wA) at HF
    have HQ : Hid (∀ w', Same wA w' → w'.cell? ⟨q, 0, none⟩ = some (.string (c.ow q).s)) := hid (fun w' hk => ((h.same (hka.trans hk)).tb _ (getK_mem hg)).cell 0)
    obtain ⟨os, hos⟩ : ∃ x, x = (c.ow q).s := ⟨_, rfl⟩
    rw [← hos] at HQ
    have HHS := hid (HS wA)
    have HHN := hid HN
    show Calls _ _ _ _ fun e w' => e = .returned (if (sho ar && nam8 (sb en)) = true then .tuple #[.pointer (some ⟨q, 0, none⟩), .agg #[.string (c.ow q).s, .string ar, .string en], .int .i64 0] else .tuple #[.pointer none, .agg #[.string ⟨#[]⟩, .string ⟨#[]⟩, .string ⟨#[]⟩], .int .i64 143]) ∧ Same w w'
    rw [← hos]
    obtain ⟨b1, hb1⟩ : ∃ x, x = sho ar := ⟨_, rfl⟩
    obtain ⟨b2, hb2⟩ : ∃ x, x = nam8 (sb en) := ⟨_, rfl⟩
    rw [← hb1] at HHS ⊢
    rw [← hb2] at HHN ⊢
    obtain ⟨RV, hRV⟩ : ∃ V : Value, V = (if (b1 && b2) = true then .tuple #[.pointer (some ⟨q, 0, none⟩), .agg #[.string os, .string ar, .string en], .int .i64 0] else .tuple #[.pointer none, .agg #[.string ⟨#[]⟩, .string ⟨#[]⟩, .string ⟨#[]⟩], .int .i64 143]) := ⟨_, rfl⟩
    rw [← hRV]
    have HRV := hid hRV
    clear h hg hka hx HN HS hos hb1 hb2 hRV
    go_enter Tryz.func66, Tryz.ntmps66
    go_wp2_with fail
    rw [← hwA, ← hxb]
    refine HF.mono ?_
    rintro e w1 ⟨rfl, rfl⟩
    clear hwA hxb HF
    go_wp2_with fail
    refine HHS.out.mono ?_
    rintro e w2 ⟨rfl, hk2⟩
    have HK2 : Hid (Same w1 w2) := hk2
    clear hk2
    cases b1 with
    | false =>
      have hbx := HB.out.1.kept HK2.out (fun f => f)
      have HX : Hid (Blk w2 xb #[.string ⟨#[]⟩, .string ⟨#[]⟩, .string ⟨#[]⟩] 63) := hbx
      have y0 := hbx.cell 0
      have y1 := hbx.cell 1
      have y2 := hbx.cell 2
      have z0 := hbx.frozen 0
      have z1 := hbx.frozen 1
      have z2 := hbx.frozen 2
      simp only [List.getElem?_toArray, List.getElem?_cons_zero, List.getElem?_cons_succ] at y0 y1 y2
      clear hbx
      go_wp2_with fail
      refine bodyPost_ret (v := .tuple #[.pointer none, .agg #[.string ⟨#[]⟩, .string ⟨#[]⟩, .string ⟨#[]⟩], .int .i64 143]) (by rw [results_14 (a := 8) (p := 9) (b := 10) (ty := 63) rfl _ _ _ _ _ ⟨xb, 0, none⟩ _ rfl (loadK14 (setk14 HX.out).1)]; rfl) rfl ?_
      exact ⟨by rw [HRV.out]; rfl, Kept.trans (HB.out.2.1.trans HK2.out) (setk14 HX.out).2 (fun _ _ f => f) (fun k hk e => by have := HB.out.2.2; omega)⟩
    | true =>
      go_wp2_with fail
      refine (HHN.out w2 HK2.out).mono ?_
      rintro e w3 ⟨rfl, hk3⟩
      have HK3 : Hid (Same w1 w3) := hid (HK2.out.trans hk3)
      clear hk3
      have hbx := HB.out.1.kept HK3.out (fun f => f)
      have HX : Hid (Blk w3 xb #[.string ⟨#[]⟩, .string ⟨#[]⟩, .string ⟨#[]⟩] 63) := hbx
      have y0 := hbx.cell 0
      have y1 := hbx.cell 1
      have y2 := hbx.cell 2
      have z0 := hbx.frozen 0
      have z1 := hbx.frozen 1
      have z2 := hbx.frozen 2
      have o0 := HQ.out w3 HK3.out
      simp only [List.getElem?_toArray, List.getElem?_cons_zero, List.getElem?_cons_succ] at y0 y1 y2
      clear hbx
      cases b2 with
      | false =>
        go_wp2_with fail
        refine bodyPost_ret (v := .tuple #[.pointer none, .agg #[.string ⟨#[]⟩, .string ⟨#[]⟩, .string ⟨#[]⟩], .int .i64 143]) (by rw [results_14 (a := 8) (p := 9) (b := 10) (ty := 63) rfl _ _ _ _ _ ⟨xb, 0, none⟩ _ rfl (loadK14 (setk14 HX.out).1)]; rfl) rfl ?_
        exact ⟨by rw [HRV.out]; rfl, Kept.trans (HB.out.2.1.trans HK3.out) (setk14 HX.out).2 (fun _ _ f => f) (fun k hk e => by have := HB.out.2.2; omega)⟩
      | true =>
        go_wp2_with fail
        go_region
        all_goals go_wp2_with fail
        all_goals refine bodyPost_ret (v := .tuple #[.pointer (some ⟨q, 0, none⟩), .agg #[.string os, .string ar, .string en], .int .i64 0]) (by rw [results_14 (a := 8) (p := 9) (b := 10) (ty := 63) rfl _ _ _ _ _ ⟨xb, 0, none⟩ _ rfl (loadK14 ((setk14 HX.out).1.kept (F := fun _ => False) ((Kept.refl _ _).drew) (fun f => f)))]; rfl) rfl ?_
        all_goals exact ⟨by rw [HRV.out]; rfl, (Kept.trans (HB.out.2.1.trans HK3.out) (setk14 HX.out).2 (fun _ _ f => f) (fun k hk e => by have := HB.out.2.2; omega)).drew⟩

end Go.Proofs.YtapcjmnibkoegaaGreatDoor

/-
  Layer 14: Put and Delete.
-/
namespace Go.Proofs.YtapcjmnibkoegaaGreatDoor
open Go.RowKit Go.Maps Go.Sort Go.Shelf

section
variable {K N : Nat} {w : World} {p : Nat} {M : Mst} {bg : Int} {c : Tc} {τ : Nat → Nat}

/-- A manager of which one transaction's set is another one. -/
def Tc.set (c : Tc) (q : Nat) (m : Mv) : Tc := { c with mv := fun x => if x = q then m else c.mv x }

theorem Tk.more (h : Tk K N w p M bg c τ) {K' : Nat} (hK : K ≤ K') (hb : K' ≤ 100000) : Tk K' N w p M bg c τ := { h with sto := h.sto.more hK hb, ts := fun x hx => (h.ts x hx).more hK hb, lens := ⟨h.lens.1, Nat.le_trans h.lens.2 hK⟩, big := hb }

theorem Tk.setMv (h : Tk K N w p M bg c τ) {n : Nb} {q : Nat} (hq : getK n c.L = some q) {w' : World} {K' : Nat} {m : Mv} (hv : Vx K' w' (c.st q) (c.J q) m) (hk : Kept (c.J q) w w') (hK : K ≤ K') (hb : K' ≤ 100000) : Tk K' N w' p M bg (c.set q m) τ ∧ Kept (fun k => τ k ≠ 0) w w' := by
  have hm := getK_mem hq
  have hr := h.r7 _ hm
  have hno : ∀ k, τ k ≠ 6 + q → ¬ c.J q k := fun k e e2 => e (hr k e2)
  have h9 := h.more hK hb
  refine ⟨{ h9 with
    blk := h.blk.kept hk (hno p (by rw [h.r1]; omega))
    sto := h9.sto.kept hk (fun k e => by
      cases hz : c.ρ k with
      | zero => rfl
      | succ z => have := h.r3 k (by omega); rw [hr k e] at this; simp only at this; omega)
    om := h.om.kept hk (hno c.mo (by rw [h.r2]; omega))
    tb := fun x hx => (h.tb x hx).kept hk (vxOff (h.ts _ hm) (h.tb x hx) (by decide))
    ts := fun x hx => ?_
    cr := h.cr.kept hk (fun k e => hno k (by rw [h.r4 k e]; omega))
    cw := fun y hy => (h.cw y hy).kept hk (fun k e => hno k (by rw [h.r5 y hy k e]; omega))
    new := fun k e => ⟨(h.new k e).1, Nat.lt_of_lt_of_le (h.new k e).2 hk.size⟩ }, hk.mono (fun k _ e => by rw [hr k e]; omega)⟩
  by_cases e : x.2 = q
  · have e1 : (c.set q m).mv x.2 = m := if_pos e
    rw [e1, e]
    exact hv
  · have e1 : (c.set q m).mv x.2 = c.mv x.2 := if_neg e
    rw [e1]
    exact (h9.ts x hx).kept hk (fun k e2 => hno k (by rw [h.r7 x hx k e2]; omega))

end

end Go.Proofs.YtapcjmnibkoegaaGreatDoor

/-
  Layer 14: conflicts.
-/
namespace Go.Proofs.YtapcjmnibkoegaaGreatDoor
open Go.RowKit Go.Maps Go.Sort Go.Shelf

section
variable {K N : Nat} {w : World} {p : Nat} {M : Mst} {bg : Int} {c : Tc} {τ : Nat → Nat}

/-- Some last commits, as they can be read. -/
theorem Tk.cms (h : Tk K N w p M bg c τ) (low : Nat) (hl : low ≤ c.cl.length) (a : Option Addr) (n cap : Nat) (hn : n = c.cl.length - low) (hcap : n ≤ cap) (ha : low < c.cl.length → ∃ g c0, c.cv = .slice (some ⟨g, 0, none⟩) c.cl.length c0 ∧ a = some ⟨g, low * 2, none⟩) (hnum : ∀ y ∈ c.cl, CmOk w (fun k => τ k ≠ 0) y) : Cms w (fun k => τ k ≠ 0) (.slice a n cap) (c.cl.drop low) := by
  refine ⟨⟨a, cap, by rw [List.length_drop, hn], by rw [List.length_drop]; omega, fun hne => ?_⟩, fun y hy => hnum y (List.mem_of_mem_drop hy), by have := h.lens.2; have := h.big; rw [List.length_drop]; omega⟩
  have hlt : low < c.cl.length := by
    rcases Nat.lt_or_ge low c.cl.length with e | e
    · exact e
    · exact absurd (List.drop_of_length_le e) hne
  obtain ⟨g, c0, hcv, rfl⟩ := ha hlt
  refine ⟨g, low * 2, rfl, ?_, fun j hj i hi => ?_⟩
  · have := h.r4 g (by rw [hcv]; rfl)
    show τ g ≠ 0
    omega
  · have hcr := h.cr
    rw [hcv] at hcr
    rw [List.length_drop] at hj
    have h9 := RowC.cell cmC_ok hcr (low + j) i (by omega) hi
    rw [List.getElem_drop]
    rw [show low * 2 + (j * 2 + i) = (low + j) * 2 + i by omega]
    exact h9

theorem Tk.cmOk (h : Tk K N w p M bg c τ) {y : Cm} (hy : y ∈ c.cl) (ht : -9223372036854775808 ≤ y.t ∧ y.t ≤ 9223372036854775807) : CmOk w (fun k => τ k ≠ 0) y := by
  have hr := h.cw y hy
  have hl : y.n = y.ws.length := by
    obtain ⟨a9, c9, hv9, _⟩ := hr.shape
    injection hv9
  refine ⟨(SrcC.ofRow wrE_ok hr).mono (fun j e => by rw [h.r5 y hy j e]; decide), hl.symm, ht, ?_⟩
  have h1 := hr.shape
  obtain ⟨a9, c9, hv9, _⟩ := h1
  rcases hr.2 with ⟨e1, _⟩ | ⟨g, cap, cur, e1, _, _, hnc, hcm, _⟩
  · injection e1 with _ e2 _
    omega
  · unfold maxLen at hcm
    omega

/-- How many of the commits come ahead of a transaction's snapshot. -/
def lowC (c : Tc) (M : Mst) (q : Nat) : Nat := c.cl.length - (M.now - 1 - (c.mv q).t).toNat

set_option maxRecDepth 100000 in
set_option maxHeartbeats 2000000 in
theorem tconf_any (h : Tk K N w p M bg c τ) {n : Nb} {q : Nat} (hg : getK n c.L = some q) (hs : 0 ≤ (c.mv q).t ∧ (c.mv q).t ≤ M.now - 1 ∧ M.now - 1 - (c.mv q).t ≤ c.cl.length) (hnum : ∀ y ∈ c.cl, -9223372036854775808 ≤ y.t ∧ y.t ≤ 9223372036854775807) : Calls Tryz.prog 64 #[.pointer (some ⟨p, 0, none⟩), .pointer (some ⟨q, 0, none⟩)] w fun e w' => e = .returned (.bool (decide (0 ≤ (chkM (c.mv q) (c.cl.drop (lowC c M q))).1))) ∧ Same w w' := by
  obtain ⟨low, hlow⟩ : ∃ x, x = lowC c M q := ⟨_, rfl⟩
  rw [← hlow]
  obtain ⟨CK, hCK⟩ : ∃ x, x = chkM (c.mv q) (c.cl.drop low) := ⟨_, rfl⟩
  rw [← hCK]
  obtain ⟨c1, c2⟩ := CK
  obtain ⟨L, hL⟩ : ∃ x, x = c.cl.length := ⟨_, rfl⟩
  obtain ⟨lt, hlt⟩ : ∃ x : Nat, (x : Int) = M.now - 1 - (c.mv q).t := ⟨(M.now - 1 - (c.mv q).t).toNat, by omega⟩
  have hll : low + lt = L := by unfold lowC at hlow; rw [← hL] at hlow; have := hs.2.2; omega
  obtain ⟨nw, hnw⟩ : ∃ x, x = M.now - 1 := ⟨_, rfl⟩
  obtain ⟨t, ht⟩ : ∃ x, x = (c.mv q).t := ⟨_, rfl⟩
  obtain ⟨st, hst⟩ : ∃ x, x = c.st q := ⟨_, rfl⟩
  have hn9 := h.sto.nums
  have hb9 := h.lens.2
  have hb8 := h.big
  have hw1 : IntKind.i64.wrap (nw - t) = (lt : Int) := by rw [IntKind.wrap_i64]; omega
  have hw2 : IntKind.i64.wrap ((L : Int) - (lt : Int)) = (low : Int) := by rw [IntKind.wrap_i64]; omega
  have hw3 : (L : Int) - (lt : Int) = (low : Int) := by omega
  have hw4 : IntKind.i64.wrap (low : Int) = (low : Int) := by rw [IntKind.wrap_i64]; omega
  have HNW : Hid (∀ w', Same w w' → Calls Tryz.prog 16 #[.pointer (some ⟨p, 0, none⟩)] w' fun e w2 => e = .returned (.int .i64 nw) ∧ Same w' w2) := hid (fun w' hk => (tnow_any (h.same hk)).mono (fun e w2 h9 => ⟨by rw [hnw]; exact h9.1, by rw [h9.2]; exact Kept.refl _ _⟩))
  have HAT : Hid (∀ w', Same w w' → Calls Tryz.prog 94 #[.pointer (some ⟨st, 0, none⟩)] w' fun e w2 => e = .returned (.int .i64 t) ∧ Same w' w2) := hid (fun w' hk => (xvat (by rw [hst]; exact (h.same hk).ts _ (getK_mem hg))).mono (fun e w2 h9 => ⟨by rw [ht]; exact h9.1, by rw [h9.2]; exact Kept.refl _ _⟩))
  have HCM : Hid (∀ w', Same w w' → ∀ a n cap, n = lt → n ≤ cap → (low < c.cl.length → ∃ g c0, c.cv = .slice (some ⟨g, 0, none⟩) c.cl.length c0 ∧ a = some ⟨g, low * 2, none⟩) → Calls Tryz.prog 105 #[.pointer (some ⟨st, 0, none⟩), .slice a n cap] w' fun e w2 => e = .returned (.tuple #[.int .i64 c1, .int .i64 c2]) ∧ Same w' w2) := hid (fun w' hk a n cap h1 h2 h3 => by
    have hT := h.same hk
    have hcs := hT.cms low (by omega) a n cap (by omega) h2 h3 (fun y hy => hT.cmOk hy (hnum y hy))
    have hvx : Vx K w' st (c.J q) (c.mv q) := by rw [hst]; exact hT.ts _ (getK_mem hg)
    have h9 := xvcheck hvx _ _ _ hcs
    rw [← hCK] at h9
    exact h9)
  have q2 : w.cell? ⟨q, 2, none⟩ = some (.pointer (some ⟨st, 0, none⟩)) := by rw [hst]; exact (h.tb _ (getK_mem hg)).cell 2
  have p3 : w.cell? ⟨p, 3, none⟩ = some c.cv := h.blk.cell 3
  have HKK : Hid (Same w w) := hid (Kept.refl _ _)
  have HRES : Hid (decide (0 ≤ (c1, c2).1) = decide ((0 : Int) ≤ c1)) := hid rfl
  rcases h.cr.2 with ⟨e1, e2⟩ | ⟨g, cap, cur, e1, hB, hblk, hnc, hcm, _⟩
  · have hz : L = 0 := by
      rw [hL]
      obtain ⟨a9, c9, hv9, _⟩ := h.cr.shape
      rw [e1] at hv9
      have e3 : (0 : Nat) = c.cl.length := by injection hv9
      exact e3.symm
    have hlt0 : lt = 0 := by omega
    have hlow0 : low = 0 := by omega
    subst hlt0 hlow0
    rw [e1] at p3
    have HCK : Hid (∀ w', Same w w' → Calls Tryz.prog 105 #[.pointer (some ⟨st, 0, none⟩), .slice none 0 0] w' fun e w2 => e = .returned (.tuple #[.int .i64 c1, .int .i64 c2]) ∧ Same w' w2) := hid (fun w' hk => HCM.out w' hk none 0 0 rfl (Nat.le_refl _) (fun e => by omega))
    subst hz
    have hw5 : IntKind.i64.wrap (nw - t) = 0 := by rw [hw1]; rfl
    clear h hg hs hnum hlow hCK hL hlt hll hnw ht hst hn9 hb9 hb8 e1 e2 HCM hw1 hw2 hw3 hw4
    go_enter Tryz.func64, Tryz.ntmps64
    go_wp2_with fail
    go_region_held3 (fun w' => w'.cell? ⟨q, 2, none⟩ = some (.pointer (some ⟨st, 0, none⟩)) ∧ w'.cell? ⟨p, 3, none⟩ = some (.slice none 0 0))
      (first
        | (go_split_ands; exact ⟨hkc.cell (by assumption) (fun f => f), hkc.cell (by assumption) (fun f => f)⟩)
        | go_keep)
      (first
        | (go_at_call 16; refine (HNW.out _ (by first | exact HKK.out | exact HKK.out.drew)).mono ?_; rintro e wk ⟨rfl, hkc⟩; have HKK : Hid (Same w wk) := hid (by first | exact HKK.out.trans hkc | exact HKK.out.trans (Kept.undrewC hkc)))
        | (go_at_call 94; refine (HAT.out _ (by first | exact HKK.out | exact HKK.out.drew)).mono ?_; rintro e wk ⟨rfl, hkc⟩; have HKK : Hid (Same w wk) := hid (by first | exact HKK.out.trans hkc | exact HKK.out.trans (Kept.undrewC hkc))))
    obtain ⟨wz, hwz⟩ : ∃ W, W = wk := ⟨_, rfl⟩
    have HKZ : Hid (Same w wz) := hid (by rw [hwz]; exact HKK.out)
    have q2z := HKZ.out.cell q2 (fun f => f)
    have p3z := HKZ.out.cell p3 (fun f => f)
    clear hkc
    go_wp2_with fail
    rw [← hwz]
    clear hwz HKK
    have HKK : Hid (Same w wz) := HKZ
    go_region_with (go_at_call 105; refine (HCK.out _ (show Same w _ by first | exact HKK.out | exact HKK.out.drew)).mono ?_; rintro e wq ⟨rfl, hkc⟩; have HKK : Hid (Same w wq) := hid (by first | exact HKK.out.trans hkc | exact HKK.out.trans (Kept.undrewC hkc)))
    all_goals go_wp2_with fail
    all_goals go_ret
    all_goals exact ⟨rfl, HKK.out⟩
  · have hcv : c.cv = .slice (some ⟨g, 0, none⟩) L cap := by rw [e1, hL]
    rw [hcv] at p3
    have hLc : L ≤ cap := by rw [hL]; exact hnc
    have a1 : (low : Int) ≤ (L : Int) := by omega
    have a2 : (L : Int) ≤ (cap : Int) := by omega
    have a3 : (0 : Int) ≤ (low : Int) := by omega
    have a4 : (low : Int) ≤ (cap : Int) := by omega
    have a5 : L - low = lt := by omega
    have a6 : low ≤ L := by omega
    have a7 : low ≤ cap := by omega
    by_cases hcl : cap = low
    · have hlt0 : lt = 0 := by omega
      have eL : L = low := by omega
      subst hlt0 hcl eL
      have HCK : Hid (∀ w', Same w w' → Calls Tryz.prog 105 #[.pointer (some ⟨st, 0, none⟩), .slice (some ⟨g, 0, none⟩) 0 0] w' fun e w2 => e = .returned (.tuple #[.int .i64 c1, .int .i64 c2]) ∧ Same w' w2) := hid (fun w' hk => HCM.out w' hk _ 0 0 rfl (Nat.le_refl _) (fun e => by omega))
      clear h hg hs hnum hlow hCK hL hlt hll hnw ht hst hn9 hb9 hb8 e1 HCM hB hblk hnc hcm hcv
      go_enter Tryz.func64, Tryz.ntmps64
      go_wp2_with fail
      go_region_held3 (fun w' => w'.cell? ⟨q, 2, none⟩ = some (.pointer (some ⟨st, 0, none⟩)) ∧ w'.cell? ⟨p, 3, none⟩ = some (.slice (some ⟨g, 0, none⟩) L L))
        (first
          | (go_split_ands; exact ⟨hkc.cell (by assumption) (fun f => f), hkc.cell (by assumption) (fun f => f)⟩)
          | go_keep)
        (first
          | (go_at_call 16; refine (HNW.out _ (by first | exact HKK.out | exact HKK.out.drew)).mono ?_; rintro e wk ⟨rfl, hkc⟩; have HKK : Hid (Same w wk) := hid (by first | exact HKK.out.trans hkc | exact HKK.out.trans (Kept.undrewC hkc)))
          | (go_at_call 94; refine (HAT.out _ (by first | exact HKK.out | exact HKK.out.drew)).mono ?_; rintro e wk ⟨rfl, hkc⟩; have HKK : Hid (Same w wk) := hid (by first | exact HKK.out.trans hkc | exact HKK.out.trans (Kept.undrewC hkc))))
      obtain ⟨wz, hwz⟩ : ∃ W, W = wk := ⟨_, rfl⟩
      have HKZ : Hid (Same w wz) := hid (by rw [hwz]; exact HKK.out)
      have q2z := HKZ.out.cell q2 (fun f => f)
      have p3z := HKZ.out.cell p3 (fun f => f)
      clear hkc
      go_wp2_with fail
      rw [← hwz]
      clear hwz HKK
      have HKK : Hid (Same w wz) := HKZ
      go_region_held3 (fun w' => w'.cell? ⟨q, 2, none⟩ = some (.pointer (some ⟨st, 0, none⟩)) ∧ w'.cell? ⟨p, 3, none⟩ = some (.slice (some ⟨g, 0, none⟩) L L))
        (first
          | (go_split_ands; exact ⟨hkc.cell (by assumption) (fun f => f), hkc.cell (by assumption) (fun f => f)⟩)
          | go_keep)
        (first
          | (go_at_call 105; refine (HCK.out _ (by first | exact HKK.out | exact HKK.out.drew)).mono ?_; rintro e wq ⟨rfl, hkc⟩; have HKK : Hid (Same w wq) := hid (by first | exact HKK.out.trans hkc | exact HKK.out.trans (Kept.undrewC hkc))))
      go_wp2_with fail
      go_ret
      exact ⟨rfl, HKK.out⟩
    · have HCK : Hid (∀ w', Same w w' → Calls Tryz.prog 105 #[.pointer (some ⟨st, 0, none⟩), .slice (some ⟨g, low * 2, none⟩) lt (cap - low)] w' fun e w2 => e = .returned (.tuple #[.int .i64 c1, .int .i64 c2]) ∧ Same w' w2) := hid (fun w' hk => HCM.out w' hk _ lt (cap - low) rfl (by omega) (fun _ => ⟨g, cap, by rw [← hL]; exact hcv, rfl⟩))
      clear h hg hs hnum hlow hCK hL hlt hll hnw ht hst hn9 hb9 hb8 e1 HCM hB hblk hnc hcm hcv
      go_enter Tryz.func64, Tryz.ntmps64
      go_wp2_with fail
      go_region_held3 (fun w' => w'.cell? ⟨q, 2, none⟩ = some (.pointer (some ⟨st, 0, none⟩)) ∧ w'.cell? ⟨p, 3, none⟩ = some (.slice (some ⟨g, 0, none⟩) L cap))
        (first
          | (go_split_ands; exact ⟨hkc.cell (by assumption) (fun f => f), hkc.cell (by assumption) (fun f => f)⟩)
          | go_keep)
        (first
          | (go_at_call 16; refine (HNW.out _ (by first | exact HKK.out | exact HKK.out.drew)).mono ?_; rintro e wk ⟨rfl, hkc⟩; have HKK : Hid (Same w wk) := hid (by first | exact HKK.out.trans hkc | exact HKK.out.trans (Kept.undrewC hkc)))
          | (go_at_call 94; refine (HAT.out _ (by first | exact HKK.out | exact HKK.out.drew)).mono ?_; rintro e wk ⟨rfl, hkc⟩; have HKK : Hid (Same w wk) := hid (by first | exact HKK.out.trans hkc | exact HKK.out.trans (Kept.undrewC hkc))))
      obtain ⟨wz, hwz⟩ : ∃ W, W = wk := ⟨_, rfl⟩
      have HKZ : Hid (Same w wz) := hid (by rw [hwz]; exact HKK.out)
      have q2z := HKZ.out.cell q2 (fun f => f)
      have p3z := HKZ.out.cell p3 (fun f => f)
      clear hkc
      go_wp2_with fail
      rw [← hwz]
      clear hwz HKK
      have HKK : Hid (Same w wz) := HKZ
      go_region_held3 (fun w' => w'.cell? ⟨q, 2, none⟩ = some (.pointer (some ⟨st, 0, none⟩)) ∧ w'.cell? ⟨p, 3, none⟩ = some (.slice (some ⟨g, 0, none⟩) L cap))
        (first
          | (go_split_ands; exact ⟨hkc.cell (by assumption) (fun f => f), hkc.cell (by assumption) (fun f => f)⟩)
          | go_keep)
        (first
          | (go_at_call 105; refine (HCK.out _ (by first | exact HKK.out | exact HKK.out.drew)).mono ?_; rintro e wq ⟨rfl, hkc⟩; have HKK : Hid (Same w wq) := hid (by first | exact HKK.out.trans hkc | exact HKK.out.trans (Kept.undrewC hkc))))
      go_wp2_with fail
      go_ret
      exact ⟨rfl, HKK.out⟩

end

end Go.Proofs.YtapcjmnibkoegaaGreatDoor

/-
  Layer 14: a manager with a transaction more.
-/
namespace Go.Proofs.YtapcjmnibkoegaaGreatDoor
open Go.RowKit Go.Maps Go.Sort Go.Shelf

def updN {α : Type} (f : Nat → α) (q : Nat) (a : α) : Nat → α := fun x => if x = q then a else f x
theorem updN_at {α : Type} (f : Nat → α) (q : Nat) (a : α) : updN f q a q = a := if_pos rfl
theorem updN_off {α : Type} (f : Nat → α) {q x : Nat} (a : α) (h : x ≠ q) : updN f q a x = f x := if_neg h

/-- One more. -/
def Tc.add (c : Tc) (nb : Nb) (q : Nat) (tn : Nm) (st : Nat) (J : Nat → Prop) (mv : Mv) : Tc := { c with L := putK kI nb q c.L, ow := updN c.ow q tn, st := updN c.st q st, J := updN c.J q J, mv := updN c.mv q mv }

section
variable {K N : Nat} {w : World} {p : Nat} {M : Mst} {bg : Int} {c : Tc} {τ : Nat → Nat}

open Classical in
theorem Tk.addT (h : Tk K N w p M bg c τ) {w' : World} {q st : Nat} {J : Nat → Prop} {mv : Mv} {tn : Nm} {nb : Nb} (hnb : nb.v = bg + 1) (hb : Blk w' p #[.pointer (some ⟨c.ps, 0, none⟩), .int .i64 (bg + 1), .map (some c.mo), c.cv] 91) (hm : MpK 3 ptC kI w' c.mo (putK kI nb q c.L)) (hq : Blk w' q #[.string tn.s, .pointer (some ⟨c.ps, 0, none⟩), .pointer (some ⟨st, 0, none⟩)] 114) (hv : Vx K w' st J mv) (hk : Kept (fun k => k = p ∨ k = c.mo) w w') (hqn : w.heap.size ≤ q) (hJ : ∀ k, J k → w.heap.size ≤ k) (hN : N ≤ w.heap.size) (hl : c.L.length < 256) (hbg : bg + 1 ≤ 100000) :
    ∃ τ', Tk K N w' p M (bg + 1) (c.add nb q tn st J mv) τ' ∧ (∀ k, k < w.heap.size → τ' k = τ k) := by
  have hlt : ∀ k, τ k ≠ 0 → k < w.heap.size := fun k e => (h.new k e).2
  have hold : ∀ k, k < w.heap.size → ¬ (k = q ∨ J k) := fun k hk e => by
    rcases e with e | e
    · omega
    · have := hJ k e; omega
  obtain ⟨τ', hτ⟩ : ∃ τ' : Nat → Nat, τ' = fun k => if k = q ∨ J k then 6 + q else τ k := ⟨_, rfl⟩
  have h1 : ∀ k, k < w.heap.size → τ' k = τ k := fun k hk => by rw [hτ]; exact if_neg (hold k hk)
  have h2 : ∀ k, τ k ≠ 0 → τ' k = τ k := fun k e => h1 k (hlt k e)
  have h3 : τ' q = 6 + q := by rw [hτ]; exact if_pos (.inl rfl)
  have h4 : ∀ k, J k → τ' k = 6 + q := fun k e => by rw [hτ]; exact if_pos (.inr e)
  have hno : ∀ k, τ k ≠ 0 → τ k ≠ 1 → τ k ≠ 2 → ¬ (k = p ∨ k = c.mo) := fun k _ e1 e2 e => by
    rcases e with e | e
    · rw [e, h.r1] at e1; exact e1 rfl
    · rw [e, h.r2] at e2; exact e2 rfl
  have hxl : ∀ x ∈ c.L, x.2 < w.heap.size ∧ x.2 ≠ q := fun x hx => by
    have := hlt x.2 (by rw [h.r6 x hx]; omega)
    exact ⟨this, by omega⟩
  have hmem : ∀ x, x ∈ (c.add nb q tn st J mv).L → x = (nb, q) ∨ (x ∈ c.L ∧ x.1 ≠ nb) := fun x hx => putK_mem.1 hx
  refine ⟨τ', { blk := hb, sto := ?_, om := hm, tb := fun x hx => ?_, ts := fun x hx => ?_, cr := ?_, cw := fun y hy => ?_, inj := fun x hx y hy e => ?_, r1 := ?_, r2 := ?_, r3 := fun k e => ?_, r4 := fun k e => ?_, r5 := fun y hy k e => ?_, r6 := fun x hx => ?_, r7 := fun x hx k e => ?_, new := fun k e => ?_, key := fun x hx => ?_, num := ⟨by have := h.num; omega, hbg⟩, lens := ⟨?_, h.lens.2⟩, big := h.big }, h1⟩
  · refine h.sto.kept hk (fun k e => ?_)
    cases hz : c.ρ k with
    | zero => rfl
    | succ z => exact absurd e (hno k (by rw [h.r3 k (by omega)]; omega) (by rw [h.r3 k (by omega)]; omega) (by rw [h.r3 k (by omega)]; omega))
  · rcases hmem x hx with rfl | ⟨e, _⟩
    · show Blk w' q #[.string (updN c.ow q tn q).s, _, .pointer (some ⟨updN c.st q st q, 0, none⟩)] _
      rw [updN_at, updN_at]; exact hq
    · show Blk w' x.2 #[.string (updN c.ow q tn x.2).s, _, .pointer (some ⟨updN c.st q st x.2, 0, none⟩)] _
      rw [updN_off _ _ (hxl x e).2, updN_off _ _ (hxl x e).2]
      exact (h.tb x e).kept hk (hno _ (by rw [h.r6 x e]; omega) (by rw [h.r6 x e]; omega) (by rw [h.r6 x e]; omega))
  · rcases hmem x hx with rfl | ⟨e, _⟩
    · show Vx K w' (updN c.st q st q) (updN c.J q J q) (updN c.mv q mv q)
      rw [updN_at, updN_at, updN_at]; exact hv
    · show Vx K w' (updN c.st q st x.2) (updN c.J q J x.2) (updN c.mv q mv x.2)
      rw [updN_off _ _ (hxl x e).2, updN_off _ _ (hxl x e).2, updN_off _ _ (hxl x e).2]
      exact (h.ts x e).kept hk (fun k e2 => hno k (by rw [h.r7 x e k e2]; omega) (by rw [h.r7 x e k e2]; omega) (by rw [h.r7 x e k e2]; omega))
  · exact h.cr.kept hk (fun k e => hno k (by rw [h.r4 k e]; omega) (by rw [h.r4 k e]; omega) (by rw [h.r4 k e]; omega))
  · exact (h.cw y hy).kept hk (fun k e => hno k (by rw [h.r5 y hy k e]; omega) (by rw [h.r5 y hy k e]; omega) (by rw [h.r5 y hy k e]; omega))
  · rcases hmem x hx with rfl | ⟨e1, _⟩ <;> rcases hmem y hy with rfl | ⟨e2, _⟩
    · rfl
    · exact absurd e.symm (hxl y e2).2
    · exact absurd e (hxl x e1).2
    · exact h.inj x e1 y e2 e
  · rw [h2 p (by rw [h.r1]; omega)]; exact h.r1
  · show τ' c.mo = 2
    rw [h2 c.mo (by rw [h.r2]; omega)]; exact h.r2
  · rw [h2 k (by rw [h.r3 k e]; omega)]; exact h.r3 k e
  · rw [h2 k (by rw [h.r4 k e]; omega)]; exact h.r4 k e
  · rw [h2 k (by rw [h.r5 y hy k e]; omega)]; exact h.r5 y hy k e
  · rcases hmem x hx with rfl | ⟨e, _⟩
    · exact h3
    · rw [h2 x.2 (by rw [h.r6 x e]; omega)]; exact h.r6 x e
  · rcases hmem x hx with rfl | ⟨e1, _⟩
    · exact h4 k (by have e2 : updN c.J q J q k := e; rw [updN_at] at e2; exact e2)
    · have e2 : updN c.J q J x.2 k := e
      rw [updN_off _ _ (hxl x e1).2] at e2
      rw [h2 k (by rw [h.r7 x e1 k e2]; omega)]; exact h.r7 x e1 k e2
  · rw [hτ] at e
    by_cases e1 : k = q ∨ J k
    · rcases e1 with e1 | e1
      · rw [e1]; exact ⟨by omega, hq.lt⟩
      · exact ⟨by have := hJ k e1; omega, hv.lt k e1⟩
    · simp only [if_neg e1] at e
      exact ⟨(h.new k e).1, Nat.lt_of_lt_of_le (h.new k e).2 hk.size⟩
  · rcases hmem x hx with rfl | ⟨e, _⟩
    · show 1 ≤ nb.v ∧ nb.v ≤ bg + 1
      rw [hnb]; have := h.num; omega
    · have := h.key x e; omega
  · show (putK kI nb q c.L).length ≤ 256
    have := putK_len (kl := kI) nb q c.L
    omega

end

end Go.Proofs.YtapcjmnibkoegaaGreatDoor

/-
  Layer 14: Begin.
-/
namespace Go.Proofs.YtapcjmnibkoegaaGreatDoor
open Go.RowKit Go.Maps Go.Sort Go.Shelf

/-- What Begin tells. -/
def BegA (K N : Nat) (w : World) (p : Nat) (M : Mst) (bg : Int) (c : Tc) (τ : Nat → Nat) (tn : Nm) (e : Ending) (w' : World) : Prop :=
  (sho tn.s = false ∧ e = .returned (.tuple #[.int .i64 0, .int .i64 143]) ∧ Same w w') ∨
  (sho tn.s = true ∧ 256 ≤ c.L.length ∧ e = .returned (.tuple #[.int .i64 0, .int .i64 141]) ∧ Same w w') ∨
  (sho tn.s = true ∧ c.L.length < 256 ∧ ∃ nb q st J τ', nb.v = bg + 1 ∧ e = .returned (.tuple #[.int .i64 (bg + 1), .int .i64 0]) ∧ Tk K N w' p M (bg + 1) (c.add nb q tn st J (mv0 (M.now - 1))) τ' ∧ (∀ k, k < w.heap.size → τ' k = τ k) ∧ w.heap.size ≤ q ∧ Kept (fun k => τ k ≠ 0) w w')

section
variable {K N : Nat} {w : World} {p : Nat} {M : Mst} {bg : Int} {c : Tc} {τ : Nat → Nat}

theorem Tk.setBg (h : Tk K N w p M bg c τ) {w' : World} {b2 : Int} (hb : Blk w' p #[.pointer (some ⟨c.ps, 0, none⟩), .int .i64 b2, .map (some c.mo), c.cv] 91) (hk : Kept (· = p) w w') (h1 : bg ≤ b2) (h2 : b2 ≤ 100000) : Tk K N w' p M b2 c τ := by
  have hno : ∀ k, τ k ≠ 0 → τ k ≠ 1 → ¬ k = p := fun k _ e1 e => by rw [e, h.r1] at e1; exact e1 rfl
  exact { h with
    blk := hb
    sto := h.sto.kept hk (fun k e => by
      cases hz : c.ρ k with
      | zero => rfl
      | succ z => exact absurd e (hno k (by rw [h.r3 k (by omega)]; omega) (by rw [h.r3 k (by omega)]; omega)))
    om := h.om.kept hk (hno c.mo (by rw [h.r2]; omega) (by rw [h.r2]; omega))
    tb := fun x hx => (h.tb x hx).kept hk (hno _ (by rw [h.r6 x hx]; omega) (by rw [h.r6 x hx]; omega))
    ts := fun x hx => (h.ts x hx).kept hk (fun k e => hno k (by rw [h.r7 x hx k e]; omega) (by rw [h.r7 x hx k e]; omega))
    cr := h.cr.kept hk (fun k e => hno k (by rw [h.r4 k e]; omega) (by rw [h.r4 k e]; omega))
    cw := fun y hy => (h.cw y hy).kept hk (fun k e => hno k (by rw [h.r5 y hy k e]; omega) (by rw [h.r5 y hy k e]; omega))
    new := fun k e => ⟨(h.new k e).1, Nat.lt_of_lt_of_le (h.new k e).2 hk.size⟩
    key := fun x hx => by have := h.key x hx; omega
    num := ⟨by have := h.num; omega, h2⟩ }

set_option maxRecDepth 100000 in
set_option maxHeartbeats 2000000 in
theorem tbegin_any (h : Tk K N w p M bg c τ) (tn : Nm) (hN : N ≤ w.heap.size) (hbg : bg + 1 ≤ 100000) : Calls Tryz.prog 15 #[.pointer (some ⟨p, 0, none⟩), .string tn.s] w fun e w' => BegA K N w p M bg c τ tn e w' := by
  have HS := short_any w tn.s
  have HT : Hid (Tk K N w p M bg c τ ∧ N ≤ w.heap.size ∧ bg + 1 ≤ 100000) := hid ⟨h, hN, hbg⟩
  obtain ⟨b1, hb1⟩ : ∃ x, x = sho tn.s := ⟨_, rfl⟩
  have HB1 : Hid (b1 = sho tn.s) := hb1
  rw [← hb1] at HS
  obtain ⟨ps, hps⟩ : ∃ x, x = c.ps := ⟨_, rfl⟩
  obtain ⟨mo, hmo⟩ : ∃ x, x = c.mo := ⟨_, rfl⟩
  have HCE : Hid (ps = c.ps ∧ mo = c.mo) := hid ⟨hps, hmo⟩
  obtain ⟨bn, hbn⟩ : ∃ x, x = bg + 1 := ⟨_, rfl⟩
  have HBN : Hid (bn = bg + 1) := hbn
  clear h hN hbg hb1
  cases b1 with
  | false =>
    clear hps hmo hbn
    go_enter Tryz.func15, Tryz.ntmps15
    go_wp2_with fail
    refine HS.mono ?_
    rintro e w1 ⟨rfl, hk1⟩
    have HK1 : Hid (Same w w1) := hk1
    clear hk1
    go_wp2_with fail
    go_ret2
    exact .inl ⟨HB1.out.symm, rfl, HK1.out⟩
  | true =>
    by_cases hl : 256 ≤ c.L.length
    · have HLL : Hid (256 ≤ c.L.length) := hl
      have b2 : decide ((256 : Int) ≤ ((c.L.length : Nat) : Int)) = true := decide_eq_true (by omega)
      obtain ⟨Ln, hLn⟩ : ∃ x, x = c.L.length := ⟨_, rfl⟩
      rw [← hLn] at b2
      have b3 : (256 : Int) ≤ (Ln : Int) := by omega
      clear hbn
      go_enter Tryz.func15, Tryz.ntmps15
      go_wp2_with fail
      refine HS.mono ?_
      rintro e w1 ⟨rfl, hk1⟩
      have HK1 : Hid (Same w w1) := hk1
      have hln := (HT.out.1.same hk1).om.len 88 110 Tryz.underlying88
      have p2 : w1.cell? ⟨p, 2, none⟩ = some (.map (some c.mo)) := (HT.out.1.same hk1).blk.cell 2
      rw [← hmo] at p2 hln
      rw [← hLn] at hln
      clear hk1 hl hLn hps hmo
      go_wp2_with fail
      go_ret2
      exact .inr (.inl ⟨HB1.out.symm, HLL.out, rfl, HK1.out⟩)
    · have HLL : Hid (c.L.length < 256) := hid (by omega)
      have b2 : decide ((256 : Int) ≤ ((c.L.length : Nat) : Int)) = false := decide_eq_false (by omega)
      obtain ⟨Ln, hLn⟩ : ∃ x, x = c.L.length := ⟨_, rfl⟩
      rw [← hLn] at b2
      have b3 : (Ln : Int) < (256 : Int) := by omega
      have hbw : IntKind.i64.wrap (bg + 1) = bn := by have h1 := HT.out.1.num; have h2 := HT.out.2.2; rw [IntKind.wrap_i64, HBN.out]; omega
      go_enter Tryz.func15, Tryz.ntmps15
      go_wp2_with fail
      refine HS.mono ?_
      rintro e w1 ⟨rfl, hk1⟩
      have HK1 : Hid (Same w w1) := hk1
      have hT1 := HT.out.1.same hk1
      have hln := hT1.om.len 88 110 Tryz.underlying88
      have p1 : w1.cell? ⟨p, 1, none⟩ = some (.int .i64 bg) := hT1.blk.cell 1
      have p2 : w1.cell? ⟨p, 2, none⟩ = some (.map (some c.mo)) := hT1.blk.cell 2
      have z1 := hT1.blk.frozen 1
      obtain ⟨wB, hwB⟩ : ∃ W, W = w1.setCell ⟨p, 1, none⟩ (.int .i64 bn) := ⟨_, rfl⟩
      have hkB : Kept (· = p) w1 wB := by rw [hwB]; exact (Kept.refl (· = p) w1).setCell _ _ (.inl rfl)
      have hbB : Blk wB p #[.pointer (some ⟨c.ps, 0, none⟩), .int .i64 bn, .map (some c.mo), c.cv] 91 := by
        rw [hwB]
        have h9 := hT1.blk.set 1 (.int .i64 bn)
        simpa using h9
      have HTB : Hid (Tk K N wB p M bn c τ ∧ Kept (· = p) w wB) := hid ⟨hT1.setBg hbB hkB (by have := HBN.out; omega) (by have := HBN.out; have := HT.out.2.2; omega), Kept.trans hk1 hkB (fun _ _ f => f.elim) (fun _ _ e => e)⟩
      rw [← hmo] at p2 hln
      rw [← hLn] at hln
      clear hk1 hl hLn hT1 hkB hbB hps hmo hbn
      go_upto_region 8 with fail
      rw [← hwB]
      clear hwB p1 p2 z1 hln hbw b2 b3
      obtain ⟨t, ht⟩ : ∃ x, x = M.now - 1 := ⟨_, rfl⟩
      have HTN : Hid (t = M.now - 1) := ht
      have q0 : wB.cell? ⟨p, 0, none⟩ = some (.pointer (some ⟨ps, 0, none⟩)) := by rw [HCE.out.1]; exact HTB.out.1.blk.cell 0
      have q1 : wB.cell? ⟨p, 1, none⟩ = some (.int .i64 bn) := HTB.out.1.blk.cell 1
      have q2 : wB.cell? ⟨p, 2, none⟩ = some (.map (some mo)) := by rw [HCE.out.2]; exact HTB.out.1.blk.cell 2
      have HNW : Hid (∀ w', Same wB w' → Calls Tryz.prog 16 #[.pointer (some ⟨p, 0, none⟩)] w' fun e w2 => e = .returned (.int .i64 t) ∧ Same w' w2) := hid (fun w' hk => (tnow_any (HTB.out.1.same hk)).mono (fun e w2 h9 => ⟨by rw [ht]; exact h9.1, by rw [h9.2]; exact Kept.refl _ _⟩))
      have hwf : (Lit.int .i64 bn).wf = true := by have h1 := HT.out.1.num; have h2 := HT.out.2.2; have h3 := HBN.out; simp [Lit.wf, IntKind.min, IntKind.max, IntKind.signed, IntKind.bits]; omega
      obtain ⟨nb, hnb⟩ : ∃ nb : Nb, nb = ⟨bn, hwf⟩ := ⟨_, rfl⟩
      have HNV : Hid (nb.v = bn) := hid (by rw [hnb])
      have HNE : Hid (∀ w', Same wB w' → Calls Tryz.prog 58 #[.int .i64 t] w' fun e w2 => ∃ st J, e = .returned (.pointer (some ⟨st, 0, none⟩)) ∧ Same w' w2 ∧ ∃ w9, (Instr.mapUpdate 88 (.map (some mo)) (.int .i64 bn) (.pointer (some ⟨w2.heap.size, 0, none⟩))).run Tryz.prog (w2.alloc (.cells #[.string tn.s, .pointer (some ⟨ps, 0, none⟩), .pointer (some ⟨st, 0, none⟩)] 114)) = .ok () w9 ∧ (w9.cell? ⟨p, 0, none⟩ = some (.pointer (some ⟨ps, 0, none⟩)) ∧ w9.cell? ⟨p, 1, none⟩ = some (.int .i64 bn) ∧ w9.cell? ⟨p, 2, none⟩ = some (.map (some mo))) ∧ ∃ τ', Tk K N w9 p M (bg + 1) (c.add nb w2.heap.size tn st J (mv0 (M.now - 1))) τ' ∧ (∀ k, k < w.heap.size → τ' k = τ k) ∧ w.heap.size ≤ w2.heap.size ∧ Kept (fun k => τ k ≠ 0) w w9) := hid (fun w' hk => (xvnew w' t).mono (fun e w2 h9 => by
        obtain ⟨st, J, h1, h2, h3, h4⟩ := h9
        rw [hnb]
        refine ⟨st, J, h1, h4, ?_⟩
        obtain ⟨wX, hwX⟩ : ∃ W, W = w2.alloc (.cells #[.string tn.s, .pointer (some ⟨ps, 0, none⟩), .pointer (some ⟨st, 0, none⟩)] 114) := ⟨_, rfl⟩
        have hkX : Same w2 wX := by rw [hwX]; exact (Kept.refl _ _).alloc _
        have hbX : Blk wX w2.heap.size #[.string tn.s, .pointer (some ⟨ps, 0, none⟩), .pointer (some ⟨st, 0, none⟩)] 114 := by rw [hwX]; exact Blk.new w2 _ _
        have hkBX : Same wB wX := (hk.trans h4).trans hkX
        have hTX := HTB.out.1.same hkBX
        rw [← hwX]
        obtain ⟨w9, hup, hm9, hk9⟩ := hTX.om.put klI rdP intKey14 88 110 Tryz.underlying88 ⟨bn, hwf⟩ (.int .i64 bn) (keyI ⟨bn, hwf⟩) (by have := hTX.lens.1; omega) w2.heap.size
        have hpm : ¬ p = c.mo := fun e => by have h5 := hTX.r1; rw [e, hTX.r2] at h5; cases h5
        have hqm : ¬ w2.heap.size = c.mo := fun e => by have h5 := hTX.om.lt; have h6 := HTB.out.1.om.lt; have h7 := (hk.trans h4).size; omega
        have hb9 := hTX.blk.kept hk9 hpm
        have hs9 : w.heap.size ≤ w2.heap.size := Nat.le_trans HTB.out.2.size (hk.trans h4).size
        have hJ9 : ∀ k, J k → w.heap.size ≤ k := fun k e => Nat.le_trans (Nat.le_trans HTB.out.2.size hk.size) (h3 k e)
        have hkw : Kept (fun k => k = p ∨ k = c.mo) w w9 := Kept.trans (Kept.trans HTB.out.2 hkBX (fun _ _ e => .inl e) (fun _ _ f => f.elim)) hk9 (fun _ _ e => e) (fun _ _ e => .inr e)
        have hv9 : Vx K w9 st J (mv0 (M.now - 1)) := by
          have h5 := ((h2.same hkX).kept hk9 (fun k e e2 => by have h6 := h3 k e; have h7 := HTB.out.1.om.lt; have h8 := hk.size; omega)).more (Nat.zero_le _) HT.out.1.big
          rw [HTN.out] at h5
          exact h5
        have hq9 : Blk w9 w2.heap.size #[.string tn.s, .pointer (some ⟨c.ps, 0, none⟩), .pointer (some ⟨st, 0, none⟩)] 114 := by rw [← HCE.out.1]; exact hbX.kept hk9 hqm
        have hb9' : Blk w9 p #[.pointer (some ⟨c.ps, 0, none⟩), .int .i64 (bg + 1), .map (some c.mo), c.cv] 91 := by rw [← HBN.out]; exact hb9
        obtain ⟨τ', g1, g2⟩ := HT.out.1.addT (nb := ⟨bn, hwf⟩) HBN.out hb9' hm9 hq9 hv9 hkw hs9 hJ9 HT.out.2.1 HLL.out HT.out.2.2
        refine ⟨w9, by rw [HCE.out.2]; exact hup, ⟨by rw [HCE.out.1]; exact hb9.cell 0, hb9.cell 1, by rw [HCE.out.2]; exact hb9.cell 2⟩, τ', g1, g2, hs9, hkw.mono (fun k _ e => ?_)⟩
        rcases e with e | e
        · rw [e, HT.out.1.r1]; decide
        · rw [e, HT.out.1.r2]; decide))
      have HKK : Hid (Same wB wB) := hid (Kept.refl _ _)
      clear ht hnb hwf
      go_region_held3 (fun w' => w'.cell? ⟨p, 0, none⟩ = some (.pointer (some ⟨ps, 0, none⟩)) ∧ w'.cell? ⟨p, 1, none⟩ = some (.int .i64 bn) ∧ w'.cell? ⟨p, 2, none⟩ = some (.map (some mo)))
        (first
          | exact hcl
          | (go_split_ands; exact ⟨hkc.cell (by assumption) (fun f => f), hkc.cell (by assumption) (fun f => f), hkc.cell (by assumption) (fun f => f)⟩)
          | exact ⟨(show Same wB _ from HKK.out.alloc _).cell q0 (fun f => f), (show Same wB _ from HKK.out.alloc _).cell q1 (fun f => f), (show Same wB _ from HKK.out.alloc _).cell q2 (fun f => f)⟩
          | go_keep)
        (first
          | (go_at_call 16; refine (HNW.out _ (by first | exact HKK.out | exact HKK.out.drew)).mono ?_; rintro e wk ⟨rfl, hkc⟩; have HKK : Hid (Same wB wk) := hid (by first | exact HKK.out.trans hkc | exact HKK.out.trans (Kept.undrewC hkc)))
          | (go_at_call 58; refine (HNE.out _ (by first | exact HKK.out | exact HKK.out.drew)).mono ?_; rintro e wk ⟨st, J, rfl, hkc, w9, hup, hcl, hT9⟩; have HT9 := hid hT9; clear hT9; have HKK : Hid (Same wB wk) := hid (by first | exact HKK.out.trans hkc | exact HKK.out.trans (Kept.undrewC hkc))))
      obtain ⟨d0, d1, d2⟩ := hcl
      go_wp2_with fail
      go_ret2
      obtain ⟨τ', g1, g2, g3, g4⟩ := HT9.out
      exact .inr (.inr ⟨HB1.out.symm, HLL.out, nb, _, _, _, τ', HNV.out.trans HBN.out, by rw [← HBN.out]; rfl, g1, g2, g3, g4⟩)

end

end Go.Proofs.YtapcjmnibkoegaaGreatDoor
