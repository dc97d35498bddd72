/-
  Of the proof: parts CrN, CrO, CrRun.
-/
import Derived.BigQuiet
import Derived.Test.YthignkloecfcbaaJ27

/-
  Layer 12's law ChainRuns: Put, held against the reference.
-/
namespace Go.Proofs.Ythignkloecfcbaa
open Go.RowKit Go.Maps Go.Sort

theorem Try.infoWr12 : (Try.prog.info? 49).map (fun i => (i.zero, i.size, i.bytes)) = some (some (.agg #[.string ⟨#[]⟩, .string ⟨#[]⟩, .string ⟨#[]⟩, .bool false, .string ⟨#[]⟩]), 5, 72) := by kernel_rfl

theorem SrcC.cells12 {w : World} {I : Nat → Prop} {a : Option Addr} {n c : Nat} {ws : List Wr} (h : SrcC 5 wrE w I (.slice a n c) ws) : (∀ ad, a = some ad → CellsAt w ad (ws.flatMap wrE)) ∧ (a = none → ws = []) ∧ n = ws.length := by
  obtain ⟨ao, cap, e, _, h2⟩ := h
  injection e with e1 e2 e3
  subst e1 e2 e3
  refine ⟨fun ad e => ?_, fun e => ?_, rfl⟩
  · subst e
    intro j u hj
    by_cases hne : ws = []
    · subst hne; simp at hj
    · obtain ⟨b, o, e4, _, h5⟩ := h2 hne
      injection e4 with e4
      subst e4
      have hjl := (List.getElem?_eq_some_iff.1 hj).1
      rw [flat_length wrE_ok] at hjl
      have h6 := flat_get wrE_ok ws (j / 5) (j % 5) (by omega) (by omega)
      have e7 : j / 5 * 5 + j % 5 = j := by omega
      rw [e7] at h6
      rw [h6] at hj
      have h8 := h5 (j / 5) (by omega) (j % 5) (by omega)
      rw [e7, hj] at h8
      rw [addAt]
      exact h8
  · subst e
    by_cases hne : ws = []
    · exact hne
    · obtain ⟨b, o, e4, _⟩ := h2 hne
      cases e4

def sp12 : Wr := ⟨⟨⟨#[]⟩, ⟨#[]⟩, by decide⟩, ⟨⟨#[]⟩, by decide⟩, false, ⟨#[115, 112, 111, 105, 108, 116]⟩, by decide⟩

theorem flat_setW : ∀ (xs : List Wr) (i : Nat) (x : Wr) (_ : i < xs.length), (((((xs.flatMap wrE).set (i * 5) (.string x.b.tn)).set (i * 5 + 1) (.string x.b.ar)).set (i * 5 + 2) (.string x.n.s)).set (i * 5 + 3) (.bool x.there)).set (i * 5 + 4) (.string x.data) = (xs.set i x).flatMap wrE
  | [], i, x, hi => by simp at hi
  | y :: xs, 0, x, _ => by simp [wrE]
  | y :: xs, i + 1, x, hi => by
    have h1 := flat_setW xs i x (by simp at hi; omega)
    rw [List.flatMap_cons, List.set_cons_succ, List.flatMap_cons, ← h1]
    have e : ∀ q, (i + 1) * 5 + q = (i * 5 + q) + 1 + 1 + 1 + 1 + 1 := fun q => by omega
    have e0 : (i + 1) * 5 = (i * 5) + 1 + 1 + 1 + 1 + 1 := by omega
    rw [e 1, e 2, e 3, e 4, e0]
    rfl

def setW (w : World) (g i : Nat) (x : Wr) : World := ((((w.setCell ⟨g, i * 5, none⟩ (.string x.b.tn)).setCell ⟨g, i * 5 + 1, none⟩ (.string x.b.ar)).setCell ⟨g, i * 5 + 2, none⟩ (.string x.n.s)).setCell ⟨g, i * 5 + 3, none⟩ (.bool x.there)).setCell ⟨g, i * 5 + 4, none⟩ (.string x.data)

theorem setW_kept (w : World) (g i : Nat) (x : Wr) : Kept (fun j => j = g) w (setW w g i x) := (((((Kept.refl (fun j => j = g) w).setCell _ _ (.inl rfl)).setCell _ _ (.inl rfl)).setCell _ _ (.inl rfl)).setCell _ _ (.inl rfl)).setCell _ _ (.inl rfl)

theorem RowC.setW {B : Nat} {w : World} {g n cap : Nat} {xs : List Wr} (h : RowC B 49 5 wrE w (.slice (some ⟨g, 0, none⟩) n cap) xs) (i : Nat) (x : Wr) (hi : i < xs.length) :
    RowC B 49 5 wrE (setW w g i x) (.slice (some ⟨g, 0, none⟩) n cap) (xs.set i x) := by
  have hl := h.len
  subst hl
  have h1 := (World.ownsRow.stored h (i * 5) (.string x.b.tn)).1
  have h2 := (World.ownsRow.stored h1 (i * 5 + 1) (.string x.b.ar)).1
  have h3 := (World.ownsRow.stored h2 (i * 5 + 2) (.string x.n.s)).1
  have h4 := (World.ownsRow.stored h3 (i * 5 + 3) (.bool x.there)).1
  have h5 := (World.ownsRow.stored h4 (i * 5 + 4) (.string x.data)).1
  rw [flat_setW xs i x hi] at h5
  unfold RowC
  rw [List.length_set]
  exact h5

/-- Writes of which the first are spoilt. -/
def spI (ws : List Wr) (i : Nat) : List Wr := List.replicate i sp12 ++ ws.drop i
theorem spI_len (ws : List Wr) (i : Nat) (h : i ≤ ws.length) : (spI ws i).length = ws.length := by unfold spI; rw [List.length_append, List.length_replicate, List.length_drop]; omega
theorem spI_at (ws : List Wr) (i : Nat) (h : i < ws.length) : (spI ws i)[i]'(by rw [spI_len ws i (by omega)]; exact h) = ws[i] := by
  unfold spI
  rw [List.getElem_append_right (by simp)]
  simp
theorem spI_set (ws : List Wr) (i : Nat) (h : i < ws.length) : (spI ws i).set i sp12 = spI ws (i + 1) := by
  unfold spI
  rw [List.set_append_right _ _ (by simp), List.length_replicate, Nat.sub_self, List.drop_eq_getElem_cons h, List.set_cons_zero, List.replicate_succ', List.append_assoc]
  rfl

theorem run_append_none12 (w : World) (base : Nat) (t ty e : TypeId) (i : TypeInfo) (size c : Nat) (ht : Try.prog.underlying t = some (.slice e)) (hi : Try.prog.info? e = some i) (v : Value) (n : Nat) (xs : List Value) (hown : w.ownsRow base e size v n xs) : (Builtin.append_ #[t, t] ty #[v, .slice none 0 c]).run Try.prog w = .ok v w := by
  rcases hown.2 with ⟨rfl, rfl⟩ | ⟨g, cap, cur, rfl, _, _, hnc, _⟩
  · simp [Builtin.append_, run_underlying ht, sizeOf, typeInfo, hi, Builtin.lenOf, Builtin.firstCells]
  · simp [Builtin.append_, run_underlying ht, sizeOf, typeInfo, hi, Builtin.lenOf, Builtin.firstCells, hnc, storeCells]

theorem wpList_append_12 {α : Type} {ops : Array Oper} {rest : List Oper} {o : Oper} {a : Act} {Q : Exit → Act → World → Prop} (w : World) (enc : α → List Value) (k : Nat) (ok : EncOk enc k) (hk : k ≤ 100) (B sT eT : Nat) (z : Value) (bytes : Nat)
    (hU : Try.prog.underlying sT = some (.slice eT)) (hI : (Try.prog.info? eT).map (fun i => (i.zero, i.size, i.bytes)) = some (some z, k, bytes)) (hz : z.cells.size = k) (hby : bytes ≤ 1000) (hgd : o.guard = none) (s x : Operand)
    (ho : o.op = .call { callee := .builtin .append, args := #[s, x], argTypes := #[sT, sT] })
    (v : Value) (xs : List α) (hs : a.eval s = v) (hrow : RowC B eT k enc w v xs) (ao : Option Addr) (n c : Nat) (cs : List α) (hx : a.eval x = .slice ao n c) (hn : cs.length = n) (hsrc : ∀ ad, ao = some ad → CellsAt w ad (cs.flatMap enc)) (h0 : ao = none → cs = []) (hlen : xs.length + cs.length ≤ 1000000000) (hB : B ≤ w.heap.size)
    (h : ∀ v' w', RowC B eT k enc w' v' (xs ++ cs) → w.grownBy w' v.ownBlock → wpList Try.prog ops Q rest (a.put o.dst v') w') : wpList Try.prog ops Q (o :: rest) a w := by
  cases ao with
  | some ad => exact wpList_append_c w enc k ok hk B sT eT z bytes hU hI hz hby hgd s x ho v xs hs hrow ad n c cs hx hn (hsrc ad rfl) hlen hB h
  | none =>
    have e0 := h0 rfl
    subst e0
    have hn0 : n = 0 := hn.symm
    subst hn0
    obtain ⟨i0, hi, hz0, hz1, hz2⟩ := info_parts hI
    refine wpList_plain hgd fun K hK => ?_
    have hr := run_append_none12 w B sT o.type eT i0 k c hU hi v xs.length (xs.flatMap enc) hrow
    unfold Oper.wp execOp
    simp only [ho, resolve, invoke, builtin, Sem.run_bind, Sem.run_pure, Result.andThen_ok, List.map_toArray, List.map_cons, List.map_nil, hs, hx, hr]
    exact hK _ _ (h v w (by simpa using hrow) (World.grownBy.refl _ _))

set_option maxRecDepth 100000 in
set_option maxHeartbeats 1000000 in
theorem copied_any (w : World) (t : Int) (a : Option Addr) (n c : Nat) (ws : List Wr) (I : Nat → Prop) (hs : SrcC 5 wrE w I (.slice a n c) ws) (hl : ws.length ≤ 100000) : Calls Try.prog 25 #[.agg #[.int .i64 t, .slice a n c]] w fun e w' => ∃ v', e = .returned (.agg #[.int .i64 t, v']) ∧ (∃ aa nn cc, v' = .slice aa nn cc) ∧ RowC w.heap.size 49 5 wrE w' v' ws ∧ Same w w' := by
  obtain ⟨wC, hwC⟩ : ∃ W, W = ((w.alloc (.cells #[.int .i64 t, .slice a n c] 34)).alloc (.cells #[.int .i64 0, .slice none 0 0] 34)).alloc (.cells #[.int .i64 t, .slice none 0 0] 34) := ⟨_, rfl⟩
  have hkC : Same w wC := by rw [hwC]; exact (((Kept.refl _ w).alloc _).alloc _).alloc _
  have HS : Hid (SrcC 5 wrE wC I (.slice a n c) ws ∧ Same w wC ∧ ws.length ≤ 100000) := hid ⟨hs.kept wrE_ok hkC (fun _ _ _ f => f), hkC, hl⟩
  have HC : Hid (Blk wC (w.heap.size + 1) #[.int .i64 0, .slice none 0 0] 34 ∧ Blk wC (w.heap.size + 1 + 1) #[.int .i64 t, .slice none 0 0] 34) := hid (by
    rw [hwC]
    refine ⟨(show Blk ((w.alloc (.cells #[.int .i64 t, .slice a n c] 34)).alloc (.cells #[.int .i64 0, .slice none 0 0] 34)) (w.heap.size + 1) _ _ from ?_).kept (F := fun _ => False) ((Kept.refl _ _).alloc _) (fun f => f), ?_⟩
    · have h9 := Blk.new (w.alloc (.cells #[.int .i64 t, .slice a n c] 34)) #[.int .i64 0, .slice none 0 0] 34
      simpa using h9
    · have h9 := Blk.new ((w.alloc (.cells #[.int .i64 t, .slice a n c] 34)).alloc (.cells #[.int .i64 0, .slice none 0 0] 34)) #[.int .i64 t, .slice none 0 0] 34
      simpa using h9)
  clear hs hl hkC
  go_enter Try.func25, Try.ntmps25
  go_wp2_with (at_builtin; rw [← hwC]; refine wpList_append_12 _ wrE 5 wrE_ok (by decide) wC.heap.size 32 49 (.agg #[.string ⟨#[]⟩, .string ⟨#[]⟩, .string ⟨#[]⟩, .bool false, .string ⟨#[]⟩]) 72 Try.underlying32 Try.infoWr12 rfl (by decide) rfl (.tmp 8) (.tmp 10) rfl (.slice none 0 0) [] rfl RowC.nil a n c ws rfl HS.out.1.cells12.2.2.symm HS.out.1.cells12.1 HS.out.1.cells12.2.1 (by have := HS.out.2.2; simp; omega) (Nat.le_refl _) ?_)
  intro v9 w9 hr9 hg9
  rw [← hwC] at hg9
  have hk9 : Same wC w9 := (Kept.refl _ wC).grown hg9 (fun k e => by cases e)
  obtain ⟨a9, c9, hv9, _⟩ := hr9.shape
  subst hv9
  have HF : Hid (RowC w.heap.size 49 5 wrE w9 (.slice a9 ws.length c9) ws ∧ Same w w9) := hid ⟨hr9.base (by omega), HS.out.2.1.trans hk9⟩
  have hb1 := HC.out.1.kept hk9 (fun f => f)
  have hb2 := HC.out.2.kept hk9 (fun f => f)
  have y0 := hb1.cell 0
  have y1 := hb1.cell 1
  have z0 := hb1.frozen 0
  have z1 := hb1.frozen 1
  have x0 := hb2.cell 0
  have x1 := hb2.cell 1
  have u1 := hb2.frozen 1
  simp only [List.getElem?_toArray, List.getElem?_cons_zero, List.getElem?_cons_succ] at y0 y1 x0 x1
  have HB : Hid (Blk w9 (w.heap.size + 1) #[.int .i64 0, .slice none 0 0] 34 ∧ Blk w9 (w.heap.size + 1 + 1) #[.int .i64 t, .slice none 0 0] 34) := hid ⟨hb1, hb2⟩
  clear hk9 hr9 hg9 hb1 hb2 hwC
  go_wp2_with fail
  have hkf : Kept (fun k => k = w.heap.size + 1 ∨ k = w.heap.size + 1 + 1) w9 (((w9.setCell ⟨w.heap.size + 1 + 1, 1, none⟩ (.slice a9 ws.length c9)).setCell ⟨w.heap.size + 1, 0, none⟩ (.int .i64 t)).setCell ⟨w.heap.size + 1, 1, none⟩ (.slice a9 ws.length c9)) := (((Kept.refl _ w9).setCell _ _ (.inl (.inr rfl))).setCell _ _ (.inl (.inl rfl))).setCell _ _ (.inl (.inl rfl))
  refine bodyPost_ret (v := .agg #[.int .i64 t, .slice a9 ws.length c9]) (by rw [results_cellC rfl]; simp [go_sem, y0, y1]) rfl ?_
  refine ⟨_, rfl, ⟨_, _, _, rfl⟩, HF.out.1.kept hkf (fun k e e2 => ?_), Kept.trans HF.out.2 hkf (fun _ _ f => f) (fun k hk e => by omega)⟩
  rcases e2 with e2 | e2
  · exact HF.out.1.off_blk HB.out.1 (by decide) (by rw [← e2]; exact e)
  · exact HF.out.1.off_blk HB.out.2 (by decide) (by rw [← e2]; exact e)

end Go.Proofs.Ythignkloecfcbaa

/-
  Layer 12's law ChainRuns: a commit, put to both.
-/
namespace Go.Proofs.Ythignkloecfcbaa
open Go.RowKit Go.Maps Go.Sort

theorem put12 {K N : Nat} {w : World} {p : Nat} {ρ : Nat → Nat} {M : Mst} {rp : Nat} {L : List Lv} {v : Value} (h : T12 K N w p ρ M rp L v) (t : Int) (ht2 : t ≤ 9223372036854775807) (ws : List Wr) (a : Option Addr) (n c : Nat) (I : Nat → Prop) (hs : SrcC 5 wrE w I (.slice a n c) ws) (hI : ∀ j, I j → ρ j = 0) (hK : K + 3 * ws.length ≤ 100000) : Calls Try.prog 16 #[.pointer (some ⟨p, 0, none⟩), .agg #[.int .i64 t, .slice a n c]] w fun e w2 => ∃ (code : Int) (ρ2 : Nat → Nat) (M2 : Mst), e = .returned (.int .i64 code) ∧ Sto (K + 3 * ws.length) N w2 p M2 ρ2 ∧ ExtC w ρ ρ2 ∧ Kept (fun k => ρ k ≠ 0) w w2 ∧ ((code = 120 ∧ t ≤ M.now ∧ M2 = M) ∨ (code = 0 ∧ M.now < t ∧ M2 = putM M t ws)) := by
  by_cases ht : t ≤ M.now
  · refine (xput_old h.sto t ht a n c).mono ?_
    rintro e w' ⟨rfl, hk⟩
    exact ⟨120, ρ, M, rfl, (h.sto.more (Nat.le_add_right _ _) hK).same hk, ExtC.refl _ _, hk.mono (fun _ _ f => f.elim), .inl ⟨rfl, ht, rfl⟩⟩
  · refine (xput_new h.sto h.hN t (by omega) ht2 ws _ I hs hI hK).mono ?_
    rintro e w' ⟨rfl, ρ', g1, g2, g3⟩
    exact ⟨0, ρ', _, rfl, g1, g2, g3, .inr ⟨rfl, by omega, rfl⟩⟩

theorem put12r {K K' N : Nat} {w w5 : World} {p : Nat} {ρ ρ2 : Nat → Nat} {M M2 : Mst} {rp : Nat} {L : List Lv} {v : Value} (h : T12 K N w p ρ M rp L v) (h5 : Sto K' N w5 p M2 ρ2) (hr : Rc N w5 rp L M.now M.floor v) (hz : ρ2 rp = 0) (hzv : ∀ k, v.ownBlock = some k → ρ2 k = 0) (hN : N ≤ w5.heap.size) (t : Int) (code : Int) (ws : List Wr) (hc : (code = 120 ∧ t ≤ M.now ∧ M2 = M) ∨ (code = 0 ∧ M.now < t ∧ M2 = putM M t ws)) (a : Option Addr) (n c : Nat) (hs : SrcC 5 wrE w5 (fun k => k < N) (.slice a n c) ws) (hK : K' = K + 3 * ws.length) (hb : K' ≤ 100000) : Calls Try.prog 26 #[.pointer (some ⟨rp, 0, none⟩), .agg #[.int .i64 t, .slice a n c]] w5 fun e w6 => e = .returned (.int .i64 code) ∧ (∃ ρ' M' L' v', T12 K' N w6 p ρ' M' rp L' v') ∧ Kept (fun k => N ≤ k) w5 w6 := by
  rcases hc with ⟨rfl, ht, rfl⟩ | ⟨rfl, ht, rfl⟩
  · refine (rput_old hr t ht a n c).mono ?_
    rintro e w' ⟨rfl, hk⟩
    exact ⟨rfl, ⟨ρ2, M2, L, v, ⟨h5.same hk, hr.same hk, h.vs, hz, hzv, by have := h.len; omega, Nat.le_trans hN hk.size⟩⟩, hk.mono (fun _ _ f => f.elim)⟩
  · have hu : UpTo (ofK L) t := fun b n => ⟨h.ris b n, fun x hx => by have := ((h.vok b n).low x hx).2; omega⟩
    refine (rput_new hr hN t ht hu ws _ (fun k => k < N) hs (fun j hj => ⟨fun e => by have := hr.np; omega, fun e => by have := hr.row.ge e; omega, by omega⟩) (by have := h.len; omega)).mono ?_
    rintro e w' ⟨rfl, L', v', g1, g2, g3, g4, g5⟩
    refine ⟨rfl, ⟨ρ2, putM M t ws, L', v', ⟨h5.kept g5 (fun k e => ?_), g1, ?_, hz, fun k e => ?_, by have := h.len; omega, Nat.le_trans hN g5.size⟩⟩, g5.mono (fun k _ e => ?_)⟩
    · rcases e with e | e
      · rw [e]; exact hz
      · exact hzv k e
    · show putsF M.V ws t = ofK L'
      rw [g2, h.vs]
    · rcases g4 k e with q | q
      · exact hzv k q
      · exact h5.zero q
    · rcases e with e | e
      · rw [e]; exact hr.np
      · exact hr.row.ge e

section
variable {K N : Nat} {w : World} {p : Nat} {ρ : Nat → Nat} {M : Mst} {rp : Nat} {L : List Lv} {v : Value}

set_option maxRecDepth 100000 in
set_option maxHeartbeats 4000000 in
theorem cstep1 (h : T12 K N w p ρ M rp L v) (o : Oc) (ho : OcOk w (fun k => k < N) o) (hk : o.k = 1) (hK : K + 3 * o.cm.n ≤ 100000) : Calls Try.prog 11 #[.pointer (some ⟨p, 0, none⟩), .pointer (some ⟨rp, 0, none⟩), .agg (ocC o).toArray] w fun e w' => e = .returned (.bool true) ∧ S12 (K + 3 * o.cm.n) N w p rp w' := by
  obtain ⟨k, cm, b, nm, t⟩ := o
  obtain ⟨ct, ca, cn, cc, ws⟩ := cm
  obtain rfl : k = 1 := hk
  show Calls Try.prog 11 #[.pointer (some ⟨p, 0, none⟩), .pointer (some ⟨rp, 0, none⟩), .agg #[.int .i64 1, .int .i64 ct, .slice ca cn cc, .string b.tn, .string b.ar, .string nm.s, .int .i64 t]] w _
  obtain ⟨wA, hwA⟩ : ∃ W, W = w.alloc (.cells #[.int .i64 1, .int .i64 ct, .slice ca cn cc, .string b.tn, .string b.ar, .string nm.s, .int .i64 t] 38) := ⟨_, rfl⟩
  obtain ⟨xb, hxb⟩ : ∃ y, y = w.heap.size := ⟨_, rfl⟩
  have hka : Same w wA := by rw [hwA]; exact (Kept.refl _ w).alloc _
  have HB : Hid (OcBk wA xb ⟨1, ⟨ct, ca, cn, cc, ws⟩, b, nm, t⟩) := hid (by rw [hwA, hxb]; exact Blk.new w _ _)
  have HT : Hid (T12 K N wA p ρ M rp L v) := hid (h.same hka)
  have HO : Hid (OcOk wA (fun k => k < N) ⟨1, ⟨ct, ca, cn, cc, ws⟩, b, nm, t⟩) := hid (ho.kept hka (fun _ _ _ f => f))
  have HK : Hid (Same w wA ∧ xb = w.heap.size) := hid ⟨hka, hxb⟩
  have HW : Hid (∀ w', Same wA w' → Kept (fun k => N ≤ k) w w') := hid (fun w' hk => (hka.trans hk).mono (fun _ _ f => f.elim))
  obtain ⟨c0, c1, c2, c3, c4, c5, c6⟩ := HB.out.cells
  have HZ0 : Hid (ρ xb = 0) := hid (h.sto.zero (by omega))
  clear h hka ho
  rw [hwA, hxb] at c0 c1 c2 c3 c4 c5 c6
  simp only at c0 c1 c2 c3 c4 c5 c6
  have HWN : Hid (ws.length = cn ∧ cn ≤ 100000) := hid ⟨HO.out.cm.len, by have h9 : K + 3 * cn ≤ 100000 := hK; omega⟩
  have HCO : Hid (∀ w', Same wA w' → Calls Try.prog 25 #[.agg #[.int .i64 ct, .slice ca cn cc]] w' fun e w2 => ∃ v', e = .returned (.agg #[.int .i64 ct, v']) ∧ (∃ aa nn cc, v' = .slice aa nn cc) ∧ RowC w'.heap.size 49 5 wrE w2 v' ws ∧ Same w' w2) := hid (fun w' hk => copied_any w' ct ca cn cc ws _ (HO.out.cm.src.kept wrE_ok hk (fun _ _ _ f => f)) (by have := HWN.out; omega))
  have hK9 := hK
  have HK9 : Hid (K + 3 * cn ≤ 100000) := hK9
  clear hK hK9
  go_enter Try.func11, Try.ntmps11
  go_wp2_with fail
  rw [← hwA, ← hxb]
  clear hwA hxb c0 c1 c2 c3 c4 c5 c6
  refine (HCO.out wA (Kept.refl _ _)).mono ?_
  rintro e w1 ⟨v1, rfl, ⟨aa, nn, cq, rfl⟩, hr1, hk1⟩
  obtain ⟨wC, hwC⟩ : ∃ W, W = w1.alloc (.cells #[.int .i64 ct, .slice aa nn cq] 34) := ⟨_, rfl⟩
  obtain ⟨cb, hcb⟩ : ∃ y, y = w1.heap.size := ⟨_, rfl⟩
  have hkC : Same w1 wC := by rw [hwC]; exact (Kept.refl _ _).alloc _
  have HC : Hid (Same wA wC ∧ Blk wC cb #[.int .i64 ct, .slice aa nn cq] 34 ∧ RowC wA.heap.size 49 5 wrE wC (.slice aa nn cq) ws ∧ wA.heap.size ≤ cb ∧ nn = ws.length) := hid ⟨hk1.trans hkC, by rw [hwC, hcb]; exact Blk.new w1 _ _, hr1.kept hkC (fun _ _ f => f), by rw [hcb]; exact hk1.size, by
    obtain ⟨a9, c9, hv9, _⟩ := hr1.shape
    injection hv9⟩
  have HZR : Hid (∀ k, wA.heap.size ≤ k → ρ k = 0) := hid (fun k hk => HT.out.sto.zero hk)
  have HPU := put12 (HT.out.same HC.out.1) ct HO.out.cm.num.2 ws aa nn cq (fun j => (Value.slice aa nn cq).ownBlock = some j) (SrcC.ofRow wrE_ok HC.out.2.2.1) (fun j e => HZR.out j (HC.out.2.2.1.ge e)) (by have := HWN.out.1; have := HK9.out; omega)
  have y0 := HC.out.2.1.cell 0
  have y1 := HC.out.2.1.cell 1
  simp only [List.getElem?_toArray, List.getElem?_cons_zero, List.getElem?_cons_succ] at y0 y1
  rw [hwC, hcb] at y0 y1
  clear hk1 hr1 hkC HCO
  go_wp2_with fail
  rw [← hwC, ← hcb]
  clear hwC hcb y0 y1
  refine HPU.mono ?_
  rintro e w2 ⟨code, ρ2, M2, rfl, hs2, hx2, hk2, hc2⟩
  clear HPU
  have HP2 : Hid (Sto (K + 3 * ws.length) N w2 p M2 ρ2 ∧ ExtC wC ρ ρ2 ∧ Kept (fun k => ρ k ≠ 0) wC w2 ∧ ((code = 120 ∧ ct ≤ M.now ∧ M2 = M) ∨ (code = 0 ∧ M.now < ct ∧ M2 = putM M ct ws))) := hid ⟨hs2, hx2, hk2, hc2⟩
  have HR2 : Hid (RowC wA.heap.size 49 5 wrE w2 (.slice aa nn cq) ws ∧ Blk w2 cb #[.int .i64 ct, .slice aa nn cq] 34 ∧ OcBk w2 xb ⟨1, ⟨ct, ca, cn, cc, ws⟩, b, nm, t⟩ ∧ SrcC 5 wrE w2 (fun k => k < N) (.slice ca cn cc) ws ∧ Rc N w2 rp L M.now M.floor v ∧ N ≤ wA.heap.size ∧ wA.heap.size ≤ w2.heap.size) := hid (by
    have hz9 : ∀ k, wA.heap.size ≤ k → ¬ ρ k ≠ 0 := fun k hk e => e (HZR.out k hk)
    refine ⟨HC.out.2.2.1.kept hk2 (fun k e => hz9 k (HC.out.2.2.1.ge e)), HC.out.2.1.kept hk2 (hz9 cb HC.out.2.2.2.1), Blk.kept (HB.out.kept HC.out.1 (fun f => f)) hk2 (fun e => e HZ0.out), (HO.out.cm.src.kept wrE_ok HC.out.1 (fun _ _ _ f => f)).kept wrE_ok hk2 (fun j hj _ e => by have := HT.out.sto.ge e; omega), ?_, HT.out.hN, Nat.le_trans HC.out.1.size hk2.size⟩
    have h9 := (HT.out.same HC.out.1)
    exact { h9.ref with blk := h9.ref.blk.kept hk2 (fun e => e h9.zp), row := h9.ref.row.kept hk2 (fun k e e2 => e2 (h9.zv k e)) })
  have HN2 : Hid (nn = ws.length ∧ nn = cn ∧ nn ≤ 100000) := hid (by have h1 := HC.out.2.2.2.2; have h2 := HWN.out; omega)
  clear hs2 hx2 hk2 hc2
  go_wp2_with fail
  go_loopg [9] nn (fun q z9 wr => ∃ i : Nat, nn - i ≤ q ∧ i ≤ nn ∧ z9 = .int .i64 (i : Nat) ∧ Hid (RowC wA.heap.size 49 5 wrE wr (.slice aa nn cq) (spI ws i) ∧ Kept (fun k => (Value.slice aa nn cq).ownBlock = some k) w2 wr))
  case atStart => exact ⟨0, by omega, by omega, rfl, hid ⟨by unfold spI; simpa using HR2.out.1, Kept.refl _ _⟩⟩
  case round =>
    obtain ⟨i, hq, hil, rfl, HS⟩ := hrel
    have HSW : Hid (Blk wr cb #[.int .i64 ct, .slice aa nn cq] 34 ∧ OcBk wr xb ⟨1, ⟨ct, ca, cn, cc, ws⟩, b, nm, t⟩ ∧ SrcC 5 wrE wr (fun k => k < N) (.slice ca cn cc) ws) := hid (by
      have hr := HR2.out
      refine ⟨hr.2.1.kept HS.out.2 (hr.1.off_blk hr.2.1 (by decide)), Blk.kept hr.2.2.1 HS.out.2 (hr.1.off_blk hr.2.2.1 (by decide)), hr.2.2.2.1.kept wrE_ok HS.out.2 (fun j hj _ e => by have := hr.1.ge e; have := hr.2.2.2.2.2.1; omega)⟩)
    have y1 : wr.cell? ⟨cb, 1, none⟩ = some (.slice aa nn cq) := HSW.out.1.cell 1
    obtain ⟨c0, c1, c2, c3, c4, c5, c6⟩ := HSW.out.2.1.cells
    simp only at c0 c1 c2 c3 c4 c5 c6
    by_cases hlt : i < nn
    · have hli : decide (i < nn) = true := decide_eq_true hlt
      have hli2 : (i : Int) < (nn : Int) := by omega
      have hli3 : (i : Int) < (cn : Int) := by have := HN2.out; omega
      have hlt2 : i < ws.length := by have := HN2.out; omega
      obtain ⟨g, hg⟩ : ∃ g, aa = some ⟨g, 0, none⟩ := by
        obtain ⟨a9, c9, hv9, hg9, _⟩ := HR2.out.1.shape
        injection hv9 with e9 _ _
        obtain ⟨g, e8⟩ := hg9 (fun e => by rw [e] at hlt2; simp at hlt2)
        exact ⟨g, by rw [e9, e8]⟩
      subst hg
      obtain ⟨x, hx⟩ : ∃ x, x = ws[i] := ⟨_, rfl⟩
      have hcw : ∀ q u, q < 5 → (wrE x)[q]? = some u → wr.cell? ⟨g, i * 5 + q, none⟩ = some u := fun q u hq e => by rw [RowC.cell wrE_ok HS.out.1 i q (by rw [spI_len ws i (by omega)]; exact hlt2) hq, spI_at ws i hlt2, ← hx, e]
      have k0 := hcw 0 (.string x.b.tn) (by decide) rfl
      have k1 := hcw 1 (.string x.b.ar) (by decide) rfl
      have k2 := hcw 2 (.string x.n.s) (by decide) rfl
      have k3 := hcw 3 (.bool x.there) (by decide) rfl
      have k4 := hcw 4 (.string x.data) (by decide) rfl
      rw [Nat.add_zero] at k0
      obtain ⟨bb, oo, e1, hcell⟩ : ∃ b o, ca = some ⟨b, o, none⟩ ∧ ∀ m (_ : m < 5), wr.cell? ⟨b, o + (i * 5 + m), none⟩ = (wrE x)[m]? := by
        obtain ⟨ao', cap', e1, _, e2⟩ := HSW.out.2.2
        injection e1 with e3 _ _
        subst e3
        obtain ⟨b, o, e4, _, e5⟩ := e2 (by intro e; rw [e] at hlt2; simp at hlt2)
        exact ⟨b, o, e4, fun m hm => by rw [e5 i hlt2 m hm, hx]⟩
      subst e1
      have f0 := hcell 0 (by decide)
      have f1 := hcell 1 (by decide)
      have f2 := hcell 2 (by decide)
      have f3 := hcell 3 (by decide)
      have f4 := hcell 4 (by decide)
      rw [Nat.add_zero] at f0
      rw [← Nat.add_assoc] at f1 f2 f3 f4
      simp only [wrE, List.getElem?_cons_zero, List.getElem?_cons_succ] at f0 f1 f2 f3 f4
      have q0 : (x.b.tn.toList == x.b.tn.toList) = true := by simp
      have q1 : (x.b.ar.toList == x.b.ar.toList) = true := by simp
      have q2 : (x.n.s.toList == x.n.s.toList) = true := by simp
      have q3 : (x.there == x.there) = true := by simp
      have q4 : (x.data.toList == x.data.toList) = true := by simp
      have hiw : IntKind.i64.wrap ((i : Int) + 1) = ((i + 1 : Nat) : Int) := by have := HN2.out.2.2; rw [IntKind.wrap_i64]; omega
      have z0 := HS.out.1.frozen (i * 5)
      have z1 := HS.out.1.frozen (i * 5 + 1)
      have z2 := HS.out.1.frozen (i * 5 + 2)
      have z3 := HS.out.1.frozen (i * 5 + 3)
      have z4 := HS.out.1.frozen (i * 5 + 4)
      have HN : Hid (RowC wA.heap.size 49 5 wrE (setW wr g i sp12) (.slice (some ⟨g, 0, none⟩) nn cq) (spI ws (i + 1)) ∧ Kept (fun k => (Value.slice (some ⟨g, 0, none⟩) nn cq).ownBlock = some k) w2 (setW wr g i sp12)) := hid (by
        have h9 := HS.out.1.setW i sp12 (by rw [spI_len ws i (by omega)]; exact hlt2)
        rw [spI_set ws i hlt2] at h9
        exact ⟨h9, Kept.trans HS.out.2 (setW_kept _ _ _ _) (fun _ _ e => e) (fun k _ e => by rw [e]; rfl)⟩)
      unfold setW sp12 at HN
      clear hcw hx hcell hlt2
      go_wp2_with fail
      go_quiet (fail)
      all_goals go_wp2_with fail
      all_goals go_roundg (gk - 1)
      all_goals first
        | (case measure => omega)
        | skip
      all_goals exact ⟨i + 1, by omega, by omega, by go_num, hid ⟨HN.out.1.kept (show Same _ _ from (Kept.refl _ _).drewN _) (fun _ _ f => f), HN.out.2.drewN _⟩⟩
    · have hli : decide (i < nn) = false := decide_eq_false hlt
      have HPR : Calls Try.prog 26 #[.pointer (some ⟨rp, 0, none⟩), .agg #[.int .i64 ct, .slice ca cn cc]] wr fun e w6 => e = .returned (.int .i64 code) ∧ (∃ ρ' M' L' v', T12 (K + 3 * ws.length) N w6 p ρ' M' rp L' v') ∧ Kept (fun k => N ≤ k) wr w6 := by
        have hp := HP2.out
        have hr := HR2.out
        have hge : ∀ k, (Value.slice aa nn cq).ownBlock = some k → wA.heap.size ≤ k := fun k e => hr.1.ge e
        have hz : ∀ k, k < wC.heap.size → ρ k = 0 → ρ2 k = 0 := fun k hk e => hp.2.1.zero hk e
        have hrc : Rc N wr rp L M.now M.floor v := { hr.2.2.2.2.1 with blk := hr.2.2.2.2.1.blk.kept HS.out.2 (hr.1.off_blk hr.2.2.2.2.1.blk (by decide)), row := hr.2.2.2.2.1.row.kept HS.out.2 (fun k e e2 => by have h1 := HT.out.ref.row.lt e; have h2 := hge k e2; omega) }
        refine put12r HT.out (hp.1.kept HS.out.2 (fun k e => hz k (HC.out.2.2.1.lt e) (HZR.out k (hge k e)))) hrc (hz rp (HT.out.same HC.out.1).ref.blk.lt HT.out.zp) (fun k e => hz k ((HT.out.same HC.out.1).ref.row.lt e) (HT.out.zv k e)) (Nat.le_trans hr.2.2.2.2.2.1 (Nat.le_trans hr.2.2.2.2.2.2 HS.out.2.size)) ct code ws hp.2.2.2 ca cn cc HSW.out.2.2 rfl (by have := HWN.out.1; have := HK9.out; omega)
      have be : (code == code) = true := beq_self_eq_true _
      have HKF : Hid (Kept (fun k => N ≤ k) w wr) := hid (by
        have h1 := HW.out wC HC.out.1
        have h2 := Kept.trans h1 HP2.out.2.2.1 (fun _ _ e => e) (fun k _ e => HT.out.sto.ge e)
        exact Kept.trans h2 HS.out.2 (fun _ _ e => e) (fun k _ e => by have := HR2.out.1.ge e; have := HR2.out.2.2.2.2.2.1; omega))
      clear hlt hq hil
      go_wp2_with fail
      refine HPR.mono ?_
      rintro e w6 ⟨rfl, hT6, hk6⟩
      have HT6 := hid hT6
      have HK6 : Hid (Kept (fun k => N ≤ k) w w6) := hid (Kept.trans HKF.out hk6 (fun _ _ e => e) (fun _ _ e => e))
      clear hT6 hk6 HPR
      go_wp2_with fail
      go_ret
      obtain ⟨ρ', M', L', v', h9⟩ := HT6.out
      rw [HWN.out.1] at h9
      exact ⟨by first | rfl | simp, ρ', M', L', v', h9, HK6.out⟩

end

end Go.Proofs.Ythignkloecfcbaa

/-
  Layer 12's law ChainRuns: each call answers as a list of versions would have it.
-/
namespace Go.Proofs.Ythignkloecfcbaa
open Go.RowKit Go.Maps Go.Sort

theorem cstep_any {K N : Nat} {w : World} {p : Nat} {ρ : Nat → Nat} {M : Mst} {rp : Nat} {L : List Lv} {v : Value} (h : T12 K N w p ρ M rp L v) (o : Oc) (ho : OcOk w (fun k => k < N) o) (hK : K + 3 * o.cm.n ≤ 100000) : Calls Try.prog 11 #[.pointer (some ⟨p, 0, none⟩), .pointer (some ⟨rp, 0, none⟩), .agg (ocC o).toArray] w fun e w' => e = .returned (.bool true) ∧ S12 (K + 3 * o.cm.n) N w p rp w' := by
  by_cases h1 : o.k = 1
  · exact cstep1 h o ho h1 hK
  by_cases h2 : o.k = 2
  · exact cstep2 h o ho h2 hK
  by_cases h3 : o.k = 3
  · exact cstep3 h o ho h3 hK
  by_cases h4 : o.k = 4
  · exact cstep4 h o ho h4 hK
  by_cases h5 : o.k = 5
  · exact cstep5 h o ho h5 hK
  by_cases h6 : o.k = 6
  · exact cstep6 h o ho h6 hK
  exact cstep7 h o ho ⟨h1, h2, h3, h4, h5, h6⟩ hK

def bx12 : Bx := ⟨⟨#[]⟩, ⟨#[]⟩, by decide⟩
def nm12 : Nm := ⟨⟨#[]⟩, by decide⟩
def oc12 (k t : Int) : Oc := ⟨k, ⟨0, none, 0, 0, []⟩, bx12, nm12, t⟩
theorem oc12_ok (w : World) (I : Nat → Prop) (k t : Int) (hk : -9223372036854775808 ≤ k ∧ k ≤ 9223372036854775807) (ht : -9223372036854775808 ≤ t ∧ t ≤ 9223372036854775807) : OcOk w I (oc12 k t) := ⟨⟨⟨none, 0, rfl, Nat.le_refl _, fun e => absurd rfl e⟩, rfl, ⟨by show (-9223372036854775808 : Int) ≤ 0; decide, by show (0 : Int) ≤ 9223372036854775807; decide⟩, Nat.zero_le _⟩, hk, ht⟩

set_option maxRecDepth 100000 in
set_option maxHeartbeats 4000000 in
theorem chainRuns_all (a : Option Addr) (len cap : Nat) (O : Nat → Oc) (w : World) (ho : Ops12 w (fun k => k < w.heap.size) a len O) (hz : SzOps len O) :
    Calls Try.prog 3 #[.slice a len cap] w fun e w' => e = .returned (.bool true) ∧ Below w.heap.size w w' := by
  suffices H : Calls Try.prog 3 #[.slice a len cap] w fun e w' => e = .returned (.bool true) ∧ Same w w' from H.mono (fun e w' h => ⟨h.1, h.2.bel12⟩)
  have HO : Hid (Ops12 w (fun k => k < w.heap.size) a len O ∧ SzOps len O) := hid ⟨ho, hz⟩
  clear ho hz
  go_enter Try.func3, Try.ntmps3
  go_wp2_with fail
  refine (clarge_any w _ a len cap O HO.out.1 HO.out.2).mono ?_
  rintro e w1 ⟨r, rfl, hr, hk⟩
  have H1 : Hid (Same w w1) := hid hk
  have HR : Hid (r = false → len + sumW O len ≤ 2000) := hid hr
  clear hk hr
  cases r with
  | true =>
    go_wp2_with fail
    refine (cawake_any w1).mono ?_
    rintro e w2 ⟨rfl, hk⟩
    go_wp2_with fail
    go_ret
    exact ⟨rfl, H1.out.trans hk⟩
  | false =>
    have HL : Hid (len + sumW O len ≤ 2000) := hid (HR.out rfl)
    clear HR
    go_wp2_with fail
    refine (xnew w1).mono ?_
    rintro e w2 ⟨p, ρ0, rfl, g1, g2, g3⟩
    obtain ⟨w3, hw3⟩ : ∃ W, W = w2.alloc (.cells #[.slice none 0 0, .int .i64 0, .int .i64 0] 30) := ⟨_, rfl⟩
    obtain ⟨rp, hrp⟩ : ∃ x, x = w2.heap.size := ⟨_, rfl⟩
    have hk3 : Same w2 w3 := by rw [hw3]; exact (Kept.refl _ _).alloc _
    have HT3 : Hid (T12 0 w1.heap.size w3 p ρ0 ⟨0, 0, fun _ _ => []⟩ rp [] (.slice none 0 0) ∧ Same w w3) := hid ⟨⟨g1.same hk3, ⟨by rw [hw3, hrp]; exact Blk.new w2 _ _, RowC.nil, by rw [hrp]; exact g3.size, Nat.zero_le _⟩, by funext b n; rfl, g1.zero (by omega), fun k e => (by cases e), Nat.le_refl _, Nat.le_trans g3.size hk3.size⟩, (H1.out.trans g3).trans hk3⟩
    have HN1 : Hid (w.heap.size ≤ w1.heap.size ∧ w1.heap.size ≤ w3.heap.size) := hid ⟨H1.out.size, Nat.le_trans g3.size hk3.size⟩
    have HLN : Hid (len ≤ 2000) := hid (by have := HL.out; omega)
    have hlen9 : len ≤ 2000 := HLN.out
    clear g1 g2 g3 hk3
    go_wp2_with fail
    rw [← hw3, ← hrp]
    clear hw3 hrp
    go_loopg [5] len (fun q z wr => ∃ j : Nat, len - j ≤ q ∧ j ≤ len ∧ z = .int .i64 (j : Nat) ∧ Hid ((∃ ρ M L v, T12 (3 * sumW O j) w1.heap.size wr p ρ M rp L v) ∧ Same w wr))
    case atStart => exact ⟨0, by omega, by omega, rfl, hid ⟨⟨ρ0, _, _, _, HT3.out.1⟩, HT3.out.2⟩⟩
    case round =>
      obtain ⟨j, hq, hjl, rfl, HI⟩ := hrel
      obtain ⟨⟨ρ, M, L, v, hT⟩, hkw⟩ := HI.out
      by_cases hlt : j < len
      · have hli : decide (j < len) = true := decide_eq_true hlt
        have hli2 : (j : Int) < (len : Int) := by omega
        obtain ⟨hok, b, o, ha, hbI, hbl, hcc⟩ := (HO.out.1.kept hkw (fun _ _ _ f => f)) j hlt
        subst ha
        obtain ⟨y, hy⟩ : ∃ y, y = O j := ⟨_, rfl⟩
        rw [← hy] at hok hcc
        have k0 := hcc 0 (.int .i64 y.k) rfl
        have k1 := hcc 1 (.int .i64 y.cm.t) rfl
        have k2 := hcc 2 (.slice y.cm.a y.cm.n y.cm.c) rfl
        have k3 := hcc 3 (.string y.b.tn) rfl
        have k4 := hcc 4 (.string y.b.ar) rfl
        have k5 := hcc 5 (.string y.nm.s) rfl
        have k6 := hcc 6 (.int .i64 y.t) rfl
        rw [Nat.add_zero] at k0
        have hiw : IntKind.i64.wrap ((j : Int) + 1) = ((j + 1 : Nat) : Int) := by rw [IntKind.wrap_i64]; omega
        have hsum : 3 * sumW O j + 3 * y.cm.n = 3 * sumW O (j + 1) := by rw [sumW_succ, ← hy]; omega
        have hsl : 3 * sumW O (j + 1) ≤ 6000 := by have h1 := sumW_le O (show j + 1 ≤ len by omega); have := HL.out; omega
        have HST := cstep_any hT y ⟨⟨hok.cm.src.mono (fun k hk => by have := HN1.out.1; omega), hok.cm.len, hok.cm.num, hok.cm.big⟩, hok.kn, hok.num⟩ (by omega)
        rw [hsum] at HST
        unfold ocC at HST
        have HKW : Hid (Same w wr) := hkw
        clear hT hkw hok hcc hy HI hbl hbI hsum hsl
        go_wp2_with fail
        refine HST.mono ?_
        rintro e w5 ⟨rfl, ρ5, M5, L5, v5, hT5, hk5⟩
        have HI5 : Hid ((∃ ρ M L v, T12 (3 * sumW O (j + 1)) w1.heap.size w5 p ρ M rp L v) ∧ Same w w5) := hid ⟨⟨ρ5, M5, L5, v5, hT5⟩, Kept.trans HKW.out hk5 (fun _ _ f => f) (fun k hk e => by have := HN1.out.1; omega)⟩
        clear hT5 hk5 HST k0 k1 k2 k3 k4 k5 k6
        go_wp2_with fail
        go_roundg (gk - 1)
        case measure => omega
        case rel => exact ⟨j + 1, by omega, by omega, by go_num, HI5⟩
      · have hli : decide (j < len) = false := decide_eq_false hlt
        have hsl : 3 * sumW O j ≤ 6000 := by have h1 := sumW_le O (show j ≤ len by omega); have := HL.out; omega
        have HT : Hid (T12 (3 * sumW O j) w1.heap.size wr p ρ M rp L v ∧ 3 * sumW O j ≤ 6000) := hid ⟨hT, hsl⟩
        have HKW : Hid (Same w wr) := hkw
        clear hT hkw HI hlt hq hjl hsl
        go_wp2_with fail
        refine (cawake_any wr).mono ?_
        rintro e w4 ⟨rfl, hk4⟩
        have HT4 : Hid (T12 (3 * sumW O j) w1.heap.size w4 p ρ M rp L v ∧ Same w w4) := hid ⟨HT.out.1.same hk4, HKW.out.trans hk4⟩
        have HS1 := cstep_any HT4.out.1 (oc12 0 0) (oc12_ok _ _ 0 0 (by decide) (by decide)) (by have := HT.out.2; show 3 * sumW O j + 3 * 0 ≤ 100000; omega)
        change Calls Try.prog 11 #[.pointer (some ⟨p, 0, none⟩), .pointer (some ⟨rp, 0, none⟩), .agg #[.int .i64 0, .int .i64 0, .slice none 0 0, .string ⟨#[]⟩, .string ⟨#[]⟩, .string ⟨#[]⟩, .int .i64 0]] w4 (fun e w' => e = .returned (.bool true) ∧ S12 (3 * sumW O j + 0) w1.heap.size w4 p rp w') at HS1
        clear hk4
        go_wp2_with fail
        refine HS1.mono ?_
        rintro e w5 ⟨rfl, ρ5, M5, L5, v5, hT5, hk5⟩
        rw [Nat.add_zero] at hT5
        have HT5 : Hid (T12 (3 * sumW O j) w1.heap.size w5 p ρ5 M5 rp L5 v5 ∧ Same w w5) := hid ⟨hT5, Kept.trans HT4.out.2 hk5 (fun _ _ f => f) (fun k hk e => by have := HN1.out.1; omega)⟩
        have p1 : w5.cell? ⟨rp, 1, none⟩ = some (.int .i64 M5.now) := hT5.ref.blk.cell 1
        have hn5 := hT5.sto.nums
        have HS2 := cstep_any hT5 (oc12 6 M5.now) (oc12_ok _ _ 6 _ (by decide) (by omega)) (by have := HT.out.2; show 3 * sumW O j + 3 * 0 ≤ 100000; omega)
        obtain ⟨nw, hnw⟩ : ∃ x, x = M5.now := ⟨_, rfl⟩
        rw [← hnw] at HS2 p1
        change Calls Try.prog 11 #[.pointer (some ⟨p, 0, none⟩), .pointer (some ⟨rp, 0, none⟩), .agg #[.int .i64 6, .int .i64 0, .slice none 0 0, .string ⟨#[]⟩, .string ⟨#[]⟩, .string ⟨#[]⟩, .int .i64 nw]] w5 (fun e w' => e = .returned (.bool true) ∧ S12 (3 * sumW O j + 0) w1.heap.size w5 p rp w') at HS2
        clear hT5 hk5 hn5 hnw HS1
        go_wp2_with fail
        refine HS2.mono ?_
        rintro e w6 ⟨rfl, ρ6, M6, L6, v6, hT6, hk6⟩
        have HK6 : Hid (Same w w6) := hid (Kept.trans HT5.out.2 hk6 (fun _ _ f => f) (fun k hk e => by have := HN1.out.1; omega))
        clear hT6 hk6 HS2 p1
        go_wp2_with fail
        go_ret
        exact ⟨rfl, HK6.out⟩

end Go.Proofs.Ythignkloecfcbaa
