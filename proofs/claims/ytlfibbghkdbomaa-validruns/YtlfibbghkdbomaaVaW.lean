/-
  Layer 13: the reference's Stage.
-/
import Derived.Test.YtlfibbghkdbomaaVaV
namespace Go.Proofs.Ytlfibbghkdbomaa
open Go.RowKit Go.Maps Go.Sort Go.Shelf

/-- A write staged among others. -/
def insS (r : Wr) : List Wr → List Wr
  | [] => [r]
  | y :: l => if befK (keO y) (keO r) then y :: insS r l else if keO y = keO r then r :: l else r :: y :: l

theorem insS_at (r : Wr) : ∀ (l : List Wr) (i : Nat), i ≤ l.length → (∀ j (_ : j < i) (h : j < l.length), befK (keO l[j]) (keO r) = true) → (∀ h : i < l.length, befK (keO l[i]) (keO r) = false) →
    insS r l = l.take i ++ r :: (l.drop (if (l[i]?.map keO) = some (keO r) then i + 1 else i))
  | [], i, hi, _, _ => by
    have : i = 0 := by simpa using hi
    subst this
    simp [insS]
  | y :: l, 0, _, _, h => by
    have h0 := h (by simp)
    simp only [List.getElem_cons_zero] at h0
    rw [insS, if_neg (by rw [h0]; decide)]
    by_cases e : keO y = keO r
    · simp [e]
    · simp [e]
  | y :: l, i + 1, hi, h1, h2 => by
    have h0 := h1 0 (by omega) (by simp)
    simp only [List.getElem_cons_zero] at h0
    rw [insS, if_pos h0, insS_at r l i (by simpa using hi) (fun j hj h => h1 (j + 1) (by omega) (by simpa using h)) (fun h => h2 (by simpa using h))]
    simp only [List.take_succ_cons, List.cons_append, List.getElem?_cons_succ]
    congr 3
    split <;> rfl

theorem insS_len (r : Wr) (l : List Wr) : (insS r l).length ≤ l.length + 1 := by
  induction l with
  | nil => simp [insS]
  | cons y l ih =>
    rw [insS]
    split
    · simp only [List.length_cons]; omega
    · split <;> simp

theorem insS_mem {r : Wr} {l : List Wr} (hs : l.Pairwise ltW) (x : Wr) : x ∈ insS r l ↔ x = r ∨ (x ∈ l ∧ keO x ≠ keO r) := by
  induction l with
  | nil => simp [insS]
  | cons y l ih =>
    rw [List.pairwise_cons] at hs
    rw [insS]
    by_cases h : befK (keO y) (keO r) = true
    · rw [if_pos h, List.mem_cons, ih hs.2, List.mem_cons]
      have hne : keO y ≠ keO r := fun e => by have := (befK_iff _ _).1 h; rw [e] at this; exact ltK_irr _ this
      constructor
      · rintro (e | e | e)
        · subst e; exact .inr ⟨.inl rfl, hne⟩
        · exact .inl e
        · exact .inr ⟨.inr e.1, e.2⟩
      · rintro (e | ⟨e | e, e2⟩)
        · exact .inr (.inl e)
        · exact .inl e
        · exact .inr (.inr ⟨e, e2⟩)
    · rw [if_neg h]
      have hnb : ¬ ltK (keO y) (keO r) := fun e => h ((befK_iff _ _).2 e)
      have hno : ∀ z ∈ l, keO z ≠ keO r := fun z hz e => hnb (by have := hs.1 z hz; unfold ltW at this; rw [e] at this; exact this)
      by_cases e : keO y = keO r
      · rw [if_pos e, List.mem_cons, List.mem_cons]
        constructor
        · rintro (e2 | e2)
          · exact .inl e2
          · exact .inr ⟨.inr e2, hno x e2⟩
        · rintro (e2 | ⟨e2 | e2, e3⟩)
          · exact .inl e2
          · subst e2; exact absurd e e3
          · exact .inr e2
      · rw [if_neg e, List.mem_cons, List.mem_cons]
        constructor
        · rintro (e2 | e2 | e2)
          · exact .inl e2
          · subst e2; exact .inr ⟨.inl rfl, e⟩
          · exact .inr ⟨.inr e2, hno x e2⟩
        · rintro (e2 | ⟨e2 | e2, e3⟩)
          · exact .inl e2
          · exact .inr (.inl e2)
          · exact .inr (.inr e2)

theorem insS_ris {r : Wr} {l : List Wr} (hs : l.Pairwise ltW) : (insS r l).Pairwise ltW := by
  induction l with
  | nil => simp [insS]
  | cons y l ih =>
    have hs' := hs
    rw [List.pairwise_cons] at hs
    rw [insS]
    by_cases h : befK (keO y) (keO r) = true
    · rw [if_pos h, List.pairwise_cons]
      refine ⟨fun z hz => ?_, ih hs.2⟩
      rcases (insS_mem hs.2 z).1 hz with e | e
      · subst e; exact (befK_iff _ _).1 h
      · exact hs.1 z e.1
    · rw [if_neg h]
      have hnb : ¬ ltK (keO y) (keO r) := fun e => h ((befK_iff _ _).2 e)
      by_cases e : keO y = keO r
      · rw [if_pos e, List.pairwise_cons]
        refine ⟨fun z hz => ?_, hs.2⟩
        have := hs.1 z hz
        unfold ltW at this ⊢
        rw [← e]; exact this
      · rw [if_neg e, List.pairwise_cons]
        have hry : ltK (keO r) (keO y) := by
          rcases ltK_tri (keO y) (keO r) with q | q | q
          · exact absurd q hnb
          · exact absurd q e
          · exact q
        refine ⟨fun z hz => ?_, hs'⟩
        rcases List.mem_cons.1 hz with e2 | e2
        · subst e2; exact hry
        · exact ltK_trans hry (hs.1 z e2)

theorem StW.stage {M : Mv} {l : List Wr} (h : StW M l) (r : Wr) : StW (stM M r) (insS r l) := by
  refine ⟨insS_ris h.1, fun x => ?_⟩
  rw [insS_mem h.1, h.2]
  show _ ↔ (if keO r = keO x then some r else M.st (keO x)) = some x
  by_cases e : keO r = keO x
  · rw [if_pos e]
    constructor
    · rintro (e2 | e2)
      · rw [e2]
      · exact absurd e.symm e2.2
    · intro e2; exact .inl (Option.some.inj e2).symm
  · rw [if_neg e]
    constructor
    · rintro (e2 | e2)
      · subst e2; exact absurd rfl e
      · exact e2.1
    · intro e2; exact .inr ⟨e2, fun e3 => e e3.symm⟩

theorem wpList_append_c13 {α : Type} {ops : Array Oper} {rest : List Oper} {o : Oper} {a : Act} {Q : Exit → Act → World → Prop} (w : World) (enc : α → List Value) (k : Nat) (ok : EncOk enc k) (hk : k ≤ 100) (B sT eT : Nat) (z : Value) (bytes : Nat)
    (hU : Try.prog.underlying sT = some (.slice eT)) (hI : (Try.prog.info? eT).map (fun i => (i.zero, i.size, i.bytes)) = some (some z, k, bytes)) (hz : z.cells.size = k) (hby : bytes ≤ 1000) (hgd : o.guard = none) (s x : Operand)
    (ho : o.op = .call { callee := .builtin .append, args := #[s, x], argTypes := #[sT, sT] })
    (v : Value) (xs : List α) (hs : a.eval s = v) (hrow : RowC B eT k enc w v xs) (ao : Option Addr) (n c : Nat) (cs : List α) (hx : a.eval x = .slice ao n c) (hn : cs.length = n) (hsrc : ∀ ad, ao = some ad → CellsAt w ad (cs.flatMap enc)) (h0 : ao = none → cs = [] ∧ c = 0) (hlen : xs.length + cs.length ≤ 1000000000) (hB : B ≤ w.heap.size)
    (h : ∀ v' w', RowC B eT k enc w' v' (xs ++ cs) → w.grownBy w' v.ownBlock → wpList Try.prog ops Q rest (a.put o.dst v') w') : wpList Try.prog ops Q (o :: rest) a w := by
  cases ao with
  | some ad => exact wpList_append_c w enc k ok hk B sT eT z bytes hU hI hz hby hgd s x ho v xs hs hrow ad n c cs hx hn (hsrc ad rfl) hlen hB h
  | none =>
    obtain ⟨e0, hc⟩ := h0 rfl
    subst e0
    have hn0 : n = 0 := hn.symm
    subst hc hn0
    obtain ⟨i0, hi, hz0, hz1, hz2⟩ := info_parts hI
    refine wpList_plain hgd fun K hK => ?_
    have hr := run_append_owned_none (P := Try.prog) w B sT o.type eT i0 k hU hi v xs.length (xs.flatMap enc) hrow
    unfold Oper.wp execOp
    simp only [ho, resolve, invoke, builtin, Sem.run_bind, Sem.run_pure, Result.andThen_ok, List.map_toArray, List.map_cons, List.map_nil, hs, hx, hr]
    exact hK _ _ (h v w (by simpa using hrow) (World.grownBy.refl _ _))

theorem cellsW_take (w : World) (g : Nat) (L : List Wr) (k : Nat) (h : CellsAt w ⟨g, 0, none⟩ (L.flatMap wrE)) : CellsAt w ⟨g, 0, none⟩ ((L.take k).flatMap wrE) := by
  intro j u hu
  refine h j u ?_
  have h8 : L.flatMap wrE = (L.take k).flatMap wrE ++ (L.drop k).flatMap wrE := by rw [← List.flatMap_append, List.take_append_drop]
  rw [h8, List.getElem?_append_left (List.getElem?_eq_some_iff.1 hu).1]
  exact hu

theorem cellsW_drop (w : World) (g : Nat) (L : List Wr) (k : Nat) (hk : k ≤ L.length) (h : CellsAt w ⟨g, 0, none⟩ (L.flatMap wrE)) : CellsAt w ⟨g, k * 5, none⟩ ((L.drop k).flatMap wrE) := by
  intro j u hu
  have h9 := h (k * 5 + j) u (by
    have hl : ((L.take k).flatMap wrE).length = k * 5 := by rw [flat_length wrE_ok, List.length_take, Nat.min_eq_left hk]
    have h8 : L.flatMap wrE = (L.take k).flatMap wrE ++ (L.drop k).flatMap wrE := by rw [← List.flatMap_append, List.take_append_drop]
    rw [h8, List.getElem?_append_right (by omega), hl, Nat.add_sub_cancel_left]
    exact hu)
  rw [addAt, Nat.zero_add] at h9
  rw [addAt]
  exact h9

theorem rowKey_ne {w : World} {N p : Nat} {v : Value} {α : Type} {t k : Nat} {en : α → List Value} {xs : List α} {cs : Array Value} (h : RowC N t k en w v xs) (hb : Blk w p cs 37) (ht : t ≠ 37) : ¬ v.ownBlock = some p := by
  intro e
  rcases h.2 with ⟨rfl, _⟩ | ⟨g, cap, cur, rfl, _, hg, _⟩
  · cases e
  · simp only [Value.ownBlock, Option.some.injEq] at e
    unfold Blk at hb
    rw [e, hb] at hg
    simp only [Option.some.injEq, Obj.cells.injEq] at hg
    exact ht hg.2.1.symm

section
variable {N : Nat} {w : World} {p : Nat} {s : Rs} {v1 v2 v3 : Value}

/-- What Stage leaves. -/
def StgA (N : Nat) (w : World) (p : Nat) (s : Rs) (r : Wr) (v1 v2 : Value) (w' : World) : Prop := ∃ v3', Rv N w' p { s with st := insS r s.st } v1 v2 v3' ∧ Kept (fun k => k = p) w w'

theorem StgA.mk (h : Rv N w p s v1 v2 v3) {r : Wr} {w9 : World} {v9 : Value} (hk : Same w w9) (hN : N ≤ w.heap.size) (hr : RowC w.heap.size 51 5 wrE w9 v9 (insS r s.st)) (hl : s.st.length + 1 ≤ 100000) : StgA N w p s r v1 v2 (w9.setCell ⟨p, 3, none⟩ v9) := by
  have hb := h.blk.kept hk (fun f => f)
  have hkp : Kept (fun k => k = p) w9 (w9.setCell ⟨p, 3, none⟩ v9) := (Kept.refl _ w9).setCell _ _ (.inl rfl)
  refine ⟨v9, { blk := by simpa using hb.set 3 v9, r1 := ((h.r1.kept hk (fun _ _ f => f)).kept hkp (fun j e e2 => ?_)), r2 := ((h.r2.kept hk (fun _ _ f => f)).kept hkp (fun j e e2 => ?_)), r3 := (hr.kept hkp (fun j e e2 => ?_)).base hN, np := h.np, lens := ⟨h.lens.1, h.lens.2.1, ?_⟩ }, Kept.trans hk hkp (fun _ _ f => f.elim) (fun _ _ e => e)⟩
  · subst e2; exact rowKey_ne (h.r1.kept hk (fun _ _ f => f)) hb (by decide) e
  · subst e2; exact rowKey_ne (h.r2.kept hk (fun _ _ f => f)) hb (by decide) e
  · subst e2; exact rowKey_ne hr hb (by decide) e
  · have := insS_len r s.st
    show (insS r s.st).length ≤ 100000
    omega

set_option maxRecDepth 100000 in
set_option maxHeartbeats 2000000 in
theorem rstage_none (h : Rv N w p s v1 v2 (.slice none 0 0)) (hN : N ≤ w.heap.size) (r : Wr) : Calls Try.prog 20 #[.pointer (some ⟨p, 0, none⟩), .agg #[.string r.b.tn, .string r.b.ar, .string r.n.s, .bool r.there, .string r.data]] w fun e w' => e = .returned (.tuple #[]) ∧ StgA N w p s r v1 v2 w' := by
  have hst : s.st = [] := by
    obtain ⟨_, _, hv, _⟩ := h.r3.shape
    simp only [Value.slice.injEq] at hv
    exact List.eq_nil_of_length_eq_zero hv.2.1.symm
  obtain ⟨i, hi0⟩ : ∃ i : Nat, i = 0 := ⟨0, rfl⟩
  obtain ⟨wA, hwA⟩ : ∃ W, W = w.alloc (.cells #[.string r.b.tn, .string r.b.ar, .string r.n.s, .bool r.there, .string r.data] 51) := ⟨_, rfl⟩
  obtain ⟨xb, hxb⟩ : ∃ y, y = w.heap.size := ⟨_, rfl⟩
  have hka : Same w wA := by rw [hwA]; exact (Kept.refl _ w).alloc _
  have B1 : Blk wA xb #[.string r.b.tn, .string r.b.ar, .string r.n.s, .bool r.there, .string r.data] 51 := by rw [hwA, hxb]; exact Blk.new w _ _
  have HX : Hid (wA.cell? ⟨xb, 0, none⟩ = some (.string r.b.tn) ∧ wA.cell? ⟨xb, 1, none⟩ = some (.string r.b.ar) ∧ wA.cell? ⟨xb, 2, none⟩ = some (.string r.n.s) ∧ wA.cell? ⟨xb, 3, none⟩ = some (.bool r.there) ∧ wA.cell? ⟨xb, 4, none⟩ = some (.string r.data)) := hid ⟨B1.cell 0, B1.cell 1, B1.cell 2, B1.cell 3, B1.cell 4⟩
  have HP : Hid (∀ w', Same wA w' → w'.cell? ⟨p, 3, none⟩ = some (.slice none 0 0)) := hid (fun w' hk => (h.same (hka.trans hk)).blk.cell 3)
  have HZ : Hid (∀ w', Same wA w' → w'.frozen? ⟨p, 3, none⟩ = false) := hid (fun w' hk => (h.same (hka.trans hk)).blk.frozen 3)
  have HFin : Hid (∀ w9 v9, Same wA w9 → RowC wA.heap.size 51 5 wrE w9 v9 (insS r s.st) → StgA N w p s r v1 v2 (w9.setCell ⟨p, 3, none⟩ v9)) := hid (fun w9 v9 hk hr => StgA.mk h (hka.trans hk) hN (hr.base hka.size) (by rw [hst]; decide))
  have HCT : Hid ((s.st.take i).length = 0 ∧ i = i) := hid ⟨by rw [hst]; simp, rfl⟩
  have HN : Hid (True) := hid trivial
  have HIN : Hid (insS r s.st = s.st.take i ++ r :: []) := hid (by rw [hst]; simp [insS])
  have HST : Hid (s.st.take i = []) := hid (by rw [hst]; simp)
  clear h hst B1 hka hN hi0
  go_enter Try.func20, Try.ntmps20
  go_wp2_with fail
  rw [← hwA, ← hxb]
  clear hwA hxb
  have p3 := HP.out wA (Kept.refl _ _)
  refine wp_loop_rounds 1 ?_
  rw [rounds_succ]
  go_wp2_with fail
  go_quiet (fail)
  obtain ⟨wD, hwD⟩ : ∃ W, W = wA.drewN nq := ⟨_, rfl⟩
  have HWD : Hid (Same wA wD) := hid (by rw [hwD]; exact (Kept.refl _ _).drewN _)
  rw [← hwD]
  clear hwD p3
  have p3 := HP.out wD HWD.out
  go_wp2_with fail
  go_quiet (fail)
  obtain ⟨wE, hwE⟩ : ∃ W, W = wD.drewN nq := ⟨_, rfl⟩
  have HWE : Hid (Same wA wE) := hid (by rw [hwE]; exact HWD.out.drewN _)
  rw [← hwE]
  clear hwE p3
  have e0 := HWE.out.cell HX.out.1 (fun f => f)
  have e1 := HWE.out.cell HX.out.2.1 (fun f => f)
  have e2 := HWE.out.cell HX.out.2.2.1 (fun f => f)
  have e3 := HWE.out.cell HX.out.2.2.2.1 (fun f => f)
  have e4 := HWE.out.cell HX.out.2.2.2.2 (fun f => f)
  have p3 := HP.out _ HWE.out
  go_wp2_with (at_builtin; refine wpList_append_c13 _ wrE 5 wrE_ok (by decide) wA.heap.size 35 51 (.agg #[.string ⟨#[]⟩, .string ⟨#[]⟩, .string ⟨#[]⟩, .bool false, .string ⟨#[]⟩]) 72 Try.underlying35 Try.infoWr rfl (by decide) rfl (.tmp 49) (.tmp 55) rfl (.slice none 0 0) [] rfl RowC.nil (none) _ _ (s.st.take i) rfl HCT.out.1 (fun ad e => by cases e) (fun _ => ⟨HST.out, rfl⟩) (by have h9 := HCT.out.1; have := HN.out; simp only [List.length_nil]; omega) HWE.out.size ?_)
  intro v6 w6 hr6 hg6
  have H6 : Hid (RowC wA.heap.size 51 5 wrE w6 v6 (s.st.take i) ∧ Same wA w6) := hid ⟨hr6, Kept.grown HWE.out hg6 (fun k e => by cases e)⟩
  obtain ⟨a6, c6, hv6, _⟩ := hr6.shape
  obtain ⟨l6, hl6⟩ : ∃ n, n = (s.st.take i).length := ⟨_, rfl⟩
  rw [← hl6] at hv6
  subst hv6
  clear hr6 hg6 hl6 e0 e1 e2 e3 e4 p3
  have e0 := H6.out.2.cell HX.out.1 (fun f => f)
  have e1 := H6.out.2.cell HX.out.2.1 (fun f => f)
  have e2 := H6.out.2.cell HX.out.2.2.1 (fun f => f)
  have e3 := H6.out.2.cell HX.out.2.2.2.1 (fun f => f)
  have e4 := H6.out.2.cell HX.out.2.2.2.2 (fun f => f)
  go_wp2_with (at_builtin; refine wpList_append_c13 _ wrE 5 wrE_ok (by decide) wA.heap.size 35 51 (.agg #[.string ⟨#[]⟩, .string ⟨#[]⟩, .string ⟨#[]⟩, .bool false, .string ⟨#[]⟩]) 72 Try.underlying35 Try.infoWr rfl (by decide) rfl (.tmp 57) (.tmp 59) rfl (.slice a6 l6 c6) (s.st.take i) rfl (H6.out.1.kept (show Same _ _ from (Kept.refl _ _).alloc _) (fun _ _ f => f)) (some ⟨w6.heap.size, 0, none⟩) 1 1 [r] rfl rfl (fun ad e => by cases e; exact cellsAt_wr w6 r) (fun e => by cases e) (by have h9 := HCT.out.1; have := HN.out; simp only [List.length_singleton]; omega) (by have := H6.out.2.size; simp; omega) ?_)
  intro v7 w7 hr7 hg7
  have H7 : Hid (RowC wA.heap.size 51 5 wrE w7 v7 (s.st.take i ++ [r]) ∧ Same wA w7) := hid ⟨hr7, Kept.grown (Same.trans H6.out.2 ((Kept.refl _ w6).alloc _)) hg7 (fun k e => .inr (RowC.ge H6.out.1 e))⟩
  obtain ⟨a7, c7, hv7, _⟩ := hr7.shape
  obtain ⟨l7, hl7⟩ : ∃ n, n = (s.st.take i ++ [r]).length := ⟨_, rfl⟩
  rw [← hl7] at hv7
  subst hv7
  clear hr7 hg7 hl7 e0 e1 e2 e3 e4
  have p3 := HP.out _ H7.out.2
  have z3 := HZ.out _ H7.out.2
  go_wp2_with (at_builtin; refine wpList_append_c13 _ wrE 5 wrE_ok (by decide) wA.heap.size 35 51 (.agg #[.string ⟨#[]⟩, .string ⟨#[]⟩, .string ⟨#[]⟩, .bool false, .string ⟨#[]⟩]) 72 Try.underlying35 Try.infoWr rfl (by decide) rfl (.tmp 62) (.tmp 63) rfl (.slice a7 l7 c7) (s.st.take i ++ [r]) rfl H7.out.1 (none) _ _ ([]) rfl rfl (fun ad e => by cases e) (fun _ => ⟨rfl, rfl⟩) (by have h9 := HCT.out.1; have := HN.out; simp only [List.length_append, List.length_singleton, List.length_nil]; omega) H7.out.2.size ?_)
  intro v8 w8 hr8 hg8
  have H8 : Hid (RowC wA.heap.size 51 5 wrE w8 v8 (insS r s.st) ∧ Same wA w8) := hid ⟨by have h9 := HIN.out; rw [h9]; simpa using hr8, Kept.grown H7.out.2 hg8 (fun k e => .inr (RowC.ge H7.out.1 e))⟩
  have p3 := HP.out _ H8.out.2
  have z3 := HZ.out _ H8.out.2
  obtain ⟨a8, c8, hv8, _⟩ := hr8.shape
  obtain ⟨l8, hv9⟩ : ∃ n : Nat, v8 = .slice a8 n c8 := ⟨_, hv8⟩
  clear hv8
  subst hv9
  clear hr8 hg8
  go_wp2_with fail
  go_end0
  exact ⟨rfl, HFin.out _ _ H8.out.2 H8.out.1⟩

set_option maxRecDepth 100000 in
set_option maxHeartbeats 4000000 in
theorem rstage_some {g l3 c3 : Nat} (h : Rv N w p s v1 v2 (.slice (some ⟨g, 0, none⟩) l3 c3)) (hN : N ≤ w.heap.size) (hl : s.st.length + 1 ≤ 100000) (r : Wr) : Calls Try.prog 20 #[.pointer (some ⟨p, 0, none⟩), .agg #[.string r.b.tn, .string r.b.ar, .string r.n.s, .bool r.there, .string r.data]] w fun e w' => e = .returned (.tuple #[]) ∧ StgA N w p s r v1 v2 w' := by
  obtain ⟨wA, hwA⟩ : ∃ W, W = w.alloc (.cells #[.string r.b.tn, .string r.b.ar, .string r.n.s, .bool r.there, .string r.data] 51) := ⟨_, rfl⟩
  obtain ⟨xb, hxb⟩ : ∃ y, y = w.heap.size := ⟨_, rfl⟩
  have hka : Same w wA := by rw [hwA]; exact (Kept.refl _ w).alloc _
  have B1 : Blk wA xb #[.string r.b.tn, .string r.b.ar, .string r.n.s, .bool r.there, .string r.data] 51 := by rw [hwA, hxb]; exact Blk.new w _ _
  have HX : Hid (wA.cell? ⟨xb, 0, none⟩ = some (.string r.b.tn) ∧ wA.cell? ⟨xb, 1, none⟩ = some (.string r.b.ar) ∧ wA.cell? ⟨xb, 2, none⟩ = some (.string r.n.s) ∧ wA.cell? ⟨xb, 3, none⟩ = some (.bool r.there) ∧ wA.cell? ⟨xb, 4, none⟩ = some (.string r.data)) := hid ⟨B1.cell 0, B1.cell 1, B1.cell 2, B1.cell 3, B1.cell 4⟩
  have HN : Hid (l3 = s.st.length ∧ l3 ≤ 100000 ∧ l3 ≤ c3) := hid (by
    obtain ⟨ao, c', hv, _, _, hc, _⟩ := h.r3.shape
    simp only [Value.slice.injEq] at hv
    have := h.lens.2.2
    omega)
  have HP : Hid (∀ w', Same wA w' → w'.cell? ⟨p, 3, none⟩ = some (.slice (some ⟨g, 0, none⟩) l3 c3)) := hid (fun w' hk => (h.same (hka.trans hk)).blk.cell 3)
  have HZ : Hid (∀ w', Same wA w' → w'.frozen? ⟨p, 3, none⟩ = false) := hid (fun w' hk => (h.same (hka.trans hk)).blk.frozen 3)
  have HR : Hid (∀ w', Same wA w' → RowC N 51 5 wrE w' (.slice (some ⟨g, 0, none⟩) l3 c3) s.st) := hid (fun w' hk => (h.same (hka.trans hk)).r3)
  have HCA : Hid (∀ w', Same wA w' → CellsAt w' ⟨g, 0, none⟩ (s.st.flatMap wrE)) := hid (fun w' hk => World.ownsRow.cells ((h.same (hka.trans hk)).r3) rfl)
  have HFin : Hid (∀ w9 v9, Same wA w9 → RowC wA.heap.size 51 5 wrE w9 v9 (insS r s.st) → StgA N w p s r v1 v2 (w9.setCell ⟨p, 3, none⟩ v9)) := hid (fun w9 v9 hk hr => StgA.mk h (hka.trans hk) hN (hr.base hka.size) hl)
  have HBF : Hid (∀ w' y, Calls Try.prog 36 #[.agg #[.string y.b.tn, .string y.b.ar, .string y.n.s], .agg #[.string r.b.tn, .string r.b.ar, .string r.n.s]] w' fun e w2 => e = .returned (.bool (befK (keO y) (keO r))) ∧ Same w' w2) := hid (fun w' y => before_any w' (keO y) (keO r))
  clear h B1 hka hN hl
  go_enter Try.func20, Try.ntmps20
  go_wp2_with fail
  rw [← hwA, ← hxb]
  clear hwA hxb
  go_loopg [4] l3 (fun q z wr => ∃ i : Nat, l3 - i ≤ q ∧ i ≤ l3 ∧ z = .int .i64 (i : Nat) ∧ Hid (∀ j (_ : j < i) (hj : j < s.st.length), befK (keO s.st[j]) (keO r) = true) ∧ Hid (Same wA wr))
  case atStart => exact ⟨0, by omega, by omega, rfl, hid (fun j hj _ => by omega), hid (Kept.refl _ _)⟩
  case round =>
    obtain ⟨i, hq, hil, rfl, HF, HS⟩ := hrel
    have p3 := HP.out wr HS.out
    have b0 := HS.out.cell HX.out.1 (fun f => f)
    have b1 := HS.out.cell HX.out.2.1 (fun f => f)
    have b2 := HS.out.cell HX.out.2.2.1 (fun f => f)
    have HCT : Hid ((s.st.take i).length = i ∧ (∀ w', Same wA w' → CellsAt w' ⟨g, 0, none⟩ ((s.st.take i).flatMap wrE)) ∧ (s.st.drop i).length = l3 - i ∧ (∀ w', Same wA w' → CellsAt w' ⟨g, i * 5, none⟩ ((s.st.drop i).flatMap wrE))) := hid ⟨by rw [List.length_take]; have := HN.out; omega, fun w' hk => cellsW_take w' g s.st i (HCA.out w' hk), by rw [List.length_drop]; have := HN.out; omega, fun w' hk => cellsW_drop w' g s.st i (by have := HN.out; omega) (HCA.out w' hk)⟩
    have hiw : IntKind.i64.wrap ((i : Int) + 1) = ((i + 1 : Nat) : Int) := by have := HN.out; rw [IntKind.wrap_i64]; omega
    have f1 : (i : Int) ≤ (c3 : Int) := by have := HN.out; omega
    have f2 : (i : Int) ≤ (l3 : Int) := by omega
    by_cases hlt : i < l3
    · have hli : decide (i < l3) = true := decide_eq_true hlt
      have hli2 : decide ((i : Int) < (l3 : Int)) = true := decide_eq_true (by omega)
      have hli3 : (i : Int) < (l3 : Int) := by omega
      have hlt2 : i < s.st.length := by have := HN.out.1; omega
      obtain ⟨y, hy⟩ : ∃ y, y = s.st[i] := ⟨_, rfl⟩
      have HCY : Hid (∀ w', Same wA w' → w'.cell? ⟨g, i * 5, none⟩ = some (.string y.b.tn) ∧ w'.cell? ⟨g, i * 5 + 1, none⟩ = some (.string y.b.ar) ∧ w'.cell? ⟨g, i * 5 + 2, none⟩ = some (.string y.n.s)) := hid (fun w' hk => by
        have hrow := HR.out w' hk
        have k0 := RowC.cell wrE_ok hrow i 0 hlt2 (by decide)
        have k1 := RowC.cell wrE_ok hrow i 1 hlt2 (by decide)
        have k2 := RowC.cell wrE_ok hrow i 2 hlt2 (by decide)
        rw [← hy] at k0 k1 k2
        exact ⟨k0, k1, k2⟩)
      obtain ⟨k0, k1, k2⟩ := HCY.out wr HS.out
      have HBY : Hid (∀ w', Calls Try.prog 36 #[.agg #[.string y.b.tn, .string y.b.ar, .string y.n.s], .agg #[.string r.b.tn, .string r.b.ar, .string r.n.s]] w' fun e w2 => e = .returned (.bool (befK (keO y) (keO r))) ∧ Same w' w2) := hid (fun w' => HBF.out w' y)
      obtain ⟨bf, hbf⟩ : ∃ b, b = befK (keO y) (keO r) := ⟨_, rfl⟩
      rw [← hbf] at HBY
      have HY : Hid (y = s.st[i] ∧ bf = befK (keO y) (keO r)) := hid ⟨hy, hbf⟩
      clear hy hbf
      cases bf
      case' true =>
        have HE : Hid (∀ j (_ : j < i + 1) (hj : j < s.st.length), befK (keO s.st[j]) (keO r) = true) := hid (fun j hj hj2 => by
          rcases Nat.lt_or_ge j i with h1 | h1
          · exact HF.out j h1 hj2
          · obtain rfl : j = i := by omega
            rw [← HY.out.1]
            exact HY.out.2.symm)
        clear HF
        go_wp2_with fail
        go_region_held3 (fun w' => w'.cell? ⟨p, 3, none⟩ = some (.slice (some ⟨g, 0, none⟩) l3 c3) ∧ w'.cell? ⟨xb, 0, none⟩ = some (.string r.b.tn) ∧ w'.cell? ⟨xb, 1, none⟩ = some (.string r.b.ar) ∧ w'.cell? ⟨xb, 2, none⟩ = some (.string r.n.s) ∧ w'.cell? ⟨g, i * 5, none⟩ = some (.string y.b.tn) ∧ w'.cell? ⟨g, i * 5 + 1, none⟩ = some (.string y.b.ar) ∧ w'.cell? ⟨g, i * 5 + 2, none⟩ = some (.string y.n.s))
          (first
            | (go_split_ands; exact ⟨hkc.cell (by assumption) (fun f => f), hkc.cell (by assumption) (fun f => f), hkc.cell (by assumption) (fun f => f), hkc.cell (by assumption) (fun f => f), hkc.cell (by assumption) (fun f => f), hkc.cell (by assumption) (fun f => f), hkc.cell (by assumption) (fun f => f)⟩)
            | go_keep)
          (first
            | (go_at_call 36; refine (HBY.out _).mono ?_; rintro e wk ⟨rfl, hkc⟩; have HKK : Hid (Same wr wk) := hid (by first | exact Kept.undrewV hkc | exact hkc)))
        have HFS : Hid (Same wA wk) := hid (HS.out.trans HKK.out)
        go_wp2_with fail
        go_roundg (gk - 1)
        case measure => omega
        case rel => exact ⟨i + 1, by omega, by omega, by go_num, HE, HFS⟩
      case' false =>
        have HNB : Hid (insS r s.st = s.st.take i ++ r :: (s.st.drop (if (s.st[i]?.map keO) = some (keO r) then i + 1 else i))) := hid (insS_at r s.st i (by have := HN.out; omega) HF.out (fun h => by rw [← HY.out.1]; exact HY.out.2.symm))
        clear HF
        go_wp2_with fail
        go_region_held3 (fun w' => w'.cell? ⟨p, 3, none⟩ = some (.slice (some ⟨g, 0, none⟩) l3 c3) ∧ w'.cell? ⟨xb, 0, none⟩ = some (.string r.b.tn) ∧ w'.cell? ⟨xb, 1, none⟩ = some (.string r.b.ar) ∧ w'.cell? ⟨xb, 2, none⟩ = some (.string r.n.s) ∧ w'.cell? ⟨g, i * 5, none⟩ = some (.string y.b.tn) ∧ w'.cell? ⟨g, i * 5 + 1, none⟩ = some (.string y.b.ar) ∧ w'.cell? ⟨g, i * 5 + 2, none⟩ = some (.string y.n.s))
          (first
            | (go_split_ands; exact ⟨hkc.cell (by assumption) (fun f => f), hkc.cell (by assumption) (fun f => f), hkc.cell (by assumption) (fun f => f), hkc.cell (by assumption) (fun f => f), hkc.cell (by assumption) (fun f => f), hkc.cell (by assumption) (fun f => f), hkc.cell (by assumption) (fun f => f)⟩)
            | go_keep)
          (first
            | (go_at_call 36; refine (HBY.out _).mono ?_; rintro e wk ⟨rfl, hkc⟩; have HKK : Hid (Same wr wk) := hid (by first | exact Kept.undrewV hkc | exact hkc)))
        have HWD : Hid (Same wA wk) := hid (HS.out.trans HKK.out)
        obtain ⟨wD, hwD⟩ : ∃ W, W = wk := ⟨_, rfl⟩
        rw [← hwD] at HWD ⊢
        clear hwD p3 b0 b1 b2 k0 k1 k2 hkc HKK
        have p3 := HP.out wD HWD.out
        have b0 := HWD.out.cell HX.out.1 (fun f => f)
        have b1 := HWD.out.cell HX.out.2.1 (fun f => f)
        have b2 := HWD.out.cell HX.out.2.2.1 (fun f => f)
        obtain ⟨k0, k1, k2⟩ := HCY.out wD HWD.out
        have u1 : ¬ c3 = i := by have := HN.out; omega
        have u2 : decide (0 < l3 - i) = true := decide_eq_true (by omega)
        have u3 : decide ((0 : Int) < ((l3 - i : Nat) : Int)) = true := decide_eq_true (by omega)
        have u4 : (0 : Int) < ((l3 - i : Nat) : Int) := by omega
        have s1 := streq13 y.b.tn r.b.tn
        have s2 := streq13 y.b.ar r.b.ar
        have s3 := streq13 y.n.s r.n.s
        by_cases hm : y.b.tn = r.b.tn ∧ y.b.ar = r.b.ar ∧ y.n.s = r.n.s
        · obtain ⟨m1, m2, m3⟩ := hm
          have HIN : Hid (insS r s.st = s.st.take i ++ r :: s.st.drop (i + 1)) := hid (by
            have h9 := HNB.out
            rw [List.getElem?_eq_getElem hlt2, ← HY.out.1, Option.map_some, if_pos (by rw [show keO y = keO r from Prod.ext (Bx.ext' m1 m2) (Nm.ext' m3)])] at h9
            exact h9)
          rw [decide_eq_true m1] at s1
          rw [decide_eq_true m2] at s2
          rw [decide_eq_true m3] at s3
          clear m1 m2 m3 HNB
          go_wp2_with fail
          go_quiet (fail)
          obtain ⟨wE, hwE⟩ : ∃ W, W = wD.drewN nq := ⟨_, rfl⟩
          have HWE : Hid (Same wA wE) := hid (by rw [hwE]; exact HWD.out.drewN _)
          rw [← hwE]
          clear hwE p3 b0 b1 b2 k0 k1 k2
          have u5 : (1 : Int) ≤ ((l3 - i : Nat) : Int) := by omega
          have u6 : (1 : Int) ≤ ((c3 - i : Nat) : Int) := by have := HN.out; omega
          have HDR : Hid (∀ w', Same wA w' → CellsAt w' ⟨g, i * 5 + 5, none⟩ ((s.st.drop (i + 1)).flatMap wrE)) := hid (fun w' hk => by
            have h9 := cellsW_drop w' g s.st (i + 1) (by omega) (HCA.out w' hk)
            rw [Nat.succ_mul] at h9
            exact h9)
          have HD0 : Hid (c3 - i = 1 → s.st.drop (i + 1) = []) := hid (fun e => List.drop_eq_nil_of_le (by have := HN.out; omega))
          by_cases hc1 : c3 - i = 1
          · have HD1 : Hid (s.st.drop (i + 1) = []) := hid (HD0.out hc1)
            have e0 := HWE.out.cell HX.out.1 (fun f => f)
            have e1 := HWE.out.cell HX.out.2.1 (fun f => f)
            have e2 := HWE.out.cell HX.out.2.2.1 (fun f => f)
            have e3 := HWE.out.cell HX.out.2.2.2.1 (fun f => f)
            have e4 := HWE.out.cell HX.out.2.2.2.2 (fun f => f)
            have p3 := HP.out _ HWE.out
            go_wp2_with (at_builtin; refine wpList_append_c13 _ wrE 5 wrE_ok (by decide) wA.heap.size 35 51 (.agg #[.string ⟨#[]⟩, .string ⟨#[]⟩, .string ⟨#[]⟩, .bool false, .string ⟨#[]⟩]) 72 Try.underlying35 Try.infoWr rfl (by decide) rfl (.tmp 49) (.tmp 55) rfl (.slice none 0 0) [] rfl RowC.nil (some ⟨g, 0, none⟩) _ _ (s.st.take i) rfl HCT.out.1 (fun ad e => by cases e; exact HCT.out.2.1 _ HWE.out) (fun e => by cases e) (by have h9 := HCT.out.1; have := HN.out; simp only [List.length_nil]; omega) HWE.out.size ?_)
            intro v6 w6 hr6 hg6
            have H6 : Hid (RowC wA.heap.size 51 5 wrE w6 v6 (s.st.take i) ∧ Same wA w6) := hid ⟨hr6, Kept.grown HWE.out hg6 (fun k e => by cases e)⟩
            obtain ⟨a6, c6, hv6, _⟩ := hr6.shape
            obtain ⟨l6, hl6⟩ : ∃ n, n = (s.st.take i).length := ⟨_, rfl⟩
            rw [← hl6] at hv6
            subst hv6
            clear hr6 hg6 hl6 e0 e1 e2 e3 e4 p3
            have e0 := H6.out.2.cell HX.out.1 (fun f => f)
            have e1 := H6.out.2.cell HX.out.2.1 (fun f => f)
            have e2 := H6.out.2.cell HX.out.2.2.1 (fun f => f)
            have e3 := H6.out.2.cell HX.out.2.2.2.1 (fun f => f)
            have e4 := H6.out.2.cell HX.out.2.2.2.2 (fun f => f)
            go_wp2_with (at_builtin; refine wpList_append_c13 _ wrE 5 wrE_ok (by decide) wA.heap.size 35 51 (.agg #[.string ⟨#[]⟩, .string ⟨#[]⟩, .string ⟨#[]⟩, .bool false, .string ⟨#[]⟩]) 72 Try.underlying35 Try.infoWr rfl (by decide) rfl (.tmp 57) (.tmp 59) rfl (.slice a6 l6 c6) (s.st.take i) rfl (H6.out.1.kept (show Same _ _ from (Kept.refl _ _).alloc _) (fun _ _ f => f)) (some ⟨w6.heap.size, 0, none⟩) 1 1 [r] rfl rfl (fun ad e => by cases e; exact cellsAt_wr w6 r) (fun e => by cases e) (by have h9 := HCT.out.1; have := HN.out; simp only [List.length_singleton]; omega) (by have := H6.out.2.size; simp; omega) ?_)
            intro v7 w7 hr7 hg7
            have H7 : Hid (RowC wA.heap.size 51 5 wrE w7 v7 (s.st.take i ++ [r]) ∧ Same wA w7) := hid ⟨hr7, Kept.grown (Same.trans H6.out.2 ((Kept.refl _ w6).alloc _)) hg7 (fun k e => .inr (RowC.ge H6.out.1 e))⟩
            obtain ⟨a7, c7, hv7, _⟩ := hr7.shape
            obtain ⟨l7, hl7⟩ : ∃ n, n = (s.st.take i ++ [r]).length := ⟨_, rfl⟩
            rw [← hl7] at hv7
            subst hv7
            clear hr7 hg7 hl7 e0 e1 e2 e3 e4
            have p3 := HP.out _ H7.out.2
            have z3 := HZ.out _ H7.out.2
            go_wp2_with (at_builtin; refine wpList_append_c13 _ wrE 5 wrE_ok (by decide) wA.heap.size 35 51 (.agg #[.string ⟨#[]⟩, .string ⟨#[]⟩, .string ⟨#[]⟩, .bool false, .string ⟨#[]⟩]) 72 Try.underlying35 Try.infoWr rfl (by decide) rfl (.tmp 62) (.tmp 63) rfl (.slice a7 l7 c7) (s.st.take i ++ [r]) rfl H7.out.1 (some ⟨g, i * 5, none⟩) _ _ (s.st.drop (i + 1)) rfl (by rw [List.length_drop]; have := HN.out; omega) (fun ad e => by rw [HD1.out]; intro j u hu; simp at hu) (fun e => by cases e) (by have h9 := HCT.out.1; have := HN.out; simp only [List.length_append, List.length_singleton, List.length_drop]; omega) H7.out.2.size ?_)
            intro v8 w8 hr8 hg8
            have H8 : Hid (RowC wA.heap.size 51 5 wrE w8 v8 (insS r s.st) ∧ Same wA w8) := hid ⟨by have h9 := HIN.out; rw [h9]; simpa using hr8, Kept.grown H7.out.2 hg8 (fun k e => .inr (RowC.ge H7.out.1 e))⟩
            have p3 := HP.out _ H8.out.2
            have z3 := HZ.out _ H8.out.2
            obtain ⟨a8, c8, hv8, _⟩ := hr8.shape
            obtain ⟨l8, hv9⟩ : ∃ n : Nat, v8 = .slice a8 n c8 := ⟨_, hv8⟩
            clear hv8
            subst hv9
            clear hr8 hg8
            go_wp2_with fail
            go_end0
            exact ⟨rfl, HFin.out _ _ H8.out.2 H8.out.1⟩
          ·
            have e0 := HWE.out.cell HX.out.1 (fun f => f)
            have e1 := HWE.out.cell HX.out.2.1 (fun f => f)
            have e2 := HWE.out.cell HX.out.2.2.1 (fun f => f)
            have e3 := HWE.out.cell HX.out.2.2.2.1 (fun f => f)
            have e4 := HWE.out.cell HX.out.2.2.2.2 (fun f => f)
            have p3 := HP.out _ HWE.out
            go_wp2_with (at_builtin; refine wpList_append_c13 _ wrE 5 wrE_ok (by decide) wA.heap.size 35 51 (.agg #[.string ⟨#[]⟩, .string ⟨#[]⟩, .string ⟨#[]⟩, .bool false, .string ⟨#[]⟩]) 72 Try.underlying35 Try.infoWr rfl (by decide) rfl (.tmp 49) (.tmp 55) rfl (.slice none 0 0) [] rfl RowC.nil (some ⟨g, 0, none⟩) _ _ (s.st.take i) rfl HCT.out.1 (fun ad e => by cases e; exact HCT.out.2.1 _ HWE.out) (fun e => by cases e) (by have h9 := HCT.out.1; have := HN.out; simp only [List.length_nil]; omega) HWE.out.size ?_)
            intro v6 w6 hr6 hg6
            have H6 : Hid (RowC wA.heap.size 51 5 wrE w6 v6 (s.st.take i) ∧ Same wA w6) := hid ⟨hr6, Kept.grown HWE.out hg6 (fun k e => by cases e)⟩
            obtain ⟨a6, c6, hv6, _⟩ := hr6.shape
            obtain ⟨l6, hl6⟩ : ∃ n, n = (s.st.take i).length := ⟨_, rfl⟩
            rw [← hl6] at hv6
            subst hv6
            clear hr6 hg6 hl6 e0 e1 e2 e3 e4 p3
            have e0 := H6.out.2.cell HX.out.1 (fun f => f)
            have e1 := H6.out.2.cell HX.out.2.1 (fun f => f)
            have e2 := H6.out.2.cell HX.out.2.2.1 (fun f => f)
            have e3 := H6.out.2.cell HX.out.2.2.2.1 (fun f => f)
            have e4 := H6.out.2.cell HX.out.2.2.2.2 (fun f => f)
            go_wp2_with (at_builtin; refine wpList_append_c13 _ wrE 5 wrE_ok (by decide) wA.heap.size 35 51 (.agg #[.string ⟨#[]⟩, .string ⟨#[]⟩, .string ⟨#[]⟩, .bool false, .string ⟨#[]⟩]) 72 Try.underlying35 Try.infoWr rfl (by decide) rfl (.tmp 57) (.tmp 59) rfl (.slice a6 l6 c6) (s.st.take i) rfl (H6.out.1.kept (show Same _ _ from (Kept.refl _ _).alloc _) (fun _ _ f => f)) (some ⟨w6.heap.size, 0, none⟩) 1 1 [r] rfl rfl (fun ad e => by cases e; exact cellsAt_wr w6 r) (fun e => by cases e) (by have h9 := HCT.out.1; have := HN.out; simp only [List.length_singleton]; omega) (by have := H6.out.2.size; simp; omega) ?_)
            intro v7 w7 hr7 hg7
            have H7 : Hid (RowC wA.heap.size 51 5 wrE w7 v7 (s.st.take i ++ [r]) ∧ Same wA w7) := hid ⟨hr7, Kept.grown (Same.trans H6.out.2 ((Kept.refl _ w6).alloc _)) hg7 (fun k e => .inr (RowC.ge H6.out.1 e))⟩
            obtain ⟨a7, c7, hv7, _⟩ := hr7.shape
            obtain ⟨l7, hl7⟩ : ∃ n, n = (s.st.take i ++ [r]).length := ⟨_, rfl⟩
            rw [← hl7] at hv7
            subst hv7
            clear hr7 hg7 hl7 e0 e1 e2 e3 e4
            have p3 := HP.out _ H7.out.2
            have z3 := HZ.out _ H7.out.2
            go_wp2_with (at_builtin; refine wpList_append_c13 _ wrE 5 wrE_ok (by decide) wA.heap.size 35 51 (.agg #[.string ⟨#[]⟩, .string ⟨#[]⟩, .string ⟨#[]⟩, .bool false, .string ⟨#[]⟩]) 72 Try.underlying35 Try.infoWr rfl (by decide) rfl (.tmp 62) (.tmp 63) rfl (.slice a7 l7 c7) (s.st.take i ++ [r]) rfl H7.out.1 (some ⟨g, i * 5 + 5, none⟩) _ _ (s.st.drop (i + 1)) rfl (by rw [List.length_drop]; have := HN.out; omega) (fun ad e => by cases e; exact HDR.out _ H7.out.2) (fun e => by cases e) (by have h9 := HCT.out.1; have := HN.out; simp only [List.length_append, List.length_singleton, List.length_drop]; omega) H7.out.2.size ?_)
            intro v8 w8 hr8 hg8
            have H8 : Hid (RowC wA.heap.size 51 5 wrE w8 v8 (insS r s.st) ∧ Same wA w8) := hid ⟨by have h9 := HIN.out; rw [h9]; simpa using hr8, Kept.grown H7.out.2 hg8 (fun k e => .inr (RowC.ge H7.out.1 e))⟩
            have p3 := HP.out _ H8.out.2
            have z3 := HZ.out _ H8.out.2
            obtain ⟨a8, c8, hv8, _⟩ := hr8.shape
            obtain ⟨l8, hv9⟩ : ∃ n : Nat, v8 = .slice a8 n c8 := ⟨_, hv8⟩
            clear hv8
            subst hv9
            clear hr8 hg8
            go_wp2_with fail
            go_end0
            exact ⟨rfl, HFin.out _ _ H8.out.2 H8.out.1⟩
        · have HIN : Hid (insS r s.st = s.st.take i ++ r :: s.st.drop i) := hid (by
            have h9 := HNB.out
            rw [List.getElem?_eq_getElem hlt2, ← HY.out.1, Option.map_some, if_neg (fun e => hm (by have e2 := Option.some.inj e; simp only [keO, Prod.mk.injEq] at e2; rw [e2.1, e2.2]; exact ⟨rfl, rfl, rfl⟩))] at h9
            exact h9)
          obtain ⟨d1, e1⟩ : ∃ q, q = decide (y.b.tn = r.b.tn) := ⟨_, rfl⟩
          obtain ⟨d2, e2⟩ : ∃ q, q = decide (y.b.ar = r.b.ar) := ⟨_, rfl⟩
          obtain ⟨d3, e3⟩ : ∃ q, q = decide (y.n.s = r.n.s) := ⟨_, rfl⟩
          rw [← e1] at s1
          rw [← e2] at s2
          rw [← e3] at s3
          have hd : ¬ (d1 = true ∧ d2 = true ∧ d3 = true) := fun e => hm ⟨of_decide_eq_true (e1.symm.trans e.1), of_decide_eq_true (e2.symm.trans e.2.1), of_decide_eq_true (e3.symm.trans e.2.2)⟩
          have hf := (four13 d1 d2 d3).resolve_right hd
          clear e1 e2 e3 hm hd HNB
          rcases hf with rfl | ⟨rfl, rfl⟩ | ⟨rfl, rfl, rfl⟩
          all_goals
            go_wp2_with fail
            go_quiet (fail)
            obtain ⟨wE, hwE⟩ : ∃ W, W = wD.drewN nq := ⟨_, rfl⟩
            have HWE : Hid (Same wA wE) := hid (by rw [hwE]; exact HWD.out.drewN _)
            rw [← hwE]
            clear hwE p3 b0 b1 b2 k0 k1 k2
            have e0 := HWE.out.cell HX.out.1 (fun f => f)
            have e1 := HWE.out.cell HX.out.2.1 (fun f => f)
            have e2 := HWE.out.cell HX.out.2.2.1 (fun f => f)
            have e3 := HWE.out.cell HX.out.2.2.2.1 (fun f => f)
            have e4 := HWE.out.cell HX.out.2.2.2.2 (fun f => f)
            have p3 := HP.out _ HWE.out
            go_wp2_with (at_builtin; refine wpList_append_c13 _ wrE 5 wrE_ok (by decide) wA.heap.size 35 51 (.agg #[.string ⟨#[]⟩, .string ⟨#[]⟩, .string ⟨#[]⟩, .bool false, .string ⟨#[]⟩]) 72 Try.underlying35 Try.infoWr rfl (by decide) rfl (.tmp 49) (.tmp 55) rfl (.slice none 0 0) [] rfl RowC.nil (some ⟨g, 0, none⟩) _ _ (s.st.take i) rfl HCT.out.1 (fun ad e => by cases e; exact HCT.out.2.1 _ HWE.out) (fun e => by cases e) (by have h9 := HCT.out.1; have := HN.out; simp only [List.length_nil]; omega) HWE.out.size ?_)
            intro v6 w6 hr6 hg6
            have H6 : Hid (RowC wA.heap.size 51 5 wrE w6 v6 (s.st.take i) ∧ Same wA w6) := hid ⟨hr6, Kept.grown HWE.out hg6 (fun k e => by cases e)⟩
            obtain ⟨a6, c6, hv6, _⟩ := hr6.shape
            obtain ⟨l6, hl6⟩ : ∃ n, n = (s.st.take i).length := ⟨_, rfl⟩
            rw [← hl6] at hv6
            subst hv6
            clear hr6 hg6 hl6 e0 e1 e2 e3 e4 p3
            have e0 := H6.out.2.cell HX.out.1 (fun f => f)
            have e1 := H6.out.2.cell HX.out.2.1 (fun f => f)
            have e2 := H6.out.2.cell HX.out.2.2.1 (fun f => f)
            have e3 := H6.out.2.cell HX.out.2.2.2.1 (fun f => f)
            have e4 := H6.out.2.cell HX.out.2.2.2.2 (fun f => f)
            go_wp2_with (at_builtin; refine wpList_append_c13 _ wrE 5 wrE_ok (by decide) wA.heap.size 35 51 (.agg #[.string ⟨#[]⟩, .string ⟨#[]⟩, .string ⟨#[]⟩, .bool false, .string ⟨#[]⟩]) 72 Try.underlying35 Try.infoWr rfl (by decide) rfl (.tmp 57) (.tmp 59) rfl (.slice a6 l6 c6) (s.st.take i) rfl (H6.out.1.kept (show Same _ _ from (Kept.refl _ _).alloc _) (fun _ _ f => f)) (some ⟨w6.heap.size, 0, none⟩) 1 1 [r] rfl rfl (fun ad e => by cases e; exact cellsAt_wr w6 r) (fun e => by cases e) (by have h9 := HCT.out.1; have := HN.out; simp only [List.length_singleton]; omega) (by have := H6.out.2.size; simp; omega) ?_)
            intro v7 w7 hr7 hg7
            have H7 : Hid (RowC wA.heap.size 51 5 wrE w7 v7 (s.st.take i ++ [r]) ∧ Same wA w7) := hid ⟨hr7, Kept.grown (Same.trans H6.out.2 ((Kept.refl _ w6).alloc _)) hg7 (fun k e => .inr (RowC.ge H6.out.1 e))⟩
            obtain ⟨a7, c7, hv7, _⟩ := hr7.shape
            obtain ⟨l7, hl7⟩ : ∃ n, n = (s.st.take i ++ [r]).length := ⟨_, rfl⟩
            rw [← hl7] at hv7
            subst hv7
            clear hr7 hg7 hl7 e0 e1 e2 e3 e4
            have p3 := HP.out _ H7.out.2
            have z3 := HZ.out _ H7.out.2
            go_wp2_with (at_builtin; refine wpList_append_c13 _ wrE 5 wrE_ok (by decide) wA.heap.size 35 51 (.agg #[.string ⟨#[]⟩, .string ⟨#[]⟩, .string ⟨#[]⟩, .bool false, .string ⟨#[]⟩]) 72 Try.underlying35 Try.infoWr rfl (by decide) rfl (.tmp 62) (.tmp 63) rfl (.slice a7 l7 c7) (s.st.take i ++ [r]) rfl H7.out.1 (some ⟨g, i * 5, none⟩) _ _ (s.st.drop i) rfl HCT.out.2.2.1 (fun ad e => by cases e; exact HCT.out.2.2.2 _ H7.out.2) (fun e => by cases e) (by have h9 := HCT.out.1; have := HN.out; simp only [List.length_append, List.length_singleton, List.length_drop]; omega) H7.out.2.size ?_)
            intro v8 w8 hr8 hg8
            have H8 : Hid (RowC wA.heap.size 51 5 wrE w8 v8 (insS r s.st) ∧ Same wA w8) := hid ⟨by have h9 := HIN.out; rw [h9]; simpa using hr8, Kept.grown H7.out.2 hg8 (fun k e => .inr (RowC.ge H7.out.1 e))⟩
            have p3 := HP.out _ H8.out.2
            have z3 := HZ.out _ H8.out.2
            obtain ⟨a8, c8, hv8, _⟩ := hr8.shape
            obtain ⟨l8, hv9⟩ : ∃ n : Nat, v8 = .slice a8 n c8 := ⟨_, hv8⟩
            clear hv8
            subst hv9
            clear hr8 hg8
            go_wp2_with fail
            go_end0
            exact ⟨rfl, HFin.out _ _ H8.out.2 H8.out.1⟩
    · have hli : decide (i < l3) = false := decide_eq_false hlt
      have hli2 : decide ((i : Int) < (l3 : Int)) = false := decide_eq_false (by omega)
      have HD1 : Hid (s.st.drop i = []) := hid (List.drop_eq_nil_of_le (by have := HN.out; omega))
      have HIN : Hid (insS r s.st = s.st.take i ++ r :: s.st.drop i) := hid (by
        have h9 := insS_at r s.st i (by have := HN.out; omega) HF.out (fun h => by have := HN.out; omega)
        rw [List.getElem?_eq_none (by have := HN.out; omega)] at h9
        simpa using h9)
      have u2 : decide (0 < l3 - i) = false := decide_eq_false (by omega)
      have u3 : decide ((0 : Int) < ((l3 - i : Nat) : Int)) = false := decide_eq_false (by omega)
      clear HF
      go_wp2_with fail
      go_quiet (fail)
      obtain ⟨wD, hwD⟩ : ∃ W, W = wr.drewN nq := ⟨_, rfl⟩
      have HWD : Hid (Same wA wD) := hid (by rw [hwD]; exact HS.out.drewN _)
      rw [← hwD]
      clear hwD p3 b0 b1 b2
      have p3 := HP.out wD HWD.out
      have HL0 : Hid (l3 - i = 0) := hid (by omega)
      by_cases hci : c3 = i
      · go_wp2_with fail
        go_quiet (fail)
        obtain ⟨wE, hwE⟩ : ∃ W, W = wD.drewN nq := ⟨_, rfl⟩
        have HWE : Hid (Same wA wE) := hid (by rw [hwE]; exact HWD.out.drewN _)
        rw [← hwE]
        clear hwE p3
        have e0 := HWE.out.cell HX.out.1 (fun f => f)
        have e1 := HWE.out.cell HX.out.2.1 (fun f => f)
        have e2 := HWE.out.cell HX.out.2.2.1 (fun f => f)
        have e3 := HWE.out.cell HX.out.2.2.2.1 (fun f => f)
        have e4 := HWE.out.cell HX.out.2.2.2.2 (fun f => f)
        have p3 := HP.out _ HWE.out
        go_wp2_with (at_builtin; refine wpList_append_c13 _ wrE 5 wrE_ok (by decide) wA.heap.size 35 51 (.agg #[.string ⟨#[]⟩, .string ⟨#[]⟩, .string ⟨#[]⟩, .bool false, .string ⟨#[]⟩]) 72 Try.underlying35 Try.infoWr rfl (by decide) rfl (.tmp 49) (.tmp 55) rfl (.slice none 0 0) [] rfl RowC.nil (some ⟨g, 0, none⟩) _ _ (s.st.take i) rfl HCT.out.1 (fun ad e => by cases e; exact HCT.out.2.1 _ HWE.out) (fun e => by cases e) (by have h9 := HCT.out.1; have := HN.out; simp only [List.length_nil]; omega) HWE.out.size ?_)
        intro v6 w6 hr6 hg6
        have H6 : Hid (RowC wA.heap.size 51 5 wrE w6 v6 (s.st.take i) ∧ Same wA w6) := hid ⟨hr6, Kept.grown HWE.out hg6 (fun k e => by cases e)⟩
        obtain ⟨a6, c6, hv6, _⟩ := hr6.shape
        obtain ⟨l6, hl6⟩ : ∃ n, n = (s.st.take i).length := ⟨_, rfl⟩
        rw [← hl6] at hv6
        subst hv6
        clear hr6 hg6 hl6 e0 e1 e2 e3 e4 p3
        have e0 := H6.out.2.cell HX.out.1 (fun f => f)
        have e1 := H6.out.2.cell HX.out.2.1 (fun f => f)
        have e2 := H6.out.2.cell HX.out.2.2.1 (fun f => f)
        have e3 := H6.out.2.cell HX.out.2.2.2.1 (fun f => f)
        have e4 := H6.out.2.cell HX.out.2.2.2.2 (fun f => f)
        go_wp2_with (at_builtin; refine wpList_append_c13 _ wrE 5 wrE_ok (by decide) wA.heap.size 35 51 (.agg #[.string ⟨#[]⟩, .string ⟨#[]⟩, .string ⟨#[]⟩, .bool false, .string ⟨#[]⟩]) 72 Try.underlying35 Try.infoWr rfl (by decide) rfl (.tmp 57) (.tmp 59) rfl (.slice a6 l6 c6) (s.st.take i) rfl (H6.out.1.kept (show Same _ _ from (Kept.refl _ _).alloc _) (fun _ _ f => f)) (some ⟨w6.heap.size, 0, none⟩) 1 1 [r] rfl rfl (fun ad e => by cases e; exact cellsAt_wr w6 r) (fun e => by cases e) (by have h9 := HCT.out.1; have := HN.out; simp only [List.length_singleton]; omega) (by have := H6.out.2.size; simp; omega) ?_)
        intro v7 w7 hr7 hg7
        have H7 : Hid (RowC wA.heap.size 51 5 wrE w7 v7 (s.st.take i ++ [r]) ∧ Same wA w7) := hid ⟨hr7, Kept.grown (Same.trans H6.out.2 ((Kept.refl _ w6).alloc _)) hg7 (fun k e => .inr (RowC.ge H6.out.1 e))⟩
        obtain ⟨a7, c7, hv7, _⟩ := hr7.shape
        obtain ⟨l7, hl7⟩ : ∃ n, n = (s.st.take i ++ [r]).length := ⟨_, rfl⟩
        rw [← hl7] at hv7
        subst hv7
        clear hr7 hg7 hl7 e0 e1 e2 e3 e4
        have p3 := HP.out _ H7.out.2
        have z3 := HZ.out _ H7.out.2
        go_wp2_with (at_builtin; refine wpList_append_c13 _ wrE 5 wrE_ok (by decide) wA.heap.size 35 51 (.agg #[.string ⟨#[]⟩, .string ⟨#[]⟩, .string ⟨#[]⟩, .bool false, .string ⟨#[]⟩]) 72 Try.underlying35 Try.infoWr rfl (by decide) rfl (.tmp 62) (.tmp 63) rfl (.slice a7 l7 c7) (s.st.take i ++ [r]) rfl H7.out.1 (some ⟨g, 0, none⟩) _ _ (s.st.drop i) rfl (by rw [List.length_drop]; have := HN.out; omega) (fun ad e => by rw [HD1.out]; intro j u hu; simp at hu) (fun e => by cases e) (by have h9 := HCT.out.1; have := HN.out; simp only [List.length_append, List.length_singleton, List.length_drop]; omega) H7.out.2.size ?_)
        intro v8 w8 hr8 hg8
        have H8 : Hid (RowC wA.heap.size 51 5 wrE w8 v8 (insS r s.st) ∧ Same wA w8) := hid ⟨by have h9 := HIN.out; rw [h9]; simpa using hr8, Kept.grown H7.out.2 hg8 (fun k e => .inr (RowC.ge H7.out.1 e))⟩
        have p3 := HP.out _ H8.out.2
        have z3 := HZ.out _ H8.out.2
        obtain ⟨a8, c8, hv8, _⟩ := hr8.shape
        obtain ⟨l8, hv9⟩ : ∃ n : Nat, v8 = .slice a8 n c8 := ⟨_, hv8⟩
        clear hv8
        subst hv9
        clear hr8 hg8
        go_wp2_with fail
        go_end0
        exact ⟨rfl, HFin.out _ _ H8.out.2 H8.out.1⟩
      · go_wp2_with fail
        go_quiet (fail)
        obtain ⟨wE, hwE⟩ : ∃ W, W = wD.drewN nq := ⟨_, rfl⟩
        have HWE : Hid (Same wA wE) := hid (by rw [hwE]; exact HWD.out.drewN _)
        rw [← hwE]
        clear hwE p3
        have e0 := HWE.out.cell HX.out.1 (fun f => f)
        have e1 := HWE.out.cell HX.out.2.1 (fun f => f)
        have e2 := HWE.out.cell HX.out.2.2.1 (fun f => f)
        have e3 := HWE.out.cell HX.out.2.2.2.1 (fun f => f)
        have e4 := HWE.out.cell HX.out.2.2.2.2 (fun f => f)
        have p3 := HP.out _ HWE.out
        go_wp2_with (at_builtin; refine wpList_append_c13 _ wrE 5 wrE_ok (by decide) wA.heap.size 35 51 (.agg #[.string ⟨#[]⟩, .string ⟨#[]⟩, .string ⟨#[]⟩, .bool false, .string ⟨#[]⟩]) 72 Try.underlying35 Try.infoWr rfl (by decide) rfl (.tmp 49) (.tmp 55) rfl (.slice none 0 0) [] rfl RowC.nil (some ⟨g, 0, none⟩) _ _ (s.st.take i) rfl HCT.out.1 (fun ad e => by cases e; exact HCT.out.2.1 _ HWE.out) (fun e => by cases e) (by have h9 := HCT.out.1; have := HN.out; simp only [List.length_nil]; omega) HWE.out.size ?_)
        intro v6 w6 hr6 hg6
        have H6 : Hid (RowC wA.heap.size 51 5 wrE w6 v6 (s.st.take i) ∧ Same wA w6) := hid ⟨hr6, Kept.grown HWE.out hg6 (fun k e => by cases e)⟩
        obtain ⟨a6, c6, hv6, _⟩ := hr6.shape
        obtain ⟨l6, hl6⟩ : ∃ n, n = (s.st.take i).length := ⟨_, rfl⟩
        rw [← hl6] at hv6
        subst hv6
        clear hr6 hg6 hl6 e0 e1 e2 e3 e4 p3
        have e0 := H6.out.2.cell HX.out.1 (fun f => f)
        have e1 := H6.out.2.cell HX.out.2.1 (fun f => f)
        have e2 := H6.out.2.cell HX.out.2.2.1 (fun f => f)
        have e3 := H6.out.2.cell HX.out.2.2.2.1 (fun f => f)
        have e4 := H6.out.2.cell HX.out.2.2.2.2 (fun f => f)
        go_wp2_with (at_builtin; refine wpList_append_c13 _ wrE 5 wrE_ok (by decide) wA.heap.size 35 51 (.agg #[.string ⟨#[]⟩, .string ⟨#[]⟩, .string ⟨#[]⟩, .bool false, .string ⟨#[]⟩]) 72 Try.underlying35 Try.infoWr rfl (by decide) rfl (.tmp 57) (.tmp 59) rfl (.slice a6 l6 c6) (s.st.take i) rfl (H6.out.1.kept (show Same _ _ from (Kept.refl _ _).alloc _) (fun _ _ f => f)) (some ⟨w6.heap.size, 0, none⟩) 1 1 [r] rfl rfl (fun ad e => by cases e; exact cellsAt_wr w6 r) (fun e => by cases e) (by have h9 := HCT.out.1; have := HN.out; simp only [List.length_singleton]; omega) (by have := H6.out.2.size; simp; omega) ?_)
        intro v7 w7 hr7 hg7
        have H7 : Hid (RowC wA.heap.size 51 5 wrE w7 v7 (s.st.take i ++ [r]) ∧ Same wA w7) := hid ⟨hr7, Kept.grown (Same.trans H6.out.2 ((Kept.refl _ w6).alloc _)) hg7 (fun k e => .inr (RowC.ge H6.out.1 e))⟩
        obtain ⟨a7, c7, hv7, _⟩ := hr7.shape
        obtain ⟨l7, hl7⟩ : ∃ n, n = (s.st.take i ++ [r]).length := ⟨_, rfl⟩
        rw [← hl7] at hv7
        subst hv7
        clear hr7 hg7 hl7 e0 e1 e2 e3 e4
        have p3 := HP.out _ H7.out.2
        have z3 := HZ.out _ H7.out.2
        go_wp2_with (at_builtin; refine wpList_append_c13 _ wrE 5 wrE_ok (by decide) wA.heap.size 35 51 (.agg #[.string ⟨#[]⟩, .string ⟨#[]⟩, .string ⟨#[]⟩, .bool false, .string ⟨#[]⟩]) 72 Try.underlying35 Try.infoWr rfl (by decide) rfl (.tmp 62) (.tmp 63) rfl (.slice a7 l7 c7) (s.st.take i ++ [r]) rfl H7.out.1 (some ⟨g, i * 5, none⟩) _ _ (s.st.drop i) rfl (by rw [List.length_drop]; have := HN.out; omega) (fun ad e => by rw [HD1.out]; intro j u hu; simp at hu) (fun e => by cases e) (by have h9 := HCT.out.1; have := HN.out; simp only [List.length_append, List.length_singleton, List.length_drop]; omega) H7.out.2.size ?_)
        intro v8 w8 hr8 hg8
        have H8 : Hid (RowC wA.heap.size 51 5 wrE w8 v8 (insS r s.st) ∧ Same wA w8) := hid ⟨by have h9 := HIN.out; rw [h9]; simpa using hr8, Kept.grown H7.out.2 hg8 (fun k e => .inr (RowC.ge H7.out.1 e))⟩
        have p3 := HP.out _ H8.out.2
        have z3 := HZ.out _ H8.out.2
        obtain ⟨a8, c8, hv8, _⟩ := hr8.shape
        obtain ⟨l8, hv9⟩ : ∃ n : Nat, v8 = .slice a8 n c8 := ⟨_, hv8⟩
        clear hv8
        subst hv9
        clear hr8 hg8
        go_wp2_with fail
        go_end0
        exact ⟨rfl, HFin.out _ _ H8.out.2 H8.out.1⟩

theorem rstage_any (h : Rv N w p s v1 v2 v3) (hN : N ≤ w.heap.size) (hl : s.st.length + 1 ≤ 100000) (r : Wr) : Calls Try.prog 20 #[.pointer (some ⟨p, 0, none⟩), .agg #[.string r.b.tn, .string r.b.ar, .string r.n.s, .bool r.there, .string r.data]] w fun e w' => e = .returned (.tuple #[]) ∧ StgA N w p s r v1 v2 w' := by
  rcases h.r3.2 with ⟨hv, _⟩ | ⟨g, cap, cur, hv, _⟩
  · subst hv; exact rstage_none h hN r
  · subst hv; exact rstage_some h hN hl r

end

end Go.Proofs.Ytlfibbghkdbomaa
