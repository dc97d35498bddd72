/-
  Layer 12's law ChainRuns: Put, held against the reference.
-/
import Derived.Test.YthignkloecfcbaaCrM
import Derived.BigQuiet
namespace Go.Proofs.Ythignkloecfcbaa
open Go.RowKit Go.Maps Go.Sort

theorem Try.infoWr12 : (Try.prog.info? 49).map (fun i => (i.zero, i.size, i.bytes)) = some (some (.agg #[.string ⟨#[]⟩, .string ⟨#[]⟩, .string ⟨#[]⟩, .bool false, .string ⟨#[]⟩]), 5, 72) := by kernel_rfl

theorem SrcC.cells12 {w : World} {I : Nat → Prop} {a : Option Addr} {n c : Nat} {ws : List Wr} (h : SrcC 5 wrE w I (.slice a n c) ws) : (∀ ad, a = some ad → CellsAt w ad (ws.flatMap wrE)) ∧ (a = none → ws = []) ∧ n = ws.length := by
  obtain ⟨ao, cap, e, _, h2⟩ := h
  injection e with e1 e2 e3
  subst e1 e2 e3
  refine ⟨fun ad e => ?_, fun e => ?_, rfl⟩
  · subst e
    intro j u hj
    by_cases hne : ws = []
    · subst hne; simp at hj
    · obtain ⟨b, o, e4, _, h5⟩ := h2 hne
      injection e4 with e4
      subst e4
      have hjl := (List.getElem?_eq_some_iff.1 hj).1
      rw [flat_length wrE_ok] at hjl
      have h6 := flat_get wrE_ok ws (j / 5) (j % 5) (by omega) (by omega)
      have e7 : j / 5 * 5 + j % 5 = j := by omega
      rw [e7] at h6
      rw [h6] at hj
      have h8 := h5 (j / 5) (by omega) (j % 5) (by omega)
      rw [e7, hj] at h8
      rw [addAt]
      exact h8
  · subst e
    by_cases hne : ws = []
    · exact hne
    · obtain ⟨b, o, e4, _⟩ := h2 hne
      cases e4

def sp12 : Wr := ⟨⟨⟨#[]⟩, ⟨#[]⟩, by decide⟩, ⟨⟨#[]⟩, by decide⟩, false, ⟨#[115, 112, 111, 105, 108, 116]⟩, by decide⟩

theorem flat_setW : ∀ (xs : List Wr) (i : Nat) (x : Wr) (_ : i < xs.length), (((((xs.flatMap wrE).set (i * 5) (.string x.b.tn)).set (i * 5 + 1) (.string x.b.ar)).set (i * 5 + 2) (.string x.n.s)).set (i * 5 + 3) (.bool x.there)).set (i * 5 + 4) (.string x.data) = (xs.set i x).flatMap wrE
  | [], i, x, hi => by simp at hi
  | y :: xs, 0, x, _ => by simp [wrE]
  | y :: xs, i + 1, x, hi => by
    have h1 := flat_setW xs i x (by simp at hi; omega)
    rw [List.flatMap_cons, List.set_cons_succ, List.flatMap_cons, ← h1]
    have e : ∀ q, (i + 1) * 5 + q = (i * 5 + q) + 1 + 1 + 1 + 1 + 1 := fun q => by omega
    have e0 : (i + 1) * 5 = (i * 5) + 1 + 1 + 1 + 1 + 1 := by omega
    rw [e 1, e 2, e 3, e 4, e0]
    rfl

def setW (w : World) (g i : Nat) (x : Wr) : World := ((((w.setCell ⟨g, i * 5, none⟩ (.string x.b.tn)).setCell ⟨g, i * 5 + 1, none⟩ (.string x.b.ar)).setCell ⟨g, i * 5 + 2, none⟩ (.string x.n.s)).setCell ⟨g, i * 5 + 3, none⟩ (.bool x.there)).setCell ⟨g, i * 5 + 4, none⟩ (.string x.data)

theorem setW_kept (w : World) (g i : Nat) (x : Wr) : Kept (fun j => j = g) w (setW w g i x) := (((((Kept.refl (fun j => j = g) w).setCell _ _ (.inl rfl)).setCell _ _ (.inl rfl)).setCell _ _ (.inl rfl)).setCell _ _ (.inl rfl)).setCell _ _ (.inl rfl)

theorem RowC.setW {B : Nat} {w : World} {g n cap : Nat} {xs : List Wr} (h : RowC B 49 5 wrE w (.slice (some ⟨g, 0, none⟩) n cap) xs) (i : Nat) (x : Wr) (hi : i < xs.length) :
    RowC B 49 5 wrE (setW w g i x) (.slice (some ⟨g, 0, none⟩) n cap) (xs.set i x) := by
  have hl := h.len
  subst hl
  have h1 := (World.ownsRow.stored h (i * 5) (.string x.b.tn)).1
  have h2 := (World.ownsRow.stored h1 (i * 5 + 1) (.string x.b.ar)).1
  have h3 := (World.ownsRow.stored h2 (i * 5 + 2) (.string x.n.s)).1
  have h4 := (World.ownsRow.stored h3 (i * 5 + 3) (.bool x.there)).1
  have h5 := (World.ownsRow.stored h4 (i * 5 + 4) (.string x.data)).1
  rw [flat_setW xs i x hi] at h5
  unfold RowC
  rw [List.length_set]
  exact h5

/-- Writes of which the first are spoilt. -/
def spI (ws : List Wr) (i : Nat) : List Wr := List.replicate i sp12 ++ ws.drop i
theorem spI_len (ws : List Wr) (i : Nat) (h : i ≤ ws.length) : (spI ws i).length = ws.length := by unfold spI; rw [List.length_append, List.length_replicate, List.length_drop]; omega
theorem spI_at (ws : List Wr) (i : Nat) (h : i < ws.length) : (spI ws i)[i]'(by rw [spI_len ws i (by omega)]; exact h) = ws[i] := by
  unfold spI
  rw [List.getElem_append_right (by simp)]
  simp
theorem spI_set (ws : List Wr) (i : Nat) (h : i < ws.length) : (spI ws i).set i sp12 = spI ws (i + 1) := by
  unfold spI
  rw [List.set_append_right _ _ (by simp), List.length_replicate, Nat.sub_self, List.drop_eq_getElem_cons h, List.set_cons_zero, List.replicate_succ', List.append_assoc]
  rfl

theorem run_append_none12 (w : World) (base : Nat) (t ty e : TypeId) (i : TypeInfo) (size c : Nat) (ht : Try.prog.underlying t = some (.slice e)) (hi : Try.prog.info? e = some i) (v : Value) (n : Nat) (xs : List Value) (hown : w.ownsRow base e size v n xs) : (Builtin.append_ #[t, t] ty #[v, .slice none 0 c]).run Try.prog w = .ok v w := by
  rcases hown.2 with ⟨rfl, rfl⟩ | ⟨g, cap, cur, rfl, _, _, hnc, _⟩
  · simp [Builtin.append_, run_underlying ht, sizeOf, typeInfo, hi, Builtin.lenOf, Builtin.firstCells]
  · simp [Builtin.append_, run_underlying ht, sizeOf, typeInfo, hi, Builtin.lenOf, Builtin.firstCells, hnc, storeCells]

theorem wpList_append_12 {α : Type} {ops : Array Oper} {rest : List Oper} {o : Oper} {a : Act} {Q : Exit → Act → World → Prop} (w : World) (enc : α → List Value) (k : Nat) (ok : EncOk enc k) (hk : k ≤ 100) (B sT eT : Nat) (z : Value) (bytes : Nat)
    (hU : Try.prog.underlying sT = some (.slice eT)) (hI : (Try.prog.info? eT).map (fun i => (i.zero, i.size, i.bytes)) = some (some z, k, bytes)) (hz : z.cells.size = k) (hby : bytes ≤ 1000) (hgd : o.guard = none) (s x : Operand)
    (ho : o.op = .call { callee := .builtin .append, args := #[s, x], argTypes := #[sT, sT] })
    (v : Value) (xs : List α) (hs : a.eval s = v) (hrow : RowC B eT k enc w v xs) (ao : Option Addr) (n c : Nat) (cs : List α) (hx : a.eval x = .slice ao n c) (hn : cs.length = n) (hsrc : ∀ ad, ao = some ad → CellsAt w ad (cs.flatMap enc)) (h0 : ao = none → cs = []) (hlen : xs.length + cs.length ≤ 1000000000) (hB : B ≤ w.heap.size)
    (h : ∀ v' w', RowC B eT k enc w' v' (xs ++ cs) → w.grownBy w' v.ownBlock → wpList Try.prog ops Q rest (a.put o.dst v') w') : wpList Try.prog ops Q (o :: rest) a w := by
  cases ao with
  | some ad => exact wpList_append_c w enc k ok hk B sT eT z bytes hU hI hz hby hgd s x ho v xs hs hrow ad n c cs hx hn (hsrc ad rfl) hlen hB h
  | none =>
    have e0 := h0 rfl
    subst e0
    have hn0 : n = 0 := hn.symm
    subst hn0
    obtain ⟨i0, hi, hz0, hz1, hz2⟩ := info_parts hI
    refine wpList_plain hgd fun K hK => ?_
    have hr := run_append_none12 w B sT o.type eT i0 k c hU hi v xs.length (xs.flatMap enc) hrow
    unfold Oper.wp execOp
    simp only [ho, resolve, invoke, builtin, Sem.run_bind, Sem.run_pure, Result.andThen_ok, List.map_toArray, List.map_cons, List.map_nil, hs, hx, hr]
    exact hK _ _ (h v w (by simpa using hrow) (World.grownBy.refl _ _))

set_option maxRecDepth 100000 in
set_option maxHeartbeats 1000000 in
theorem copied_any (w : World) (t : Int) (a : Option Addr) (n c : Nat) (ws : List Wr) (I : Nat → Prop) (hs : SrcC 5 wrE w I (.slice a n c) ws) (hl : ws.length ≤ 100000) : Calls Try.prog 25 #[.agg #[.int .i64 t, .slice a n c]] w fun e w' => ∃ v', e = .returned (.agg #[.int .i64 t, v']) ∧ (∃ aa nn cc, v' = .slice aa nn cc) ∧ RowC w.heap.size 49 5 wrE w' v' ws ∧ Same w w' := by
  obtain ⟨wC, hwC⟩ : ∃ W, W = ((w.alloc (.cells #[.int .i64 t, .slice a n c] 34)).alloc (.cells #[.int .i64 0, .slice none 0 0] 34)).alloc (.cells #[.int .i64 t, .slice none 0 0] 34) := ⟨_, rfl⟩
  have hkC : Same w wC := by rw [hwC]; exact (((Kept.refl _ w).alloc _).alloc _).alloc _
  have HS : Hid (SrcC 5 wrE wC I (.slice a n c) ws ∧ Same w wC ∧ ws.length ≤ 100000) := hid ⟨hs.kept wrE_ok hkC (fun _ _ _ f => f), hkC, hl⟩
  have HC : Hid (Blk wC (w.heap.size + 1) #[.int .i64 0, .slice none 0 0] 34 ∧ Blk wC (w.heap.size + 1 + 1) #[.int .i64 t, .slice none 0 0] 34) := hid (by
    rw [hwC]
    refine ⟨(show Blk ((w.alloc (.cells #[.int .i64 t, .slice a n c] 34)).alloc (.cells #[.int .i64 0, .slice none 0 0] 34)) (w.heap.size + 1) _ _ from ?_).kept (F := fun _ => False) ((Kept.refl _ _).alloc _) (fun f => f), ?_⟩
    · have h9 := Blk.new (w.alloc (.cells #[.int .i64 t, .slice a n c] 34)) #[.int .i64 0, .slice none 0 0] 34
      simpa using h9
    · have h9 := Blk.new ((w.alloc (.cells #[.int .i64 t, .slice a n c] 34)).alloc (.cells #[.int .i64 0, .slice none 0 0] 34)) #[.int .i64 t, .slice none 0 0] 34
      simpa using h9)
  clear hs hl hkC
  go_enter Try.func25, Try.ntmps25
  go_wp2_with (at_builtin; rw [← hwC]; refine wpList_append_12 _ wrE 5 wrE_ok (by decide) wC.heap.size 32 49 (.agg #[.string ⟨#[]⟩, .string ⟨#[]⟩, .string ⟨#[]⟩, .bool false, .string ⟨#[]⟩]) 72 Try.underlying32 Try.infoWr12 rfl (by decide) rfl (.tmp 8) (.tmp 10) rfl (.slice none 0 0) [] rfl RowC.nil a n c ws rfl HS.out.1.cells12.2.2.symm HS.out.1.cells12.1 HS.out.1.cells12.2.1 (by have := HS.out.2.2; simp; omega) (Nat.le_refl _) ?_)
  intro v9 w9 hr9 hg9
  rw [← hwC] at hg9
  have hk9 : Same wC w9 := (Kept.refl _ wC).grown hg9 (fun k e => by cases e)
  obtain ⟨a9, c9, hv9, _⟩ := hr9.shape
  subst hv9
  have HF : Hid (RowC w.heap.size 49 5 wrE w9 (.slice a9 ws.length c9) ws ∧ Same w w9) := hid ⟨hr9.base (by omega), HS.out.2.1.trans hk9⟩
  have hb1 := HC.out.1.kept hk9 (fun f => f)
  have hb2 := HC.out.2.kept hk9 (fun f => f)
  have y0 := hb1.cell 0
  have y1 := hb1.cell 1
  have z0 := hb1.frozen 0
  have z1 := hb1.frozen 1
  have x0 := hb2.cell 0
  have x1 := hb2.cell 1
  have u1 := hb2.frozen 1
  simp only [List.getElem?_toArray, List.getElem?_cons_zero, List.getElem?_cons_succ] at y0 y1 x0 x1
  have HB : Hid (Blk w9 (w.heap.size + 1) #[.int .i64 0, .slice none 0 0] 34 ∧ Blk w9 (w.heap.size + 1 + 1) #[.int .i64 t, .slice none 0 0] 34) := hid ⟨hb1, hb2⟩
  clear hk9 hr9 hg9 hb1 hb2 hwC
  go_wp2_with fail
  have hkf : Kept (fun k => k = w.heap.size + 1 ∨ k = w.heap.size + 1 + 1) w9 (((w9.setCell ⟨w.heap.size + 1 + 1, 1, none⟩ (.slice a9 ws.length c9)).setCell ⟨w.heap.size + 1, 0, none⟩ (.int .i64 t)).setCell ⟨w.heap.size + 1, 1, none⟩ (.slice a9 ws.length c9)) := (((Kept.refl _ w9).setCell _ _ (.inl (.inr rfl))).setCell _ _ (.inl (.inl rfl))).setCell _ _ (.inl (.inl rfl))
  refine bodyPost_ret (v := .agg #[.int .i64 t, .slice a9 ws.length c9]) (by rw [results_cellC rfl]; simp [go_sem, y0, y1, z0, z1]) rfl ?_
  refine ⟨_, rfl, ⟨_, _, _, rfl⟩, HF.out.1.kept hkf (fun k e e2 => ?_), Kept.trans HF.out.2 hkf (fun _ _ f => f) (fun k hk e => by omega)⟩
  rcases e2 with e2 | e2
  · exact HF.out.1.off_blk HB.out.1 (by decide) (by rw [← e2]; exact e)
  · exact HF.out.1.off_blk HB.out.2 (by decide) (by rw [← e2]; exact e)

end Go.Proofs.Ythignkloecfcbaa
