/-
  Of the proof: parts DmF, DmG, DmH, DmI, DmJ, DmK, DmL, DmM, DmN, DmO.
-/
import Derived.Laws.OwnMore
import Derived.Deep.QuietTactic
import Derived.BigQuiet
import Derived.Test.YtjcobogajkfnmaaJ21

/-
  Layer 9: the reference's names with one more.
-/
namespace Go.Proofs.Ytjcobogajkfnmaa
open Go.RowKit Go.Maps

/-- append of what lies anywhere, or nothing. -/
theorem wpList_append_c9 {α : Type} {ops : Array Oper} {rest : List Oper} {o : Oper} {a : Act} {Q : Exit → Act → World → Prop} (w : World) (enc : α → List Value) (k : Nat) (ok : EncOk enc k) (hk : k ≤ 100) (B sT eT : Nat) (z : Value) (bytes : Nat)
    (hU : Try.prog.underlying sT = some (.slice eT)) (hI : (Try.prog.info? eT).map (fun i => (i.zero, i.size, i.bytes)) = some (some z, k, bytes)) (hz : z.cells.size = k) (hby : bytes ≤ 1000) (hgd : o.guard = none) (s x : Operand)
    (ho : o.op = .call { callee := .builtin .append, args := #[s, x], argTypes := #[sT, sT] })
    (v : Value) (xs : List α) (hs : a.eval s = v) (hrow : RowC B eT k enc w v xs) (ao : Option Addr) (n c : Nat) (cs : List α) (hx : a.eval x = .slice ao n c) (hn : cs.length = n) (hsrc : ∀ ad, ao = some ad → CellsAt w ad (cs.flatMap enc)) (h0 : ao = none → cs = [] ∧ c = 0) (hlen : xs.length + cs.length ≤ 1000000000) (hB : B ≤ w.heap.size)
    (h : ∀ v' w', RowC B eT k enc w' v' (xs ++ cs) → w.grownBy w' v.ownBlock → wpList Try.prog ops Q rest (a.put o.dst v') w') : wpList Try.prog ops Q (o :: rest) a w := by
  cases ao with
  | some ad => exact wpList_append_c w enc k ok hk B sT eT z bytes hU hI hz hby hgd s x ho v xs hs hrow ad n c cs hx hn (hsrc ad rfl) hlen hB h
  | none =>
    obtain ⟨e0, hc⟩ := h0 rfl
    subst e0
    have hn0 : n = 0 := hn.symm
    subst hc hn0
    obtain ⟨i0, hi, hz0, hz1, hz2⟩ := info_parts hI
    refine wpList_plain hgd fun K hK => ?_
    have hr := run_append_owned_none (P := Try.prog) w B sT o.type eT i0 k hU hi v xs.length (xs.flatMap enc) hrow
    unfold Oper.wp execOp
    simp only [ho, resolve, invoke, builtin, Sem.run_bind, Sem.run_pure, Result.andThen_ok, List.map_toArray, List.map_cons, List.map_nil, hs, hx, hr]
    exact hK _ _ (h v w (by simpa using hrow) (World.grownBy.refl _ _))

/-- One name stands ahead of another. -/
def ltN (s t : ByteArray) : Bool := Op.bytesLess s.toList t.toList

theorem ltN_is (s t : ByteArray) : ltN s t = (litN s).before (litN t) := by
  unfold ltN
  rw [Lib.toList_data, Lib.toList_data]
  exact (before_less _ _).symm

theorem ltN_not {s t : ByteArray} (h : s ≠ t) : ltN s t = !ltN t s := by
  rw [ltN_is, ltN_is]
  have hne : s.data.toList ≠ t.data.toList := fun e => h (by cases s; cases t; rw [Array.toList_inj] at e; exact congrArg ByteArray.mk e)
  cases h1 : (litN s).before (litN t) <;> cases h2 : (litN t).before (litN s)
  · rcases Go.WideAt.bytes_total _ _ hne with h3 | h3
    · rw [show (litN s).before (litN t) = true from h3] at h1; cases h1
    · rw [show (litN t).before (litN s) = true from h3] at h2; cases h2
  · rfl
  · rfl
  · have h3 : (litN s).before (litN s) = true := Go.WideShapes.bytes_trans _ _ _ h1 h2
    rw [show (litN s).before (litN s) = false from Go.WideAt.bytes_irrefl _] at h3
    cases h3

/-- Where a name is put. -/
theorem insN_at (x : ByteArray × Nat) : ∀ (L : Nms) (k : Nat), (∀ p ∈ L, p.1 ≠ x.1) → (∀ p ∈ L.take k, ltN p.1 x.1 = true) → (∀ h : k < L.length, ltN L[k].1 x.1 = false) → k ≤ L.length → insN x L = L.take k ++ x :: L.drop k
  | [], k, _, _, _, _ => by simp [insN]
  | y :: r, 0, hn, _, h2, _ => by
    have h9 := h2 (by simp)
    have h8 : (litN x.1).before (litN y.1) = true := by
      rw [← ltN_is, ltN_not (fun e => hn y (List.mem_cons_self ..) e.symm)]
      have h7 : ltN y.1 x.1 = false := h9
      rw [h7]; rfl
    rw [insN, if_pos h8]
    rfl
  | y :: r, k + 1, hn, h1, h2, h3 => by
    have h9 : ltN y.1 x.1 = true := h1 y (by simp)
    have h8 : (litN x.1).before (litN y.1) = false := by
      rw [← ltN_is, ltN_not (fun e => hn y (List.mem_cons_self ..) e.symm), h9]; rfl
    rw [insN, if_neg (by rw [h8]; decide), insN_at x r k (fun p hp => hn p (List.mem_cons_of_mem _ hp)) (fun p hp => h1 p (by rw [List.take_succ_cons]; exact List.mem_cons_of_mem _ hp)) (fun h => h2 (by simp; omega)) (by simpa using h3)]
    rfl

theorem cells_take (w : World) (g : Nat) (L : Nms) (k : Nat) (h : CellsAt w ⟨g, 0, none⟩ (L.flatMap nnE)) : CellsAt w ⟨g, 0, none⟩ ((L.take k).flatMap nnE) := fun j u hu => h j u (by
  have hj : j < ((L.take k).flatMap nnE).length := (List.getElem?_eq_some_iff.1 hu).1
  rw [← List.take_append_drop k L, List.flatMap_append, List.getElem?_append_left hj]
  exact hu)

theorem cells_drop (w : World) (g : Nat) (L : Nms) (k : Nat) (hk : k ≤ L.length) (h : CellsAt w ⟨g, 0, none⟩ (L.flatMap nnE)) : CellsAt w ⟨g, k * 2, none⟩ ((L.drop k).flatMap nnE) := fun j u hu => by
  have h9 := h (k * 2 + j) u (by
    have hl : ((L.take k).flatMap nnE).length = k * 2 := by rw [flat_length nnE_ok, List.length_take, Nat.min_eq_left hk]
    have h8 : L.flatMap nnE = (L.take k).flatMap nnE ++ (L.drop k).flatMap nnE := by rw [← List.flatMap_append, List.take_append_drop]
    rw [h8, List.getElem?_append_right (by omega), hl, Nat.add_sub_cancel_left]
    exact hu)
  rw [addAt, Nat.zero_add] at h9
  rw [addAt]
  exact h9

set_option maxRecDepth 100000 in
set_option maxHeartbeats 1000000 in
theorem rwith_some (w : World) (N : Nat) (g n cap : Nat) (L : Nms) (h : RowC N 99 2 nnE w (.slice (some ⟨g, 0, none⟩) n cap) L) (hl : L.length ≤ 1000000) (t : ByteArray) (f : Nat) (hne : ∀ p ∈ L, p.1 ≠ t) :
    Calls Try.prog 77 #[.slice (some ⟨g, 0, none⟩) n cap, .agg #[.string t, .int .i64 (f : Nat)]] w fun e w' => ∃ v', e = .returned v' ∧ RowC w.heap.size 99 2 nnE w' v' (insN (t, f) L) ∧ Same w w' := by
  have HR : Hid (RowC N 99 2 nnE w (.slice (some ⟨g, 0, none⟩) n cap) L) := h
  have HN : Hid (n = L.length ∧ n ≤ 1000000 ∧ n ≤ cap) := hid (by
    obtain ⟨ao, c', hv, _, _, hc, _⟩ := h.shape
    simp only [Value.slice.injEq] at hv
    omega)
  have HCA : Hid (∀ w', Same w w' → CellsAt w' ⟨g, 0, none⟩ (L.flatMap nnE)) := hid (fun w' hk => World.ownsRow.cells (h.kept hk (fun _ _ f => f)) rfl)
  have HNE : Hid (∀ p ∈ L, p.1 ≠ t) := hne
  obtain ⟨wA, hwA⟩ : ∃ W, W = w.alloc (.cells #[.string t, .int .i64 (f : Nat)] 99) := ⟨_, rfl⟩
  obtain ⟨xb, hxb⟩ : ∃ b, b = w.heap.size := ⟨_, rfl⟩
  have HB : Hid (Blk wA xb #[.string t, .int .i64 (f : Nat)] 99 ∧ Same w wA) := hid ⟨by rw [hwA, hxb]; exact Blk.new w _ _, by rw [hwA]; exact (Kept.refl _ w).alloc _⟩
  clear h hl hne
  go_enter Try.func77, Try.ntmps77
  go_wp2_with fail
  rw [← hwA, ← hxb]
  clear hwA hxb
  have q0 : wA.cell? ⟨xb, 0, none⟩ = some (.string t) := HB.out.1.cell 0
  have q1 : wA.cell? ⟨xb, 1, none⟩ = some (.int .i64 (f : Nat)) := HB.out.1.cell 1
  go_loopg [5] n (fun qq z5 wr => ∃ i : Nat, z5 = .int .i64 (i : Nat) ∧ i ≤ n ∧ n - i ≤ qq ∧ Hid (∀ p ∈ L.take i, ltN p.1 t = true) ∧ Hid (Same wA wr))
  case atStart => exact ⟨0, rfl, by omega, by omega, hid (by simp), hid (Kept.refl _ _)⟩
  case round =>
    obtain ⟨i, rfl, hi, hiq, HI, HW⟩ := hrel
    have d0 : wr.cell? ⟨xb, 0, none⟩ = some (.string t) := HW.out.cell q0 (fun f => f)
    have d1 : wr.cell? ⟨xb, 1, none⟩ = some (.int .i64 (f : Nat)) := HW.out.cell q1 (fun f => f)
    have HX : Hid (i ≤ n) := hi
    have i1 : (0 : Int) ≤ (i : Int) := by omega
    have HCT : Hid ((L.take i).length = i ∧ (∀ w', Same wA w' → CellsAt w' ⟨g, 0, none⟩ ((L.take i).flatMap nnE)) ∧ (L.drop i).length = n - i ∧ ∀ w', Same wA w' → CellsAt w' ⟨g, i * 2, none⟩ ((L.drop i).flatMap nnE)) := hid ⟨by rw [List.length_take]; have := HN.out; omega, fun w' hk => cells_take w' g L i (HCA.out w' (Same.trans HB.out.2 hk)), by rw [List.length_drop]; have := HN.out; omega, fun w' hk => cells_drop w' g L i (by have := HN.out; omega) (HCA.out w' (Same.trans HB.out.2 hk))⟩
    have hiw : IntKind.i64.wrap ((i : Int) + 1) = ((i + 1 : Nat) : Int) := by rw [IntKind.wrap_i64]; have := HN.out; omega
    by_cases hlt : i < n
    case' pos =>
      have b1 : decide ((i : Int) < (n : Int)) = true := by simp; omega
      have b1' : decide (i < n) = true := by simp; omega
      have hil : i < L.length := by have := HN.out; omega
      have i2 : (i : Int) < (n : Int) := by omega
      obtain ⟨u, hu⟩ : ∃ u, u = L[i].1 := ⟨_, rfl⟩
      have k0 : wr.cell? ⟨g, i * 2, none⟩ = some (.string u) := by rw [hu]; exact ((HR.out.kept HB.out.2 (fun _ _ f => f)).kept HW.out (fun _ _ f => f)).cell nnE_ok i 0 hil (by decide)
      by_cases hb : ltN u t = true
      case' pos =>
        have hb1 : Op.bytesLess u.toList t.toList = true := hb
        have HF : Hid (∀ p ∈ L.take (i + 1), ltN p.1 t = true) := hid (fun p hp => by
          rw [List.take_add_one, List.getElem?_eq_getElem hil, Option.toList_some] at hp
          rcases List.mem_append.1 hp with h9 | h9
          · exact HI.out p h9
          · rw [List.mem_singleton.1 h9, ← hu]; exact hb)
        clear hb hu hil hlt
        go_wp2_with fail
        go_quiet (fail)
        go_wp2_with fail
        go_roundg (gk - 1)
        case measure => omega
        case rel => exact ⟨i + 1, by go_num, by omega, by omega, HF, hid (HW.out.drewN _)⟩
      case' neg =>
        have hb1 : Op.bytesLess u.toList t.toList = false := by simpa [ltN] using hb
        have HE : Hid (∀ h : i < L.length, ltN L[i].1 t = false) := hid (fun h => by rw [← hu]; simpa using hb)
        clear hb hu hil hlt
        go_wp2_with fail
        go_quiet (fail)
    case' neg =>
      have b1 : decide ((i : Int) < (n : Int)) = false := by simp; omega
      have b1' : decide (i < n) = false := by simp; omega
      have HE : Hid (∀ h : i < L.length, ltN L[i].1 t = false) := hid (fun h => by have := HN.out; omega)
      clear hlt
      go_wp2_with fail
      go_quiet (fail)
    all_goals
      obtain ⟨wE, hwE⟩ : ∃ W, W = wr.drewN nq := ⟨_, rfl⟩
      have HWE : Hid (Same wA wE) := hid (by rw [hwE]; exact HW.out.drewN _)
      have e0 : wE.cell? ⟨xb, 0, none⟩ = some (.string t) := HWE.out.cell q0 (fun f => f)
      have e1 : wE.cell? ⟨xb, 1, none⟩ = some (.int .i64 (f : Nat)) := HWE.out.cell q1 (fun f => f)
      rw [← hwE]
      clear hwE d0 d1
      have f1 : (i : Int) ≤ (cap : Int) := by have := HN.out; omega
      have f2 : (i : Int) ≤ (n : Int) := by have := HN.out; omega
      go_wp2_with (at_builtin; refine wpList_append_c _ nnE 2 nnE_ok (by decide) wA.heap.size 64 99 (.agg #[.string ⟨#[]⟩, .int .i64 0]) 24 Try.underlying64 Try.infoNamed9 rfl (by decide) rfl (.tmp 23) (.tmp 26) rfl (.slice none 0 0) [] rfl RowC.nil ⟨g, 0, none⟩ _ _ (L.take i) rfl HCT.out.1 (HCT.out.2.1 _ HWE.out) (by have := HCT.out.1; have := HN.out; simp at this ⊢; omega) HWE.out.size ?_)
      intro v6 w6 hr6 hg6
      have H6 : Hid (RowC wA.heap.size 99 2 nnE w6 v6 (L.take i) ∧ Same wA w6) := hid ⟨hr6, Kept.grown HWE.out hg6 (fun k e => by cases e)⟩
      obtain ⟨a6, c6, hv6, _⟩ := hr6.shape
      obtain ⟨l6, hl6⟩ : ∃ n, n = (L.take i).length := ⟨_, rfl⟩
      rw [← hl6] at hv6
      subst hv6
      clear hr6 hg6 hl6 e0 e1
      have e0 : w6.cell? ⟨xb, 0, none⟩ = some (.string t) := H6.out.2.cell q0 (fun f => f)
      have e1 : w6.cell? ⟨xb, 1, none⟩ = some (.int .i64 (f : Nat)) := H6.out.2.cell q1 (fun f => f)
      go_wp2_with (at_builtin; refine wpList_append_c _ nnE 2 nnE_ok (by decide) wA.heap.size 64 99 (.agg #[.string ⟨#[]⟩, .int .i64 0]) 24 Try.underlying64 Try.infoNamed9 rfl (by decide) rfl (.tmp 28) (.tmp 30) rfl (.slice a6 l6 c6) (L.take i) rfl (H6.out.1.kept (show Same _ _ from (Kept.refl _ _).alloc _) (fun _ _ f => f)) ⟨w6.heap.size, 0, none⟩ 1 1 [(t, f)] rfl rfl (cellsAt_nn w6 (t, f)) (by have := HCT.out.1; have := HN.out; simp at this ⊢; omega) (by have := H6.out.2.size; simp; omega) ?_)
      intro v7 w7 hr7 hg7
      have H7 : Hid (RowC wA.heap.size 99 2 nnE w7 v7 (L.take i ++ [(t, f)]) ∧ Same wA w7) := hid ⟨hr7, Kept.grown (Same.trans H6.out.2 ((Kept.refl _ w6).alloc _)) hg7 (fun k e => .inr (RowC.ge H6.out.1 e))⟩
      obtain ⟨a7, c7, hv7, _⟩ := hr7.shape
      obtain ⟨l7, hl7⟩ : ∃ n, n = (L.take i ++ [(t, f)]).length := ⟨_, rfl⟩
      rw [← hl7] at hv7
      subst hv7
      clear hr7 hg7 hl7 e0 e1
      have HLL : Hid ((L.take i ++ [(t, f)]).length + (L.drop i).length ≤ 1000000000) := hid (by rw [List.length_append, HCT.out.1, HCT.out.2.2.1]; have := HN.out; simp; omega)
      have HD0 : Hid (cap = i → L.drop i = []) := hid (fun e => List.drop_eq_nil_of_le (by have := HN.out; omega))
      by_cases hci : cap = i
      all_goals
        go_wp2_with (at_builtin; first
          | (refine wpList_append_c _ nnE 2 nnE_ok (by decide) wA.heap.size 64 99 (.agg #[.string ⟨#[]⟩, .int .i64 0]) 24 Try.underlying64 Try.infoNamed9 rfl (by decide) rfl (.tmp 32) (.tmp 35) rfl (.slice a7 l7 c7) (L.take i ++ [(t, f)]) rfl H7.out.1 ⟨g, i * 2, none⟩ (n - i) _ (L.drop i) rfl HCT.out.2.2.1 (HCT.out.2.2.2 _ H7.out.2) HLL.out H7.out.2.size ?_)
          | (refine wpList_append_c _ nnE 2 nnE_ok (by decide) wA.heap.size 64 99 (.agg #[.string ⟨#[]⟩, .int .i64 0]) 24 Try.underlying64 Try.infoNamed9 rfl (by decide) rfl (.tmp 32) (.tmp 35) rfl (.slice a7 l7 c7) (L.take i ++ [(t, f)]) rfl H7.out.1 ⟨g, 0, none⟩ (n - i) _ (L.drop i) rfl HCT.out.2.2.1 (by rw [HD0.out hci]; intro j u hu; simp at hu) HLL.out H7.out.2.size ?_))
        intro v8 w8 hr8 hg8
        have H8 : Hid (RowC wA.heap.size 99 2 nnE w8 v8 (L.take i ++ (t, f) :: L.drop i) ∧ Same wA w8) := hid ⟨hr8, Kept.grown H7.out.2 hg8 (fun k e => .inr (RowC.ge H7.out.1 e))⟩
        clear hr8 hg8
        go_wp2_with fail
        go_ret
        refine ⟨_, rfl, ?_, Same.trans HB.out.2 H8.out.2⟩
        have h9 := H8.out.1
        rw [← insN_at (t, f) L i HNE.out HI.out HE.out (by have := HN.out; have := HX.out; omega)] at h9
        exact h9.base HB.out.2.size

set_option maxRecDepth 100000 in
set_option maxHeartbeats 1000000 in
theorem rwith_none (w : World) (t : ByteArray) (f : Nat) :
    Calls Try.prog 77 #[.slice none 0 0, .agg #[.string t, .int .i64 (f : Nat)]] w fun e w' => ∃ v', e = .returned v' ∧ RowC w.heap.size 99 2 nnE w' v' [(t, f)] ∧ Same w w' := by
  obtain ⟨wA, hwA⟩ : ∃ W, W = w.alloc (.cells #[.string t, .int .i64 (f : Nat)] 99) := ⟨_, rfl⟩
  obtain ⟨xb, hxb⟩ : ∃ b, b = w.heap.size := ⟨_, rfl⟩
  have HB : Hid (Blk wA xb #[.string t, .int .i64 (f : Nat)] 99 ∧ Same w wA) := hid ⟨by rw [hwA, hxb]; exact Blk.new w _ _, by rw [hwA]; exact (Kept.refl _ w).alloc _⟩
  go_enter Try.func77, Try.ntmps77
  go_wp2_with fail
  rw [← hwA, ← hxb]
  clear hwA hxb
  have q0 : wA.cell? ⟨xb, 0, none⟩ = some (.string t) := HB.out.1.cell 0
  have q1 : wA.cell? ⟨xb, 1, none⟩ = some (.int .i64 (f : Nat)) := HB.out.1.cell 1
  refine wp_loop_rounds 1 ?_
  rw [rounds_succ]
  go_wp2_with fail
  go_quiet (fail)
  obtain ⟨wE, hwE⟩ : ∃ W, W = wA.drewN nq := ⟨_, rfl⟩
  have HWE : Hid (Same wA wE) := hid (by rw [hwE]; exact (Kept.refl _ _).drewN _)
  have e0 : wE.cell? ⟨xb, 0, none⟩ = some (.string t) := HWE.out.cell q0 (fun f => f)
  have e1 : wE.cell? ⟨xb, 1, none⟩ = some (.int .i64 (f : Nat)) := HWE.out.cell q1 (fun f => f)
  rw [← hwE]
  clear hwE
  go_wp2_with (at_builtin; refine wpList_append_c9 _ nnE 2 nnE_ok (by decide) wA.heap.size 64 99 (.agg #[.string ⟨#[]⟩, .int .i64 0]) 24 Try.underlying64 Try.infoNamed9 rfl (by decide) rfl (.tmp 23) (.tmp 26) rfl (.slice none 0 0) [] rfl RowC.nil none 0 0 [] rfl rfl (fun _ e => by cases e) (fun _ => ⟨rfl, rfl⟩) (by decide) HWE.out.size ?_)
  intro v6 w6 hr6 hg6
  have H6 : Hid (RowC wA.heap.size 99 2 nnE w6 v6 [] ∧ Same wA w6) := hid ⟨hr6, Kept.grown HWE.out hg6 (fun k e => by cases e)⟩
  obtain ⟨a6, c6, hv6, _⟩ := hr6.shape
  obtain ⟨l6, hl6⟩ : ∃ n, n = ([] : Nms).length := ⟨_, rfl⟩
  rw [← hl6] at hv6
  subst hv6
  clear hr6 hg6 hl6 e0 e1
  have e0 : w6.cell? ⟨xb, 0, none⟩ = some (.string t) := H6.out.2.cell q0 (fun f => f)
  have e1 : w6.cell? ⟨xb, 1, none⟩ = some (.int .i64 (f : Nat)) := H6.out.2.cell q1 (fun f => f)
  go_wp2_with (at_builtin; refine wpList_append_c _ nnE 2 nnE_ok (by decide) wA.heap.size 64 99 (.agg #[.string ⟨#[]⟩, .int .i64 0]) 24 Try.underlying64 Try.infoNamed9 rfl (by decide) rfl (.tmp 28) (.tmp 30) rfl (.slice a6 l6 c6) [] rfl (H6.out.1.kept (show Same _ _ from (Kept.refl _ _).alloc _) (fun _ _ f => f)) ⟨w6.heap.size, 0, none⟩ 1 1 [(t, f)] rfl rfl (cellsAt_nn w6 (t, f)) (by simp) (by have := H6.out.2.size; simp; omega) ?_)
  intro v7 w7 hr7 hg7
  have H7 : Hid (RowC wA.heap.size 99 2 nnE w7 v7 [(t, f)] ∧ Same wA w7) := hid ⟨hr7, Kept.grown (Same.trans H6.out.2 ((Kept.refl _ w6).alloc _)) hg7 (fun k e => .inr (RowC.ge H6.out.1 e))⟩
  obtain ⟨a7, c7, hv7, _⟩ := hr7.shape
  obtain ⟨l7, hl7⟩ : ∃ n, n = ([(t, f)] : Nms).length := ⟨_, rfl⟩
  rw [← hl7] at hv7
  subst hv7
  clear hr7 hg7 hl7 e0 e1
  go_wp2_with (at_builtin; refine wpList_append_c9 _ nnE 2 nnE_ok (by decide) wA.heap.size 64 99 (.agg #[.string ⟨#[]⟩, .int .i64 0]) 24 Try.underlying64 Try.infoNamed9 rfl (by decide) rfl (.tmp 32) (.tmp 35) rfl (.slice a7 l7 c7) [(t, f)] rfl H7.out.1 none 0 0 [] rfl rfl (fun _ e => by cases e) (fun _ => ⟨rfl, rfl⟩) (by simp) H7.out.2.size ?_)
  intro v8 w8 hr8 hg8
  have H8 : Hid (RowC wA.heap.size 99 2 nnE w8 v8 [(t, f)] ∧ Same wA w8) := hid ⟨by simpa using hr8, Kept.grown H7.out.2 hg8 (fun k e => .inr (RowC.ge H7.out.1 e))⟩
  clear hr8 hg8
  go_wp2_with fail
  go_ret
  exact ⟨_, rfl, H8.out.1.base HB.out.2.size, Same.trans HB.out.2 H8.out.2⟩

/-- with, of any row of names that has not this one. -/
theorem rwith_any (w : World) (N : Nat) (v : Value) (L : Nms) (h : RowC N 99 2 nnE w v L) (hl : L.length ≤ 1000000) (t : ByteArray) (f : Nat) (hne : ∀ p ∈ L, p.1 ≠ t) :
    Calls Try.prog 77 #[v, .agg #[.string t, .int .i64 (f : Nat)]] w fun e w' => ∃ v', e = .returned v' ∧ RowC w.heap.size 99 2 nnE w' v' (insN (t, f) L) ∧ Same w w' := by
  rcases id h.2 with ⟨rfl, hn⟩ | ⟨g, cap, cur, rfl, _⟩
  · have e : L = [] := List.eq_nil_of_length_eq_zero hn
    subst e
    exact rwith_none w t f
  · exact rwith_some w N g L.length cap L h hl t f hne

end Go.Proofs.Ytjcobogajkfnmaa

/-
  Layer 9: a change done to the reference's names.
-/
namespace Go.Proofs.Ytjcobogajkfnmaa
open Go.RowKit Go.Maps

theorem delN_none (t : ByteArray) (L : Nms) : ∀ p ∈ delN t L, p.1 ≠ t := fun p hp => by
  have h9 := (List.mem_filter.1 hp).2
  simpa using h9

theorem delN_empty {t : ByteArray} {L : Nms} (ht : t.size = 0) (h : ∀ p ∈ L, p.1.size ≠ 0) : delN t L = L :=
  List.filter_eq_self.2 (fun p hp => by
    have h9 : p.1 ≠ t := fun e => h p hp (by rw [e]; exact ht)
    simpa using h9)

/-- The value of a change. -/
def rcV (c : Chg) : Value := .agg #[.int .i64 (kdN c : Nat), .string c.src, .string c.dst, .int .i64 (c.f : Nat)]

section
variable (w : World) (N : Nat) (v : Value) (L : Nms) (h : RowC N 99 2 nnE w v L) (hl : L.length ≤ 1000000) (hne : ∀ p ∈ L, p.1.size ≠ 0)
include h hl

set_option maxRecDepth 100000 in
set_option maxHeartbeats 1000000 in
theorem rapply_gone (src dst : ByteArray) (f : Nat) :
    Calls Try.prog 71 #[v, .agg #[.int .i64 3, .string src, .string dst, .int .i64 (f : Nat)]] w fun e w' => ∃ v', e = .returned v' ∧ RowC w.heap.size 99 2 nnE w' v' (delN src L) ∧ Same w w' := by
  obtain ⟨wA, hwA⟩ : ∃ W, W = w.alloc (.cells #[.int .i64 3, .string src, .string dst, .int .i64 (f : Nat)] 83) := ⟨_, rfl⟩
  obtain ⟨xb, hxb⟩ : ∃ b, b = w.heap.size := ⟨_, rfl⟩
  have HB : Hid (Blk wA xb #[.int .i64 3, .string src, .string dst, .int .i64 (f : Nat)] 83 ∧ Same w wA) := hid ⟨by rw [hwA, hxb]; exact Blk.new w _ _, by rw [hwA]; exact (Kept.refl _ w).alloc _⟩
  have HW := rwithout_any wA N v L (h.kept HB.out.2 (fun _ _ f => f)) hl src
  obtain ⟨ao, cap, hv, _⟩ := h.shape
  obtain ⟨n, hn⟩ : ∃ n, n = L.length := ⟨_, rfl⟩
  rw [← hn] at hv
  subst hv
  clear h hl hn
  have q0 : wA.cell? ⟨xb, 0, none⟩ = some (.int .i64 3) := HB.out.1.cell 0
  have q1 : wA.cell? ⟨xb, 1, none⟩ = some (.string src) := HB.out.1.cell 1
  go_enter Try.func71, Try.ntmps71
  go_wp2_with fail
  rw [← hwA, ← hxb]
  clear hwA hxb
  go_wp2_with fail
  refine HW.mono ?_
  rintro e w3 ⟨v3, rfl, hr3, k3⟩
  have H3 : Hid (RowC w.heap.size 99 2 nnE w3 v3 (delN src L) ∧ Same w w3) := hid ⟨hr3.base HB.out.2.size, Same.trans HB.out.2 k3⟩
  clear HW hr3 k3
  go_wp2_with fail
  go_ret
  exact ⟨_, rfl, H3.out.1, H3.out.2⟩

set_option maxRecDepth 100000 in
set_option maxHeartbeats 1000000 in
theorem rapply_new (src dst : ByteArray) (f : Nat) :
    Calls Try.prog 71 #[v, .agg #[.int .i64 1, .string src, .string dst, .int .i64 (f : Nat)]] w fun e w' => ∃ v', e = .returned v' ∧ RowC w.heap.size 99 2 nnE w' v' (putN dst f L) ∧ Same w w' := by
  obtain ⟨wA, hwA⟩ : ∃ W, W = w.alloc (.cells #[.int .i64 1, .string src, .string dst, .int .i64 (f : Nat)] 83) := ⟨_, rfl⟩
  obtain ⟨xb, hxb⟩ : ∃ b, b = w.heap.size := ⟨_, rfl⟩
  have HB : Hid (Blk wA xb #[.int .i64 1, .string src, .string dst, .int .i64 (f : Nat)] 83 ∧ Same w wA) := hid ⟨by rw [hwA, hxb]; exact Blk.new w _ _, by rw [hwA]; exact (Kept.refl _ w).alloc _⟩
  obtain ⟨ao, cap, hv, _⟩ := h.shape
  obtain ⟨n, hn⟩ : ∃ n, n = L.length := ⟨_, rfl⟩
  rw [← hn] at hv
  subst hv
  have HW : Hid (∀ w', Same wA w' → Calls Try.prog 41 #[.slice ao n cap, .string dst] w' fun e w2 => ∃ v', e = .returned v' ∧ RowC w'.heap.size 99 2 nnE w2 v' (delN dst L) ∧ Same w' w2) := hid (fun w' hk => rwithout_any w' N _ L ((h.kept HB.out.2 (fun _ _ f => f)).kept hk (fun _ _ f => f)) hl dst)
  have HLN : Hid ((delN dst L).length ≤ 1000000) := hid (Nat.le_trans (delN_len _ _) hl)
  clear h hl hn
  have q0 : wA.cell? ⟨xb, 0, none⟩ = some (.int .i64 1) := HB.out.1.cell 0
  have q2 : wA.cell? ⟨xb, 2, none⟩ = some (.string dst) := HB.out.1.cell 2
  have q3 : wA.cell? ⟨xb, 3, none⟩ = some (.int .i64 (f : Nat)) := HB.out.1.cell 3
  go_enter Try.func71, Try.ntmps71
  go_wp2_with fail
  rw [← hwA, ← hxb]
  clear hwA hxb
  go_wp2_with fail
  go_region_held3 (fun w' => w'.cell? ⟨xb, 2, none⟩ = some (.string dst) ∧ w'.cell? ⟨xb, 3, none⟩ = some (.int .i64 (f : Nat)))
    (first | (go_split_ands; exact ⟨HK3.out.cell (by assumption) (fun f => f), HK3.out.cell (by assumption) (fun f => f)⟩) | (go_split_ands; exact ⟨HK4.out.cell (by assumption) (fun f => f), HK4.out.cell (by assumption) (fun f => f)⟩) | (go_split_ands; constructor <;> assumption) | go_keep)
    (first
      | (go_at_call 41; refine (HW.out _ (by first | exact (Kept.refl _ _).drew | exact Kept.refl _ _)).mono ?_; rintro e w3 ⟨v3, rfl, hr3, k3⟩; have HK3 := hid k3; have HR3 := hid hr3; obtain ⟨a3, c3, hv3, _⟩ := hr3.shape; obtain ⟨n3, hn3⟩ : ∃ n, n = (delN dst L).length := ⟨_, rfl⟩; rw [← hn3] at hv3; subst hv3; clear hr3 k3 hn3)
      | (go_at_call 77; refine (rwith_any _ _ _ _ HR3.out HLN.out dst f (delN_none dst L)).mono ?_; rintro e w4 ⟨v4, rfl, hr4, k4⟩; have HK4 := hid k4; have HR4 := hid hr4; obtain ⟨a4, c4, hv4, _⟩ := hr4.shape; obtain ⟨n4, hn4⟩ : ∃ n, n = (insN (dst, f) (delN dst L)).length := ⟨_, rfl⟩; rw [← hn4] at hv4; subst hv4; clear hr4 k4 hn4))
  go_wp2_with fail
  go_ret
  have k3 : Same wA w3 := Kept.undrew9 HK3.out
  exact ⟨_, rfl, HR4.out.base (Nat.le_trans HB.out.2.size k3.size), Same.trans HB.out.2 (Same.trans k3 HK4.out)⟩

set_option maxRecDepth 100000 in
set_option maxHeartbeats 1000000 in
theorem rapply_move (src dst : ByteArray) (f : Nat) :
    Calls Try.prog 71 #[v, .agg #[.int .i64 2, .string src, .string dst, .int .i64 (f : Nat)]] w fun e w' => ∃ v', e = .returned v' ∧ RowC w.heap.size 99 2 nnE w' v' (putN dst f (delN src L)) ∧ Same w w' := by
  obtain ⟨wA, hwA⟩ : ∃ W, W = w.alloc (.cells #[.int .i64 2, .string src, .string dst, .int .i64 (f : Nat)] 83) := ⟨_, rfl⟩
  obtain ⟨xb, hxb⟩ : ∃ b, b = w.heap.size := ⟨_, rfl⟩
  have HB : Hid (Blk wA xb #[.int .i64 2, .string src, .string dst, .int .i64 (f : Nat)] 83 ∧ Same w wA) := hid ⟨by rw [hwA, hxb]; exact Blk.new w _ _, by rw [hwA]; exact (Kept.refl _ w).alloc _⟩
  obtain ⟨ao, cap, hv, _⟩ := h.shape
  obtain ⟨n, hn⟩ : ∃ n, n = L.length := ⟨_, rfl⟩
  rw [← hn] at hv
  subst hv
  have HW : Hid (∀ w', Same wA w' → Calls Try.prog 41 #[.slice ao n cap, .string src] w' fun e w2 => ∃ v', e = .returned v' ∧ RowC w'.heap.size 99 2 nnE w2 v' (delN src L) ∧ Same w' w2) := hid (fun w' hk => rwithout_any w' N _ L ((h.kept HB.out.2 (fun _ _ f => f)).kept hk (fun _ _ f => f)) hl src)
  have HLM : Hid ((delN src L).length ≤ 1000000) := hid (Nat.le_trans (delN_len _ _) hl)
  have HLN : Hid ((delN dst (delN src L)).length ≤ 1000000) := hid (Nat.le_trans (delN_len _ _) HLM.out)
  clear h hl hn
  have q0 : wA.cell? ⟨xb, 0, none⟩ = some (.int .i64 2) := HB.out.1.cell 0
  have q1 : wA.cell? ⟨xb, 1, none⟩ = some (.string src) := HB.out.1.cell 1
  have q2 : wA.cell? ⟨xb, 2, none⟩ = some (.string dst) := HB.out.1.cell 2
  have q3 : wA.cell? ⟨xb, 3, none⟩ = some (.int .i64 (f : Nat)) := HB.out.1.cell 3
  go_enter Try.func71, Try.ntmps71
  go_wp2_with fail
  rw [← hwA, ← hxb]
  clear hwA hxb
  go_wp2_with fail
  go_region_held3 (fun w' => w'.cell? ⟨xb, 1, none⟩ = some (.string src) ∧ w'.cell? ⟨xb, 2, none⟩ = some (.string dst) ∧ w'.cell? ⟨xb, 3, none⟩ = some (.int .i64 (f : Nat)))
    (first | (go_split_ands; exact ⟨HK3.out.cell (by assumption) (fun f => f), HK3.out.cell (by assumption) (fun f => f), HK3.out.cell (by assumption) (fun f => f)⟩) | (go_split_ands; exact ⟨HK5.out.cell (by assumption) (fun f => f), HK5.out.cell (by assumption) (fun f => f), HK5.out.cell (by assumption) (fun f => f)⟩) | (go_split_ands; exact ⟨HK4.out.cell (by assumption) (fun f => f), HK4.out.cell (by assumption) (fun f => f), HK4.out.cell (by assumption) (fun f => f)⟩) | (go_split_ands; exact ⟨by assumption, by assumption, by assumption⟩) | go_keep)
    (first
      | (go_at_call 41; refine (rwithout_any _ _ _ _ HR3.out HLM.out dst).mono ?_; rintro e w5 ⟨v5, rfl, hr5, k5⟩; have HK5 := hid k5; have HR5 := hid hr5; obtain ⟨a5, c5, hv5, _⟩ := hr5.shape; obtain ⟨n5, hn5⟩ : ∃ n, n = (delN dst (delN src L)).length := ⟨_, rfl⟩; rw [← hn5] at hv5; subst hv5; clear hr5 k5 hn5)
      | (go_at_call 41; refine (HW.out _ (by first | exact (Kept.refl _ _).drew | exact Kept.refl _ _)).mono ?_; rintro e w3 ⟨v3, rfl, hr3, k3⟩; have HK3 := hid k3; have HR3 := hid hr3; obtain ⟨a3, c3, hv3, _⟩ := hr3.shape; obtain ⟨n3, hn3⟩ : ∃ n, n = (delN src L).length := ⟨_, rfl⟩; rw [← hn3] at hv3; subst hv3; clear hr3 k3 hn3)
      | (go_at_call 77; refine (rwith_any _ _ _ _ HR5.out HLN.out dst f (delN_none dst _)).mono ?_; rintro e w4 ⟨v4, rfl, hr4, k4⟩; have HK4 := hid k4; have HR4 := hid hr4; obtain ⟨a4, c4, hv4, _⟩ := hr4.shape; obtain ⟨n4, hn4⟩ : ∃ n, n = (insN (dst, f) (delN dst (delN src L))).length := ⟨_, rfl⟩; rw [← hn4] at hv4; subst hv4; clear hr4 k4 hn4))
  go_wp2_with fail
  go_ret
  have k3 : Same wA w3 := Kept.undrew9 HK3.out
  exact ⟨_, rfl, HR4.out.base (Nat.le_trans HB.out.2.size (Nat.le_trans k3.size HK5.out.size)), Same.trans HB.out.2 (Same.trans k3 (Same.trans HK5.out HK4.out))⟩

include hne

/-- apply, of any change. -/
theorem rapply_any (c : Chg) :
    Calls Try.prog 71 #[v, rcV c] w fun e w' => ∃ v', e = .returned v' ∧ RowC w.heap.size 99 2 nnE w' v' (appN c L) ∧ Same w w' := by
  unfold rcV kdN appN
  by_cases h1 : c.dst.size = 0
  · rw [if_pos h1, if_pos h1]
    exact rapply_gone w N v L h hl c.src c.dst c.f
  · rw [if_neg h1, if_neg h1]
    by_cases h2 : c.src.size = 0
    · rw [if_pos h2, delN_empty h2 hne]
      exact rapply_new w N v L h hl c.src c.dst c.f
    · rw [if_neg h2]
      exact rapply_move w N v L h hl c.src c.dst c.f

end

end Go.Proofs.Ytjcobogajkfnmaa

/-
  Layer 9: the reference's choices.
-/
namespace Go.Proofs.Ytjcobogajkfnmaa
open Go.RowKit Go.Maps

set_option maxHeartbeats 400000 in
theorem rsays_any (w : World) (c : Int) (n : Nat) (h1 : -9223372036854775808 ≤ c) (h2 : c ≤ 9223372036854775807) (hn : n ≤ 1000000000) :
    Calls Try.prog 69 #[.int .i64 c, .int .i64 (n : Nat)] w fun e w' => e = .returned (.int .i64 (sayN c n : Nat)) ∧ w' = w := by
  obtain ⟨n1, hn1⟩ : ∃ m, m = n + 1 := ⟨_, rfl⟩
  obtain ⟨x, hx⟩ : ∃ x, x = chN c := ⟨_, rfl⟩
  obtain ⟨r, hr⟩ : ∃ r, r = x % n1 := ⟨_, rfl⟩
  have HR : Hid (sayN c n = r) := hid (by unfold sayN; rw [← hx, ← hn1, hr])
  have q1 : (n : Int) + 1 = (n1 : Int) := by omega
  have q1w : IntKind.i64.wrap (n1 : Int) = (n1 : Int) := by rw [IntKind.wrap_i64]; omega
  have q2 : ¬ (n1 : Int) = 0 := by omega
  have q2' : ¬ n1 = 0 := by omega
  have hxc : (c < 0 → (x : Int) = -(c + 1)) ∧ (¬ c < 0 → (x : Int) = c) := by
    rw [hx]; unfold chN
    constructor
    · intro h; rw [if_pos h]; omega
    · intro h; rw [if_neg h]; omega
  have q3 : Int.tmod (x : Int) (n1 : Int) = (r : Int) := by rw [hr]; exact (Int.ofNat_tmod x n1).symm
  have q3' : (x : Int) % (n1 : Int) = (r : Int) := by rw [hr]; exact (Int.natCast_emod x n1).symm
  have hrl : r < n1 := by rw [hr]; exact Nat.mod_lt _ (by omega)
  have q3w : IntKind.i64.wrap (r : Int) = (r : Int) := by rw [IntKind.wrap_i64]; omega
  by_cases h0 : c < 0
  · have b1 : decide (c < 0) = true := by simp; omega
    have w1 : IntKind.i64.wrap (c + 1) = c + 1 := by rw [IntKind.wrap_i64]; omega
    have e1 : -(c + 1) = (x : Int) := (hxc.1 h0).symm
    have w2 : IntKind.i64.wrap (x : Int) = (x : Int) := by rw [IntKind.wrap_i64]; omega
    clear hxc hr hx hn1 h0 hrl
    go_enter Try.func69, Try.ntmps69
    go_wp2_with fail
    go_ret
    exact ⟨by rw [HR.out]; rfl, rfl⟩
  · have b1 : decide (c < 0) = false := by simp; omega
    have e1 : c = (x : Int) := (hxc.2 h0).symm
    subst e1
    clear hxc hr hx hn1 h0 hrl
    go_enter Try.func69, Try.ntmps69
    go_wp2_with fail
    go_ret
    exact ⟨by rw [HR.out]; rfl, rfl⟩

set_option maxHeartbeats 400000 in
theorem rchoice_out (w : World) (a : Option Addr) (len cap k : Nat) (h : len ≤ k) :
    Calls Try.prog 70 #[.slice a len cap, .int .i64 (k : Nat)] w fun e w' => e = .returned (.int .i64 0) ∧ w' = w := by
  have b1 : decide ((k : Int) < (len : Int)) = false := by simp; omega
  have b1' : decide (k < len) = false := by simp; omega
  go_enter Try.func70, Try.ntmps70
  go_wp2_with fail
  go_ret
  exact ⟨rfl, rfl⟩

set_option maxHeartbeats 400000 in
theorem rchoice_in (w : World) (b o len cap k : Nat) (h : k < len) (z : Int) (hz : w.cell? ⟨b, o + k, none⟩ = some (.int .i64 z)) :
    Calls Try.prog 70 #[.slice (some ⟨b, o, none⟩) len cap, .int .i64 (k : Nat)] w fun e w' => e = .returned (.int .i64 z) ∧ w' = w := by
  have b1 : decide ((k : Int) < (len : Int)) = true := by simp; omega
  have b1' : decide (k < len) = true := by simp; omega
  have i1 : (0 : Int) ≤ (k : Int) := by omega
  have i2 : (k : Int) < (len : Int) := by omega
  go_enter Try.func70, Try.ntmps70
  go_wp2_with fail
  go_ret
  exact ⟨rfl, rfl⟩

/-- The choice at a place. -/
theorem rchoice_any (w : World) (I : Nat → Prop) (xv : Value) (cs : List Int) (hsrc : SrcE intV w I xv cs) (k : Nat) :
    Calls Try.prog 70 #[xv, .int .i64 (k : Nat)] w fun e w' => e = .returned (.int .i64 (pkN cs k)) ∧ w' = w := by
  obtain ⟨a, cap, rfl, _, hc⟩ := hsrc
  by_cases hk : k < cs.length
  · obtain ⟨b, o, rfl, _, h⟩ := hc (fun e => by rw [e] at hk; simp at hk)
    have h9 := rchoice_in w b o cs.length cap k hk cs[k] (h k hk)
    rw [show pkN cs k = cs[k] by simp [pkN, hk]]
    exact h9
  · have h9 := rchoice_out w a cs.length cap k (by omega)
    rw [show pkN cs k = 0 by simp [pkN, List.getElem?_eq_none (show cs.length ≤ k by omega)]]
    exact h9

set_option maxRecDepth 100000 in
set_option maxHeartbeats 1000000 in
theorem rstep_raw {w : World} {d : Nat} {c0 c1 c2 c3 c4 : Value} {st : Nat} {lf : Int} (hb : Blk w d #[c0, c1, c2, c3, c4, .int .i64 (st : Nat), .int .i64 lf] 67) (hst : st ≤ 1000000000) (hl : -1 ≤ lf ∧ lf ≤ 9223372036854775807) (h0 : lf ≠ 0) :
    Calls Try.prog 68 #[.pointer (some ⟨d, 0, none⟩)] w fun e w' => e = .returned (.int .i64 0) ∧ Blk w' d #[c0, c1, c2, c3, c4, .int .i64 (st + 1 : Nat), .int .i64 (if lf = -1 then -1 else lf - 1)] 67 ∧ Kept (· = d) w w' := by
  have HB : Hid (Blk w d #[c0, c1, c2, c3, c4, .int .i64 (st : Nat), .int .i64 lf] 67) := hb
  have k5 : w.cell? ⟨d, 5, none⟩ = some (.int .i64 (st : Nat)) := hb.cell 5
  have k6 : w.cell? ⟨d, 6, none⟩ = some (.int .i64 lf) := hb.cell 6
  have z5 := hb.frozen 5
  have z6 := hb.frozen 6
  obtain ⟨st1, hst1⟩ : ∃ n, n = st + 1 := ⟨_, rfl⟩
  have q1 : (st : Int) + 1 = (st1 : Int) := by omega
  have q1w : IntKind.i64.wrap (st1 : Int) = (st1 : Int) := by rw [IntKind.wrap_i64]; omega
  have HS1 : Hid (st1 = st + 1) := hst1
  clear hb hst1
  by_cases hn : lf = -1
  · have b1 : decide ((0 : Int) < lf) = false := by simp; omega
    have HN : Hid (lf = -1) := hn
    clear hn h0 hl
    go_enter Try.func68, Try.ntmps68
    go_wp2_with fail
    go_ret
    refine ⟨rfl, ?_, (Kept.refl (· = d) w).setCell _ _ (.inl rfl)⟩
    have h9 := HB.out.set 5 (.int .i64 (st1 : Nat))
    rw [HN.out] at h9
    simpa using h9
  · have b1 : decide ((0 : Int) < lf) = true := by simp; omega
    have q2w : IntKind.i64.wrap (lf - 1) = lf - 1 := by rw [IntKind.wrap_i64]; omega
    have HN : Hid (¬ lf = -1) := hn
    clear hn h0 hl
    go_enter Try.func68, Try.ntmps68
    go_wp2_with fail
    go_ret
    refine ⟨rfl, ?_, ((Kept.refl (· = d) w).setCell _ _ (.inl rfl)).setCell _ _ (.inl rfl)⟩
    have h9 := (HB.out.set 5 (.int .i64 (st1 : Nat))).set 6 (.int .i64 (lf - 1))
    simpa using h9

end Go.Proofs.Ytjcobogajkfnmaa

/-
  Layer 9: what may be a name, by the reference.
-/
namespace Go.Proofs.Ytjcobogajkfnmaa
open Go.RowKit Go.Maps

set_option maxRecDepth 100000 in
set_option maxHeartbeats 4000000 in
theorem rname9_any (w : World) (s : ByteArray) (hn : s.size ≤ 100000000) :
    Calls Try.prog 65 #[.string s] w fun e w' => e = .returned (.bool (nam9 s)) ∧ w' = w := by
  obtain ⟨n, hnn⟩ : ∃ n, n = s.size := ⟨_, rfl⟩
  have HN : Hid (n = s.size ∧ (by9 s).length = n) := hid ⟨hnn, by rw [by9_size, hnn]⟩
  have hlen : (s.size : Int) = (n : Int) := by rw [hnn]
  have HG : Hid (nam9 s = (decide (1 ≤ n) && decide (n ≤ 32) && (by9 s).all let9)) := hid (by rw [hnn]; rfl)
  have hnb : n ≤ 100000000 := by omega
  clear hnn hn
  by_cases h1 : n < 1
  · have HF : Hid (nam9 s = false) := hid (by rw [HG.out, decide_eq_false (by omega)]; rfl)
    go_enter Try.func65, Try.ntmps65
    go_wp2_with fail
    all_goals
      go_ret
      exact ⟨by rw [HF.out]; rfl, rfl⟩
  · by_cases h2 : 32 < n
    · have HF : Hid (nam9 s = false) := hid (by rw [HG.out, decide_eq_false (p := n ≤ 32) (by omega), Bool.and_false]; rfl)
      go_enter Try.func65, Try.ntmps65
      go_wp2_with fail
      all_goals
        go_ret
        exact ⟨by rw [HF.out]; rfl, rfl⟩
    · have HF : Hid (nam9 s = (by9 s).all let9) := hid (by rw [HG.out, decide_eq_true (p := 1 ≤ n) (by omega), decide_eq_true (p := n ≤ 32) (by omega)]; rfl)
      clear HG
      go_enter Try.func65, Try.ntmps65
      go_wp2_with fail
      go_loopg [3] n (fun k z3 wr => ∃ i : Nat, z3 = .int .i64 (i : Nat) ∧ n - i ≤ k ∧ wr = w ∧ i ≤ n ∧ Hid (nam9 s = ((by9 s).drop i).all let9))
      case atStart => exact ⟨0, rfl, by omega, rfl, by omega, hid HF.out⟩
      case round =>
        obtain ⟨i, rfl, hk, rfl, hi, HI⟩ := hrel
        by_cases hin : i < n
        · have hiw : IntKind.i64.wrap ((i : Int) + 1) = ((i + 1 : Nat) : Int) := by rw [IntKind.wrap_i64]; omega
          have b1 : decide (i < n) = true := by simp; omega
          have i1 : (0 : Int) ≤ (i : Int) := by omega
          have i2 : (i : Int) < (n : Int) := by omega
          have hs : i < s.size := by have := HN.out.1; omega
          have hat := by9_at s i hs
          obtain ⟨c, hc⟩ : ∃ c, c = s[i].toNat := ⟨_, rfl⟩
          have hc256 : c < 256 := by rw [hc]; exact UInt8.toNat_lt _
          rw [← hc] at hat
          have hD : (by9 s).drop i = c :: (by9 s).drop (i + 1) := by
            rw [List.drop_eq_getElem_cons (List.getElem?_eq_some_iff.1 hat).1, (List.getElem?_eq_some_iff.1 hat).2]
          have HI2 : Hid (nam9 s = (let9 c && ((by9 s).drop (i + 1)).all let9)) := hid (by rw [HI.out, hD]; rfl)
          have hxI : (s[i].toNat : Int) = (c : Int) := by rw [hc]
          clear hD hat hc HI
          rcases (by omega : (c < 45) ∨ (c = 45) ∨ (c = 46) ∨ (c = 47) ∨ (48 ≤ c ∧ c ≤ 57) ∨ (58 ≤ c ∧ c ≤ 96) ∨ (97 ≤ c ∧ c ≤ 122) ∨ (122 < c)) with h | h | h | h | h | h | h | h
          · have b2 : decide ((c : Int) < 97) = true := by simp; omega
            have n2 : decide (c < 97) = true := by simp; omega
            have b3 : decide ((122 : Int) < (c : Int)) = false := by simp; omega
            have n3 : decide (122 < c) = false := by simp; omega
            have b4 : decide ((c : Int) < 48) = true := by simp; omega
            have n4 : decide (c < 48) = true := by simp; omega
            have b5 : decide ((57 : Int) < (c : Int)) = false := by simp; omega
            have n5 : decide (57 < c) = false := by simp; omega
            have b6 : ((c : Int) != 46) = true := by simp; omega
            have b7 : ((c : Int) != 45) = true := by simp; omega
            have HR : let9 c = false := by unfold let9; simp; omega
            rw [HR] at HI2
            clear h HR hc256
            go_wp2_with fail
            go_ret
            exact ⟨by rw [HI2.out]; rfl, rfl⟩
          · have b2 : decide ((c : Int) < 97) = true := by simp; omega
            have n2 : decide (c < 97) = true := by simp; omega
            have b3 : decide ((122 : Int) < (c : Int)) = false := by simp; omega
            have n3 : decide (122 < c) = false := by simp; omega
            have b4 : decide ((c : Int) < 48) = true := by simp; omega
            have n4 : decide (c < 48) = true := by simp; omega
            have b5 : decide ((57 : Int) < (c : Int)) = false := by simp; omega
            have n5 : decide (57 < c) = false := by simp; omega
            have b6 : ((c : Int) != 46) = true := by simp; omega
            have b7 : ((c : Int) != 45) = false := by simp; omega
            have HR : let9 c = true := by unfold let9; simp; omega
            rw [HR] at HI2
            clear h HR hc256
            go_wp2_with fail
            go_roundg (gk - 1)
            case measure => omega
            case rel => exact ⟨i + 1, by go_num, by omega, rfl, by omega, hid (by rw [HI2.out]; rfl)⟩
          · have b2 : decide ((c : Int) < 97) = true := by simp; omega
            have n2 : decide (c < 97) = true := by simp; omega
            have b3 : decide ((122 : Int) < (c : Int)) = false := by simp; omega
            have n3 : decide (122 < c) = false := by simp; omega
            have b4 : decide ((c : Int) < 48) = true := by simp; omega
            have n4 : decide (c < 48) = true := by simp; omega
            have b5 : decide ((57 : Int) < (c : Int)) = false := by simp; omega
            have n5 : decide (57 < c) = false := by simp; omega
            have b6 : ((c : Int) != 46) = false := by simp; omega
            have b7 : ((c : Int) != 45) = true := by simp; omega
            have HR : let9 c = true := by unfold let9; simp; omega
            rw [HR] at HI2
            clear h HR hc256
            go_wp2_with fail
            go_roundg (gk - 1)
            case measure => omega
            case rel => exact ⟨i + 1, by go_num, by omega, rfl, by omega, hid (by rw [HI2.out]; rfl)⟩
          · have b2 : decide ((c : Int) < 97) = true := by simp; omega
            have n2 : decide (c < 97) = true := by simp; omega
            have b3 : decide ((122 : Int) < (c : Int)) = false := by simp; omega
            have n3 : decide (122 < c) = false := by simp; omega
            have b4 : decide ((c : Int) < 48) = true := by simp; omega
            have n4 : decide (c < 48) = true := by simp; omega
            have b5 : decide ((57 : Int) < (c : Int)) = false := by simp; omega
            have n5 : decide (57 < c) = false := by simp; omega
            have b6 : ((c : Int) != 46) = true := by simp; omega
            have b7 : ((c : Int) != 45) = true := by simp; omega
            have HR : let9 c = false := by unfold let9; simp; omega
            rw [HR] at HI2
            clear h HR hc256
            go_wp2_with fail
            go_ret
            exact ⟨by rw [HI2.out]; rfl, rfl⟩
          · have b2 : decide ((c : Int) < 97) = true := by simp; omega
            have n2 : decide (c < 97) = true := by simp; omega
            have b3 : decide ((122 : Int) < (c : Int)) = false := by simp; omega
            have n3 : decide (122 < c) = false := by simp; omega
            have b4 : decide ((c : Int) < 48) = false := by simp; omega
            have n4 : decide (c < 48) = false := by simp; omega
            have b5 : decide ((57 : Int) < (c : Int)) = false := by simp; omega
            have n5 : decide (57 < c) = false := by simp; omega
            have b6 : ((c : Int) != 46) = true := by simp; omega
            have b7 : ((c : Int) != 45) = true := by simp; omega
            have HR : let9 c = true := by unfold let9; simp; omega
            rw [HR] at HI2
            clear h HR hc256
            go_wp2_with fail
            go_roundg (gk - 1)
            case measure => omega
            case rel => exact ⟨i + 1, by go_num, by omega, rfl, by omega, hid (by rw [HI2.out]; rfl)⟩
          · have b2 : decide ((c : Int) < 97) = true := by simp; omega
            have n2 : decide (c < 97) = true := by simp; omega
            have b3 : decide ((122 : Int) < (c : Int)) = false := by simp; omega
            have n3 : decide (122 < c) = false := by simp; omega
            have b4 : decide ((c : Int) < 48) = false := by simp; omega
            have n4 : decide (c < 48) = false := by simp; omega
            have b5 : decide ((57 : Int) < (c : Int)) = true := by simp; omega
            have n5 : decide (57 < c) = true := by simp; omega
            have b6 : ((c : Int) != 46) = true := by simp; omega
            have b7 : ((c : Int) != 45) = true := by simp; omega
            have HR : let9 c = false := by unfold let9; simp; omega
            rw [HR] at HI2
            clear h HR hc256
            go_wp2_with fail
            go_ret
            exact ⟨by rw [HI2.out]; rfl, rfl⟩
          · have b2 : decide ((c : Int) < 97) = false := by simp; omega
            have n2 : decide (c < 97) = false := by simp; omega
            have b3 : decide ((122 : Int) < (c : Int)) = false := by simp; omega
            have n3 : decide (122 < c) = false := by simp; omega
            have b4 : decide ((c : Int) < 48) = false := by simp; omega
            have n4 : decide (c < 48) = false := by simp; omega
            have b5 : decide ((57 : Int) < (c : Int)) = true := by simp; omega
            have n5 : decide (57 < c) = true := by simp; omega
            have b6 : ((c : Int) != 46) = true := by simp; omega
            have b7 : ((c : Int) != 45) = true := by simp; omega
            have HR : let9 c = true := by unfold let9; simp; omega
            rw [HR] at HI2
            clear h HR hc256
            go_wp2_with fail
            go_roundg (gk - 1)
            case measure => omega
            case rel => exact ⟨i + 1, by go_num, by omega, rfl, by omega, hid (by rw [HI2.out]; rfl)⟩
          · have b2 : decide ((c : Int) < 97) = false := by simp; omega
            have n2 : decide (c < 97) = false := by simp; omega
            have b3 : decide ((122 : Int) < (c : Int)) = true := by simp; omega
            have n3 : decide (122 < c) = true := by simp; omega
            have b4 : decide ((c : Int) < 48) = false := by simp; omega
            have n4 : decide (c < 48) = false := by simp; omega
            have b5 : decide ((57 : Int) < (c : Int)) = true := by simp; omega
            have n5 : decide (57 < c) = true := by simp; omega
            have b6 : ((c : Int) != 46) = true := by simp; omega
            have b7 : ((c : Int) != 45) = true := by simp; omega
            have HR : let9 c = false := by unfold let9; simp; omega
            rw [HR] at HI2
            clear h HR hc256
            go_wp2_with fail
            go_ret
            exact ⟨by rw [HI2.out]; rfl, rfl⟩
        · have b1 : decide (i < n) = false := by simp; omega
          have HD : Hid (nam9 s = true) := hid (by rw [HI.out, List.drop_eq_nil_of_le (by have := HN.out; omega)]; rfl)
          clear HI
          go_wp2_with fail
          go_ret
          exact ⟨by rw [HD.out]; rfl, rfl⟩

end Go.Proofs.Ytjcobogajkfnmaa

/-
  Layer 9: the reference's disk: one step; Stop.
-/
namespace Go.Proofs.Ytjcobogajkfnmaa
open Go.RowKit Go.Maps

/-- What a call of the reference's disk tells: an error and nothing else, or the state behind it. -/
def RStp (N : Nat) (w : World) (r : Nat) (ρ : Rho) (x : Except Nat Ds) (e : Ending) (w' : World) : Prop :=
  (∀ k, x = .error k → e = .returned (.int .i64 (k : Nat)) ∧ Same w w') ∧
  ∀ s', x = .ok s' → e = .returned (.int .i64 0) ∧ ∃ F' ρ', RfX N w' r s' F' ρ' ∧ MoR w ρ ρ' ∧ Kept (fun k => ρ k ≠ 0 ∧ ρ k ≠ 9) w w'

section
variable {N : Nat} {w : World} {r : Nat} {s : Ds} {F : List Fv} {ρ : Rho} {fv nv sv cv : Value}

/-- The disk's own cells are set anew, its rows stay. -/
theorem Rf.setBlk (h : Rf N w r s F ρ fv nv sv cv) {w' : World} {s' : Ds} (hk : Kept (· = r) w w')
    (hb : Blk w' r #[.int .i64 (s'.room : Nat), fv, nv, sv, cv, .int .i64 (s'.steps : Nat), .int .i64 s'.left] 67)
    (e1 : s'.room = s.room) (e2 : s'.names = s.names) (e3 : s'.safe = s.safe) (e4 : s'.chg = s.chg) (e5 : s'.fl = s.fl) (hst : s.steps ≤ s'.steps) (hl : -1 ≤ s'.left ∧ s'.left ≤ 9223372036854775807) : Rf N w' r s' F ρ fv nv sv cv := by
  have hn : ∀ k, ρ k ≠ 1 → ¬ k = r := fun k h1 h2 => h1 (by rw [h2]; exact h.rb)
  refine ⟨hb, h.fil.kept hk (fun k e => hn k (by rw [h.rf k e]; decide)), by rw [e2]; exact h.now.kept hk (fun k e => hn k (by rw [h.rn k e]; decide)), by rw [e3]; exact h.saf.kept hk (fun k e => hn k (by rw [h.rs k e]; decide)), by rw [e4]; exact h.chg.kept hk (fun k e => hn k (by rw [h.rc k e]; decide)), fun k x e => ?_, by rw [e2]; exact h.nmf, by rw [e3]; exact h.sff, by rw [e4]; exact h.chf, h.rb, h.rf, h.rn, h.rs, h.rc, fun k hk2 => ⟨(h.new k hk2).1, Nat.lt_of_lt_of_le (h.new k hk2).2 hk.size⟩, by rw [e1]; exact h.room, by rw [e2, e3, e4]; have := h.lens; omega, hl, by rw [e2, e3]; exact h.ne⟩
  obtain ⟨h1, h2⟩ := h.fl k x e
  rw [e5, e1]
  exact ⟨h1, h2.src.kept hk (fun j i _ e => hn j (by rw [i]; decide) e), h2.len, h2.nil, h2.cap, h2.safe, h2.byte, h2.room⟩

/-- step. -/
theorem rstep_any (h : Rf N w r s F ρ fv nv sv cv) (hst : s.steps ≤ 1000000) (h0 : s.left ≠ 0) :
    Calls Try.prog 68 #[.pointer (some ⟨r, 0, none⟩)] w fun e w' => e = .returned (.int .i64 0) ∧ Rf N w' r (stepS s) F ρ fv nv sv cv ∧ Kept (· = r) w w' := by
  refine (rstep_raw h.blk (by omega) h.left h0).mono (fun e w' hp => ?_)
  obtain ⟨h1, h2, h3⟩ := hp
  refine ⟨h1, h.setBlk (s' := stepS s) h3 h2 rfl rfl rfl rfl rfl (Nat.le_succ _) ?_, h3⟩
  have := h.left
  show -1 ≤ (if s.left = -1 then -1 else s.left - 1) ∧ (if s.left = -1 then -1 else s.left - 1) ≤ _
  split <;> omega

set_option maxHeartbeats 400000 in
theorem rstop_any (h : Rf N w r s F ρ fv nv sv cv) (hF : F.length ≤ s.steps) (m : Int) (hm : m ≤ 9223372036854775807) :
    Calls Try.prog 50 #[.pointer (some ⟨r, 0, none⟩), .int .i64 m] w fun e w' => RStp N w r ρ (stpS s m) e w' := by
  have HDN := rdown_any w r s.left (h.blk.cell 6)
  by_cases hl : s.left = 0
  · rw [show (s.left == 0) = true by simp [hl]] at HDN
    have HR : Hid (stpS s m = .error 94) := hid (if_pos hl)
    clear h hl
    go_enter Try.func50, Try.ntmps50
    go_wp2_with fail
    refine HDN.mono ?_
    rintro e w1 ⟨rfl, hw1⟩
    subst hw1
    go_wp2_with fail
    go_ret
    exact ⟨fun k e => by rw [HR.out] at e; cases e; exact ⟨rfl, Kept.refl _ _⟩, fun s' e => by rw [HR.out] at e; cases e⟩
  · rw [show (s.left == 0) = false by simp [hl]] at HDN
    by_cases h0 : m < 0
    · have b1 : decide (m < 0) = true := by simp; omega
      have HR : Hid (stpS s m = .error 1) := hid (by unfold stpS; rw [if_neg hl, if_pos h0])
      clear h hl h0
      go_enter Try.func50, Try.ntmps50
      go_wp2_with fail
      refine HDN.mono ?_
      rintro e w1 ⟨rfl, hw1⟩
      subst hw1
      go_wp2_with fail
      go_ret
      exact ⟨fun k e => by rw [HR.out] at e; cases e; exact ⟨rfl, Kept.refl _ _⟩, fun s' e => by rw [HR.out] at e; cases e⟩
    · have b1 : decide (m < 0) = false := by simp; omega
      have HR : Hid (stpS s m = .ok { s with left := m }) := hid (by unfold stpS; rw [if_neg hl, if_neg h0])
      have c6 : w.cell? ⟨r, 6, none⟩ = some (.int .i64 s.left) := h.blk.cell 6
      have z6 := h.blk.frozen 6
      have HD : Hid (Rf N w r s F ρ fv nv sv cv ∧ -1 ≤ m) := hid ⟨h, by omega⟩
      clear h hl h0
      go_enter Try.func50, Try.ntmps50
      go_wp2_with fail
      refine HDN.mono ?_
      rintro e w1 ⟨rfl, hw1⟩
      subst hw1
      go_wp2_with fail
      go_ret
      have hk : Kept (· = r) w1 (w1.setCell ⟨r, 6, none⟩ (.int .i64 m)) := (Kept.refl (· = r) w1).setCell _ _ (.inl rfl)
      refine ⟨fun k e => (by rw [HR.out] at e; cases e), fun s' e => ?_⟩
      rw [HR.out] at e
      cases e
      refine ⟨rfl, F, ρ, ⟨fv, nv, sv, cv, HD.out.1.setBlk (s' := { s with left := m }) hk ?_ rfl rfl rfl rfl rfl (Nat.le_refl _) ⟨HD.out.2, hm⟩, hF⟩, MoR.refl _ _, Kept.mono hk (fun k _ e => by rw [e, HD.out.1.rb]; decide)⟩
      have h9 := HD.out.1.blk.set 6 (.int .i64 m)
      simpa using h9

end

end Go.Proofs.Ytjcobogajkfnmaa

/-
  Layer 9: the reference's disk: SyncDir.
-/
namespace Go.Proofs.Ytjcobogajkfnmaa
open Go.RowKit Go.Maps

section
variable {N : Nat} {w : World} {r : Nat} {s : Ds} {F : List Fv} {ρ : Rho} {fv nv sv cv : Value}

/-- A block that was just made is a row of the disk from now on. -/
def giveR (ρ : Rho) (v : Value) (x : Nat) : Rho := fun k => if v.ownBlock = some k then x else ρ k

theorem giveR_old {v : Value} {x k : Nat} (h : ¬ v.ownBlock = some k) : giveR ρ v x k = ρ k := if_neg h
theorem giveR_new {v : Value} {x k : Nat} (h : v.ownBlock = some k) : giveR ρ v x k = x := if_pos h

theorem Rf.old (h : Rf N w r s F ρ fv nv sv cv) {v : Value} (hv : ∀ k, v.ownBlock = some k → w.heap.size ≤ k) {k : Nat} (hk : ρ k ≠ 0) : ¬ v.ownBlock = some k := fun e => by
  have := (h.new k hk).2
  have := hv k e
  omega

/-- The safe names are a new row of the names, the changes none. -/
theorem Rf.syncs (h : Rf N w r s F ρ fv nv sv cv) (hN : N ≤ w.heap.size) {w2 w3 : World} {v2 : Value} (hk : Same w w2) (hr : RowC w.heap.size 99 2 nnE w2 v2 s.names) (hk3 : Kept (· = r) w2 w3)
    (hb : Blk w3 r #[.int .i64 (s.room : Nat), fv, nv, v2, .slice none 0 0, .int .i64 (s.steps : Nat), .int .i64 s.left] 67) :
    Rf N w3 r { s with safe := s.names, chg := [] } F (giveR ρ v2 4) fv nv v2 (.slice none 0 0) ∧ MoR w ρ (giveR ρ v2 4) ∧ Kept (fun k => ρ k ≠ 0 ∧ ρ k ≠ 9) w w3 := by
  have hg : ∀ k, v2.ownBlock = some k → w.heap.size ≤ k := fun k e => hr.ge e
  have hne : ∀ k, ρ k ≠ 0 → giveR ρ v2 4 k = ρ k := fun k h0 => giveR_old (h.old hg h0)
  have hn : ∀ k, ρ k ≠ 0 → ρ k ≠ 1 → ¬ k = r := fun k _ h1 h2 => h1 (by rw [h2]; exact h.rb)
  have hrb : ¬ v2.ownBlock = some r := h.old hg (by rw [h.rb]; decide)
  refine ⟨⟨hb, ?_, ?_, ?_, RowC.nil, fun k x e => ?_, h.nmf, h.nmf, fun c hc => (by cases hc), ?_, fun k e => ?_, fun k e => ?_, fun k e => giveR_new e, fun k e => (by cases e), fun k h0 => ?_, h.room, ?_, h.left, ⟨h.ne.1, h.ne.1⟩⟩, fun k => ?_, ?_⟩
  · exact (h.fil.kept hk (fun _ _ f => f)).kept hk3 (fun k e => hn k (by rw [h.rf k e]; decide) (by rw [h.rf k e]; decide))
  · exact (h.now.kept hk (fun _ _ f => f)).kept hk3 (fun k e => hn k (by rw [h.rn k e]; decide) (by rw [h.rn k e]; decide))
  · exact (hr.kept hk3 (fun k e e2 => hrb (by rw [← e2]; exact e))).base hN
  · obtain ⟨h1, h2⟩ := h.fl k x e
    refine ⟨h1, ((h2.src.kept hk (fun _ _ _ f => f)).kept hk3 (fun j i _ e => hn j (by rw [i]; decide) (by rw [i]; decide) e)).mono (fun j i => by rw [hne j (by rw [i]; decide)]; exact i), h2.len, h2.nil, h2.cap, h2.safe, h2.byte, h2.room⟩
  · rw [hne r (by rw [h.rb]; decide)]; exact h.rb
  · rw [hne k (by rw [h.rf k e]; decide)]; exact h.rf k e
  · rw [hne k (by rw [h.rn k e]; decide)]; exact h.rn k e
  · by_cases e : v2.ownBlock = some k
    · exact ⟨Nat.le_trans hN (hg k e), Nat.lt_of_lt_of_le (hr.lt e) hk3.size⟩
    · rw [giveR_old e] at h0
      exact ⟨(h.new k h0).1, Nat.lt_of_lt_of_le (h.new k h0).2 (Nat.le_trans hk.size hk3.size)⟩
  · have h9 := h.lens
    exact ⟨h9.1, by simpa using h9.1, h9.2.2⟩
  · by_cases e : v2.ownBlock = some k
    · exact .inr (.inr (hg k e))
    · exact .inr (.inl (giveR_old e))
  · exact Kept.trans hk hk3 (fun _ _ f => f.elim) (fun k _ e => by rw [e, h.rb]; decide)

set_option maxRecDepth 100000 in
set_option maxHeartbeats 1000000 in
theorem rsyncdir_any (h : Rf N w r s F ρ fv nv sv cv) (hst : s.steps ≤ 1000000) (hN : N ≤ w.heap.size) :
    Calls Try.prog 49 #[.pointer (some ⟨r, 0, none⟩)] w fun e w' => RStp N w r ρ (sydS s) e w' := by
  have HDN := rdown_any w r s.left (h.blk.cell 6)
  by_cases hl : s.left = 0
  · rw [show (s.left == 0) = true by simp [hl]] at HDN
    have HR : Hid (sydS s = .error 94) := hid (if_pos hl)
    clear h hl
    go_enter Try.func49, Try.ntmps49
    go_wp2_with fail
    refine HDN.mono ?_
    rintro e w1 ⟨rfl, hw1⟩
    subst hw1
    go_wp2_with fail
    go_ret
    exact ⟨fun k e => (by rw [HR.out] at e; cases e; exact ⟨rfl, Kept.refl _ _⟩), fun s' e => by rw [HR.out] at e; cases e⟩
  · rw [show (s.left == 0) = false by simp [hl]] at HDN
    have HR : Hid (sydS s = .ok (stepS { s with safe := s.names, chg := [] }) ∧ s.left ≠ 0 ∧ s.steps ≤ 1000000 ∧ N ≤ w.heap.size) := hid ⟨if_neg hl, hl, hst, hN⟩
    have HW := rwithout_any w N nv s.names h.now (by have := h.lens; omega) ⟨#[]⟩
    rw [delN_empty (t := ⟨#[]⟩) rfl h.ne.1] at HW
    obtain ⟨a2, q2, hnv, _⟩ := h.now.shape
    obtain ⟨n2, hn2⟩ : ∃ n, n = s.names.length := ⟨_, rfl⟩
    rw [← hn2] at hnv
    subst hnv
    have c2 : w.cell? ⟨r, 2, none⟩ = some (.slice a2 n2 q2) := h.blk.cell 2
    have HD : Hid (Rf N w r s F ρ fv (.slice a2 n2 q2) sv cv) := h
    clear h hl hst hN hn2
    go_enter Try.func49, Try.ntmps49
    go_wp2_with fail
    refine HDN.mono ?_
    rintro e w1 ⟨rfl, hw1⟩
    subst hw1
    clear HDN
    go_wp2_with fail
    refine HW.mono ?_
    rintro e w2 ⟨v2, rfl, hr2, k2⟩
    have hb2 := HD.out.blk.kept k2 (fun f => f)
    have c3 := hb2.cell 3
    have c4 := hb2.cell 4
    have z3 := hb2.frozen 3
    have z4 := hb2.frozen 4
    obtain ⟨a3, q3, hv3, _⟩ := hr2.shape
    obtain ⟨n3, hn3⟩ : ∃ n, n = s.names.length := ⟨_, rfl⟩
    rw [← hn3] at hv3
    subst hv3
    obtain ⟨w3, hw3⟩ : ∃ W, W = (w2.setCell ⟨r, 3, none⟩ (.slice a3 n3 q3)).setCell ⟨r, 4, none⟩ (.slice none 0 0) := ⟨_, rfl⟩
    have k3 : Kept (· = r) w2 w3 := by rw [hw3]; exact ((Kept.refl (· = r) w2).setCell _ _ (.inl rfl)).setCell _ _ (.inl rfl)
    have hb3 : Blk w3 r #[.int .i64 (s.room : Nat), fv, .slice a2 n2 q2, .slice a3 n3 q3, .slice none 0 0, .int .i64 (s.steps : Nat), .int .i64 s.left] 67 := by
      rw [hw3]
      have h9 := (hb2.set 3 (.slice a3 n3 q3)).set 4 (.slice none 0 0)
      simpa using h9
    obtain ⟨h1, h2, h3⟩ := HD.out.syncs HR.out.2.2.2 k2 hr2 k3 hb3
    have HS := rstep_any h1 HR.out.2.2.1 HR.out.2.1
    have H3 : Hid (Rf N w3 r { s with safe := s.names, chg := [] } F (giveR ρ (.slice a3 n3 q3) 4) fv (.slice a2 n2 q2) (.slice a3 n3 q3) (.slice none 0 0) ∧ MoR w1 ρ (giveR ρ (.slice a3 n3 q3) 4) ∧ Kept (fun k => ρ k ≠ 0 ∧ ρ k ≠ 9) w1 w3) := hid ⟨h1, h2, h3⟩
    clear HW hr2 k2 hb2 hn3 k3 hb3 h1 h2 h3 c2
    simp at c3 c4
    go_wp2_with fail
    rw [← hw3]
    clear hw3 c3 c4 z3 z4
    refine HS.mono ?_
    rintro e w4 ⟨rfl, hR4, k4⟩
    have H4 := hid hR4
    have HK4 := hid k4
    clear HS hR4 k4
    go_wp2_with fail
    go_ret
    refine ⟨fun k e => (by rw [HR.out.1] at e; cases e), fun s' e => ?_⟩
    rw [HR.out.1] at e
    cases e
    exact ⟨rfl, F, _, ⟨_, _, _, _, H4.out, HD.out.lens.2.2⟩, H3.out.2.1, Kept.trans H3.out.2.2 HK4.out (fun _ _ e => e) (fun k _ e => by rw [e, HD.out.rb]; decide)⟩

end

end Go.Proofs.Ytjcobogajkfnmaa

/-
  Layer 9: the reference's disk behind a change.
-/
namespace Go.Proofs.Ytjcobogajkfnmaa
open Go.RowKit Go.Maps

section
variable {N : Nat} {w : World} {r : Nat} {s : Ds} {F : List Fv} {ρ : Rho} {fv nv sv cv : Value}

theorem Rf.chgs (h : Rf N w r s F ρ fv nv sv cv) (hN : N ≤ w.heap.size) {c : Chg} (hf : c.f < F.length ∨ (c.dst.size = 0 ∧ c.f = 0)) (_h0 : s.left ≠ 0) {w1 w2 w5 w7 : World} {v1 cv5 : Value} (k1 : Same w w1) (hr1 : RowC w.heap.size 99 2 nnE w1 v1 (appN c s.names)) (k2 : Kept (· = r) w1 w2)
    (k5 : Kept (fun k => cv.ownBlock = some k) w2 w5) (hr5 : RowC N 83 4 rcE w5 cv5 (s.chg ++ [c])) (hb5 : ∀ j, cv5.ownBlock = some j → cv.ownBlock = some j ∨ w2.heap.size ≤ j) (k7 : Kept (· = r) w5 w7)
    (hb : Blk w7 r #[.int .i64 (s.room : Nat), fv, v1, sv, cv5, .int .i64 (s.steps + 1 : Nat), .int .i64 (if s.left = -1 then -1 else s.left - 1)] 67) :
    ∃ ρ', Rf N w7 r (chgS s c) F ρ' fv v1 sv cv5 ∧ MoR w ρ ρ' ∧ Kept (fun k => ρ k ≠ 0 ∧ ρ k ≠ 9) w w7 := by
  have hz1 : w.heap.size ≤ w1.heap.size := k1.size
  have hz2 : w1.heap.size ≤ w2.heap.size := k2.size
  have hz5 : w2.heap.size ≤ w5.heap.size := k5.size
  have hz7 : w5.heap.size ≤ w7.heap.size := k7.size
  have hlt : ∀ k, ρ k ≠ 0 → k < w.heap.size := fun k e => (h.new k e).2
  have hr : r < w.heap.size := hlt r (by rw [h.rb]; decide)
  have hc4 : ∀ k, cv.ownBlock = some k → ρ k = 5 ∧ k < w.heap.size := fun k e => ⟨h.rc k e, hlt k (by rw [h.rc k e]; decide)⟩
  have hv1 : ∀ k, v1.ownBlock = some k → w.heap.size ≤ k ∧ k < w1.heap.size := fun k e => ⟨hr1.ge e, hr1.lt e⟩
  have keep : ∀ k, ρ k ≠ 1 → ρ k ≠ 5 → ¬ k = r ∧ ¬ cv.ownBlock = some k := fun k e1 e5 => ⟨fun e => e1 (by rw [e]; exact h.rb), fun e => e5 (hc4 k e).1⟩
  have hK : Kept (fun k => k = r ∨ cv.ownBlock = some k) w w7 := by
    refine Kept.trans (Kept.trans (Kept.trans k1 k2 (H := fun k => k = r ∨ cv.ownBlock = some k) (fun _ _ f => f.elim) (fun _ _ e => .inl e)) k5 (H := fun k => k = r ∨ cv.ownBlock = some k) (fun _ _ e => e) (fun _ _ e => .inr e)) k7 (fun _ _ e => e) (fun _ _ e => .inl e)
  have hKn : ∀ k, ρ k ≠ 1 → ρ k ≠ 5 → ¬ (k = r ∨ cv.ownBlock = some k) := fun k e1 e5 e => e.elim (keep k e1 e5).1 (keep k e1 e5).2
  obtain ⟨ρ', hρ'⟩ : ∃ ρ' : Rho, ρ' = fun k => if v1.ownBlock = some k then 3 else if ρ k = 0 ∧ cv5.ownBlock = some k then 5 else ρ k := ⟨_, rfl⟩
  have old : ∀ k, ρ k ≠ 0 → ρ' k = ρ k := fun k e => by
    rw [hρ']
    show (if v1.ownBlock = some k then 3 else if ρ k = 0 ∧ cv5.ownBlock = some k then 5 else ρ k) = _
    rw [if_neg (fun e2 => by have := (hv1 k e2).1; have := hlt k e; omega), if_neg (fun e2 => e e2.1)]
  have n1 : ∀ k, v1.ownBlock = some k → ρ' k = 3 := fun k e => by rw [hρ']; exact if_pos e
  have n5 : ∀ k, cv5.ownBlock = some k → ρ' k = 5 := fun k e => by
    rcases hb5 k e with e2 | e2
    · rw [old k (by rw [(hc4 k e2).1]; decide)]; exact (hc4 k e2).1
    · have e0 : ρ k = 0 := Classical.byContradiction (fun e9 => by have := hlt k e9; omega)
      rw [hρ']
      show (if v1.ownBlock = some k then 3 else if ρ k = 0 ∧ cv5.ownBlock = some k then 5 else ρ k) = 5
      rw [if_neg (fun e3 => by have := (hv1 k e3).2; omega), if_pos ⟨e0, e⟩]
  refine ⟨ρ', ⟨hb, ?_, ?_, ?_, ?_, fun k x e => ?_, fun p hp => ?_, h.sff, fun c' hc' => ?_, ?_, fun k e => ?_, n1, fun k e => ?_, n5, fun k e0 => ?_, h.room, ?_, ?_, ⟨fun p hp => ?_, h.ne.2⟩⟩, fun k => ?_, ?_⟩
  · exact h.fil.kept hK (fun k e => hKn k (by rw [h.rf k e]; decide) (by rw [h.rf k e]; decide))
  · refine (((hr1.kept k2 (fun k e e2 => ?_)).kept k5 (fun k e e2 => ?_)).kept k7 (fun k e e2 => ?_)).base hN
    · have := (hv1 k e).1; omega
    · have := (hv1 k e).1; have := (hc4 k e2).2; omega
    · have := (hv1 k e).1; omega
  · exact h.saf.kept hK (fun k e => hKn k (by rw [h.rs k e]; decide) (by rw [h.rs k e]; decide))
  · refine hr5.kept k7 (fun k e e2 => ?_)
    rcases hb5 k e with e3 | e3
    · have h9 := (hc4 k e3).1
      rw [e2, h.rb] at h9
      cases h9
    · omega
  · obtain ⟨h1, h2⟩ := h.fl k x e
    refine ⟨h1, (h2.src.kept hK (fun j i _ => hKn j (by rw [i]; decide) (by rw [i]; decide))).mono (fun j i => by rw [old j (by rw [i]; decide)]; exact i), h2.len, h2.nil, h2.cap, h2.safe, h2.byte, h2.room⟩
  · have hp' : p ∈ appN c s.names := hp
    rcases appN_mem hp' with e | e
    · rw [e]
      rcases hf with e2 | e2
      · exact e2
      · exfalso
        unfold appN at hp'
        rw [if_pos e2.1] at hp'
        have h9 := delN_mem hp'
        rw [e] at h9
        exact h.ne.1 _ h9 e2.1
    · exact h.nmf p e
  · rcases List.mem_append.1 (show c' ∈ s.chg ++ [c] from hc') with e | e
    · exact h.chf c' e
    · rw [List.mem_singleton.1 e]; exact hf
  · rw [old r (by rw [h.rb]; decide)]; exact h.rb
  · rw [old k (by rw [h.rf k e]; decide)]; exact h.rf k e
  · rw [old k (by rw [h.rs k e]; decide)]; exact h.rs k e
  · by_cases e1 : v1.ownBlock = some k
    · have := hv1 k e1; exact ⟨by omega, by omega⟩
    · by_cases e5 : cv5.ownBlock = some k
      · exact ⟨hr5.ge e5, by have := hr5.lt e5; omega⟩
      · have e9 : ρ' k = ρ k := by
          rw [hρ']
          show (if v1.ownBlock = some k then 3 else if ρ k = 0 ∧ cv5.ownBlock = some k then 5 else ρ k) = _
          rw [if_neg e1, if_neg (fun e2 => e5 e2.2)]
        rw [e9] at e0
        exact ⟨(h.new k e0).1, by have := hlt k e0; omega⟩
  · have h9 := h.lens
    have h8 : (appN c s.names).length ≤ s.names.length + 1 := appN_len c s.names
    refine ⟨?_, ?_, ?_⟩
    · show (appN c s.names).length ≤ s.steps + 1; omega
    · show s.safe.length + (s.chg ++ [c]).length ≤ s.steps + 1; rw [List.length_append]; simp; omega
    · show F.length ≤ s.steps + 1 + 1; omega
  · have := h.left
    show -1 ≤ (if s.left = -1 then -1 else s.left - 1) ∧ (if s.left = -1 then -1 else s.left - 1) ≤ _
    split <;> omega
  · have hp' : p ∈ appN c s.names := hp
    rcases appN_mem hp' with e | e
    · intro e2
      unfold appN at hp'
      rw [e] at e2
      rw [if_pos e2] at hp'
      have h9 := delN_mem hp'
      rw [e] at h9
      exact h.ne.1 _ h9 e2
    · exact h.ne.1 p e
  · by_cases e0 : ρ k = 0
    · by_cases e1 : ρ' k = 0
      · exact .inl e1
      · refine .inr (.inr ?_)
        by_cases e2 : v1.ownBlock = some k
        · exact (hv1 k e2).1
        · by_cases e5 : cv5.ownBlock = some k
          · rcases hb5 k e5 with e3 | e3
            · rw [(hc4 k e3).1] at e0; cases e0
            · omega
          · exfalso
            apply e1
            rw [hρ']
            show (if v1.ownBlock = some k then 3 else if ρ k = 0 ∧ cv5.ownBlock = some k then 5 else ρ k) = 0
            rw [if_neg e2, if_neg (fun e3 => e5 e3.2)]
            exact e0
    · exact .inr (.inl (old k e0))
  · exact Kept.mono hK (fun k _ e => by
      rcases e with e | e
      · rw [e, h.rb]; decide
      · rw [(hc4 k e).1]; decide)

end

end Go.Proofs.Ytjcobogajkfnmaa

/-
  Layer 9: the reference's change.
-/
namespace Go.Proofs.Ytjcobogajkfnmaa
open Go.RowKit Go.Maps

theorem Try.infoRc9 : (Try.prog.info? 83).map (fun i => (i.zero, i.size, i.bytes)) = some (some (.agg #[.int .i64 0, .string ⟨#[]⟩, .string ⟨#[]⟩, .int .i64 0]), 4, 48) := by kernel_rfl

theorem cellsAt_rc (w : World) (c : Chg) (kd : Nat) (hk : kd = kdN c) : CellsAt (w.alloc (.cells #[.int .i64 (kd : Nat), .string c.src, .string c.dst, .int .i64 (c.f : Nat)] 83)) ⟨w.heap.size, 0, none⟩ ([c].flatMap rcE) := by
  subst hk
  intro j u hj
  match j, hj with
  | 0, hj => simp [rcE] at hj; subst hj; simp [addAt]
  | 1, hj => simp [rcE] at hj; subst hj; simp [addAt]
  | 2, hj => simp [rcE] at hj; subst hj; simp [addAt]
  | 3, hj => simp [rcE] at hj; subst hj; simp [addAt]
  | j + 4, hj => simp [rcE] at hj

section
variable {N : Nat} {w : World} {r : Nat} {s : Ds} {F : List Fv} {ρ : Rho} {fv nv sv cv : Value}

set_option maxRecDepth 100000 in
set_option maxHeartbeats 2000000 in
theorem rchange_any (h : Rf N w r s F ρ fv nv sv cv) (hst : s.steps ≤ 1000000) (hN : N ≤ w.heap.size) (h0 : s.left ≠ 0) (c : Chg) (hf : c.f < F.length ∨ (c.dst.size = 0 ∧ c.f = 0)) :
    Calls Try.prog 67 #[.pointer (some ⟨r, 0, none⟩), rcV c] w fun e w' => e = .returned (.int .i64 0) ∧ ∃ ρ', RfX N w' r (chgS s c) F ρ' ∧ MoR w ρ ρ' ∧ Kept (fun k => ρ k ≠ 0 ∧ ρ k ≠ 9) w w' := by
  have HD : Hid (Rf N w r s F ρ fv nv sv cv) := h
  obtain ⟨a2, q2, hnv, _⟩ := h.now.shape
  obtain ⟨n2, hn2⟩ : ∃ n, n = s.names.length := ⟨_, rfl⟩
  rw [← hn2] at hnv
  subst hnv
  obtain ⟨a3, q3, hcv, _⟩ := h.chg.shape
  obtain ⟨n3, hn3⟩ : ∃ n, n = s.chg.length := ⟨_, rfl⟩
  rw [← hn3] at hcv
  subst hcv
  unfold rcV
  obtain ⟨kd, hkd⟩ : ∃ k, k = kdN c := ⟨_, rfl⟩
  obtain ⟨src, hsrc⟩ : ∃ k, k = c.src := ⟨_, rfl⟩
  obtain ⟨dst, hdst⟩ : ∃ k, k = c.dst := ⟨_, rfl⟩
  obtain ⟨f, hcf⟩ : ∃ k, k = c.f := ⟨_, rfl⟩
  have HV : Hid (rcV c = .agg #[.int .i64 (kd : Nat), .string src, .string dst, .int .i64 (f : Nat)] ∧ kd = kdN c ∧ src = c.src ∧ dst = c.dst ∧ f = c.f) := hid ⟨by rw [hkd, hsrc, hdst, hcf]; rfl, hkd, hsrc, hdst, hcf⟩
  rw [← hkd, ← hsrc, ← hdst, ← hcf]
  obtain ⟨wA, hwA⟩ : ∃ W, W = w.alloc (.cells #[.int .i64 (kd : Nat), .string src, .string dst, .int .i64 (f : Nat)] 83) := ⟨_, rfl⟩
  obtain ⟨xb, hxb⟩ : ∃ b, b = w.heap.size := ⟨_, rfl⟩
  have HB : Hid (Blk wA xb #[.int .i64 (kd : Nat), .string src, .string dst, .int .i64 (f : Nat)] 83 ∧ Same w wA ∧ ¬ xb = r) := hid ⟨by rw [hwA, hxb]; exact Blk.new w _ _, by rw [hwA]; exact (Kept.refl _ w).alloc _, fun e => by have := (h.new r (by rw [h.rb]; decide)).2; omega⟩
  have HAP : Hid (∀ w', Same wA w' → Calls Try.prog 71 #[.slice a2 n2 q2, .agg #[.int .i64 (kd : Nat), .string src, .string dst, .int .i64 (f : Nat)]] w' fun e w2 => ∃ v', e = .returned v' ∧ RowC w'.heap.size 99 2 nnE w2 v' (appN c s.names) ∧ Same w' w2) := hid (fun w' hk => by
    have h9 := rapply_any w' N _ s.names ((h.now.kept HB.out.2.1 (fun _ _ f => f)).kept hk (fun _ _ f => f)) (by have := h.lens; omega) h.ne.1 c
    rw [HV.out.1] at h9
    exact h9)
  have HQ : Hid (s.steps ≤ 1000000 ∧ N ≤ w.heap.size ∧ s.left ≠ 0 ∧ (c.f < F.length ∨ (c.dst.size = 0 ∧ c.f = 0)) ∧ s.chg.length ≤ 1000000) := hid ⟨hst, hN, h0, hf, by have := h.lens; omega⟩
  have x0 : wA.cell? ⟨xb, 0, none⟩ = some (.int .i64 (kd : Nat)) := HB.out.1.cell 0
  have x1 : wA.cell? ⟨xb, 1, none⟩ = some (.string src) := HB.out.1.cell 1
  have x2 : wA.cell? ⟨xb, 2, none⟩ = some (.string dst) := HB.out.1.cell 2
  have x3 : wA.cell? ⟨xb, 3, none⟩ = some (.int .i64 (f : Nat)) := HB.out.1.cell 3
  have r2 : wA.cell? ⟨r, 2, none⟩ = some (.slice a2 n2 q2) := (h.blk.kept HB.out.2.1 (fun f => f)).cell 2
  clear h hst hN h0 hf hn2 hn3 hkd hsrc hdst hcf
  go_enter Try.func67, Try.ntmps67
  go_wp2_with fail
  rw [← hwA, ← hxb]
  clear hwA hxb
  go_region_with (first | (go_at_call 71; refine (HAP.out _ (by first | exact (Kept.refl _ _).drew | exact Kept.refl _ _)).mono ?_; rintro e w1 ⟨v1, rfl, hr1, k1⟩; have HR1 := hid hr1; have HK1 : Hid (Same wA w1) := hid (Kept.undrew9 k1); obtain ⟨a5, q5, hv5, _⟩ := hr1.shape; obtain ⟨n5, hn5⟩ : ∃ n, n = (appN c s.names).length := ⟨_, rfl⟩; rw [← hn5] at hv5; subst hv5; have r5 := (HD.out.blk.kept (Same.trans HB.out.2.1 HK1.out) (fun f => f)).cell 2; have z5 := (HD.out.blk.kept (Same.trans HB.out.2.1 HK1.out) (fun f => f)).frozen 2; simp at r5; clear hr1 k1 hn5))
  all_goals
    obtain ⟨w2, hw2⟩ : ∃ W, W = w1.setCell ⟨r, 2, none⟩ (.slice a5 n5 q5) := ⟨_, rfl⟩
    have HK2 : Hid (Kept (· = r) w1 w2) := hid (by rw [hw2]; exact (Kept.refl (· = r) w1).setCell _ _ (.inl rfl))
    have HB2 : Hid (Blk w2 r #[.int .i64 (s.room : Nat), fv, .slice a5 n5 q5, sv, .slice a3 n3 q3, .int .i64 (s.steps : Nat), .int .i64 s.left] 67) := hid (by
      rw [hw2]
      have h9 := (HD.out.blk.kept (Same.trans HB.out.2.1 HK1.out) (fun f => f)).set 2 (.slice a5 n5 q5)
      simpa using h9)
    have BX : Hid (Blk w2 xb #[.int .i64 (kd : Nat), .string src, .string dst, .int .i64 (f : Nat)] 83) := hid ((HB.out.1.kept HK1.out (fun f => f)).kept HK2.out HB.out.2.2)
    rw [← hw2]
    clear hw2 r5 z5 x0 x1 x2 x3 r2
    have x0 : w2.cell? ⟨xb, 0, none⟩ = some (.int .i64 (kd : Nat)) := BX.out.cell 0
    have x1 : w2.cell? ⟨xb, 1, none⟩ = some (.string src) := BX.out.cell 1
    have x2 : w2.cell? ⟨xb, 2, none⟩ = some (.string dst) := BX.out.cell 2
    have x3 : w2.cell? ⟨xb, 3, none⟩ = some (.int .i64 (f : Nat)) := BX.out.cell 3
    have d3 : w2.cell? ⟨r, 4, none⟩ = some (.slice a3 n3 q3) := HB2.out.cell 4
    have z3 := HB2.out.frozen 4
    have HOD : Hid (∀ k, (Value.slice a3 n3 q3).ownBlock = some k → k ≠ r) := hid (fun k e e2 => by have e3 := HD.out.rc k e; rw [e2, HD.out.rb] at e3; cases e3)
    have HR3 : Hid (∀ w', Same w2 w' → RowC N 83 4 rcE w' (.slice a3 n3 q3) s.chg) := hid (fun w' hk => (((HD.out.chg.kept HB.out.2.1 (fun _ _ f => f)).kept HK1.out (fun _ _ f => f)).kept HK2.out (fun k e => HOD.out k e)).kept hk (fun _ _ f => f))
    have HSZ : Hid (N ≤ w2.heap.size) := hid (by have := HQ.out.2.1; have := HB.out.2.1.size; have := HK1.out.size; have := HK2.out.size; omega)
    have d3a : (w2.alloc (.cells #[.int .i64 (kd : Nat), .string src, .string dst, .int .i64 (f : Nat)] 83)).cell? ⟨r, 4, none⟩ = some (.slice a3 n3 q3) := (show Same w2 _ from (Kept.refl _ _).alloc _).cell d3 (fun f => f)
    have HCA : Hid (CellsAt (w2.alloc (.cells #[.int .i64 (kd : Nat), .string src, .string dst, .int .i64 (f : Nat)] 83)) ⟨w2.heap.size, 0, none⟩ ([c].flatMap rcE)) := hid (by rw [HV.out.2.2.1, HV.out.2.2.2.1, HV.out.2.2.2.2]; exact cellsAt_rc w2 c kd HV.out.2.1)
    go_upto_region 2 with fail
    go_region_law (refine step_append_b rcE 4 rcE_ok N 65 83 (.agg #[.int .i64 0, .string ⟨#[]⟩, .string ⟨#[]⟩, .int .i64 0]) 48 Try.underlying65 Try.infoRc9 rfl (by decide) (by rfl) (.tmp 18) (.tmp 20) (by rfl) (.slice a3 n3 q3) s.chg (by rfl) (HR3.out _ (by first | exact ((Kept.refl _ _).drew).alloc _ | exact ((Kept.refl _ _).alloc _).drew | exact (Kept.refl _ _).alloc _)) ⟨w2.heap.size, 0, none⟩ 1 1 [c] (by rfl) (by rfl) (by decide) HCA.out (by have := HQ.out.2.2.2.2; simp; omega) (by have := HSZ.out; simp; omega) ?_; intro v5 w5 hr5 hg5 hb5; have hk5 : Kept (fun k => (Value.slice a3 n3 q3).ownBlock = some k) w2 w5 := Kept.trans (show Same w2 (w2.alloc (.cells #[.int .i64 (kd : Nat), .string src, .string dst, .int .i64 (f : Nat)] 83)).drew from ((Kept.refl _ _).alloc _).drew) ((Kept.refl _ _).grown hg5 (fun k e => .inl e)) (fun _ _ f => f.elim) (fun _ _ e => e); have z5 := (HB2.out.kept hk5 (fun e => HOD.out r e rfl)).frozen 4; have d5 := (HB2.out.kept hk5 (fun e => HOD.out r e rfl)).cell 4; simp at d5; have HR5 := hid hr5; have HK5 := hid hk5; have HB5 : Hid (∀ j, v5.ownBlock = some j → (Value.slice a3 n3 q3).ownBlock = some j ∨ w2.heap.size ≤ j) := hid (fun j e => (hb5 j e).imp id (fun h => Nat.le_trans (by simp) h)); obtain ⟨a6, n6, q6, e6⟩ : ∃ a n q, v5 = Value.slice a n q := (by obtain ⟨a, q, e, _⟩ := hr5.shape; exact ⟨a, _, q, e⟩); subst e6; clear hg5 hr5 hk5 hb5)
    all_goals
      obtain ⟨w6, hw6⟩ : ∃ W, W = w5.setCell ⟨r, 4, none⟩ (.slice a6 n6 q6) := ⟨_, rfl⟩
      have HB6 : Hid (Blk w6 r #[.int .i64 (s.room : Nat), fv, .slice a5 n5 q5, sv, .slice a6 n6 q6, .int .i64 (s.steps : Nat), .int .i64 s.left] 67) := hid (by
        rw [hw6]
        have h9 := (HB2.out.kept HK5.out (fun e => HOD.out r e rfl)).set 4 (.slice a6 n6 q6)
        simpa using h9)
      have HK6 : Hid (Kept (· = r) w5 w6) := hid (by rw [hw6]; exact (Kept.refl (· = r) w5).setCell _ _ (.inl rfl))
      have HST := rstep_raw HB6.out (by have := HQ.out; omega) HD.out.left HQ.out.2.2.1
      clear z5 d5
      go_wp2_with fail
      rw [← hw6]
      refine HST.mono ?_
      rintro e w7 ⟨rfl, hb7, k7⟩
      have H7 := hid (HD.out.chgs HQ.out.2.1 HQ.out.2.2.2.1 HQ.out.2.2.1 (Same.trans HB.out.2.1 HK1.out) (HR1.out.base HB.out.2.1.size) HK2.out HK5.out HR5.out HB5.out (Kept.trans HK6.out k7 (fun _ _ e => e) (fun _ _ e => e)) hb7)
      clear HST hb7 k7 hw6
      go_wp2_with fail
      go_ret
      obtain ⟨ρ', h1, h2, h3⟩ := H7.out
      exact ⟨rfl, ρ', ⟨_, _, _, _, h1, HD.out.lens.2.2⟩, h2, h3⟩

end

end Go.Proofs.Ytjcobogajkfnmaa

/-
  Layer 9: the reference's Remove and Rename.
-/
namespace Go.Proofs.Ytjcobogajkfnmaa
open Go.RowKit Go.Maps

/-- Remove, as the reference tells it: its change names no file. -/
def remR (s : Ds) (t : ByteArray) : Except Nat Ds := if s.left = 0 then .error 94 else match getN t s.names with
  | none => .error 92
  | some _ => .ok (chgS s ⟨t, ⟨#[]⟩, 0⟩)

theorem rcV_gone (t : ByteArray) : rcV ⟨t, ⟨#[]⟩, 0⟩ = .agg #[.int .i64 3, .string t, .string ⟨#[]⟩, .int .i64 0] := rfl

theorem rcV_move {t u : ByteArray} (f : Nat) (ht : t.size ≠ 0) (hu : u.size ≠ 0) : rcV ⟨t, u, f⟩ = .agg #[.int .i64 2, .string t, .string u, .int .i64 (f : Nat)] := by
  unfold rcV kdN
  dsimp only
  rw [if_neg hu, if_neg ht]
  rfl

section
variable {N : Nat} {w : World} {r : Nat} {s : Ds} {F : List Fv} {ρ : Rho} {fv nv sv cv : Value}

set_option maxRecDepth 100000 in
set_option maxHeartbeats 800000 in
theorem rremove_any (h : Rf N w r s F ρ fv nv sv cv) (hst : s.steps ≤ 1000000) (hN : N ≤ w.heap.size) (t : ByteArray) :
    Calls Try.prog 48 #[.pointer (some ⟨r, 0, none⟩), .string t] w fun e w' => RStp N w r ρ (remR s t) e w' := by
  have HDN := rdown_any w r s.left (h.blk.cell 6)
  by_cases hl : s.left = 0
  · rw [show (s.left == 0) = true by simp [hl]] at HDN
    have HR : Hid (remR s t = .error 94) := hid (if_pos hl)
    clear h hl
    go_enter Try.func48, Try.ntmps48
    go_wp2_with fail
    refine HDN.mono ?_
    rintro e w1 ⟨rfl, hw1⟩
    subst hw1
    clear HDN
    go_wp2_with fail
    go_ret
    exact ⟨fun k e => (by rw [HR.out] at e; cases e; exact ⟨rfl, Kept.refl _ _⟩), fun s' e => (by rw [HR.out] at e; cases e)⟩
  rw [show (s.left == 0) = false by simp [hl]] at HDN
  have HF := rfile_any h hst t
  cases hg : getN t s.names with
  | none =>
    rw [hg] at HF
    have HR : Hid (remR s t = .error 92) := hid (by unfold remR; rw [if_neg hl, hg])
    unfold fixI at HF
    clear h hl hg
    go_enter Try.func48, Try.ntmps48
    go_wp2_with fail
    refine HDN.mono ?_
    rintro e w1 ⟨rfl, hw1⟩
    subst hw1
    clear HDN
    go_wp2_with fail
    refine HF.mono ?_
    rintro e w2 ⟨rfl, hw2⟩
    subst hw2
    clear HF
    go_wp2_with fail
    go_ret
    exact ⟨fun k e => (by rw [HR.out] at e; cases e; exact ⟨rfl, Kept.refl _ _⟩), fun s' e => (by rw [HR.out] at e; cases e)⟩
  | some f =>
    rw [hg] at HF
    unfold fixI at HF
    dsimp only at HF
    have b1 : decide ((f : Int) < 0) = false := by simp
    have b1' : decide (f < 0) = false := by simp
    have HR : Hid (remR s t = .ok (chgS s ⟨t, ⟨#[]⟩, 0⟩)) := hid (by unfold remR; rw [if_neg hl, hg])
    have HC := rchange_any h hst hN hl ⟨t, ⟨#[]⟩, 0⟩ (.inr ⟨rfl, rfl⟩)
    rw [rcV_gone] at HC
    clear h hl hg
    go_enter Try.func48, Try.ntmps48
    go_wp2_with fail
    refine HDN.mono ?_
    rintro e w1 ⟨rfl, hw1⟩
    subst hw1
    clear HDN
    go_wp2_with fail
    refine HF.mono ?_
    rintro e w2 ⟨rfl, hw2⟩
    subst hw2
    clear HF
    go_wp2_with fail
    refine HC.mono ?_
    rintro e w4 ⟨rfl, ρ', h1, h2, h3⟩
    have H4 := hid (And.intro h1 (And.intro h2 h3))
    clear HC h1 h2 h3
    go_wp2_with fail
    go_ret
    refine ⟨fun k e => (by rw [HR.out] at e; cases e), fun s' e => ?_⟩
    rw [HR.out] at e
    cases e
    exact ⟨rfl, F, ρ', H4.out.1, H4.out.2.1, H4.out.2.2⟩

set_option maxRecDepth 100000 in
set_option maxHeartbeats 800000 in
theorem rrename_any (h : Rf N w r s F ρ fv nv sv cv) (hst : s.steps ≤ 1000000) (hN : N ≤ w.heap.size) (t u : ByteArray) (hu : u.size ≤ 100000000) :
    Calls Try.prog 47 #[.pointer (some ⟨r, 0, none⟩), .string t, .string u] w fun e w' => RStp N w r ρ (renS s t u) e w' := by
  have HDN := rdown_any w r s.left (h.blk.cell 6)
  by_cases hl : s.left = 0
  · rw [show (s.left == 0) = true by simp [hl]] at HDN
    have HR : Hid (renS s t u = .error 94) := hid (if_pos hl)
    clear h hl
    go_enter Try.func47, Try.ntmps47
    go_wp2_with fail
    refine HDN.mono ?_
    rintro e w1 ⟨rfl, hw1⟩
    subst hw1
    clear HDN
    go_wp2_with fail
    go_ret
    exact ⟨fun k e => (by rw [HR.out] at e; cases e; exact ⟨rfl, Kept.refl _ _⟩), fun s' e => (by rw [HR.out] at e; cases e)⟩
  rw [show (s.left == 0) = false by simp [hl]] at HDN
  have HF := rfile_any h hst t
  cases hg : getN t s.names with
  | none =>
    rw [hg] at HF
    have HR : Hid (renS s t u = .error 92) := hid (by unfold renS; rw [if_neg hl, hg])
    unfold fixI at HF
    clear h hl hg
    go_enter Try.func47, Try.ntmps47
    go_wp2_with fail
    refine HDN.mono ?_
    rintro e w1 ⟨rfl, hw1⟩
    subst hw1
    clear HDN
    go_wp2_with fail
    refine HF.mono ?_
    rintro e w2 ⟨rfl, hw2⟩
    subst hw2
    clear HF
    go_wp2_with fail
    go_ret
    exact ⟨fun k e => (by rw [HR.out] at e; cases e; exact ⟨rfl, Kept.refl _ _⟩), fun s' e => (by rw [HR.out] at e; cases e)⟩
  | some f =>
    rw [hg] at HF
    unfold fixI at HF
    dsimp only at HF
    have b1 : decide ((f : Int) < 0) = false := by simp
    have b1' : decide (f < 0) = false := by simp
    have HNA : Hid (∀ w', Calls Try.prog 65 #[.string u] w' fun e w2 => e = .returned (.bool (nam9 u)) ∧ w2 = w') := hid (fun w' => rname9_any w' u hu)
    have HN := HNA.out w
    clear HNA
    cases hn : nam9 u with
    | false =>
      rw [hn] at HN
      have HR : Hid (renS s t u = .error 90) := hid (by unfold renS; rw [if_neg hl, hg]; dsimp only; rw [if_neg (by rw [hn]; decide)])
      clear h hl hg hn
      go_enter Try.func47, Try.ntmps47
      go_wp2_with fail
      refine HDN.mono ?_
      rintro e w1 ⟨rfl, hw1⟩
      subst hw1
      clear HDN
      go_wp2_with fail
      refine HF.mono ?_
      rintro e w2 ⟨rfl, hw2⟩
      subst hw2
      clear HF
      go_wp2_with fail
      refine HN.mono ?_
      rintro e w3 ⟨rfl, hw3⟩
      subst hw3
      clear HN
      go_wp2_with fail
      go_ret
      exact ⟨fun k e => (by rw [HR.out] at e; cases e; exact ⟨rfl, Kept.refl _ _⟩), fun s' e => (by rw [HR.out] at e; cases e)⟩
    | true =>
      rw [hn] at HN
      have HR : Hid (renS s t u = .ok (chgS s ⟨t, u, f⟩)) := hid (by unfold renS; rw [if_neg hl, hg]; dsimp only; rw [if_pos hn])
      have HC := rchange_any h hst hN hl ⟨t, u, f⟩ (.inl (h.nmf _ (getN_mem hg)))
      rw [rcV_move f (h.ne.1 _ (getN_mem hg)) (by
        unfold nam9 at hn
        simp at hn
        omega)] at HC
      clear h hl hg hn
      go_enter Try.func47, Try.ntmps47
      go_wp2_with fail
      refine HDN.mono ?_
      rintro e w1 ⟨rfl, hw1⟩
      subst hw1
      clear HDN
      go_wp2_with fail
      refine HF.mono ?_
      rintro e w2 ⟨rfl, hw2⟩
      subst hw2
      clear HF
      go_wp2_with fail
      refine HN.mono ?_
      rintro e w3 ⟨rfl, hw3⟩
      subst hw3
      clear HN
      go_wp2_with fail
      refine HC.mono ?_
      rintro e w4 ⟨rfl, ρ', h1, h2, h3⟩
      have H4 := hid (And.intro h1 (And.intro h2 h3))
      clear HC h1 h2 h3
      go_wp2_with fail
      go_ret
      refine ⟨fun k e => (by rw [HR.out] at e; cases e), fun s' e => ?_⟩
      rw [HR.out] at e
      cases e
      exact ⟨rfl, F, ρ', H4.out.1, H4.out.2.1, H4.out.2.2⟩


end

end Go.Proofs.Ytjcobogajkfnmaa

/-
  Layer 9: the reference's disk with one file more.
-/
namespace Go.Proofs.Ytjcobogajkfnmaa
open Go.RowKit Go.Maps

/-- An empty file. -/
def fv0 : Fv := ⟨none, 0, 0, [], 0⟩

section
variable {N : Nat} {w : World} {r : Nat} {s : Ds} {F : List Fv} {ρ : Rho} {fv nv sv cv : Value}

theorem Rf.addFile (h : Rf N w r s F ρ fv nv sv cv) (hF : F.length ≤ s.steps) {w5 w6 : World} {fv5 : Value}
    (k5 : Kept (fun k => fv.ownBlock = some k) w w5) (hr5 : RowC N 80 2 fvE w5 fv5 (F ++ [fv0])) (hb5 : ∀ j, fv5.ownBlock = some j → fv.ownBlock = some j ∨ w.heap.size ≤ j) (k6 : Kept (· = r) w5 w6)
    (hb : Blk w6 r #[.int .i64 (s.room : Nat), fv5, nv, sv, cv, .int .i64 (s.steps : Nat), .int .i64 s.left] 67) :
    ∃ ρ', Rf N w6 r { s with fl := updF s.fl F.length ⟨[], 0⟩ } (F ++ [fv0]) ρ' fv5 nv sv cv ∧ MoR w ρ ρ' ∧ Kept (fun k => ρ k ≠ 0 ∧ ρ k ≠ 9) w w6 ∧ ∀ k, ρ k ≠ 0 → ρ' k = ρ k := by
  have hz5 : w.heap.size ≤ w5.heap.size := k5.size
  have hz6 : w5.heap.size ≤ w6.heap.size := k6.size
  have hlt : ∀ k, ρ k ≠ 0 → k < w.heap.size := fun k e => (h.new k e).2
  have hr : r < w.heap.size := hlt r (by rw [h.rb]; decide)
  have hc4 : ∀ k, fv.ownBlock = some k → ρ k = 2 ∧ k < w.heap.size := fun k e => ⟨h.rf k e, hlt k (by rw [h.rf k e]; decide)⟩
  have hK : Kept (fun k => k = r ∨ fv.ownBlock = some k) w w6 := Kept.trans k5 k6 (fun _ _ e => .inr e) (fun _ _ e => .inl e)
  have hKn : ∀ k, ρ k ≠ 1 → ρ k ≠ 2 → ¬ (k = r ∨ fv.ownBlock = some k) := fun k e1 e5 e => e.elim (fun e => e1 (by rw [e]; exact h.rb)) (fun e => e5 (hc4 k e).1)
  obtain ⟨ρ', hρ'⟩ : ∃ ρ' : Rho, ρ' = fun k => if ρ k = 0 ∧ fv5.ownBlock = some k then 2 else ρ k := ⟨_, rfl⟩
  have old : ∀ k, ρ k ≠ 0 → ρ' k = ρ k := fun k e => by
    rw [hρ']
    exact if_neg (fun e2 => e e2.1)
  have n5 : ∀ k, fv5.ownBlock = some k → ρ' k = 2 := fun k e => by
    rcases hb5 k e with e2 | e2
    · rw [old k (by rw [(hc4 k e2).1]; decide)]; exact (hc4 k e2).1
    · have e0 : ρ k = 0 := Classical.byContradiction (fun e9 => by have := hlt k e9; omega)
      rw [hρ']
      exact if_pos ⟨e0, e⟩
  have hlen : (F ++ [fv0]).length = F.length + 1 := by simp
  refine ⟨ρ', ⟨hb, ?_, ?_, ?_, ?_, fun k x e => ?_, fun p hp => ?_, fun p hp => ?_, fun c hc => ?_, ?_, n5, fun k e => ?_, fun k e => ?_, fun k e => ?_, fun k e0 => ?_, h.room, ?_, h.left, h.ne⟩, fun k => ?_, ?_, old⟩
  · refine hr5.kept k6 (fun k e e2 => ?_)
    rcases hb5 k e with e3 | e3
    · have h9 := (hc4 k e3).1
      rw [e2, h.rb] at h9
      cases h9
    · omega
  · exact h.now.kept hK (fun k e => hKn k (by rw [h.rn k e]; decide) (by rw [h.rn k e]; decide))
  · exact h.saf.kept hK (fun k e => hKn k (by rw [h.rs k e]; decide) (by rw [h.rs k e]; decide))
  · exact h.chg.kept hK (fun k e => hKn k (by rw [h.rc k e]; decide) (by rw [h.rc k e]; decide))
  · by_cases hk : k < F.length
    · rw [List.getElem?_append_left hk] at e
      obtain ⟨h1, h2⟩ := h.fl k x e
      refine ⟨?_, (h2.src.kept hK (fun j i _ => hKn j (by rw [i]; decide) (by rw [i]; decide))).mono (fun j i => by rw [old j (by rw [i]; decide)]; exact i), h2.len, h2.nil, h2.cap, h2.safe, h2.byte, h2.room⟩
      show updF s.fl F.length ⟨[], 0⟩ k = _
      rw [← h1]
      exact if_neg (by omega)
    · have hk2 : k < (F ++ [fv0]).length := (List.getElem?_eq_some_iff.1 e).1
      have hk3 : k = F.length := by omega
      rw [hk3, List.getElem?_append_right (Nat.le_refl _), Nat.sub_self] at e
      have ex : fv0 = x := by simpa using e
      rw [hk3, ← ex]
      refine ⟨if_pos rfl, ⟨none, 0, rfl, fun h9 => absurd rfl h9⟩, rfl, fun n c e9 => ?_, Nat.le_refl _, Nat.le_refl _, fun b hb9 => (by cases hb9), Nat.zero_le _⟩
      simp only [fv0, Value.slice.injEq] at e9
      exact ⟨e9.2.1.symm, e9.2.2.symm⟩
  · have := h.nmf p hp; omega
  · have := h.sff p hp; omega
  · rcases h.chf c hc with e | e
    · exact .inl (by omega)
    · exact .inr e
  · rw [old r (by rw [h.rb]; decide)]; exact h.rb
  · rw [old k (by rw [h.rn k e]; decide)]; exact h.rn k e
  · rw [old k (by rw [h.rs k e]; decide)]; exact h.rs k e
  · rw [old k (by rw [h.rc k e]; decide)]; exact h.rc k e
  · by_cases e5 : fv5.ownBlock = some k
    · exact ⟨hr5.ge e5, by have := hr5.lt e5; omega⟩
    · have e9 : ρ' k = ρ k := by rw [hρ']; exact if_neg (fun e2 => e5 e2.2)
      rw [e9] at e0
      exact ⟨(h.new k e0).1, by have := hlt k e0; omega⟩
  · have h9 := h.lens
    exact ⟨h9.1, h9.2.1, by rw [hlen]; show F.length + 1 ≤ s.steps + 1; omega⟩
  · by_cases e0 : ρ k = 0
    · by_cases e5 : fv5.ownBlock = some k
      · rcases hb5 k e5 with e3 | e3
        · rw [(hc4 k e3).1] at e0; cases e0
        · exact .inr (.inr e3)
      · exact .inr (.inl (by rw [hρ']; exact if_neg (fun e2 => e5 e2.2)))
    · exact .inr (.inl (old k e0))
  · exact Kept.mono hK (fun k _ e => by
      rcases e with e | e
      · rw [e, h.rb]; decide
      · rw [(hc4 k e).1]; decide)

end

end Go.Proofs.Ytjcobogajkfnmaa
