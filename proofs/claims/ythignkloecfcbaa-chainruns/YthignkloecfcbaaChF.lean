/-
  Layer 12: a version laid into a chain.
-/
import Derived.Test.YthignkloecfcbaaChG
import Derived.Deep.RegionLaw
import Derived.Maps.AppendAt
namespace Go.Proofs.Ythignkloecfcbaa
open Go.RowKit Go.Maps Go.Sort

theorem Try.infoVer : (Try.prog.info? 75).map (fun i => (i.zero, i.size, i.bytes)) = some (some (.agg #[.int .i64 0, .bool false, .string ⟨#[]⟩]), 3, 32) := by kernel_rfl

/-- A call of a function as a step of a region that draws its order. -/
theorem step_callC {ops : Array Oper} {o : Oper} {a : Act} {w : World} {K : Act → World → Prop} {Q : Exit → Act → World → Prop} {E : Prop} (hgd : o.guard = none) (f : FuncId) (args : Array Value) (hrun : (execOp a.eval o).run Try.prog w = .ok (.enter f args) w) (post : Ending → World → Prop) (H : Calls Try.prog f args w post)
    (h : ∀ e w', post e w' → ∃ v, e = .returned v ∧ K (a.put o.dst v) w') : if Region.wanted o (yielded ops a.tmps) = true then Oper.wp Try.prog o a w K Q else E := by
  have hw : Region.wanted o (yielded ops a.tmps) = true := by simp [Region.wanted, hgd]
  rw [if_pos hw]
  unfold Oper.wp
  rw [hrun, Oper.upon_enter]
  refine H.mono ?_
  intro e w' hp
  obtain ⟨v, rfl, hk⟩ := h e w' hp
  exact hk

/-- append as a step, and where the row lies. -/
theorem step_appendC {α : Type} {ops : Array Oper} {o : Oper} {a : Act} {w : World} {K : Act → World → Prop} {Q : Exit → Act → World → Prop} {E : Prop} (enc : α → List Value) (k : Nat) (ok : EncOk enc k) (B sT eT : Nat) (z : Value) (bytes : Nat)
    (hU : Try.prog.underlying sT = some (.slice eT)) (hI : (Try.prog.info? eT).map (fun i => (i.zero, i.size, i.bytes)) = some (some z, k, bytes)) (hz : z.cells.size = k) (hby : bytes ≤ 1000) (hgd : o.guard = none) (s x : Operand)
    (ho : o.op = .call { callee := .builtin .append, args := #[s, x], argTypes := #[sT, sT] })
    (v : Value) (xs : List α) (hs : a.eval s = v) (hrow : RowC B eT k enc w v xs) (ad : Addr) (m c : Nat) (cs : List α) (hx : a.eval x = .slice (some ad) m c) (hm : cs.length = m) (hcs : CellsAt w ad (cs.flatMap enc)) (hlen : xs.length + cs.length ≤ 1000000000) (hB : B ≤ w.heap.size)
    (h : ∀ v' w', RowC B eT k enc w' v' (xs ++ cs) → w.grownBy w' v.ownBlock → (∀ j, v'.ownBlock = some j → v.ownBlock = some j ∨ w.heap.size ≤ j) → K (a.put o.dst v') w') : if Region.wanted o (yielded ops a.tmps) = true then Oper.wp Try.prog o a w K Q else E := by
  have hw : Region.wanted o (yielded ops a.tmps) = true := by simp [Region.wanted, hgd]
  rw [if_pos hw]
  subst hm
  obtain ⟨i0, hi, hz0, hz1, hz2⟩ := info_parts hI
  have hmul : (xs.length + cs.length) * bytes ≤ 1000000000 * 1000 := Nat.mul_le_mul hlen hby
  obtain ⟨v', w', hr, h2, h3, _, h5⟩ := run_append_own_at (P := Try.prog) w B sT o.type eT i0 z k bytes hU hi hz0 hz1 hz2 hz ok.pos v xs.length (xs.flatMap enc) hrow ad cs.length c (cs.flatMap enc) (flat_length ok cs) hcs (flat_one ok cs) (by simp only [maxLen]; omega) (by omega) hB
  unfold Oper.wp
  simp [execOp, ho, resolve, invoke, builtin, hs, hx, hr, Result.andThen]
  refine h v' w' ?_ h3 (fun j e => ?_)
  · unfold RowC
    rw [List.length_append, List.flatMap_append]
    exact h2
  · rcases h5 with h6 | h6
    · exact .inl (by rw [← h6]; exact e)
    · rw [h6] at e
      simp only [Option.some.injEq] at e
      exact .inr (by omega)

theorem RowC.cut {α : Type} {B : Nat} {t k : Nat} {enc : α → List Value} (ok : EncOk enc k) {w : World} {g n cap : Nat} {xs ys : List α} (h : RowC B t k enc w (.slice (some ⟨g, 0, none⟩) n cap) (xs ++ ys)) : RowC B t k enc w (.slice (some ⟨g, 0, none⟩) xs.length cap) xs := by
  rcases h.2 with ⟨h', _⟩ | ⟨g', cap', cur, h', hb, hgg, hnc, hcm, hcs, htake⟩
  · simp at h'
  · simp only [Value.slice.injEq, Option.some.injEq, Addr.mk.injEq, and_true] at h'
    obtain ⟨rfl, rfl, rfl⟩ := h'
    refine ⟨by rw [flat_length ok], .inr ⟨g, cap, cur, rfl, hb, hgg, ?_, hcm, hcs, ?_⟩⟩
    · simp at hnc; omega
    · rw [List.length_append] at htake
      have e : List.take (xs.length * k) cur.toList = List.take (xs.length * k) (List.take ((xs.length + ys.length) * k) cur.toList) := by
        rw [List.take_take]
        congr 1
        rw [Nat.add_mul]
        omega
      rw [e, htake, List.flatMap_append, List.take_append, flat_length ok, Nat.sub_self, List.take_zero, List.append_nil, List.take_of_length_le (by rw [flat_length ok]; exact Nat.le_refl _)]

theorem cellsAt_ver (w : World) (v : Ver) : CellsAt (w.alloc (.cells #[.int .i64 v.t, .bool v.there, .string v.data] 75)) ⟨w.heap.size, 0, none⟩ ([v].flatMap verE) := by
  intro j u hj
  match j, hj with
  | 0, hj => simp [verE] at hj; subst hj; simp [addAt]
  | 1, hj => simp [verE] at hj; subst hj; simp [addAt]
  | 2, hj => simp [verE] at hj; subst hj; simp [addAt]
  | j + 3, hj => simp [verE] at hj

theorem cellsAt_same {w w' : World} (hk : Same w w') {a : Addr} {cs : List Value} (h : CellsAt w a cs) : CellsAt w' a cs := fun j u hj => hk.cell (h j u hj) (fun f => f)

set_option maxRecDepth 100000 in
set_option maxHeartbeats 2000000 in
theorem put_raw {N : Nat} {w : World} {ρ : Nat → Nat} {c : Nat} {l : List Ver} (h : ChAt N w ρ c l) (hr : RisV l) (hl : l.length ≤ 100000) (hN : N ≤ w.heap.size) (hc : c < w.heap.size) (hcc : ρ c ≠ 10 + c) (v : Ver) (hv1 : 1 ≤ v.t) (hv2 : v.t ≤ 9223372036854775807) :
    Calls Try.prog 39 #[.pointer (some ⟨c, 0, none⟩), .agg #[.int .i64 v.t, .bool v.there, .string v.data]] w fun e w' => e = .returned (.tuple #[]) ∧ ChB N w w' ρ c (putV l v) := by
  obtain ⟨wA, hwA⟩ : ∃ W, W = w.alloc (.cells #[.int .i64 v.t, .bool v.there, .string v.data] 75) := ⟨_, rfl⟩
  have hka : Same w wA := by rw [hwA]; exact (Kept.refl _ w).alloc _
  obtain ⟨xb, hxb⟩ : ∃ x, x = w.heap.size := ⟨_, rfl⟩
  have BA : Blk wA xb #[.int .i64 v.t, .bool v.there, .string v.data] 75 := by rw [hwA, hxb]; exact Blk.new w _ _
  have HA : Hid (ChAt N wA ρ c l) := hid (h.same hka)
  have HKA : Hid (Same w wA) := hka
  obtain ⟨vt, there, data⟩ := v
  obtain ⟨n, hn⟩ : ∃ n, n = upV l (vt - 1) := ⟨_, rfl⟩
  have hle := upV_le l (vt - 1)
  have HU : Hid (∀ w', Same wA w' → Calls Try.prog 46 #[.pointer (some ⟨c, 0, none⟩), .int .i64 (vt - 1)] w' fun e w2 => e = .returned (.int .i64 (n : Nat)) ∧ Same w' w2) := hid (fun w' hk => by rw [hn]; exact upTo_any (HA.out.same hk) hr hl (vt - 1))
  have qw : IntKind.i64.wrap (vt - 1) = vt - 1 := by rw [IntKind.wrap_i64]; simp only at hv1 hv2; omega
  obtain ⟨u, hb, hrow, hown⟩ := HA.out
  obtain ⟨ao, cap, hv, hg, hao, hcap, hmx⟩ := hrow.shape
  have hcut : l.take n = l.filter (fun x => decide (x.t ≤ vt - 1)) := by rw [hn]; exact upV_take hr _
  rw [← hn] at hle
  obtain ⟨L, hL⟩ : ∃ L, L = l.length := ⟨_, rfl⟩
  have HP : Hid (putV l ⟨vt, there, data⟩ = l.take n ++ [⟨vt, there, data⟩]) := hid (by rw [hcut]; rfl)
  have hbl : Hid (Blk wA c #[.slice ao L cap] 90) := hid (by rw [hL, ← hv]; exact hb)
  have HR1 : Hid (∀ w', Same wA w' → RowC N 75 3 verE w' (.slice ao n cap) (l.take n)) := hid (fun w' hk => by
    have h1 := hrow.kept hk (fun _ _ f => f)
    rw [hv] at h1
    cases ao with
    | none =>
      have e1 : l = [] := by by_cases e : l = []; · exact e
                             · obtain ⟨g, e2⟩ := hg e; cases e2
      have e2 : n = 0 := by rw [e1] at hle; simpa using hle
      have e3 : cap = 0 := hao rfl
      rw [e1, e2, e3]
      exact RowC.nil
    | some ad =>
      have h2 := h1
      rcases h2.2 with ⟨h', _⟩ | ⟨g', cap', cur, h', _⟩
      · simp at h'
      · simp only [Value.slice.injEq, Option.some.injEq] at h'
        obtain ⟨rfl, _, _⟩ := h'
        have h3 : RowC N 75 3 verE w' (.slice (some ⟨g', 0, none⟩) l.length cap) (l.take n ++ l.drop n) := by rw [List.take_append_drop]; exact h1
        have h4 := RowC.cut verE_ok h3
        rw [List.length_take, Nat.min_eq_left hle] at h4
        exact h4)
  have a0 := BA.cell 0
  have a1 := BA.cell 1
  have a2 := BA.cell 2
  have d0 := hbl.out.cell 0
  have z0 := hbl.out.frozen 0
  simp at a0 a1 a2 d0
  have HQ : Hid (N ≤ w.heap.size ∧ c < w.heap.size ∧ l.length ≤ 100000 ∧ ρ c ≠ 10 + c ∧ xb = w.heap.size) := hid ⟨hN, hc, hl, hcc, hxb⟩
  have HO : Hid (∀ k, (Value.slice ao n cap).ownBlock = some k → ρ k = 10 + c) := hid (fun k e => hown k (by rw [hv]; cases ao with | none => exact e | some a => exact e))
  have HLT : Hid ((l.take n).length = n) := hid (by rw [List.length_take]; omega)
  have nL : n ≤ L := by omega
  have nc : n ≤ cap := by omega
  have ni : (n : Int) ≤ (cap : Int) := by omega
  have hmx2 : cap ≤ maxLen := hmx
  unfold ChB
  rw [HP.out]
  clear h hr hl hN hc hcc hv1 hv2 hb hrow hown hv hg hao hcap hmx hcut hle hL hn BA hka HP hmx2
  go_enter Try.func39, Try.ntmps39
  go_wp2_with fail
  rw [← hwA, ← hxb]
  clear hwA hxb
  have hs0 : Same wA wA := Kept.refl _ _
  have hsA : Same wA (wA.alloc (.cells #[.int .i64 vt, .bool there, .string data] 75)) := (Kept.refl _ _).alloc _
  have a0a := hsA.cell a0 (fun f => f)
  have a1a := hsA.cell a1 (fun f => f)
  have a2a := hsA.cell a2 (fun f => f)
  have d0a := hsA.cell d0 (fun f => f)
  clear hsA
  go_region_law (first
    | (refine step_callC (by rfl) 46 #[.pointer (some ⟨c, 0, none⟩), .int .i64 (vt - 1)] (by simp [go_sem]) _ (HU.out _ (by first | exact hs0 | exact hs0.drew | exact hs0.alloc _ | exact (hs0.drew).alloc _ | exact (hs0.alloc _).drew)) ?_; rintro e w2 ⟨rfl, hk2⟩; have hk2a : Same wA w2 := Same.trans (by first | exact hs0 | exact hs0.drew | exact hs0.alloc _ | exact (hs0.drew).alloc _ | exact (hs0.alloc _).drew) hk2; have a0 := hk2a.cell a0 (fun f => f); have a1 := hk2a.cell a1 (fun f => f); have a2 := hk2a.cell a2 (fun f => f); have d0 := hk2a.cell d0 (fun f => f); have d0b := (show Same w2 (w2.alloc (.cells #[.int .i64 vt, .bool there, .string data] 75)) from (Kept.refl _ _).alloc _).cell d0 (fun f => f); refine ⟨_, rfl, ?_⟩)
    | (refine step_appendC verE 3 verE_ok N 88 75 (.agg #[.int .i64 0, .bool false, .string ⟨#[]⟩]) 32 Try.underlying88 Try.infoVer rfl (by decide) (by rfl) (.tmp 14) (.tmp 16) (by rfl) (.slice ao n cap) (l.take n) (by rfl) (HR1.out _ (by first | exact hk2a | exact hk2a.alloc _)) _ 1 1 [⟨vt, there, data⟩] (by rfl) (by rfl) (by first | exact cellsAt_ver _ ⟨vt, there, data⟩ | exact cellsAt_same hk2 (cellsAt_ver _ ⟨vt, there, data⟩)) (by have := HQ.out; have := HLT.out; simp; omega) (by have := HQ.out; have := HKA.out.size; have := hk2a.size; simp; omega) ?_; intro v5 w5 hr5 hg5 hb5; have hk5 : Kept (fun k => (Value.slice ao n cap).ownBlock = some k) wA w5 := Kept.trans (F := fun _ => False) (by first | exact hk2a | exact hk2a.alloc _) ((Kept.refl _ _).grown hg5 (fun k e => .inl e)) (fun _ _ f => False.elim f) (fun _ _ e => e); have hb5 : ∀ j, v5.ownBlock = some j → (Value.slice ao n cap).ownBlock = some j ∨ w.heap.size ≤ j := (fun j e => (hb5 j e).imp id (fun h => by have := HKA.out.size; have := hk2a.size; (try simp at h); omega)); have z5 := (hbl.out.kept hk5 (fun e => HQ.out.2.2.2.1 (HO.out c e))).frozen 0; have d5 := (hbl.out.kept hk5 (fun e => HQ.out.2.2.2.1 (HO.out c e))).cell 0; simp at d5; obtain ⟨a5, n5, q5, e5⟩ : ∃ a n q, v5 = Value.slice a n q := (by obtain ⟨a, q, e, _⟩ := hr5.shape; exact ⟨a, _, q, e⟩); subst e5; clear hg5))
  all_goals
    have HF : Hid (RowC N 75 3 verE w5 (.slice a5 n5 q5) (l.take n ++ [⟨vt, there, data⟩]) ∧ Kept (fun k => (Value.slice ao n cap).ownBlock = some k) wA w5 ∧ ∀ j, (Value.slice a5 n5 q5).ownBlock = some j → (Value.slice ao n cap).ownBlock = some j ∨ w.heap.size ≤ j) := hid ⟨hr5, hk5, hb5⟩
    clear hr5 hk5 hb5
    as_aux_lemma =>
    go_wp2_with fail
    go_end0
    have hcn : ¬ (Value.slice ao n cap).ownBlock = some c := fun e => HQ.out.2.2.2.1 (HO.out c e)
    refine ⟨rfl, .slice a5 n5 q5, ?_, ?_, fun k e => (HF.out.2.2 k e).imp (HO.out k) id, ?_⟩
    · have h9 := (hbl.out.kept HF.out.2.1 hcn).set 0 (.slice a5 n5 q5)
      simpa using h9
    · refine HF.out.1.kept (F := (· = c)) ((Kept.refl _ _).setCell _ _ (.inl rfl)) (fun j e e2 => ?_)
      subst e2
      rcases HF.out.2.2 j e with h | h
      · exact hcn h
      · have := HQ.out; omega
    · have h1 : Kept (fun k => k = c ∨ ρ k = 10 + c) w w5 := Kept.trans HKA.out HF.out.2.1 (fun _ _ f => f.elim) (fun k _ e => .inr (HO.out k e))
      exact h1.setCell _ _ (.inl (.inl rfl))

end Go.Proofs.Ythignkloecfcbaa
