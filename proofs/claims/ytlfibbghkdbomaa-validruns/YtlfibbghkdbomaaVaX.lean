/-
  Layer 13: a set and the reference's side by side.
-/
import Derived.Test.YtlfibbghkdbomaaVaW
import Derived.Deep.RegionLaw
namespace Go.Proofs.Ytlfibbghkdbomaa
open Go.RowKit Go.Maps Go.Sort Go.Shelf

set_option maxRecDepth 100000 in
set_option maxHeartbeats 1000000 in
theorem kwrites_true (w : World) (N N' : Nat) (v v' : Value) (xs : List Wr) (h : RowC N 51 5 wrE w v xs) (h' : RowC N' 51 5 wrE w v' xs) (hl : xs.length ≤ 100000) : Calls Try.prog 11 #[v, v'] w fun e w' => e = .returned (.bool true) ∧ Same w w' := by
  obtain ⟨a, c, hv, hg, _⟩ := h.shape
  obtain ⟨a', c', hv', hg', _⟩ := h'.shape
  obtain ⟨n, hn⟩ : ∃ n, n = xs.length := ⟨_, rfl⟩
  rw [← hn] at hv hv' hl
  subst hv hv'
  have HR : Hid (∀ w', Same w w' → RowC N 51 5 wrE w' (.slice a n c) xs ∧ RowC N' 51 5 wrE w' (.slice a' n c') xs) := hid (fun w' hk => ⟨h.kept hk (fun _ _ f => f), h'.kept hk (fun _ _ f => f)⟩)
  have HG : Hid ((xs ≠ [] → ∃ g, a = some ⟨g, 0, none⟩) ∧ (xs ≠ [] → ∃ g, a' = some ⟨g, 0, none⟩) ∧ n = xs.length ∧ n ≤ 100000) := hid ⟨hg, hg', hn, hl⟩
  have hb1 : ((n : Int) != (n : Int)) = false := by simp
  clear h h' hg hg' hn hl
  go_enter Try.func11, Try.ntmps11
  go_wp2_with fail
  go_loopg [5] n (fun q z wr => ∃ i : Nat, n - i ≤ q ∧ i ≤ n ∧ z = .int .i64 (i : Nat) ∧ Hid (Same w wr))
  case atStart => exact ⟨0, by omega, by omega, rfl, hid (Kept.refl _ _)⟩
  case round =>
    obtain ⟨i, hq, hil, rfl, HS⟩ := hrel
    by_cases hlt : i < n
    · have hli : decide (i < n) = true := decide_eq_true hlt
      have hli2 : (i : Int) < (n : Int) := by omega
      have hlt2 : i < xs.length := by have := HG.out.2.2.1; omega
      obtain ⟨g, hg⟩ := HG.out.1 (fun e => by rw [e] at hlt2; simp at hlt2)
      obtain ⟨g', hg'⟩ := HG.out.2.1 (fun e => by rw [e] at hlt2; simp at hlt2)
      subst hg hg'
      obtain ⟨y, hy⟩ : ∃ y, y = xs[i] := ⟨_, rfl⟩
      have hcw : ∀ q u, q < 5 → (wrE y)[q]? = some u → wr.cell? ⟨g, i * 5 + q, none⟩ = some u ∧ wr.cell? ⟨g', i * 5 + q, none⟩ = some u := fun q u hq e => ⟨by rw [RowC.cell wrE_ok (HR.out wr HS.out).1 i q hlt2 hq, ← hy, e], by rw [RowC.cell wrE_ok (HR.out wr HS.out).2 i q hlt2 hq, ← hy, e]⟩
      obtain ⟨k0, j0⟩ := hcw 0 (.string y.b.tn) (by decide) rfl
      obtain ⟨k1, j1⟩ := hcw 1 (.string y.b.ar) (by decide) rfl
      obtain ⟨k2, j2⟩ := hcw 2 (.string y.n.s) (by decide) rfl
      obtain ⟨k3, j3⟩ := hcw 3 (.bool y.there) (by decide) rfl
      obtain ⟨k4, j4⟩ := hcw 4 (.string y.data) (by decide) rfl
      rw [Nat.add_zero] at k0 j0
      have hiw : IntKind.i64.wrap ((i : Int) + 1) = ((i + 1 : Nat) : Int) := by have := HG.out.2.2.2; rw [IntKind.wrap_i64]; omega
      clear hcw hy
      go_wp2_with fail
      go_region
      all_goals go_wp2_with fail
      all_goals go_roundg (gk - 1)
      all_goals first
        | (case measure => omega)
        | skip
      all_goals exact ⟨i + 1, by omega, by omega, by go_num, hid HS.out.drew⟩
    · have hli : decide (i < n) = false := decide_eq_false hlt
      go_wp2_with fail
      go_ret
      exact ⟨rfl, HS.out⟩

theorem step_append_13 {α : Type} {ops : Array Oper} {o : Oper} {a : Act} {w : World} {K : Act → World → Prop} {Q : Exit → Act → World → Prop} {E : Prop} (enc : α → List Value) (k : Nat) (ok : EncOk enc k) (B sT eT : Nat) (z : Value) (bytes : Nat)
    (hU : Try.prog.underlying sT = some (.slice eT)) (hI : (Try.prog.info? eT).map (fun i => (i.zero, i.size, i.bytes)) = some (some z, k, bytes)) (hz : z.cells.size = k) (hby : bytes ≤ 1000) (hgd : o.guard = none) (s x : Operand)
    (ho : o.op = .call { callee := .builtin .append, args := #[s, x], argTypes := #[sT, sT] })
    (v : Value) (xs : List α) (hs : a.eval s = v) (hrow : RowC B eT k enc w v xs) (ad : Addr) (m c : Nat) (cs : List α) (hx : a.eval x = .slice (some ad) m c) (hm : cs.length = m) (hcs : CellsAt w ad (cs.flatMap enc)) (hlen : xs.length + cs.length ≤ 1000000000) (hB : B ≤ w.heap.size)
    (h : ∀ v' w', RowC B eT k enc w' v' (xs ++ cs) → w.grownBy w' v.ownBlock → K (a.put o.dst v') w') : if Region.wanted o (yielded ops a.tmps) = true then Oper.wp Try.prog o a w K Q else E := by
  have hw : Region.wanted o (yielded ops a.tmps) = true := by simp [Region.wanted, hgd]
  rw [if_pos hw]
  subst hm
  obtain ⟨i0, hi, hz0, hz1, hz2⟩ := info_parts hI
  have hmul : (xs.length + cs.length) * bytes ≤ 1000000000 * 1000 := Nat.mul_le_mul hlen hby
  obtain ⟨v', w', hr, h2, h3, _⟩ := run_append_own w B sT o.type eT i0 z k bytes hU hi hz0 hz1 hz2 hz ok.pos v xs.length (xs.flatMap enc) hrow ad cs.length c (cs.flatMap enc) (flat_length ok cs) hcs (flat_one ok cs) (by simp only [maxLen]; omega) (by omega) hB
  unfold Oper.wp
  simp [execOp, ho, resolve, invoke, builtin, hs, hx, hr, Result.andThen]
  refine h v' w' ?_ h3
  unfold RowC
  rw [List.length_append, List.flatMap_append]
  exact h2

theorem Try.infoKe : (Try.prog.info? 24).map (fun i => (i.zero, i.size, i.bytes)) = some (some (.agg #[.string ⟨#[]⟩, .string ⟨#[]⟩, .string ⟨#[]⟩]), 3, 48) := by kernel_rfl
theorem Try.infoBx13 : (Try.prog.info? 26).map (fun i => (i.zero, i.size, i.bytes)) = some (some (.agg #[.string ⟨#[]⟩, .string ⟨#[]⟩]), 2, 32) := by kernel_rfl

theorem cellsAt_ke (w : World) (b : Ke) : CellsAt (w.alloc (.cells #[.string b.1.tn, .string b.1.ar, .string b.2.s] 24)) ⟨w.heap.size, 0, none⟩ ([b].flatMap keE) := by
  intro j u hj
  match j, hj with
  | 0, hj => simp [keE] at hj; subst hj; simp [addAt]
  | 1, hj => simp [keE] at hj; subst hj; simp [addAt]
  | 2, hj => simp [keE] at hj; subst hj; simp [addAt]
  | j + 3, hj => simp [keE] at hj

theorem cellsAt_bx (w : World) (b : Bx) : CellsAt (w.alloc (.cells #[.string b.tn, .string b.ar] 26)) ⟨w.heap.size, 0, none⟩ ([b].flatMap bxC) := by
  intro j u hj
  match j, hj with
  | 0, hj => simp [bxC] at hj; subst hj; simp [addAt]
  | 1, hj => simp [bxC] at hj; subst hj; simp [addAt]
  | j + 2, hj => simp [bxC] at hj

section
variable {K N : Nat} {w : World} {p : Nat} {J : Nat → Prop} {M : Mv}

/-- What a set's blocks are. -/
theorem Vx.ty (h : Vx K w p J M) {k : Nat} (hk : J k) : (∃ es cl, w.heap[k]? = some (.map es cl)) ∨ ∃ cs, Blk w k cs 64 := by
  obtain ⟨mr, ml, ms, s, h1, h2, h3⟩ := h
  rcases (h2 k).1 hk with rfl | rfl | rfl | rfl
  · exact .inr ⟨_, h1.blk⟩
  · obtain ⟨es, cl, e, _⟩ := h1.rm; exact .inl ⟨es, cl, e⟩
  · obtain ⟨es, cl, e, _⟩ := h1.lm; exact .inl ⟨es, cl, e⟩
  · obtain ⟨es, cl, e, _⟩ := h1.sm; exact .inl ⟨es, cl, e⟩

theorem Vx.off_blk (h : Vx K w p J M) {k : Nat} {cs : Array Value} {t : TypeId} (hb : Blk w k cs t) (ht : t ≠ 64) : ¬ J k := fun hk => by
  unfold Blk at hb
  rcases h.ty hk with ⟨es, cl, e⟩ | ⟨cs', e⟩
  · rw [e] at hb; cases hb
  · unfold Blk at e
    rw [e] at hb
    simp only [Option.some.injEq, Obj.cells.injEq] at hb
    exact ht hb.2.1.symm

theorem Vx.off_row (h : Vx K w p J M) {B t k : Nat} {α : Type} {en : α → List Value} {v : Value} {xs : List α} (hr : RowC B t k en w v xs) (ht : t ≠ 64) {j : Nat} (hj : v.ownBlock = some j) : ¬ J j := by
  rcases hr.2 with ⟨rfl, _⟩ | ⟨g, cap, cur, rfl, _, hg, _⟩
  · cases hj
  · simp only [Value.ownBlock, Option.some.injEq] at hj
    subst hj
    exact h.off_blk (cs := cur) hg ht

variable {rp : Nat} {s : Rs} {v1 v2 v3 : Value}

theorem Rv.keptJ (h : Rv N w rp s v1 v2 v3) (hx : Vx K w p J M) {w' : World} (hk : Kept J w w') : Rv N w' rp s v1 v2 v3 :=
  { h with blk := h.blk.kept hk (hx.off_blk h.blk (by decide)), r1 := h.r1.kept hk (fun _ e => hx.off_row h.r1 (by decide) e), r2 := h.r2.kept hk (fun _ e => hx.off_row h.r2 (by decide) e), r3 := h.r3.kept hk (fun _ e => hx.off_row h.r3 (by decide) e) }

/-- They say the same. -/
structure Rel13 (M : Mv) (s : Rs) : Prop where
  t : M.t = s.t
  rd : ∀ k, M.rd k = s.rs.any (fun x => decide (x = k))
  ls : ∀ b, M.ls b = s.ls.any (fun x => decide (x = b))
  st : StW M s.st

theorem Rel13.saw (h : Rel13 M s) (k : Ke) : sawM M k = meeR s k := by unfold sawM meeR; rw [h.rd, h.ls]

theorem Rel13.cla (h : Rel13 M s) (t : Int) (ws : List Wr) : claM M t ws = claR s t ws := by
  unfold claM claR
  rw [h.t]
  have e : (fun r => sawM M (keO r)) = fun r => meeR s (keO r) := funext fun r => h.saw _
  rw [e]
  cases decide (s.t < t) with
  | true => simp
  | false => simp

theorem Rel13.emp (h : Rel13 M s) (hx : Vx K w p J M) : M.emp = !decide (0 < s.st.length) := by
  have h1 := hx.emp
  cases hs : s.st with
  | nil =>
    have : M.emp = true := h1.2 (fun k => by
      cases hk : M.st k with
      | none => rfl
      | some r =>
        have h2 := hx.own hk
        have h3 := (h.st.2 r).2 (by rw [h2]; exact hk)
        rw [hs] at h3
        cases h3)
    rw [this]; rfl
  | cons y l =>
    have : ¬ M.emp = true := fun e => by
      have h2 := (h.st.2 y).1 (by rw [hs]; exact List.mem_cons_self ..)
      rw [h1.1 e] at h2
      cases h2
    cases he : M.emp with
    | true => exact absurd he this
    | false => simp

theorem Rel13.chk (h : Rel13 M s) (hx : Vx K w p J M) (cs : List Cm) : chkM M cs = chkR s cs := by
  unfold chkM chkR
  rw [h.emp hx]
  split
  · cases decide (0 < s.st.length) with
    | false =>
      simp only [Bool.not_false, if_true, Bool.false_and]
      rw [ixL_none _ cs (fun _ _ => rfl)]
    | true =>
      simp only [Bool.not_true, Bool.true_and]
      rw [if_neg (by decide)]
      congr 1
      exact ixL_congr (fun c _ => h.cla _ _)
  · rfl

theorem Rel13.own (h : Rel13 M s) (hx : Vx K w p J M) (k : Ke) : M.st k = ownR s k := by
  unfold ownR
  cases hk : M.st k with
  | none =>
    symm
    rw [List.find?_eq_none]
    intro r hr
    have := (h.st.2 r).1 hr
    intro e
    rw [of_decide_eq_true e, hk] at this
    cases this
  | some r =>
    have h2 := hx.own hk
    have h3 := (h.st.2 r).2 (by rw [h2]; exact hk)
    cases hf : s.st.find? (fun r => decide (keO r = k)) with
    | none => exact absurd (decide_eq_true h2) (by have := List.find?_eq_none.1 hf r h3; simpa using this)
    | some y =>
      have h4 : keO y = k := by have := List.find?_some hf; simpa using this
      have h5 := (h.st.2 y).1 (List.mem_of_find?_eq_some hf)
      rw [h4, hk] at h5
      exact h5

theorem Rel13.read (h : Rel13 M s) (k : Ke) : Rel13 (rdM M k) { s with rs := s.rs ++ [k] } := ⟨h.t, fun x => by
    show (if k = x then true else M.rd x) = _
    rw [h.rd, List.any_append]
    by_cases e : k = x
    · simp [e]
    · simp [e], h.ls, ⟨h.st.1, h.st.2⟩⟩

theorem Rel13.list (h : Rel13 M s) (b : Bx) : Rel13 (lsM M b) { s with ls := s.ls ++ [b] } := ⟨h.t, h.rd, fun x => by
    show (if b = x then true else M.ls x) = _
    rw [h.ls, List.any_append]
    by_cases e : b = x
    · simp [e]
    · simp [e], ⟨h.st.1, h.st.2⟩⟩

theorem Rel13.stage (h : Rel13 M s) (r : Wr) : Rel13 (stM M r) { s with st := insS r s.st } := ⟨h.t, h.rd, h.ls, h.st.stage r⟩

end

/-- A set and the reference's. -/
def T13 (K N : Nat) (w : World) (p : Nat) (J : Nat → Prop) (M : Mv) (rp : Nat) (s : Rs) : Prop := ∃ v1 v2 v3, Vx K w p J M ∧ Rv N w rp s v1 v2 v3 ∧ (∀ k, J k → N ≤ k) ∧ Rel13 M s ∧ s.rs.length ≤ K ∧ s.ls.length ≤ K ∧ s.st.length ≤ K ∧ N ≤ w.heap.size

/-- What a step leaves. -/
def S13 (K N : Nat) (w : World) (p : Nat) (J : Nat → Prop) (t : Int) (rp : Nat) (w' : World) : Prop := ∃ M s, T13 K N w' p J M rp s ∧ M.t = t ∧ Kept (fun k => N ≤ k) w w'

end Go.Proofs.Ytlfibbghkdbomaa
