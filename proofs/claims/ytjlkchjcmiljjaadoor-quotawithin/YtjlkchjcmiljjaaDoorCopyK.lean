/-
  Rows of some cells an element: made, copied into.
-/
import Derived.Test.YtjlkchjcmiljjaaDoorRec
import Derived.Laws.CopyOwn
import Derived.Deep.RegionLaw
namespace Go.Proofs.YtjlkchjcmiljjaaDoor
open Go.RowKit

theorem flat_made {α : Type} {enc : α → List Value} {k : Nat} (ok : EncOk enc k) (x0 : α) (n : Nat) : (madeCells (enc x0).toArray (n * k)).toList = (List.replicate n x0).flatMap enc := by
  have hk := ok.pos
  have hl := ok.len x0
  refine List.ext_getElem? (fun i => ?_)
  by_cases hi : i < n * k
  · have h1 : i / k < n := (Nat.div_lt_iff_lt_mul hk).2 hi
    have h2 : i % k < k := Nat.mod_lt _ hk
    have h3 := flat_get ok (List.replicate n x0) (i / k) (i % k) (by simpa using h1) h2
    rw [List.getElem_replicate, Nat.div_add_mod' i k] at h3
    rw [h3]
    simp [madeCells, hi, hl, h2]
  · rw [List.getElem?_eq_none (by simp [madeCells]; omega), List.getElem?_eq_none (by rw [flat_length ok]; simp; omega)]

/-- A whole block. -/
def Raw (w : World) (g : Nat) (t : TypeId) (L : List Value) : Prop := w.heap[g]? = some (.cells L.toArray t (0, 0))

theorem RowC.raw {α : Type} {B t k : Nat} {enc : α → List Value} {w : World} {g n : Nat} {xs : List α} (h : RowC B t k enc w (.slice (some ⟨g, 0, none⟩) n n) xs) : Raw w g t (xs.flatMap enc) := by
  have hl := h.len
  rcases h.2 with ⟨e, _⟩ | ⟨g', cap, cur, e, _, hg, _, _, hcs, htake⟩
  · simp at e
  · simp only [Value.slice.injEq, Option.some.injEq, Addr.mk.injEq, and_true] at e
    obtain ⟨rfl, rfl, rfl⟩ := e
    have : cur.toList = xs.flatMap enc := by
      rw [← htake, List.take_of_length_le]
      have h2 : cur.toList.length = cur.size := by simp
      rw [h2, hcs, hl]
      exact Nat.le_refl _
    unfold Raw
    rw [hg, ← this]

theorem Raw.row {α : Type} {B t k : Nat} {enc : α → List Value} (ok : EncOk enc k) {w : World} {g : Nat} {xs : List α} (h : Raw w g t (xs.flatMap enc)) (hB : B ≤ g) (hm : xs.length ≤ maxLen) : RowC B t k enc w (.slice (some ⟨g, 0, none⟩) xs.length xs.length) xs := by
  have hl := flat_length ok xs
  refine ⟨hl, .inr ⟨g, xs.length, _, rfl, hB, h, Nat.le_refl _, hm, ?_, ?_⟩⟩
  · simp [hl]
  · rw [List.take_of_length_le (by simp [hl])]

theorem Raw.kept {F : Nat → Prop} {w w' : World} {g : Nat} {t : TypeId} {L : List Value} (h : Raw w g t L) (hk : Kept F w w') (hF : ¬ F g) : Raw w' g t L := by
  unfold Raw
  rw [hk.block g (Array.getElem?_eq_some_iff.1 h).1 hF]
  exact h

/-- make(S, n). -/
theorem wpList_make_c {α : Type} {ops : Array Oper} {rest : List Oper} {o : Oper} {a : Act} {Q : Exit → Act → World → Prop} (w : World) (enc : α → List Value) (k : Nat) (ok : EncOk enc k) (x0 : α) (B sT eT : Nat) (z : Value) (bytes : Nat)
    (hU : Tryd.prog.underlying sT = some (.slice eT)) (hI : (Tryd.prog.info? eT).map (fun i => (i.zero, i.size, i.bytes)) = some (some z, k, bytes)) (hz : z.cells = (enc x0).toArray) (hby : bytes ≤ 1000)
    (hg : o.guard = none) (l c : Operand) (hop : o.op = Op.makeSlice sT l c) (kl kc : IntKind) (L C : Int) (n : Nat)
    (hl : a.eval l = .int kl L) (hc : a.eval c = .int kc C) (hL : L = (n : Int)) (hC : C = (n : Int)) (hn : n ≤ 1000000000) (hB : B ≤ w.heap.size)
    (hK : ∀ w', RowC B eT k enc w' (.slice (some ⟨w.heap.size, 0, none⟩) n n) (List.replicate n x0) → w.grownBy w' none → w.heap.size < w'.heap.size → wpList Tryd.prog ops Q rest (a.put o.dst (.slice (some ⟨w.heap.size, 0, none⟩) n n)) w') : wpList Tryd.prog ops Q (o :: rest) a w := by
  obtain ⟨i0, hi, hz0, hz1, hz2⟩ := info_parts hI
  have hmul : n * bytes ≤ 1000000000 * 1000 := Nat.mul_le_mul hn hby
  refine wpList_make_full w hg l c sT hop B eT i0 z k hU hi hz0 hz1 kl kc L C n hl hc hL hC (by rw [hz2]; have := Nat.mul_comm n bytes; omega) (by simp only [maxLen]; omega) hB ?_
  intro w' h1 h2
  refine hK w' ?_ h2 (World.ownsRow.lt h1 w.heap.size rfl).2
  rw [hz, flat_made ok] at h1
  unfold RowC
  rw [List.length_replicate]
  exact h1

theorem run_copy_k {P : Program} (w : World) (dT sT ty elem : TypeId) (k g off dLen dCap : Nat) (ad : Addr) (sLen sCap : Nat) (cur : List Value) (t : TypeId) (cs : List Value)
    (hu : P.underlying dT = some (.slice elem)) (hs : (P.info? elem).map (·.size) = some k) (hg : Raw w g t cur) (hn : cs.length = Nat.min sLen dLen * k)
    (hsrc : CellsAt w ad cs) (hfit : off + cs.length ≤ cur.length) (h1 : ∀ v ∈ cs, v.oneCell' = true) :
    (Builtin.copy_ #[dT, sT] ty #[.slice (some ⟨g, off, none⟩) dLen dCap, .slice (some ad) sLen sCap]).run P w =
      .ok (goInt (Nat.min sLen dLen)) (w.setRow g (splice cur off cs).toArray) := by
  have hl := run_loadCells_list (P := P) w ad cs hsrc
  have hst := run_storeCells_at P g off t cs 0 cur.toArray w hg (by simpa using hfit) h1
  rw [hn] at hl
  cases hq : P.info? elem with
  | none => simp [hq] at hs
  | some i =>
    have hi : i.size = k := by simpa [hq] using hs
    simp [Builtin.copy_, run_underlying hu, Builtin.lenOf, Builtin.firstCells, sizeOf, typeInfo, hq, hi, hl, hst, splice]

theorem run_copy_none_k {P : Program} (w : World) (dT sT ty elem : TypeId) (k : Nat) (d s : Option Addr) (dLen dCap sLen sCap : Nat)
    (hu : P.underlying dT = some (.slice elem)) (hs : (P.info? elem).map (·.size) = some k) (hn : Nat.min sLen dLen = 0) :
    (Builtin.copy_ #[dT, sT] ty #[.slice d dLen dCap, .slice s sLen sCap]).run P w = .ok (goInt 0) w := by
  cases hq : P.info? elem with
  | none => simp [hq] at hs
  | some i =>
    have hl : ∀ (x : Addr), (loadCells x 0).run P w = .ok #[] w := fun x => by simpa using run_loadCells_list (P := P) w x [] (by simp)
    cases d <;> cases s <;> simp [Builtin.copy_, run_underlying hu, Builtin.lenOf, Builtin.firstCells, sizeOf, typeInfo, hq, hn, storeCells, hl]

theorem splice_nil {α : Type} (L : List α) (off : Nat) : splice L off [] = L := by simp [splice]

theorem grown_setRow (w : World) (g : Nat) (cs : Array Value) : w.grownBy (w.setRow g cs) (some g) :=
  ⟨rfl, rfl, rfl, by simp, fun k _ hk => setRow_other w g k _ (fun e => hk (by simp [e]))⟩

/-- copy as a step of a walk. -/
theorem wpList_copy_k {ops : Array Oper} {rest : List Oper} {o : Oper} {a : Act} {Q : Exit → Act → World → Prop} (w : World) (hgd : o.guard = none) (d s : Operand) (dT sT : TypeId)
    (ho : o.op = .call { callee := .builtin .copy, args := #[d, s], argTypes := #[dT, sT] }) (elem : TypeId) (k : Nat) (hu : Tryd.prog.underlying dT = some (.slice elem)) (hsz : (Tryd.prog.info? elem).map (·.size) = some k)
    (g off dLen dCap : Nat) (sp : Option Addr) (sLen sCap : Nat) (hd : a.eval d = .slice (some ⟨g, off, none⟩) dLen dCap) (hs : a.eval s = .slice sp sLen sCap)
    (cur : List Value) (t : TypeId) (hg : Raw w g t cur) (cs : List Value) (hn : cs.length = Nat.min sLen dLen * k) (hpos : 0 < cs.length → ∃ ad, sp = some ad ∧ CellsAt w ad cs) (hk : 0 < k)
    (hfit : off + cs.length ≤ cur.length) (h1 : ∀ v ∈ cs, v.oneCell' = true) (m : Nat) (hm : Nat.min sLen dLen = m)
    (h : ∀ w', Raw w' g t (splice cur off cs) → w.grownBy w' (some g) → wpList Tryd.prog ops Q rest (a.put o.dst (.int .i64 (m : Nat))) w') : wpList Tryd.prog ops Q (o :: rest) a w := by
  refine wpList_plain hgd fun K hK => ?_
  by_cases h0 : cs = []
  · subst h0
    have hm0 : Nat.min sLen dLen = 0 := by
      rcases Nat.eq_zero_or_pos (Nat.min sLen dLen) with h | h
      · exact h
      · have := Nat.mul_pos h hk; simp at hn; omega
    have hrun := run_copy_none_k (P := Tryd.prog) w dT sT o.type elem k (some ⟨g, off, none⟩) sp dLen dCap sLen sCap hu hsz hm0
    have hmz : m = 0 := by omega
    subst hmz
    rw [splice_nil] at h
    unfold Oper.wp
    simp [execOp, ho, resolve, invoke, builtin, hd, hs, hrun, Result.andThen]
    exact hK _ _ (h w hg (World.grownBy.refl _ _))
  · obtain ⟨ad, rfl, hsrc⟩ := hpos (List.length_pos_iff.2 h0)
    have hrun := run_copy_k (P := Tryd.prog) w dT sT o.type elem k g off dLen dCap ad sLen sCap cur t cs hu hsz hg hn hsrc hfit h1
    rw [hm] at hrun
    unfold Oper.wp
    simp [execOp, ho, resolve, invoke, builtin, hd, hs, hrun, Result.andThen]
    exact hK _ _ (h _ (setRow_heap w g _ _ t _ hg) (grown_setRow w g _))

/-- copy as a step of a region that draws its order. -/
theorem step_copy_k {ops : Array Oper} {o : Oper} {a : Act} {w : World} {K : Act → World → Prop} {Q : Exit → Act → World → Prop} {E : Prop} (hgd : o.guard = none) (d s : Operand) (dT sT : TypeId)
    (ho : o.op = .call { callee := .builtin .copy, args := #[d, s], argTypes := #[dT, sT] }) (elem : TypeId) (k : Nat) (hu : Tryd.prog.underlying dT = some (.slice elem)) (hsz : (Tryd.prog.info? elem).map (·.size) = some k)
    (g off dLen dCap : Nat) (ad : Addr) (sLen sCap : Nat) (hd : a.eval d = .slice (some ⟨g, off, none⟩) dLen dCap) (hs : a.eval s = .slice (some ad) sLen sCap)
    (cur : List Value) (t : TypeId) (hg : Raw w g t cur) (cs : List Value) (hn : cs.length = Nat.min sLen dLen * k) (hsrc : CellsAt w ad cs)
    (hfit : off + cs.length ≤ cur.length) (h1 : ∀ v ∈ cs, v.oneCell' = true) (m : Nat) (hm : Nat.min sLen dLen = m)
    (h : ∀ w', Raw w' g t (splice cur off cs) → w.grownBy w' (some g) → K (a.put o.dst (.int .i64 (m : Nat))) w') :
    if Region.wanted o (yielded ops a.tmps) = true then Oper.wp Tryd.prog o a w K Q else E := by
  have hw : Region.wanted o (yielded ops a.tmps) = true := by simp [Region.wanted, hgd]
  rw [if_pos hw]
  have hrun := run_copy_k (P := Tryd.prog) w dT sT o.type elem k g off dLen dCap ad sLen sCap cur t cs hu hsz hg hn hsrc hfit h1
  rw [hm] at hrun
  unfold Oper.wp
  simp [execOp, ho, resolve, invoke, builtin, hd, hs, hrun, Result.andThen]
  exact h _ (setRow_heap w g _ _ t _ hg) (grown_setRow w g _)

/-- Cells of a block that is known whole. -/
theorem Raw.at {w : World} {g : Nat} {t : TypeId} {L : List Value} (h : Raw w g t L) (n : Nat) : CellsAt w ⟨g, 0, none⟩ (L.take n) := by
  intro j u hu
  have hj : j < (L.take n).length := (List.getElem?_eq_some_iff.1 hu).1
  rw [List.length_take] at hj
  rw [List.getElem?_take_of_lt (by omega)] at hu
  have e : (⟨g, 0, none⟩ : Addr).add j = ⟨g, j, none⟩ := by unfold Addr.add; split <;> simp_all
  rw [e]
  unfold Raw at h
  simp [World.cell?, h, hu]

/-- append as a step of a region that draws its order. -/
theorem step_append_c {α : Type} {ops : Array Oper} {o : Oper} {a : Act} {w : World} {K : Act → World → Prop} {Q : Exit → Act → World → Prop} {E : Prop} (enc : α → List Value) (k : Nat) (ok : EncOk enc k) (B sT eT : Nat) (z : Value) (bytes : Nat)
    (hU : Tryd.prog.underlying sT = some (.slice eT)) (hI : (Tryd.prog.info? eT).map (fun i => (i.zero, i.size, i.bytes)) = some (some z, k, bytes)) (hz : z.cells.size = k) (hby : bytes ≤ 1000) (hgd : o.guard = none) (s x : Operand)
    (ho : o.op = .call { callee := .builtin .append, args := #[s, x], argTypes := #[sT, sT] })
    (v : Value) (xs : List α) (hs : a.eval s = v) (hrow : RowC B eT k enc w v xs) (ad : Addr) (m c : Nat) (cs : List α) (hx : a.eval x = .slice (some ad) m c) (hm : cs.length = m) (hcs : CellsAt w ad (cs.flatMap enc)) (hlen : xs.length + cs.length ≤ 1000000000) (hB : B ≤ w.heap.size)
    (h : ∀ v' w', RowC B eT k enc w' v' (xs ++ cs) → w.grownBy w' v.ownBlock → K (a.put o.dst v') w') : if Region.wanted o (yielded ops a.tmps) = true then Oper.wp Tryd.prog o a w K Q else E := by
  have hw : Region.wanted o (yielded ops a.tmps) = true := by simp [Region.wanted, hgd]
  rw [if_pos hw]
  subst hm
  obtain ⟨i0, hi, hz0, hz1, hz2⟩ := info_parts hI
  have hmul : (xs.length + cs.length) * bytes ≤ 1000000000 * 1000 := Nat.mul_le_mul hlen hby
  refine wp_append_own w s x sT ho B eT i0 z k bytes hU hi hz0 hz1 hz2 hz ok.pos v xs.length (xs.flatMap enc) hs hrow ad cs.length c (cs.flatMap enc) hx (flat_length ok cs) hcs (flat_one ok cs) (by simp only [maxLen]; omega) (by omega) hB ?_
  intro v' w' h1 h2 _
  refine h v' w' ?_ h2
  unfold RowC
  rw [List.length_append, List.flatMap_append]
  exact h1

end Go.Proofs.YtjlkchjcmiljjaaDoor
