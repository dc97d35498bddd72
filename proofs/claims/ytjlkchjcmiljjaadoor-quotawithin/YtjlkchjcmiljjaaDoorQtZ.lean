/-
  Layer 17's law: a book and the reference's book side by side.
-/
import Derived.Test.YtjlkchjcmiljjaaDoorQtRA
import Derived.Test.YtjlkchjcmiljjaaDoorQtRT
import Derived.Test.YtjlkchjcmiljjaaDoorQtAr
import Derived.Test.YtjlkchjcmiljjaaDoorQtJ
namespace Go.Proofs.YtjlkchjcmiljjaaDoor
open Go.RowKit Go.Maps

/-- Both books. -/
structure Bo (w0 : World) (N : Nat) (w : World) (p ma mr : Nat) (bl : List Nat) (q : Nat) (lv uv : Value) (xs : List Tn) (S : Sq) : Prop where
  bk : Qb w p ma mr bl xs S
  rb : ∃ hv, Rq N w q lv uv hv xs S
  ten : SrcC 4 tnE w (fun k => k < w0.heap.size) lv xs
  lo : ∀ k, FQ p ma mr bl k → w0.heap.size ≤ k ∧ k < N
  le : w0.heap.size ≤ N
  hN : N ≤ w.heap.size
  same : Same w0 w

section
variable {w0 w : World} {N p ma mr q : Nat} {bl : List Nat} {lv uv : Value} {xs : List Tn} {S : Sq}

theorem Bo.to (h : Bo w0 N w p ma mr bl q lv uv xs S) {w' : World} (hk : Same w w') : Bo w0 N w' p ma mr bl q lv uv xs S := by
  obtain ⟨hv, hr⟩ := h.rb
  exact ⟨h.bk.same hk, ⟨hv, hr.same hk⟩, h.ten.kept tnE_ok hk (fun _ _ _ f => f), h.lo, h.le, Nat.le_trans h.hN hk.size, Same.trans h.same hk⟩

/-- The program's book has written. -/
theorem Rq.off {hv : Value} (h : Rq N w q lv uv hv xs S) (ht : SrcC 4 tnE w (fun k => k < w0.heap.size) lv xs) (hle : w0.heap.size ≤ N) {F : Nat → Prop} {w' : World} (hk : Kept F w w') (hF : ∀ k, F k → w0.heap.size ≤ k ∧ k < N) : Rq N w' q lv uv hv xs S ∧ SrcC 4 tnE w' (fun k => k < w0.heap.size) lv xs := by
  have ht' := ht.kept tnE_ok hk (fun j hj _ f => by have := hF j f; omega)
  refine ⟨⟨h.blk.kept hk (fun f => by have := hF q f; have := h.ge; omega), ht'.mono (fun j hj => by omega), h.use.kept hk (fun j e f => by have := hF j f; have := h.use.ge e; omega), h.hel.kept hk (fun j e f => by have := hF j f; have := h.hel.ge e; omega), h.ge⟩, ht'⟩

/-- One call on both sides: what both answer, what the book is behind them. -/
def Pair (w0 : World) (N : Nat) (w : World) (p ma mr : Nat) (bl : List Nat) (q : Nat) (lv uv : Value) (xs : List Tn) (fp fr : FuncId) (args : List Value) (r : Value) (S' : Sq) : Prop :=
  ∀ W, Same w W → Calls Tryd.prog fp (Value.pointer (some ⟨p, 0, none⟩) :: args).toArray W fun e w1 => e = .returned r ∧ Kept (fun k => k < w.heap.size) W w1 ∧
    ∀ W2, Same w1 W2 → Calls Tryd.prog fr (Value.pointer (some ⟨q, 0, none⟩) :: args).toArray W2 fun e w2 => e = .returned r ∧ Kept (fun k => k < w.heap.size) W2 w2 ∧ Bo w0 N w2 p ma mr bl q lv uv xs S'

theorem pair_of (h : Bo w0 N w p ma mr bl q lv uv xs S) {fp fr : FuncId} {args : List Value} {r : Value} {S' : Sq}
    (hp : ∀ W, Qb W p ma mr bl xs S → Calls Tryd.prog fp (Value.pointer (some ⟨p, 0, none⟩) :: args).toArray W fun e w' => e = .returned r ∧ Qb w' p ma mr bl xs S' ∧ Kept (FQ p ma mr bl) W w')
    (hr : ∀ W hv, N ≤ W.heap.size → Rq N W q lv uv hv xs S → Calls Tryd.prog fr (Value.pointer (some ⟨q, 0, none⟩) :: args).toArray W fun e w' => e = .returned r ∧ (∃ hv', Rq N w' q lv uv hv' xs S') ∧ Kept (FR q uv hv) W w') :
    Pair w0 N w p ma mr bl q lv uv xs fp fr args r S' := by
  obtain ⟨hv, hr9⟩ := h.rb
  have hwlt : ∀ k, FR q uv hv k → k < w.heap.size := fun k f => by
    rcases f with rfl | f | f
    · exact hr9.blk.lt
    · exact hr9.use.lt f
    · exact hr9.hel.lt f
  intro W hW
  have hB := h.to hW
  refine (hp W hB.bk).mono fun e w1 ⟨he, hq1, hk1⟩ => ⟨he, hk1.mono (fun k _ f => by have := h.lo k f; have := h.hN; omega), fun W2 hW2 => ?_⟩
  obtain ⟨hr1, ht1⟩ := (hr9.same hW).off hB.ten hB.le hk1 hB.lo
  have hr2 := hr1.same hW2
  have ht2 := ht1.kept tnE_ok hW2 (fun _ _ _ f => f)
  have hq2 := hq1.same hW2
  have hN2 : N ≤ W2.heap.size := by have := hB.hN; have := hk1.size; have := hW2.size; omega
  have hs1 : Same w0 w1 := hB.same.then hk1 (fun k hk f => by have := h.lo k f; omega)
  have hge : ∀ k, FR q uv hv k → N ≤ k := fun k f => hr2.fp_ge f
  refine (hr W2 hv hN2 hr2).mono fun e w2 ⟨he2, ⟨hv', hr3⟩, hk2⟩ => ⟨he2, hk2.mono (fun k _ f => hwlt k f), ?_⟩
  exact ⟨hq2.kept hk2 (fun k f g => by have := h.lo k f; have := hge k g; omega), ⟨hv', hr3⟩, ht2.kept tnE_ok hk2 (fun j hj _ f => by have := hge j f; have := h.le; omega), h.lo, h.le, Nat.le_trans hN2 hk2.size, (Same.trans hs1 hW2).then hk2 (fun k hk f => by have := hge k f; have := h.le; omega)⟩

theorem pair_set (h : Bo w0 N w p ma mr bl q lv uv xs S) (o : Ow) : Pair w0 N w p ma mr bl q lv uv xs 19 24 [.string o.tn, usV o.u] (.int .i64 (setZ xs o.tn o.u)) (setS xs S o.tn o.u) :=
  pair_of h (fun _ hq => qset_any hq o.nm o.u) (fun _ hv _ hr => (rqset_any hr h.bk.inv o.tn o.u).mono fun _ _ ⟨he, h1, h2⟩ => ⟨he, ⟨hv, h1⟩, h2⟩)

theorem pair_take (h : Bo w0 N w p ma mr bl q lv uv xs S) (hL : S.last ≤ 1000000) (o : Ow) : Pair w0 N w p ma mr bl q lv uv xs 17 28 [.int .i64 o.id] (.int .i64 (takeZ S o.id)) (takeS S o.id) :=
  pair_of h (fun _ hq => qtake_any hq o.nb) (fun _ _ hN hr => rqtake_any hr h.bk.inv hN (by have := h.bk.inv.cnt; omega) o.id)

theorem pair_free (h : Bo w0 N w p ma mr bl q lv uv xs S) (hL : S.last ≤ 1000000) (o : Ow) : Pair w0 N w p ma mr bl q lv uv xs 18 29 [.int .i64 o.id] (.int .i64 (takeZ S o.id)) (freeS S o.id) :=
  pair_of h (fun _ hq => qfree_is hq o.nb) (fun _ _ hN hr => rqfree_any hr hN (by have := h.bk.inv.cnt; omega) o.id)

theorem pair_use (h : Bo w0 N w p ma mr bl q lv uv xs S) (o : Ow) : Pair w0 N w p ma mr bl q lv uv xs 11 25 [.string o.tn] (useV xs S o.tn) S :=
  pair_of h (fun _ hq => (quse_any hq o.nm).mono fun _ _ ⟨he, hk⟩ => ⟨he, hq.same hk, hk.mono (fun _ _ f => f.elim)⟩) (fun _ hv _ hr => (rquse_any hr h.bk.inv o.tn).mono fun _ _ ⟨he, hk⟩ => ⟨he, ⟨hv, hr.same hk⟩, hk.mono (fun _ _ f => f.elim)⟩)

theorem pair_left (h : Bo w0 N w p ma mr bl q lv uv xs S) (hL : S.last ≤ 1000000) (o : Ow) : Pair w0 N w p ma mr bl q lv uv xs 12 26 [.string o.tn] (leftV xs S o.tn) S :=
  pair_of h (fun _ hq => (qleft_any hq o.nm).mono fun _ _ ⟨he, hk⟩ => ⟨he, hq.same hk, hk.mono (fun _ _ f => f.elim)⟩) (fun _ hv _ hr => (rqleft_any hr h.bk.inv (by have := h.bk.inv.cnt; omega) o.tn).mono fun _ _ ⟨he, hk⟩ => ⟨he, ⟨hv, hr.same hk⟩, hk.mono (fun _ _ f => f.elim)⟩)

theorem pair_res (h : Bo w0 N w p ma mr bl q lv uv xs S) (hL : S.last ≤ 1000000) (o : Ow) : Pair w0 N w p ma mr bl q lv uv xs 16 27 [.string o.tn, usV o.u] (.tuple #[.int .i64 (resZ xs S o.tn o.u).1, .int .i64 (resZ xs S o.tn o.u).2]) (resS xs S o.tn o.u) :=
  pair_of h (fun _ hq => qres_any hq o.nm o.u hL) (fun _ _ hN hr => rqres_any hr h.bk.inv hN (by have := h.bk.inv.cnt; omega) hL o.tn o.u)

end

end Go.Proofs.YtjlkchjcmiljjaaDoor
