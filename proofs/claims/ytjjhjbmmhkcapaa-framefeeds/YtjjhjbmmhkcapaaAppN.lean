/-
  append of any rows, of nil too.
-/
import Derived.Test.YtjjhjbmmhkcapaaRec
import Derived.Test.YtjjhjbmmhkcapaaBlk
namespace Go.Proofs.Ytjjhjbmmhkcapaa
open Go.RowKit

theorem run_append_none12 (w : World) (base : Nat) (t ty e : TypeId) (i : TypeInfo) (size c : Nat) (ht : Try.prog.underlying t = some (.slice e)) (hi : Try.prog.info? e = some i) (v : Value) (n : Nat) (xs : List Value) (hown : w.ownsRow base e size v n xs) : (Builtin.append_ #[t, t] ty #[v, .slice none 0 c]).run Try.prog w = .ok v w := by
  rcases hown.2 with ⟨rfl, rfl⟩ | ⟨g, cap, cur, rfl, _, _, hnc, _⟩
  · simp [Builtin.append_, run_underlying ht, sizeOf, typeInfo, hi, Builtin.lenOf, Builtin.firstCells]
  · simp [Builtin.append_, run_underlying ht, sizeOf, typeInfo, hi, Builtin.lenOf, Builtin.firstCells, hnc, storeCells]

theorem wpList_append_12 {α : Type} {ops : Array Oper} {rest : List Oper} {o : Oper} {a : Act} {Q : Exit → Act → World → Prop} (w : World) (enc : α → List Value) (k : Nat) (ok : EncOk enc k) (hk : k ≤ 100) (B sT eT : Nat) (z : Value) (bytes : Nat)
    (hU : Try.prog.underlying sT = some (.slice eT)) (hI : (Try.prog.info? eT).map (fun i => (i.zero, i.size, i.bytes)) = some (some z, k, bytes)) (hz : z.cells.size = k) (hby : bytes ≤ 1000) (hgd : o.guard = none) (s x : Operand)
    (ho : o.op = .call { callee := .builtin .append, args := #[s, x], argTypes := #[sT, sT] })
    (v : Value) (xs : List α) (hs : a.eval s = v) (hrow : RowC B eT k enc w v xs) (ao : Option Addr) (n c : Nat) (cs : List α) (hx : a.eval x = .slice ao n c) (hn : cs.length = n) (hsrc : ∀ ad, ao = some ad → CellsAt w ad (cs.flatMap enc)) (h0 : ao = none → cs = []) (hlen : xs.length + cs.length ≤ 1000000000) (hB : B ≤ w.heap.size)
    (h : ∀ v' w', RowC B eT k enc w' v' (xs ++ cs) → w.grownBy w' v.ownBlock → wpList Try.prog ops Q rest (a.put o.dst v') w') : wpList Try.prog ops Q (o :: rest) a w := by
  cases ao with
  | some ad => exact wpList_append_c w enc k ok hk B sT eT z bytes hU hI hz hby hgd s x ho v xs hs hrow ad n c cs hx hn (hsrc ad rfl) hlen hB h
  | none =>
    have e0 := h0 rfl
    subst e0
    have hn0 : n = 0 := hn.symm
    subst hn0
    obtain ⟨i0, hi, hz0, hz1, hz2⟩ := info_parts hI
    refine wpList_plain hgd fun K hK => ?_
    have hr := run_append_none12 w B sT o.type eT i0 k c hU hi v xs.length (xs.flatMap enc) hrow
    unfold Oper.wp execOp
    simp only [ho, resolve, invoke, builtin, Sem.run_bind, Sem.run_pure, Result.andThen_ok, List.map_toArray, List.map_cons, List.map_nil, hs, hx, hr]
    exact hK _ _ (h v w (by simpa using hrow) (World.grownBy.refl _ _))

end Go.Proofs.Ytjjhjbmmhkcapaa
