/-
  A region that draws its order, walked once in the text's order, over the class of the worlds in which nothing old has turned: callees may lay what is new.
-/
import Derived.Test.YtgbfhpilhnbnjaaDoorHmO
import Derived.Deep.Quiet
namespace Go.Proofs.YtgbfhpilhnbnjaaDoor
open Go.RowKit

section
variable {P : Program} {ops : Array Oper} {C : World → Prop} {Q : Act → Prop}

theorem wp_region_same {id : Nat} {Q : Exit → Act → World → Prop} {a : Act} {w : World} {l : List Oper} (hm : P.follows .mixedOrders = true) (hB : Region.lexB .any l.toArray = true)
    (h : wpQuiet P l.toArray (Same w) (fun a' => ∀ w', Same w w' → Q .normal a' w') l a) : (Code.region id l.toArray true).wp P Q a w :=
  wp_region_quiet (C := Same w) hm hB ((Kept.refl _ w).drew) (by simpa using h)

theorem wpq_value {o : Oper} {rest : List Oper} {a : Act} (hw : Region.wanted o (yielded ops a.tmps) = true) (v : Value) (hrun : ∀ W, C W → (execOp a.eval o).run P W = .ok (.value v) W)
    (h : wpQuiet P ops C Q rest (a.put o.dst v)) : wpQuiet P ops C Q (o :: rest) a := by
  unfold wpQuiet
  rw [if_pos hw]
  refine ⟨v, fun W hW => ?_, h⟩
  unfold Oper.quietAt
  rw [hrun W hW]
  exact ⟨rfl, rfl⟩

theorem wpq_not {o : Oper} {rest : List Oper} {a : Act} (hw : Region.wanted o (yielded ops a.tmps) = false) (h : wpQuiet P ops C Q rest (a.put o.dst undef)) : wpQuiet P ops C Q (o :: rest) a := by
  unfold wpQuiet
  rw [if_neg (by rw [hw]; decide)]
  exact h

theorem wpq_call {o : Oper} {rest : List Oper} {a : Act} (hw : Region.wanted o (yielded ops a.tmps) = true) (f : FuncId) (args : Array Value) (v : Value) (hrun : ∀ W, (execOp a.eval o).run P W = .ok (.enter f args) W)
    (hc : ∀ W, C W → Calls P f args W (fun e w' => e = .returned v ∧ C w')) (h : wpQuiet P ops C Q rest (a.put o.dst v)) : wpQuiet P ops C Q (o :: rest) a := by
  unfold wpQuiet
  rw [if_pos hw]
  refine ⟨v, fun W hW => ?_, h⟩
  unfold Oper.quietAt
  rw [hrun W]
  exact ⟨rfl, hc W hW⟩

theorem run_load_op (ty : TypeId) {x : Operand} {dst : Option Tmp} {tp : TypeId} {pos : String} {af : Array Edge} {gd : Option (Nat × Bool)} {a : Act} {g off : Nat} (hx : a.eval x = .pointer (some ⟨g, off, none⟩)) {v : Value} {W : World} (hl : (loadVar ty ⟨g, off, none⟩).run P W = .ok v W) :
    (execOp a.eval { dst := dst, op := .load ty x, type := tp, pos := pos, after := af, guard := gd }).run P W = .ok (.value v) W := by
  unfold execOp
  simp only [hx, Instr.loadAt, Instr.sureAddr, Sem.run_bind, Sem.run_pure, Result.andThen_ok, hl]

end

theorem calls_same {f : FuncId} {args : Array Value} {w : World} {v : Value} (h : ∀ W, Same w W → Calls Tryd.prog f args W (fun e w' => e = .returned v ∧ Same W w')) : ∀ W, Same w W → Calls Tryd.prog f args W (fun e w' => e = .returned v ∧ Same w w') :=
  fun W hW => (h W hW).mono (fun _ _ ⟨he, hk⟩ => ⟨he, Same.trans hW hk⟩)

/-- The bytes that came in. -/
structure Arg15 (w : World) (v : Value) (bs : List Nat) : Prop where
  src : Src w (fun k => k < w.heap.size) v bs
  cap : ∀ a n c, v = .slice a n c → n ≤ c
  nil : ∀ n c, v = .slice none n c → n = 0 ∧ c = 0
  byt : ∀ x ∈ bs, x < 256

theorem Arg15.same {w w' : World} {v : Value} {bs : List Nat} (h : Arg15 w v bs) (hk : Same w w') : Arg15 w' v bs :=
  ⟨(h.src.kept hk (fun _ _ _ f => f)).mono (fun _ hk' => Nat.lt_of_lt_of_le hk' hk.size), h.cap, h.nil, h.byt⟩

theorem row_none15 (w : World) : Row w (.slice none 0 0) [] := ⟨rfl, .inl ⟨rfl, rfl⟩⟩

end Go.Proofs.YtgbfhpilhnbnjaaDoor
