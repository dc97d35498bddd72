/-
  Nothing old turned.
-/
import Derived.Test.YtaefgnakdadgeaaHRow
namespace Go.Proofs.Ytaefgnakdadgeaa
open Go.RowKit

/-- Nothing of what was there has turned. -/
abbrev Same (w w' : World) : Prop := Kept (fun _ => False) w w'

theorem Same.of {F : Nat → Prop} {w w' : World} (h : Kept F w w') (hF : ∀ k, k < w.heap.size → ¬ F k) : Same w w' := h.mono (fun k hk f => hF k hk f)

theorem Same.trans {a b c : World} (h : Same a b) (k : Same b c) : Same a c := Kept.trans h k (fun _ _ h => h) (fun _ _ h => h)

/-- What is written in new memory alone. -/
theorem Same.then {a b c : World} {F : Nat → Prop} (h : Same a b) (k : Kept F b c) (hF : ∀ x, x < a.heap.size → ¬ F x) : Same a c := Kept.trans h k (fun _ _ h => h) (fun x hx f => hF x hx f)

theorem SrcE.same {α : Type} {enc : α → Value} {w w' : World} {I : Nat → Prop} {v : Value} {xs : List α} (h : SrcE enc w I v xs) (hk : Same w w') : SrcE enc w' I v xs := h.kept hk (fun _ _ _ f => f)

theorem RowE.same {α : Type} {enc : α → Value} {B t : Nat} {w w' : World} {v : Value} {xs : List α} (h : RowE B t enc w v xs) (hk : Same w w') : RowE B t enc w' v xs := h.kept hk (fun _ _ f => f)

end Go.Proofs.Ytaefgnakdadgeaa
