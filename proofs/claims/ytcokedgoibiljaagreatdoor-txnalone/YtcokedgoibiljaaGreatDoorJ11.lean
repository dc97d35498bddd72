/-
  Of the proof: parts ChTa.
-/
import Derived.Deep.Slices
import Derived.Deep.Strs
import Derived.Test.YtcokedgoibiljaaGreatDoorJ6
import Derived.Test.YtcokedgoibiljaaGreatDoorJ10

/-
  Layers 12 and 13: commits and keys that came in.
-/
namespace Go.Proofs.YtcokedgoibiljaaGreatDoor
open Go.ChangeShapes Go.WideShapes Go.ChangeAt Go.RowKit Go.Deep Go.Maps

/-- A commit that came in. -/
structure Cm where
  t : Int
  a : Option Addr
  n : Nat
  c : Nat
  ws : List Wr

/-- It can be read. -/
structure CmOk (W : World) (I : Nat → Prop) (x : Cm) : Prop where
  src : SrcC 5 wrE W I (.slice x.a x.n x.c) x.ws
  len : x.ws.length = x.n
  num : -9223372036854775808 ≤ x.t ∧ x.t ≤ 9223372036854775807
  big : x.ws.length ≤ 9223372036854775807

theorem CmOk.kept {W W' : World} {I F : Nat → Prop} {x : Cm} (h : CmOk W I x) (hk : Kept F W W') (hF : ∀ k, I k → k < W.heap.size → ¬ F k) : CmOk W' I x := ⟨h.src.kept wrE_ok hk hF, h.len, h.num, h.big⟩

section
variable {H : Type} {enc : TypeId × Value → H} {W : World} {fuel : Nat} {x : DataW H × List MemPlace}
end

def cmC (x : Cm) : List Value := [.int .i64 x.t, .slice x.a x.n x.c]
section
variable {H : Type} {enc : TypeId × Value → H} {W : World} {fuel : Nat} {x : DataW H × List MemPlace} {cs : Array Value}
end

end Go.Proofs.YtcokedgoibiljaaGreatDoor
