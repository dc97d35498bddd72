/-
  Layer 12's law: arguments that are structs.
-/
import Derived.Test.YthignkloecfcbaaChT
namespace Go.Proofs.Ythignkloecfcbaa
open Go.ChangeShapes Go.WideShapes Go.ChangeAt Go.RowKit Go.Deep Go.Maps

section
variable {H : Type} {enc : TypeId × Value → H} {W : World} {fuel : Nat} {x : DataW H × List MemPlace} {cs : Array Value}

theorem op_arg (hs : cs.size = Try.prog.cellsOf 38) (h : DataW.trod enc Try.prog W 0 (fun _ => true) true fuel 38 (Value.agg cs).cells.toList = some x) : ∃ o : Oc, cs = (ocC o).toArray ∧ OcOk W (fun k => k < W.heap.size) o := by
  rw [Try.cells12o] at hs
  obtain ⟨l⟩ := cs
  simp only [List.size_toArray] at hs
  rcases l with _ | ⟨a, _ | ⟨b, _ | ⟨c, _ | ⟨d, _ | ⟨e, _ | ⟨f, _ | ⟨g, _ | ⟨q, r⟩⟩⟩⟩⟩⟩⟩⟩
  all_goals try (simp at hs; done)
  obtain ⟨o, h1, h2⟩ := op_of (k0 := a) (k1 := b) (k2 := c) (k3 := d) (k4 := e) (k5 := f) (k6 := g) h
  exact ⟨o, by rw [h1], h2⟩

end

end Go.Proofs.Ythignkloecfcbaa
