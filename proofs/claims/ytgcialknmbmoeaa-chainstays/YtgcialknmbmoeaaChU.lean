/-
  Layer 12's law: arguments that are structs.
-/
import Derived.Test.YtgcialknmbmoeaaChT
namespace Go.Proofs.Ytgcialknmbmoeaa
open Go.ChangeShapes Go.WideShapes Go.ChangeAt Go.RowKit Go.Deep Go.Maps

def cmC (x : Cm) : List Value := [.int .i64 x.t, .slice x.a x.n x.c]
def kyC (b : Bx) (n : Nm) : List Value := [.string b.tn, .string b.ar, .string n.s]

section
variable {H : Type} {enc : TypeId × Value → H} {W : World} {fuel : Nat} {x : DataW H × List MemPlace} {cs : Array Value}

theorem op_arg (hs : cs.size = Try.prog.cellsOf 38) (h : DataW.trod enc Try.prog W 0 (fun _ => true) true fuel 38 (Value.agg cs).cells.toList = some x) : ∃ o : Oc, cs = (ocC o).toArray ∧ OcOk W (fun k => k < W.heap.size) o := by
  rw [Try.cells12o] at hs
  obtain ⟨l⟩ := cs
  simp only [List.size_toArray] at hs
  rcases l with _ | ⟨a, _ | ⟨b, _ | ⟨c, _ | ⟨d, _ | ⟨e, _ | ⟨f, _ | ⟨g, _ | ⟨q, r⟩⟩⟩⟩⟩⟩⟩⟩
  all_goals try (simp at hs; done)
  obtain ⟨o, h1, h2⟩ := op_of (k0 := a) (k1 := b) (k2 := c) (k3 := d) (k4 := e) (k5 := f) (k6 := g) h
  exact ⟨o, by rw [h1], h2⟩

theorem commit_arg (hs : cs.size = Try.prog.cellsOf 34) (h : DataW.trod enc Try.prog W 0 (fun _ => true) true fuel 34 (Value.agg cs).cells.toList = some x) : ∃ c : Cm, cs = (cmC c).toArray ∧ CmOk W (fun k => k < W.heap.size) c := by
  rw [Try.cells12c] at hs
  obtain ⟨l⟩ := cs
  simp only [List.size_toArray] at hs
  rcases l with _ | ⟨a, _ | ⟨b, _ | ⟨q, r⟩⟩⟩
  all_goals try (simp at hs; done)
  obtain ⟨c, h1, h2, h3⟩ := commit_of (k0 := a) (k1 := b) h
  exact ⟨c, by rw [h1, h2]; rfl, h3⟩

theorem key_arg (hs : cs.size = Try.prog.cellsOf 36) (h : DataW.trod enc Try.prog W 0 (fun _ => true) true fuel 36 (Value.agg cs).cells.toList = some x) : ∃ (b : Bx) (n : Nm), cs = (kyC b n).toArray := by
  rw [Try.cells12k] at hs
  obtain ⟨l⟩ := cs
  simp only [List.size_toArray] at hs
  rcases l with _ | ⟨a, _ | ⟨b, _ | ⟨c, _ | ⟨q, r⟩⟩⟩⟩
  all_goals try (simp at hs; done)
  obtain ⟨bb, n, h1, h2, h3⟩ := key_of (k0 := a) (k1 := b) (k2 := c) h
  exact ⟨bb, n, by rw [h1, h2, h3]; rfl⟩

end

end Go.Proofs.Ytgcialknmbmoeaa
