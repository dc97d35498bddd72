/-
  The law's begins and awake.
-/
import Derived.Test.YtfhfnkhiomahfaaGreatDoorHmL
import Derived.Lib.SlBytesConst
namespace Go.Proofs.YtfhfnkhiomahfaaGreatDoor
open Go.RowKit



theorem cell_mark15 (w : World) (C : Array Value) (t : TypeId) (fr : Nat × Nat) (j : Nat) : (w.alloc (.cells C t fr)).cell? ⟨w.heap.size, j, none⟩ = C[j]? := by
  have : (w.alloc (.cells C t fr)).heap[w.heap.size]? = some (.cells C t fr) := by
    show (w.heap.push _)[w.heap.size]? = _
    simp
  simp only [World.cell?, this]
  simp

/-- A constant text's bytes. -/
theorem src_mark15 (w : World) (cs : List Nat) (n : Nat) (fr : Nat × Nat) (hn : cs.length = n) : Src (w.alloc (.cells (cs.map byteV).toArray 5 fr)) (fun k => k = w.heap.size) (.slice (some ⟨w.heap.size, 0, none⟩) n n) cs := by
  subst hn
  refine ⟨_, _, rfl, fun _ => ⟨_, _, rfl, rfl, fun j hj => ?_⟩⟩
  rw [Nat.zero_add, cell_mark15]
  simp [byteV, hj]

theorem slice_same_cap (a : Option Addr) (m : Nat) : ∀ a' n c, Value.slice a m m = .slice a' n c → n ≤ c := by
  intro a' n c e
  injection e with _ e1 e2
  omega

theorem src_none15 (w : World) : Src w (fun _ => False) (.slice none 0 0) [] := ⟨_, _, rfl, fun h => absurd rfl h⟩



end Go.Proofs.YtfhfnkhiomahfaaGreatDoor
