/-
  The table of the words k, as the rows list it; a world that holds it.
-/
import Derived.Test.YtgbfhpilhnbnjaaDoorRows
import Derived.Test.YtgbfhpilhnbnjaaDoorHmE
import Derived.Lib.LaidTab
import Derived.WalkKit
namespace Go.Proofs.YtgbfhpilhnbnjaaDoor
open Go.RowKit

theorem Tryd.gRnd : Tryd.prog.globalNamed "haversack/hmac.rounds" = some 0 := by kernel_rfl
theorem Tryd.gRndType : (Tryd.prog.globals[0]?).map (·.type) = some 51 := by kernel_rfl
theorem Tryd.cellsRnd : Tryd.prog.cellsOf 51 = 64 := by kernel_rfl
theorem Tryd.cellsRnd1 : Tryd.prog.cellsOf 42 = 1 := by kernel_rfl

def rndI : List Int := kL.map fun (x : Nat) => (x : Int)

theorem rnd_same : ∀ i, i < 64 → rndI.getD i 0 = ((kL.getD i 0 : Nat) : Int) := by decide

/-- What a row's list gives. -/
theorem tab15_of {W : World} (h : laidMetH Tryd.prog [("haversack/hmac.rounds", Rows.laid_haversack_hmac_rounds)] W) : Tab15 W := by
  have ht : Lib.TabIs Tryd.prog W "haversack/hmac.rounds" .u32 rndI := Lib.tabIs_of_head (rest := []) Tryd.gRnd Tryd.gRndType Tryd.underlying51 Tryd.underlying42 Tryd.cellsRnd1 Tryd.cellsRnd h
  intro i hi
  have hc := ht.cell Tryd.gRnd i (by simpa [rndI, kL] using hi)
  rw [hc]
  congr 2
  exact rnd_same i hi

/-- A world for the witness: the settled one, the table holding what its initialiser lays. -/
noncomputable def laidWorld15 (os : Os) : World :=
  { World.holding Tryd.prog os ⟨#[], #[], []⟩ with heap := (World.holding Tryd.prog os ⟨#[], #[], []⟩).heap.modify 0 fun
      | .cells _ t frozen => .cells (rndI.map fun z => Value.int .u32 z).toArray t frozen
      | o => o }

end Go.Proofs.YtgbfhpilhnbnjaaDoor
