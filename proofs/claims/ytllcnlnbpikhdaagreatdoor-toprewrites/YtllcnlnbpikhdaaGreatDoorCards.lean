/-
  DERIVED. GIVEN WITH THE SEED: THE CARDS: each row of YtllcnlnbpikhdaaGreatDoorRows.lean that lists a variable, with what it lists TIED to the program's text (the seventh form; the later family's looks); each row that meets fmt, with fmt's text TOLD by the authors' own Lean function (tested against real Go, not proved from fmt's source: count such statements apart). THE CARD IS WHAT COUNTS. Prove the row's statement (the work); the ties are given (YtllcnlnbpikhdaaGreatDoorTie.lean); close each card by the builder's one call (the guide's Derived/Test/ToyasCard.lean, 'card_holds'). Laid BY PROGRAM, IN A SANDBOX (cutbox-door.mjs). By AI agents, Wed Nov 11 2026. No macro, syntax, notation, axiom, sorry.
-/
import Derived.Test.YtllcnlnbpikhdaaGreatDoorRows
import GoSem.ClaimSeven
namespace Go.Proofs.YtllcnlnbpikhdaaGreatDoor
namespace Rows

/-- THE TIED CARD OF 'haversacktop.TopRewrites'. -/
def topRewritesCard : Claim7 := { stood := { row := topRewritesRow, standIns := [], harness := (true, "406c1e52b23f3c7d443a3332e766b54d7e557ae3e2e05002538a94a94d1a3817"), looks := true }, kinds := [], alts := [], laidByText := true, laidKinds := [.data, .data, .pinned], laidTests := true, laidLooks := .later }
def TopRewritesCardSaid : Prop := Claim7.holds Tryz.pinned (.plain (OpenSpec.ofChange topRewritesSpec)) topRewritesCard

/-- THE SECOND FORM's CARD OF 'haversacktop.TopRewrites'. -/
def topRewritesUptoCard : Claim7 := { stood := { row := topRewritesUptoRow, standIns := [], harness := (true, "406c1e52b23f3c7d443a3332e766b54d7e557ae3e2e05002538a94a94d1a3817"), looks := true }, kinds := [], alts := [], laidByText := true, laidKinds := [.data, .data, .pinned], laidTests := true, laidLooks := .later }
def TopRewritesUptoCardSaid : Prop := Claim7.holds Tryz.pinned (.plain (OpenSpec.upto topRewritesSpec)) topRewritesUptoCard
end Rows
end Go.Proofs.YtllcnlnbpikhdaaGreatDoor
