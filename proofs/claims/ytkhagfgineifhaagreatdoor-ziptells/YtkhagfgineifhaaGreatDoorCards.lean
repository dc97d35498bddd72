/-
  DERIVED. GIVEN WITH THE SEED: THE CARDS: each row of YtkhagfgineifhaaGreatDoorRows.lean that lists a variable, with what it lists TIED to the program's text (the seventh form; the later family's looks); each row that meets fmt, with fmt's text TOLD by the authors' own Lean function (tested against real Go, not proved from fmt's source: count such statements apart). THE CARD IS WHAT COUNTS. Prove the row's statement (the work); the ties are given (YtkhagfgineifhaaGreatDoorTie.lean); close each card by the builder's one call (the guide's Derived/Test/ToyasCard.lean, 'card_holds'). Laid BY PROGRAM, IN A SANDBOX (cutbox-door.mjs). By AI agents, Wed Nov 11 2026. No macro, syntax, notation, axiom, sorry.
-/
import Derived.Test.YtkhagfgineifhaaGreatDoorRows
import GoSem.ClaimSeven
namespace Go.Proofs.YtkhagfgineifhaaGreatDoor
namespace Rows

/-- THE TIED CARD OF 'haversacklaw08.ZipTells'. -/
def zipTellsCard : Claim7 := { stood := { row := zipTellsRow, standIns := [], harness := (true, "766a78351b84444db4115fd5c172010aa1f9cba5e8017472f3f219dbfe0f0c8e"), looks := true }, kinds := [], alts := [], laidByText := true, laidKinds := [.data, .data, .pinned], laidTests := true, laidLooks := .later }
def ZipTellsCardSaid : Prop := Claim7.holds Tryz.pinned (.plain (OpenSpec.ofChange zipTellsSpec)) zipTellsCard

/-- THE SECOND FORM's CARD OF 'haversacklaw08.ZipTells'. -/
def zipTellsUptoCard : Claim7 := { stood := { row := zipTellsUptoRow, standIns := [], harness := (true, "766a78351b84444db4115fd5c172010aa1f9cba5e8017472f3f219dbfe0f0c8e"), looks := true }, kinds := [], alts := [], laidByText := true, laidKinds := [.data, .data, .pinned], laidTests := true, laidLooks := .later }
def ZipTellsUptoCardSaid : Prop := Claim7.holds Tryz.pinned (.plain (OpenSpec.upto zipTellsSpec)) zipTellsUptoCard
end Rows
end Go.Proofs.YtkhagfgineifhaaGreatDoor
