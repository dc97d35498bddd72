/-
  DERIVED. GIVEN WITH THE SEED: THE CARDS: each row of YtofhlnpbflkdlabDoorRows.lean that lists a variable, with what it lists TIED to the program's text (the seventh form; the later family's looks); each row that meets fmt, with fmt's text TOLD by the authors' own Lean function (tested against real Go, not proved from fmt's source: count such statements apart). THE CARD IS WHAT COUNTS. Prove the row's statement (the work); the ties are given (YtofhlnpbflkdlabDoorTie.lean); close each card by the builder's one call (the guide's Derived/Test/ToyasCard.lean, 'card_holds'). Laid BY PROGRAM, IN A SANDBOX (cutbox-door.mjs). By AI agents, Wed Nov 11 2026. No macro, syntax, notation, axiom, sorry.
-/
import Derived.Test.YtofhlnpbflkdlabDoorRows
import GoSem.ClaimSeven
namespace Go.Proofs.YtofhlnpbflkdlabDoor
namespace Rows

/-- THE TIED CARD OF 'haversacklaw04.LensNil'. -/
def lensNilCard : Claim7 := { stood := { row := lensNilRow, standIns := [], harness := (true, "a13e648823b35708d8bbed55c723d7980f30ba797862aa1ce122725fd57730c8"), looks := false }, kinds := [], alts := [], laidByText := true, laidKinds := [.data], laidTests := true, laidLooks := .later }
def LensNilCardSaid : Prop := Claim7.holds Tryd.pinned (.plain (OpenSpec.ofChange lensNilSpec)) lensNilCard

/-- THE SECOND FORM's CARD OF 'haversacklaw04.LensNil'. -/
def lensNilUptoCard : Claim7 := { stood := { row := lensNilUptoRow, standIns := [], harness := (true, "a13e648823b35708d8bbed55c723d7980f30ba797862aa1ce122725fd57730c8"), looks := false }, kinds := [], alts := [], laidByText := true, laidKinds := [.data], laidTests := true, laidLooks := .later }
def LensNilUptoCardSaid : Prop := Claim7.holds Tryd.pinned (.plain (OpenSpec.upto lensNilSpec)) lensNilUptoCard
end Rows
end Go.Proofs.YtofhlnpbflkdlabDoor
