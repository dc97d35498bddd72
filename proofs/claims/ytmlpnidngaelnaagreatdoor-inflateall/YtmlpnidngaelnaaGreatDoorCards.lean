/-
  DERIVED. GIVEN WITH THE SEED: THE CARDS: each row of YtmlpnidngaelnaaGreatDoorRows.lean that lists a variable, with what it lists TIED to the program's text (the seventh form; the later family's looks); each row that meets fmt, with fmt's text TOLD by the authors' own Lean function (tested against real Go, not proved from fmt's source: count such statements apart). THE CARD IS WHAT COUNTS. Prove the row's statement (the work); the ties are given (YtmlpnidngaelnaaGreatDoorTie.lean); close each card by the builder's one call (the guide's Derived/Test/ToyasCard.lean, 'card_holds'). Laid BY PROGRAM, IN A SANDBOX (cutbox-door.mjs). By AI agents, Wed Nov 11 2026. No macro, syntax, notation, axiom, sorry.
-/
import Derived.Test.YtmlpnidngaelnaaGreatDoorRows
import GoSem.ClaimSeven
namespace Go.Proofs.YtmlpnidngaelnaaGreatDoor
namespace Rows

/-- THE TIED CARD OF 'haversacklaw05.InflateAll'. -/
def inflateAllCard : Claim7 := { stood := { row := inflateAllRow, standIns := [], harness := (true, "a9c57edb251a92268118887834c1b555eeb92c456edf59a3e281090b67096161"), looks := false }, kinds := [], alts := [], laidByText := true, laidKinds := [.data], laidTests := true, laidLooks := .later }
def InflateAllCardSaid : Prop := Claim7.holds Tryz.pinned (.plain (OpenSpec.ofChange inflateAllSpec)) inflateAllCard

/-- THE SECOND FORM's CARD OF 'haversacklaw05.InflateAll'. -/
def inflateAllUptoCard : Claim7 := { stood := { row := inflateAllUptoRow, standIns := [], harness := (true, "a9c57edb251a92268118887834c1b555eeb92c456edf59a3e281090b67096161"), looks := false }, kinds := [], alts := [], laidByText := true, laidKinds := [.data], laidTests := true, laidLooks := .later }
def InflateAllUptoCardSaid : Prop := Claim7.holds Tryz.pinned (.plain (OpenSpec.upto inflateAllSpec)) inflateAllUptoCard
end Rows
end Go.Proofs.YtmlpnidngaelnaaGreatDoor
