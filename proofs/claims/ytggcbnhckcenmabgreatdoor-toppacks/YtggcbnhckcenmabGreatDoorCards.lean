/-
  DERIVED. GIVEN WITH THE SEED: THE CARDS: each row of YtggcbnhckcenmabGreatDoorRows.lean that lists a variable, with what it lists TIED to the program's text (the seventh form; the later family's looks); each row that meets fmt, with fmt's text TOLD by the authors' own Lean function (tested against real Go, not proved from fmt's source: count such statements apart). THE CARD IS WHAT COUNTS. Prove the row's statement (the work); the ties are given (YtggcbnhckcenmabGreatDoorTie.lean); close each card by the builder's one call (the guide's Derived/Test/ToyasCard.lean, 'card_holds'). Laid BY PROGRAM, IN A SANDBOX (cutbox-door.mjs). By AI agents, Wed Nov 11 2026. No macro, syntax, notation, axiom, sorry.
-/
import Derived.Test.YtggcbnhckcenmabGreatDoorRows
import GoSem.ClaimSeven
namespace Go.Proofs.YtggcbnhckcenmabGreatDoor
namespace Rows

/-- THE TIED CARD OF 'haversacktop.TopPacks'. -/
def topPacksCard : Claim7 := { stood := { row := topPacksRow, standIns := [], harness := (true, "9751d62b78264f696965d2f3ca82863d15acb4fcbd2974cbe01f8cea7e5194b9"), looks := false }, kinds := [], alts := [], laidByText := true, laidKinds := [.data], laidTests := true, laidLooks := .later }
def TopPacksCardSaid : Prop := Claim7.holds Tryz.pinned (.plain (OpenSpec.ofChange topPacksSpec)) topPacksCard

/-- THE TIED CARD OF 'haversacktop.TopTokens'. -/
def topTokensCard : Claim7 := { stood := { row := topTokensRow, standIns := [], harness := (true, "9751d62b78264f696965d2f3ca82863d15acb4fcbd2974cbe01f8cea7e5194b9"), looks := false }, kinds := [], alts := [], laidByText := true, laidKinds := [.data], laidTests := true, laidLooks := .later }
def TopTokensCardSaid : Prop := Claim7.holds Tryz.pinned (.plain (OpenSpec.ofChange topTokensSpec)) topTokensCard

/-- THE TIED CARD OF 'haversacktop.TopUnpacks'. -/
def topUnpacksCard : Claim7 := { stood := { row := topUnpacksRow, standIns := [], harness := (true, "9751d62b78264f696965d2f3ca82863d15acb4fcbd2974cbe01f8cea7e5194b9"), looks := false }, kinds := [], alts := [], laidByText := true, laidKinds := [.data], laidTests := true, laidLooks := .later }
def TopUnpacksCardSaid : Prop := Claim7.holds Tryz.pinned (.plain (OpenSpec.ofChange topUnpacksSpec)) topUnpacksCard

/-- THE SECOND FORM's CARD OF 'haversacktop.TopPacks'. -/
def topPacksUptoCard : Claim7 := { stood := { row := topPacksUptoRow, standIns := [], harness := (true, "9751d62b78264f696965d2f3ca82863d15acb4fcbd2974cbe01f8cea7e5194b9"), looks := false }, kinds := [], alts := [], laidByText := true, laidKinds := [.data], laidTests := true, laidLooks := .later }
def TopPacksUptoCardSaid : Prop := Claim7.holds Tryz.pinned (.plain (OpenSpec.upto topPacksSpec)) topPacksUptoCard

/-- THE SECOND FORM's CARD OF 'haversacktop.TopTokens'. -/
def topTokensUptoCard : Claim7 := { stood := { row := topTokensUptoRow, standIns := [], harness := (true, "9751d62b78264f696965d2f3ca82863d15acb4fcbd2974cbe01f8cea7e5194b9"), looks := false }, kinds := [], alts := [], laidByText := true, laidKinds := [.data], laidTests := true, laidLooks := .later }
def TopTokensUptoCardSaid : Prop := Claim7.holds Tryz.pinned (.plain (OpenSpec.upto topTokensSpec)) topTokensUptoCard

/-- THE SECOND FORM's CARD OF 'haversacktop.TopUnpacks'. -/
def topUnpacksUptoCard : Claim7 := { stood := { row := topUnpacksUptoRow, standIns := [], harness := (true, "9751d62b78264f696965d2f3ca82863d15acb4fcbd2974cbe01f8cea7e5194b9"), looks := false }, kinds := [], alts := [], laidByText := true, laidKinds := [.data], laidTests := true, laidLooks := .later }
def TopUnpacksUptoCardSaid : Prop := Claim7.holds Tryz.pinned (.plain (OpenSpec.upto topUnpacksSpec)) topUnpacksUptoCard
end Rows
end Go.Proofs.YtggcbnhckcenmabGreatDoor
