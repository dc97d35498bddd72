/-
  DERIVED. GIVEN WITH THE SEED: THE CARDS: each row of YtmlpnidngaelnaaDoorRows.lean that lists a variable, with what it lists TIED to the program's text (the seventh form; the later family's looks); each row that meets fmt, with fmt's text TOLD by the authors' own Lean function (tested against real Go, not proved from fmt's source: count such statements apart). THE CARD IS WHAT COUNTS. Prove the row's statement (the work); the ties are given (YtmlpnidngaelnaaDoorTie.lean); close each card by the builder's one call (the guide's Derived/Test/ToyasCard.lean, 'card_holds'). Laid BY PROGRAM, IN A SANDBOX (cutbox-door.mjs). By AI agents, Wed Nov 11 2026. No macro, syntax, notation, axiom, sorry.
-/
import Derived.Test.YtmlpnidngaelnaaDoorRows
import GoSem.ClaimSeven
namespace Go.Proofs.YtmlpnidngaelnaaDoor
namespace Rows

/-- THE TIED CARD OF 'haversacklaw05.InflateStreams'. -/
def inflateStreamsCard : Claim7 := { stood := { row := inflateStreamsRow, standIns := [], harness := (true, "7f200a5daf76ff41f061a01c8877c2b2764da93968528fcb2ac5ffead600695e"), looks := false }, kinds := [], alts := [], laidByText := true, laidKinds := [.data], laidTests := true, laidLooks := .later }
def InflateStreamsCardSaid : Prop := Claim7.holds Tryd.pinned (.plain (OpenSpec.ofChange inflateStreamsSpec)) inflateStreamsCard

/-- THE TIED CARD OF 'haversacklaw05.InflateParts'. -/
def inflatePartsCard : Claim7 := { stood := { row := inflatePartsRow, standIns := [], harness := (true, "7f200a5daf76ff41f061a01c8877c2b2764da93968528fcb2ac5ffead600695e"), looks := false }, kinds := [], alts := [], laidByText := true, laidKinds := [.data], laidTests := true, laidLooks := .later }
def InflatePartsCardSaid : Prop := Claim7.holds Tryd.pinned (.plain (OpenSpec.ofChange inflatePartsSpec)) inflatePartsCard

/-- THE TIED CARD OF 'haversacklaw05.InflateBehind'. -/
def inflateBehindCard : Claim7 := { stood := { row := inflateBehindRow, standIns := [], harness := (true, "7f200a5daf76ff41f061a01c8877c2b2764da93968528fcb2ac5ffead600695e"), looks := false }, kinds := [], alts := [], laidByText := true, laidKinds := [.data], laidTests := true, laidLooks := .later }
def InflateBehindCardSaid : Prop := Claim7.holds Tryd.pinned (.plain (OpenSpec.ofChange inflateBehindSpec)) inflateBehindCard

/-- THE TIED CARD OF 'haversacklaw05.InflateNil'. -/
def inflateNilCard : Claim7 := { stood := { row := inflateNilRow, standIns := [], harness := (true, "7f200a5daf76ff41f061a01c8877c2b2764da93968528fcb2ac5ffead600695e"), looks := false }, kinds := [], alts := [], laidByText := true, laidKinds := [.data], laidTests := true, laidLooks := .later }
def InflateNilCardSaid : Prop := Claim7.holds Tryd.pinned (.plain (OpenSpec.ofChange inflateNilSpec)) inflateNilCard

/-- THE SECOND FORM's CARD OF 'haversacklaw05.InflateStreams'. -/
def inflateStreamsUptoCard : Claim7 := { stood := { row := inflateStreamsUptoRow, standIns := [], harness := (true, "7f200a5daf76ff41f061a01c8877c2b2764da93968528fcb2ac5ffead600695e"), looks := false }, kinds := [], alts := [], laidByText := true, laidKinds := [.data], laidTests := true, laidLooks := .later }
def InflateStreamsUptoCardSaid : Prop := Claim7.holds Tryd.pinned (.plain (OpenSpec.upto inflateStreamsSpec)) inflateStreamsUptoCard

/-- THE SECOND FORM's CARD OF 'haversacklaw05.InflateParts'. -/
def inflatePartsUptoCard : Claim7 := { stood := { row := inflatePartsUptoRow, standIns := [], harness := (true, "7f200a5daf76ff41f061a01c8877c2b2764da93968528fcb2ac5ffead600695e"), looks := false }, kinds := [], alts := [], laidByText := true, laidKinds := [.data], laidTests := true, laidLooks := .later }
def InflatePartsUptoCardSaid : Prop := Claim7.holds Tryd.pinned (.plain (OpenSpec.upto inflatePartsSpec)) inflatePartsUptoCard

/-- THE SECOND FORM's CARD OF 'haversacklaw05.InflateBehind'. -/
def inflateBehindUptoCard : Claim7 := { stood := { row := inflateBehindUptoRow, standIns := [], harness := (true, "7f200a5daf76ff41f061a01c8877c2b2764da93968528fcb2ac5ffead600695e"), looks := false }, kinds := [], alts := [], laidByText := true, laidKinds := [.data], laidTests := true, laidLooks := .later }
def InflateBehindUptoCardSaid : Prop := Claim7.holds Tryd.pinned (.plain (OpenSpec.upto inflateBehindSpec)) inflateBehindUptoCard

/-- THE SECOND FORM's CARD OF 'haversacklaw05.InflateNil'. -/
def inflateNilUptoCard : Claim7 := { stood := { row := inflateNilUptoRow, standIns := [], harness := (true, "7f200a5daf76ff41f061a01c8877c2b2764da93968528fcb2ac5ffead600695e"), looks := false }, kinds := [], alts := [], laidByText := true, laidKinds := [.data], laidTests := true, laidLooks := .later }
def InflateNilUptoCardSaid : Prop := Claim7.holds Tryd.pinned (.plain (OpenSpec.upto inflateNilSpec)) inflateNilUptoCard
end Rows
end Go.Proofs.YtmlpnidngaelnaaDoor
