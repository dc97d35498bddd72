/-
  DERIVED. GIVEN WITH THE SEED: THE CARDS: each row of YtjlkchjcmiljjaaDoorRows.lean that lists a variable, with what it lists TIED to the program's text (the seventh form; the later family's looks); each row that meets fmt, with fmt's text TOLD by the authors' own Lean function (tested against real Go, not proved from fmt's source: count such statements apart). THE CARD IS WHAT COUNTS. Prove the row's statement (the work); the ties are given (YtjlkchjcmiljjaaDoorTie.lean); close each card by the builder's one call (the guide's Derived/Test/ToyasCard.lean, 'card_holds'). Laid BY PROGRAM, IN A SANDBOX (cutbox-door.mjs). By AI agents, Wed Nov 11 2026. No macro, syntax, notation, axiom, sorry.
-/
import Derived.Test.YtjlkchjcmiljjaaDoorRows
import GoSem.ClaimSeven
namespace Go.Proofs.YtjlkchjcmiljjaaDoor
namespace Rows

/-- THE TIED CARD OF 'haversacklaw17.QuotaNew'. -/
def quotaNewCard : Claim7 := { stood := { row := quotaNewRow, standIns := [], harness := (true, "2d71f86264e31190c404f1d88300a79ca60bc170f55b2a68ebe7f81c78979e8a"), looks := false }, kinds := [], alts := [], laidByText := true, laidKinds := [.data, .pinned], laidTests := true, laidLooks := .later }
def QuotaNewCardSaid : Prop := Claim7.holds Tryd.pinned (.plain (OpenSpec.ofChange quotaNewSpec)) quotaNewCard

/-- THE TIED CARD OF 'haversacklaw17.QuotaRuns'. -/
def quotaRunsCard : Claim7 := { stood := { row := quotaRunsRow, standIns := [], harness := (true, "2d71f86264e31190c404f1d88300a79ca60bc170f55b2a68ebe7f81c78979e8a"), looks := false }, kinds := [], alts := [], laidByText := true, laidKinds := [.data, .pinned], laidTests := true, laidLooks := .later }
def QuotaRunsCardSaid : Prop := Claim7.holds Tryd.pinned (.plain (OpenSpec.ofChange quotaRunsSpec)) quotaRunsCard

/-- THE TIED CARD OF 'haversacklaw17.QuotaWithin'. -/
def quotaWithinCard : Claim7 := { stood := { row := quotaWithinRow, standIns := [], harness := (true, "2d71f86264e31190c404f1d88300a79ca60bc170f55b2a68ebe7f81c78979e8a"), looks := false }, kinds := [], alts := [], laidByText := true, laidKinds := [.data, .pinned], laidTests := true, laidLooks := .later }
def QuotaWithinCardSaid : Prop := Claim7.holds Tryd.pinned (.plain (OpenSpec.ofChange quotaWithinSpec)) quotaWithinCard

/-- THE TIED CARD OF 'haversacklaw17.QuotaFrees'. -/
def quotaFreesCard : Claim7 := { stood := { row := quotaFreesRow, standIns := [], harness := (true, "2d71f86264e31190c404f1d88300a79ca60bc170f55b2a68ebe7f81c78979e8a"), looks := false }, kinds := [], alts := [], laidByText := true, laidKinds := [.data, .pinned], laidTests := true, laidLooks := .later }
def QuotaFreesCardSaid : Prop := Claim7.holds Tryd.pinned (.plain (OpenSpec.ofChange quotaFreesSpec)) quotaFreesCard

/-- THE TIED CARD OF 'haversacklaw17.QuotaNil'. -/
def quotaNilCard : Claim7 := { stood := { row := quotaNilRow, standIns := [], harness := (true, "2d71f86264e31190c404f1d88300a79ca60bc170f55b2a68ebe7f81c78979e8a"), looks := false }, kinds := [], alts := [], laidByText := true, laidKinds := [.data, .pinned], laidTests := true, laidLooks := .later }
def QuotaNilCardSaid : Prop := Claim7.holds Tryd.pinned (.plain (OpenSpec.ofChange quotaNilSpec)) quotaNilCard

/-- THE SECOND FORM's CARD OF 'haversacklaw17.QuotaNew'. -/
def quotaNewUptoCard : Claim7 := { stood := { row := quotaNewUptoRow, standIns := [], harness := (true, "2d71f86264e31190c404f1d88300a79ca60bc170f55b2a68ebe7f81c78979e8a"), looks := false }, kinds := [], alts := [], laidByText := true, laidKinds := [.data, .pinned], laidTests := true, laidLooks := .later }
def QuotaNewUptoCardSaid : Prop := Claim7.holds Tryd.pinned (.plain (OpenSpec.upto quotaNewSpec)) quotaNewUptoCard

/-- THE SECOND FORM's CARD OF 'haversacklaw17.QuotaRuns'. -/
def quotaRunsUptoCard : Claim7 := { stood := { row := quotaRunsUptoRow, standIns := [], harness := (true, "2d71f86264e31190c404f1d88300a79ca60bc170f55b2a68ebe7f81c78979e8a"), looks := false }, kinds := [], alts := [], laidByText := true, laidKinds := [.data, .pinned], laidTests := true, laidLooks := .later }
def QuotaRunsUptoCardSaid : Prop := Claim7.holds Tryd.pinned (.plain (OpenSpec.upto quotaRunsSpec)) quotaRunsUptoCard

/-- THE SECOND FORM's CARD OF 'haversacklaw17.QuotaWithin'. -/
def quotaWithinUptoCard : Claim7 := { stood := { row := quotaWithinUptoRow, standIns := [], harness := (true, "2d71f86264e31190c404f1d88300a79ca60bc170f55b2a68ebe7f81c78979e8a"), looks := false }, kinds := [], alts := [], laidByText := true, laidKinds := [.data, .pinned], laidTests := true, laidLooks := .later }
def QuotaWithinUptoCardSaid : Prop := Claim7.holds Tryd.pinned (.plain (OpenSpec.upto quotaWithinSpec)) quotaWithinUptoCard

/-- THE SECOND FORM's CARD OF 'haversacklaw17.QuotaFrees'. -/
def quotaFreesUptoCard : Claim7 := { stood := { row := quotaFreesUptoRow, standIns := [], harness := (true, "2d71f86264e31190c404f1d88300a79ca60bc170f55b2a68ebe7f81c78979e8a"), looks := false }, kinds := [], alts := [], laidByText := true, laidKinds := [.data, .pinned], laidTests := true, laidLooks := .later }
def QuotaFreesUptoCardSaid : Prop := Claim7.holds Tryd.pinned (.plain (OpenSpec.upto quotaFreesSpec)) quotaFreesUptoCard

/-- THE SECOND FORM's CARD OF 'haversacklaw17.QuotaNil'. -/
def quotaNilUptoCard : Claim7 := { stood := { row := quotaNilUptoRow, standIns := [], harness := (true, "2d71f86264e31190c404f1d88300a79ca60bc170f55b2a68ebe7f81c78979e8a"), looks := false }, kinds := [], alts := [], laidByText := true, laidKinds := [.data, .pinned], laidTests := true, laidLooks := .later }
def QuotaNilUptoCardSaid : Prop := Claim7.holds Tryd.pinned (.plain (OpenSpec.upto quotaNilSpec)) quotaNilUptoCard
end Rows
end Go.Proofs.YtjlkchjcmiljjaaDoor
