/-
  DERIVED. GIVEN WITH THE SEED: THE CARDS: each row of YtofhlnpbflkdlaaDoorRows.lean that lists a variable, with what it lists TIED to the program's text (the seventh form; the later family's looks); each row that meets fmt, with fmt's text TOLD by the authors' own Lean function (tested against real Go, not proved from fmt's source: count such statements apart). THE CARD IS WHAT COUNTS. Prove the row's statement (the work); the ties are given (YtofhlnpbflkdlaaDoorTie.lean); close each card by the builder's one call (the guide's Derived/Test/ToyasCard.lean, 'card_holds'). Laid BY PROGRAM, IN A SANDBOX (cutbox-door.mjs). By AI agents, Wed Nov 11 2026. No macro, syntax, notation, axiom, sorry.
-/
import Derived.Test.YtofhlnpbflkdlaaDoorRows
import GoSem.ClaimSeven
namespace Go.Proofs.YtofhlnpbflkdlaaDoor
namespace Rows

/-- THE TIED CARD OF 'haversacklaw04.LensPacks'. -/
def lensPacksCard : Claim7 := { stood := { row := lensPacksRow, standIns := [], harness := (true, "66d8b3f3f4acc25698052f98e218ea4ac75548702dceeaa739228e54ac6146ba"), looks := false }, kinds := [], alts := [], laidByText := true, laidKinds := [.data], laidTests := true, laidLooks := .later }
def LensPacksCardSaid : Prop := Claim7.holds Tryd.pinned (.plain (OpenSpec.ofChange lensPacksSpec)) lensPacksCard

/-- THE TIED CARD OF 'haversacklaw04.LensUnpacks'. -/
def lensUnpacksCard : Claim7 := { stood := { row := lensUnpacksRow, standIns := [], harness := (true, "66d8b3f3f4acc25698052f98e218ea4ac75548702dceeaa739228e54ac6146ba"), looks := false }, kinds := [], alts := [], laidByText := true, laidKinds := [.data], laidTests := true, laidLooks := .later }
def LensUnpacksCardSaid : Prop := Claim7.holds Tryd.pinned (.plain (OpenSpec.ofChange lensUnpacksSpec)) lensUnpacksCard

/-- THE TIED CARD OF 'haversacklaw04.LensWrites'. -/
def lensWritesCard : Claim7 := { stood := { row := lensWritesRow, standIns := [], harness := (true, "66d8b3f3f4acc25698052f98e218ea4ac75548702dceeaa739228e54ac6146ba"), looks := false }, kinds := [], alts := [], laidByText := true, laidKinds := [.data], laidTests := true, laidLooks := .later }
def LensWritesCardSaid : Prop := Claim7.holds Tryd.pinned (.plain (OpenSpec.ofChange lensWritesSpec)) lensWritesCard

/-- THE TIED CARD OF 'haversacklaw04.LensReads'. -/
def lensReadsCard : Claim7 := { stood := { row := lensReadsRow, standIns := [], harness := (true, "66d8b3f3f4acc25698052f98e218ea4ac75548702dceeaa739228e54ac6146ba"), looks := false }, kinds := [], alts := [], laidByText := true, laidKinds := [.data], laidTests := true, laidLooks := .later }
def LensReadsCardSaid : Prop := Claim7.holds Tryd.pinned (.plain (OpenSpec.ofChange lensReadsSpec)) lensReadsCard

/-- THE TIED CARD OF 'haversacklaw04.LensSteps'. -/
def lensStepsCard : Claim7 := { stood := { row := lensStepsRow, standIns := [], harness := (true, "66d8b3f3f4acc25698052f98e218ea4ac75548702dceeaa739228e54ac6146ba"), looks := false }, kinds := [], alts := [], laidByText := true, laidKinds := [.data], laidTests := true, laidLooks := .later }
def LensStepsCardSaid : Prop := Claim7.holds Tryd.pinned (.plain (OpenSpec.ofChange lensStepsSpec)) lensStepsCard

/-- THE TIED CARD OF 'haversacklaw04.LensRound'. -/
def lensRoundCard : Claim7 := { stood := { row := lensRoundRow, standIns := [], harness := (true, "66d8b3f3f4acc25698052f98e218ea4ac75548702dceeaa739228e54ac6146ba"), looks := false }, kinds := [], alts := [], laidByText := true, laidKinds := [.data], laidTests := true, laidLooks := .later }
def LensRoundCardSaid : Prop := Claim7.holds Tryd.pinned (.plain (OpenSpec.ofChange lensRoundSpec)) lensRoundCard

/-- THE SECOND FORM's CARD OF 'haversacklaw04.LensPacks'. -/
def lensPacksUptoCard : Claim7 := { stood := { row := lensPacksUptoRow, standIns := [], harness := (true, "66d8b3f3f4acc25698052f98e218ea4ac75548702dceeaa739228e54ac6146ba"), looks := false }, kinds := [], alts := [], laidByText := true, laidKinds := [.data], laidTests := true, laidLooks := .later }
def LensPacksUptoCardSaid : Prop := Claim7.holds Tryd.pinned (.plain (OpenSpec.upto lensPacksSpec)) lensPacksUptoCard

/-- THE SECOND FORM's CARD OF 'haversacklaw04.LensUnpacks'. -/
def lensUnpacksUptoCard : Claim7 := { stood := { row := lensUnpacksUptoRow, standIns := [], harness := (true, "66d8b3f3f4acc25698052f98e218ea4ac75548702dceeaa739228e54ac6146ba"), looks := false }, kinds := [], alts := [], laidByText := true, laidKinds := [.data], laidTests := true, laidLooks := .later }
def LensUnpacksUptoCardSaid : Prop := Claim7.holds Tryd.pinned (.plain (OpenSpec.upto lensUnpacksSpec)) lensUnpacksUptoCard

/-- THE SECOND FORM's CARD OF 'haversacklaw04.LensWrites'. -/
def lensWritesUptoCard : Claim7 := { stood := { row := lensWritesUptoRow, standIns := [], harness := (true, "66d8b3f3f4acc25698052f98e218ea4ac75548702dceeaa739228e54ac6146ba"), looks := false }, kinds := [], alts := [], laidByText := true, laidKinds := [.data], laidTests := true, laidLooks := .later }
def LensWritesUptoCardSaid : Prop := Claim7.holds Tryd.pinned (.plain (OpenSpec.upto lensWritesSpec)) lensWritesUptoCard

/-- THE SECOND FORM's CARD OF 'haversacklaw04.LensReads'. -/
def lensReadsUptoCard : Claim7 := { stood := { row := lensReadsUptoRow, standIns := [], harness := (true, "66d8b3f3f4acc25698052f98e218ea4ac75548702dceeaa739228e54ac6146ba"), looks := false }, kinds := [], alts := [], laidByText := true, laidKinds := [.data], laidTests := true, laidLooks := .later }
def LensReadsUptoCardSaid : Prop := Claim7.holds Tryd.pinned (.plain (OpenSpec.upto lensReadsSpec)) lensReadsUptoCard

/-- THE SECOND FORM's CARD OF 'haversacklaw04.LensSteps'. -/
def lensStepsUptoCard : Claim7 := { stood := { row := lensStepsUptoRow, standIns := [], harness := (true, "66d8b3f3f4acc25698052f98e218ea4ac75548702dceeaa739228e54ac6146ba"), looks := false }, kinds := [], alts := [], laidByText := true, laidKinds := [.data], laidTests := true, laidLooks := .later }
def LensStepsUptoCardSaid : Prop := Claim7.holds Tryd.pinned (.plain (OpenSpec.upto lensStepsSpec)) lensStepsUptoCard

/-- THE SECOND FORM's CARD OF 'haversacklaw04.LensRound'. -/
def lensRoundUptoCard : Claim7 := { stood := { row := lensRoundUptoRow, standIns := [], harness := (true, "66d8b3f3f4acc25698052f98e218ea4ac75548702dceeaa739228e54ac6146ba"), looks := false }, kinds := [], alts := [], laidByText := true, laidKinds := [.data], laidTests := true, laidLooks := .later }
def LensRoundUptoCardSaid : Prop := Claim7.holds Tryd.pinned (.plain (OpenSpec.upto lensRoundSpec)) lensRoundUptoCard
end Rows
end Go.Proofs.YtofhlnpbflkdlaaDoor
