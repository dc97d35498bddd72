/-
  NARROWER THAN 'FOR EVERY INPUT', by the rows' own cells (each row's printed sentence says how): DeflatePacks: laid · DeflateStored: laid · DeflateBlocks: laid · DeflateStreams: laid · DeflateBack: laid · DeflateNil: laid.
  DERIVED. THE GIVEN ROWS OF THIS SEAT. 6 by the template 'for every input the law returns true; each argument reads behind the call as it read before'; 0 by the template 'total and deterministic' (their statements: YtggcbnhckcenmaaGreatDoorTotals.lean).
  GIVEN WITH THE SEED: the statements are not yours to turn. If you find one false, say at which input.
  Laid BY PROGRAM, IN A SANDBOX (cutbox-rows.mjs): the forced cells as the released guide's own fill.sh prints them over the translation 2e2e448c647d01f5… (all of the seat's roots in one cut). By AI agents, Wed Nov 11 2026. No macro, syntax, notation, axiom, sorry.
-/
import Derived.Test.YtggcbnhckcenmaaGreatDoorChecked
import GoSem.Claim
import GoSem.ClaimJoined
import GoSem.ClaimMapViews
import Derived.JoinedTies
import Derived.KernelRfl
namespace Go.Proofs.YtggcbnhckcenmaaGreatDoor
/- THE CELL 'sum', in the pinned program and in every row, IS THE sha256 OF THE DUMP (.gsa) THAT YtggcbnhckcenmaaGreatDoorProg.lean LOADS. Nothing in Lean hashes anything: it is a label: what it is worth is what the hold of that sum in a sandbox is worth. -/
noncomputable def Tryz.pinned : Pinned := { name := "ytggcbnhckcenmaagreatdoor", sum := "2e2e448c647d01f5070791baf800578c1dbeac2e3dc4c2b3c4cd54093c2face0", checked := Tryz.checked }
namespace Rows
def none {H : Type} : Left H := { results := [], args := [] }

/- WHAT THE LISTED PACKAGE-LEVEL VARIABLES READ AS WHEN THE CALL BEGINS. Each datum BY PROGRAM (the guide's laid-datum.mjs) off the statement by which the dump's own 'gosem.cut.vars' lays the variable. In a bare row this is a premise. The card (YtggcbnhckcenmaaGreatDoorCards.lean) ties it to the program's text. -/
def laid_haversack_lens_order {H : Type} : DataW H := .agg [.lit (.int .i64 16), .lit (.int .i64 17), .lit (.int .i64 18), .lit (.int .i64 0), .lit (.int .i64 8), .lit (.int .i64 7), .lit (.int .i64 9), .lit (.int .i64 6), .lit (.int .i64 10), .lit (.int .i64 5), .lit (.int .i64 11), .lit (.int .i64 4), .lit (.int .i64 12), .lit (.int .i64 3), .lit (.int .i64 13), .lit (.int .i64 2), .lit (.int .i64 14), .lit (.int .i64 1), .lit (.int .i64 15)]

/-- 'haversacklaw07.DeflatePacks': WHATEVER THE INPUT: true; the input reads as it did. -/
def deflatePacksSpec : ChangeSpec := { name := "deflatePacks", fn := fun _ => fun
  | [d] => { results := [.lit (.bool true)], args := [d] }
  | _ => none }
def deflatePacksRow : OpenClaim := { program := "ytggcbnhckcenmaagreatdoor", sum := "2e2e448c647d01f5070791baf800578c1dbeac2e3dc4c2b3c4cd54093c2face0", func := "haversack/haversacklaw07.DeflatePacks", spec := "deflatePacks", unfollowed := true, recurses := true, named := ["haversack/lens.order"], plainKeys := false, apart := false, laid := [("haversack/lens.order", laid_haversack_lens_order)] }
def DeflatePacksSaid : Prop := deflatePacksRow.holds Tryz.pinned (OpenSpec.ofChange deflatePacksSpec)

/-- ITS FALSE NEIGHBOUR: 'it returns false'. Refute it at one input. -/
def deflatePacksWrong : ChangeSpec := { name := "deflatePacks", fn := fun _ => fun
  | [d] => { results := [.lit (.bool false)], args := [d] }
  | _ => none }
def DeflatePacksWrongFalsely : Prop := deflatePacksRow.holds Tryz.pinned (OpenSpec.ofChange deflatePacksWrong)

/-- 'haversacklaw07.DeflateStored': WHATEVER THE INPUT: true; the input reads as it did. -/
def deflateStoredSpec : ChangeSpec := { name := "deflateStored", fn := fun _ => fun
  | [d] => { results := [.lit (.bool true)], args := [d] }
  | _ => none }
def deflateStoredRow : OpenClaim := { program := "ytggcbnhckcenmaagreatdoor", sum := "2e2e448c647d01f5070791baf800578c1dbeac2e3dc4c2b3c4cd54093c2face0", func := "haversack/haversacklaw07.DeflateStored", spec := "deflateStored", unfollowed := true, recurses := true, named := ["haversack/lens.order"], plainKeys := false, apart := false, laid := [("haversack/lens.order", laid_haversack_lens_order)] }
def DeflateStoredSaid : Prop := deflateStoredRow.holds Tryz.pinned (OpenSpec.ofChange deflateStoredSpec)

/-- ITS FALSE NEIGHBOUR: 'it returns false'. Refute it at one input. -/
def deflateStoredWrong : ChangeSpec := { name := "deflateStored", fn := fun _ => fun
  | [d] => { results := [.lit (.bool false)], args := [d] }
  | _ => none }
def DeflateStoredWrongFalsely : Prop := deflateStoredRow.holds Tryz.pinned (OpenSpec.ofChange deflateStoredWrong)

/-- 'haversacklaw07.DeflateBlocks': WHATEVER THE INPUT: true; the input reads as it did. -/
def deflateBlocksSpec : ChangeSpec := { name := "deflateBlocks", fn := fun _ => fun
  | [d] => { results := [.lit (.bool true)], args := [d] }
  | _ => none }
def deflateBlocksRow : OpenClaim := { program := "ytggcbnhckcenmaagreatdoor", sum := "2e2e448c647d01f5070791baf800578c1dbeac2e3dc4c2b3c4cd54093c2face0", func := "haversack/haversacklaw07.DeflateBlocks", spec := "deflateBlocks", unfollowed := true, recurses := true, named := ["haversack/lens.order"], plainKeys := false, apart := false, laid := [("haversack/lens.order", laid_haversack_lens_order)] }
def DeflateBlocksSaid : Prop := deflateBlocksRow.holds Tryz.pinned (OpenSpec.ofChange deflateBlocksSpec)

/-- ITS FALSE NEIGHBOUR: 'it returns false'. Refute it at one input. -/
def deflateBlocksWrong : ChangeSpec := { name := "deflateBlocks", fn := fun _ => fun
  | [d] => { results := [.lit (.bool false)], args := [d] }
  | _ => none }
def DeflateBlocksWrongFalsely : Prop := deflateBlocksRow.holds Tryz.pinned (OpenSpec.ofChange deflateBlocksWrong)

/-- 'haversacklaw07.DeflateStreams': WHATEVER THE INPUT: true; the input reads as it did. -/
def deflateStreamsSpec : ChangeSpec := { name := "deflateStreams", fn := fun _ => fun
  | [d] => { results := [.lit (.bool true)], args := [d] }
  | _ => none }
def deflateStreamsRow : OpenClaim := { program := "ytggcbnhckcenmaagreatdoor", sum := "2e2e448c647d01f5070791baf800578c1dbeac2e3dc4c2b3c4cd54093c2face0", func := "haversack/haversacklaw07.DeflateStreams", spec := "deflateStreams", unfollowed := true, recurses := true, named := ["haversack/lens.order"], plainKeys := false, apart := false, laid := [("haversack/lens.order", laid_haversack_lens_order)] }
def DeflateStreamsSaid : Prop := deflateStreamsRow.holds Tryz.pinned (OpenSpec.ofChange deflateStreamsSpec)

/-- ITS FALSE NEIGHBOUR: 'it returns false'. Refute it at one input. -/
def deflateStreamsWrong : ChangeSpec := { name := "deflateStreams", fn := fun _ => fun
  | [d] => { results := [.lit (.bool false)], args := [d] }
  | _ => none }
def DeflateStreamsWrongFalsely : Prop := deflateStreamsRow.holds Tryz.pinned (OpenSpec.ofChange deflateStreamsWrong)

/-- 'haversacklaw07.DeflateBack': WHATEVER THE INPUT: true; the input reads as it did. -/
def deflateBackSpec : ChangeSpec := { name := "deflateBack", fn := fun _ => fun
  | [d1, d2] => { results := [.lit (.bool true)], args := [d1, d2] }
  | _ => none }
def deflateBackRow : OpenClaim := { program := "ytggcbnhckcenmaagreatdoor", sum := "2e2e448c647d01f5070791baf800578c1dbeac2e3dc4c2b3c4cd54093c2face0", func := "haversack/haversacklaw07.DeflateBack", spec := "deflateBack", unfollowed := true, recurses := true, named := ["haversack/lens.order"], plainKeys := false, apart := false, laid := [("haversack/lens.order", laid_haversack_lens_order)] }
def DeflateBackSaid : Prop := deflateBackRow.holds Tryz.pinned (OpenSpec.ofChange deflateBackSpec)

/-- ITS FALSE NEIGHBOUR: 'it returns false'. Refute it at one input. -/
def deflateBackWrong : ChangeSpec := { name := "deflateBack", fn := fun _ => fun
  | [d1, d2] => { results := [.lit (.bool false)], args := [d1, d2] }
  | _ => none }
def DeflateBackWrongFalsely : Prop := deflateBackRow.holds Tryz.pinned (OpenSpec.ofChange deflateBackWrong)

/-- 'haversacklaw07.DeflateNil': WHATEVER THE INPUT: true; the input reads as it did. -/
def deflateNilSpec : ChangeSpec := { name := "deflateNil", fn := fun _ => fun
  | [d] => { results := [.lit (.bool true)], args := [d] }
  | _ => none }
def deflateNilRow : OpenClaim := { program := "ytggcbnhckcenmaagreatdoor", sum := "2e2e448c647d01f5070791baf800578c1dbeac2e3dc4c2b3c4cd54093c2face0", func := "haversack/haversacklaw07.DeflateNil", spec := "deflateNil", unfollowed := true, recurses := true, named := ["haversack/lens.order"], plainKeys := false, apart := false, laid := [("haversack/lens.order", laid_haversack_lens_order)] }
def DeflateNilSaid : Prop := deflateNilRow.holds Tryz.pinned (OpenSpec.ofChange deflateNilSpec)

/-- ITS FALSE NEIGHBOUR: 'it returns false'. Refute it at one input. -/
def deflateNilWrong : ChangeSpec := { name := "deflateNil", fn := fun _ => fun
  | [d] => { results := [.lit (.bool false)], args := [d] }
  | _ => none }
def DeflateNilWrongFalsely : Prop := deflateNilRow.holds Tryz.pinned (OpenSpec.ofChange deflateNilWrong)

/- THE SECOND FORM. 'bulk': how many values and letters a reading holds, each counted each time it is reached (what is shared counts as often as it is met; a slice's spare places count too). A statement '..UptoSaid' is the law's where the arguments, and the package variables that the reading takes, are together of bulk at most 1048576: NARROWER than '..Said'. Prove '..Said' where nothing that the law and all that it calls make is longer than what came in: it says more and counts as full. Else prove '..UptoSaid'. A law counts once. -/
mutual
def uptoBulk {H : Type} : DataW H → Nat
  | .lit (.string bytes) => bytes.length + 1
  | .lit _ => 1
  | .nil => 1
  | .ptr d => uptoBulk d + 1
  | .slice elems spare => uptoBulkAll elems + uptoBulkAll spare + 1
  | .agg parts => uptoBulkAll parts + 1
  | .iface _ d => uptoBulk d + 1
  | .map entries => uptoBulkEntries entries + 1
  | .held _ => 1
def uptoBulkAll {H : Type} : List (DataW H) → Nat
  | [] => 0
  | d :: r => uptoBulk d + uptoBulkAll r
def uptoBulkEntries {H : Type} : List (Lit × DataW H) → Nat
  | [] => 0
  | x :: r => uptoBulkEntry x + uptoBulkEntries r
def uptoBulkEntry {H : Type} : Lit × DataW H → Nat
  | (.string bytes, d) => bytes.length + uptoBulk d + 1
  | (_, d) => uptoBulk d + 1
 end
def uptoSmall : (H : Type) → List (DataW H) → Bool := fun _ ds => decide (uptoBulkAll ds ≤ 1048576)
def OpenSpec.upto (s : _root_.Go.ChangeSpec) : _root_.Go.OpenSpec := { _root_.Go.OpenSpec.ofChange s with cond := some uptoSmall }

/-- 'haversacklaw07.DeflatePacks', WHERE WHAT IT READS IS OF BULK AT MOST 1048576: true; the input reads as it did. -/
def deflatePacksUptoRow : OpenClaim := { program := "ytggcbnhckcenmaagreatdoor", sum := "2e2e448c647d01f5070791baf800578c1dbeac2e3dc4c2b3c4cd54093c2face0", func := "haversack/haversacklaw07.DeflatePacks", spec := "deflatePacks", unfollowed := true, recurses := true, named := ["haversack/lens.order"], plainKeys := false, apart := false, laid := [("haversack/lens.order", laid_haversack_lens_order)], narrowed := true }
def DeflatePacksUptoSaid : Prop := deflatePacksUptoRow.holds Tryz.pinned (OpenSpec.upto deflatePacksSpec)

/-- 'haversacklaw07.DeflateStored', WHERE WHAT IT READS IS OF BULK AT MOST 1048576: true; the input reads as it did. -/
def deflateStoredUptoRow : OpenClaim := { program := "ytggcbnhckcenmaagreatdoor", sum := "2e2e448c647d01f5070791baf800578c1dbeac2e3dc4c2b3c4cd54093c2face0", func := "haversack/haversacklaw07.DeflateStored", spec := "deflateStored", unfollowed := true, recurses := true, named := ["haversack/lens.order"], plainKeys := false, apart := false, laid := [("haversack/lens.order", laid_haversack_lens_order)], narrowed := true }
def DeflateStoredUptoSaid : Prop := deflateStoredUptoRow.holds Tryz.pinned (OpenSpec.upto deflateStoredSpec)

/-- 'haversacklaw07.DeflateBlocks', WHERE WHAT IT READS IS OF BULK AT MOST 1048576: true; the input reads as it did. -/
def deflateBlocksUptoRow : OpenClaim := { program := "ytggcbnhckcenmaagreatdoor", sum := "2e2e448c647d01f5070791baf800578c1dbeac2e3dc4c2b3c4cd54093c2face0", func := "haversack/haversacklaw07.DeflateBlocks", spec := "deflateBlocks", unfollowed := true, recurses := true, named := ["haversack/lens.order"], plainKeys := false, apart := false, laid := [("haversack/lens.order", laid_haversack_lens_order)], narrowed := true }
def DeflateBlocksUptoSaid : Prop := deflateBlocksUptoRow.holds Tryz.pinned (OpenSpec.upto deflateBlocksSpec)

/-- 'haversacklaw07.DeflateStreams', WHERE WHAT IT READS IS OF BULK AT MOST 1048576: true; the input reads as it did. -/
def deflateStreamsUptoRow : OpenClaim := { program := "ytggcbnhckcenmaagreatdoor", sum := "2e2e448c647d01f5070791baf800578c1dbeac2e3dc4c2b3c4cd54093c2face0", func := "haversack/haversacklaw07.DeflateStreams", spec := "deflateStreams", unfollowed := true, recurses := true, named := ["haversack/lens.order"], plainKeys := false, apart := false, laid := [("haversack/lens.order", laid_haversack_lens_order)], narrowed := true }
def DeflateStreamsUptoSaid : Prop := deflateStreamsUptoRow.holds Tryz.pinned (OpenSpec.upto deflateStreamsSpec)

/-- 'haversacklaw07.DeflateBack', WHERE WHAT IT READS IS OF BULK AT MOST 1048576: true; the input reads as it did. -/
def deflateBackUptoRow : OpenClaim := { program := "ytggcbnhckcenmaagreatdoor", sum := "2e2e448c647d01f5070791baf800578c1dbeac2e3dc4c2b3c4cd54093c2face0", func := "haversack/haversacklaw07.DeflateBack", spec := "deflateBack", unfollowed := true, recurses := true, named := ["haversack/lens.order"], plainKeys := false, apart := false, laid := [("haversack/lens.order", laid_haversack_lens_order)], narrowed := true }
def DeflateBackUptoSaid : Prop := deflateBackUptoRow.holds Tryz.pinned (OpenSpec.upto deflateBackSpec)

/-- 'haversacklaw07.DeflateNil', WHERE WHAT IT READS IS OF BULK AT MOST 1048576: true; the input reads as it did. -/
def deflateNilUptoRow : OpenClaim := { program := "ytggcbnhckcenmaagreatdoor", sum := "2e2e448c647d01f5070791baf800578c1dbeac2e3dc4c2b3c4cd54093c2face0", func := "haversack/haversacklaw07.DeflateNil", spec := "deflateNil", unfollowed := true, recurses := true, named := ["haversack/lens.order"], plainKeys := false, apart := false, laid := [("haversack/lens.order", laid_haversack_lens_order)], narrowed := true }
def DeflateNilUptoSaid : Prop := deflateNilUptoRow.holds Tryz.pinned (OpenSpec.upto deflateNilSpec)

end Rows
end Go.Proofs.YtggcbnhckcenmaaGreatDoor
