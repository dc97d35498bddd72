/-
  No cell of these rows narrows 'for every input' (looked for: loops, veiled, ifaces, maps, wideKeys, modest, calm, conditions, laid).
  DERIVED. THE GIVEN ROWS OF THIS SEAT. 6 by the template 'for every input the law returns true; each argument reads behind the call as it read before'; 0 by the template 'total and deterministic' (their statements: YtgegginmdohklaaTotals.lean).
  GIVEN WITH THE SEED: the statements are not yours to turn. If you find one false, say at which input.
  Laid BY PROGRAM, IN A SANDBOX (cutbox-rows.mjs): the forced cells as the released guide's own fill.sh prints them over the translation 4d159f19c015e99e… (all of the seat's roots in one cut). By AI agents, Wed Nov 11 2026. No macro, syntax, notation, axiom, sorry.
-/
import Derived.Test.YtgegginmdohklaaChecked
import GoSem.Claim
import GoSem.ClaimJoined
import GoSem.ClaimMapViews
import Derived.JoinedTies
import Derived.KernelRfl
namespace Go.Proofs.Ytgegginmdohklaa
/- THE CELL 'sum', in the pinned program and in every row, IS THE sha256 OF THE DUMP (.gsa) THAT YtgegginmdohklaaProg.lean LOADS. Nothing in Lean hashes anything: it is a label: what it is worth is what the hold of that sum in a sandbox is worth. -/
noncomputable def Try.pinned : Pinned := { name := "ytgegginmdohklaa", sum := "4d159f19c015e99ecfb773b703696d23b0bade7cc7a397cd2e015a37352c1dfd", checked := Try.checked }
namespace Rows
def none {H : Type} : Left H := { results := [], args := [] }

/-- 'haversacklaw02.LittlePuts': WHATEVER THE INPUT: true; the input reads as it did. -/
def littlePutsSpec : ChangeSpec := { name := "littlePuts", fn := fun _ => fun
  | [d1, d2] => { results := [.lit (.bool true)], args := [d1, d2] }
  | _ => none }
def littlePutsRow : OpenClaim := { program := "ytgegginmdohklaa", sum := "4d159f19c015e99ecfb773b703696d23b0bade7cc7a397cd2e015a37352c1dfd", func := "haversack/haversacklaw02.LittlePuts", spec := "littlePuts", unfollowed := true, recurses := true, apart := false }
def LittlePutsSaid : Prop := littlePutsRow.holds Try.pinned (OpenSpec.ofChange littlePutsSpec)

/-- ITS FALSE NEIGHBOUR: 'it returns false'. Refute it at one input. -/
def littlePutsWrong : ChangeSpec := { name := "littlePuts", fn := fun _ => fun
  | [d1, d2] => { results := [.lit (.bool false)], args := [d1, d2] }
  | _ => none }
def LittlePutsWrongFalsely : Prop := littlePutsRow.holds Try.pinned (OpenSpec.ofChange littlePutsWrong)

/-- 'haversacklaw02.LittleGets': WHATEVER THE INPUT: true; the input reads as it did. -/
def littleGetsSpec : ChangeSpec := { name := "littleGets", fn := fun _ => fun
  | [d1, d2] => { results := [.lit (.bool true)], args := [d1, d2] }
  | _ => none }
def littleGetsRow : OpenClaim := { program := "ytgegginmdohklaa", sum := "4d159f19c015e99ecfb773b703696d23b0bade7cc7a397cd2e015a37352c1dfd", func := "haversack/haversacklaw02.LittleGets", spec := "littleGets", unfollowed := true, recurses := true, apart := false }
def LittleGetsSaid : Prop := littleGetsRow.holds Try.pinned (OpenSpec.ofChange littleGetsSpec)

/-- ITS FALSE NEIGHBOUR: 'it returns false'. Refute it at one input. -/
def littleGetsWrong : ChangeSpec := { name := "littleGets", fn := fun _ => fun
  | [d1, d2] => { results := [.lit (.bool false)], args := [d1, d2] }
  | _ => none }
def LittleGetsWrongFalsely : Prop := littleGetsRow.holds Try.pinned (OpenSpec.ofChange littleGetsWrong)

/-- 'haversacklaw02.LittleSums': WHATEVER THE INPUT: true; the input reads as it did. -/
def littleSumsSpec : ChangeSpec := { name := "littleSums", fn := fun _ => fun
  | [d1, d2] => { results := [.lit (.bool true)], args := [d1, d2] }
  | _ => none }
def littleSumsRow : OpenClaim := { program := "ytgegginmdohklaa", sum := "4d159f19c015e99ecfb773b703696d23b0bade7cc7a397cd2e015a37352c1dfd", func := "haversack/haversacklaw02.LittleSums", spec := "littleSums", unfollowed := true, recurses := true, apart := false }
def LittleSumsSaid : Prop := littleSumsRow.holds Try.pinned (OpenSpec.ofChange littleSumsSpec)

/-- ITS FALSE NEIGHBOUR: 'it returns false'. Refute it at one input. -/
def littleSumsWrong : ChangeSpec := { name := "littleSums", fn := fun _ => fun
  | [d1, d2] => { results := [.lit (.bool false)], args := [d1, d2] }
  | _ => none }
def LittleSumsWrongFalsely : Prop := littleSumsRow.holds Try.pinned (OpenSpec.ofChange littleSumsWrong)

/-- 'haversacklaw02.LittleRound': WHATEVER THE INPUT: true; the input reads as it did. -/
def littleRoundSpec : ChangeSpec := { name := "littleRound", fn := fun _ => fun
  | [d1, d2] => { results := [.lit (.bool true)], args := [d1, d2] }
  | _ => none }
def littleRoundRow : OpenClaim := { program := "ytgegginmdohklaa", sum := "4d159f19c015e99ecfb773b703696d23b0bade7cc7a397cd2e015a37352c1dfd", func := "haversack/haversacklaw02.LittleRound", spec := "littleRound", unfollowed := true, recurses := true, apart := false }
def LittleRoundSaid : Prop := littleRoundRow.holds Try.pinned (OpenSpec.ofChange littleRoundSpec)

/-- ITS FALSE NEIGHBOUR: 'it returns false'. Refute it at one input. -/
def littleRoundWrong : ChangeSpec := { name := "littleRound", fn := fun _ => fun
  | [d1, d2] => { results := [.lit (.bool false)], args := [d1, d2] }
  | _ => none }
def LittleRoundWrongFalsely : Prop := littleRoundRow.holds Try.pinned (OpenSpec.ofChange littleRoundWrong)

/-- 'haversacklaw02.LittleJoins': WHATEVER THE INPUT: true; the input reads as it did. -/
def littleJoinsSpec : ChangeSpec := { name := "littleJoins", fn := fun _ => fun
  | [d1, d2] => { results := [.lit (.bool true)], args := [d1, d2] }
  | _ => none }
def littleJoinsRow : OpenClaim := { program := "ytgegginmdohklaa", sum := "4d159f19c015e99ecfb773b703696d23b0bade7cc7a397cd2e015a37352c1dfd", func := "haversack/haversacklaw02.LittleJoins", spec := "littleJoins", unfollowed := true, recurses := true, apart := false }
def LittleJoinsSaid : Prop := littleJoinsRow.holds Try.pinned (OpenSpec.ofChange littleJoinsSpec)

/-- ITS FALSE NEIGHBOUR: 'it returns false'. Refute it at one input. -/
def littleJoinsWrong : ChangeSpec := { name := "littleJoins", fn := fun _ => fun
  | [d1, d2] => { results := [.lit (.bool false)], args := [d1, d2] }
  | _ => none }
def LittleJoinsWrongFalsely : Prop := littleJoinsRow.holds Try.pinned (OpenSpec.ofChange littleJoinsWrong)

/-- 'haversacklaw02.LittleTells': WHATEVER THE INPUT: true; the input reads as it did. -/
def littleTellsSpec : ChangeSpec := { name := "littleTells", fn := fun _ => fun
  | [d1, d2, d3] => { results := [.lit (.bool true)], args := [d1, d2, d3] }
  | _ => none }
def littleTellsRow : OpenClaim := { program := "ytgegginmdohklaa", sum := "4d159f19c015e99ecfb773b703696d23b0bade7cc7a397cd2e015a37352c1dfd", func := "haversack/haversacklaw02.LittleTells", spec := "littleTells", unfollowed := true, recurses := true, apart := false }
def LittleTellsSaid : Prop := littleTellsRow.holds Try.pinned (OpenSpec.ofChange littleTellsSpec)

/-- ITS FALSE NEIGHBOUR: 'it returns false'. Refute it at one input. -/
def littleTellsWrong : ChangeSpec := { name := "littleTells", fn := fun _ => fun
  | [d1, d2, d3] => { results := [.lit (.bool false)], args := [d1, d2, d3] }
  | _ => none }
def LittleTellsWrongFalsely : Prop := littleTellsRow.holds Try.pinned (OpenSpec.ofChange littleTellsWrong)

/- THE SECOND FORM. 'bulk': how many values and letters a reading holds, each counted each time it is reached (what is shared counts as often as it is met; a slice's spare places count too). A statement '..UptoSaid' is the law's where the arguments, and the package variables that the reading takes, are together of bulk at most 1048576: NARROWER than '..Said'. Prove '..Said' where nothing that the law and all that it calls make is longer than what came in: it says more and counts as full. Else prove '..UptoSaid'. A law counts once. -/
mutual
def uptoBulk {H : Type} : DataW H → Nat
  | .lit (.string bytes) => bytes.length + 1
  | .lit _ => 1
  | .nil => 1
  | .ptr d => uptoBulk d + 1
  | .slice elems spare => uptoBulkAll elems + uptoBulkAll spare + 1
  | .agg parts => uptoBulkAll parts + 1
  | .iface _ d => uptoBulk d + 1
  | .map entries => uptoBulkEntries entries + 1
  | .held _ => 1
def uptoBulkAll {H : Type} : List (DataW H) → Nat
  | [] => 0
  | d :: r => uptoBulk d + uptoBulkAll r
def uptoBulkEntries {H : Type} : List (Lit × DataW H) → Nat
  | [] => 0
  | x :: r => uptoBulkEntry x + uptoBulkEntries r
def uptoBulkEntry {H : Type} : Lit × DataW H → Nat
  | (.string bytes, d) => bytes.length + uptoBulk d + 1
  | (_, d) => uptoBulk d + 1
 end
def uptoSmall : (H : Type) → List (DataW H) → Bool := fun _ ds => decide (uptoBulkAll ds ≤ 1048576)
def OpenSpec.upto (s : _root_.Go.ChangeSpec) : _root_.Go.OpenSpec := { _root_.Go.OpenSpec.ofChange s with cond := some uptoSmall }

/-- 'haversacklaw02.LittlePuts', WHERE WHAT IT READS IS OF BULK AT MOST 1048576: true; the input reads as it did. -/
def littlePutsUptoRow : OpenClaim := { program := "ytgegginmdohklaa", sum := "4d159f19c015e99ecfb773b703696d23b0bade7cc7a397cd2e015a37352c1dfd", func := "haversack/haversacklaw02.LittlePuts", spec := "littlePuts", unfollowed := true, recurses := true, apart := false, narrowed := true }
def LittlePutsUptoSaid : Prop := littlePutsUptoRow.holds Try.pinned (OpenSpec.upto littlePutsSpec)

/-- 'haversacklaw02.LittleGets', WHERE WHAT IT READS IS OF BULK AT MOST 1048576: true; the input reads as it did. -/
def littleGetsUptoRow : OpenClaim := { program := "ytgegginmdohklaa", sum := "4d159f19c015e99ecfb773b703696d23b0bade7cc7a397cd2e015a37352c1dfd", func := "haversack/haversacklaw02.LittleGets", spec := "littleGets", unfollowed := true, recurses := true, apart := false, narrowed := true }
def LittleGetsUptoSaid : Prop := littleGetsUptoRow.holds Try.pinned (OpenSpec.upto littleGetsSpec)

/-- 'haversacklaw02.LittleSums', WHERE WHAT IT READS IS OF BULK AT MOST 1048576: true; the input reads as it did. -/
def littleSumsUptoRow : OpenClaim := { program := "ytgegginmdohklaa", sum := "4d159f19c015e99ecfb773b703696d23b0bade7cc7a397cd2e015a37352c1dfd", func := "haversack/haversacklaw02.LittleSums", spec := "littleSums", unfollowed := true, recurses := true, apart := false, narrowed := true }
def LittleSumsUptoSaid : Prop := littleSumsUptoRow.holds Try.pinned (OpenSpec.upto littleSumsSpec)

/-- 'haversacklaw02.LittleRound', WHERE WHAT IT READS IS OF BULK AT MOST 1048576: true; the input reads as it did. -/
def littleRoundUptoRow : OpenClaim := { program := "ytgegginmdohklaa", sum := "4d159f19c015e99ecfb773b703696d23b0bade7cc7a397cd2e015a37352c1dfd", func := "haversack/haversacklaw02.LittleRound", spec := "littleRound", unfollowed := true, recurses := true, apart := false, narrowed := true }
def LittleRoundUptoSaid : Prop := littleRoundUptoRow.holds Try.pinned (OpenSpec.upto littleRoundSpec)

/-- 'haversacklaw02.LittleJoins', WHERE WHAT IT READS IS OF BULK AT MOST 1048576: true; the input reads as it did. -/
def littleJoinsUptoRow : OpenClaim := { program := "ytgegginmdohklaa", sum := "4d159f19c015e99ecfb773b703696d23b0bade7cc7a397cd2e015a37352c1dfd", func := "haversack/haversacklaw02.LittleJoins", spec := "littleJoins", unfollowed := true, recurses := true, apart := false, narrowed := true }
def LittleJoinsUptoSaid : Prop := littleJoinsUptoRow.holds Try.pinned (OpenSpec.upto littleJoinsSpec)

/-- 'haversacklaw02.LittleTells', WHERE WHAT IT READS IS OF BULK AT MOST 1048576: true; the input reads as it did. -/
def littleTellsUptoRow : OpenClaim := { program := "ytgegginmdohklaa", sum := "4d159f19c015e99ecfb773b703696d23b0bade7cc7a397cd2e015a37352c1dfd", func := "haversack/haversacklaw02.LittleTells", spec := "littleTells", unfollowed := true, recurses := true, apart := false, narrowed := true }
def LittleTellsUptoSaid : Prop := littleTellsUptoRow.holds Try.pinned (OpenSpec.upto littleTellsSpec)

end Rows
end Go.Proofs.Ytgegginmdohklaa
