import Derived.Test.YtljlmfnbeofmmaaGreatDoorLnPackM
import Derived.Test.YtljlmfnbeofmmaaGreatDoorLnRef
namespace Go.Proofs.YtljlmfnbeofmmaaGreatDoor
open Go.RowKit

theorem packM_next (ns : List Nat) (i n : Nat) (hi : i < ns.length) (hn : n = 1 + frontN ns[i] (ns.drop (i + 1))) : packM (ns.drop i) = sayM ns[i] n ++ packM (ns.drop (i + n)) := by
 rw [List.drop_eq_getElem_cons hi, packM_cons, List.drop_drop, hn]
 congr 3
 omega

end Go.Proofs.YtljlmfnbeofmmaaGreatDoor
