import Derived.Test.YtljlmfnbeofmmaaGreatDoorInLo
namespace Go.Proofs.YtljlmfnbeofmmaaGreatDoor
structure Lok (l : List Nat) : Prop where
 pos : 0 < l.length
 max : l.length ≤ 288
 le : ∀ n ∈ l, n ≤ 15
 ok : chkN l = 0

structure OkL (lit dist : List Nat) : Prop where
 lit : Lok lit
 pos : 0 < dist.length
 max : dist.length ≤ 288
 le : ∀ n ∈ dist, n ≤ 15
 dist : usedB dist = true → Lok dist

end Go.Proofs.YtljlmfnbeofmmaaGreatDoor
