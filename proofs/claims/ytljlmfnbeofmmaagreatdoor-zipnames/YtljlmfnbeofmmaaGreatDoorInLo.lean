import Derived.Test.YtljlmfnbeofmmaaGreatDoorInM
import Derived.Test.YtljlmfnbeofmmaaGreatDoorLnWrM
namespace Go.Proofs.YtljlmfnbeofmmaaGreatDoor
theorem key_le {ns : List Nat} {b : Nat} (h : ∀ n ∈ ns, n ≤ b) (s : Nat) : key ns s ≤ b := Nat.le_trans (key_le_mx ns s) (mx_le ns b h)

end Go.Proofs.YtljlmfnbeofmmaaGreatDoor
