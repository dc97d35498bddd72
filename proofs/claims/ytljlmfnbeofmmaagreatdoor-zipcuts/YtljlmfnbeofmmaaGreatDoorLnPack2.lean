import Derived.Test.YtljlmfnbeofmmaaGreatDoorLnPack
namespace Go.Proofs.YtljlmfnbeofmmaaGreatDoor
open Go.RowKit

def PackA (w w' : World) (e : Ending) : Except Nat (List (Int × Int)) → Prop
 | .error c => e = .returned (.tuple #[.slice none 0 0, .int .i64 (c : Nat)]) ∧ Same w w'
 | .ok ss => ∃ v', e = .returned (.tuple #[v', .int .i64 0]) ∧ StRow w.heap.size w' v' ss ∧ Same w w'

theorem packA_good {zs : List Int} (h1 : zs.length ≤ 316) (h2 : lensOk zs = true) : packA zs = .ok (packM (zs.map Int.toNat)) := by
 unfold packA
 rw [if_pos ⟨h1, (lensOk_iff zs).1 h2⟩]

theorem packA_bad {zs : List Int} (h : 316 < zs.length ∨ lensOk zs = false) : packA zs = .error 1 := by
 unfold packA
 rw [if_neg]
 rintro ⟨h1, h2⟩
 rcases h with h | h
 ·omega
 ·rw [(lensOk_iff zs).2 h2] at h; cases h

def mayM (a b : List Int) : Bool := decide (257 ≤ a.length) && decide (a.length ≤ 286) && decide (1 ≤ b.length) && decide (b.length ≤ 30) && lensOk a && lensOk b

end Go.Proofs.YtljlmfnbeofmmaaGreatDoor
