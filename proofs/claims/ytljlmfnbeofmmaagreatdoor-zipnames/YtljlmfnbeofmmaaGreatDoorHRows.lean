import Derived.Test.YtljlmfnbeofmmaaGreatDoorHArgs
import Derived.Test.YtljlmfnbeofmmaaGreatDoorHChk
import Derived.Test.YtljlmfnbeofmmaaGreatDoorHDecM
namespace Go.Proofs.YtljlmfnbeofmmaaGreatDoor
open Go.RowKit

def rowB : Nat → Nat → List Nat
 | 0, _ => []
 | n + 1, c => rowB n (c / 2) ++ [c % 2]

theorem rowB_length (n c : Nat) : (rowB n c).length = n := by
 induction n generalizing c with
 | zero => rfl
 | succ n ih => simp [rowB, ih]

theorem rowB_n2 (n c : Nat) : n2 (rowB n c) = rv n c := by
 induction n generalizing c with
 | zero => rfl
 | succ n ih =>
  simp only [rowB, rv]
  rw [n2_append, ih, rowB_length]
  simp [n2, Nat.mul_comm]
  omega

theorem rowB_bit (n c : Nat) : ∀ b ∈ rowB n c, b < 2 := by
 induction n generalizing c with
 | zero => simp [rowB]
 | succ n ih =>
  intro b hb
  rcases List.mem_append.1 hb with hb | hb
  ·exact ih _ b hb
  ·have : b = c % 2 := by simpa using hb
   omega

end Go.Proofs.YtljlmfnbeofmmaaGreatDoor
