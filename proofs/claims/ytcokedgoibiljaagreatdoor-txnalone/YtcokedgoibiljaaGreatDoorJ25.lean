/-
  Of the proof: parts ZpN.
-/
import Derived.Lib.Split
import Derived.Lib.SlTrimSet
import Derived.Test.YtcokedgoibiljaaGreatDoorJ2

/-
  Layer 8's mathematics: names.
-/
namespace Go.Proofs.YtcokedgoibiljaaGreatDoor

/-- A letter of a name. -/
def let8 (c : Nat) : Bool := decide (97 ≤ c ∧ c ≤ 122) || decide (48 ≤ c ∧ c ≤ 57) || c == 46 || c == 95 || c == 45

/-- What may stand between two slashes. -/
def prt8 (p : List Nat) : Bool := !(p == []) && !(p == [46]) && !(p == [46, 46])

def okp8 (p : List Nat) : Bool := prt8 p && p.all let8

/-- The parts between slashes. -/
def spl8 : List Nat → List (List Nat)
  | [] => [[]]
  | c :: r => if c = 47 then [] :: spl8 r else match spl8 r with
    | [] => [[c]]
    | p :: ps => (c :: p) :: ps

theorem spl8_ne (l : List Nat) : ∃ p ps, spl8 l = p :: ps := by
  cases l with
  | nil => exact ⟨_, _, rfl⟩
  | cons c r =>
    unfold spl8
    split
    · exact ⟨_, _, rfl⟩
    · split
      · exact ⟨_, _, rfl⟩
      · exact ⟨_, _, rfl⟩

theorem spl8_cons {c : Nat} {r p : List Nat} {ps : List (List Nat)} (hc : c ≠ 47) (h : spl8 r = p :: ps) : spl8 (c :: r) = (c :: p) :: ps := by
  rw [spl8, if_neg hc, h]

/-- May it be a name? -/
def nam8 (l : List Nat) : Bool := decide (l.length ≤ 64) && (spl8 l).all okp8

end Go.Proofs.YtcokedgoibiljaaGreatDoor
