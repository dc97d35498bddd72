import Derived.Test.YtljlmfnbeofmmaaGreatDoorHRows
import Derived.Test.YtljlmfnbeofmmaaGreatDoorBits
namespace Go.Proofs.YtljlmfnbeofmmaaGreatDoor

theorem n2_inj (a b : List Nat) (hl : a.length = b.length) (ha : ∀ x ∈ a, x < 2) (hb : ∀ x ∈ b, x < 2) (h : n2 a = n2 b) : a = b := by
 induction a generalizing b with
 | nil => cases b with
  | nil => rfl
  | cons y r => simp at hl
 | cons x l ih => cases b with
  | nil => simp at hl
  | cons y r =>
   have hx := ha x (by simp)
   have hy := hb y (by simp)
   simp only [n2] at h
   have e1 : x = y := by omega
   have e2 : n2 l = n2 r := by omega
   rw [e1, ih r (by simpa using hl) (fun z hz => ha z (by simp [hz])) (fun z hz => hb z (by simp [hz])) e2]

def rowOf (ns : List Nat) (s : Nat) : List Nat := rowB (key ns s) (codeOf ns s)
theorem rowOf_length (ns : List Nat) (s : Nat) : (rowOf ns s).length = key ns s := rowB_length _ _
theorem rowOf_n2 (ns : List Nat) (s : Nat) : n2 (rowOf ns s) = rv (key ns s) (codeOf ns s) := rowB_n2 _ _
theorem rowOf_bit (ns : List Nat) (s : Nat) : ∀ b ∈ rowOf ns s, b < 2 := rowB_bit _ _

def fitB (ns t : List Nat) (s : Nat) : Bool := key ns s != 0 && (rowOf ns s).isPrefixOf t
def begB (ns t : List Nat) (s : Nat) : Bool := key ns s != 0 && t.isPrefixOf (rowOf ns s)
def nextF (ns t : List Nat) : Nat × Nat × Nat :=
 match (List.range ns.length).find? (fitB ns t) with
 | some s => (s, key ns s, 0)
 | none => if (List.range ns.length).any (begB ns t) = true then (0, 0, 10) else (0, 0, 32)

end Go.Proofs.YtljlmfnbeofmmaaGreatDoor
