/-
  Of the proof: parts NmK, NbK.
-/
import Derived.WideKeyPair
import Derived.Test.YtcokedgoibiljaaGreatDoorJ4

/-
  Names as keys of maps.
-/
namespace Go.Proofs.YtcokedgoibiljaaGreatDoor
open Go.RowKit Go.Maps

theorem nameKey : Keyed Tryz.prog 9 := string_keyed Tryz.underlying9

/-- A name, as a key. -/
structure Nm where
  s : ByteArray
  ok : s.size ≤ maxLen
  deriving DecidableEq

theorem Nm.ext' {a b : Nm} (h : a.s = b.s) : a = b := by
  cases a
  cases b
  simp only at h
  subst h
  rfl

def nmV (n : Nm) : Value := .string n.s

def kN (n : Nm) : Lit := .string n.s.data.toList

theorem keyN (n : Nm) : keyOf Tryz.prog 9 (nmV n) = some (kN n) := Go.WideMaps.keyOf_string_mk Tryz.underlying9 n.ok

theorem klN : KL kN := ⟨fun a b h => by
    have h1 := nameKey.inj (keyN a) (by rw [h]; exact keyN b)
    simp only [nmV, Value.string.injEq] at h1
    exact Nm.ext' h1, fun a => .inl ⟨_, rfl⟩⟩

end Go.Proofs.YtcokedgoibiljaaGreatDoor

/-
  Numbers as keys of maps.
-/
namespace Go.Proofs.YtcokedgoibiljaaGreatDoor
open Go.RowKit Go.Maps

/-- A number, as a key of a map. -/
structure Nb where
  v : Int
  ok : (Lit.int .i64 v).wf = true
  deriving DecidableEq

theorem Nb.ext' {a b : Nb} (h : a.v = b.v) : a = b := by
  cases a
  cases b
  simp only at h
  subst h
  rfl

def kI (n : Nb) : Lit := .int .i64 n.v
theorem intKey14 : Keyed Tryz.prog 3 := int_keyed Tryz.underlying3
theorem keyI (n : Nb) : keyOf Tryz.prog 3 (.int .i64 n.v) = some (kI n) := keyOf_int_mk Tryz.underlying3 n.ok
theorem klI : KL kI := ⟨fun a b h => by
    simp only [kI, Lit.int.injEq, true_and] at h
    exact Nb.ext' h, fun a => .inr ⟨_, _, rfl⟩⟩

end Go.Proofs.YtcokedgoibiljaaGreatDoor
