/-
  Names as keys of maps.
-/
import Derived.Test.YtjlkchjcmiljjaaDoorChA
import Derived.WideKeyPair
namespace Go.Proofs.YtjlkchjcmiljjaaDoor
open Go.RowKit Go.Maps

theorem nameKey : Keyed Tryd.prog 9 := string_keyed Tryd.underlying9

/-- A name, as a key. -/
structure Nm where
  s : ByteArray
  ok : s.size ≤ maxLen
  deriving DecidableEq

theorem Nm.ext' {a b : Nm} (h : a.s = b.s) : a = b := by
  cases a
  cases b
  simp only at h
  subst h
  rfl

def nmV (n : Nm) : Value := .string n.s

def kN (n : Nm) : Lit := .string n.s.data.toList

theorem keyN (n : Nm) : keyOf Tryd.prog 9 (nmV n) = some (kN n) := Go.WideMaps.keyOf_string_mk Tryd.underlying9 n.ok

theorem klN : KL kN := ⟨fun a b h => by
    have h1 := nameKey.inj (keyN a) (by rw [h]; exact keyN b)
    simp only [nmV, Value.string.injEq] at h1
    exact Nm.ext' h1, fun a => .inl ⟨_, rfl⟩⟩

end Go.Proofs.YtjlkchjcmiljjaaDoor
