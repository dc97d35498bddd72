/-
  Numbers as keys of maps.
-/
import Derived.Test.YtjlkchjcmiljjaaDoorNmK
namespace Go.Proofs.YtjlkchjcmiljjaaDoor
open Go.RowKit Go.Maps

/-- A number, as a key of a map. -/
structure Nb where
  v : Int
  ok : (Lit.int .i64 v).wf = true
  deriving DecidableEq

theorem Nb.ext' {a b : Nb} (h : a.v = b.v) : a = b := by
  cases a
  cases b
  simp only at h
  subst h
  rfl

def kI (n : Nb) : Lit := .int .i64 n.v
theorem intKey14 : Keyed Tryd.prog 3 := int_keyed Tryd.underlying3
theorem keyI (n : Nb) : keyOf Tryd.prog 3 (.int .i64 n.v) = some (kI n) := keyOf_int_mk Tryd.underlying3 n.ok
theorem klI : KL kI := ⟨fun a b h => by
    simp only [kI, Lit.int.injEq, true_and] at h
    exact Nb.ext' h, fun a => .inr ⟨_, _, rfl⟩⟩

end Go.Proofs.YtjlkchjcmiljjaaDoor
