/-
  Rows cloned; the rest of a row.
-/
import Derived.Test.YtjjhjbmmhkcapaaFresh
import Derived.Test.YtjjhjbmmhkcapaaBlk
import Derived.Lib.SliceRun
namespace Go.Proofs.Ytjjhjbmmhkcapaa
open Go.RowKit

/-- The rest of a row, as a source. -/
theorem Row.rest {w : World} {ao : Option Addr} {cap : Nat} {bs : List Nat} (h : Row w (.slice ao bs.length cap) bs) (k : Nat) (hk : k ≤ bs.length) (a' : Option Addr) (c' : Nat) (ha : k < bs.length → ∃ g, ao = some ⟨g, 0, none⟩ ∧ a' = some ⟨g, k, none⟩) :
    Src w (fun j => (Value.slice ao bs.length cap).ownBlock = some j) (.slice a' (bs.length - k) c') (bs.drop k) := by
  refine ⟨a', c', by rw [List.length_drop], fun hne => ?_⟩
  have hlt : k < bs.length := by
    refine Classical.byContradiction (fun hc => hne (List.drop_eq_nil_of_le (by omega)))
  obtain ⟨g, rfl, rfl⟩ := ha hlt
  refine ⟨g, k, rfl, rfl, fun j hj => ?_⟩
  have hj2 : k + j < bs.length := by rw [List.length_drop] at hj; omega
  have := h.cell (k + j) hj2
  rw [List.getElem_drop]
  exact this

theorem row_none (w : World) : Row (w.alloc (.cells #[] 5)) (.slice (some ⟨w.heap.size, 0, none⟩) 0 0) [] :=
  ⟨rfl, .inr ⟨w.heap.size, 0, #[], rfl, Nat.zero_le _, Blk.new w #[] _, Nat.le_refl _, Nat.zero_le _, rfl, rfl⟩⟩





end Go.Proofs.Ytjjhjbmmhkcapaa
