/-
  Blocks that are known whole: cells, stores; slices of some cells an element.
-/
import Derived.Test.YtjlkchjcmiljjaaDoorCopyK
import Derived.Test.YtjlkchjcmiljjaaDoorBlk
namespace Go.Proofs.YtjlkchjcmiljjaaDoor
open Go.RowKit

/-- A slice of some cells an element, as cells behind an address. -/
theorem SrcC.cellsAt {α : Type} {k : Nat} {enc : α → List Value} {w : World} {I : Nat → Prop} {ao : Option Addr} {n cap : Nat} {xs : List α} (ok : EncOk enc k) (h : SrcC k enc w I (.slice ao n cap) xs) (hne : xs ≠ []) : ∃ ad, ao = some ad ∧ CellsAt w ad (xs.flatMap enc) := by
  obtain ⟨ao', cap', e, _, hc⟩ := h
  simp only [Value.slice.injEq] at e
  obtain ⟨rfl, _, rfl⟩ := e
  obtain ⟨b, o, rfl, _, hcell⟩ := hc hne
  refine ⟨_, rfl, fun j u hu => ?_⟩
  have hk := ok.pos
  have hj : j < (xs.flatMap enc).length := (List.getElem?_eq_some_iff.1 hu).1
  rw [flat_length ok] at hj
  have h1 : j / k < xs.length := (Nat.div_lt_iff_lt_mul hk).2 hj
  have h2 : j % k < k := Nat.mod_lt _ hk
  have h3 := flat_get ok xs (j / k) (j % k) h1 h2
  rw [Nat.div_add_mod' j k] at h3
  have e : (⟨b, o, none⟩ : Addr).add j = ⟨b, o + j, none⟩ := by unfold Addr.add; split <;> simp_all
  have h4 := hcell (j / k) h1 (j % k) h2
  rw [Nat.div_add_mod' j k] at h4
  rw [e, h4, ← h3, hu]

theorem splice_head {α : Type} (L cs : List α) : splice L 0 cs = cs ++ L.drop cs.length := by simp [splice]

theorem Raw.set {w : World} {g : Nat} {t : TypeId} {L : List Value} (h : Raw w g t L) (i : Nat) (u : Value) : Raw (w.setCell ⟨g, i, none⟩ u) g t (L.set i u) := by
  have := Blk.set (show Blk w g L.toArray t from h) i u
  unfold Blk at this
  unfold Raw
  rw [this]
  simp

theorem Raw.cell {w : World} {g : Nat} {t : TypeId} {L : List Value} (h : Raw w g t L) (i : Nat) : w.cell? ⟨g, i, none⟩ = L[i]? := by
  have := Blk.cell (show Blk w g L.toArray t from h) i
  rw [this]
  simp

theorem Raw.frozen {w : World} {g : Nat} {t : TypeId} {L : List Value} (h : Raw w g t L) (i : Nat) : w.frozen? ⟨g, i, none⟩ = false := Blk.frozen (show Blk w g L.toArray t from h) i

end Go.Proofs.YtjlkchjcmiljjaaDoor
