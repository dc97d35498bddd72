/-
  Rows and blocks of unlike types lie apart.
-/
import Derived.Test.YtjjhjbmmhkcapaaRec
import Derived.Test.YtjjhjbmmhkcapaaBlk
namespace Go.Proofs.Ytjjhjbmmhkcapaa
open Go.RowKit

theorem RowC.ty {α : Type} {B t k : Nat} {enc : α → List Value} {w : World} {v : Value} {xs : List α} (h : RowC B t k enc w v xs) {j : Nat} (hj : v.ownBlock = some j) : ∃ cur, w.heap[j]? = some (.cells cur t (0, 0)) := by
  rcases h.2 with ⟨rfl, _⟩ | ⟨g, cap, cur, rfl, _, hg, _⟩
  · cases hj
  · cases hj
    exact ⟨cur, hg⟩

theorem RowC.offB {α : Type} {B t k : Nat} {enc : α → List Value} {w : World} {v : Value} {xs : List α} (h : RowC B t k enc w v xs) {q : Nat} {cs : Array Value} {t' : TypeId} (hb : Blk w q cs t') (hne : t ≠ t') : v.ownBlock ≠ some q := fun e => by
  obtain ⟨cur, hc⟩ := h.ty e
  unfold Blk at hb
  rw [hb] at hc
  injection hc with hc
  injection hc with _ hc _
  exact hne hc.symm

theorem RowC.offR {α β : Type} {B B' t t' k k' : Nat} {enc : α → List Value} {enc' : β → List Value} {w : World} {v v' : Value} {xs : List α} {ys : List β} (h : RowC B t k enc w v xs) (h' : RowC B' t' k' enc' w v' ys) (hne : t ≠ t') : ∀ j, v.ownBlock = some j → v'.ownBlock ≠ some j := fun j e e' => by
  obtain ⟨cur, hc⟩ := h.ty e
  obtain ⟨cur', hc'⟩ := h'.ty e'
  rw [hc] at hc'
  injection hc' with hc'
  injection hc' with _ hc' _
  exact hne hc'

end Go.Proofs.Ytjjhjbmmhkcapaa
