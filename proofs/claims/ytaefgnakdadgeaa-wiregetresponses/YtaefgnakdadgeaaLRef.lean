/-
  The reference's Put and Same; what the law lends and gets back.
-/
import Derived.Test.YtaefgnakdadgeaaLPut
namespace Go.Proofs.Ytaefgnakdadgeaa
open Go.RowKit

theorem Row.len {w : World} {g n cap : Nat} {ds : List Nat} (h : Row w (.slice (some ⟨g, 0, none⟩) n cap) ds) : ds.length = n := by
  rcases h.2 with ⟨e, _⟩ | ⟨_, _, _, e, _⟩
  · simp at e
  · injection e with _ e _; exact e.symm

theorem Row.lay {w : World} {g n cap : Nat} {ds : List Nat} (h : Row w (.slice (some ⟨g, 0, none⟩) n cap) ds) (j x : Nat) : Row (w.setCell ⟨g, j, none⟩ (.int .u8 x)) (.slice (some ⟨g, 0, none⟩) n cap) (ds.set j x) := by
  have hl := h.len
  subst hl
  have := (World.ownsRow.stored h j (.int .u8 x)).1
  rw [show (Value.int .u8 x) = byteV x from rfl, ← List.map_set] at this
  unfold Row
  rw [List.length_set]
  exact this

theorem Row.cell' {w : World} {g n cap : Nat} {bs : List Nat} (h : Row w (.slice (some ⟨g, 0, none⟩) n cap) bs) (j : Nat) (hj : j < bs.length) : w.cell? ⟨g, j, none⟩ = some (.int .u8 (bs[j] : Nat)) := by
  have hl := h.len
  subst hl
  exact Row.cell h j hj

theorem Row.frozen' {w : World} {g n cap : Nat} {bs : List Nat} (h : Row w (.slice (some ⟨g, 0, none⟩) n cap) bs) (j : Nat) : w.frozen? ⟨g, j, none⟩ = false := by
  have hl := h.len
  subst hl
  exact World.ownsRow.frozenAt h j

theorem set_at (cs ds : List Nat) (j x y : Nat) (h : cs.length = j) : (cs ++ y :: ds).set j x = cs ++ x :: ds := by
  subst h
  rw [List.set_append_right _ _ (by omega)]; simp









end Go.Proofs.Ytaefgnakdadgeaa
