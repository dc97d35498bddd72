/-
  The writer's calls.
-/
import Derived.Test.YtaefgnakdadgeaaLay
namespace Go.Proofs.Ytaefgnakdadgeaa
open Go.RowKit

/-- A writer at block p with the bits of the number X, c of them. -/
structure Wr (w : World) (p : Nat) (s : Value) (X c : Nat) : Prop where
  ex : ∃ bs, St w p s bs c ∧ n256 bs = X ∧ c ≤ 8 * bs.length ∧ 8 * bs.length < c + 8
  lt : X < 2 ^ c

/-- Where the bytes lie: where they lay, or in new memory. -/
def Grew (w : World) (s s' : Value) : Prop := s'.ownBlock = s.ownBlock ∨ ∀ k, s'.ownBlock = some k → w.heap.size ≤ k

theorem Wr.kept {F : Nat → Prop} {w w' : World} {p : Nat} {s : Value} {X c : Nat} (h : Wr w p s X c) (hk : Kept F w w') (hn : ∀ k, Fp p s k → ¬ F k) : Wr w' p s X c := by
  obtain ⟨bs, h1, h2⟩ := h.ex
  exact ⟨⟨bs, h1.kept hk hn, h2⟩, h.lt⟩

theorem Wr.fp_lt {w : World} {p : Nat} {s : Value} {X c : Nat} (h : Wr w p s X c) {k : Nat} (hk : Fp p s k) : k < w.heap.size := by
  obtain ⟨bs, h1, _⟩ := h.ex
  exact h1.fp_lt hk























end Go.Proofs.Ytaefgnakdadgeaa
