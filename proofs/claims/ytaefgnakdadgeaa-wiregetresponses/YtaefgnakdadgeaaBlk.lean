/-
  A block of cells, whole: an object of some fields.
-/
import Derived.Test.YtaefgnakdadgeaaBase
import Derived.Test.YtaefgnakdadgeaaSam
namespace Go.Proofs.Ytaefgnakdadgeaa
open Go.RowKit

/-- The block h holds just these cells, none of them frozen. -/
def Blk (w : World) (h : Nat) (cs : Array Value) (t : TypeId) : Prop := w.heap[h]? = some (.cells cs t (0, 0))

theorem Blk.lt {w : World} {h : Nat} {cs : Array Value} {t : TypeId} (b : Blk w h cs t) : h < w.heap.size := (Array.getElem?_eq_some_iff.1 b).1

theorem Blk.cell {w : World} {h : Nat} {cs : Array Value} {t : TypeId} (b : Blk w h cs t) (i : Nat) : w.cell? ⟨h, i, none⟩ = cs[i]? := by
  unfold Blk at b
  simp [World.cell?, b]

theorem Blk.frozen {w : World} {h : Nat} {cs : Array Value} {t : TypeId} (b : Blk w h cs t) (i : Nat) : w.frozen? ⟨h, i, none⟩ = false := by
  unfold Blk at b
  simp [World.frozen?, b]

theorem Blk.kept {F : Nat → Prop} {w w' : World} {h : Nat} {cs : Array Value} {t : TypeId} (b : Blk w h cs t) (hk : Kept F w w') (hF : ¬ F h) : Blk w' h cs t := by
  unfold Blk
  rw [hk.block h b.lt hF]
  exact b

theorem Blk.set {w : World} {h : Nat} {cs : Array Value} {t : TypeId} (b : Blk w h cs t) (i : Nat) (u : Value) : Blk (w.setCell ⟨h, i, none⟩ u) h (cs.setIfInBounds i u) t := by
  unfold Blk at b ⊢
  simp [World.setCell, Array.getElem?_modify, b]

theorem Blk.new (w : World) (cs : Array Value) (t : TypeId) : Blk (w.alloc (.cells cs t)) w.heap.size cs t := by
  unfold Blk World.alloc
  simp

theorem Blk.drewN {w : World} {h : Nat} {cs : Array Value} {t : TypeId} (b : Blk w h cs t) (n : Nat) : Blk (w.drewN n) h cs t := b

end Go.Proofs.Ytaefgnakdadgeaa
