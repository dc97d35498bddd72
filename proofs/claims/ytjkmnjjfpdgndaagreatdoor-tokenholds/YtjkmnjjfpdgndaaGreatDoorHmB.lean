/-
  Arrays in memory, whole: laid, boxed, loaded, stored; the worlds behind them are named.
-/
import Derived.Test.YtjkmnjjfpdgndaaGreatDoorHmA
import Derived.Test.YtjkmnjjfpdgndaaGreatDoorArr
namespace Go.Proofs.YtjkmnjjfpdgndaaGreatDoor
open Go.RowKit

theorem Blk.wcell {w : World} {g : Nat} {xs : List Nat} {t : TypeId} (h : Blk w g (xs.map wordV).toArray t) (i : Nat) (hi : i < xs.length) : w.cell? ⟨g, i, none⟩ = some (.int .u32 (xs.getD i 0 : Nat)) := by
  rw [h.cell]
  simp [wordV, hi]

theorem Blk.bcell {w : World} {g : Nat} {xs : List Nat} {t : TypeId} (h : Blk w g (xs.map byteV).toArray t) (i : Nat) (hi : i < xs.length) : w.cell? ⟨g, i, none⟩ = some (.int .u8 (xs.getD i 0 : Nat)) := by
  rw [h.cell]
  simp [byteV, hi]

theorem Blk.wset {w : World} {g : Nat} {xs : List Nat} {t : TypeId} (h : Blk w g (xs.map wordV).toArray t) (i y : Nat) : Blk (w.setCell ⟨g, i, none⟩ (.int .u32 (y : Nat))) g ((xs.set i y).map wordV).toArray t := by
  have := h.set i (.int .u32 (y : Nat))
  rw [List.map_set]
  simpa [wordV] using this

theorem Blk.bset {w : World} {g : Nat} {xs : List Nat} {t : TypeId} (h : Blk w g (xs.map byteV).toArray t) (i y : Nat) : Blk (w.setCell ⟨g, i, none⟩ (.int .u8 (y : Nat))) g ((xs.set i y).map byteV).toArray t := by
  have := h.set i (.int .u8 (y : Nat))
  rw [List.map_set]
  simpa [byteV] using this

end Go.Proofs.YtjkmnjjfpdgndaaGreatDoor
