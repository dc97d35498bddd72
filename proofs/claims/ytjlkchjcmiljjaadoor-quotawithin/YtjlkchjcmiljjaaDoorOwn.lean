/-
  append onto a row of bytes of one's own: where the row lies then.
-/
import Derived.Test.YtjlkchjcmiljjaaDoorProg
import Derived.Test.YtjlkchjcmiljjaaDoorBase
namespace Go.Proofs.YtjlkchjcmiljjaaDoor
open Go.RowKit

theorem Tryd.info8 : (Tryd.prog.info? 5).map (fun i => (i.zero, i.size, i.bytes)) = some (some (.int .u8 0), 1, 1) := by kernel_rfl

theorem addAt (b o j : Nat) : (⟨b, o, none⟩ : Addr).add j = ⟨b, o + j, none⟩ := by unfold Addr.add; simp

/-- The bytes that lie behind a slice's address. -/
def BytesAt (w : World) (a : Addr) (cs : List Nat) : Prop := ∀ j u, (cs.map byteV)[j]? = some u → w.cell? (a.add j) = some u





/-- One byte that was just laid. -/
theorem bytesAt_new (w : World) (n : Nat) : BytesAt (w.alloc (.cells #[.int .u8 n] 5)) ⟨w.heap.size, 0, none⟩ [n] := by
  intro j u hu
  match j, hu with
  | 0, hu => simp [byteV] at hu; subst hu; simp [addAt]

end Go.Proofs.YtjlkchjcmiljjaaDoor
