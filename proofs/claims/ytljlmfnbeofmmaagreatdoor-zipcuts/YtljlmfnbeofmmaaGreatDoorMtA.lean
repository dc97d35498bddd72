import Derived.Test.YtljlmfnbeofmmaaGreatDoorMtM
import Derived.Test.YtljlmfnbeofmmaaGreatDoorCln
import Derived.Test.YtljlmfnbeofmmaaGreatDoorBlk
import Derived.Test.YtljlmfnbeofmmaaGreatDoorCopyK
namespace Go.Proofs.YtljlmfnbeofmmaaGreatDoor
open Go.RowKit

def tkC (t : TK) : List Value := [.int .u8 (t.lit : Nat), .int .i64 t.len, .int .i64 t.dist]
def tkA (t : TK) : Array Value := #[.int .u8 (t.lit : Nat), .int .i64 t.len, .int .i64 t.dist]

theorem tkC_ok : EncOk tkC 3 := ⟨fun _ => rfl, fun x u hu => by simp [tkC] at hu; rcases hu with rfl | rfl | rfl <;> rfl, by decide⟩

abbrev TkRow (B : Nat) := RowC B 111 3 tkC
abbrev TkSrc := @SrcC TK 3 tkC

theorem Tryz.infoTk : (Tryz.prog.info? 111).map (fun i => (i.zero, i.size, i.bytes)) = some (some (.agg #[.int .u8 0, .int .i64 0, .int .i64 0]), 3, 24) := by kernel_rfl

end Go.Proofs.YtljlmfnbeofmmaaGreatDoor
