/-
  Of the proof: parts QtFr.
-/
import Derived.Lib.LaidTab
import Derived.LaidLaws
import Derived.LaidSub
import Derived.Shelf.Vars
import Derived.WalkKit
import Derived.Test.YtcfociogljhbiaaGreatDoorRows
import Derived.Test.YtcfociogljhbiaaGreatDoorJ20

namespace Go.Proofs.YtcfociogljhbiaaGreatDoor
open Go.RowKit

theorem mxl17_of{W:World}(h:W.ShapedOpen Tryz.prog):Mxl W:=cell_of_shapedOpen_int (g:=0) (t:=3) (zero:=#[.int .i64 0]) h (by decide +kernel) (by kernel_rfl) rfl (by kernel_rfl) (by kernel_rfl) Tryz.underlying3

def flatD:DataW Unit→List Value
 | .agg l=>l.flatMap fun
  | .agg m=>m.flatMap fun
   | .lit (.int k n)=>[.int k n]
   | _=>[]
  | .lit (.int k n)=>[.int k n]
  | _=>[]
 | _=>[]

def layAt(d:DataW Unit):Obj→Obj
 | .cells _ t frozen=>.cells (flatD d).toArray t frozen
 | o=>o

noncomputable def laidWorld17 (os:Os):World:=
 let w0:=World.holding Tryz.prog os ⟨#[],#[],[]⟩
 {w0 with heap:=(w0.heap.modify 2 (layAt Rows.laid_unicode_utf8_acceptRanges)).modify 1 (layAt Rows.laid_unicode_utf8_first)}

end Go.Proofs.YtcfociogljhbiaaGreatDoor
