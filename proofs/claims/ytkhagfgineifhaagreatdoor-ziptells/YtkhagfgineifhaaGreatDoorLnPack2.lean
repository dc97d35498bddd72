import Derived.Test.YtkhagfgineifhaaGreatDoorLnPack
namespace Go.Proofs.YtkhagfgineifhaaGreatDoor
open Go.RowKit
def Od(w w':World)(e:Ending):Except Nat (List (Int×Int))->Prop
 | .error c=>e=.returned (.tuple #[.slice none 0 0,.int .i64 (c:Nat)])/\Same w w'
 | .ok ss=>∃v',e=.returned (.tuple #[v',.int .i64 0])/\fN w.heap.size w' v' ss/\Same w w'
theorem qA{zs:List Int}(h1:zs.length<=316)(h2:cG zs=true):sP zs=.ok (ba (zs.map Int.toNat)):=by unfold sP;rw[if_pos ⟨h1,(fh zs).1 h2⟩]
theorem Eo{zs:List Int}(h:316<zs.length\/cG zs=false):sP zs=.error 1:=by
 unfold sP;rw[if_neg];rintro⟨h1,h2⟩;rcases h with h | h
 ·omega
 ·rw[(fh zs).2 h2]at h;cases h
def G4(a b:List Int):Bool:=decide (257<=a.length) && decide (a.length<=286) && decide (1<=b.length) && decide (b.length<=30) && cG a && cG b
end Go.Proofs.YtkhagfgineifhaaGreatDoor
