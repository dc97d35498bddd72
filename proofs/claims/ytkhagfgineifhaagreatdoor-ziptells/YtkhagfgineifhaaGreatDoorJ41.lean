import Derived.Test.YtkhagfgineifhaaGreatDoorJ4
import Derived.Test.YtkhagfgineifhaaGreatDoorJ32
namespace Go.Proofs.YtkhagfgineifhaaGreatDoor
noncomputable def df (x:It):Except Nat (List Nat):=
 if x.lab.way=8 then
  (if (tX (ae x.bytes) x.lab.size).e=0/\((tX (ae x.bytes) x.lab.size).c+7) / 8=x.bytes.length/\(tX (ae x.bytes) x.lab.size).out.length=x.lab.size then
   (if more 0 (tX (ae x.bytes) x.lab.size).out=x.lab.sum then .ok (tX (ae x.bytes) x.lab.size).out else .error 83)
  else .error 84)
 else if more 0 x.bytes=x.lab.sum then .ok x.bytes else .error 83
noncomputable def io:List It->Except Nat (List (List Nat×List Nat))
 | []=>.ok []
 | x::r=>match df x with
  | .error e=>.error e
  | .ok d=>match io r with
   | .error e=>.error e
   | .ok l=>.ok ((x.lab.name,d)::l)
end Go.Proofs.YtkhagfgineifhaaGreatDoor
