import Derived.Test.YtllcnlnbpikhdaaGreatDoorJ4
import Derived.Test.YtllcnlnbpikhdaaGreatDoorJ32
namespace Go.Proofs.YtllcnlnbpikhdaaGreatDoor
noncomputable def c8 (x:It):Except Nat (List Nat):=
 if x.lab.way=8 then
  (if (oY (ae x.bytes) x.lab.size).e=0/\((oY (ae x.bytes) x.lab.size).c+7) / 8=x.bytes.length/\(oY (ae x.bytes) x.lab.size).out.length=x.lab.size then
   (if more 0 (oY (ae x.bytes) x.lab.size).out=x.lab.sum then .ok (oY (ae x.bytes) x.lab.size).out else .error 83)
  else .error 84)
 else if more 0 x.bytes=x.lab.sum then .ok x.bytes else .error 83
noncomputable def ef:List It->Except Nat (List (List Nat×List Nat))
 | []=>.ok []
 | x::r=>match c8 x with
  | .error e=>.error e
  | .ok d=>match ef r with
   | .error e=>.error e
   | .ok l=>.ok ((x.lab.name,d)::l)
end Go.Proofs.YtllcnlnbpikhdaaGreatDoor
