import Derived.Test.YtljlmfnbeofmmaaGreatDoorJ4
import Derived.Test.YtljlmfnbeofmmaaGreatDoorJ11
namespace Go.Proofs.YtljlmfnbeofmmaaGreatDoor
def dV(x:It):Except Nat (List Nat):=
 if x.lab.way=8 then
  (if (iO (ae x.bytes) x.lab.size).e=0/\((iO (ae x.bytes) x.lab.size).c+7) / 8=x.bytes.length/\(iO (ae x.bytes) x.lab.size).out.length=x.lab.size then
   (if more 0 (iO (ae x.bytes) x.lab.size).out=x.lab.sum then .ok (iO (ae x.bytes) x.lab.size).out else .error 83)
  else .error 84)
 else if more 0 x.bytes=x.lab.sum then .ok x.bytes else .error 83
def iW:List It->Except Nat (List (List Nat×List Nat))
 | []=>.ok []
 | x::r=>match dV x with
  | .error e=>.error e
  | .ok d=>match iW r with
   | .error e=>.error e
   | .ok l=>.ok ((x.lab.name,d)::l)
end Go.Proofs.YtljlmfnbeofmmaaGreatDoor
