import Derived.Test.YtkhagfgineifhaaGreatDoorLnM
namespace Go.Proofs.YtkhagfgineifhaaGreatDoor
structure S5 where
 c:Nat
 out:List Nat
 e:Nat
def bR(l:List Nat):Bool:=l.any (λn=>n != 0)
def fixL:List Nat:=List.replicate 144 8++List.replicate 112 9++List.replicate 24 7++List.replicate 8 8
def fixD:List Nat:=List.replicate 32 5
def ep(ls:List Nat)(c:Nat):Except Nat ((List Nat×List Nat)×Nat):=
 match b8 ls c with
 | .error e=>.error (if e=10 then 55 else 52)
 | .ok ((l,d),n)=>if l.getD 256 0=0\/bw l≠0\/(bR d=true/\bw d≠0)then .error 52 else .ok ((l,d),n)
end Go.Proofs.YtkhagfgineifhaaGreatDoor
