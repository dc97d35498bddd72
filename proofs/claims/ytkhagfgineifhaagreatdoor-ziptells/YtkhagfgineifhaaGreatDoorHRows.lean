import Derived.Test.YtkhagfgineifhaaGreatDoorHArgs
import Derived.Test.YtkhagfgineifhaaGreatDoorHChk
import Derived.Test.YtkhagfgineifhaaGreatDoorHDecM
namespace Go.Proofs.YtkhagfgineifhaaGreatDoor
open Go.RowKit
def xt:Nat->Nat->List Nat
 | 0,_=>[]
 | n+1,c=>xt n (c / 2)++[c % 2]
theorem oS(n c:Nat):(xt n c).length=n:=by
 induction n generalizing c with
 | zero=>rfl
 | succ n ih=>simp[xt,ih]
theorem J0(n c:Nat):n2 (xt n c)=rv n c:=by
 induction n generalizing c with
 | zero=>rfl
 | succ n ih=>
  simp only[xt,rv];rw[dw,ih,oS];simp[n2,Nat.mul_comm];omega
theorem Gy(n c:Nat):∀b∈xt n c,b<2:=by
 induction n generalizing c with
 | zero=>simp[xt]
 | succ n ih=>
  intro b hb;rcases List.mem_append.1 hb with hb | hb
  ·exact ih _ b hb
  ·have:b=c % 2:=(by simpa using hb);omega
end Go.Proofs.YtkhagfgineifhaaGreatDoor
