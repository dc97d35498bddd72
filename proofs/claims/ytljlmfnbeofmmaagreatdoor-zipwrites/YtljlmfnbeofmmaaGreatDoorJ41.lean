/-
  Of the proof: parts ZpU.
-/
import Derived.Test.YtljlmfnbeofmmaaGreatDoorJ4
import Derived.Test.YtljlmfnbeofmmaaGreatDoorJ11

namespace Go.Proofs.YtljlmfnbeofmmaaGreatDoor

def unp8 (x : It) : Except Nat (List Nat) :=
 if x.lab.way = 8 then
  (if (infl5 (ofBytes x.bytes) x.lab.size).e = 0 ∧ ((infl5 (ofBytes x.bytes) x.lab.size).c + 7) / 8 = x.bytes.length ∧ (infl5 (ofBytes x.bytes) x.lab.size).out.length = x.lab.size then
   (if more 0 (infl5 (ofBytes x.bytes) x.lab.size).out = x.lab.sum then .ok (infl5 (ofBytes x.bytes) x.lab.size).out else .error 83)
  else .error 84)
 else if more 0 x.bytes = x.lab.sum then .ok x.bytes else .error 83

def all8 : List It → Except Nat (List (List Nat × List Nat))
 | [] => .ok []
 | x :: r => match unp8 x with
  | .error e => .error e
  | .ok d => match all8 r with
   | .error e => .error e
   | .ok l => .ok ((x.lab.name, d) :: l)

end Go.Proofs.YtljlmfnbeofmmaaGreatDoor
