import Derived.Test.YtljlmfnbeofmmaaGreatDoorHNextM
namespace Go.Proofs.YtljlmfnbeofmmaaGreatDoor

def lastN (l : List Nat) : Nat := l.getD (l.length - 1) 0

def saysM (s : Int × Int) (l : List Nat) : Option (Nat × Nat) :=
 if 0 ≤ s.1 ∧ s.1 ≤ 15 ∧ s.2 = 0 then some (s.1.toNat, 1)
 else if s.1 = 16 ∧ 0 ≤ s.2 ∧ s.2 ≤ 3 ∧ 0 < l.length then some (lastN l, s.2.toNat + 3)
 else if s.1 = 17 ∧ 0 ≤ s.2 ∧ s.2 ≤ 7 then some (0, s.2.toNat + 3)
 else if s.1 = 18 ∧ 0 ≤ s.2 ∧ s.2 ≤ 127 then some (0, s.2.toNat + 11)
 else none

def withM (l : List Nat) (s : Int × Int) (n : Nat) : Option (List Nat) :=
 match saysM s l with
 | none => none
 | some (v, k) => if n < l.length + k then none else some (l ++ List.replicate k v)

def runM (n : Nat) : List Nat → List (Int × Int) → Option (List Nat)
 | l, [] => some l
 | l, s :: r => match withM l s n with
  | none => none
  | some m => runM n m r

def zerosM (n : Nat) : List (Int × Int) :=
 if 11 ≤ n then (18, ((min n 138 - 11 : Nat) : Int)) :: zerosM (n - min n 138)
 else if 3 ≤ n then [(17, ((n - 3 : Nat) : Int))] else List.replicate n (0, 0)
termination_by n
decreasing_by omega

def againM (v n : Nat) : List (Int × Int) :=
 if 3 ≤ n then (16, ((min n 6 - 3 : Nat) : Int)) :: againM v (n - min n 6) else List.replicate n ((v : Int), 0)
termination_by n
decreasing_by omega

def sayM (v n : Nat) : List (Int × Int) := if v = 0 then zerosM n else ((v : Int), 0) :: againM v (n - 1)

def frontN (v : Nat) (l : List Nat) : Nat := (l.takeWhile (fun x => decide (x = v))).length

theorem frontN_le (v : Nat) (l : List Nat) : frontN v l ≤ l.length := by
 exact (List.takeWhile_prefix _).length_le

def packM : List Nat → List (Int × Int)
 | [] => []
 | v :: r => sayM v (1 + frontN v r) ++ packM (r.drop (frontN v r))
termination_by l => l.length
decreasing_by simp; omega

theorem packM_cons (v : Nat) (r : List Nat) : packM (v :: r) = sayM v (1 + frontN v r) ++ packM (r.drop (frontN v r)) := by rw [packM]

def packA (zs : List Int) : Except Nat (List (Int × Int)) :=
 if zs.length ≤ 316 ∧ ∀ z ∈ zs, 0 ≤ z ∧ z ≤ 15 then .ok (packM (zs.map Int.toNat)) else .error 1

def xbits (sym : Nat) : Nat := if sym = 16 then 2 else if sym = 17 then 3 else if sym = 18 then 7 else 0

def numAt (ls : List Nat) (c n : Nat) : Nat := n2 ((ls.drop c).take n)

def stepF (ns ls : List Nat) (c : Nat) : Except Nat ((Nat × Nat) × Nat) :=
 if (nextF ns (ls.drop c)).2.2 ≠ 0 then .error (nextF ns (ls.drop c)).2.2
 else if ls.length < c + (nextF ns (ls.drop c)).2.1 + xbits (nextF ns (ls.drop c)).1 then .error 10
 else .ok (((nextF ns (ls.drop c)).1, numAt ls (c + (nextF ns (ls.drop c)).2.1) (xbits (nextF ns (ls.drop c)).1)), c + (nextF ns (ls.drop c)).2.1 + xbits (nextF ns (ls.drop c)).1)

def bodyF (ns ls : List Nat) (N : Nat) : Nat → List Nat → Nat → Except Nat (List Nat × Nat)
 | 0, l, c => .ok (l, c)
 | f + 1, l, c =>
  if N ≤ l.length then .ok (l, c)
  else match stepF ns ls c with
   | .error e => .error e
   | .ok (s, c') => match withM l ((s.1 : Int), (s.2 : Int)) N with
    | none => .error 41
    | some m => bodyF ns ls N f m c'

def ord : List Nat := [16, 17, 18, 0, 8, 7, 9, 6, 10, 5, 11, 4, 12, 3, 13, 2, 14, 1, 15]

def codesF (ls : List Nat) (c : Nat) : Nat → List Nat
 | 0 => List.replicate 19 0
 | i + 1 => (codesF ls c i).set (ord.getD i 0) (numAt ls (c + 3 * i) 3)

def readF (ls : List Nat) (a : Nat) : Except Nat ((List Nat × List Nat) × Nat) :=
 if ls.length < a + 14 then .error 10
 else if 286 < numAt ls a 5 + 257 ∨ 30 < numAt ls (a + 5) 5 + 1 then .error 40
 else if ls.length < a + 14 + 3 * (numAt ls (a + 10) 4 + 4) then .error 10
 else if chkN (codesF ls (a + 14) (numAt ls (a + 10) 4 + 4)) ≠ 0 then .error (chkN (codesF ls (a + 14) (numAt ls (a + 10) 4 + 4)))
 else match bodyF (codesF ls (a + 14) (numAt ls (a + 10) 4 + 4)) ls (numAt ls a 5 + 257 + (numAt ls (a + 5) 5 + 1)) (numAt ls a 5 + 257 + (numAt ls (a + 5) 5 + 1)) [] (a + 14 + 3 * (numAt ls (a + 10) 4 + 4)) with
  | .error e => .error e
  | .ok (l, c) => .ok ((l.take (numAt ls a 5 + 257), l.drop (numAt ls a 5 + 257)), c - a)

end Go.Proofs.YtljlmfnbeofmmaaGreatDoor
