import Derived.Test.YtljlmfnbeofmmaaGreatDoorLnM
namespace Go.Proofs.YtljlmfnbeofmmaaGreatDoor

structure S5 where
 c : Nat
 out : List Nat
 e : Nat

def tk (ls : List Nat) (s : S5) (n : Nat) : Nat × S5 :=
 if s.e ≠ 0 then (0, s) else if ls.length < s.c + n then (0, { s with e := 55 }) else (numAt ls s.c n, { s with c := s.c + n })

def sy (ns ls : List Nat) (s : S5) (wrong : Nat) : Nat × S5 :=
 if s.e ≠ 0 then (0, s)
 else ((nextF ns (ls.drop s.c)).1, { s with c := s.c + (nextF ns (ls.drop s.c)).2.1, e := if (nextF ns (ls.drop s.c)).2.2 = 10 then 55 else if (nextF ns (ls.drop s.c)).2.2 = 32 then wrong else 0 })

def ly (most : Nat) (s : S5) (b : Nat) : S5 :=
 if s.e ≠ 0 then s else if most ≤ s.out.length then { s with e := 56 } else { s with out := s.out ++ [b] }

def stB (ls : List Nat) (most : Nat) : Nat → S5 → S5
 | 0, s => s
 | k + 1, s => if s.e ≠ 0 then s else stB ls most k (ly most (tk ls s 8).2 (tk ls s 8).1)

def stored5 (ls : List Nat) (most : Nat) (s : S5) : S5 :=
 let s1 : S5 := { s with c := (s.c + 7) / 8 * 8 }
 let s2 := (tk ls s1 16).2
 let s3 := (tk ls s2 16).2
 let s4 : S5 := if s3.e = 0 ∧ (tk ls s1 16).1 + (tk ls s2 16).1 ≠ 65535 then { s3 with e := 51 } else s3
 stB ls most (tk ls s1 16).1 s4

def xlen (s : Nat) : Nat := if s < 265 then 0 else (s - 261) / 4
def lbase (s : Nat) : Nat := 3 + ((List.range (s - 257)).map (fun k => 2 ^ xlen (257 + k))).sum
def xdist (s : Nat) : Nat := if s < 4 then 0 else (s - 2) / 2
def dbase (s : Nat) : Nat := 1 + ((List.range s).map (fun k => 2 ^ xdist k)).sum

def len5 (ls : List Nat) (s : S5) (y : Nat) : Nat × S5 := if y = 285 then (258, s) else (lbase y + (tk ls s (xlen y)).1, (tk ls s (xlen y)).2)
def dist5 (ls : List Nat) (s : S5) (y : Nat) : Nat × S5 := (dbase y + (tk ls s (xdist y)).1, (tk ls s (xdist y)).2)

def cp5 (most far : Nat) : Nat → S5 → S5
 | 0, s => s
 | k + 1, s => if s.e ≠ 0 then s else cp5 most far k (ly most s (s.out.getD (s.out.length - far) 0))

def usedB (l : List Nat) : Bool := l.any (fun n => n != 0)

def copies5 (ls : List Nat) (most : Nat) (dist : List Nat) (s : S5) (y : Nat) : S5 :=
 if 285 < y then { s with e := 53 }
 else
  let n := (len5 ls s y).1
  let s1 := (len5 ls s y).2
  let s2 : S5 := if s1.e = 0 ∧ usedB dist = false then { s1 with e := 53 } else s1
  let d := (sy dist ls s2 53).1
  let s3 := (sy dist ls s2 53).2
  let s4 : S5 := if s3.e = 0 ∧ 29 < d then { s3 with e := 53 } else s3
  if s4.e ≠ 0 then s4
  else
   let far := (dist5 ls s4 d).1
   let s5 := (dist5 ls s4 d).2
   let s6 : S5 := if s5.e = 0 ∧ s5.out.length < far then { s5 with e := 54 } else s5
   cp5 most far n s6

def syms5 (ls : List Nat) (most : Nat) (lit dist : List Nat) : Nat → S5 → S5
 | 0, s => s
 | f + 1, s =>
  if s.e ≠ 0 then s
  else
   let y := (sy lit ls s 53).1
   let s1 := (sy lit ls s 53).2
   if s1.e ≠ 0 then s1
   else if y < 256 then syms5 ls most lit dist f (ly most s1 y)
   else if y = 256 then s1
   else syms5 ls most lit dist f (copies5 ls most dist s1 y)

def fixL : List Nat := List.replicate 144 8 ++ List.replicate 112 9 ++ List.replicate 24 7 ++ List.replicate 8 8
def fixD : List Nat := List.replicate 32 5

def head5 (ls : List Nat) (c : Nat) : Except Nat ((List Nat × List Nat) × Nat) :=
 match readF ls c with
 | .error e => .error (if e = 10 then 55 else 52)
 | .ok ((l, d), n) => if l.getD 256 0 = 0 ∨ chkN l ≠ 0 ∨ (usedB d = true ∧ chkN d ≠ 0) then .error 52 else .ok ((l, d), n)

def blk5 (ls : List Nat) (most : Nat) (s : S5) : Nat × S5 :=
 let last := (tk ls s 1).1
 let s1 := (tk ls s 1).2
 let kind := (tk ls s1 2).1
 let s2 := (tk ls s1 2).2
 if s2.e ≠ 0 then (last, s2)
 else if kind = 0 then (last, stored5 ls most s2)
 else if kind = 1 then (last, syms5 ls most fixL fixD (ls.length + 1) s2)
 else if kind = 2 then
  match head5 ls s2.c with
  | .error e => (last, { s2 with e := e })
  | .ok ((l, d), n) => (last, syms5 ls most l d (ls.length + 1) { s2 with c := s2.c + n })
 else (last, { s2 with e := 50 })

def read5 (ls : List Nat) (most : Nat) : Nat → S5 → S5
 | 0, s => s
 | f + 1, s => if s.e ≠ 0 then s else if (blk5 ls most s).1 = 0 then read5 ls most f (blk5 ls most s).2 else (blk5 ls most s).2

def infl5 (ls : List Nat) (most : Nat) : S5 := read5 ls most (ls.length + 1) ⟨0, [], 0⟩

end Go.Proofs.YtljlmfnbeofmmaaGreatDoor
