/-
  Of the proof: parts HRows, HNextM, LnM, InM, LnPackM, LnRef, LnPack, LnPack2, LnSame.
-/
import Derived.Test.YtljlmfnbeofmmaaGreatDoorJ9
import Derived.Test.YtljlmfnbeofmmaaGreatDoorJ7
import Derived.Test.YtljlmfnbeofmmaaGreatDoorJ10
import Derived.Test.YtljlmfnbeofmmaaGreatDoorJ1
import Derived.Test.YtljlmfnbeofmmaaGreatDoorJ3

namespace Go.Proofs.YtljlmfnbeofmmaaGreatDoor
open Go.RowKit

def rowB : Nat → Nat → List Nat
 | 0, _ => []
 | n + 1, c => rowB n (c / 2) ++ [c % 2]

theorem rowB_length (n c : Nat) : (rowB n c).length = n := by
 induction n generalizing c with
 | zero => rfl
 | succ n ih => simp [rowB, ih]

theorem rowB_n2 (n c : Nat) : n2 (rowB n c) = rv n c := by
 induction n generalizing c with
 | zero => rfl
 | succ n ih =>
  simp only [rowB, rv]
  rw [n2_append, ih, rowB_length]
  simp [n2, Nat.mul_comm]
  omega

theorem rowB_bit (n c : Nat) : ∀ b ∈ rowB n c, b < 2 := by
 induction n generalizing c with
 | zero => simp [rowB]
 | succ n ih =>
  intro b hb
  rcases List.mem_append.1 hb with hb | hb
  ·exact ih _ b hb
  ·have : b = c % 2 := by simpa using hb
   omega

end Go.Proofs.YtljlmfnbeofmmaaGreatDoor

namespace Go.Proofs.YtljlmfnbeofmmaaGreatDoor

theorem n2_inj (a b : List Nat) (hl : a.length = b.length) (ha : ∀ x ∈ a, x < 2) (hb : ∀ x ∈ b, x < 2) (h : n2 a = n2 b) : a = b := by
 induction a generalizing b with
 | nil => cases b with
  | nil => rfl
  | cons y r => simp at hl
 | cons x l ih => cases b with
  | nil => simp at hl
  | cons y r =>
   have hx := ha x (by simp)
   have hy := hb y (by simp)
   simp only [n2] at h
   have e1 : x = y := by omega
   have e2 : n2 l = n2 r := by omega
   rw [e1, ih r (by simpa using hl) (fun z hz => ha z (by simp [hz])) (fun z hz => hb z (by simp [hz])) e2]

def rowOf (ns : List Nat) (s : Nat) : List Nat := rowB (key ns s) (codeOf ns s)
theorem rowOf_length (ns : List Nat) (s : Nat) : (rowOf ns s).length = key ns s := rowB_length _ _
theorem rowOf_n2 (ns : List Nat) (s : Nat) : n2 (rowOf ns s) = rv (key ns s) (codeOf ns s) := rowB_n2 _ _
theorem rowOf_bit (ns : List Nat) (s : Nat) : ∀ b ∈ rowOf ns s, b < 2 := rowB_bit _ _

def fitB (ns t : List Nat) (s : Nat) : Bool := key ns s != 0 && (rowOf ns s).isPrefixOf t
def begB (ns t : List Nat) (s : Nat) : Bool := key ns s != 0 && t.isPrefixOf (rowOf ns s)
def nextF (ns t : List Nat) : Nat × Nat × Nat :=
 match (List.range ns.length).find? (fitB ns t) with
 | some s => (s, key ns s, 0)
 | none => if (List.range ns.length).any (begB ns t) = true then (0, 0, 10) else (0, 0, 32)

end Go.Proofs.YtljlmfnbeofmmaaGreatDoor

namespace Go.Proofs.YtljlmfnbeofmmaaGreatDoor

def lastN (l : List Nat) : Nat := l.getD (l.length - 1) 0

def saysM (s : Int × Int) (l : List Nat) : Option (Nat × Nat) :=
 if 0 ≤ s.1 ∧ s.1 ≤ 15 ∧ s.2 = 0 then some (s.1.toNat, 1)
 else if s.1 = 16 ∧ 0 ≤ s.2 ∧ s.2 ≤ 3 ∧ 0 < l.length then some (lastN l, s.2.toNat + 3)
 else if s.1 = 17 ∧ 0 ≤ s.2 ∧ s.2 ≤ 7 then some (0, s.2.toNat + 3)
 else if s.1 = 18 ∧ 0 ≤ s.2 ∧ s.2 ≤ 127 then some (0, s.2.toNat + 11)
 else none

def withM (l : List Nat) (s : Int × Int) (n : Nat) : Option (List Nat) :=
 match saysM s l with
 | none => none
 | some (v, k) => if n < l.length + k then none else some (l ++ List.replicate k v)

def runM (n : Nat) : List Nat → List (Int × Int) → Option (List Nat)
 | l, [] => some l
 | l, s :: r => match withM l s n with
  | none => none
  | some m => runM n m r

def zerosM (n : Nat) : List (Int × Int) :=
 if 11 ≤ n then (18, ((min n 138 - 11 : Nat) : Int)) :: zerosM (n - min n 138)
 else if 3 ≤ n then [(17, ((n - 3 : Nat) : Int))] else List.replicate n (0, 0)
termination_by n
decreasing_by omega

def againM (v n : Nat) : List (Int × Int) :=
 if 3 ≤ n then (16, ((min n 6 - 3 : Nat) : Int)) :: againM v (n - min n 6) else List.replicate n ((v : Int), 0)
termination_by n
decreasing_by omega

def sayM (v n : Nat) : List (Int × Int) := if v = 0 then zerosM n else ((v : Int), 0) :: againM v (n - 1)

def frontN (v : Nat) (l : List Nat) : Nat := (l.takeWhile (fun x => decide (x = v))).length

theorem frontN_le (v : Nat) (l : List Nat) : frontN v l ≤ l.length := by
 exact (List.takeWhile_prefix _).length_le

def packM : List Nat → List (Int × Int)
 | [] => []
 | v :: r => sayM v (1 + frontN v r) ++ packM (r.drop (frontN v r))
termination_by l => l.length
decreasing_by simp; omega

theorem packM_cons (v : Nat) (r : List Nat) : packM (v :: r) = sayM v (1 + frontN v r) ++ packM (r.drop (frontN v r)) := by rw [packM]

def packA (zs : List Int) : Except Nat (List (Int × Int)) :=
 if zs.length ≤ 316 ∧ ∀ z ∈ zs, 0 ≤ z ∧ z ≤ 15 then .ok (packM (zs.map Int.toNat)) else .error 1

def xbits (sym : Nat) : Nat := if sym = 16 then 2 else if sym = 17 then 3 else if sym = 18 then 7 else 0

def numAt (ls : List Nat) (c n : Nat) : Nat := n2 ((ls.drop c).take n)

def stepF (ns ls : List Nat) (c : Nat) : Except Nat ((Nat × Nat) × Nat) :=
 if (nextF ns (ls.drop c)).2.2 ≠ 0 then .error (nextF ns (ls.drop c)).2.2
 else if ls.length < c + (nextF ns (ls.drop c)).2.1 + xbits (nextF ns (ls.drop c)).1 then .error 10
 else .ok (((nextF ns (ls.drop c)).1, numAt ls (c + (nextF ns (ls.drop c)).2.1) (xbits (nextF ns (ls.drop c)).1)), c + (nextF ns (ls.drop c)).2.1 + xbits (nextF ns (ls.drop c)).1)

def bodyF (ns ls : List Nat) (N : Nat) : Nat → List Nat → Nat → Except Nat (List Nat × Nat)
 | 0, l, c => .ok (l, c)
 | f + 1, l, c =>
  if N ≤ l.length then .ok (l, c)
  else match stepF ns ls c with
   | .error e => .error e
   | .ok (s, c') => match withM l ((s.1 : Int), (s.2 : Int)) N with
    | none => .error 41
    | some m => bodyF ns ls N f m c'

def ord : List Nat := [16, 17, 18, 0, 8, 7, 9, 6, 10, 5, 11, 4, 12, 3, 13, 2, 14, 1, 15]

def codesF (ls : List Nat) (c : Nat) : Nat → List Nat
 | 0 => List.replicate 19 0
 | i + 1 => (codesF ls c i).set (ord.getD i 0) (numAt ls (c + 3 * i) 3)

def readF (ls : List Nat) (a : Nat) : Except Nat ((List Nat × List Nat) × Nat) :=
 if ls.length < a + 14 then .error 10
 else if 286 < numAt ls a 5 + 257 ∨ 30 < numAt ls (a + 5) 5 + 1 then .error 40
 else if ls.length < a + 14 + 3 * (numAt ls (a + 10) 4 + 4) then .error 10
 else if chkN (codesF ls (a + 14) (numAt ls (a + 10) 4 + 4)) ≠ 0 then .error (chkN (codesF ls (a + 14) (numAt ls (a + 10) 4 + 4)))
 else match bodyF (codesF ls (a + 14) (numAt ls (a + 10) 4 + 4)) ls (numAt ls a 5 + 257 + (numAt ls (a + 5) 5 + 1)) (numAt ls a 5 + 257 + (numAt ls (a + 5) 5 + 1)) [] (a + 14 + 3 * (numAt ls (a + 10) 4 + 4)) with
  | .error e => .error e
  | .ok (l, c) => .ok ((l.take (numAt ls a 5 + 257), l.drop (numAt ls a 5 + 257)), c - a)

end Go.Proofs.YtljlmfnbeofmmaaGreatDoor

namespace Go.Proofs.YtljlmfnbeofmmaaGreatDoor

structure S5 where
 c : Nat
 out : List Nat
 e : Nat

def tk (ls : List Nat) (s : S5) (n : Nat) : Nat × S5 :=
 if s.e ≠ 0 then (0, s) else if ls.length < s.c + n then (0, { s with e := 55 }) else (numAt ls s.c n, { s with c := s.c + n })

def sy (ns ls : List Nat) (s : S5) (wrong : Nat) : Nat × S5 :=
 if s.e ≠ 0 then (0, s)
 else ((nextF ns (ls.drop s.c)).1, { s with c := s.c + (nextF ns (ls.drop s.c)).2.1, e := if (nextF ns (ls.drop s.c)).2.2 = 10 then 55 else if (nextF ns (ls.drop s.c)).2.2 = 32 then wrong else 0 })

def ly (most : Nat) (s : S5) (b : Nat) : S5 :=
 if s.e ≠ 0 then s else if most ≤ s.out.length then { s with e := 56 } else { s with out := s.out ++ [b] }

def stB (ls : List Nat) (most : Nat) : Nat → S5 → S5
 | 0, s => s
 | k + 1, s => if s.e ≠ 0 then s else stB ls most k (ly most (tk ls s 8).2 (tk ls s 8).1)

def stored5 (ls : List Nat) (most : Nat) (s : S5) : S5 :=
 let s1 : S5 := { s with c := (s.c + 7) / 8 * 8 }
 let s2 := (tk ls s1 16).2
 let s3 := (tk ls s2 16).2
 let s4 : S5 := if s3.e = 0 ∧ (tk ls s1 16).1 + (tk ls s2 16).1 ≠ 65535 then { s3 with e := 51 } else s3
 stB ls most (tk ls s1 16).1 s4

def xlen (s : Nat) : Nat := if s < 265 then 0 else (s - 261) / 4
def lbase (s : Nat) : Nat := 3 + ((List.range (s - 257)).map (fun k => 2 ^ xlen (257 + k))).sum
def xdist (s : Nat) : Nat := if s < 4 then 0 else (s - 2) / 2
def dbase (s : Nat) : Nat := 1 + ((List.range s).map (fun k => 2 ^ xdist k)).sum

def len5 (ls : List Nat) (s : S5) (y : Nat) : Nat × S5 := if y = 285 then (258, s) else (lbase y + (tk ls s (xlen y)).1, (tk ls s (xlen y)).2)
def dist5 (ls : List Nat) (s : S5) (y : Nat) : Nat × S5 := (dbase y + (tk ls s (xdist y)).1, (tk ls s (xdist y)).2)

def cp5 (most far : Nat) : Nat → S5 → S5
 | 0, s => s
 | k + 1, s => if s.e ≠ 0 then s else cp5 most far k (ly most s (s.out.getD (s.out.length - far) 0))

def usedB (l : List Nat) : Bool := l.any (fun n => n != 0)

def copies5 (ls : List Nat) (most : Nat) (dist : List Nat) (s : S5) (y : Nat) : S5 :=
 if 285 < y then { s with e := 53 }
 else
  let n := (len5 ls s y).1
  let s1 := (len5 ls s y).2
  let s2 : S5 := if s1.e = 0 ∧ usedB dist = false then { s1 with e := 53 } else s1
  let d := (sy dist ls s2 53).1
  let s3 := (sy dist ls s2 53).2
  let s4 : S5 := if s3.e = 0 ∧ 29 < d then { s3 with e := 53 } else s3
  if s4.e ≠ 0 then s4
  else
   let far := (dist5 ls s4 d).1
   let s5 := (dist5 ls s4 d).2
   let s6 : S5 := if s5.e = 0 ∧ s5.out.length < far then { s5 with e := 54 } else s5
   cp5 most far n s6

def syms5 (ls : List Nat) (most : Nat) (lit dist : List Nat) : Nat → S5 → S5
 | 0, s => s
 | f + 1, s =>
  if s.e ≠ 0 then s
  else
   let y := (sy lit ls s 53).1
   let s1 := (sy lit ls s 53).2
   if s1.e ≠ 0 then s1
   else if y < 256 then syms5 ls most lit dist f (ly most s1 y)
   else if y = 256 then s1
   else syms5 ls most lit dist f (copies5 ls most dist s1 y)

def fixL : List Nat := List.replicate 144 8 ++ List.replicate 112 9 ++ List.replicate 24 7 ++ List.replicate 8 8
def fixD : List Nat := List.replicate 32 5

def head5 (ls : List Nat) (c : Nat) : Except Nat ((List Nat × List Nat) × Nat) :=
 match readF ls c with
 | .error e => .error (if e = 10 then 55 else 52)
 | .ok ((l, d), n) => if l.getD 256 0 = 0 ∨ chkN l ≠ 0 ∨ (usedB d = true ∧ chkN d ≠ 0) then .error 52 else .ok ((l, d), n)

def blk5 (ls : List Nat) (most : Nat) (s : S5) : Nat × S5 :=
 let last := (tk ls s 1).1
 let s1 := (tk ls s 1).2
 let kind := (tk ls s1 2).1
 let s2 := (tk ls s1 2).2
 if s2.e ≠ 0 then (last, s2)
 else if kind = 0 then (last, stored5 ls most s2)
 else if kind = 1 then (last, syms5 ls most fixL fixD (ls.length + 1) s2)
 else if kind = 2 then
  match head5 ls s2.c with
  | .error e => (last, { s2 with e := e })
  | .ok ((l, d), n) => (last, syms5 ls most l d (ls.length + 1) { s2 with c := s2.c + n })
 else (last, { s2 with e := 50 })

def read5 (ls : List Nat) (most : Nat) : Nat → S5 → S5
 | 0, s => s
 | f + 1, s => if s.e ≠ 0 then s else if (blk5 ls most s).1 = 0 then read5 ls most f (blk5 ls most s).2 else (blk5 ls most s).2

def infl5 (ls : List Nat) (most : Nat) : S5 := read5 ls most (ls.length + 1) ⟨0, [], 0⟩

end Go.Proofs.YtljlmfnbeofmmaaGreatDoor

namespace Go.Proofs.YtljlmfnbeofmmaaGreatDoor

theorem zerosM_big (n : Nat) (h : 11 ≤ n) : zerosM n = (18, ((min n 138 - 11 : Nat) : Int)) :: zerosM (n - min n 138) := by
 rw [zerosM, if_pos h]
theorem zerosM_mid (n : Nat) (h : n < 11) (h3 : 3 ≤ n) : zerosM n = [(17, ((n - 3 : Nat) : Int))] := by
 rw [zerosM, if_neg (by omega), if_pos h3]
theorem zerosM_few (n : Nat) (h3 : n < 3) : zerosM n = List.replicate n (0, 0) := by
 rw [zerosM, if_neg (by omega), if_neg (by omega)]
theorem againM_big (v n : Nat) (h : 3 ≤ n) : againM v n = (16, ((min n 6 - 3 : Nat) : Int)) :: againM v (n - min n 6) := by
 rw [againM, if_pos h]
theorem againM_few (v n : Nat) (h : n < 3) : againM v n = List.replicate n ((v : Int), 0) := by
 rw [againM, if_neg (by omega)]

theorem zerosM_len (n : Nat) : (zerosM n).length ≤ n := by
 induction n using Nat.strongRecOn with
 | ind n ih =>
  by_cases h : 11 ≤ n
  ·rw [zerosM_big n h, List.length_cons]
   have := ih (n - min n 138) (by omega)
   omega
  ·by_cases h3 : 3 ≤ n
   ·rw [zerosM_mid n (by omega) h3]; simp; omega
   ·rw [zerosM_few n (by omega)]; simp

theorem againM_len (v n : Nat) : (againM v n).length ≤ n := by
 induction n using Nat.strongRecOn with
 | ind n ih =>
  by_cases h : 3 ≤ n
  ·rw [againM_big v n h, List.length_cons]
   have := ih (n - min n 6) (by omega)
   omega
  ·rw [againM_few v n (by omega)]; simp

theorem sayM_len (v n : Nat) (h : 1 ≤ n) : (sayM v n).length ≤ n := by
 unfold sayM
 split
 ·exact zerosM_len n
 ·rw [List.length_cons]; have := againM_len v (n - 1); omega

theorem packM_len (l : List Nat) : (packM l).length ≤ l.length := by
 induction hn : l.length using Nat.strongRecOn generalizing l with
 | ind n ih =>
  cases l with
  | nil => simp [packM]
  | cons v r =>
   rw [packM_cons, List.length_append]
   have h1 := sayM_len v (1 + frontN v r) (by omega)
   have h2 := frontN_le v r
   have h3 := ih (r.drop (frontN v r)).length (by simp at hn ⊢; omega) _ rfl
   simp at hn h3
   omega

theorem frontN_is (v : Nat) (r : List Nat) (m : Nat) (h1 : ∀ j (_ : j < r.length), j < m → r[j] = v) (hm : m ≤ r.length) (h2 : ∀ h : m < r.length, r[m] ≠ v) : frontN v r = m := by
 induction r generalizing m with
 | nil => simp at hm; subst hm; rfl
 | cons a r ih =>
  cases m with
  | zero =>
   have := h2 (by simp)
   simp at this
   simp [frontN, this]
  | succ m =>
   have ha := h1 0 (by simp) (by omega)
   simp at ha
   have h3 := ih m (fun j hj hjm => h1 (j + 1) (by simpa using hj) (by omega)) (by simpa using hm) (fun h => h2 (by simpa using h))
   unfold frontN at h3 ⊢
   rw [List.takeWhile_cons, if_pos (by simp [ha]), List.length_cons, h3]

theorem frontN_all (v : Nat) (r : List Nat) (j : Nat) (hj : j < r.length) (h : j < frontN v r) : r[j] = v := by
 induction r generalizing j with
 | nil => simp at hj
 | cons a r ih =>
  unfold frontN at h
  rw [List.takeWhile_cons] at h
  by_cases ha : a = v
  ·cases j with
   | zero => simpa using ha
   | succ j =>
    rw [if_pos (by simp [ha]), List.length_cons] at h
    simpa using ih j (by simpa using hj) (by unfold frontN; omega)
  ·rw [if_neg (by simp [ha])] at h
   simp at h

theorem front_split (v : Nat) (r : List Nat) : v :: r = List.replicate (1 + frontN v r) v ++ r.drop (frontN v r) := by
 have h := frontN_le v r
 rw [Nat.add_comm, List.replicate_succ, List.cons_append]
 congr 1
 have e : r.take (frontN v r) = List.replicate (frontN v r) v := by
  refine List.ext_getElem (by simp; omega) (fun j h1 h2 => ?_)
  simp at h1
  rw [List.getElem_take, List.getElem_replicate, frontN_all v r j (by omega) (by omega)]
 rw [← e, List.take_append_drop]

theorem withM_ok {l : List Nat} {s : Int × Int} {n v k : Nat} (h : saysM s l = some (v, k)) (hf : l.length + k ≤ n) : withM l s n = some (l ++ List.replicate k v) := by
 unfold withM
 rw [h]
 simp only
 rw [if_neg (by omega)]

theorem runM_append (n : Nat) (l : List Nat) (ss tt : List (Int × Int)) : runM n l (ss ++ tt) = (runM n l ss).bind (fun m => runM n m tt) := by
 induction ss generalizing l with
 | nil => rfl
 | cons a r ih =>
  simp only [List.cons_append, runM]
  cases withM l a n with
  | none => rfl
  | some m => exact ih m

theorem runM_one (n : Nat) (l : List Nat) (s : Int × Int) : runM n l [s] = withM l s n := by
 simp only [runM]
 cases withM l s n <;> rfl

theorem says_plain (v : Nat) (l : List Nat) (h : v ≤ 15) : saysM ((v : Int), 0) l = some (v, 1) := by
 unfold saysM
 rw [if_pos ⟨by omega, by simp only; omega, rfl⟩]
 simp

theorem runM_plain (n v k : Nat) (l : List Nat) (h : v ≤ 15) (hf : l.length + k ≤ n) : runM n l (List.replicate k ((v : Int), 0)) = some (l ++ List.replicate k v) := by
 induction k generalizing l with
 | zero => simp [runM]
 | succ k ih =>
  rw [List.replicate_succ, runM, withM_ok (says_plain v l h) (by omega)]
  simp only
  rw [ih _ (by simp; omega), List.append_assoc, List.replicate_append_replicate, Nat.add_comm]

theorem runM_zeros (n m : Nat) (l : List Nat) (hf : l.length + m ≤ n) : runM n l (zerosM m) = some (l ++ List.replicate m 0) := by
 induction m using Nat.strongRecOn generalizing l with
 | ind m ih =>
  by_cases h : 11 ≤ m
  ·rw [zerosM_big m h, runM]
   have hs : saysM (18, ((min m 138 - 11 : Nat) : Int)) l = some (0, min m 138) := by
    unfold saysM
    rw [if_neg (by simp), if_neg (by simp), if_neg (by simp), if_pos ⟨rfl, by omega, by omega⟩]
    simp; omega
   rw [withM_ok hs (by omega)]
   simp only
   rw [ih (m - min m 138) (by omega) _ (by simp; omega), List.append_assoc, List.replicate_append_replicate, show min m 138 + (m - min m 138) = m by omega]
  ·by_cases h3 : 3 ≤ m
   ·rw [zerosM_mid m (by omega) h3, runM_one]
    have hs : saysM (17, ((m - 3 : Nat) : Int)) l = some (0, m) := by
     unfold saysM
     rw [if_neg (by simp), if_neg (by simp), if_pos ⟨rfl, by omega, by omega⟩]
     simp; omega
    exact withM_ok hs hf
   ·rw [zerosM_few m (by omega)]
    exact runM_plain n 0 m l (by omega) hf

theorem runM_again (n v m : Nat) (l : List Nat) (h15 : v ≤ 15) (hl : 0 < l.length) (hv : lastN l = v) (hf : l.length + m ≤ n) : runM n l (againM v m) = some (l ++ List.replicate m v) := by
 induction m using Nat.strongRecOn generalizing l with
 | ind m ih =>
  by_cases h : 3 ≤ m
  ·rw [againM_big v m h, runM]
   have hs : saysM (16, ((min m 6 - 3 : Nat) : Int)) l = some (v, min m 6) := by
    unfold saysM
    rw [if_neg (by simp), if_pos ⟨rfl, by omega, by omega, hl⟩, hv]
    simp; omega
   rw [withM_ok hs (by omega)]
   simp only
   have hlast : lastN (l ++ List.replicate (min m 6) v) = v := by
    have hk : 0 < min m 6 := by omega
    generalize min m 6 = k at hk ⊢
    obtain ⟨k, rfl⟩ : ∃ j, k = j + 1 := ⟨k - 1, by omega⟩
    unfold lastN
    rw [List.replicate_succ', ← List.append_assoc]
    simp
   rw [ih (m - min m 6) (by omega) _ (by simp; omega) hlast (by simp; omega), List.append_assoc, List.replicate_append_replicate, show min m 6 + (m - min m 6) = m by omega]
  ·rw [againM_few v m (by omega)]
   exact runM_plain n v m l h15 hf

theorem runM_say (n v m : Nat) (l : List Nat) (h15 : v ≤ 15) (hm : 1 ≤ m) (hf : l.length + m ≤ n) : runM n l (sayM v m) = some (l ++ List.replicate m v) := by
 unfold sayM
 split
 ·rename_i h0
  subst h0
  exact runM_zeros n m l hf
 ·rw [runM, withM_ok (says_plain v l h15) (by omega)]
  simp only
  have hlast : lastN (l ++ List.replicate 1 v) = v := by simp [lastN]
  rw [runM_again n v (m - 1) _ h15 (by simp) hlast (by simp; omega), List.append_assoc, List.replicate_append_replicate, show 1 + (m - 1) = m by omega]

theorem runM_pack (n : Nat) (r : List Nat) (l : List Nat) (h15 : ∀ x ∈ r, x ≤ 15) (hf : l.length + r.length ≤ n) : runM n l (packM r) = some (l ++ r) := by
 induction hn : r.length using Nat.strongRecOn generalizing r l with
 | ind k ih =>
  cases r with
  | nil => simp [packM, runM]
  | cons v r =>
   have hfr := frontN_le v r
   rw [packM_cons, runM_append, runM_say n v _ l (h15 v (by simp)) (by omega) (by simp at hf; omega)]
   simp only [Option.bind_some]
   rw [ih (r.drop (frontN v r)).length (by simp at hn ⊢; omega) _ _ (fun x hx => h15 x (List.mem_cons_of_mem _ (List.mem_of_mem_drop hx))) (by simp at hf ⊢; omega) rfl, List.append_assoc, ← front_split]

end Go.Proofs.YtljlmfnbeofmmaaGreatDoor

namespace Go.Proofs.YtljlmfnbeofmmaaGreatDoor
open Go.RowKit

def stC (s : Int × Int) : List Value := [.int .i64 s.1, .int .i64 s.2]

theorem stC_ok : EncOk stC 2 := ⟨fun _ => rfl, fun x u hu => by simp [stC] at hu; rcases hu with rfl | rfl <;> rfl, by decide⟩

abbrev StRow (B : Nat) := RowC B 220 2 stC
abbrev StSrc := @SrcC (Int × Int) 2 stC

theorem Tryz.infoSt : (Tryz.prog.info? 220).map (fun i => (i.zero, i.size, i.bytes)) = some (some (.agg #[.int .i64 0, .int .i64 0]), 2, 16) := by kernel_rfl

theorem step_new (w : World) (x y : Int) : CellsAt (w.alloc (.cells #[.int .i64 x, .int .i64 y] 220)) ⟨w.heap.size, 0, none⟩ ([(x, y)].flatMap stC) := by
 intro j u hu
 match j, hu with
 | 0, hu => simp [stC] at hu; subst hu; simp [addAt]
 | 1, hu => simp [stC] at hu; subst hu; simp [addAt]
 | j + 2, hu => simp [stC] at hu

theorem wpList_append_step {ops : Array Oper} {rest : List Oper} {o : Oper} {a : Act} {Q : Exit → Act → World → Prop} (w : World) (B : Nat) (hgd : o.guard = none) (s x : Operand)
  (ho : o.op = .call { callee := .builtin .append, args := #[s, x], argTypes := #[172, 172] })
  (v : Value) (ss : List (Int × Int)) (hs : a.eval s = v) (hrow : StRow B w v ss) (ad : Addr) (y : Int × Int) (hx : a.eval x = .slice (some ad) 1 1) (hcs : CellsAt w ad ([y].flatMap stC)) (hlen : ss.length + 1 ≤ 1000000000) (hB : B ≤ w.heap.size)
  (h : ∀ v' w', StRow B w' v' (ss ++ [y]) → w.grownBy w' v.ownBlock → wpList Tryz.prog ops Q rest (a.put o.dst v') w') : wpList Tryz.prog ops Q (o :: rest) a w :=
 wpList_append_c w stC 2 stC_ok (by decide) B 172 220 (.agg #[.int .i64 0, .int .i64 0]) 16 Tryz.underlying172 Tryz.infoSt rfl (by decide) hgd s x ho v ss hs hrow ad 1 1 [y] hx rfl hcs hlen hB h

abbrev Over (B : Nat) (k : Nat) : Prop := B ≤ k

def lensOk (zs : List Int) : Bool := !(zs.any (badI 0 15))

theorem lensOk_iff (zs : List Int) : lensOk zs = true ↔ ∀ z ∈ zs, 0 ≤ z ∧ z ≤ 15 := by
 simp only [lensOk, Bool.not_eq_true', List.any_eq_false, badI]
 constructor
 ·intro h z hz; have := h z hz; simp at this; omega
 ·intro h z hz; have := h z hz; simp; omega

end Go.Proofs.YtljlmfnbeofmmaaGreatDoor

namespace Go.Proofs.YtljlmfnbeofmmaaGreatDoor
open Go.RowKit

theorem packM_next (ns : List Nat) (i n : Nat) (hi : i < ns.length) (hn : n = 1 + frontN ns[i] (ns.drop (i + 1))) : packM (ns.drop i) = sayM ns[i] n ++ packM (ns.drop (i + n)) := by
 rw [List.drop_eq_getElem_cons hi, packM_cons, List.drop_drop, hn]
 congr 3
 omega

end Go.Proofs.YtljlmfnbeofmmaaGreatDoor

namespace Go.Proofs.YtljlmfnbeofmmaaGreatDoor
open Go.RowKit

def PackA (w w' : World) (e : Ending) : Except Nat (List (Int × Int)) → Prop
 | .error c => e = .returned (.tuple #[.slice none 0 0, .int .i64 (c : Nat)]) ∧ Same w w'
 | .ok ss => ∃ v', e = .returned (.tuple #[v', .int .i64 0]) ∧ StRow w.heap.size w' v' ss ∧ Same w w'

theorem packA_good {zs : List Int} (h1 : zs.length ≤ 316) (h2 : lensOk zs = true) : packA zs = .ok (packM (zs.map Int.toNat)) := by
 unfold packA
 rw [if_pos ⟨h1, (lensOk_iff zs).1 h2⟩]

theorem packA_bad {zs : List Int} (h : 316 < zs.length ∨ lensOk zs = false) : packA zs = .error 1 := by
 unfold packA
 rw [if_neg]
 rintro ⟨h1, h2⟩
 rcases h with h | h
 ·omega
 ·rw [(lensOk_iff zs).2 h2] at h; cases h

def mayM (a b : List Int) : Bool := decide (257 ≤ a.length) && decide (a.length ≤ 286) && decide (1 ≤ b.length) && decide (b.length ≤ 30) && lensOk a && lensOk b

end Go.Proofs.YtljlmfnbeofmmaaGreatDoor

namespace Go.Proofs.YtljlmfnbeofmmaaGreatDoor
open Go.RowKit

theorem StSrc.get {w : World} {I : Nat → Prop} {ao : Option Addr} {n cap : Nat} {ss : List (Int × Int)} (h : StSrc w I (.slice ao n cap) ss) (i : Nat) (hi : i < ss.length) : ∃ b o, ao = some ⟨b, o, none⟩ ∧ I b ∧ w.cell? ⟨b, o + i * 2, none⟩ = some (.int .i64 ss[i].1) ∧ w.cell? ⟨b, o + i * 2 + 1, none⟩ = some (.int .i64 ss[i].2) := by
 obtain ⟨ao', cap', e1, _, e2⟩ := h
 injection e1 with e3 _ _
 subst e3
 obtain ⟨b, o, e4, hI, e5⟩ := e2 (by intro e; rw [e] at hi; simp at hi)
 exact ⟨b, o, e4, hI, e5 i hi 0 (by decide), e5 i hi 1 (by decide)⟩

end Go.Proofs.YtljlmfnbeofmmaaGreatDoor
