import Derived.Test.YtljlmfnbeofmmaaGreatDoorLnPackM
import Derived.Test.YtljlmfnbeofmmaaGreatDoorLnRead
namespace Go.Proofs.YtljlmfnbeofmmaaGreatDoor
def stepBits (cs : List Nat) (s : Nat × Nat) : List Nat := rowOf cs s.1 ++ bitsOf s.2 (xbits s.1)

theorem stepBits_length (cs : List Nat) (s : Nat × Nat) : (stepBits cs s).length = key cs s.1 + xbits s.1 := by rw [stepBits, List.length_append, rowOf_length, bitsOf_length]

def StepsOk (cs : List Nat) (ss : List (Nat × Nat)) : Prop := ∀ s ∈ ss, s.1 < cs.length ∧ key cs s.1 ≠ 0 ∧ s.2 < 2 ^ xbits s.1

def codeBits (cs : List Nat) : Nat → List Nat
 | 0 => []
 | i + 1 => codeBits cs i ++ bitsOf (cs.getD (ord.getD i 0) 0) 3

theorem codeBits_length (cs : List Nat) (i : Nat) : (codeBits cs i).length = 3 * i := by
 induction i with
 | zero => rfl
 | succ i ih => rw [codeBits, List.length_append, ih, bitsOf_length]; omega

structure HeadOk (lit dist : List Nat) (many : Nat) (cs : List Nat) (ss : List (Nat × Nat)) : Prop where
 l1 : 257 ≤ lit.length
 l2 : lit.length ≤ 286
 d1 : 1 ≤ dist.length
 d2 : dist.length ≤ 30
 m1 : 4 ≤ many
 m2 : many ≤ 19
 c19 : cs.length = 19
 c7 : ∀ x ∈ cs, x ≤ 7
 ok : chkN cs = 0
 rest : ∀ j, many ≤ j → j < 19 → cs.getD (ord.getD j 0) 0 = 0
 st : StepsOk cs ss
 run : runM (lit.length + dist.length) [] (ss.map (fun s => ((s.1 : Int), (s.2 : Int)))) = some (lit ++ dist)

def headBits (nl nd many : Nat) (cs : List Nat) (ss : List (Nat × Nat)) : List Nat :=
 bitsOf (nl - 257) 5 ++ (bitsOf (nd - 1) 5 ++ (bitsOf (many - 4) 4 ++ (codeBits cs many ++ ss.flatMap (stepBits cs))))

end Go.Proofs.YtljlmfnbeofmmaaGreatDoor
