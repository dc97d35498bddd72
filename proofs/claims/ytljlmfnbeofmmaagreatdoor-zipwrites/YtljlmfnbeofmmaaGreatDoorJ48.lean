/-
  Of the proof: parts DfT.
-/
import Derived.Deep.RegionHeld3
import Derived.Lib.SliceRun
import Derived.WalkMore
import Derived.Laws.BytesArg
import Derived.Test.YtljlmfnbeofmmaaGreatDoorJ42
import Derived.Test.YtljlmfnbeofmmaaGreatDoorJ34
import Derived.Test.YtljlmfnbeofmmaaGreatDoorJ32
import Derived.Test.YtljlmfnbeofmmaaGreatDoorJ33
import Derived.Test.YtljlmfnbeofmmaaGreatDoorJ3
import Derived.Test.YtljlmfnbeofmmaaGreatDoorJ12
import Derived.Test.YtljlmfnbeofmmaaGreatDoorJ31
import Derived.Test.YtljlmfnbeofmmaaGreatDoorJ9

namespace Go.Proofs.YtljlmfnbeofmmaaGreatDoor
theorem bits8_inj {x y : Nat} (hx : x < 256) (hy : y < 256) (h : bitsOf x 8 = bitsOf y 8) : x = y := by
 have := congrArg n2 h
 rw [bitsOf_n2, bitsOf_n2, Nat.mod_eq_of_lt (by omega), Nat.mod_eq_of_lt (by omega)] at this
 exact this

theorem ofBytes_inj7 {a b : List Nat} (ha : ∀ x ∈ a, x < 256) (hb : ∀ x ∈ b, x < 256) (h : ofBytes a = ofBytes b) : a = b := by
 induction a generalizing b with
 | nil =>
  have := congrArg List.length h
  rw [ofBytes_length, ofBytes_length] at this
  cases b with
  | nil => rfl
  | cons y r => simp at this
 | cons x r ih =>
  cases b with
  | nil =>
   have := congrArg List.length h
   rw [ofBytes_length, ofBytes_length] at this
   simp at this
  | cons y s =>
   have e : ∀ z (l : List Nat), ofBytes (z :: l) = bitsOf z 8 ++ ofBytes l := fun z l => by simp [ofBytes]
   rw [e, e] at h
   have h2 := List.append_inj h (by rw [bitsOf_length, bitsOf_length])
   rw [bits8_inj (ha x (by simp)) (hb y (by simp)) h2.1, ih (fun z hz => ha z (by simp [hz])) (fun z hz => hb z (by simp [hz])) h2.2]

theorem packs_inj {a b X : List Nat} (ha : Packs a X) (hb : Packs b X) (h1 : ∀ x ∈ a, x < 256) (h2 : ∀ x ∈ b, x < 256) : a = b := by
 obtain ⟨k, hk⟩ := ha.pad
 obtain ⟨j, hj⟩ := hb.pad
 have l1 := congrArg List.length hk
 have l2 := congrArg List.length hj
 rw [ofBytes_length, List.length_append, List.length_replicate] at l1 l2
 have l3 := ha.len
 have l4 := hb.len
 have e : k = j := by omega
 subst e
 exact ofBytes_inj7 h1 h2 (hk.trans hj.symm)

theorem PDef.same {data a b : List Nat} (ha : PDef data a) (hb : PDef data b) : a = b := by
 obtain ⟨x2, x3, rfl, h2, h3⟩ := ha
 obtain ⟨y2, y3, rfl, g2, g3⟩ := hb
 rw [packs_inj h2.1 g2.1 h2.2 g2.2, packs_inj h3.1.1 g3.1.1 h3.1.2 g3.1.2]

end Go.Proofs.YtljlmfnbeofmmaaGreatDoor
