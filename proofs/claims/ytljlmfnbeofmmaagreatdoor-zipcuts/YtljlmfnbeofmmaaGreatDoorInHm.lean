import Derived.Test.YtljlmfnbeofmmaaGreatDoorInM
import Derived.Test.YtljlmfnbeofmmaaGreatDoorBlk
import Derived.Test.YtljlmfnbeofmmaaGreatDoorHNextM
import Derived.Test.YtljlmfnbeofmmaaGreatDoorBits
import Derived.Test.YtljlmfnbeofmmaaGreatDoorReader
import Derived.Test.YtljlmfnbeofmmaaGreatDoorHArgs
import Derived.Test.YtljlmfnbeofmmaaGreatDoorHChk
import Derived.Test.YtljlmfnbeofmmaaGreatDoorLnRef
import Derived.Test.YtljlmfnbeofmmaaGreatDoorRowX
import Derived.Deep.RegionLaw
import Derived.Test.YtljlmfnbeofmmaaGreatDoorLnRead
namespace Go.Proofs.YtljlmfnbeofmmaaGreatDoor
open Go.RowKit
theorem chk_nats (l : List Nat) (h0 : 0 < l.length) (hl : l.length ≤ 288) (h15 : ∀ x ∈ l, x ≤ 15) : chk (l.map (fun (n : Nat) => (n : Int))) = chkN l := by
 have hok : okAll (l.map (fun (n : Nat) => (n : Int))) 0 15 = true := by
  simp only [okAll, List.length_map, Bool.and_eq_true, decide_eq_true_eq, Bool.not_eq_true', List.any_eq_false]
  refine ⟨⟨by omega, by omega⟩, fun z hz => ?_⟩
  obtain ⟨n, hn, rfl⟩ := List.mem_map.1 hz
  have := h15 n hn
  simp [badI]; omega
 unfold chk
 rw [if_pos hok, List.map_map]
 have e : l.map (Int.toNat ∘ fun (n : Nat) => (n : Int)) = l := by
  conv => rhs; rw [← List.map_id l]
  exact List.map_congr_left (fun n _ => by simp)
 rw [e]

theorem unused_measure {l : List Nat} (h : usedB l = false) : measure l = 0 := by
 induction l with
 | nil => rfl
 | cons a l ih =>
  unfold usedB at h ih
  simp only [List.any_cons, Bool.or_eq_false_iff] at h
  have ha : a = 0 := by have := h.1; simpa using this
  subst ha
  show (unit 0 + (l.map unit).sum) = 0
  have := ih h.2
  unfold measure at this
  rw [this]
  rfl

end Go.Proofs.YtljlmfnbeofmmaaGreatDoor
