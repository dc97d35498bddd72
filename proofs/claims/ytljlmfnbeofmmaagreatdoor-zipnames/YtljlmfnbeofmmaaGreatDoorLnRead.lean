import Derived.Test.YtljlmfnbeofmmaaGreatDoorLnRef
import Derived.Test.YtljlmfnbeofmmaaGreatDoorRowX
import Derived.Test.YtljlmfnbeofmmaaGreatDoorBlk
import Derived.Test.YtljlmfnbeofmmaaGreatDoorHNextM
import Derived.Test.YtljlmfnbeofmmaaGreatDoorBits
import Derived.Test.YtljlmfnbeofmmaaGreatDoorReader
import Derived.Deep.RegionLaw
import Derived.Test.YtljlmfnbeofmmaaGreatDoorHRows
namespace Go.Proofs.YtljlmfnbeofmmaaGreatDoor
open Go.RowKit
theorem chk_codes (l : List Nat) (hl : l.length = 19) (h7 : ∀ x ∈ l, x ≤ 7) : chk (l.map (fun (n : Nat) => (n : Int))) = chkN l := by
 have hok : okAll (l.map (fun (n : Nat) => (n : Int))) 0 15 = true := by
  simp only [okAll, List.length_map, Bool.and_eq_true, decide_eq_true_eq, Bool.not_eq_true', List.any_eq_false]
  refine ⟨⟨by omega, by omega⟩, fun z hz => ?_⟩
  obtain ⟨n, hn, rfl⟩ := List.mem_map.1 hz
  have := h7 n hn
  simp [badI]; omega
 unfold chk
 rw [if_pos hok, List.map_map]
 have e : l.map (Int.toNat ∘ fun (n : Nat) => (n : Int)) = l := by
  conv => rhs; rw [← List.map_id l]
  exact List.map_congr_left (fun n _ => by simp)
 rw [e]

theorem ord_le : ∀ i, i < 19 → ord.getD i 0 ≤ 18 := by decide

end Go.Proofs.YtljlmfnbeofmmaaGreatDoor
