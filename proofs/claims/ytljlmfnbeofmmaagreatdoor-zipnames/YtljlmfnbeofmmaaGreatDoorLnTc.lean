import Derived.Test.YtljlmfnbeofmmaaGreatDoorLnShape
import Derived.Test.YtljlmfnbeofmmaaGreatDoorLnRep
import Derived.Test.YtljlmfnbeofmmaaGreatDoorHDecM
import Derived.Test.YtljlmfnbeofmmaaGreatDoorReader
import Derived.Deep.RegionLaw
import Derived.Test.YtljlmfnbeofmmaaGreatDoorBlk
namespace Go.Proofs.YtljlmfnbeofmmaaGreatDoor
open Go.RowKit

def Tab (w : World) : Prop := ∀ i, i < 19 → w.cell? ⟨0, i, none⟩ = some (.int .i64 ((ord.getD i 0 : Nat) : Int))

theorem Tab.kept {F : Nat → Prop} {w w' : World} (h : Tab w) (hk : Kept F w w') (hF : ¬ F 0) : Tab w' := fun i hi => hk.cell (h i hi) hF

theorem chk_good (l : List Nat) (hl : l.length = 19) (h7 : ∀ x ∈ l, x ≤ 7) (h : chkN l = 0) : Good (l.map (fun (n : Nat) => (n : Int))) l := by
 have hg := good_of (zs := l.map (fun (n : Nat) => (n : Int))) (by rw [chk_codes l hl h7]; exact h)
 have e : (l.map (fun (n : Nat) => (n : Int))).map Int.toNat = l := by
  rw [List.map_map]
  conv => rhs; rw [← List.map_id l]
  exact List.map_congr_left (fun x _ => by simp)
 rw [e] at hg
 exact hg

end Go.Proofs.YtljlmfnbeofmmaaGreatDoor
