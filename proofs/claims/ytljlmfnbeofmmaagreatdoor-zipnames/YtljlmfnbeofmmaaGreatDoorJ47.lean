/-
  Of the proof: parts ZrNamLaw.
-/
import Derived.Test.YtljlmfnbeofmmaaGreatDoorJ44
import Derived.Test.YtljlmfnbeofmmaaGreatDoorJ46
import Derived.Test.YtljlmfnbeofmmaaGreatDoorJ9

namespace Go.Proofs.YtljlmfnbeofmmaaGreatDoor
open Go.RowKit

set_option maxRecDepth 100000 in
set_option maxHeartbeats 400000 in
theorem zipNames_all (s : ByteArray) (W : World) (_hs : s.size ≤ maxLen) (hT : Tab W) (hx : Mxl W) :
  Calls Tryz.prog 3 #[.string s] W fun e w' => e = .returned (.bool true) ∧ Below W.heap.size W w' := by
 suffices H : Calls Tryz.prog 3 #[.string s] W fun e w' => e = .returned (.bool true) ∧ Same W w' from H.mono (fun e w' h => ⟨h.1, h.2.bel⟩)
 have HA := zawake_any W hx hT
 have HX : Hid (Mxl W) := hx
 clear hx hT
 by_cases hl : 16777216 < s.size
 ·have b1 : decide ((16777216 : Int) < (s.size : Int)) = true := by simp; omega
  go_enter Tryz.func3, Tryz.ntmps3
  go_wp2_with fail
  refine HA.mono ?_
  rintro e w1 ⟨rfl, hk1⟩
  have HK1 : Hid (Same W w1) := hk1
  clear hk1 HA
  go_wp2_with fail
  go_ret
  exact ⟨rfl, HK1.out⟩
 ·have b1 : decide ((16777216 : Int) < (s.size : Int)) = false := by simp; omega
  have HS : Hid (s.size ≤ 16777216) := hid (by omega)
  obtain ⟨B, hB⟩ : ∃ B, B = nam8 (sb s) := ⟨_, rfl⟩
  have HB : Hid (B = nam8 (sb s)) := hB
  clear hB hl
  go_enter Tryz.func3, Tryz.ntmps3
  go_wp2_with fail
  refine HA.mono ?_
  rintro e w1 ⟨rfl, hk1⟩
  have HK1 : Hid (Same W w1) := hk1
  have HN := name_any w1 s (HX.out.kept hk1 (fun f => f))
  rw [← HB.out] at HN
  clear hk1 HA
  go_wp2_with fail
  refine HN.mono ?_
  rintro e w2 ⟨rfl, hk2⟩
  have HK2 : Hid (Same W w2) := hid (Same.trans HK1.out hk2)
  have HR := rname_any w2 s (by have := HS.out; omega)
  rw [← HB.out] at HR
  clear hk2 HN
  go_wp2_with fail
  refine HR.mono ?_
  rintro e w3 ⟨rfl, hw3⟩
  subst hw3
  clear HR
  have hbb : (B == B) = true := by simp
  go_wp2_with fail
  go_ret
  exact ⟨by simp, HK2.out⟩

end Go.Proofs.YtljlmfnbeofmmaaGreatDoor
