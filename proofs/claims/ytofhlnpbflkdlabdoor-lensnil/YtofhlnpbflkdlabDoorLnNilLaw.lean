/-
  The law LensNil.
-/
import Derived.Test.YtofhlnpbflkdlabDoorLnAw
import Derived.Test.YtofhlnpbflkdlabDoorHArgs
namespace Go.Proofs.YtofhlnpbflkdlabDoor
open Go.RowKit

set_option maxHeartbeats 1000000 in
theorem lwrite_none (w : World) (va vb : Value) :
    Calls Tryd.prog 6 #[.pointer none, va, vb] w fun e w' => e = .returned (.int .i64 3) ∧ w' = w := by
  go_enter Tryd.func6, Tryd.ntmps6
  go_wp2_with fail
  go_ret
  exact ⟨rfl, rfl⟩

set_option maxRecDepth 100000 in
set_option maxHeartbeats 4000000 in
theorem lensNil_all (a : Option Addr) (len cap : Nat) (zl : List Int) (b : Option Addr) (len1 cap1 : Nat) (zd : List Int) (W : World) (_h : IsRow .i64 W a len cap zl) (_h1 : IsRow .i64 W b len1 cap1 zd) (hT : Tab W) :
    Calls Tryd.prog 3 #[.slice a len cap, .slice b len1 cap1] W fun e w' => e = .returned (.bool true) ∧ Below W.heap.size W w' := by
  suffices H : Calls Tryd.prog 3 #[.slice a len cap, .slice b len1 cap1] W fun e w' => e = .returned (.bool true) ∧ Same W w' from H.mono (fun e w' h => ⟨h.1, h.2.bel⟩)
  have HAW := lawake_any W hT
  have HRN := lread_nil W
  clear hT
  by_cases hbad : 1048576 < len ∨ 1048576 < len1
  · by_cases c1 : 1048576 < len
    · have b1 : decide ((1048576 : Int) < (len : Int)) = true := by simp; omega
      clear hbad c1 HRN
      go_enter Tryd.func3, Tryd.ntmps3
      go_wp2_with fail
      refine HAW.mono ?_
      rintro e w5 ⟨rfl, hk5⟩
      have HK5 : Hid (Same W w5) := hk5
      clear hk5 HAW
      go_wp2_with fail
      go_ret
      exact ⟨rfl, HK5.out⟩
    · have b1 : decide ((1048576 : Int) < (len : Int)) = false := by simp; omega
      have b2 : decide ((1048576 : Int) < (len1 : Int)) = true := by simp; omega
      clear hbad c1 HRN
      go_enter Tryd.func3, Tryd.ntmps3
      go_wp2_with fail
      refine HAW.mono ?_
      rintro e w5 ⟨rfl, hk5⟩
      have HK5 : Hid (Same W w5) := hk5
      clear hk5 HAW
      go_wp2_with fail
      go_ret
      exact ⟨rfl, HK5.out⟩
  · have b1 : decide ((1048576 : Int) < (len : Int)) = false := by simp; omega
    have b2 : decide ((1048576 : Int) < (len1 : Int)) = false := by simp; omega
    clear hbad
    go_enter Tryd.func3, Tryd.ntmps3
    go_wp2_with fail
    refine HRN.mono ?_
    rintro e w1 ⟨rfl, hw1⟩
    subst hw1
    clear HRN
    go_wp2_with fail
    refine HAW.mono ?_
    rintro e w5 ⟨rfl, hk5⟩
    have HK5 : Hid (Same w1 w5) := hk5
    have HWN := lwrite_none w5 (.slice a len cap) (.slice b len1 cap1)
    clear hk5 HAW
    go_wp2_with fail
    refine HWN.mono ?_
    rintro e w6 ⟨rfl, hw6⟩
    subst hw6
    clear HWN
    go_wp2_with fail
    go_ret
    exact ⟨rfl, HK5.out⟩

end Go.Proofs.YtofhlnpbflkdlabDoor
