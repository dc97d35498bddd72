import Derived.Test.YtljlmfnbeofmmaaGreatDoorLnPgM
import Derived.Test.YtljlmfnbeofmmaaGreatDoorLnRef
import Derived.Test.YtljlmfnbeofmmaaGreatDoorRowX
namespace Go.Proofs.YtljlmfnbeofmmaaGreatDoor
open Go.RowKit

def inB (n lo hi : Int) : Bool := decide (lo ≤ n) && decide (n ≤ hi)

set_option maxHeartbeats 1000000 in
theorem within_any (w : World) (n lo hi : Int) :
  Calls Tryz.prog 127 #[.int .i64 n, .int .i64 lo, .int .i64 hi] w fun e w' => e = .returned (.bool (inB n lo hi)) ∧ w' = w := by
 go_enter Tryz.func127, Tryz.ntmps127
 by_cases h : lo ≤ n
 ·go_wp2_with fail
  go_ret
  exact ⟨by simp only [inB, h, decide_true, Bool.true_and]; rfl, rfl⟩
 ·go_wp2_with fail
  go_ret
  have hd : decide (lo ≤ n) = false := by simp; omega
  exact ⟨by simp only [inB, hd, Bool.false_and]; rfl, rfl⟩

set_option maxHeartbeats 1000000 in
theorem shape_any (w : World) (s : Int) :
  Calls Tryz.prog 164 #[.int .i64 s] w fun e w' => e = .returned (.tuple #[.int .i64 (leastM s : Nat), .int .i64 (widthM s : Nat)]) ∧ w' = w := by
 by_cases h16 : s = 16
 ·subst h16
  go_enter Tryz.func164, Tryz.ntmps164
  go_wp2_with fail
  go_ret2
  exact ⟨rfl, rfl⟩
 ·by_cases h17 : s = 17
  ·subst h17
   go_enter Tryz.func164, Tryz.ntmps164
   go_wp2_with fail
   go_ret2
   exact ⟨rfl, rfl⟩
  ·by_cases h18 : s = 18
   ·subst h18
    go_enter Tryz.func164, Tryz.ntmps164
    go_wp2_with fail
    go_ret2
    exact ⟨rfl, rfl⟩
   ·have e16 : (s == 16) = false := by simp; omega
    have e17 : (s == 17) = false := by simp; omega
    have e18 : (s == 18) = false := by simp; omega
    have HE : Hid (leastM s = 1 ∧ widthM s = 0) := hid ⟨by unfold leastM; rw [if_neg h16, if_neg h17, if_neg h18], by unfold widthM; rw [if_neg h16, if_neg h17, if_neg h18]⟩
    clear h16 h17 h18
    go_enter Tryz.func164, Tryz.ntmps164
    go_wp2_with fail
    go_ret2
    exact ⟨by rw [HE.out.1, HE.out.2]; rfl, rfl⟩

theorem pow_le7 (n : Nat) (h : n ≤ 7) : (2 : Nat) ^ n ≤ 128 := by
 have := Nat.pow_le_pow_right (show 0 < 2 by decide) h
 simpa using this

end Go.Proofs.YtljlmfnbeofmmaaGreatDoor
