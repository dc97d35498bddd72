/-
  Of the proof: parts DfNilLaw.
-/
import Derived.Test.YtggcbnhckcenmaaGreatDoorJ35
import Derived.Test.YtggcbnhckcenmaaGreatDoorJ6

/-
  The law DeflateNil.
-/
namespace Go.Proofs.YtggcbnhckcenmaaGreatDoor
open Go.RowKit

set_option maxRecDepth 100000 in
set_option maxHeartbeats 400000 in
theorem deflateNil_all (a : Option Addr) (len cap : Nat) (zs : List Int) (W : World) (_h : IsRow .u8 W a len cap zs) (hT : Tab W) :
    Calls Tryz.prog 8 #[.slice a len cap] W fun e w' => e = .returned (.bool true) ∧ Below W.heap.size W w' := by
  suffices H : Calls Tryz.prog 8 #[.slice a len cap] W fun e w' => e = .returned (.bool true) ∧ Same W w' from H.mono (fun e w' h => ⟨h.1, h.2.bel⟩)
  by_cases hlong : 65536 < len
  · have b1 : decide ((65536 : Int) < (len : Int)) = true := by simp; omega
    clear hlong hT
    go_enter Tryz.func8, Tryz.ntmps8
    go_wp2_with fail
    go_ret
    exact ⟨rfl, Kept.refl _ _⟩
  · have b1 : decide ((65536 : Int) < (len : Int)) = false := by simp; omega
    have HF := dfeed_nil W (.slice a len cap)
    have HAW := dawake_any W hT
    clear hlong hT
    go_enter Tryz.func8, Tryz.ntmps8
    go_wp2_with fail
    refine HF.mono ?_
    rintro x w1 ⟨rfl, hw1⟩
    subst hw1
    have HC := dclose_nil w1
    clear HF
    go_wp2_with fail
    refine HC.mono ?_
    rintro x w2 ⟨rfl, hw2⟩
    subst hw2
    clear HC
    go_wp2_with fail
    refine HAW.mono ?_
    rintro x w3 ⟨rfl, hk3⟩
    have HK3 : Hid (Same w2 w3) := hk3
    clear hk3 HAW
    go_wp2_with fail
    go_ret
    exact ⟨rfl, HK3.out⟩

end Go.Proofs.YtggcbnhckcenmaaGreatDoor
