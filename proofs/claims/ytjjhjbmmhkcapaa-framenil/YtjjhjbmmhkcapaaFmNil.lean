/-
  FrameNil's walk.
-/
import Derived.Test.YtjjhjbmmhkcapaaFmF
import Derived.Test.YtjjhjbmmhkcapaaFmAr
namespace Go.Proofs.Ytjjhjbmmhkcapaa
open Go.RowKit

set_option maxRecDepth 100000 in
set_option maxHeartbeats 1000000 in
theorem frameNil_all (a0 : Option Addr) (len0 cap0 : Nat) (z0 : List Int) (W : World) (_w0 : IsRow .u8 W a0 len0 cap0 z0) :
    Calls Try.prog 8 #[.slice a0 len0 cap0] W fun e W' => e = .returned (.bool true) ∧ Below W.heap.size W W' := by
  by_cases hl : 1048576 < len0
  · go_enter Try.func8, Try.ntmps8
    go_wp2_with fail
    refine (awake18 W).mono ?_
    rintro x w1 ⟨rfl, hk⟩
    go_wp2_with fail
    go_ret
    exact ⟨rfl, hk.below (Nat.le_refl _) (fun _ _ f => f)⟩
  · go_enter Try.func8, Try.ntmps8
    go_wp2_with fail
    refine (dfeed_nil18 W _).mono ?_
    rintro x w1 ⟨rfl, rfl⟩
    go_wp2_with fail
    refine (awake18 w1).mono ?_
    rintro x w2 ⟨rfl, hk⟩
    go_wp2_with fail
    refine (dwants_nil w2).mono ?_
    rintro x w3 ⟨rfl, rfl⟩
    go_wp2_with fail
    refine (dwrong_nil w3).mono ?_
    rintro x w4 ⟨rfl, rfl⟩
    go_wp2_with fail
    go_ret
    exact ⟨rfl, hk.below (Nat.le_refl _) (fun _ _ f => f)⟩

end Go.Proofs.Ytjjhjbmmhkcapaa
