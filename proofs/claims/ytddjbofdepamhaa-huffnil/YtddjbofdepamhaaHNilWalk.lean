/-
  The law HuffNil, walked.
-/
import Derived.Test.YtddjbofdepamhaaHAwake
import Derived.Test.YtddjbofdepamhaaArgs
namespace Go.Proofs.Ytddjbofdepamhaa
open Go.RowKit

theorem Same.bel {w w' : World} (h : Same w w') : Below w.heap.size w w' := Kept.below h (Nat.le_refl _) (fun _ _ e => e)

set_option maxHeartbeats 1000000 in
theorem huffNil_all (a : Option Addr) (len cap : Nat) (zs : List Int) (W : World) (h : IsRow .u8 W a len cap zs) :
    Calls Try.prog 8 #[.slice a len cap] W fun e w' => e = .returned (.bool true) ∧ Below W.heap.size W w' := by
  obtain ⟨bs, hs, hl, hb⟩ := h.src
  clear h
  by_cases hlong : 16384 < len
  · have b1 : decide ((16384 : Int) < (len : Int)) = true := by simp; omega
    clear hlong hl hs
    go_enter Try.func8, Try.ntmps8
    go_wp2_with fail
    go_ret
    exact ⟨rfl, Below.refl _ _⟩
  · have b1 : decide ((16384 : Int) < (len : Int)) = false := by simp; omega
    have HC := newReader_any _ _ bs W hs (by omega) hb
    have HL : Hid (bs.length = len ∧ len ≤ 16384) := hid ⟨hl, by omega⟩
    clear hlong hl hs
    go_enter Try.func8, Try.ntmps8
    go_wp2_with fail
    refine HC.mono ?_
    rintro e w1 ⟨p, s, rfl, hst, hk, hf⟩
    have HS : Hid (St w1 p s bs 0) := hst
    have HK : Hid (Same W w1) := hk
    clear hst hk hf HC
    have HN := next_none w1 (.pointer (some ⟨p, 0, none⟩))
    go_wp2_with fail
    refine HN.mono ?_
    rintro e w2 ⟨rfl, rfl⟩
    have HA := awake_any w2
    clear HN
    go_wp2_with fail
    refine HA.mono ?_
    rintro e w3 ⟨rfl, hk3⟩
    have HK3 : Hid (Same w2 w3) := hk3
    have HG := gone_any p 0 s bs w3 (HS.out.kept hk3 (fun _ _ h => h))
    clear hk3 HA
    go_wp2_with fail
    refine HG.mono ?_
    rintro e w4 ⟨rfl, rfl⟩
    clear HG
    go_wp2_with fail
    go_ret
    exact ⟨rfl, (Same.trans HK.out HK3.out).bel⟩

end Go.Proofs.Ytddjbofdepamhaa
