/-
  The laws over whatever arguments.
-/
import Derived.Test.YtgbfhpilhnbnjaaDoorHmArg
import Derived.Test.YtgbfhpilhnbnjaaDoorHmSumsLaw
import Derived.Test.YtgbfhpilhnbnjaaDoorHmSameLaw
namespace Go.Proofs.YtgbfhpilhnbnjaaDoor
open Go.RowKit

theorem Same.bel15 {w w' : World} (h : Same w w') : Below w.heap.size w w' := h.below (Nat.le_refl _) (fun _ _ f => f)

set_option maxRecDepth 100000 in
set_option maxHeartbeats 400000 in
theorem hmacSums_all (a : Option Addr) (len cap : Nat) (zs : List Int) (a1 : Option Addr) (len1 cap1 : Nat) (zs1 : List Int) (W : World) (h : IsRow .u8 W a len cap zs) (h1 : IsRow .u8 W a1 len1 cap1 zs1) (hT : Tab15 W) :
    Calls Tryd.prog 3 #[.slice a len cap, .slice a1 len1 cap1] W fun e w' => e = .returned (.bool true) ∧ Below W.heap.size W w' := by
  obtain ⟨K, hk, lk⟩ := h.arg15
  obtain ⟨B, hb, lb⟩ := h1.arg15
  by_cases q1 : 262144 < len
  · have d1 : decide ((262144 : Int) < (len : Int)) = true := by simp; omega
    clear h h1 hk hb lk lb hT q1
    go_enter Tryd.func3, Tryd.ntmps3
    go_wp2_with fail
    go_ret
    exact ⟨rfl, (Kept.refl _ W).below (F := fun _ => False) (Nat.le_refl _) (fun _ _ f => f)⟩
  by_cases q2 : 262144 < len1
  · have d1 : decide ((262144 : Int) < (len : Int)) = false := by simp; omega
    have d2 : decide ((262144 : Int) < (len1 : Int)) = true := by simp; omega
    clear h h1 hk hb lk lb hT q1 q2
    go_enter Tryd.func3, Tryd.ntmps3
    go_wp2_with fail
    go_ret
    exact ⟨rfl, (Kept.refl _ W).below (F := fun _ => False) (Nat.le_refl _) (fun _ _ f => f)⟩
  exact (sums15 W a a1 len cap len1 cap1 K B hk hb lk lb (by omega) (by omega) hT).mono (fun _ _ h => ⟨h.1, h.2.bel15⟩)

set_option maxRecDepth 100000 in
set_option maxHeartbeats 400000 in
theorem hmacWhole_all (a : Option Addr) (len cap : Nat) (zs : List Int) (a1 : Option Addr) (len1 cap1 : Nat) (zs1 : List Int) (a2 : Option Addr) (len2 cap2 : Nat) (zs2 : List Int) (m : Int) (W : World) (h : IsRow .u8 W a len cap zs) (h1 : IsRow .u8 W a1 len1 cap1 zs1) (h2 : IsRow .u8 W a2 len2 cap2 zs2) (hm : (Lit.int .i64 m).wf = true) (hT : Tab15 W) :
    Calls Tryd.prog 5 #[.slice a len cap, .slice a1 len1 cap1, .slice a2 len2 cap2, .int .i64 m] W fun e w' => e = .returned (.bool true) ∧ Below W.heap.size W w' := by
  obtain ⟨A, ha, la⟩ := h.arg15
  obtain ⟨B, hb, lb⟩ := h1.arg15
  obtain ⟨K, hk, lk⟩ := h2.arg15
  by_cases q1 : 262144 < len
  · have d1 : decide ((262144 : Int) < (len : Int)) = true := by simp; omega
    clear h h1 h2 ha hb hk la lb lk hT q1
    go_enter Tryd.func5, Tryd.ntmps5
    go_wp2_with fail
    go_ret
    exact ⟨rfl, (Kept.refl _ W).below (F := fun _ => False) (Nat.le_refl _) (fun _ _ f => f)⟩
  by_cases q2 : 262144 < len1
  · have d1 : decide ((262144 : Int) < (len : Int)) = false := by simp; omega
    have d2 : decide ((262144 : Int) < (len1 : Int)) = true := by simp; omega
    clear h h1 h2 ha hb hk la lb lk hT q1 q2
    go_enter Tryd.func5, Tryd.ntmps5
    go_wp2_with fail
    go_ret
    exact ⟨rfl, (Kept.refl _ W).below (F := fun _ => False) (Nat.le_refl _) (fun _ _ f => f)⟩
  by_cases q3 : 262144 < len2
  · have d1 : decide ((262144 : Int) < (len : Int)) = false := by simp; omega
    have d2 : decide ((262144 : Int) < (len1 : Int)) = false := by simp; omega
    have d3 : decide ((262144 : Int) < (len2 : Int)) = true := by simp; omega
    clear h h1 h2 ha hb hk la lb lk hT q1 q2 q3
    go_enter Tryd.func5, Tryd.ntmps5
    go_wp2_with fail
    go_ret
    exact ⟨rfl, (Kept.refl _ W).below (F := fun _ => False) (Nat.le_refl _) (fun _ _ f => f)⟩
  exact (whole15 W a a1 a2 len cap len1 cap1 len2 cap2 A B K m ha hb hk la lb lk (by omega) (by omega) (by omega) hm hT).mono (fun _ _ h => ⟨h.1, h.2.bel15⟩)

theorem hmacSame_all (xs ys : List Nat) (W : World) (hx : xs.length = 32 ∧ ∀ x ∈ xs, x < 256) (hy : ys.length = 32 ∧ ∀ x ∈ ys, x < 256) (hT : Tab15 W) :
    Calls Tryd.prog 6 #[.agg (xs.map byteV).toArray, .agg (ys.map byteV).toArray] W fun e w' => e = .returned (.bool true) ∧ Below W.heap.size W w' :=
  (same15 W xs ys hx.2 hy.2 hx.1 hy.1 hT).mono (fun _ _ h => ⟨h.1, h.2.bel15⟩)

end Go.Proofs.YtgbfhpilhnbnjaaDoor
