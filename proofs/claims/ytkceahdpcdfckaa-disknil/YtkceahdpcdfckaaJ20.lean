/-
  Of the proof: parts DlNil.
-/
import Derived.Test.YtkceahdpcdfckaaJ18
import Derived.Test.YtkceahdpcdfckaaJ19

/-
  Layer 9's law DiskNil: no disk answers so.
-/
namespace Go.Proofs.Ytkceahdpcdfckaa
open Go.RowKit Go.Maps

set_option maxRecDepth 100000 in
set_option maxHeartbeats 2000000 in
theorem diskNil_all (a0 : ByteArray) (a1 : Option Addr) (len1 cap1 : Nat) (z1 : List Int) (a2 : Int) (w : World) (_w0 : a0.size ≤ maxLen) (_w1 : IsRow .u8 w a1 len1 cap1 z1) (_w2 : (Lit.int .i64 a2).wf = true) :
    Calls Try.prog 7 #[.string a0, .slice a1 len1 cap1, .int .i64 a2] w fun e w' => e = .returned (.bool true) ∧ Below w.heap.size w w' := by
  clear _w1 _w2 _w0
  by_cases h1 : 65536 < a0.size
  · have b1 : decide ((65536 : Int) < (a0.size : Int)) = true := by simp; omega
    have b1' : decide (65536 < a0.size) = true := by simp; omega
    clear h1
    go_enter Try.func7, Try.ntmps7
    go_wp2_with fail
    go_ret
    exact ⟨rfl, Below.refl _ _⟩
  · have b1 : decide ((65536 : Int) < (a0.size : Int)) = false := by simp; omega
    have b1' : decide (65536 < a0.size) = false := by simp; omega
    clear h1
    by_cases h2 : 65536 < len1
    · have b2 : decide ((65536 : Int) < (len1 : Int)) = true := by simp; omega
      have b2' : decide (65536 < len1) = true := by simp; omega
      clear h2
      go_enter Try.func7, Try.ntmps7
      go_wp2_with fail
      go_ret
      exact ⟨rfl, Below.refl _ _⟩
    · have b2 : decide ((65536 : Int) < (len1 : Int)) = false := by simp; omega
      have b2' : decide (65536 < len1) = false := by simp; omega
      clear h2
      go_enter Try.func7, Try.ntmps7
      go_wp2_with fail
      refine (dread_nil _ _).mono ?_
      rintro e x1 ⟨rfl, hx⟩
      subst hx
      go_wp2_with fail
      refine (dcreate_nil _ _).mono ?_
      rintro e x2 ⟨rfl, hx⟩
      subst hx
      go_wp2_with fail
      refine (dappend_nil _ _ _ _ _).mono ?_
      rintro e x3 ⟨rfl, hx⟩
      subst hx
      go_wp2_with fail
      refine (dsync_nil _ _).mono ?_
      rintro e x4 ⟨rfl, hx⟩
      subst hx
      go_wp2_with fail
      refine (drename_nil _ _ _).mono ?_
      rintro e x5 ⟨rfl, hx⟩
      subst hx
      go_wp2_with fail
      refine (dremove_nil _ _).mono ?_
      rintro e x6 ⟨rfl, hx⟩
      subst hx
      go_wp2_with fail
      refine (dsyncdir_nil _).mono ?_
      rintro e x7 ⟨rfl, hx⟩
      subst hx
      go_wp2_with fail
      refine (dstop_nil _ _).mono ?_
      rintro e x8 ⟨rfl, hx⟩
      subst hx
      go_wp2_with fail
      refine (dcrash_nil _ _ _ _).mono ?_
      rintro e x9 ⟨rfl, hx⟩
      subst hx
      go_wp2_with fail
      refine (dawake_any _).mono ?_
      rintro e y1 ⟨rfl, hk1⟩
      have HK1 := hid hk1
      clear hk1
      go_wp2_with fail
      refine (dnames_nil _).mono ?_
      rintro e y2 ⟨rfl, hy⟩
      subst hy
      go_wp2_with fail
      refine (dused_nil _).mono ?_
      rintro e y3 ⟨rfl, hy⟩
      subst hy
      go_wp2_with fail
      refine (dsteps_nil _).mono ?_
      rintro e y4 ⟨rfl, hy⟩
      subst hy
      go_wp2_with fail
      refine (ddown_nil _).mono ?_
      rintro e y5 ⟨rfl, hy⟩
      subst hy
      go_wp2_with fail
      refine (dclone_nil _).mono ?_
      rintro e y6 ⟨rfl, hy⟩
      subst hy
      go_wp2_with fail
      go_ret
      refine ⟨rfl, ?_⟩
      have h9 : Same x8 y6 := Same.trans ((Kept.refl _ x8).alloc _) HK1.out
      exact h9.below (Nat.le_refl _) (fun _ _ f => f)

end Go.Proofs.Ytkceahdpcdfckaa
