/-
  TokenNil's walk.
-/
import Derived.Test.YtfhfnkhiomahfaaGreatDoorTkJ
namespace Go.Proofs.YtfhfnkhiomahfaaGreatDoor
open Go.RowKit Go.Shelf

set_option maxRecDepth 100000 in
set_option maxHeartbeats 1000000 in
theorem nil16 (w : World) (hW : W6 w) (s : ByteArray) (z : Int) : Calls Tryz.prog 8 #[.string s, .int .i64 z] w fun e w' => e = .returned (.bool true) ∧ Same w w' := by
  have HW := hid hW
  by_cases hb : 1048576 < s.size
  · have b1 : (1048576 : Int) < (s.size : Int) := by omega
    have HA := awake_any w hW
    clear hb hW
    go_enter Tryz.func8, Tryz.ntmps8
    go_wp2_with fail
    refine HA.mono ?_
    rintro e w2 ⟨rfl, hk2⟩
    have HK2 := hid hk2
    clear hk2 HA
    go_wp2_with fail
    go_ret
    exact ⟨rfl, HK2.out⟩
  · have b1 : decide ((1048576 : Int) < (s.size : Int)) = false := by simp; omega
    have H1 := issue_nil w s z
    clear hb hW
    go_enter Tryz.func8, Tryz.ntmps8
    go_wp2_with fail
    refine H1.mono ?_
    rintro e w2 ⟨rfl, hk2⟩
    have HK2 := hid hk2
    have H2 := check_nil w2 s z
    unfold noC clV at H2
    clear hk2 H1
    go_wp2_with fail
    refine H2.mono ?_
    rintro e w3 ⟨rfl, hk3⟩
    obtain ⟨W4, hW4⟩ : ∃ W, W = w3.alloc (.cells #[.string ⟨#[]⟩, .int .i64 0, .int .i64 0] 23) := ⟨_, rfl⟩
    obtain ⟨g, hg⟩ : ∃ g, g = w3.heap.size := ⟨_, rfl⟩
    have HG : Hid (Blk W4 g #[.string ⟨#[]⟩, .int .i64 0, .int .i64 0] 23) := hid (by rw [hW4, hg]; exact Blk.new w3 _ _)
    have HK4 : Hid (Same w W4) := hid (by rw [hW4]; exact (Same.trans HK2.out hk3).alloc _)
    have HA := awake_any W4 (HW.out.same HK4.out)
    clear hk3 H2
    go_upto_region 6 with fail
    rw [← hW4, ← hg]
    clear hW4 hg
    go_wp2_with fail
    refine HA.mono ?_
    rintro e w5 ⟨rfl, hk5⟩
    obtain ⟨a0, a1, a2, _, _, _⟩ := (HG.out.kept hk5 (fun f => f)).c3
    have HK5 := hid (Same.trans HK4.out hk5)
    have H3 := revoke_nil z w5
    clear hk5 HA
    go_wp2_with fail
    refine H3.mono ?_
    rintro e w6 ⟨rfl, hk6⟩
    have HK6 := hid (Same.trans HK5.out hk6)
    clear hk6 H3
    go_wp2_with fail
    go_ret
    exact ⟨rfl, HK6.out⟩

theorem tokenNil_all (s : ByteArray) (z : Int) (W : World) (_hs : s.size ≤ maxLen) (_hz : (Lit.int .i64 z).wf = true) (hT : W6 W) :
    Calls Tryz.prog 8 #[.string s, .int .i64 z] W fun e W' => e = .returned (.bool true) ∧ Below W.heap.size W W' :=
  (nil16 W hT s z).mono fun _ _ ⟨he, hk⟩ => ⟨he, Kept.below hk (Nat.le_refl _) (fun _ _ f => f)⟩

end Go.Proofs.YtfhfnkhiomahfaaGreatDoor
