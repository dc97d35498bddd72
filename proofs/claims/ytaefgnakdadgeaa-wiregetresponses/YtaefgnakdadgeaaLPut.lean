/-
  The calls that lay numbers in bytes: little's and the reference's; what is the same.
-/
import Derived.Test.YtaefgnakdadgeaaFresh
import Derived.Test.YtaefgnakdadgeaaCrc
namespace Go.Proofs.Ytaefgnakdadgeaa
open Go.RowKit

set_option maxHeartbeats 1000000 in
theorem lput_any (w : World) (v : Value) (I : Nat → Prop) (cs : List Nat) (hsrc : Src w I v cs) (x n : Nat) (hn : n ≤ 8) (hx : x < 18446744073709551616) (hlen : cs.length ≤ 100000000) :
    Calls Try.prog 54 #[v, .int .u64 (x : Nat), .int .i64 (n : Nat)] w fun e w' => ∃ v', e = .returned v' ∧ Fresh w w' v' (cs ++ leOf x n) := by
  obtain ⟨ao, cap, rfl, _⟩ := id hsrc
  have HS : Hid (Src w I (.slice ao cs.length cap) cs) := hsrc
  clear hsrc
  go_enter Try.func54, Try.ntmps54
  go_wp2_with (first | (at_make; refine wpList_make_room _ rfl _ _ rfl _ _ _ _ cs.length (cs.length + n) rfl rfl (by omega) (by omega) (by omega) (by omega) ?_; intro w1 hr1 hg1 hs1; have HR : Hid (Row w1 (.slice (some ⟨w.heap.size, 0, none⟩) cs.length (cs.length + n)) (List.replicate cs.length 0)) := hr1; have HK : Hid (Kept (fun _ => False) w w1) := (Kept.refl _ w).grown hg1 (by simp); clear hr1 hg1) | (with_reducible refine atCopy ?_; refine wpList_copy_bytes _ rfl (.tmp 15) (.tmp 16) rfl w.heap.size cs.length (cs.length + n) ao cs.length cap (List.replicate cs.length 0) cs I rfl rfl HR.out (HS.out.kept HK.out (fun _ _ _ h => h)) (by simp) ?_))
  intro w2 hr2 hg2 hs2
  have HF : Hid (Fresh w w2 (.slice (some ⟨w.heap.size, 0, none⟩) cs.length (cs.length + n)) cs) := by
    refine ⟨by simpa using hr2, HK.out.grown hg2 (fun k e => .inr (by simp at e; omega)), ?_⟩
    intro k hk
    simp [Value.ownBlock] at hk
    omega
  clear hr2 hg2 hs2 HR HK
  go_wp2_with fail
  go_loopg [1, 7, 19] n (fun k y o z wr => ∃ i u : Nat, i ≤ n ∧ n - i ≤ k ∧ z = .int .i64 (i : Nat) ∧ y = .int .u64 (u : Nat) ∧ u = x / 256 ^ i ∧ Fresh w wr o (cs ++ leOf x i))
  case atStart => exact ⟨0, x, by omega, by omega, rfl, rfl, by simp, by simpa [leOf] using HF.out⟩
  case round =>
    obtain ⟨i, u, hi, hik, rfl, rfl, hu, hg⟩ := hrel
    have HU : Hid (u = x / 256 ^ i) := hu
    have hu2 : u < 18446744073709551616 := by rw [hu]; exact Nat.lt_of_le_of_lt (Nat.div_le_self _ _) hx
    have HG : Hid (Fresh w wr u7 (cs ++ leOf x i)) := hg
    have HL2 : Hid ((cs ++ leOf x i).length + [u % 256].length ≤ 1000000000000) := by show _ ≤ _; rw [List.length_append, leOf_length]; simp; omega
    clear hu hg hx HF
    by_cases hlt : i < n
    · go_wp2_with (at_builtin; refine wpList_append_row _ rfl (.tmp 21) (.tmp 24) rfl u7 (cs ++ leOf x i) rfl (World.ownsRow.alloc HG.out.row _) ⟨wr.heap.size, 0, none⟩ 1 1 [u % 256] rfl rfl (bytesAt_int _ _ _ (by omega)) HL2.out ?_; intro v' w1 hrow hgr hv')
      have R : Hid (Fresh w w1 v' (cs ++ leOf x (i + 1))) := by
        have h := HG.out.app hrow hgr hv'
        rw [List.append_assoc, HU.out] at h
        exact h
      clear hrow hgr hv' HL2
      go_wp2
      go_roundg (gk - 1)
      case measure => omega
      case rel => exact ⟨i + 1, u / 256, by omega, by omega, by go_num, by go_num, by rw [HU.out, Nat.div_div_eq_div_mul, ← Nat.pow_succ], R.out⟩
    · have hin : i = n := by omega
      subst hin
      go_wp2
      go_ret
      exact ⟨_, rfl, HG.out⟩

set_option maxHeartbeats 400000 in
theorem put16_any {X : Int} (w : World) (v : Value) (I : Nat → Prop) (cs : List Nat) (hsrc : Src w I v cs) (x : Nat) (hX : X = (x : Nat)) (hx : x < 65536) (hlen : cs.length ≤ 100000000) :
    Calls Try.prog 41 #[v, .int .u16 X] w fun e w' => ∃ v', e = .returned v' ∧ Fresh w w' v' (cs ++ leOf x 2) := by
  subst hX
  have HC := lput_any w v I cs hsrc x 2 (by omega) (by omega) hlen
  go_enter Try.func41, Try.ntmps41
  go_wp2_with fail
  refine HC.mono ?_
  rintro e w' ⟨v', rfl, h⟩
  go_wp2_with fail
  go_ret
  exact ⟨_, rfl, h⟩

set_option maxHeartbeats 400000 in
theorem put32_any {X : Int} (w : World) (v : Value) (I : Nat → Prop) (cs : List Nat) (hsrc : Src w I v cs) (x : Nat) (hX : X = (x : Nat)) (hx : x < 4294967296) (hlen : cs.length ≤ 100000000) :
    Calls Try.prog 84 #[v, .int .u32 X] w fun e w' => ∃ v', e = .returned v' ∧ Fresh w w' v' (cs ++ leOf x 4) := by
  subst hX
  have HC := lput_any w v I cs hsrc x 4 (by omega) (by omega) hlen
  go_enter Try.func84, Try.ntmps84
  go_wp2_with fail
  refine HC.mono ?_
  rintro e w' ⟨v', rfl, h⟩
  go_wp2_with fail
  go_ret
  exact ⟨_, rfl, h⟩



end Go.Proofs.Ytaefgnakdadgeaa
