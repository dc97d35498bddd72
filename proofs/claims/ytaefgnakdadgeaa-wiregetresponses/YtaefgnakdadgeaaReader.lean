/-
  The reader's calls; the writer's Bytes; two rows of bytes held against one another.
-/
import Derived.Test.YtaefgnakdadgeaaCut
import Derived.Test.YtaefgnakdadgeaaWriter
namespace Go.Proofs.Ytaefgnakdadgeaa
open Go.RowKit

theorem ret_int {k : IntKind} {a b : Int} (h : a = b) : Ending.returned (.int k a) = .returned (.int k b) := by rw [h]

































set_option maxHeartbeats 400000 in
theorem keepBytes_any (va vb : Value) (I J : Nat → Prop) (xs ys : List Nat) (w : World) (ha : Src w I va xs) (hb : Src w J vb ys) (hx : xs.length ≤ 1000000000000) (hy : ys.length ≤ 1000000000000) :
    Calls Try.prog 13 #[va, vb] w fun e w' => e = .returned (.bool (decide (xs = ys))) ∧ ∃ m, w' = w.drewN m := by
  obtain ⟨ao, ca, rfl, hsa⟩ := id ha
  obtain ⟨bo, cb, rfl, hsb⟩ := id hb
  clear ha hb
  by_cases hl : xs.length = ys.length
  · have HL : Hid (xs.length = ys.length) := hl
    have hd : ((xs.length : Int) != (ys.length : Int)) = false := by simp [hl]
    clear hl
    go_enter Try.func13, Try.ntmps13
    go_wp2
    clear hd
    go_loopg [5] xs.length (fun k i wr => ∃ j : Nat, j ≤ xs.length ∧ xs.length - j ≤ k ∧ i = .int .i64 j ∧ (∃ m, wr = w.drewN m) ∧ xs.take j = ys.take j)
    case atStart => exact ⟨0, by omega, by omega, rfl, ⟨0, rfl⟩, by simp⟩
    case round =>
      obtain ⟨j, hj, hjk, rfl, ⟨m, rfl⟩, ht⟩ := hrel
      have HT : Hid (xs.take j = ys.take j) := ht
      clear ht
      by_cases hlt : j < xs.length
      · have hlt2 : j < ys.length := by have := HL.out; omega
        obtain ⟨a, oa, rfl, _, hca⟩ := hsa (by intro e; rw [e] at hlt; simp at hlt)
        obtain ⟨b, ob, rfl, _, hcb⟩ := hsb (by intro e; rw [e] at hlt2; simp at hlt2)
        have hc1 := hca j hlt
        have hc2 := hcb j hlt2
        obtain ⟨x, hx1⟩ : ∃ x, x = xs[j] := ⟨_, rfl⟩
        obtain ⟨y, hy1⟩ : ∃ y, y = ys[j] := ⟨_, rfl⟩
        rw [← hx1] at hc1
        rw [← hy1] at hc2
        have HX : Hid (x = xs[j]) := hx1
        have HY : Hid (y = ys[j]) := hy1
        clear hca hcb hsa hsb hx1 hy1
        by_cases he : x = y
        · have hd : ((x : Int) != (y : Int)) = false := by simp [he]
          have HE : Hid (x = y) := he
          clear he
          go_wp2
          go_quiet (fail)
          go_wp2
          go_roundg (gk - 1)
          case measure => omega
          case rel => exact ⟨j + 1, by omega, by omega, by go_num, ⟨_, rfl⟩, by rw [List.take_succ_eq_append_getElem hlt, List.take_succ_eq_append_getElem hlt2, HT.out, ← HX.out, ← HY.out, HE.out]⟩
        · have hd : ((x : Int) != (y : Int)) = true := by simp; omega
          go_wp2
          go_quiet (fail)
          go_wp2
          go_ret
          refine ⟨?_, _, drewN_add _ _ _⟩
          have : ¬ xs = ys := by intro e; subst e; exact he (HX.out.trans HY.out.symm)
          simp [this]
      · clear hsa hsb
        go_wp2
        go_ret
        refine ⟨?_, _, rfl⟩
        have h1 := HT.out
        have h2 := HL.out
        rw [List.take_of_length_le (by omega), List.take_of_length_le (by omega)] at h1
        simp [h1]
  · have hd : ((xs.length : Int) != (ys.length : Int)) = true := by simp; omega
    have HL : Hid (¬ xs.length = ys.length) := hl
    clear hl
    go_enter Try.func13, Try.ntmps13
    go_wp2
    go_ret
    have : ¬ xs = ys := by intro e; exact HL.out (by rw [e])
    exact ⟨by simp [this], 0, rfl⟩

end Go.Proofs.Ytaefgnakdadgeaa
