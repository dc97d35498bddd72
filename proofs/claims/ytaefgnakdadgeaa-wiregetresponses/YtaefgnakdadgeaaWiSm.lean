/-
  Layer 19's laws: two responses are the same.
-/
import Derived.Test.YtaefgnakdadgeaaWiLw
import Derived.BigQuiet
namespace Go.Proofs.Ytaefgnakdadgeaa
open Go.RowKit

set_option maxRecDepth 100000 in
set_option maxHeartbeats 1000000 in
theorem rsame19 (w : World) (s : Rs) (ao bo : Option Addr) (n c c' : Nat) (L : List ByteArray) (I J : Nat → Prop) (ha : SrcC 1 nsE w I (.slice ao n c) L) (hb : SrcC 1 nsE w J (.slice bo n c') L) (hn : n ≤ 9223372036854775807) :
    Calls Try.prog 21 #[.agg (rsV s (.slice ao n c)), .agg (rsV s (.slice bo n c'))] w fun e w' => e = .returned (.bool true) ∧ Same w w' := by
  obtain ⟨W1, hW1⟩ : ∃ W, W = w.alloc (.cells #[.int .i64 s.c, .int .i64 s.x, .int .i64 s.a, .int .i64 s.z, .string s.d, .slice ao n c, .int .i64 s.b, .int .i64 s.e] 40) := ⟨_, rfl⟩
  obtain ⟨W2, hW2⟩ : ∃ W, W = W1.alloc (.cells #[.int .i64 s.c, .int .i64 s.x, .int .i64 s.a, .int .i64 s.z, .string s.d, .slice bo n c', .int .i64 s.b, .int .i64 s.e] 40) := ⟨_, rfl⟩
  obtain ⟨p, hp⟩ : ∃ b, b = w.heap.size := ⟨_, rfl⟩
  have hp2 : W1.heap.size = p + 1 := by rw [hW1, hp]; simp
  have hk1 : Same w W1 := by rw [hW1]; exact (Kept.refl _ w).alloc _
  have hk2 : Same W1 W2 := by rw [hW2]; exact (Kept.refl _ W1).alloc _
  have hk : Same w W2 := Same.trans hk1 hk2
  have HK : Hid (Same w W2) := hid hk
  have hO1 : Ob W1 p 40 (s.cs (.slice ao n c)) := by rw [hW1, hp]; exact obR w s _
  have hO2 : Ob W2 (p + 1) 40 (s.cs (.slice bo n c')) := by rw [hW2, ← hp2]; exact obR W1 s _
  have HA := hid (ha.kept nsE_ok hk (fun _ _ _ f => f))
  have HB := hid (hb.kept nsE_ok hk (fun _ _ _ f => f))
  have HN : Hid (n = L.length ∧ n ≤ 9223372036854775807) := hid (by obtain ⟨_, _, e, _⟩ := ha; simp only [Value.slice.injEq] at e; exact ⟨e.2.1, hn⟩)
  obtain ⟨c0, c1, c2, c3, c4, c5, c6, c7⟩ := (hO1.kept hk2 (fun f => f)).eightR
  obtain ⟨e0, e1, e2, e3, e4, e5, e6, e7⟩ := hO2.eightR
  obtain ⟨p2, hpp⟩ : ∃ b, b = p + 1 := ⟨_, rfl⟩
  rw [← hpp] at e0 e1 e2 e3 e4 e5 e6 e7
  clear hO1 hO2 ha hb hn hk1 hk2 hk hp2
  unfold rsV
  go_enter Try.func21, Try.ntmps21
  go_upto_region 1 with fail
  rw [← hp, ← hW1, ← hW2, ← hpp]
  clear hW1 hW2 hp hpp
  go_wp2_with fail
  go_loopg [5] n (fun k z wr => ∃ i : Nat, i ≤ n ∧ n - i ≤ k ∧ z = .int .i64 (i : Nat) ∧ Hid (Same W2 wr))
  case atStart => exact ⟨0, by omega, by omega, rfl, hid (Kept.refl _ _)⟩
  case round =>
    obtain ⟨i, hi, hk, rfl, HX⟩ := hrel
    have c5' := HX.out.cell c5 (fun f => f)
    have e5' := HX.out.cell e5 (fun f => f)
    by_cases hlt : i < n
    · have b1 : decide ((i : Int) < (n : Int)) = true := by simp; omega
      have b2 : decide (i < n) = true := by simp; omega
      obtain ⟨ao2, cap2, he, hcap, hcells⟩ := HA.out.kept nsE_ok HX.out (fun _ _ _ f => f)
      simp only [Value.slice.injEq] at he
      obtain ⟨rfl, hnl, rfl⟩ := he
      obtain ⟨b, o, rfl, hIb, hce⟩ := hcells (fun e => by rw [e] at hnl; simp at hnl; omega)
      have d0 := hce i (by omega) 0 (by decide)
      rw [Nat.mul_one, Nat.add_zero] at d0
      obtain ⟨ao3, cap3, he3, hcap3, hcells3⟩ := HB.out.kept nsE_ok HX.out (fun _ _ _ f => f)
      simp only [Value.slice.injEq] at he3
      obtain ⟨rfl, _, rfl⟩ := he3
      obtain ⟨b3, o3, rfl, hIb3, hce3⟩ := hcells3 (fun e => by rw [e] at hnl; simp at hnl; omega)
      have d3 := hce3 i (by omega) 0 (by decide)
      rw [Nat.mul_one, Nat.add_zero] at d3
      obtain ⟨t, ht⟩ : ∃ t, t = L[i]'(by omega) := ⟨_, rfl⟩
      rw [← ht] at d0 d3
      simp only [nsE, List.getElem?_cons_zero] at d0 d3
      have hiw : IntKind.i64.wrap ((i : Int) + 1) = ((i + 1 : Nat) : Int) := by have := HN.out.2; rw [IntKind.wrap_i64]; omega
      have i1 : (i : Int) < (n : Int) := by omega
      have i2 : (0 : Int) ≤ (i : Int) := by omega
      have HX2 := hid HX.out.drew
      clear hce hcells ht hnl hcap hce3 hcells3 hcap3
      go_wp2_with fail
      go_quiet (fail)
      go_wp2_with fail
      go_roundg (gk - 1)
      case measure => omega
      case rel => exact ⟨i + 1, by omega, by omega, by go_num, by first | exact HX2 | exact HX | exact hid (HX.out.drewN _)⟩
    · obtain rfl : i = n := by omega
      have b1 : decide ((i : Int) < (i : Int)) = false := by simp
      have b2 : decide (i < i) = false := by simp
      go_wp2_with fail
      go_ret
      exact ⟨rfl, Same.trans HK.out HX.out⟩

end Go.Proofs.Ytaefgnakdadgeaa
