/-
  Layer 19's laws: what is too much; two responses are the same.
-/
import Derived.Test.YtaefgnakdadgeaaWiLw
namespace Go.Proofs.Ytaefgnakdadgeaa
open Go.RowKit

set_option maxRecDepth 100000 in
set_option maxHeartbeats 1000000 in
theorem big19 (w : World) (q : Rq) : Calls Try.prog 9 #[.agg (rqV q)] w fun e w' => (∃ b, e = .returned (.bool b)) ∧ Same w w' := by
  obtain ⟨W1, hW1⟩ : ∃ W, W = w.alloc (.cells #[.int .i64 q.k, .int .i64 q.x, .string q.a, .string q.e, .string q.d, .int .i64 q.f, .int .i64 q.m, .string q.o] 24) := ⟨_, rfl⟩
  obtain ⟨p, hp⟩ : ∃ b, b = w.heap.size := ⟨_, rfl⟩
  have HK : Hid (Same w W1) := hid (by rw [hW1]; exact (Kept.refl _ w).alloc _)
  have hO : Ob W1 p 24 q.cs := by rw [hW1, hp]; exact obQ w q
  obtain ⟨c0, c1, c2, c3, c4, c5, c6, c7⟩ := hO.eight
  clear hO c0 c1 c5 c6
  unfold rqV
  obtain ⟨x2, h2⟩ : ∃ n, n = q.a.size := ⟨_, rfl⟩
  obtain ⟨x3, h3⟩ : ∃ n, n = q.e.size := ⟨_, rfl⟩
  obtain ⟨x4, h4⟩ : ∃ n, n = q.d.size := ⟨_, rfl⟩
  obtain ⟨x7, h7⟩ : ∃ n, n = q.o.size := ⟨_, rfl⟩
  have g2 : q.a.size = x2 := h2.symm
  have g3 : q.e.size = x3 := h3.symm
  have g4 : q.d.size = x4 := h4.symm
  have g7 : q.o.size = x7 := h7.symm
  clear h2 h3 h4 h7
  by_cases a2 : 1048576 < x2
  case' pos =>
    have e1 : decide ((1048576 : Int) < (x2 : Int)) = true := by simp; omega
    have e2 : decide (1048576 < x2) = true := by simp; omega
    clear a2
  case' neg =>
    have e1 : decide ((1048576 : Int) < (x2 : Int)) = false := by simp; omega
    have e2 : decide (1048576 < x2) = false := by simp; omega
    clear a2
    by_cases a3 : 1048576 < x3
    case' pos =>
      have e3 : decide ((1048576 : Int) < (x3 : Int)) = true := by simp; omega
      have e4 : decide (1048576 < x3) = true := by simp; omega
      clear a3
    case' neg =>
      have e3 : decide ((1048576 : Int) < (x3 : Int)) = false := by simp; omega
      have e4 : decide (1048576 < x3) = false := by simp; omega
      clear a3
      by_cases a4 : 1048576 < x4
      case' pos =>
        have e5 : decide ((1048576 : Int) < (x4 : Int)) = true := by simp; omega
        have e6 : decide (1048576 < x4) = true := by simp; omega
        clear a4
      case' neg =>
        have e5 : decide ((1048576 : Int) < (x4 : Int)) = false := by simp; omega
        have e6 : decide (1048576 < x4) = false := by simp; omega
        clear a4
  all_goals
    go_enter Try.func9, Try.ntmps9
    go_upto_region 1 with fail
    rw [← hW1, ← hp]
    clear hW1 hp
    go_wp2_with fail
    go_ret
    exact ⟨⟨_, rfl⟩, HK.out⟩

/-- What bigger tells. -/
def BgA (s : Rs) (L : List ByteArray) (w w' : World) (e : Ending) : Prop := (∃ b, e = .returned (.bool b) ∧ (b = false → s.d.size + L.length < 9223372036854775808 → s.d.size + L.length ≤ 1048576)) ∧ Same w w'

set_option maxRecDepth 100000 in
set_option maxHeartbeats 1000000 in
theorem bigger19 (w : World) (s : Rs) (ao : Option Addr) (n c : Nat) (L : List ByteArray) (hl : SrcC 1 nsE w (fun k => k < w.heap.size) (.slice ao n c) L) (hn : n ≤ 9223372036854775807) :
    Calls Try.prog 18 #[.agg (rsV s (.slice ao n c))] w fun e w' => BgA s L w w' e := by
  obtain ⟨W1, hW1⟩ : ∃ W, W = w.alloc (.cells #[.int .i64 s.c, .int .i64 s.x, .int .i64 s.a, .int .i64 s.z, .string s.d, .slice ao n c, .int .i64 s.b, .int .i64 s.e] 40) := ⟨_, rfl⟩
  obtain ⟨p, hp⟩ : ∃ b, b = w.heap.size := ⟨_, rfl⟩
  have hk1 : Same w W1 := by rw [hW1]; exact (Kept.refl _ w).alloc _
  have HK : Hid (Same w W1) := hid hk1
  have hO : Ob W1 p 40 (s.cs (.slice ao n c)) := by rw [hW1, hp]; exact obR w s _
  have HL := hid (hl.kept nsE_ok hk1 (fun _ _ _ f => f))
  have HN : Hid (n = L.length ∧ n ≤ 9223372036854775807) := hid (by obtain ⟨_, _, e, _⟩ := hl; simp only [Value.slice.injEq] at e; exact ⟨e.2.1, hn⟩)
  obtain ⟨c0, c1, c2, c3, c4, c5, c6, c7⟩ := hO.eightR
  clear hO c0 c1 c2 c3 c6 c7 hl hn hk1
  obtain ⟨x4, h4⟩ : ∃ n, n = s.d.size := ⟨_, rfl⟩
  have g4 : s.d.size = x4 := h4.symm
  have HX4 := hid g4
  obtain ⟨n0, hn0⟩ : ∃ x, x = IntKind.i64.wrap ((x4 : Int) + (n : Int)) := ⟨_, rfl⟩
  have hw0 : IntKind.i64.wrap ((x4 : Int) + (n : Int)) = n0 := hn0.symm
  have HN0 := hid hw0
  clear h4 hn0
  unfold rsV
  go_enter Try.func18, Try.ntmps18
  go_upto_region 1 with fail
  rw [← hW1, ← hp]
  clear hW1 hp
  go_wp2_with fail
  go_loopg [3, 4] n (fun k o z wr => ∃ (i : Nat) (m : Int), i ≤ n ∧ n - i ≤ k ∧ z = .int .i64 (i : Nat) ∧ o = .int .i64 m ∧ wr = W1 ∧ Hid (n0 ≤ 1048576 ∨ m = n0))
  case atStart => exact ⟨0, n0, by omega, by omega, rfl, rfl, rfl, hid (.inr rfl)⟩
  case round =>
    obtain ⟨i, m, hi, hk, rfl, rfl, rfl, HX⟩ := hrel
    by_cases hlt : i < n
    · have b1 : decide ((i : Int) < (n : Int)) = true := by simp; omega
      have b2 : decide (i < n) = true := by simp; omega
      by_cases hm : m ≤ 1048576
      · have b3 : decide (m ≤ 1048576) = true := by simp; omega
        obtain ⟨ao2, cap2, he, hcap, hcells⟩ := HL.out
        simp only [Value.slice.injEq] at he
        obtain ⟨rfl, hnl, rfl⟩ := he
        obtain ⟨b, o, rfl, hIb, hce⟩ := hcells (fun e => by rw [e] at hnl; simp at hnl; omega)
        have d0 := hce i (by omega) 0 (by decide)
        rw [Nat.mul_one, Nat.add_zero] at d0
        obtain ⟨t, ht⟩ : ∃ t, t = L[i]'(by omega) := ⟨_, rfl⟩
        rw [← ht] at d0
        simp only [nsE, List.getElem?_cons_zero] at d0
        have HX2 : Hid (n0 ≤ 1048576) := hid (by rcases HX.out with h | h; exact h; omega)
        have hiw : IntKind.i64.wrap ((i : Int) + 1) = ((i + 1 : Nat) : Int) := by have := HN.out.2; rw [IntKind.wrap_i64]; omega
        have i1 : (i : Int) < (n : Int) := by omega
        clear hce hcells ht hnl hcap hm
        go_wp2_with fail
        go_roundg (gk - 1)
        case measure => omega
        case rel => exact ⟨i + 1, _, by omega, by omega, by go_num, rfl, rfl, hid (.inl HX2.out)⟩
      · have b3 : decide (m ≤ 1048576) = false := by simp; omega
        have b4 : decide (1048576 < m) = true := by simp; omega
        clear hm
        go_wp2_with fail
        go_ret
        exact ⟨⟨_, rfl, fun h => by cases h⟩, HK.out⟩
    · obtain rfl : i = n := by omega
      have b1 : decide ((i : Int) < (i : Int)) = false := by simp
      have b2 : decide (i < i) = false := by simp
      obtain ⟨B, hB⟩ : ∃ B, B = decide (1048576 < m) := ⟨_, rfl⟩
      have b3 : decide (1048576 < m) = B := hB.symm
      have HB := hid b3
      clear hB
      go_wp2_with fail
      go_ret
      refine ⟨⟨_, rfl, fun h h2 => ?_⟩, HK.out⟩
      have h5 := HB.out
      have h6 := HN0.out
      have h7 := HN.out.1
      have h8 := HX4.out
      rw [← h7, h8] at h2 ⊢
      rw [IntKind.wrap_i64] at h6
      have h9 : ¬ (1048576 < m) := by
        have h10 : B = false := h
        rw [h10] at h5
        simpa using h5
      rcases HX.out with h1 | h1 <;> omega

end Go.Proofs.Ytaefgnakdadgeaa
