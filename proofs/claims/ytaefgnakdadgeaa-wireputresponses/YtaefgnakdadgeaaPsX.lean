/-
  Joined: WiBg, WiSm, WjF, CopyK, WiPs.
-/
import Derived.Test.YtaefgnakdadgeaaWiLw
import Derived.BigQuiet
import Derived.Test.YtaefgnakdadgeaaRefX
import Derived.Test.YtaefgnakdadgeaaRec
import Derived.Laws.CopyOwn
import Derived.Deep.RegionLaw

/-
  Layer 19's laws: what is too much; two responses are the same.
-/
namespace Go.Proofs.Ytaefgnakdadgeaa
open Go.RowKit

set_option maxRecDepth 100000 in
set_option maxHeartbeats 1000000 in
theorem big19 (w : World) (q : Rq) : Calls Try.prog 9 #[.agg (rqV q)] w fun e w' => (∃ b, e = .returned (.bool b)) ∧ Same w w' := by
  obtain ⟨W1, hW1⟩ : ∃ W, W = w.alloc (.cells #[.int .i64 q.k, .int .i64 q.x, .string q.a, .string q.e, .string q.d, .int .i64 q.f, .int .i64 q.m, .string q.o] 24) := ⟨_, rfl⟩
  obtain ⟨p, hp⟩ : ∃ b, b = w.heap.size := ⟨_, rfl⟩
  have HK : Hid (Same w W1) := hid (by rw [hW1]; exact (Kept.refl _ w).alloc _)
  have hO : Ob W1 p 24 q.cs := by rw [hW1, hp]; exact obQ w q
  obtain ⟨c0, c1, c2, c3, c4, c5, c6, c7⟩ := hO.eight
  clear hO c0 c1 c5 c6
  unfold rqV
  obtain ⟨x2, h2⟩ : ∃ n, n = q.a.size := ⟨_, rfl⟩
  obtain ⟨x3, h3⟩ : ∃ n, n = q.e.size := ⟨_, rfl⟩
  obtain ⟨x4, h4⟩ : ∃ n, n = q.d.size := ⟨_, rfl⟩
  obtain ⟨x7, h7⟩ : ∃ n, n = q.o.size := ⟨_, rfl⟩
  have g2 : q.a.size = x2 := h2.symm
  have g3 : q.e.size = x3 := h3.symm
  have g4 : q.d.size = x4 := h4.symm
  have g7 : q.o.size = x7 := h7.symm
  clear h2 h3 h4 h7
  by_cases a2 : 1048576 < x2
  case' pos =>
    have e1 : decide ((1048576 : Int) < (x2 : Int)) = true := by simp; omega
    have e2 : decide (1048576 < x2) = true := by simp; omega
    clear a2
  case' neg =>
    have e1 : decide ((1048576 : Int) < (x2 : Int)) = false := by simp; omega
    have e2 : decide (1048576 < x2) = false := by simp; omega
    clear a2
    by_cases a3 : 1048576 < x3
    case' pos =>
      have e3 : decide ((1048576 : Int) < (x3 : Int)) = true := by simp; omega
      have e4 : decide (1048576 < x3) = true := by simp; omega
      clear a3
    case' neg =>
      have e3 : decide ((1048576 : Int) < (x3 : Int)) = false := by simp; omega
      have e4 : decide (1048576 < x3) = false := by simp; omega
      clear a3
      by_cases a4 : 1048576 < x4
      case' pos =>
        have e5 : decide ((1048576 : Int) < (x4 : Int)) = true := by simp; omega
        have e6 : decide (1048576 < x4) = true := by simp; omega
        clear a4
      case' neg =>
        have e5 : decide ((1048576 : Int) < (x4 : Int)) = false := by simp; omega
        have e6 : decide (1048576 < x4) = false := by simp; omega
        clear a4
  all_goals
    go_enter Try.func9, Try.ntmps9
    go_upto_region 1 with fail
    rw [← hW1, ← hp]
    clear hW1 hp
    go_wp2_with fail
    go_ret
    exact ⟨⟨_, rfl⟩, HK.out⟩

/-- What bigger tells. -/
def BgA (s : Rs) (L : List ByteArray) (w w' : World) (e : Ending) : Prop := (∃ b, e = .returned (.bool b) ∧ (b = false → s.d.size + L.length < 9223372036854775808 → s.d.size + L.length ≤ 1048576)) ∧ Same w w'

set_option maxRecDepth 100000 in
set_option maxHeartbeats 1000000 in
theorem bigger19 (w : World) (s : Rs) (ao : Option Addr) (n c : Nat) (L : List ByteArray) (hl : SrcC 1 nsE w (fun k => k < w.heap.size) (.slice ao n c) L) (hn : n ≤ 9223372036854775807) :
    Calls Try.prog 18 #[.agg (rsV s (.slice ao n c))] w fun e w' => BgA s L w w' e := by
  obtain ⟨W1, hW1⟩ : ∃ W, W = w.alloc (.cells #[.int .i64 s.c, .int .i64 s.x, .int .i64 s.a, .int .i64 s.z, .string s.d, .slice ao n c, .int .i64 s.b, .int .i64 s.e] 40) := ⟨_, rfl⟩
  obtain ⟨p, hp⟩ : ∃ b, b = w.heap.size := ⟨_, rfl⟩
  have hk1 : Same w W1 := by rw [hW1]; exact (Kept.refl _ w).alloc _
  have HK : Hid (Same w W1) := hid hk1
  have hO : Ob W1 p 40 (s.cs (.slice ao n c)) := by rw [hW1, hp]; exact obR w s _
  have HL := hid (hl.kept nsE_ok hk1 (fun _ _ _ f => f))
  have HN : Hid (n = L.length ∧ n ≤ 9223372036854775807) := hid (by obtain ⟨_, _, e, _⟩ := hl; simp only [Value.slice.injEq] at e; exact ⟨e.2.1, hn⟩)
  obtain ⟨c0, c1, c2, c3, c4, c5, c6, c7⟩ := hO.eightR
  clear hO c0 c1 c2 c3 c6 c7 hl hn hk1
  obtain ⟨x4, h4⟩ : ∃ n, n = s.d.size := ⟨_, rfl⟩
  have g4 : s.d.size = x4 := h4.symm
  have HX4 := hid g4
  obtain ⟨n0, hn0⟩ : ∃ x, x = IntKind.i64.wrap ((x4 : Int) + (n : Int)) := ⟨_, rfl⟩
  have hw0 : IntKind.i64.wrap ((x4 : Int) + (n : Int)) = n0 := hn0.symm
  have HN0 := hid hw0
  clear h4 hn0
  unfold rsV
  go_enter Try.func18, Try.ntmps18
  go_upto_region 1 with fail
  rw [← hW1, ← hp]
  clear hW1 hp
  go_wp2_with fail
  go_loopg [3, 4] n (fun k o z wr => ∃ (i : Nat) (m : Int), i ≤ n ∧ n - i ≤ k ∧ z = .int .i64 (i : Nat) ∧ o = .int .i64 m ∧ wr = W1 ∧ Hid (n0 ≤ 1048576 ∨ m = n0))
  case atStart => exact ⟨0, n0, by omega, by omega, rfl, rfl, rfl, hid (.inr rfl)⟩
  case round =>
    obtain ⟨i, m, hi, hk, rfl, rfl, rfl, HX⟩ := hrel
    by_cases hlt : i < n
    · have b1 : decide ((i : Int) < (n : Int)) = true := by simp; omega
      have b2 : decide (i < n) = true := by simp; omega
      by_cases hm : m ≤ 1048576
      · have b3 : decide (m ≤ 1048576) = true := by simp; omega
        obtain ⟨ao2, cap2, he, hcap, hcells⟩ := HL.out
        simp only [Value.slice.injEq] at he
        obtain ⟨rfl, hnl, rfl⟩ := he
        obtain ⟨b, o, rfl, hIb, hce⟩ := hcells (fun e => by rw [e] at hnl; simp at hnl; omega)
        have d0 := hce i (by omega) 0 (by decide)
        rw [Nat.mul_one, Nat.add_zero] at d0
        obtain ⟨t, ht⟩ : ∃ t, t = L[i]'(by omega) := ⟨_, rfl⟩
        rw [← ht] at d0
        simp only [nsE, List.getElem?_cons_zero] at d0
        have HX2 : Hid (n0 ≤ 1048576) := hid (by rcases HX.out with h | h; exact h; omega)
        have hiw : IntKind.i64.wrap ((i : Int) + 1) = ((i + 1 : Nat) : Int) := by have := HN.out.2; rw [IntKind.wrap_i64]; omega
        have i1 : (i : Int) < (n : Int) := by omega
        clear hce hcells ht hnl hcap hm
        go_wp2_with fail
        go_roundg (gk - 1)
        case measure => omega
        case rel => exact ⟨i + 1, _, by omega, by omega, by go_num, rfl, rfl, hid (.inl HX2.out)⟩
      · have b3 : decide (m ≤ 1048576) = false := by simp; omega
        have b4 : decide (1048576 < m) = true := by simp; omega
        clear hm
        go_wp2_with fail
        go_ret
        exact ⟨⟨_, rfl, fun h => by cases h⟩, HK.out⟩
    · obtain rfl : i = n := by omega
      have b1 : decide ((i : Int) < (i : Int)) = false := by simp
      have b2 : decide (i < i) = false := by simp
      obtain ⟨B, hB⟩ : ∃ B, B = decide (1048576 < m) := ⟨_, rfl⟩
      have b3 : decide (1048576 < m) = B := hB.symm
      have HB := hid b3
      clear hB
      go_wp2_with fail
      go_ret
      refine ⟨⟨_, rfl, fun h h2 => ?_⟩, HK.out⟩
      have h5 := HB.out
      have h6 := HN0.out
      have h7 := HN.out.1
      have h8 := HX4.out
      rw [← h7, h8] at h2 ⊢
      rw [IntKind.wrap_i64] at h6
      have h9 : ¬ (1048576 < m) := by
        have h10 : B = false := h
        rw [h10] at h5
        simpa using h5
      rcases HX.out with h1 | h1 <;> omega

end Go.Proofs.Ytaefgnakdadgeaa

/-
  Layer 19's laws: two responses are the same.
-/
namespace Go.Proofs.Ytaefgnakdadgeaa
open Go.RowKit

set_option maxRecDepth 100000 in
set_option maxHeartbeats 1000000 in
theorem rsame19 (w : World) (s : Rs) (ao bo : Option Addr) (n c c' : Nat) (L : List ByteArray) (I J : Nat → Prop) (ha : SrcC 1 nsE w I (.slice ao n c) L) (hb : SrcC 1 nsE w J (.slice bo n c') L) (hn : n ≤ 9223372036854775807) :
    Calls Try.prog 21 #[.agg (rsV s (.slice ao n c)), .agg (rsV s (.slice bo n c'))] w fun e w' => e = .returned (.bool true) ∧ Same w w' := by
  obtain ⟨W1, hW1⟩ : ∃ W, W = w.alloc (.cells #[.int .i64 s.c, .int .i64 s.x, .int .i64 s.a, .int .i64 s.z, .string s.d, .slice ao n c, .int .i64 s.b, .int .i64 s.e] 40) := ⟨_, rfl⟩
  obtain ⟨W2, hW2⟩ : ∃ W, W = W1.alloc (.cells #[.int .i64 s.c, .int .i64 s.x, .int .i64 s.a, .int .i64 s.z, .string s.d, .slice bo n c', .int .i64 s.b, .int .i64 s.e] 40) := ⟨_, rfl⟩
  obtain ⟨p, hp⟩ : ∃ b, b = w.heap.size := ⟨_, rfl⟩
  have hp2 : W1.heap.size = p + 1 := by rw [hW1, hp]; simp
  have hk1 : Same w W1 := by rw [hW1]; exact (Kept.refl _ w).alloc _
  have hk2 : Same W1 W2 := by rw [hW2]; exact (Kept.refl _ W1).alloc _
  have hk : Same w W2 := Same.trans hk1 hk2
  have HK : Hid (Same w W2) := hid hk
  have hO1 : Ob W1 p 40 (s.cs (.slice ao n c)) := by rw [hW1, hp]; exact obR w s _
  have hO2 : Ob W2 (p + 1) 40 (s.cs (.slice bo n c')) := by rw [hW2, ← hp2]; exact obR W1 s _
  have HA := hid (ha.kept nsE_ok hk (fun _ _ _ f => f))
  have HB := hid (hb.kept nsE_ok hk (fun _ _ _ f => f))
  have HN : Hid (n = L.length ∧ n ≤ 9223372036854775807) := hid (by obtain ⟨_, _, e, _⟩ := ha; simp only [Value.slice.injEq] at e; exact ⟨e.2.1, hn⟩)
  obtain ⟨c0, c1, c2, c3, c4, c5, c6, c7⟩ := (hO1.kept hk2 (fun f => f)).eightR
  obtain ⟨e0, e1, e2, e3, e4, e5, e6, e7⟩ := hO2.eightR
  obtain ⟨p2, hpp⟩ : ∃ b, b = p + 1 := ⟨_, rfl⟩
  rw [← hpp] at e0 e1 e2 e3 e4 e5 e6 e7
  clear hO1 hO2 ha hb hn hk1 hk2 hk hp2
  unfold rsV
  go_enter Try.func21, Try.ntmps21
  go_upto_region 1 with fail
  rw [← hp, ← hW1, ← hW2, ← hpp]
  clear hW1 hW2 hp hpp
  go_wp2_with fail
  go_loopg [5] n (fun k z wr => ∃ i : Nat, i ≤ n ∧ n - i ≤ k ∧ z = .int .i64 (i : Nat) ∧ Hid (Same W2 wr))
  case atStart => exact ⟨0, by omega, by omega, rfl, hid (Kept.refl _ _)⟩
  case round =>
    obtain ⟨i, hi, hk, rfl, HX⟩ := hrel
    have c5' := HX.out.cell c5 (fun f => f)
    have e5' := HX.out.cell e5 (fun f => f)
    by_cases hlt : i < n
    · have b1 : decide ((i : Int) < (n : Int)) = true := by simp; omega
      have b2 : decide (i < n) = true := by simp; omega
      obtain ⟨ao2, cap2, he, hcap, hcells⟩ := HA.out.kept nsE_ok HX.out (fun _ _ _ f => f)
      simp only [Value.slice.injEq] at he
      obtain ⟨rfl, hnl, rfl⟩ := he
      obtain ⟨b, o, rfl, hIb, hce⟩ := hcells (fun e => by rw [e] at hnl; simp at hnl; omega)
      have d0 := hce i (by omega) 0 (by decide)
      rw [Nat.mul_one, Nat.add_zero] at d0
      obtain ⟨ao3, cap3, he3, hcap3, hcells3⟩ := HB.out.kept nsE_ok HX.out (fun _ _ _ f => f)
      simp only [Value.slice.injEq] at he3
      obtain ⟨rfl, _, rfl⟩ := he3
      obtain ⟨b3, o3, rfl, hIb3, hce3⟩ := hcells3 (fun e => by rw [e] at hnl; simp at hnl; omega)
      have d3 := hce3 i (by omega) 0 (by decide)
      rw [Nat.mul_one, Nat.add_zero] at d3
      obtain ⟨t, ht⟩ : ∃ t, t = L[i]'(by omega) := ⟨_, rfl⟩
      rw [← ht] at d0 d3
      simp only [nsE, List.getElem?_cons_zero] at d0 d3
      have hiw : IntKind.i64.wrap ((i : Int) + 1) = ((i + 1 : Nat) : Int) := by have := HN.out.2; rw [IntKind.wrap_i64]; omega
      have i1 : (i : Int) < (n : Int) := by omega
      have i2 : (0 : Int) ≤ (i : Int) := by omega
      have HX2 := hid HX.out.drew
      clear hce hcells ht hnl hcap hce3 hcells3 hcap3
      go_wp2_with fail
      go_quiet (fail)
      go_wp2_with fail
      go_roundg (gk - 1)
      case measure => omega
      case rel => exact ⟨i + 1, by omega, by omega, by go_num, by first | exact HX2 | exact HX | exact hid (HX.out.drewN _)⟩
    · obtain rfl : i = n := by omega
      have b1 : decide ((i : Int) < (i : Int)) = false := by simp
      have b2 : decide (i < i) = false := by simp
      go_wp2_with fail
      go_ret
      exact ⟨rfl, Same.trans HK.out HX.out⟩

end Go.Proofs.Ytaefgnakdadgeaa

/-
  Layer 19, the reference: PutResponse.
-/
namespace Go.Proofs.Ytaefgnakdadgeaa
open Go.RowKit

/-- Is a number of a response bad? -/
def badR (s : Rs) : Prop := win s.x = false ∨ win s.a = false ∨ win s.z = false ∨ win s.b = false ∨ win s.e = false

theorem wrongR_one (s : Rs) : wrongR s = 1 ↔ badR s := by
  unfold wrongR
  rw [wrongL_num]
  unfold fdR badR
  simp [wrongF, Rs.cs, numA_one, txt_one]

theorem wrongR_two (s : Rs) (h : ¬ badR s) : wrongR s = if 16384 < s.d.size then 2 else 0 := by
  unfold wrongR
  rw [wrongL_big (fun h9 => h ((wrongR_one s).1 (by unfold wrongR; exact wrongL_num.2 h9)))]
  have : (∃ f ∈ fdR, wrongF (s.cs (.slice none 0 0)) f = 2) ↔ 16384 < s.d.size := by
    unfold fdR
    simp [wrongF, Rs.cs, numA_two]
  by_cases h2 : 16384 < s.d.size
  · rw [if_pos h2, if_pos (this.2 h2)]
  · rw [if_neg h2, if_neg (fun h9 => h2 (this.1 h9))]

theorem rerr_is (s : Rs) (L : List ByteArray) : ((s.c < 0 ∨ 65535 < s.c) → rerr s L = 1) ∧ (¬ (s.c < 0 ∨ 65535 < s.c) → badR s → rerr s L = 1) ∧ (¬ (s.c < 0 ∨ 65535 < s.c) → ¬ badR s → 16384 < s.d.size → rerr s L = 2) ∧ (¬ (s.c < 0 ∨ 65535 < s.c) → ¬ badR s → ¬ 16384 < s.d.size → tooL L = true → rerr s L = 2) ∧ (¬ (s.c < 0 ∨ 65535 < s.c) → ¬ badR s → ¬ 16384 < s.d.size → tooL L = false → 20000 < (rsB s L).length → rerr s L = 2) ∧ (¬ (s.c < 0 ∨ 65535 < s.c) → ¬ badR s → ¬ 16384 < s.d.size → tooL L = false → ¬ 20000 < (rsB s L).length → rerr s L = 0) := by
  unfold rerr
  refine ⟨fun h => by rw [if_pos h], fun h h2 => ?_, fun h h2 h3 => ?_, fun h h2 h3 h4 => ?_, fun h h2 h3 h4 h5 => ?_, fun h h2 h3 h4 h5 => ?_⟩
  · have := (wrongR_one s).2 h2
    rw [if_neg h, if_pos (by omega), this]
  · have := wrongR_two s h2
    rw [if_pos h3] at this
    rw [if_neg h, if_pos (by omega), this]
  all_goals
    have := wrongR_two s h2
    rw [if_neg h3] at this
    rw [if_neg h, if_neg (by omega)]
  · rw [if_pos h4]
  · rw [if_neg (by rw [h4]; decide), if_pos h5]
  · rw [if_neg (by rw [h4]; decide), if_neg h5]

theorem win_nat19 {x : Int} (h : win x = true) : ∃ n : Nat, x = (n : Int) ∧ x.toNat = n ∧ n < 4294967296 := by
  unfold win at h
  simp only [decide_eq_true_eq] at h
  exact ⟨x.toNat, by omega, rfl, by omega⟩

theorem tooL_mem {L : List ByteArray} {s : ByteArray} (h : s ∈ L) (h2 : 255 < s.size) : tooL L = true := by
  unfold tooL
  rw [Bool.or_eq_true]
  exact .inr (List.any_eq_true.2 ⟨s, h, by simpa using h2⟩)

theorem tooL_not {L : List ByteArray} (h : ∀ s ∈ L, s.size ≤ 255) (h2 : L.length ≤ 64) : tooL L = false := by
  unfold tooL
  rw [Bool.or_eq_false_iff]
  refine ⟨by simp; omega, ?_⟩
  rw [List.any_eq_false]
  intro g hg
  have := h g hg
  simp; omega

set_option maxRecDepth 100000 in
set_option maxHeartbeats 2000000 in
theorem rputres19 (w : World) (s : Rs) (ao : Option Addr) (n c : Nat) (L : List ByteArray) (hl : SrcC 1 nsE w (fun k => k < w.heap.size) (.slice ao n c) L) :
    Calls Try.prog 20 #[.agg (rsV s (.slice ao n c))] w fun e w' => PutA w w' (rerr s L) (prB s L) e := by
  obtain ⟨W1, hW1⟩ : ∃ W, W = w.alloc (.cells #[.int .i64 s.c, .int .i64 s.x, .int .i64 s.a, .int .i64 s.z, .string s.d, .slice ao n c, .int .i64 s.b, .int .i64 s.e] 40) := ⟨_, rfl⟩
  obtain ⟨p, hp⟩ : ∃ b, b = w.heap.size := ⟨_, rfl⟩
  have hk1 : Same w W1 := by rw [hW1]; exact (Kept.refl _ w).alloc _
  have HK := hid hk1
  have hO : Ob W1 p 40 (s.cs (.slice ao n c)) := by rw [hW1, hp]; exact obR w s _
  have HB := hid hO
  have HL := hid (hl.kept nsE_ok hk1 (fun _ _ _ f => f))
  have HN : Hid (n = L.length) := hid (by obtain ⟨_, _, e, _⟩ := hl; simp only [Value.slice.injEq] at e; exact e.2.1)
  obtain ⟨hA, hB, hC, hD, hE, hF⟩ := rerr_is s L
  have HE1 := hid hA
  have HE2 := hid hB
  have HE3 := hid hC
  have HE4 := hid hD
  have HE5 := hid hE
  have HE6 := hid hF
  obtain ⟨c0, c1, c2, c3, c4, c5, c6, c7⟩ := hO.eightR
  clear hO hl hk1 hA hB hC hD hE hF
  unfold rsV
  go_enter Try.func20, Try.ntmps20
  go_upto_region 1 with fail
  rw [← hW1, ← hp]
  clear hW1 hp
  by_cases h1 : s.c < 0
  · have HE := hid (HE1.out (.inl h1))
    have d1 : decide (s.c < 0) = true := by simp; omega
    clear h1
    go_wp2_with fail
    go_ret2
    exact putA_bad HE.out (by decide) HK.out
  by_cases h2 : 65535 < s.c
  · have HE := hid (HE1.out (.inr h2))
    have d1 : decide (s.c < 0) = false := by simp; omega
    have d2 : decide (65535 < s.c) = true := by simp; omega
    clear h1 h2
    go_wp2_with fail
    go_ret2
    exact putA_bad HE.out (by decide) HK.out
  have d1 : decide (s.c < 0) = false := by simp; omega
  have d2 : decide (65535 < s.c) = false := by simp; omega
  have HC : Hid (¬ (s.c < 0 ∨ 65535 < s.c)) := hid (by omega)
  obtain ⟨cn, hcn, hcn2, hcn3⟩ : ∃ cn : Nat, s.c = (cn : Int) ∧ s.c.toNat = cn ∧ cn < 65536 := ⟨s.c.toNat, by omega, rfl, by omega⟩
  have HCN : Hid (s.c = (cn : Int) ∧ s.c.toNat = cn ∧ cn < 65536) := hid ⟨hcn, hcn2, hcn3⟩
  obtain ⟨M, hM⟩ : ∃ M, M = cn % 256 := ⟨_, rfl⟩
  obtain ⟨D, hD⟩ : ∃ D, D = cn / 256 := ⟨_, rfl⟩
  have m1 : Int.tmod s.c 256 = (M : Int) := by rw [hcn, Int.tmod_eq_emod_of_nonneg (by omega)]; omega
  have m2 : s.c % 256 = (M : Int) := by omega
  have m3 : Int.tdiv s.c 256 = (D : Int) := by rw [hcn, Int.tdiv_eq_ediv_of_nonneg (by omega)]; omega
  have m4 : s.c / 256 = (D : Int) := by omega
  have m5 : IntKind.u8.wrap (M : Int) = (M : Int) := by rw [IntKind.wrap_u8]; omega
  have m6 : IntKind.i64.wrap (D : Int) = (D : Int) := by rw [IntKind.wrap_i64]; omega
  have m7 : IntKind.i64.wrap (M : Int) = (M : Int) := by rw [IntKind.wrap_i64]; omega
  have m8 : IntKind.u8.wrap (D : Int) = (D : Int) := by rw [IntKind.wrap_u8]; omega
  have HLE : Hid (leOf s.c.toNat 2 = [M, D]) := hid (by rw [hcn2, rtext19_bytes, ← hM, hD, Nat.mod_eq_of_lt (by omega)])
  clear h1 h2 hcn hcn2 hcn3 hM hD
  have HW := rwithin19 W1 s.x
  cases hw : win s.x with
  | false =>
    have HE := hid (HE2.out HC.out (.inl hw))
    rw [hw] at HW
    clear hw
    go_wp2_with fail
    refine HW.mono ?_
    rintro e w4 ⟨rfl, hw4⟩
    rw [hw4]
    clear hw4 HW
    go_wp2_with fail
    go_ret2
    exact putA_bad HE.out (by decide) HK.out
  | true =>
  have HVx := hid hw
  rw [hw] at HW
  clear hw
  go_wp2_with fail
  refine HW.mono ?_
  rintro e w4 ⟨rfl, hw4⟩
  rw [hw4]
  clear hw4 HW
  have HW := rwithin19 W1 s.a
  cases hw : win s.a with
  | false =>
    have HE := hid (HE2.out HC.out (.inr (.inl hw)))
    rw [hw] at HW
    clear hw
    go_wp2_with fail
    refine HW.mono ?_
    rintro e w4 ⟨rfl, hw4⟩
    rw [hw4]
    clear hw4 HW
    go_wp2_with fail
    go_ret2
    exact putA_bad HE.out (by decide) HK.out
  | true =>
  have HVa := hid hw
  rw [hw] at HW
  clear hw
  go_wp2_with fail
  refine HW.mono ?_
  rintro e w4 ⟨rfl, hw4⟩
  rw [hw4]
  clear hw4 HW
  have HW := rwithin19 W1 s.z
  cases hw : win s.z with
  | false =>
    have HE := hid (HE2.out HC.out (.inr (.inr (.inl hw))))
    rw [hw] at HW
    clear hw
    go_wp2_with fail
    refine HW.mono ?_
    rintro e w4 ⟨rfl, hw4⟩
    rw [hw4]
    clear hw4 HW
    go_wp2_with fail
    go_ret2
    exact putA_bad HE.out (by decide) HK.out
  | true =>
  have HVz := hid hw
  rw [hw] at HW
  clear hw
  go_wp2_with fail
  refine HW.mono ?_
  rintro e w4 ⟨rfl, hw4⟩
  rw [hw4]
  clear hw4 HW
  have HW := rwithin19 W1 s.b
  cases hw : win s.b with
  | false =>
    have HE := hid (HE2.out HC.out (.inr (.inr (.inr (.inl hw)))))
    rw [hw] at HW
    clear hw
    go_wp2_with fail
    refine HW.mono ?_
    rintro e w4 ⟨rfl, hw4⟩
    rw [hw4]
    clear hw4 HW
    go_wp2_with fail
    go_ret2
    exact putA_bad HE.out (by decide) HK.out
  | true =>
  have HVb := hid hw
  rw [hw] at HW
  clear hw
  go_wp2_with fail
  refine HW.mono ?_
  rintro e w4 ⟨rfl, hw4⟩
  rw [hw4]
  clear hw4 HW
  have HW := rwithin19 W1 s.e
  cases hw : win s.e with
  | false =>
    have HE := hid (HE2.out HC.out (.inr (.inr (.inr (.inr (hw))))))
    rw [hw] at HW
    clear hw
    go_wp2_with fail
    refine HW.mono ?_
    rintro e w4 ⟨rfl, hw4⟩
    rw [hw4]
    clear hw4 HW
    go_wp2_with fail
    go_ret2
    exact putA_bad HE.out (by decide) HK.out
  | true =>
  have HVe := hid hw
  rw [hw] at HW
  clear hw
  go_wp2_with fail
  refine HW.mono ?_
  rintro e w4 ⟨rfl, hw4⟩
  rw [hw4]
  clear hw4 HW
  have HNB : Hid (¬ badR s) := hid (by unfold badR; rw [HVx.out, HVa.out, HVz.out, HVb.out, HVe.out]; simp)
  obtain ⟨sz, hsz⟩ : ∃ n, n = s.d.size := ⟨_, rfl⟩
  have hsz' : s.d.size = sz := hsz.symm
  have HS := hid hsz'
  clear hsz
  by_cases l1 : 16384 < sz
  · have HE := hid (HE3.out HC.out HNB.out (by rw [HS.out]; exact l1))
    have e1 : decide ((16384 : Int) < (sz : Int)) = true := by simp; omega
    have e2 : decide (16384 < sz) = true := by simp; omega
    clear l1
    go_wp2_with fail
    go_ret2
    exact putA_bad HE.out (by decide) HK.out
  have e1 : decide ((16384 : Int) < (sz : Int)) = false := by simp; omega
  have e2 : decide (16384 < sz) = false := by simp; omega
  have HS2 : Hid (s.d.size = sz ∧ sz ≤ 16384) := hid ⟨hsz', by omega⟩
  by_cases l2 : 64 < n
  · have HE := hid (HE4.out HC.out HNB.out (by rw [HS.out]; exact l1) (by unfold tooL; rw [← HN.out]; simp [l2]))
    have e3 : decide ((64 : Int) < (n : Int)) = true := by simp; omega
    have e4 : decide (64 < n) = true := by simp; omega
    clear l1 l2
    go_wp2_with fail
    go_ret2
    exact putA_bad HE.out (by decide) HK.out
  have e3 : decide ((64 : Int) < (n : Int)) = false := by simp; omega
  have e4 : decide (64 < n) = false := by simp; omega
  have HN2 : Hid (n = L.length ∧ n ≤ 64 ∧ ¬ 16384 < s.d.size) := hid ⟨HN.out, by omega, by omega⟩
  have hnw : IntKind.u8.wrap (n : Int) = (n : Int) := by rw [IntKind.wrap_u8]; omega
  clear l1 l2
  obtain ⟨yx, hxx, htx, hlx⟩ := win_nat19 HVx.out
  obtain ⟨ya, hxa, hta, hla⟩ := win_nat19 HVa.out
  obtain ⟨yz, hxz, htz, hlz⟩ := win_nat19 HVz.out
  obtain ⟨yb, hxb, htb, hlb⟩ := win_nat19 HVb.out
  obtain ⟨ye, hxe, hte, hle⟩ := win_nat19 HVe.out
  have HX : Hid (s.x = (yx : Int) ∧ s.a = (ya : Int) ∧ s.z = (yz : Int) ∧ s.b = (yb : Int) ∧ s.e = (ye : Int)) := hid ⟨hxx, hxa, hxz, hxb, hxe⟩
  have HY : Hid (s.x.toNat = yx ∧ s.a.toNat = ya ∧ s.z.toNat = yz ∧ s.b.toNat = yb ∧ s.e.toNat = ye) := hid ⟨htx, hta, htz, htb, hte⟩
  have HNx : Hid (∀ w v bs n, Fresh W1 w v bs → bs.length ≤ n * 20000 → n ≤ 20 → Calls Try.prog 31 #[v, .int .i64 (yx : Nat)] w fun e w' => ∃ v', e = .returned v' ∧ Fresh W1 w' v' (bs ++ leOf yx 4) ∧ (bs ++ leOf yx 4).length ≤ (n + 1) * 20000) := hid (fun w v bs n h hb hn => (rnumber19 W1 w v bs h yx hlx (by omega)).mono (fun e w' ⟨v', h1, h2⟩ => ⟨v', h1, h2, by rw [List.length_append, leOf_length]; omega⟩))
  have HNa : Hid (∀ w v bs n, Fresh W1 w v bs → bs.length ≤ n * 20000 → n ≤ 20 → Calls Try.prog 31 #[v, .int .i64 (ya : Nat)] w fun e w' => ∃ v', e = .returned v' ∧ Fresh W1 w' v' (bs ++ leOf ya 4) ∧ (bs ++ leOf ya 4).length ≤ (n + 1) * 20000) := hid (fun w v bs n h hb hn => (rnumber19 W1 w v bs h ya hla (by omega)).mono (fun e w' ⟨v', h1, h2⟩ => ⟨v', h1, h2, by rw [List.length_append, leOf_length]; omega⟩))
  have HNz : Hid (∀ w v bs n, Fresh W1 w v bs → bs.length ≤ n * 20000 → n ≤ 20 → Calls Try.prog 31 #[v, .int .i64 (yz : Nat)] w fun e w' => ∃ v', e = .returned v' ∧ Fresh W1 w' v' (bs ++ leOf yz 4) ∧ (bs ++ leOf yz 4).length ≤ (n + 1) * 20000) := hid (fun w v bs n h hb hn => (rnumber19 W1 w v bs h yz hlz (by omega)).mono (fun e w' ⟨v', h1, h2⟩ => ⟨v', h1, h2, by rw [List.length_append, leOf_length]; omega⟩))
  have HNb : Hid (∀ w v bs n, Fresh W1 w v bs → bs.length ≤ n * 20000 → n ≤ 20 → Calls Try.prog 31 #[v, .int .i64 (yb : Nat)] w fun e w' => ∃ v', e = .returned v' ∧ Fresh W1 w' v' (bs ++ leOf yb 4) ∧ (bs ++ leOf yb 4).length ≤ (n + 1) * 20000) := hid (fun w v bs n h hb hn => (rnumber19 W1 w v bs h yb hlb (by omega)).mono (fun e w' ⟨v', h1, h2⟩ => ⟨v', h1, h2, by rw [List.length_append, leOf_length]; omega⟩))
  have HNe : Hid (∀ w v bs n, Fresh W1 w v bs → bs.length ≤ n * 20000 → n ≤ 20 → Calls Try.prog 31 #[v, .int .i64 (ye : Nat)] w fun e w' => ∃ v', e = .returned v' ∧ Fresh W1 w' v' (bs ++ leOf ye 4) ∧ (bs ++ leOf ye 4).length ≤ (n + 1) * 20000) := hid (fun w v bs n h hb hn => (rnumber19 W1 w v bs h ye hle (by omega)).mono (fun e w' ⟨v', h1, h2⟩ => ⟨v', h1, h2, by rw [List.length_append, leOf_length]; omega⟩))
  have HNd : Hid (∀ w v bs n, Fresh W1 w v bs → bs.length ≤ n * 20000 → n ≤ 20 → Calls Try.prog 32 #[v, .string s.d] w fun e w' => ∃ v', e = .returned v' ∧ Fresh W1 w' v' (bs ++ (leOf s.d.size 2 ++ sb s.d)) ∧ (bs ++ (leOf s.d.size 2 ++ sb s.d)).length ≤ (n + 1) * 20000) := hid (fun w v bs n h hb hn => (rtext19 W1 w v bs h s.d (by have := HS2.out; omega) (by omega)).mono (fun e w' ⟨v', h1, h2⟩ => ⟨v', h1, h2, by have := HS2.out; rw [List.length_append, List.length_append, leOf_length, sb_size]; omega⟩))
  obtain ⟨W5, hW5⟩ : ∃ W, W = W1.alloc (.cells #[.int .u8 (M : Nat), .int .u8 (D : Nat)] 5) := ⟨_, rfl⟩
  obtain ⟨xb, hxb'⟩ : ∃ b, b = W1.heap.size := ⟨_, rfl⟩
  have hf : Fresh W1 W5 (.slice (some ⟨xb, 0, none⟩) 2 2) [M, D] := by rw [hW5, hxb']; exact fresh_lit W1 W1 (Kept.refl _ _) [M, D] 2 rfl (by decide)
  have HF : Hid (Fresh W1 W5 (.slice (some ⟨xb, 0, none⟩) 2 2) [M, D] ∧ [M, D].length ≤ 1 * 20000) := hid ⟨hf, by simp⟩
  go_upto_region 6 with fail
  rw [← hW5, ← hxb']
  clear hW5 hxb'
  obtain ⟨c0, c1, c2, c3, c4, c5, c6, c7⟩ := (HB.out.kept hf.kept (fun f => f)).eightR
  rw [HX.out.1] at c1
  rw [HX.out.2.1] at c2
  rw [HX.out.2.2.1] at c3
  rw [HX.out.2.2.2.1] at c6
  rw [HX.out.2.2.2.2] at c7
  clear hf hxx htx hlx hxa hta hla hxz htz hlz hxb htb hlb hxe hte hle m1 m2 m3 m4 m5 m6 m7 m8 d1 d2 e1 e2 e3 e4
  go_wp2_with fail
  refine (HNx.out _ _ _ 1 HF.out.1 HF.out.2 (by decide)).mono ?_
  rintro e wn ⟨vn, rfl, hfn, hln⟩
  have HF := hid (And.intro hfn hln)
  obtain ⟨c0, c1, c2, c3, c4, c5, c6, c7⟩ := (HB.out.kept hfn.kept (fun f => f)).eightR
  rw [HX.out.1] at c1
  rw [HX.out.2.1] at c2
  rw [HX.out.2.2.1] at c3
  rw [HX.out.2.2.2.1] at c6
  rw [HX.out.2.2.2.2] at c7
  clear hfn hln
  go_wp2_with fail
  refine (HNa.out _ _ _ 2 HF.out.1 HF.out.2 (by decide)).mono ?_
  rintro e wn ⟨vn, rfl, hfn, hln⟩
  have HF := hid (And.intro hfn hln)
  obtain ⟨c0, c1, c2, c3, c4, c5, c6, c7⟩ := (HB.out.kept hfn.kept (fun f => f)).eightR
  rw [HX.out.1] at c1
  rw [HX.out.2.1] at c2
  rw [HX.out.2.2.1] at c3
  rw [HX.out.2.2.2.1] at c6
  rw [HX.out.2.2.2.2] at c7
  clear hfn hln
  go_wp2_with fail
  refine (HNz.out _ _ _ 3 HF.out.1 HF.out.2 (by decide)).mono ?_
  rintro e wn ⟨vn, rfl, hfn, hln⟩
  have HF := hid (And.intro hfn hln)
  obtain ⟨c0, c1, c2, c3, c4, c5, c6, c7⟩ := (HB.out.kept hfn.kept (fun f => f)).eightR
  rw [HX.out.1] at c1
  rw [HX.out.2.1] at c2
  rw [HX.out.2.2.1] at c3
  rw [HX.out.2.2.2.1] at c6
  rw [HX.out.2.2.2.2] at c7
  clear hfn hln
  go_wp2_with fail
  refine (HNb.out _ _ _ 4 HF.out.1 HF.out.2 (by decide)).mono ?_
  rintro e wn ⟨vn, rfl, hfn, hln⟩
  have HF := hid (And.intro hfn hln)
  obtain ⟨c0, c1, c2, c3, c4, c5, c6, c7⟩ := (HB.out.kept hfn.kept (fun f => f)).eightR
  rw [HX.out.1] at c1
  rw [HX.out.2.1] at c2
  rw [HX.out.2.2.1] at c3
  rw [HX.out.2.2.2.1] at c6
  rw [HX.out.2.2.2.2] at c7
  clear hfn hln
  go_wp2_with fail
  refine (HNe.out _ _ _ 5 HF.out.1 HF.out.2 (by decide)).mono ?_
  rintro e wn ⟨vn, rfl, hfn, hln⟩
  have HF := hid (And.intro hfn hln)
  obtain ⟨c0, c1, c2, c3, c4, c5, c6, c7⟩ := (HB.out.kept hfn.kept (fun f => f)).eightR
  rw [HX.out.1] at c1
  rw [HX.out.2.1] at c2
  rw [HX.out.2.2.1] at c3
  rw [HX.out.2.2.2.1] at c6
  rw [HX.out.2.2.2.2] at c7
  clear hfn hln
  go_wp2_with fail
  refine (HNd.out _ _ _ 6 HF.out.1 HF.out.2 (by decide)).mono ?_
  rintro e wn ⟨vn, rfl, hfn, hln⟩
  have HF := hid (And.intro hfn hln)
  obtain ⟨c0, c1, c2, c3, c4, c5, c6, c7⟩ := (HB.out.kept hfn.kept (fun f => f)).eightR
  rw [HX.out.1] at c1
  rw [HX.out.2.1] at c2
  rw [HX.out.2.2.1] at c3
  rw [HX.out.2.2.2.1] at c6
  rw [HX.out.2.2.2.2] at c7
  clear hfn hln
  obtain ⟨pre, hpre⟩ : ∃ b, b = leOf s.c.toNat 2 ++ layR s := ⟨_, rfl⟩
  have HPRE : Hid (pre = leOf s.c.toNat 2 ++ layR s ∧ pre.length ≤ 140000) := hid ⟨hpre, by
    have h9 := HF.out.2
    have h8 : pre = _ := hpre
    rw [h8]
    unfold layR
    rw [HLE.out, HY.out.1, HY.out.2.1, HY.out.2.2.1, HY.out.2.2.2.1, HY.out.2.2.2.2]
    simp only [List.append_assoc] at h9
    exact h9⟩
  have HFP : Hid (Fresh W1 wn vn pre) := hid (by
    have h9 := HF.out.1
    rw [hpre]
    unfold layR
    rw [HLE.out, HY.out.1, HY.out.2.1, HY.out.2.2.1, HY.out.2.2.2.1, HY.out.2.2.2.2]
    simp only [List.append_assoc] at h9
    exact h9)
  clear hpre
  go_wp2_with (at_builtin; refine wpList_append_row _ rfl (.tmp 91) (.tmp 96) rfl vn pre rfl (World.ownsRow.alloc HFP.out.row _) ⟨wn.heap.size, 0, none⟩ 1 1 [n] rfl rfl (bytesAt_int _ _ _ (by first | rfl | (simp; omega))) (by have := HPRE.out.2; simp; omega) ?_)
  intro v2 w2 hr2 hg2 ho2
  have HF2 : Hid (Fresh W1 w2 v2 (pre ++ [n])) := hid (HFP.out.app hr2 hg2 (by simpa using ho2))
  clear hr2 hg2 ho2 c0 c1 c2 c3 c4 c5 c6 c7
  go_wp2_with fail
  go_loopg [4, 5] n (fun k o z wr => ∃ i : Nat, i ≤ n ∧ n - i ≤ k ∧ z = .int .i64 (i : Nat) ∧ Hid (Fresh W1 wr o (pre ++ n :: nmL (L.take i)) ∧ ∀ t ∈ L.take i, t.size ≤ 255))
  case atStart => exact ⟨0, by omega, by omega, rfl, hid ⟨by simpa [nmL] using HF2.out, fun t ht => by simp at ht⟩⟩
  case round =>
    obtain ⟨i, hi, hk, rfl, HX2⟩ := hrel
    obtain ⟨vo, hvo⟩ : ∃ x, x = u4 := ⟨_, rfl⟩
    rw [← hvo] at HX2 ⊢
    clear hvo
    obtain ⟨c0, c1, c2, c3, c4, c5, c6, c7⟩ := (HB.out.kept HX2.out.1.kept (fun f => f)).eightR
    clear c0 c1 c2 c3 c4 c6 c7
    by_cases hlt : i < n
    · have b1 : decide ((i : Int) < (n : Int)) = true := by simp; omega
      have b2 : decide (i < n) = true := by simp; omega
      obtain ⟨ao2, cap2, he, hcap, hcells⟩ := HL.out
      simp only [Value.slice.injEq] at he
      obtain ⟨rfl, hnl, rfl⟩ := he
      obtain ⟨b, o, rfl, hIb, hce⟩ := hcells (fun e => by rw [e] at hnl; simp at hnl; omega)
      have d0W := hce i (by omega) 0 (by decide)
      rw [Nat.mul_one, Nat.add_zero] at d0W
      obtain ⟨t, hte⟩ : ∃ t, t = L[i]'(by omega) := ⟨_, rfl⟩
      rw [← hte] at d0W
      simp only [nsE, List.getElem?_cons_zero] at d0W
      have HD0 := hid d0W
      have d0 := HX2.out.1.kept.cell d0W (fun f => f)
      have HMEM : Hid (t ∈ L) := hid (by rw [hte]; exact List.getElem_mem _)
      have HFE : Hid (nmL (L.take (i + 1)) = nmL (L.take i) ++ t.size :: sb t ∧ L.take (i + 1) = L.take i ++ [t]) := hid (by rw [hte]; exact ⟨nmL_take L i (by omega), List.take_succ_eq_append_getElem (by omega)⟩)
      obtain ⟨m, hm⟩ : ∃ m, m = t.size := ⟨_, rfl⟩
      rw [← hm] at HFE
      have hm9 : t.size = m := hm.symm
      have HM := hid hm
      have hiw : IntKind.i64.wrap ((i : Int) + 1) = ((i + 1 : Nat) : Int) := by have := HN2.out; rw [IntKind.wrap_i64]; omega
      have i1 : (i : Int) < (n : Int) := by omega
      clear hce hcells hte hnl hcap hm d0W
      by_cases hbig : 255 < m
      · have b3 : decide ((255 : Int) < (m : Int)) = true := by simp; omega
        have b4 : decide (255 < m) = true := by simp; omega
        have HE := hid (HE4.out HC.out HNB.out HN2.out.2.2 (tooL_mem HMEM.out (by rw [← HM.out]; exact hbig)))
        clear hbig
        go_wp2_with fail
        go_ret2
        exact putA_bad HE.out (by decide) (Same.trans HK.out HX2.out.1.kept)
      · have b3 : decide ((255 : Int) < (m : Int)) = false := by simp; omega
        have b4 : decide (255 < m) = false := by simp; omega
        have hmw : IntKind.u8.wrap (m : Int) = (m : Int) := by rw [IntKind.wrap_u8]; omega
        have HSB := hid (sb_lt t)
        have HTS := hid (txt_sb t)
        have HLI : Hid ((pre ++ n :: nmL (L.take i)).length ≤ 300000 ∧ m ≤ 255) := hid ⟨by
          have h1 := nmL_len (L.take i) HX2.out.2
          rw [List.length_take] at h1
          have h2 := HPRE.out.2
          have h3 := HN2.out
          have h4 : min i L.length ≤ 64 := by omega
          rw [List.length_append, List.length_cons]
          omega, by omega⟩
        clear hbig
        go_wp2_with (at_builtin; refine wpList_append_row _ rfl (.tmp 112) (.tmp 120) rfl vo _ rfl (World.ownsRow.alloc HX2.out.1.row _) ⟨wr.heap.size, 0, none⟩ 1 1 [m] rfl rfl (bytesAt_int _ _ _ (by first | rfl | (simp; omega))) (by have := HLI.out; simp only [List.length_cons, List.length_nil] at this ⊢; omega) ?_)
        intro v3 w3 hr3 hg3 ho3
        have HF3 : Hid (Fresh W1 w3 v3 (pre ++ n :: nmL (L.take i) ++ [m])) := hid (HX2.out.1.app (cs := [m]) (by simpa using hr3) hg3 (by simpa using ho3))
        obtain ⟨c0, c1, c2, c3, c4, c5', c6, c7⟩ := (HB.out.kept HF3.out.kept (fun f => f)).eightR
        have d0' := HF3.out.kept.cell HD0.out (fun f => f)
        clear hr3 hg3 ho3 c0 c1 c2 c3 c4 c6 c7
        go_wp2_with (at_builtin; refine wpList_append_txt _ rfl (.tmp 122) (.tmp 127) rfl W1 v3 _ rfl HF3.out (sb t) (by rw [HTS.out]; rfl) HSB.out (by have h1 := HLI.out; rw [List.length_append, sb_size, ← HM.out, List.length_singleton]; omega) ?_)
        intro v4 w4 hf4
        have HX3 : Hid (Fresh W1 w4 v4 (pre ++ n :: nmL (L.take (i + 1))) ∧ ∀ t ∈ L.take (i + 1), t.size ≤ 255) := hid ⟨by
          rw [HFE.out.1]
          simpa using hf4, by
          rw [HFE.out.2]
          intro u hu
          rcases List.mem_append.1 hu with h | h
          · exact HX2.out.2 u h
          · rw [List.mem_singleton] at h; rw [h, ← HM.out]; exact HLI.out.2⟩
        clear hf4
        go_wp2_with fail
        go_roundg (gk - 1)
        case measure => omega
        case rel => exact ⟨i + 1, by omega, by omega, by go_num, HX3⟩
    · obtain rfl : i = n := by omega
      have b1 : decide ((i : Int) < (i : Int)) = false := by simp
      have b2 : decide (i < i) = false := by simp
      obtain ⟨va, m9, q9, hv9⟩ : ∃ a n c, vo = .slice a n c := by
        obtain ⟨a, c, e, _⟩ := HX2.out.1.row.shape
        exact ⟨a, _, c, e⟩
      subst hv9
      have htk : L.take i = L := List.take_of_length_le (by have := HN2.out.1; omega)
      have HFB : Hid (Fresh W1 wr (.slice va m9 q9) (rsB s L)) := hid (by
        have h9 := HX2.out.1
        rw [htk, HPRE.out.1] at h9
        unfold rsB
        rw [← HN2.out.1]
        exact h9)
      have HTL := hid (tooL_not (L := L) (by have := HX2.out.2; rw [htk] at this; exact this) (by have := HN2.out; omega))
      have HM9 : Hid (m9 = (rsB s L).length) := hid (by
        obtain ⟨a8, c8, e8, _⟩ := HFB.out.row.shape
        simp only [Value.slice.injEq] at e8
        exact e8.2.1)
      clear htk c5
      by_cases hlen : 20000 < m9
      · have HE := hid (HE5.out HC.out HNB.out HN2.out.2.2 HTL.out (by rw [← HM9.out]; exact hlen))
        have b3 : decide ((20000 : Int) < (m9 : Int)) = true := by simp; omega
        have b4 : decide (20000 < m9) = true := by simp; omega
        obtain ⟨c0, c1, c2, c3, c4, c5, c6, c7⟩ := (HB.out.kept HX2.out.1.kept (fun f => f)).eightR
        clear hlen c0 c1 c2 c3 c4 c6 c7
        go_wp2_with fail
        go_ret2
        exact putA_bad HE.out (by decide) (Same.trans HK.out HFB.out.kept)
      · have HE := hid (HE6.out HC.out HNB.out HN2.out.2.2 HTL.out (by rw [← HM9.out]; exact hlen))
        have b3 : decide ((20000 : Int) < (m9 : Int)) = false := by simp; omega
        have b4 : decide (20000 < m9) = false := by simp; omega
        obtain ⟨c0, c1, c2, c3, c4, c5, c6, c7⟩ := (HB.out.kept HX2.out.1.kept (fun f => f)).eightR
        clear hlen c0 c1 c2 c3 c4 c6 c7
        go_wp2_with fail
        go_ret2
        refine ⟨_, by rw [HE.out]; rfl, ?_⟩
        unfold prB
        rw [if_pos HE.out]
        exact ⟨HFB.out.row, Same.trans HK.out HFB.out.kept, fun k e => Nat.le_trans HK.out.size (HFB.out.new k e)⟩

end Go.Proofs.Ytaefgnakdadgeaa

/-
  Rows of some cells an element: made, copied into.
-/
namespace Go.Proofs.Ytaefgnakdadgeaa
open Go.RowKit

theorem flat_made {α : Type} {enc : α → List Value} {k : Nat} (ok : EncOk enc k) (x0 : α) (n : Nat) : (madeCells (enc x0).toArray (n * k)).toList = (List.replicate n x0).flatMap enc := by
  have hk := ok.pos
  have hl := ok.len x0
  refine List.ext_getElem? (fun i => ?_)
  by_cases hi : i < n * k
  · have h1 : i / k < n := (Nat.div_lt_iff_lt_mul hk).2 hi
    have h2 : i % k < k := Nat.mod_lt _ hk
    have h3 := flat_get ok (List.replicate n x0) (i / k) (i % k) (by simpa using h1) h2
    rw [List.getElem_replicate, Nat.div_add_mod' i k] at h3
    rw [h3]
    simp [madeCells, hi, hl, h2]
  · rw [List.getElem?_eq_none (by simp [madeCells]; omega), List.getElem?_eq_none (by rw [flat_length ok]; simp; omega)]

/-- A whole block. -/
def Raw (w : World) (g : Nat) (t : TypeId) (L : List Value) : Prop := w.heap[g]? = some (.cells L.toArray t (0, 0))

theorem RowC.raw {α : Type} {B t k : Nat} {enc : α → List Value} {w : World} {g n : Nat} {xs : List α} (h : RowC B t k enc w (.slice (some ⟨g, 0, none⟩) n n) xs) : Raw w g t (xs.flatMap enc) := by
  have hl := h.len
  rcases h.2 with ⟨e, _⟩ | ⟨g', cap, cur, e, _, hg, _, _, hcs, htake⟩
  · simp at e
  · simp only [Value.slice.injEq, Option.some.injEq, Addr.mk.injEq, and_true] at e
    obtain ⟨rfl, rfl, rfl⟩ := e
    have : cur.toList = xs.flatMap enc := by
      rw [← htake, List.take_of_length_le]
      have h2 : cur.toList.length = cur.size := by simp
      rw [h2, hcs, hl]
      exact Nat.le_refl _
    unfold Raw
    rw [hg, ← this]

theorem Raw.row {α : Type} {B t k : Nat} {enc : α → List Value} (ok : EncOk enc k) {w : World} {g : Nat} {xs : List α} (h : Raw w g t (xs.flatMap enc)) (hB : B ≤ g) (hm : xs.length ≤ maxLen) : RowC B t k enc w (.slice (some ⟨g, 0, none⟩) xs.length xs.length) xs := by
  have hl := flat_length ok xs
  refine ⟨hl, .inr ⟨g, xs.length, _, rfl, hB, h, Nat.le_refl _, hm, ?_, ?_⟩⟩
  · simp [hl]
  · rw [List.take_of_length_le (by simp [hl])]

theorem Raw.kept {F : Nat → Prop} {w w' : World} {g : Nat} {t : TypeId} {L : List Value} (h : Raw w g t L) (hk : Kept F w w') (hF : ¬ F g) : Raw w' g t L := by
  unfold Raw
  rw [hk.block g (Array.getElem?_eq_some_iff.1 h).1 hF]
  exact h

/-- make(S, n). -/
theorem wpList_make_c {α : Type} {ops : Array Oper} {rest : List Oper} {o : Oper} {a : Act} {Q : Exit → Act → World → Prop} (w : World) (enc : α → List Value) (k : Nat) (ok : EncOk enc k) (x0 : α) (B sT eT : Nat) (z : Value) (bytes : Nat)
    (hU : Try.prog.underlying sT = some (.slice eT)) (hI : (Try.prog.info? eT).map (fun i => (i.zero, i.size, i.bytes)) = some (some z, k, bytes)) (hz : z.cells = (enc x0).toArray) (hby : bytes ≤ 1000)
    (hg : o.guard = none) (l c : Operand) (hop : o.op = Op.makeSlice sT l c) (kl kc : IntKind) (L C : Int) (n : Nat)
    (hl : a.eval l = .int kl L) (hc : a.eval c = .int kc C) (hL : L = (n : Int)) (hC : C = (n : Int)) (hn : n ≤ 1000000000) (hB : B ≤ w.heap.size)
    (hK : ∀ w', RowC B eT k enc w' (.slice (some ⟨w.heap.size, 0, none⟩) n n) (List.replicate n x0) → w.grownBy w' none → w.heap.size < w'.heap.size → wpList Try.prog ops Q rest (a.put o.dst (.slice (some ⟨w.heap.size, 0, none⟩) n n)) w') : wpList Try.prog ops Q (o :: rest) a w := by
  obtain ⟨i0, hi, hz0, hz1, hz2⟩ := info_parts hI
  have hmul : n * bytes ≤ 1000000000 * 1000 := Nat.mul_le_mul hn hby
  refine wpList_make_full w hg l c sT hop B eT i0 z k hU hi hz0 hz1 kl kc L C n hl hc hL hC (by rw [hz2]; have := Nat.mul_comm n bytes; omega) (by simp only [maxLen]; omega) hB ?_
  intro w' h1 h2
  refine hK w' ?_ h2 (World.ownsRow.lt h1 w.heap.size rfl).2
  rw [hz, flat_made ok] at h1
  unfold RowC
  rw [List.length_replicate]
  exact h1

theorem run_copy_k {P : Program} (w : World) (dT sT ty elem : TypeId) (k g off dLen dCap : Nat) (ad : Addr) (sLen sCap : Nat) (cur : List Value) (t : TypeId) (cs : List Value)
    (hu : P.underlying dT = some (.slice elem)) (hs : (P.info? elem).map (·.size) = some k) (hg : Raw w g t cur) (hn : cs.length = Nat.min sLen dLen * k)
    (hsrc : CellsAt w ad cs) (hfit : off + cs.length ≤ cur.length) (h1 : ∀ v ∈ cs, v.oneCell' = true) :
    (Builtin.copy_ #[dT, sT] ty #[.slice (some ⟨g, off, none⟩) dLen dCap, .slice (some ad) sLen sCap]).run P w =
      .ok (goInt (Nat.min sLen dLen)) (w.setRow g (splice cur off cs).toArray) := by
  have hl := run_loadCells_list (P := P) w ad cs hsrc
  have hst := run_storeCells_at P g off t cs 0 cur.toArray w hg (by simpa using hfit) h1
  rw [hn] at hl
  cases hq : P.info? elem with
  | none => simp [hq] at hs
  | some i =>
    have hi : i.size = k := by simpa [hq] using hs
    simp [Builtin.copy_, run_underlying hu, Builtin.lenOf, Builtin.firstCells, sizeOf, typeInfo, hq, hi, hl, hst, splice]

theorem run_copy_none_k {P : Program} (w : World) (dT sT ty elem : TypeId) (k : Nat) (d s : Option Addr) (dLen dCap sLen sCap : Nat)
    (hu : P.underlying dT = some (.slice elem)) (hs : (P.info? elem).map (·.size) = some k) (hn : Nat.min sLen dLen = 0) :
    (Builtin.copy_ #[dT, sT] ty #[.slice d dLen dCap, .slice s sLen sCap]).run P w = .ok (goInt 0) w := by
  cases hq : P.info? elem with
  | none => simp [hq] at hs
  | some i =>
    have hl : ∀ (x : Addr), (loadCells x 0).run P w = .ok #[] w := fun x => by simpa using run_loadCells_list (P := P) w x [] (by simp)
    cases d <;> cases s <;> simp [Builtin.copy_, run_underlying hu, Builtin.lenOf, Builtin.firstCells, sizeOf, typeInfo, hq, hn, storeCells, hl]

theorem splice_nil {α : Type} (L : List α) (off : Nat) : splice L off [] = L := by simp [splice]

theorem grown_setRow (w : World) (g : Nat) (cs : Array Value) : w.grownBy (w.setRow g cs) (some g) :=
  ⟨rfl, rfl, rfl, by simp, fun k _ hk => setRow_other w g k _ (fun e => hk (by simp [e]))⟩

/-- copy as a step of a walk. -/
theorem wpList_copy_k {ops : Array Oper} {rest : List Oper} {o : Oper} {a : Act} {Q : Exit → Act → World → Prop} (w : World) (hgd : o.guard = none) (d s : Operand) (dT sT : TypeId)
    (ho : o.op = .call { callee := .builtin .copy, args := #[d, s], argTypes := #[dT, sT] }) (elem : TypeId) (k : Nat) (hu : Try.prog.underlying dT = some (.slice elem)) (hsz : (Try.prog.info? elem).map (·.size) = some k)
    (g off dLen dCap : Nat) (sp : Option Addr) (sLen sCap : Nat) (hd : a.eval d = .slice (some ⟨g, off, none⟩) dLen dCap) (hs : a.eval s = .slice sp sLen sCap)
    (cur : List Value) (t : TypeId) (hg : Raw w g t cur) (cs : List Value) (hn : cs.length = Nat.min sLen dLen * k) (hpos : 0 < cs.length → ∃ ad, sp = some ad ∧ CellsAt w ad cs) (hk : 0 < k)
    (hfit : off + cs.length ≤ cur.length) (h1 : ∀ v ∈ cs, v.oneCell' = true) (m : Nat) (hm : Nat.min sLen dLen = m)
    (h : ∀ w', Raw w' g t (splice cur off cs) → w.grownBy w' (some g) → wpList Try.prog ops Q rest (a.put o.dst (.int .i64 (m : Nat))) w') : wpList Try.prog ops Q (o :: rest) a w := by
  refine wpList_plain hgd fun K hK => ?_
  by_cases h0 : cs = []
  · subst h0
    have hm0 : Nat.min sLen dLen = 0 := by
      rcases Nat.eq_zero_or_pos (Nat.min sLen dLen) with h | h
      · exact h
      · have := Nat.mul_pos h hk; simp at hn; omega
    have hrun := run_copy_none_k (P := Try.prog) w dT sT o.type elem k (some ⟨g, off, none⟩) sp dLen dCap sLen sCap hu hsz hm0
    have hmz : m = 0 := by omega
    subst hmz
    rw [splice_nil] at h
    unfold Oper.wp
    simp [execOp, ho, resolve, invoke, builtin, hd, hs, hrun, Result.andThen]
    exact hK _ _ (h w hg (World.grownBy.refl _ _))
  · obtain ⟨ad, rfl, hsrc⟩ := hpos (List.length_pos_iff.2 h0)
    have hrun := run_copy_k (P := Try.prog) w dT sT o.type elem k g off dLen dCap ad sLen sCap cur t cs hu hsz hg hn hsrc hfit h1
    rw [hm] at hrun
    unfold Oper.wp
    simp [execOp, ho, resolve, invoke, builtin, hd, hs, hrun, Result.andThen]
    exact hK _ _ (h _ (setRow_heap w g _ _ t _ hg) (grown_setRow w g _))

/-- copy as a step of a region that draws its order. -/
theorem step_copy_k {ops : Array Oper} {o : Oper} {a : Act} {w : World} {K : Act → World → Prop} {Q : Exit → Act → World → Prop} {E : Prop} (hgd : o.guard = none) (d s : Operand) (dT sT : TypeId)
    (ho : o.op = .call { callee := .builtin .copy, args := #[d, s], argTypes := #[dT, sT] }) (elem : TypeId) (k : Nat) (hu : Try.prog.underlying dT = some (.slice elem)) (hsz : (Try.prog.info? elem).map (·.size) = some k)
    (g off dLen dCap : Nat) (ad : Addr) (sLen sCap : Nat) (hd : a.eval d = .slice (some ⟨g, off, none⟩) dLen dCap) (hs : a.eval s = .slice (some ad) sLen sCap)
    (cur : List Value) (t : TypeId) (hg : Raw w g t cur) (cs : List Value) (hn : cs.length = Nat.min sLen dLen * k) (hsrc : CellsAt w ad cs)
    (hfit : off + cs.length ≤ cur.length) (h1 : ∀ v ∈ cs, v.oneCell' = true) (m : Nat) (hm : Nat.min sLen dLen = m)
    (h : ∀ w', Raw w' g t (splice cur off cs) → w.grownBy w' (some g) → K (a.put o.dst (.int .i64 (m : Nat))) w') :
    if Region.wanted o (yielded ops a.tmps) = true then Oper.wp Try.prog o a w K Q else E := by
  have hw : Region.wanted o (yielded ops a.tmps) = true := by simp [Region.wanted, hgd]
  rw [if_pos hw]
  have hrun := run_copy_k (P := Try.prog) w dT sT o.type elem k g off dLen dCap ad sLen sCap cur t cs hu hsz hg hn hsrc hfit h1
  rw [hm] at hrun
  unfold Oper.wp
  simp [execOp, ho, resolve, invoke, builtin, hd, hs, hrun, Result.andThen]
  exact h _ (setRow_heap w g _ _ t _ hg) (grown_setRow w g _)

/-- Cells of a block that is known whole. -/
theorem Raw.at {w : World} {g : Nat} {t : TypeId} {L : List Value} (h : Raw w g t L) (n : Nat) : CellsAt w ⟨g, 0, none⟩ (L.take n) := by
  intro j u hu
  have hj : j < (L.take n).length := (List.getElem?_eq_some_iff.1 hu).1
  rw [List.length_take] at hj
  rw [List.getElem?_take_of_lt (by omega)] at hu
  have e : (⟨g, 0, none⟩ : Addr).add j = ⟨g, j, none⟩ := by unfold Addr.add; split <;> simp_all
  rw [e]
  unfold Raw at h
  simp [World.cell?, h, hu]

/-- append as a step of a region that draws its order. -/
theorem step_append_c {α : Type} {ops : Array Oper} {o : Oper} {a : Act} {w : World} {K : Act → World → Prop} {Q : Exit → Act → World → Prop} {E : Prop} (enc : α → List Value) (k : Nat) (ok : EncOk enc k) (B sT eT : Nat) (z : Value) (bytes : Nat)
    (hU : Try.prog.underlying sT = some (.slice eT)) (hI : (Try.prog.info? eT).map (fun i => (i.zero, i.size, i.bytes)) = some (some z, k, bytes)) (hz : z.cells.size = k) (hby : bytes ≤ 1000) (hgd : o.guard = none) (s x : Operand)
    (ho : o.op = .call { callee := .builtin .append, args := #[s, x], argTypes := #[sT, sT] })
    (v : Value) (xs : List α) (hs : a.eval s = v) (hrow : RowC B eT k enc w v xs) (ad : Addr) (m c : Nat) (cs : List α) (hx : a.eval x = .slice (some ad) m c) (hm : cs.length = m) (hcs : CellsAt w ad (cs.flatMap enc)) (hlen : xs.length + cs.length ≤ 1000000000) (hB : B ≤ w.heap.size)
    (h : ∀ v' w', RowC B eT k enc w' v' (xs ++ cs) → w.grownBy w' v.ownBlock → K (a.put o.dst v') w') : if Region.wanted o (yielded ops a.tmps) = true then Oper.wp Try.prog o a w K Q else E := by
  have hw : Region.wanted o (yielded ops a.tmps) = true := by simp [Region.wanted, hgd]
  rw [if_pos hw]
  subst hm
  obtain ⟨i0, hi, hz0, hz1, hz2⟩ := info_parts hI
  have hmul : (xs.length + cs.length) * bytes ≤ 1000000000 * 1000 := Nat.mul_le_mul hlen hby
  refine wp_append_own w s x sT ho B eT i0 z k bytes hU hi hz0 hz1 hz2 hz ok.pos v xs.length (xs.flatMap enc) hs hrow ad cs.length c (cs.flatMap enc) hx (flat_length ok cs) hcs (flat_one ok cs) (by simp only [maxLen]; omega) (by omega) hB ?_
  intro v' w' h1 h2 _
  refine h v' w' ?_ h2
  unfold RowC
  rw [List.length_append, List.flatMap_append]
  exact h1

end Go.Proofs.Ytaefgnakdadgeaa

/-
  Layer 19: a response has just the bytes of the document, or is refused.
-/
namespace Go.Proofs.Ytaefgnakdadgeaa
open Go.RowKit

theorem Try.sizeStr19 : (Try.prog.info? 9).map (·.size) = some 1 := by kernel_rfl

theorem nsE_cells {w : World} {I : Nat → Prop} {a : Option Addr} {n c : Nat} {L : List ByteArray} (h : SrcC 1 nsE w I (.slice a n c) L) (hp : 0 < (L.flatMap nsE).length) : ∃ ad, a = some ad ∧ CellsAt w ad (L.flatMap nsE) := by
  obtain ⟨ao, cp, e, _, h2⟩ := h
  simp only [Value.slice.injEq] at e
  obtain ⟨rfl, _, rfl⟩ := e
  obtain ⟨b, o, rfl, _, hc⟩ := h2 (fun e => by rw [e] at hp; simp at hp)
  refine ⟨_, rfl, fun j u hu => ?_⟩
  have hj : j < (L.flatMap nsE).length := (List.getElem?_eq_some_iff.1 hu).1
  rw [flat_length nsE_ok, Nat.mul_one] at hj
  have h3 := hc j hj 0 (by decide)
  have h4 := flat_get nsE_ok L j 0 hj (by decide)
  rw [Nat.mul_one, Nat.add_zero] at h3 h4
  rw [addAt, h3, ← h4, hu]

set_option maxRecDepth 100000 in
set_option maxHeartbeats 2000000 in
theorem wirePutResponses_all (s : Rs) (na : Option Addr) (nn nc : Nat) (L : List ByteArray) (W : World) (hLL : SrcC 1 nsE W (fun k => k < W.heap.size) (.slice na nn nc) L ∧ nn ≤ 9223372036854775807) (hsz : s.d.size ≤ 140737488351232 ∧ nn ≤ 140737488351232) :
    Calls Try.prog 5 #[.agg (rsV s (.slice na nn nc))] W fun e W' => e = .returned (.bool true) ∧ Below W.heap.size W W' := by
  obtain ⟨hL, hnn⟩ := hLL
  obtain ⟨W1, hW1⟩ : ∃ X, X = W.alloc (.cells #[.int .i64 s.c, .int .i64 s.x, .int .i64 s.a, .int .i64 s.z, .string s.d, .slice na nn nc, .int .i64 s.b, .int .i64 s.e] 40) := ⟨_, rfl⟩
  obtain ⟨p, hp⟩ : ∃ b, b = W.heap.size := ⟨_, rfl⟩
  have hk1 : Same W W1 := by rw [hW1]; exact (Kept.refl _ W).alloc _
  have HK := hid hk1
  have HO : Hid (Ob W1 p 40 (s.cs (.slice na nn nc))) := hid (by rw [hW1, hp]; exact obR W s _)
  have HL1 : Hid (SrcC 1 nsE W1 (fun k => k < W1.heap.size) (.slice na nn nc) L) := hid ((hL.kept nsE_ok hk1 (fun _ _ _ f => f)).mono (fun j hj => Nat.lt_of_lt_of_le hj hk1.size))
  have HNL : Hid (nn = L.length ∧ nn ≤ 9223372036854775807 ∧ s.d.size + L.length < 9223372036854775808) := hid (by obtain ⟨_, _, e, _⟩ := hL; simp only [Value.slice.injEq] at e; have := e.2.1; exact ⟨e.2.1, hnn, by omega⟩)
  have HBG := bigger19 W1 s na nn nc L HL1.out HNL.out.2.1
  obtain ⟨e0, e1, e2, e3, e4, e5, e6, e7⟩ := HO.out.eightR
  unfold rsV at HBG ⊢
  clear hL hnn hk1 hsz
  go_enter Try.func5, Try.ntmps5
  go_upto_region 1 with fail
  rw [← hp, ← hW1]
  clear hW1 hp
  go_wp2_with fail
  refine HBG.mono ?_
  rintro e w3 ⟨⟨b, rfl, hbig⟩, hk3⟩
  have HK3 := hid hk3
  clear hk3 HBG e0 e1 e2 e3 e4 e5 e6 e7
  cases b with
  | true =>
    clear hbig
    go_wp2_with fail
    go_ret
    exact ⟨rfl, below19 (Same.trans HK.out HK3.out)⟩
  | false =>
  have HSM : Hid (nn = L.length ∧ nn ≤ 1048576) := hid ⟨HNL.out.1, by have := hbig rfl HNL.out.2.2; have := HNL.out.1; omega⟩
  have hnn : nn ≤ 1048576 := HSM.out.2
  obtain ⟨W4, hW4⟩ : ∃ X, X = w3.alloc (.cells #[.int .i64 s.c, .int .i64 s.x, .int .i64 s.a, .int .i64 s.z, .string s.d, .slice na nn nc, .int .i64 s.b, .int .i64 s.e] 40) := ⟨_, rfl⟩
  obtain ⟨ob, hob⟩ : ∃ b, b = w3.heap.size := ⟨_, rfl⟩
  have hk34 : Same w3 W4 := by rw [hW4]; exact (Kept.refl _ _).alloc _
  have HK4 := hid (Same.trans HK3.out hk34)
  have HOW : Hid (Ob W4 ob 40 (s.cs (.slice na nn nc)) ∧ p < ob) := hid ⟨by rw [hW4, hob]; exact obR w3 s _, by rw [hob]; exact Nat.lt_of_lt_of_le HO.out.lt HK3.out.size⟩
  have HOB : Hid (W1.heap.size ≤ ob ∧ ob < W4.heap.size) := hid ⟨by rw [hob]; exact HK3.out.size, HOW.out.1.lt⟩
  obtain ⟨e0, e1, e2, e3, e4, e5, e6, e7⟩ := (HO.out.kept HK3.out (fun f => f)).eightR
  clear hk34 hbig
  go_upto_region 4 with fail
  rw [← hob, ← hW4]
  clear hob hW4 e0 e1 e2 e3 e4 e5 e6 e7
  obtain ⟨e0, e1, e2, e3, e4, e5, e6, e7⟩ := (HO.out.kept HK4.out (fun f => f)).eightR
  obtain ⟨g, hg⟩ : ∃ g, g = W4.heap.size := ⟨_, rfl⟩
  have HG := hid hg
  go_wp2_with (at_make; refine wpList_make_c _ nsE 1 nsE_ok (⟨#[]⟩ : ByteArray) W4.heap.size 36 9 (.string ⟨#[]⟩) 16 Try.underlying36 Try.infoStr19 rfl (by decide) rfl _ _ rfl _ _ _ _ nn rfl rfl rfl rfl (by omega) (Nat.le_refl _) ?_)
  rw [← hg]
  intro w5 hr5 hg5 hs5
  have hk5 : Same W4 w5 := (Kept.refl _ W4).grown hg5 (fun j e => by cases e)
  have HR5 : Hid (Raw w5 g 9 ((List.replicate nn (⟨#[]⟩ : ByteArray)).flatMap nsE)) := hid hr5.raw
  have HK5 := hid (Same.trans HK4.out hk5)
  have HOW5 := hid (HOW.out.1.kept hk5 (fun f => f))
  have HGB : Hid (ob < g ∧ W1.heap.size ≤ g) := hid (by have h1 := HOB.out; have h2 := HG.out; omega)
  clear hr5 hg5 hs5 hk5 hg e0 e1 e2 e3 e4 e5 e6 e7
  obtain ⟨c0, c1, c2, c3, c4, c5, c6, c7⟩ := HOW5.out.eightR
  have z5 := HOW5.out.frozen 5
  obtain ⟨W6, hW6⟩ : ∃ X, X = w5.setCell ⟨ob, 5, none⟩ (.slice (some ⟨g, 0, none⟩) nn nn) := ⟨_, rfl⟩
  have hk6 : Kept (· = ob) w5 W6 := by rw [hW6]; exact (Kept.refl (· = ob) w5).setCell _ _ (.inl rfl)
  have HOW6 : Hid (Ob W6 ob 40 (s.cs (.slice (some ⟨g, 0, none⟩) nn nn))) := hid (by rw [hW6]; exact HOW5.out.set 5 (.o (.slice (some ⟨g, 0, none⟩) nn nn)))
  have HK6 := hid (Same.then HK5.out hk6 (fun x hx e => by have := HOB.out; omega))
  have HR6 := hid (HR5.out.kept hk6 (fun e => by have := HGB.out; omega))
  clear hk6 c0 c1 c2 c3 c4 c6 c7
  go_upto_region 5 with fail
  rw [← hW6]
  clear hW6 c5 z5
  obtain ⟨c0, c1, c2, c3, c4, c5, c6, c7⟩ := HOW6.out.eightR
  obtain ⟨e0, e1, e2, e3, e4, e5, e6, e7⟩ := (HO.out.kept HK6.out (fun f => f)).eightR
  have HMIN : Hid (Nat.min nn nn = nn) := hid (Nat.min_self _)
  have HLEN : Hid ((L.flatMap nsE).length = nn ∧ ((List.replicate nn (⟨#[]⟩ : ByteArray)).flatMap nsE).length = nn) := hid ⟨by rw [flat_length nsE_ok, Nat.mul_one, HSM.out.1], by rw [flat_length nsE_ok, Nat.mul_one, List.length_replicate]⟩
  clear c0 c1 c2 c3 c4 c6 c7 e0 e1 e2 e3 e4 e6 e7
  go_wp2_with (with_reducible refine atCopy ?_; refine wpList_copy_k _ rfl (.tmp 17) (.tmp 19) 36 36 rfl 9 1 Try.underlying36 Try.sizeStr19 g 0 nn nn na nn nc rfl rfl _ 9 HR6.out (L.flatMap nsE) (by rw [HMIN.out, HLEN.out.1, Nat.mul_one]) (fun h => nsE_cells (HL1.out.kept nsE_ok HK6.out (fun _ _ _ f => f)) h) (by decide) (by rw [HLEN.out.1, HLEN.out.2]; omega) (flat_one nsE_ok _) nn HMIN.out ?_)
  intro w7 hr7 hg7
  have hk7 : Kept (· = g) W6 w7 := (Kept.refl (· = g) W6).grown hg7 (fun k e => .inl (by injection e with e; exact e.symm))
  have HR7 : Hid (RowC W1.heap.size 9 1 nsE w7 (.slice (some ⟨g, 0, none⟩) nn nn) L) := hid (by
    have h9 : splice ((List.replicate nn (⟨#[]⟩ : ByteArray)).flatMap nsE) 0 (L.flatMap nsE) = L.flatMap nsE := by
      unfold splice
      rw [List.take_zero, List.nil_append, Nat.zero_add, List.drop_eq_nil_of_le (by rw [HLEN.out.1, HLEN.out.2]; exact Nat.le_refl _), List.append_nil]
    rw [h9] at hr7
    have h8 := Raw.row (B := W1.heap.size) nsE_ok hr7 HGB.out.2 (by simp only [maxLen]; have := HSM.out; omega)
    rw [← HSM.out.1] at h8
    exact h8)
  have HK7 := hid (Same.then HK6.out hk7 (fun x hx e => by have := HGB.out; omega))
  have HOW7 := hid (HOW6.out.kept hk7 (fun e => by have := HGB.out; omega))
  clear hr7 hg7 hk7 c5 e5
  obtain ⟨c0, c1, c2, c3, c4, c5, c6, c7⟩ := HOW7.out.eightR
  obtain ⟨E, hE⟩ : ∃ E, E = rerr s L := ⟨_, rfl⟩
  obtain ⟨bs, hbs⟩ : ∃ b, b = prB s L := ⟨_, rfl⟩
  have HBS : Hid (bs.length ≤ 20000) := hid (by rw [hbs]; exact (prB_ok s L).2)
  have HP := putres_any w7 s (some ⟨g, 0, none⟩) nn nn L ((SrcC.ofRow nsE_ok HR7.out).mono (fun j hj => HR7.out.lt hj))
  have HRQ : Hid (∀ w, Same W1 w → Calls Try.prog 20 #[.agg (rsV s (.slice na nn nc))] w fun e w' => PutA w w' E bs e) := hid (fun w hk => by rw [hE, hbs]; exact rputres19 w s na nn nc L ((HL1.out.kept nsE_ok hk (fun _ _ _ f => f)).mono (fun j hj => Nat.lt_of_lt_of_le hj hk.size)))
  rw [← hE, ← hbs] at HP
  unfold rsV at HP
  clear hE hbs
  go_wp2_with fail
  refine HP.mono ?_
  rintro e w8 ⟨v8, rfl, hf8⟩
  have HF8 := hid hf8
  have HK8 := hid (Same.trans HK7.out hf8.kept)
  have HOW8 := hid (HOW7.out.kept hf8.kept (fun f => f))
  have HR8 := hid (HR7.out.kept hf8.kept (fun _ _ f => f))
  have HR := HRQ.out w8 HK8.out
  unfold rsV at HR
  clear hf8 HP c0 c1 c2 c3 c4 c5 c6 c7
  obtain ⟨e0, e1, e2, e3, e4, e5, e6, e7⟩ := (HO.out.kept HK8.out (fun f => f)).eightR
  go_wp2_with fail
  refine HR.mono ?_
  rintro e w9 ⟨v9, rfl, hf9⟩
  have HF9 := hid hf9
  have HK9 := hid (Same.trans HK8.out hf9.kept)
  have HOW9 := hid (HOW8.out.kept hf9.kept (fun f => f))
  have HR9 := hid (HR8.out.kept hf9.kept (fun _ _ f => f))
  have HS9 := hid (Src.kept (Src.ofRow HF8.out.row) hf9.kept (fun _ _ _ f => f))
  clear hf9 HR e0 e1 e2 e3 e4 e5 e6 e7
  go_wp2_with fail
  refine (awake19 w9).mono ?_
  rintro e w10 ⟨rfl, hk10⟩
  have HK10 := hid (Same.trans HK9.out hk10)
  have HOW10 := hid (HOW9.out.kept hk10 (fun f => f))
  have HR10 := hid (HR9.out.kept hk10 (fun _ _ f => f))
  have HBY := bytes19 w10 v8 v9 _ _ bs bs (Src.kept HS9.out hk10 (fun _ _ _ f => f)) (Src.kept (Src.ofRow HF9.out.row) hk10 (fun _ _ _ f => f)) (by have := HBS.out; omega) (by have := HBS.out; omega)
  rw [decide_eq_true rfl] at HBY
  clear hk10
  go_wp2_with fail
  refine HBY.mono ?_
  rintro e w11 ⟨rfl, hk11⟩
  have HK11 := hid (Same.trans HK10.out hk11)
  obtain ⟨c0, c1, c2, c3, c4, c5, c6, c7⟩ := (HOW10.out.kept hk11 (fun f => f)).eightR
  obtain ⟨e0, e1, e2, e3, e4, e5, e6, e7⟩ := (HO.out.kept HK11.out (fun f => f)).eightR
  have HSA := rsame19 w11 s (some ⟨g, 0, none⟩) na nn nn nc L _ _ (SrcC.ofRow nsE_ok (HR10.out.kept hk11 (fun _ _ f => f))) (HL1.out.kept nsE_ok HK11.out (fun _ _ _ f => f)) HNL.out.2.1
  unfold rsV at HSA
  clear hk11 HBY
  go_wp2_with fail
  refine HSA.mono ?_
  rintro e w12 ⟨rfl, hk12⟩
  have HK12 := hid (Same.trans HK.out (Same.trans HK11.out hk12))
  clear hk12 HSA
  go_wp2_with fail
  go_ret
  exact ⟨rfl, below19 HK12.out⟩

end Go.Proofs.Ytaefgnakdadgeaa
