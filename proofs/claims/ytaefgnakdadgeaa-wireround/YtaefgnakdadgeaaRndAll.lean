/-
  Joined: WiBg, WiSm, AppClip, WiRnd.
-/
import Derived.Test.YtaefgnakdadgeaaWiLw
import Derived.BigQuiet
import Derived.Test.YtaefgnakdadgeaaBlk
import Derived.Test.YtaefgnakdadgeaaOwn2

/-
  Layer 19's laws: what is too much; two responses are the same.
-/
namespace Go.Proofs.Ytaefgnakdadgeaa
open Go.RowKit

set_option maxRecDepth 100000 in
set_option maxHeartbeats 1000000 in
theorem big19 (w : World) (q : Rq) : Calls Try.prog 9 #[.agg (rqV q)] w fun e w' => (∃ b, e = .returned (.bool b)) ∧ Same w w' := by
  obtain ⟨W1, hW1⟩ : ∃ W, W = w.alloc (.cells #[.int .i64 q.k, .int .i64 q.x, .string q.a, .string q.e, .string q.d, .int .i64 q.f, .int .i64 q.m, .string q.o] 24) := ⟨_, rfl⟩
  obtain ⟨p, hp⟩ : ∃ b, b = w.heap.size := ⟨_, rfl⟩
  have HK : Hid (Same w W1) := hid (by rw [hW1]; exact (Kept.refl _ w).alloc _)
  have hO : Ob W1 p 24 q.cs := by rw [hW1, hp]; exact obQ w q
  obtain ⟨c0, c1, c2, c3, c4, c5, c6, c7⟩ := hO.eight
  clear hO c0 c1 c5 c6
  unfold rqV
  obtain ⟨x2, h2⟩ : ∃ n, n = q.a.size := ⟨_, rfl⟩
  obtain ⟨x3, h3⟩ : ∃ n, n = q.e.size := ⟨_, rfl⟩
  obtain ⟨x4, h4⟩ : ∃ n, n = q.d.size := ⟨_, rfl⟩
  obtain ⟨x7, h7⟩ : ∃ n, n = q.o.size := ⟨_, rfl⟩
  have g2 : q.a.size = x2 := h2.symm
  have g3 : q.e.size = x3 := h3.symm
  have g4 : q.d.size = x4 := h4.symm
  have g7 : q.o.size = x7 := h7.symm
  clear h2 h3 h4 h7
  by_cases a2 : 1048576 < x2
  case' pos =>
    have e1 : decide ((1048576 : Int) < (x2 : Int)) = true := by simp; omega
    have e2 : decide (1048576 < x2) = true := by simp; omega
    clear a2
  case' neg =>
    have e1 : decide ((1048576 : Int) < (x2 : Int)) = false := by simp; omega
    have e2 : decide (1048576 < x2) = false := by simp; omega
    clear a2
    by_cases a3 : 1048576 < x3
    case' pos =>
      have e3 : decide ((1048576 : Int) < (x3 : Int)) = true := by simp; omega
      have e4 : decide (1048576 < x3) = true := by simp; omega
      clear a3
    case' neg =>
      have e3 : decide ((1048576 : Int) < (x3 : Int)) = false := by simp; omega
      have e4 : decide (1048576 < x3) = false := by simp; omega
      clear a3
      by_cases a4 : 1048576 < x4
      case' pos =>
        have e5 : decide ((1048576 : Int) < (x4 : Int)) = true := by simp; omega
        have e6 : decide (1048576 < x4) = true := by simp; omega
        clear a4
      case' neg =>
        have e5 : decide ((1048576 : Int) < (x4 : Int)) = false := by simp; omega
        have e6 : decide (1048576 < x4) = false := by simp; omega
        clear a4
  all_goals
    go_enter Try.func9, Try.ntmps9
    go_upto_region 1 with fail
    rw [← hW1, ← hp]
    clear hW1 hp
    go_wp2_with fail
    go_ret
    exact ⟨⟨_, rfl⟩, HK.out⟩

/-- What bigger tells. -/
def BgA (s : Rs) (L : List ByteArray) (w w' : World) (e : Ending) : Prop := (∃ b, e = .returned (.bool b) ∧ (b = false → s.d.size + L.length < 9223372036854775808 → s.d.size + L.length ≤ 1048576)) ∧ Same w w'

set_option maxRecDepth 100000 in
set_option maxHeartbeats 1000000 in
theorem bigger19 (w : World) (s : Rs) (ao : Option Addr) (n c : Nat) (L : List ByteArray) (hl : SrcC 1 nsE w (fun k => k < w.heap.size) (.slice ao n c) L) (hn : n ≤ 9223372036854775807) :
    Calls Try.prog 18 #[.agg (rsV s (.slice ao n c))] w fun e w' => BgA s L w w' e := by
  obtain ⟨W1, hW1⟩ : ∃ W, W = w.alloc (.cells #[.int .i64 s.c, .int .i64 s.x, .int .i64 s.a, .int .i64 s.z, .string s.d, .slice ao n c, .int .i64 s.b, .int .i64 s.e] 40) := ⟨_, rfl⟩
  obtain ⟨p, hp⟩ : ∃ b, b = w.heap.size := ⟨_, rfl⟩
  have hk1 : Same w W1 := by rw [hW1]; exact (Kept.refl _ w).alloc _
  have HK : Hid (Same w W1) := hid hk1
  have hO : Ob W1 p 40 (s.cs (.slice ao n c)) := by rw [hW1, hp]; exact obR w s _
  have HL := hid (hl.kept nsE_ok hk1 (fun _ _ _ f => f))
  have HN : Hid (n = L.length ∧ n ≤ 9223372036854775807) := hid (by obtain ⟨_, _, e, _⟩ := hl; simp only [Value.slice.injEq] at e; exact ⟨e.2.1, hn⟩)
  obtain ⟨c0, c1, c2, c3, c4, c5, c6, c7⟩ := hO.eightR
  clear hO c0 c1 c2 c3 c6 c7 hl hn hk1
  obtain ⟨x4, h4⟩ : ∃ n, n = s.d.size := ⟨_, rfl⟩
  have g4 : s.d.size = x4 := h4.symm
  have HX4 := hid g4
  obtain ⟨n0, hn0⟩ : ∃ x, x = IntKind.i64.wrap ((x4 : Int) + (n : Int)) := ⟨_, rfl⟩
  have hw0 : IntKind.i64.wrap ((x4 : Int) + (n : Int)) = n0 := hn0.symm
  have HN0 := hid hw0
  clear h4 hn0
  unfold rsV
  go_enter Try.func18, Try.ntmps18
  go_upto_region 1 with fail
  rw [← hW1, ← hp]
  clear hW1 hp
  go_wp2_with fail
  go_loopg [3, 4] n (fun k o z wr => ∃ (i : Nat) (m : Int), i ≤ n ∧ n - i ≤ k ∧ z = .int .i64 (i : Nat) ∧ o = .int .i64 m ∧ wr = W1 ∧ Hid (n0 ≤ 1048576 ∨ m = n0))
  case atStart => exact ⟨0, n0, by omega, by omega, rfl, rfl, rfl, hid (.inr rfl)⟩
  case round =>
    obtain ⟨i, m, hi, hk, rfl, rfl, rfl, HX⟩ := hrel
    by_cases hlt : i < n
    · have b1 : decide ((i : Int) < (n : Int)) = true := by simp; omega
      have b2 : decide (i < n) = true := by simp; omega
      by_cases hm : m ≤ 1048576
      · have b3 : decide (m ≤ 1048576) = true := by simp; omega
        obtain ⟨ao2, cap2, he, hcap, hcells⟩ := HL.out
        simp only [Value.slice.injEq] at he
        obtain ⟨rfl, hnl, rfl⟩ := he
        obtain ⟨b, o, rfl, hIb, hce⟩ := hcells (fun e => by rw [e] at hnl; simp at hnl; omega)
        have d0 := hce i (by omega) 0 (by decide)
        rw [Nat.mul_one, Nat.add_zero] at d0
        obtain ⟨t, ht⟩ : ∃ t, t = L[i]'(by omega) := ⟨_, rfl⟩
        rw [← ht] at d0
        simp only [nsE, List.getElem?_cons_zero] at d0
        have HX2 : Hid (n0 ≤ 1048576) := hid (by rcases HX.out with h | h; exact h; omega)
        have hiw : IntKind.i64.wrap ((i : Int) + 1) = ((i + 1 : Nat) : Int) := by have := HN.out.2; rw [IntKind.wrap_i64]; omega
        have i1 : (i : Int) < (n : Int) := by omega
        clear hce hcells ht hnl hcap hm
        go_wp2_with fail
        go_roundg (gk - 1)
        case measure => omega
        case rel => exact ⟨i + 1, _, by omega, by omega, by go_num, rfl, rfl, hid (.inl HX2.out)⟩
      · have b3 : decide (m ≤ 1048576) = false := by simp; omega
        have b4 : decide (1048576 < m) = true := by simp; omega
        clear hm
        go_wp2_with fail
        go_ret
        exact ⟨⟨_, rfl, fun h => by cases h⟩, HK.out⟩
    · obtain rfl : i = n := by omega
      have b1 : decide ((i : Int) < (i : Int)) = false := by simp
      have b2 : decide (i < i) = false := by simp
      obtain ⟨B, hB⟩ : ∃ B, B = decide (1048576 < m) := ⟨_, rfl⟩
      have b3 : decide (1048576 < m) = B := hB.symm
      have HB := hid b3
      clear hB
      go_wp2_with fail
      go_ret
      refine ⟨⟨_, rfl, fun h h2 => ?_⟩, HK.out⟩
      have h5 := HB.out
      have h6 := HN0.out
      have h7 := HN.out.1
      have h8 := HX4.out
      rw [← h7, h8] at h2 ⊢
      rw [IntKind.wrap_i64] at h6
      have h9 : ¬ (1048576 < m) := by
        have h10 : B = false := h
        rw [h10] at h5
        simpa using h5
      rcases HX.out with h1 | h1 <;> omega

end Go.Proofs.Ytaefgnakdadgeaa

/-
  Layer 19's laws: two responses are the same.
-/
namespace Go.Proofs.Ytaefgnakdadgeaa
open Go.RowKit

set_option maxRecDepth 100000 in
set_option maxHeartbeats 1000000 in
theorem rsame19 (w : World) (s : Rs) (ao bo : Option Addr) (n c c' : Nat) (L : List ByteArray) (I J : Nat → Prop) (ha : SrcC 1 nsE w I (.slice ao n c) L) (hb : SrcC 1 nsE w J (.slice bo n c') L) (hn : n ≤ 9223372036854775807) :
    Calls Try.prog 21 #[.agg (rsV s (.slice ao n c)), .agg (rsV s (.slice bo n c'))] w fun e w' => e = .returned (.bool true) ∧ Same w w' := by
  obtain ⟨W1, hW1⟩ : ∃ W, W = w.alloc (.cells #[.int .i64 s.c, .int .i64 s.x, .int .i64 s.a, .int .i64 s.z, .string s.d, .slice ao n c, .int .i64 s.b, .int .i64 s.e] 40) := ⟨_, rfl⟩
  obtain ⟨W2, hW2⟩ : ∃ W, W = W1.alloc (.cells #[.int .i64 s.c, .int .i64 s.x, .int .i64 s.a, .int .i64 s.z, .string s.d, .slice bo n c', .int .i64 s.b, .int .i64 s.e] 40) := ⟨_, rfl⟩
  obtain ⟨p, hp⟩ : ∃ b, b = w.heap.size := ⟨_, rfl⟩
  have hp2 : W1.heap.size = p + 1 := by rw [hW1, hp]; simp
  have hk1 : Same w W1 := by rw [hW1]; exact (Kept.refl _ w).alloc _
  have hk2 : Same W1 W2 := by rw [hW2]; exact (Kept.refl _ W1).alloc _
  have hk : Same w W2 := Same.trans hk1 hk2
  have HK : Hid (Same w W2) := hid hk
  have hO1 : Ob W1 p 40 (s.cs (.slice ao n c)) := by rw [hW1, hp]; exact obR w s _
  have hO2 : Ob W2 (p + 1) 40 (s.cs (.slice bo n c')) := by rw [hW2, ← hp2]; exact obR W1 s _
  have HA := hid (ha.kept nsE_ok hk (fun _ _ _ f => f))
  have HB := hid (hb.kept nsE_ok hk (fun _ _ _ f => f))
  have HN : Hid (n = L.length ∧ n ≤ 9223372036854775807) := hid (by obtain ⟨_, _, e, _⟩ := ha; simp only [Value.slice.injEq] at e; exact ⟨e.2.1, hn⟩)
  obtain ⟨c0, c1, c2, c3, c4, c5, c6, c7⟩ := (hO1.kept hk2 (fun f => f)).eightR
  obtain ⟨e0, e1, e2, e3, e4, e5, e6, e7⟩ := hO2.eightR
  obtain ⟨p2, hpp⟩ : ∃ b, b = p + 1 := ⟨_, rfl⟩
  rw [← hpp] at e0 e1 e2 e3 e4 e5 e6 e7
  clear hO1 hO2 ha hb hn hk1 hk2 hk hp2
  unfold rsV
  go_enter Try.func21, Try.ntmps21
  go_upto_region 1 with fail
  rw [← hp, ← hW1, ← hW2, ← hpp]
  clear hW1 hW2 hp hpp
  go_wp2_with fail
  go_loopg [5] n (fun k z wr => ∃ i : Nat, i ≤ n ∧ n - i ≤ k ∧ z = .int .i64 (i : Nat) ∧ Hid (Same W2 wr))
  case atStart => exact ⟨0, by omega, by omega, rfl, hid (Kept.refl _ _)⟩
  case round =>
    obtain ⟨i, hi, hk, rfl, HX⟩ := hrel
    have c5' := HX.out.cell c5 (fun f => f)
    have e5' := HX.out.cell e5 (fun f => f)
    by_cases hlt : i < n
    · have b1 : decide ((i : Int) < (n : Int)) = true := by simp; omega
      have b2 : decide (i < n) = true := by simp; omega
      obtain ⟨ao2, cap2, he, hcap, hcells⟩ := HA.out.kept nsE_ok HX.out (fun _ _ _ f => f)
      simp only [Value.slice.injEq] at he
      obtain ⟨rfl, hnl, rfl⟩ := he
      obtain ⟨b, o, rfl, hIb, hce⟩ := hcells (fun e => by rw [e] at hnl; simp at hnl; omega)
      have d0 := hce i (by omega) 0 (by decide)
      rw [Nat.mul_one, Nat.add_zero] at d0
      obtain ⟨ao3, cap3, he3, hcap3, hcells3⟩ := HB.out.kept nsE_ok HX.out (fun _ _ _ f => f)
      simp only [Value.slice.injEq] at he3
      obtain ⟨rfl, _, rfl⟩ := he3
      obtain ⟨b3, o3, rfl, hIb3, hce3⟩ := hcells3 (fun e => by rw [e] at hnl; simp at hnl; omega)
      have d3 := hce3 i (by omega) 0 (by decide)
      rw [Nat.mul_one, Nat.add_zero] at d3
      obtain ⟨t, ht⟩ : ∃ t, t = L[i]'(by omega) := ⟨_, rfl⟩
      rw [← ht] at d0 d3
      simp only [nsE, List.getElem?_cons_zero] at d0 d3
      have hiw : IntKind.i64.wrap ((i : Int) + 1) = ((i + 1 : Nat) : Int) := by have := HN.out.2; rw [IntKind.wrap_i64]; omega
      have i1 : (i : Int) < (n : Int) := by omega
      have i2 : (0 : Int) ≤ (i : Int) := by omega
      have HX2 := hid HX.out.drew
      clear hce hcells ht hnl hcap hce3 hcells3 hcap3
      go_wp2_with fail
      go_quiet (fail)
      go_wp2_with fail
      go_roundg (gk - 1)
      case measure => omega
      case rel => exact ⟨i + 1, by omega, by omega, by go_num, by first | exact HX2 | exact HX | exact hid (HX.out.drewN _)⟩
    · obtain rfl : i = n := by omega
      have b1 : decide ((i : Int) < (i : Int)) = false := by simp
      have b2 : decide (i < i) = false := by simp
      go_wp2_with fail
      go_ret
      exact ⟨rfl, Same.trans HK.out HX.out⟩

end Go.Proofs.Ytaefgnakdadgeaa

/-
  append to a slice of bytes that has no room: the old bytes and the new in new memory.
-/
namespace Go.Proofs.Ytaefgnakdadgeaa
open Go.RowKit

theorem wpList_append_clip {ops : Array Oper} {rest : List Oper} {o : Oper} {a : Act} {Q : Exit → Act → World → Prop} (w : World) (hgd : o.guard = none) (s x : Operand)
    (ho : o.op = .call { callee := .builtin .append, args := #[s, x], argTypes := #[26, 26] })
    (ad : Addr) (bs : List Nat) (n : Nat) (hn : n = bs.length) (hs : a.eval s = .slice (some ad) n n) (hb : BytesAt w ad bs) (xd : Addr) (m c : Nat) (cs : List Nat) (hm : m = cs.length) (hm0 : 0 < m) (hx : a.eval x = .slice (some xd) m c) (hc : BytesAt w xd cs) (hlen : n + m ≤ 1000000000000)
    (h : ∀ cap' w', n + m ≤ cap' → Src w' (fun k => k = w.heap.size) (.slice (some ⟨w.heap.size, 0, none⟩) (n + m) cap') (bs ++ cs) → Same w w' → w.heap.size < w'.heap.size → wpList Try.prog ops Q rest (a.put o.dst (.slice (some ⟨w.heap.size, 0, none⟩) (n + m) cap')) w') : wpList Try.prog ops Q (o :: rest) a w := by
  subst hn hm
  obtain ⟨i0, hi, hz0, hz1, hz2⟩ := info_parts Try.info8
  have hsz : i0.size = 1 := hz1
  have hr := run_append_grow (P := Try.prog) w 26 o.type 5 i0 (.int .u8 0) Try.underlying26 hi hz0 ad bs.length bs.length (bs.map byteV) (by rw [hsz]; simp) hb xd cs.length c (cs.map byteV) (by rw [hsz]; simp) hc (by omega) (by omega) (growslice_fits (by omega) (by rw [hz2]; omega))
  refine wpList_plain hgd fun K hK => ?_
  unfold Oper.wp execOp
  simp only [ho, resolve, invoke, builtin, Sem.run_bind, Sem.run_pure, Result.andThen_ok, List.map_toArray, List.map_cons, List.map_nil, hs, hx, hr]
  refine hK _ _ (h _ _ ?_ ?_ ?_ ?_)
  · exact grownCap_ge _ _ _ _
  · refine ⟨_, _, by rw [List.length_append], fun _ => ⟨w.heap.size, 0, rfl, rfl, fun j hj => ?_⟩⟩
    rw [Nat.zero_add]
    refine (Blk.new w.drew _ _).cell j |>.trans ?_
    have hj2 : j < bs.length + cs.length := by simpa using hj
    rw [Array.getElem?_append_left (by simp; omega), ← Array.getElem?_toList]
    simp only [Array.toList_append]
    rw [← List.map_append, List.getElem?_map, List.getElem?_eq_getElem hj]
    rfl
  · exact (Kept.refl _ w).drew.alloc _
  · simp

end Go.Proofs.Ytaefgnakdadgeaa

/-
  Layer 19: what is put is got again; neither with a byte more, nor without the last one.
-/
namespace Go.Proofs.Ytaefgnakdadgeaa
open Go.RowKit

theorem In19.head {w : World} {a : Option Addr} {n cap k : Nat} {r r0 : List Nat} {x : Nat} (h : In19 w a n cap r) (hr : r = r0 ++ [x]) (hk : k = r0.length) : In19 w a k cap r0 := by
  subst hr hk
  have hn := h.n
  have hs := h.src
  rw [hn] at hs
  have h2 := hs.head19 (n := r0.length) (by simp) cap
  rw [List.take_left] at h2
  have hl := h.len
  have hrm := h.room
  simp only [List.length_append, List.length_singleton] at hl hn
  exact ⟨h2, by omega, by omega, fun b hb => h.byte b (List.mem_append_left _ hb)⟩

theorem In19.at {w : World} {a : Option Addr} {n cap : Nat} {r : List Nat} (h : In19 w a n cap r) (hr : r ≠ []) : ∃ ad, a = Option.some ad ∧ BytesAt w ad r := (Src.at h.src).2 hr

theorem src_in19 {w : World} {a : Option Addr} {n cap g : Nat} {r : List Nat} (h : Src w (fun k => k = g) (.slice a n cap) r) (hg : g < w.heap.size) (hn : n ≤ cap) (hl : r.length ≤ 2000000) (hb : ∀ b ∈ r, b < 256) : In19 w a n cap r :=
  ⟨Src.mono h (fun k e => by omega), hn, hl, hb⟩

theorem ends19 (r : List Nat) (h : r ≠ []) : ∃ r0 x, r = r0 ++ [x] := ⟨r.dropLast, r.getLast h, (List.dropLast_concat_getLast h).symm⟩

set_option maxRecDepth 100000 in
set_option maxHeartbeats 2000000 in
theorem wireRound_all (q : Rq) (s : Rs) (na : Option Addr) (nn nc : Nat) (L : List ByteArray) (m : Int) (W : World) (hLL : SrcC 1 nsE W (fun k => k < W.heap.size) (.slice na nn nc) L ∧ nn ≤ 9223372036854775807 ∧ s.d.size ≤ maxLen) (hm : (Lit.int .u8 m).wf = true) :
    Calls Try.prog 7 #[.agg (rqV q), .agg (rsV s (.slice na nn nc)), .int .u8 m] W fun e W' => e = .returned (.bool true) ∧ Below W.heap.size W W' := by
  obtain ⟨hL, hnn, _⟩ := hLL
  obtain ⟨mn, rfl, hmn⟩ : ∃ k : Nat, m = (k : Int) ∧ k < 256 := by
    simp [Lit.wf, IntKind.min, IntKind.max, IntKind.signed, IntKind.bits] at hm
    exact ⟨m.toNat, by omega, by omega⟩
  obtain ⟨W1, hW1⟩ : ∃ X, X = W.alloc (.cells #[.int .i64 q.k, .int .i64 q.x, .string q.a, .string q.e, .string q.d, .int .i64 q.f, .int .i64 q.m, .string q.o] 24) := ⟨_, rfl⟩
  obtain ⟨W2, hW2⟩ : ∃ X, X = W1.alloc (.cells #[.int .i64 s.c, .int .i64 s.x, .int .i64 s.a, .int .i64 s.z, .string s.d, .slice na nn nc, .int .i64 s.b, .int .i64 s.e] 40) := ⟨_, rfl⟩
  obtain ⟨p, hp⟩ : ∃ b, b = W.heap.size := ⟨_, rfl⟩
  have hp2 : W1.heap.size = p + 1 := by rw [hW1, hp]; simp
  obtain ⟨p2, hpp⟩ : ∃ b, b = p + 1 := ⟨_, rfl⟩
  have hk1 : Same W W1 := by rw [hW1]; exact (Kept.refl _ W).alloc _
  have hk2 : Same W1 W2 := by rw [hW2]; exact (Kept.refl _ W1).alloc _
  have HK := hid (Same.trans hk1 hk2)
  have HO1 : Hid (Ob W2 p 24 q.cs) := hid (Ob.kept (by rw [hW1, hp]; exact obQ W q) hk2 (fun f => f))
  have HO2 : Hid (Ob W2 p2 40 (s.cs (.slice na nn nc))) := hid (by rw [hW2, hpp, ← hp2]; exact obR W1 s _)
  have HL2 : Hid (SrcC 1 nsE W2 (fun k => k < W2.heap.size) (.slice na nn nc) L) := hid ((hL.kept nsE_ok HK.out (fun _ _ _ f => f)).mono (fun j hj => Nat.lt_of_lt_of_le hj HK.out.size))
  have HNL : Hid (nn = L.length ∧ nn ≤ 9223372036854775807) := hid (by obtain ⟨_, _, e, _⟩ := hL; simp only [Value.slice.injEq] at e; exact ⟨e.2.1, hnn⟩)
  have HMN := hid hmn
  clear hL hk1 hk2 hp2 hmn hm hnn
  have HBG := big19 W2 q
  obtain ⟨c0, c1, c2, c3, c4, c5, c6, c7⟩ := HO1.out.eight
  obtain ⟨e0, e1, e2, e3, e4, e5, e6, e7⟩ := HO2.out.eightR
  unfold rqV rsV
  go_enter Try.func7, Try.ntmps7
  go_upto_region 1 with fail
  rw [← hp, ← hW1, ← hW2, ← hpp]
  clear hW1 hW2 hp hpp
  go_wp2_with fail
  refine HBG.mono ?_
  rintro e w3 ⟨⟨b, rfl⟩, hk3⟩
  have HK3 := hid hk3
  clear hk3 HBG c0 c1 c2 c3 c4 c5 c6 c7 e0 e1 e2 e3 e4 e5 e6 e7
  cases b with
  | true =>
    go_wp2_with fail
    go_ret
    exact ⟨rfl, below19 (Same.trans HK.out HK3.out)⟩
  | false =>
  have HBR := bigger19 w3 s na nn nc L ((HL2.out.kept nsE_ok HK3.out (fun _ _ _ f => f)).mono (fun j hj => Nat.lt_of_lt_of_le hj HK3.out.size)) HNL.out.2
  obtain ⟨e0, e1, e2, e3, e4, e5, e6, e7⟩ := (HO2.out.kept HK3.out (fun f => f)).eightR
  unfold rsV at HBR
  go_wp2_with fail
  refine HBR.mono ?_
  rintro e w4 ⟨⟨b, rfl, _⟩, hk4⟩
  have HK4 := hid (Same.trans HK3.out hk4)
  clear hk4 HBR e0 e1 e2 e3 e4 e5 e6 e7
  cases b with
  | true =>
    go_wp2_with fail
    go_ret
    exact ⟨rfl, below19 (Same.trans HK.out HK4.out)⟩
  | false =>
  have HPQ := putreq_any w4 q
  obtain ⟨c0, c1, c2, c3, c4, c5, c6, c7⟩ := (HO1.out.kept HK4.out (fun f => f)).eight
  unfold rqV at HPQ
  obtain ⟨E, hE⟩ : ∃ E, E = perr q := ⟨_, rfl⟩
  have HE := hid hE
  rw [← hE] at HPQ
  clear hE
  go_wp2_with fail
  refine HPQ.mono ?_
  rintro e w5 ⟨v5, rfl, hf5⟩
  have HK5 := hid (Same.trans HK4.out hf5.kept)
  have HF5 := hid hf5
  clear hf5 HPQ c0 c1 c2 c3 c4 c5 c6 c7
  by_cases h0 : E = 0
  case' neg =>
    have b1 : ((E : Int) == 0) = false := by simp; omega
    have b2 : (E == 0) = false := by simp; omega
    have b3 : decide (E = 0) = false := by simp; omega
    obtain ⟨wx, hwx⟩ : ∃ X, X = w5 := ⟨_, rfl⟩
    have HKX : Hid (Same W2 wx) := hid (by rw [hwx]; exact HK5.out)
    rw [← hwx]
    clear hwx
    obtain ⟨e0, e1, e2, e3, e4, e5, e6, e7⟩ := (HO2.out.kept HKX.out (fun f => f)).eightR
    clear h0
    go_wp2_with fail
    clear b1 b2 b3 HE HK5 HF5
  case' pos =>
    subst h0
    have hq0 : perr q = 0 := HE.out.symm
    have hpq : pqB q = pbyt q := by unfold pqB; rw [if_pos hq0]
    obtain ⟨r, hr⟩ : ∃ r, r = pbyt q := ⟨_, rfl⟩
    have hgq : gotQ r = some q := by rw [hr]; exact gotQ_put hq0
    have hne : r ≠ [] := by rw [hr]; unfold pbyt; simp
    have hok := pqB_ok q
    rw [hpq, ← hr] at hok
    have hf5 := HF5.out
    rw [hpq, ← hr] at hf5
    obtain ⟨a5, n5, c5, rfl, hn5, hi5⟩ := hf5.in19 (by omega) hok.1
    obtain ⟨r0, x, hrx⟩ := ends19 r hne
    obtain ⟨k5, hk5⟩ : ∃ k, k = r0.length := ⟨_, rfl⟩
    obtain ⟨ad5, had, hby5⟩ := hi5.at hne
    subst had
    have HI5 := hid hi5
    have HBY5 := hid hby5
    have HRX := hid hrx
    have HK0 := hid hk5
    have HR := hid hgq
    have HRL : Hid (r.length ≤ 100001 ∧ ∀ b ∈ r, b < 256) := hid ⟨hok.2, hok.1⟩
    have HN5 : Hid (n5 = k5 + 1 ∧ n5 = r.length) := hid ⟨by rw [hn5, hrx, hk5]; simp, hn5⟩
    have hn5k := HN5.out.1
    have hrm := hi5.room
    have hn5l : n5 ≤ 100001 := by rw [hn5]; exact hok.2
    have i1 : (n5 : Int) ≤ (c5 : Int) := by omega
    have i2 : (0 : Int) ≤ (n5 : Int) := by omega
    have i3 : decide ((n5 : Int) < 1) = false := by simp; omega
    have i4 : decide (n5 < 1) = false := by simp; omega
    have i5 : IntKind.i64.wrap ((n5 : Int) - 1) = (k5 : Int) := by rw [IntKind.wrap_i64]; omega
    have i6 : (k5 : Int) ≤ (c5 : Int) := by omega
    have i7 : (0 : Int) ≤ (k5 : Int) := by omega
    have i8 : decide (n5 = 0) = false := by simp; omega
    have HG1 := getreq_any w5 (some ad5) n5 c5 r hi5
    rw [(gqE_some hgq).1, (gqE_some hgq).2] at HG1
    unfold rqV at HG1
    clear hq0 hpq hr hgq hne hok hf5 hn5 hi5 hrx hk5 hby5 hrm hn5l hn5k HE HF5
    go_wp2_with fail
    refine HG1.mono ?_
    rintro e w6 ⟨rfl, hk6⟩
    have HK6 := hid (Same.trans HK5.out hk6)
    obtain ⟨b9, hb9⟩ : ∃ b, b = w6.heap.size := ⟨_, rfl⟩
    obtain ⟨W7, hW7⟩ : ∃ X, X = w6.alloc (.cells #[.int .i64 q.k, .int .i64 q.x, .string q.a, .string q.e, .string q.d, .int .i64 q.f, .int .i64 q.m, .string q.o] 24) := ⟨_, rfl⟩
    obtain ⟨W8, hW8⟩ : ∃ X, X = W7.alloc (.cells #[.int .u8 (mn : Nat)] 5) := ⟨_, rfl⟩
    have hs7 : W7.heap.size = b9 + 1 := by rw [hW7, hb9]; simp
    have hk67 : Same w6 W7 := by rw [hW7]; exact (Kept.refl _ _).alloc _
    have hk78 : Same W7 W8 := by rw [hW8]; exact (Kept.refl _ _).alloc _
    have HK8 := hid (Same.trans HK6.out (Same.trans hk67 hk78))
    have HO9 : Hid (Ob W8 b9 24 q.cs) := hid (Ob.kept (by rw [hW7, hb9]; exact obQ w6 q) hk78 (fun f => f))
    have HBM : Hid (BytesAt W8 ⟨b9 + 1, 0, none⟩ [mn]) := hid (by rw [hW8, ← hs7]; exact bytesAt_int W7 _ mn rfl)
    have hI8 := hid (HI5.out.kept (Same.trans hk6 (Same.trans hk67 hk78)))
    have HBY8 : Hid (BytesAt W8 ad5 r) := hid (by
      obtain ⟨ad, e, hb⟩ := hI8.out.at (by rw [HRX.out]; simp)
      injection e with e
      rw [e]
      exact hb)
    have HS8 : Hid (W8.heap.size = b9 + 1 + 1) := hid (by rw [hW8, ← hs7]; simp)
    clear hs7 hk67 hk78 hk6 HG1
    go_wp2_with (at_builtin; rw [← hb9, ← hW7, ← hW8]; clear hb9 hW7 hW8; refine wpList_append_clip W8 rfl (.tmp 50) (.tmp 52) rfl ad5 r n5 HN5.out.2 rfl HBY8.out ⟨b9 + 1, 0, none⟩ 1 1 [mn] rfl (by decide) rfl HBM.out (by have := HN5.out; have := HRL.out; omega) ?_)
    intro cap9 w9 hcap9 hsrc9 hk9 hsz9
    obtain ⟨n6, hn6⟩ : ∃ n, n = n5 + 1 := ⟨_, rfl⟩
    obtain ⟨g9, hg9⟩ : ∃ g, g = W8.heap.size := ⟨_, rfl⟩
    rw [← hn6] at hcap9 hsrc9 ⊢
    rw [← hg9] at hsrc9 hsz9 ⊢
    have hi9 : In19 w9 (some ⟨g9, 0, none⟩) n6 cap9 (r ++ [mn]) := src_in19 hsrc9 hsz9 hcap9 (by have := HRL.out.1; rw [List.length_append, List.length_singleton]; omega) (by
      intro b hb
      rcases List.mem_append.1 hb with h | h
      · exact HRL.out.2 b h
      · rw [List.mem_singleton] at h; rw [h]; exact HMN.out)
    have HK9 := hid (Same.trans HK8.out hk9)
    have HO9b := hid (HO9.out.kept hk9 (fun f => f))
    have HI9 := hid (hI8.out.kept hk9)
    have HG2 := getreq_any w9 _ n6 cap9 _ hi9
    obtain ⟨hm1, hm2⟩ := gotQ_more HR.out mn
    rw [(gqE_none hm1).1, hm2, (gqE_none hm1).2] at HG2
    unfold zeroQ rqV at HG2
    clear hcap9 hsrc9 hk9 hsz9 hi9 hm1 hm2 hn6 hg9
    go_wp2_with fail
    refine HG2.mono ?_
    rintro e w10 ⟨rfl, hk10⟩
    have HK10 := hid (Same.trans HK9.out hk10)
    obtain ⟨W11, hW11⟩ : ∃ X, X = w10.alloc (.cells #[.int .i64 0, .int .i64 0, .string ⟨#[]⟩, .string ⟨#[]⟩, .string ⟨#[]⟩, .int .i64 0, .int .i64 0, .string ⟨#[]⟩] 24) := ⟨_, rfl⟩
    have hk1011 : Same w10 W11 := by rw [hW11]; exact (Kept.refl _ _).alloc _
    have HK11 := hid (Same.trans HK10.out hk1011)
    have HO11 := hid (HO9b.out.kept (Same.trans hk10 hk1011) (fun f => f))
    have hi11 : In19 W11 (some ad5) k5 c5 r0 := (HI9.out.kept (Same.trans hk10 hk1011)).head HRX.out HK0.out
    have HG3 := getreq_any W11 _ k5 c5 _ hi11
    have hgx : gotQ (r0 ++ [x]) = some q := by rw [← HRX.out]; exact HR.out
    obtain ⟨hm1, hm2⟩ := gotQ_less hgx
    rw [(gqE_none hm1).1, hm2, (gqE_none hm1).2] at HG3
    unfold zeroQ rqV at HG3
    clear hk1011 hk10 hi11 hgx hm1 hm2 HG2
    go_wp2_with fail
    rw [← hW11]
    clear hW11
    refine HG3.mono ?_
    rintro e w12 ⟨rfl, hk12⟩
    obtain ⟨wx, hwx⟩ : ∃ X, X = w12.alloc (.cells #[.int .i64 0, .int .i64 0, .string ⟨#[]⟩, .string ⟨#[]⟩, .string ⟨#[]⟩, .int .i64 0, .int .i64 0, .string ⟨#[]⟩] 24) := ⟨_, rfl⟩
    have hk1213 : Same w12 wx := by rw [hwx]; exact (Kept.refl _ _).alloc _
    have HKX := hid (Same.trans HK11.out (Same.trans hk12 hk1213))
    obtain ⟨c0, c1, c2, c3, c4, c5', c6, c7⟩ := (HO1.out.kept HKX.out (fun f => f)).eight
    obtain ⟨d0, d1, d2, d3, d4, d5, d6, d7⟩ := (HO11.out.kept (Same.trans hk12 hk1213) (fun f => f)).eight
    obtain ⟨e0, e1, e2, e3, e4, e5, e6, e7⟩ := (HO2.out.kept HKX.out (fun f => f)).eightR
    clear hk12 hk1213 HG3
    go_upto_region 10 with fail
    rw [← hwx]
    clear hwx
    go_wp2_with fail
    clear c0 c1 c2 c3 c4 c5' c6 c7 d0 d1 d2 d3 d4 d5 d6 d7
  all_goals
    have HPR := putres_any wx s na nn nc L ((HL2.out.kept nsE_ok HKX.out (fun _ _ _ f => f)).mono (fun j hj => Nat.lt_of_lt_of_le hj HKX.out.size))
    unfold rsV at HPR
    obtain ⟨F, hF⟩ : ∃ F, F = rerr s L := ⟨_, rfl⟩
    have HF := hid hF
    rw [← hF] at HPR
    clear hF
    refine HPR.mono ?_
    rintro e x5 ⟨v5, rfl, hf5⟩
    have HX5 := hid (Same.trans HKX.out hf5.kept)
    have HF5 := hid hf5
    clear hf5 HPR e0 e1 e2 e3 e4 e5 e6 e7
    by_cases f0 : F = 0
    case' neg =>
      have b1 : ((F : Int) == 0) = false := by simp; omega
      have b2 : (F == 0) = false := by simp; omega
      have b3 : decide (F = 0) = false := by simp; omega
      obtain ⟨wy, hwy⟩ : ∃ X, X = x5 := ⟨_, rfl⟩
      have HKY : Hid (Same W2 wy) := hid (by rw [hwy]; exact HX5.out)
      rw [← hwy]
      clear hwy f0
      go_wp2_with fail
      clear b1 b2 b3 HF HX5 HF5
    case' pos =>
      subst f0
      have hq0 : rerr s L = 0 := HF.out.symm
      have hpq : prB s L = rsB s L := by unfold prB; rw [if_pos hq0]
      obtain ⟨t, ht⟩ : ∃ t, t = rsB s L := ⟨_, rfl⟩
      have hgq : gotR t = some (s, L) := by rw [ht]; exact gotR_put hq0
      have hne : t ≠ [] := by rw [ht]; unfold rsB; simp
      have hok := prB_ok s L
      rw [hpq, ← ht] at hok
      have hf5 := HF5.out
      rw [hpq, ← ht] at hf5
      obtain ⟨y5, m5, l5, rfl, hn5, hi5⟩ := hf5.in19 (by omega) hok.1
      obtain ⟨t0, z, htx⟩ := ends19 t hne
      obtain ⟨j5, hj5⟩ : ∃ k, k = t0.length := ⟨_, rfl⟩
      obtain ⟨yd5, had, hby5⟩ := hi5.at hne
      subst had
      have HI5 := hid hi5
      have HTX := hid htx
      have HJ0 := hid hj5
      have HR := hid hgq
      have HRL : Hid (t.length ≤ 20000 ∧ ∀ b ∈ t, b < 256) := hid ⟨hok.2, hok.1⟩
      have HM5 : Hid (m5 = j5 + 1 ∧ m5 = t.length) := hid ⟨by rw [hn5, htx, hj5]; simp, hn5⟩
      have hm5k := HM5.out.1
      have hrm := hi5.room
      have hm5l : m5 ≤ 20000 := by rw [hn5]; exact hok.2
      have g1 : (m5 : Int) ≤ (l5 : Int) := by omega
      have g2 : (0 : Int) ≤ (m5 : Int) := by omega
      have g3 : decide ((m5 : Int) < 1) = false := by simp; omega
      have g4 : decide (m5 < 1) = false := by simp; omega
      have g5 : IntKind.i64.wrap ((m5 : Int) - 1) = (j5 : Int) := by rw [IntKind.wrap_i64]; omega
      have g6 : (j5 : Int) ≤ (l5 : Int) := by omega
      have g7 : (0 : Int) ≤ (j5 : Int) := by omega
      have g8 : decide (m5 = 0) = false := by simp; omega
      have HG1 := getres_any x5 (some yd5) m5 l5 t hi5
      unfold GrA at HG1
      rw [(grE_some hgq).1, (grE_some hgq).2.1, (grE_some hgq).2.2] at HG1
      unfold rsV at HG1
      clear hq0 hpq ht hgq hne hok hf5 hn5 hi5 htx hj5 hby5 hrm hm5l hm5k HF HF5
      go_wp2_with fail
      refine HG1.mono ?_
      rintro e x6 ⟨ra, rn, rc, rfl, hrow6, hk6⟩
      obtain ⟨_, _, hv6, _⟩ := hrow6.shape
      simp only [Value.slice.injEq] at hv6
      obtain rfl : rn = nn := by rw [hv6.2.1, HNL.out.1]
      have HX6 := hid (Same.trans HX5.out hk6)
      obtain ⟨b17, hb17⟩ : ∃ b, b = x6.heap.size := ⟨_, rfl⟩
      obtain ⟨X7, hX7⟩ : ∃ X, X = x6.alloc (.cells #[.int .i64 s.c, .int .i64 s.x, .int .i64 s.a, .int .i64 s.z, .string s.d, .slice ra rn rc, .int .i64 s.b, .int .i64 s.e] 40) := ⟨_, rfl⟩
      obtain ⟨X8, hX8⟩ : ∃ X, X = X7.alloc (.cells #[.int .u8 (mn : Nat)] 5) := ⟨_, rfl⟩
      have hs7 : X7.heap.size = b17 + 1 := by rw [hX7, hb17]; simp
      have hk67 : Same x6 X7 := by rw [hX7]; exact (Kept.refl _ _).alloc _
      have hk78 : Same X7 X8 := by rw [hX8]; exact (Kept.refl _ _).alloc _
      have HX8' := hid (Same.trans HX6.out (Same.trans hk67 hk78))
      have HO17 : Hid (Ob X8 b17 40 (s.cs (.slice ra rn rc))) := hid (Ob.kept (by rw [hX7, hb17]; exact obR x6 s _) hk78 (fun f => f))
      have HROW8 := hid ((SrcC.ofRow nsE_ok hrow6).kept nsE_ok (Same.trans hk67 hk78) (fun _ _ _ f => f))
      have HBM : Hid (BytesAt X8 ⟨b17 + 1, 0, none⟩ [mn]) := hid (by rw [hX8, ← hs7]; exact bytesAt_int X7 _ mn rfl)
      have hI8 := hid (HI5.out.kept (Same.trans hk6 (Same.trans hk67 hk78)))
      have HBY8 : Hid (BytesAt X8 yd5 t) := hid (by
        obtain ⟨ad, e, hb⟩ := hI8.out.at (by rw [HTX.out]; simp)
        injection e with e
        rw [e]
        exact hb)
      clear hs7 hk67 hk78 hk6 HG1 hrow6 hv6
      go_wp2_with (at_builtin; rw [← hb17, ← hX7, ← hX8]; clear hb17 hX7 hX8; refine wpList_append_clip X8 rfl (.tmp 102) (.tmp 104) rfl yd5 t m5 HM5.out.2 rfl HBY8.out ⟨b17 + 1, 0, none⟩ 1 1 [mn] rfl (by decide) rfl HBM.out (by have := HM5.out; have := HRL.out; omega) ?_)
      intro cap9 x9 hcap9 hsrc9 hk9 hsz9
      obtain ⟨n6, hn6⟩ : ∃ n, n = m5 + 1 := ⟨_, rfl⟩
      obtain ⟨g9, hg9⟩ : ∃ g, g = X8.heap.size := ⟨_, rfl⟩
      rw [← hn6] at hcap9 hsrc9 ⊢
      rw [← hg9] at hsrc9 hsz9 ⊢
      have hi9 : In19 x9 (some ⟨g9, 0, none⟩) n6 cap9 (t ++ [mn]) := src_in19 hsrc9 hsz9 hcap9 (by have := HRL.out.1; rw [List.length_append, List.length_singleton]; omega) (by
        intro b hb
        rcases List.mem_append.1 hb with h | h
        · exact HRL.out.2 b h
        · rw [List.mem_singleton] at h; rw [h]; exact HMN.out)
      have HX9 := hid (Same.trans HX8'.out hk9)
      have HO17b := hid (HO17.out.kept hk9 (fun f => f))
      have HROW9 := hid (HROW8.out.kept nsE_ok hk9 (fun _ _ _ f => f))
      have HI9 := hid (hI8.out.kept hk9)
      have HG2 := getres_any x9 _ n6 cap9 _ hi9
      have hm1 := gotR_more HR.out mn
      unfold GrA at HG2
      rw [(grE_none hm1).1, (grE_none hm1).2.1] at HG2
      unfold zeroR rsV at HG2
      clear hcap9 hsrc9 hk9 hsz9 hi9 hm1 hn6 hg9
      go_wp2_with fail
      refine HG2.mono ?_
      rintro e x10 ⟨fa, fn, fc, rfl, _, hk10⟩
      have HX10 := hid (Same.trans HX9.out hk10)
      obtain ⟨X11, hX11⟩ : ∃ X, X = x10.alloc (.cells #[.int .i64 0, .int .i64 0, .int .i64 0, .int .i64 0, .string ⟨#[]⟩, .slice fa fn fc, .int .i64 0, .int .i64 0] 40) := ⟨_, rfl⟩
      have hk1011 : Same x10 X11 := by rw [hX11]; exact (Kept.refl _ _).alloc _
      have HX11 := hid (Same.trans HX10.out hk1011)
      have HO11 := hid (HO17b.out.kept (Same.trans hk10 hk1011) (fun f => f))
      have HROW11 := hid (HROW9.out.kept nsE_ok (Same.trans hk10 hk1011) (fun _ _ _ f => f))
      have hi11 : In19 X11 (some yd5) j5 l5 t0 := (HI9.out.kept (Same.trans hk10 hk1011)).head HTX.out HJ0.out
      have HG3 := getres_any X11 _ j5 l5 _ hi11
      have hgx : gotR (t0 ++ [z]) = some (s, L) := by rw [← HTX.out]; exact HR.out
      have hm1 := gotR_less hgx
      unfold GrA at HG3
      rw [(grE_none hm1).1, (grE_none hm1).2.1] at HG3
      unfold zeroR rsV at HG3
      clear hk1011 hk10 hi11 hgx hm1 HG2
      go_wp2_with fail
      rw [← hX11]
      clear hX11
      refine HG3.mono ?_
      rintro e x12 ⟨ha, hn, hc, rfl, _, hk12⟩
      obtain ⟨X13, hX13⟩ : ∃ X, X = x12.alloc (.cells #[.int .i64 0, .int .i64 0, .int .i64 0, .int .i64 0, .string ⟨#[]⟩, .slice ha hn hc, .int .i64 0, .int .i64 0] 40) := ⟨_, rfl⟩
      have hk1213 : Same x12 X13 := by rw [hX13]; exact (Kept.refl _ _).alloc _
      have HX13 := hid (Same.trans HX11.out (Same.trans hk12 hk1213))
      obtain ⟨d0, d1, d2, d3, d4, d5, d6, d7⟩ := (HO11.out.kept (Same.trans hk12 hk1213) (fun f => f)).eightR
      obtain ⟨e0, e1, e2, e3, e4, e5, e6, e7⟩ := (HO2.out.kept HX13.out (fun f => f)).eightR
      have HSM := rsame19 X13 s ra na rn rc nc L _ _ (HROW11.out.kept nsE_ok (Same.trans hk12 hk1213) (fun _ _ _ f => f)) (HL2.out.kept nsE_ok HX13.out (fun _ _ _ f => f)) HNL.out.2
      unfold rsV at HSM
      clear hk12 hk1213 HG3
      go_upto_region 19 with fail
      rw [← hX13]
      clear hX13
      go_wp2_with fail
      clear d0 d1 d2 d3 d4 d5 d6 d7 e0 e1 e2 e3 e4 e5 e6 e7
      refine HSM.mono ?_
      rintro e wy ⟨rfl, hk14⟩
      have HKY : Hid (Same W2 wy) := hid (Same.trans HX13.out hk14)
      clear HSM hk14
      go_wp2_with fail
    all_goals
      refine (awake19 wy).mono ?_
      rintro e w9 ⟨rfl, hk9⟩
      have HK9 := hid (Same.trans HK.out (Same.trans HKY.out hk9))
      clear hk9
      go_wp2_with fail
      go_ret
      exact ⟨rfl, below19 HK9.out⟩

end Go.Proofs.Ytaefgnakdadgeaa
