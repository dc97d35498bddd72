/-
  The walks of the laws LittlePuts and LittleGets.
-/
import Derived.Test.YtgegginmdohklaaSumsWalk
namespace Go.Proofs.Ytgegginmdohklaa
open Go.RowKit Go.Shelf Go.ChangeAt

theorem leOf_mod (v n m : Nat) (h : n ≤ m) : leOf (v % 256 ^ m) n = leOf v n := by
  induction n with
  | zero => rfl
  | succ n ih =>
    rw [leOf, leOf, ih (by omega)]
    congr 2
    have e : (256 : Nat) ^ m = 256 ^ n * 256 * 256 ^ (m - (n + 1)) := by rw [← Nat.pow_succ, ← Nat.pow_add]; congr 1; omega
    rw [e, Nat.mul_assoc, Nat.mod_mul_right_div_self, Nat.mod_mul_right_mod]

/-- A fresh row stays when blocks of another's, or new ones, turn. -/
theorem Fresh.apart {w w0 w1 : World} {v : Value} {bs : List Nat} {F : Nat → Prop} (h : Fresh w w0 v bs) (hk : Kept F w0 w1) (hF : ∀ k, F k → k < w.heap.size) : Row w1 v bs :=
  h.row.kept hk (fun k e f => by have := h.new k e; have := hF k f; omega)

set_option maxHeartbeats 1000000 in
theorem puts_long (w : World) (s : Int) (a0 : Option Addr) (len0 cap0 : Nat) (h : 16777216 < len0) :
    Calls Try.prog 3 #[.slice a0 len0 cap0, .int .u64 s] w fun e w' => e = .returned (.bool true) ∧ Below w.heap.size w w' := by
  have hd1 : decide (16777216 < (len0 : Int)) = true := by simp; omega
  clear h
  go_enter Try.func3, Try.ntmps3
  go_wp2_with fail
  refine (awake_any _).mono ?_
  rintro e w1 ⟨rfl, hb⟩
  go_wp2_with fail
  go_ret
  exact ⟨rfl, hb⟩

theorem same_true (va vb : Value) (I J : Nat → Prop) (xs : List Nat) (w : World) (ha : Src w I va xs) (hb : Src w J vb xs) (hx : xs.length ≤ 1000000000000) :
    Calls Try.prog 15 #[va, vb] w fun e w' => e = .returned (.bool true) ∧ Below w.heap.size w w' := by
  refine (same_bel va vb I J xs xs w ha hb hx hx).mono ?_
  rintro e w' ⟨rfl, hb⟩
  exact ⟨by simp, hb⟩

theorem put_len (cs : List Nat) (v n : Nat) (hn : n ≤ 8) (hlen : cs.length ≤ 16777216) : (cs ++ leOf v n).length ≤ 1000000000000 := by
  rw [List.length_append, leOf_length]; omega

set_option maxHeartbeats 2000000 in
theorem puts_walk (w : World) (x : Nat) (hx : x < 18446744073709551616) (v : Value) (cs : List Nat) (hsrc : Src w (fun k => k < w.heap.size) v cs) (hlen : cs.length ≤ 16777216) :
    Calls Try.prog 3 #[v, .int .u64 (x : Nat)] w fun e w' => e = .returned (.bool true) ∧ Below w.heap.size w w' := by
  obtain ⟨ao, cap, rfl, _⟩ := id hsrc
  have HS : Hid (Src w (fun k => k < w.heap.size) (.slice ao cs.length cap) cs) := hsrc
  have hd1 : decide (16777216 < (cs.length : Int)) = false := by simp; omega
  clear hsrc
  go_enter Try.func3, Try.ntmps3
  go_wp2_with fail
  refine (lent_any _ _ _ cs HS.out (by omega)).mono ?_
  rintro e w1 ⟨g, rfl, hrow, hk1, hg⟩
  have HR1 : Hid (Row w1 (.slice (some ⟨g, 0, none⟩) (cs.length + 1) (cs.length + 1)) (cs ++ [99])) := hrow
  have HK1 : Hid (Kept (Above w.heap.size) w w1) := hk1.mono (fun _ _ e => e.elim)
  have hg1 : g < w1.heap.size := hrow.lt rfl
  clear hrow hk1
  go_wp2_with fail
  refine (put16_any _ _ _ cs (Src.ofRow (Row.cut HR1.out)) (x % 65536) (by rw [IntKind.wrap_u16]; omega) (by omega) (by omega)).mono ?_
  rintro e w2 ⟨vp, rfl, hp2⟩
  have HP2 : Hid (Fresh w1 w2 vp (cs ++ leOf x 2)) := by have h := hp2; rw [show (65536 : Nat) = 256 ^ 2 from rfl, leOf_mod x 2 2 (by omega)] at h; exact h
  have HR2 : Hid (Row w2 (.slice (some ⟨g, 0, none⟩) (cs.length + 1) (cs.length + 1)) (cs ++ [99])) := HR1.out.kept hp2.kept (fun _ _ e => e)
  have HK2 : Hid (Kept (Above w.heap.size) w w2) := HK1.out.more hp2.kept (fun _ e => e.elim)
  clear hp2 HR1 HK1
  go_wp2_with fail
  refine (put32_any _ _ _ cs (Src.ofRow (Row.cut HR2.out)) (x % 4294967296) (by omega) (by omega) (by omega)).mono ?_
  rintro e w3 ⟨vq, rfl, hq3⟩
  have HQ3 : Hid (Fresh w2 w3 vq (cs ++ leOf x 4)) := by have h := hq3; rw [show (4294967296 : Nat) = 256 ^ 4 from rfl, leOf_mod x 4 4 (by omega)] at h; exact h
  have HP3 : Hid (Fresh w1 w3 vp (cs ++ leOf x 2)) := HP2.out.later hq3.kept (fun _ e => e.elim)
  have HR3 : Hid (Row w3 (.slice (some ⟨g, 0, none⟩) (cs.length + 1) (cs.length + 1)) (cs ++ [99])) := HR2.out.kept hq3.kept (fun _ _ e => e)
  have HK3 : Hid (Kept (Above w.heap.size) w w3) := HK2.out.more hq3.kept (fun _ e => e.elim)
  have hg2 : g < w2.heap.size := HR2.out.lt rfl
  clear hq3 HR2 HK2 HP2
  go_wp2_with fail
  refine (put64_any _ _ _ cs (Src.ofRow (Row.cut HR3.out)) x rfl hx (by omega)).mono ?_
  rintro e w4 ⟨vr, rfl, hr4⟩
  have HV4 : Hid (Fresh w3 w4 vr (cs ++ leOf x 8)) := hr4
  have HQ4 : Hid (Fresh w2 w4 vq (cs ++ leOf x 4)) := HQ3.out.later hr4.kept (fun _ e => e.elim)
  have HP4 : Hid (Fresh w1 w4 vp (cs ++ leOf x 2)) := HP3.out.later hr4.kept (fun _ e => e.elim)
  have HR4 : Hid (Row w4 (.slice (some ⟨g, 0, none⟩) (cs.length + 1) (cs.length + 1)) (cs ++ [99])) := HR3.out.kept hr4.kept (fun _ _ e => e)
  have HK4 : Hid (Kept (Above w.heap.size) w w4) := HK3.out.more hr4.kept (fun _ e => e.elim)
  have hg3 : g < w3.heap.size := HR3.out.lt rfl
  clear hr4 HR3 HK3 HP3 HQ3
  go_wp2_with fail
  refine (back_any _ g _ _ cs HR4.out (HS.out.low HK4.out) (by omega)).mono ?_
  rintro e w5 ⟨rfl, hk5⟩
  have HK5 : Hid (Kept (Above w.heap.size) w w5) := HK4.out.more hk5 (fun x e => by omega)
  have HP5 : Hid (Row w5 vp (cs ++ leOf x 2)) := HP4.out.apart hk5 (fun k e => by omega)
  have HQ5 : Hid (Row w5 vq (cs ++ leOf x 4)) := HQ4.out.apart hk5 (fun k e => by omega)
  have HV5 : Hid (Row w5 vr (cs ++ leOf x 8)) := HV4.out.apart hk5 (fun k e => by omega)
  clear hk5 HK4 HP4 HQ4 HV4 HR4 hg1 hg2 hg3
  go_wp2_with fail
  refine (awake_any _).mono ?_
  rintro e w6 ⟨rfl, hb6⟩
  have HK6 : Hid (Kept (Above w.heap.size) w w6) := HK5.out.bel hb6
  have HP6 : Hid (Row w6 vp (cs ++ leOf x 2)) := HP5.out.kept (below_kept hb6 (fun _ => False)) (fun _ _ e => e)
  have HQ6 : Hid (Row w6 vq (cs ++ leOf x 4)) := HQ5.out.kept (below_kept hb6 (fun _ => False)) (fun _ _ e => e)
  have HV6 : Hid (Row w6 vr (cs ++ leOf x 8)) := HV5.out.kept (below_kept hb6 (fun _ => False)) (fun _ _ e => e)
  clear hb6 HK5 HP5 HQ5 HV5
  go_wp2_with fail
  refine (rput_any _ _ _ cs (HS.out.low HK6.out) x 2 rfl (by omega) hx (by omega)).mono ?_
  rintro e w7 ⟨v2, rfl, h7⟩
  have HK7 : Hid (Kept (Above w.heap.size) w w7) := HK6.out.more h7.kept (fun _ e => e.elim)
  have HP7 : Hid (Row w7 vp (cs ++ leOf x 2)) := HP6.out.kept h7.kept (fun _ _ e => e)
  have HQ7 : Hid (Row w7 vq (cs ++ leOf x 4)) := HQ6.out.kept h7.kept (fun _ _ e => e)
  have HV7 : Hid (Row w7 vr (cs ++ leOf x 8)) := HV6.out.kept h7.kept (fun _ _ e => e)
  have H7 : Hid (Row w7 v2 (cs ++ leOf x 2)) := h7.row
  clear h7 HK6 HP6 HQ6 HV6
  go_wp2_with fail
  refine (same_true _ _ _ _ _ _ (Src.ofRow HP7.out) (Src.ofRow H7.out) (put_len cs x 2 (by omega) hlen)).mono ?_
  rintro e w8 ⟨rfl, hb8⟩
  have HK8 : Hid (Kept (Above w.heap.size) w w8) := HK7.out.bel hb8
  have HQ8 : Hid (Row w8 vq (cs ++ leOf x 4)) := HQ7.out.kept (below_kept hb8 (fun _ => False)) (fun _ _ e => e)
  have HV8 : Hid (Row w8 vr (cs ++ leOf x 8)) := HV7.out.kept (below_kept hb8 (fun _ => False)) (fun _ _ e => e)
  clear hb8 HK7 HP7 HQ7 HV7 H7
  go_wp2_with fail
  refine (rput_any _ _ _ cs (HS.out.low HK8.out) x 4 rfl (by omega) hx (by omega)).mono ?_
  rintro e w9 ⟨v4, rfl, h9⟩
  have HK9 : Hid (Kept (Above w.heap.size) w w9) := HK8.out.more h9.kept (fun _ e => e.elim)
  have HQ9 : Hid (Row w9 vq (cs ++ leOf x 4)) := HQ8.out.kept h9.kept (fun _ _ e => e)
  have HV9 : Hid (Row w9 vr (cs ++ leOf x 8)) := HV8.out.kept h9.kept (fun _ _ e => e)
  have H9 : Hid (Row w9 v4 (cs ++ leOf x 4)) := h9.row
  clear h9 HK8 HQ8 HV8
  go_wp2_with fail
  refine (same_true _ _ _ _ _ _ (Src.ofRow HQ9.out) (Src.ofRow H9.out) (put_len cs x 4 (by omega) hlen)).mono ?_
  rintro e w10 ⟨rfl, hb10⟩
  have HK10 : Hid (Kept (Above w.heap.size) w w10) := HK9.out.bel hb10
  have HV10 : Hid (Row w10 vr (cs ++ leOf x 8)) := HV9.out.kept (below_kept hb10 (fun _ => False)) (fun _ _ e => e)
  clear hb10 HK9 HQ9 HV9 H9
  go_wp2_with fail
  refine (rput_any _ _ _ cs (HS.out.low HK10.out) x 8 rfl (by omega) hx (by omega)).mono ?_
  rintro e w11 ⟨v8, rfl, h11⟩
  have HK11 : Hid (Kept (Above w.heap.size) w w11) := HK10.out.more h11.kept (fun _ e => e.elim)
  have HV11 : Hid (Row w11 vr (cs ++ leOf x 8)) := HV10.out.kept h11.kept (fun _ _ e => e)
  have H11 : Hid (Row w11 v8 (cs ++ leOf x 8)) := h11.row
  clear h11 HK10 HV10
  go_wp2_with fail
  refine (same_true _ _ _ _ _ _ (Src.ofRow HV11.out) (Src.ofRow H11.out) (put_len cs x 8 (by omega) hlen)).mono ?_
  rintro e w12 ⟨rfl, hb12⟩
  have HK12 : Hid (Kept (Above w.heap.size) w w12) := HK11.out.bel hb12
  clear hb12 HK11 HV11 H11
  go_wp2_with fail
  go_ret
  exact ⟨rfl, kept_below HK12.out⟩

theorem littlePuts_all (a0 : Option Addr) (len0 cap0 : Nat) (z0 : List Int) (a1 : Int) (w : World) (w0 : IsRow .u8 w a0 len0 cap0 z0) (w1 : (Lit.int .u64 a1).wf = true) :
    Calls Try.prog 3 #[.slice a0 len0 cap0, .int .u64 a1] w fun e w' => e = .returned (.bool true) ∧ Below w.heap.size w w' := by
  by_cases h : 16777216 < len0
  · exact puts_long w a1 a0 len0 cap0 h
  · obtain ⟨bs, hs, hl, hb⟩ := w0.src
    have h0 := bounds_u64 w1
    obtain ⟨s, rfl⟩ : ∃ s : Nat, a1 = s := ⟨a1.toNat, by omega⟩
    exact puts_walk w s (by omega) _ bs hs (by omega)

set_option maxHeartbeats 1000000 in
theorem gets_long (w : World) (s : Int) (a0 : Option Addr) (len0 cap0 : Nat) (h : 16777216 < len0) :
    Calls Try.prog 4 #[.slice a0 len0 cap0, .int .i64 s] w fun e w' => e = .returned (.bool true) ∧ Below w.heap.size w w' := by
  have hd1 : decide (16777216 < (len0 : Int)) = true := by simp; omega
  clear h
  go_enter Try.func4, Try.ntmps4
  go_wp2_with fail
  refine (awake_any _).mono ?_
  rintro e w1 ⟨rfl, hb⟩
  go_wp2_with fail
  go_ret
  exact ⟨rfl, hb⟩

set_option maxHeartbeats 2000000 in
theorem gets_walk (w : World) (z : Int) (v : Value) (cs : List Nat) (hsrc : Src w (fun k => k < w.heap.size) v cs) (hb : ∀ b ∈ cs, b < 256) (hlen : cs.length ≤ 16777216) :
    Calls Try.prog 4 #[v, .int .i64 z] w fun e w' => e = .returned (.bool true) ∧ Below w.heap.size w w' := by
  obtain ⟨ao, cap, rfl, _⟩ := id hsrc
  have HS : Hid (Src w (fun k => k < w.heap.size) (.slice ao cs.length cap) cs) := hsrc
  have HB : Hid (∀ b ∈ cs, b < 256) := hb
  have hd1 : decide (16777216 < (cs.length : Int)) = false := by simp; omega
  have HRM : Hid (∀ (g : Nat) a n c, (Value.slice (some ⟨g, 0, none⟩) cs.length (cs.length + 1)) = .slice a n c → n ≤ c) := by
    intro g a n c e
    injection e with _ e1 e2
    omega
  have C2 := fun (w : World) (v : Value) I (h : Src w I v cs) (hr : ∀ a n c, v = .slice a n c → n ≤ c) => get16_any w v I cs h hr hb (by omega) z
  have C4 := fun (w : World) (v : Value) I (h : Src w I v cs) (hr : ∀ a n c, v = .slice a n c → n ≤ c) => get32_any w v I cs h hr hb (by omega) z
  have C8 := fun (w : World) (v : Value) I (h : Src w I v cs) (hr : ∀ a n c, v = .slice a n c → n ≤ c) => get64_any w v I cs h hr hb (by omega) z
  have D2 := fun (w : World) (v : Value) I (h : Src w I v cs) => rget_any w v I cs h hb (by omega) z 2 (by omega)
  have D4 := fun (w : World) (v : Value) I (h : Src w I v cs) => rget_any w v I cs h hb (by omega) z 4 (by omega)
  have D8 := fun (w : World) (v : Value) I (h : Src w I v cs) => rget_any w v I cs h hb (by omega) z 8 (by omega)
  have l2 : gotV cs z 2 < 65536 := gotV_lt cs hb z 2
  have l4 : gotV cs z 4 < 4294967296 := gotV_lt cs hb z 4
  obtain ⟨V2, hV2⟩ : ∃ V, V = gotV cs z 2 := ⟨_, rfl⟩
  obtain ⟨V4, hV4⟩ : ∃ V, V = gotV cs z 4 := ⟨_, rfl⟩
  obtain ⟨V8, hV8⟩ : ∃ V, V = gotV cs z 8 := ⟨_, rfl⟩
  obtain ⟨E2, hE2⟩ : ∃ V, V = gotE cs.length z 2 := ⟨_, rfl⟩
  obtain ⟨E4, hE4⟩ : ∃ V, V = gotE cs.length z 4 := ⟨_, rfl⟩
  obtain ⟨E8, hE8⟩ : ∃ V, V = gotE cs.length z 8 := ⟨_, rfl⟩
  rw [← hV2] at l2
  rw [← hV4] at l4
  simp only [← hV2, ← hV4, ← hV8, ← hE2, ← hE4, ← hE8] at C2 C4 C8 D2 D4 D8
  have hc2 : IntKind.u64.wrap (V2 : Int) = (V2 : Int) := by rw [IntKind.wrap_u64]; omega
  have hc4 : IntKind.u64.wrap (V4 : Int) = (V4 : Int) := by rw [IntKind.wrap_u64]; omega
  have k2 : Hid (∀ (w : World) (v : Value) I, Src w I v cs → (∀ a n c, v = .slice a n c → n ≤ c) → Calls Try.prog 17 #[v, .int .i64 z] w fun e w' => e = .returned (.tuple #[.int .u16 (V2 : Nat), .int .i64 E2]) ∧ Below w.heap.size w w') := C2
  have k4 : Hid (∀ (w : World) (v : Value) I, Src w I v cs → (∀ a n c, v = .slice a n c → n ≤ c) → Calls Try.prog 18 #[v, .int .i64 z] w fun e w' => e = .returned (.tuple #[.int .u32 (V4 : Nat), .int .i64 E4]) ∧ Below w.heap.size w w') := C4
  have k8 : Hid (∀ (w : World) (v : Value) I, Src w I v cs → (∀ a n c, v = .slice a n c → n ≤ c) → Calls Try.prog 19 #[v, .int .i64 z] w fun e w' => e = .returned (.tuple #[.int .u64 (V8 : Nat), .int .i64 E8]) ∧ Below w.heap.size w w') := C8
  have j2 : Hid (∀ (w : World) (v : Value) I, Src w I v cs → Calls Try.prog 20 #[v, .int .i64 z, .int .i64 2] w fun e w' => e = .returned (.tuple #[.int .u64 (V2 : Nat), .int .i64 E2]) ∧ w' = w) := D2
  have j4 : Hid (∀ (w : World) (v : Value) I, Src w I v cs → Calls Try.prog 20 #[v, .int .i64 z, .int .i64 4] w fun e w' => e = .returned (.tuple #[.int .u64 (V4 : Nat), .int .i64 E4]) ∧ w' = w) := D4
  have j8 : Hid (∀ (w : World) (v : Value) I, Src w I v cs → Calls Try.prog 20 #[v, .int .i64 z, .int .i64 8] w fun e w' => e = .returned (.tuple #[.int .u64 (V8 : Nat), .int .i64 E8]) ∧ w' = w) := D8
  clear hsrc hb C2 C4 C8 D2 D4 D8 hV2 hV4 hV8 hE2 hE4 hE8
  go_enter Try.func4, Try.ntmps4
  go_wp2_with fail
  refine (lent_any _ _ _ cs HS.out (by omega)).mono ?_
  rintro e w1 ⟨g, rfl, hrow, hk1, hg⟩
  have HR1 : Hid (Row w1 (.slice (some ⟨g, 0, none⟩) (cs.length + 1) (cs.length + 1)) (cs ++ [99])) := hrow
  have HK1 : Hid (Kept (Above w.heap.size) w w1) := hk1.mono (fun _ _ e => e.elim)
  clear hrow hk1
  go_wp2_with fail
  refine (k2.out _ _ _ (Src.ofRow (Row.cut HR1.out)) (HRM.out g)).mono ?_
  rintro e w2 ⟨rfl, hb2⟩
  have HR2 : Hid (Row w2 (.slice (some ⟨g, 0, none⟩) (cs.length + 1) (cs.length + 1)) (cs ++ [99])) := HR1.out.kept (below_kept hb2 (fun _ => False)) (fun _ _ e => e)
  have HK2 : Hid (Kept (Above w.heap.size) w w2) := HK1.out.bel hb2
  clear hb2 HR1 HK1
  go_wp2_with fail
  refine (k4.out _ _ _ (Src.ofRow (Row.cut HR2.out)) (HRM.out g)).mono ?_
  rintro e w3 ⟨rfl, hb3⟩
  have HR3 : Hid (Row w3 (.slice (some ⟨g, 0, none⟩) (cs.length + 1) (cs.length + 1)) (cs ++ [99])) := HR2.out.kept (below_kept hb3 (fun _ => False)) (fun _ _ e => e)
  have HK3 : Hid (Kept (Above w.heap.size) w w3) := HK2.out.bel hb3
  clear hb3 HR2 HK2
  go_wp2_with fail
  refine (k8.out _ _ _ (Src.ofRow (Row.cut HR3.out)) (HRM.out g)).mono ?_
  rintro e w4 ⟨rfl, hb4⟩
  have HR4 : Hid (Row w4 (.slice (some ⟨g, 0, none⟩) (cs.length + 1) (cs.length + 1)) (cs ++ [99])) := HR3.out.kept (below_kept hb4 (fun _ => False)) (fun _ _ e => e)
  have HK4 : Hid (Kept (Above w.heap.size) w w4) := HK3.out.bel hb4
  clear hb4 HR3 HK3
  go_wp2_with fail
  refine (back_any _ g _ _ cs HR4.out (HS.out.low HK4.out) (by omega)).mono ?_
  rintro e w5 ⟨rfl, hk5⟩
  have HK5 : Hid (Kept (Above w.heap.size) w w5) := HK4.out.more hk5 (fun x e => by omega)
  clear hk5 HK4 HR4
  go_wp2_with fail
  refine (j2.out _ _ _ (HS.out.low HK5.out)).mono ?_
  rintro e w6 ⟨rfl, rfl⟩
  go_wp2_with fail
  refine (j4.out _ _ _ (HS.out.low HK5.out)).mono ?_
  rintro e w7 ⟨rfl, rfl⟩
  go_wp2_with fail
  refine (j8.out _ _ _ (HS.out.low HK5.out)).mono ?_
  rintro e w8 ⟨rfl, rfl⟩
  go_wp2_with fail
  refine (awake_any _).mono ?_
  rintro e w9 ⟨rfl, hb9⟩
  have HK9 : Hid (Kept (Above w.heap.size) w w9) := HK5.out.bel hb9
  clear hb9 HK5
  go_wp2_with fail
  go_ret
  refine ⟨?_, kept_below HK9.out⟩
  first | rfl | simp

theorem littleGets_all (a0 : Option Addr) (len0 cap0 : Nat) (z0 : List Int) (a1 : Int) (w : World) (w0 : IsRow .u8 w a0 len0 cap0 z0) (_ : (Lit.int .i64 a1).wf = true) :
    Calls Try.prog 4 #[.slice a0 len0 cap0, .int .i64 a1] w fun e w' => e = .returned (.bool true) ∧ Below w.heap.size w w' := by
  by_cases h : 16777216 < len0
  · exact gets_long w a1 a0 len0 cap0 h
  · obtain ⟨bs, hs, hl, hb⟩ := w0.src
    exact gets_walk w a1 _ bs hs hb (by omega)

end Go.Proofs.Ytgegginmdohklaa
