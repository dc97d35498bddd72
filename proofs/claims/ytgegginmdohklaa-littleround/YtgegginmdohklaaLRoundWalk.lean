/-
  The walk of the law LittleRound.
-/
import Derived.Test.YtgegginmdohklaaPutsWalk
namespace Go.Proofs.Ytgegginmdohklaa
open Go.RowKit Go.Shelf Go.ChangeAt

theorem got_mid (p q r : List Nat) (z : Int) (n : Nat) (hz : z = (p.length : Nat)) (hn : q.length = n) : gotV (p ++ q ++ r) z n = n256 q ∧ gotE (p ++ q ++ r).length z n = 0 := by
  have hc : 0 ≤ z ∧ z + n ≤ (p ++ q ++ r).length := by simp; omega
  refine ⟨?_, by simp only [gotE, if_pos hc]⟩
  simp only [gotV, if_pos hc]
  subst hz hn
  unfold numAt
  rw [Int.toNat_natCast, List.append_assoc, List.drop_left, List.take_left]

theorem got_out (p : List Nat) (z : Int) (n : Nat) (h : (p.length : Int) < z + n) : gotV p z n = 0 ∧ gotE p.length z n = 20 := by
  have hc : ¬ (0 ≤ z ∧ z + n ≤ p.length) := by omega
  exact ⟨by simp only [gotV, if_neg hc], by simp only [gotE, if_neg hc]⟩

theorem get32_at {V E : Int} (w : World) (v : Value) (I : Nat → Prop) (cs : List Nat) (hsrc : Src w I v cs) (hroom : ∀ a n c, v = .slice a n c → n ≤ c) (hb : ∀ b ∈ cs, b < 256) (hlen : cs.length ≤ 100000000) (z : Int) (hV : V = (gotV cs z 4 : Nat)) (hE : E = gotE cs.length z 4) :
    Calls Try.prog 18 #[v, .int .i64 z] w fun e w' => e = .returned (.tuple #[.int .u32 V, .int .i64 E]) ∧ Below w.heap.size w w' := by
  subst hV hE; exact get32_any w v I cs hsrc hroom hb hlen z

theorem get64_at {V E : Int} (w : World) (v : Value) (I : Nat → Prop) (cs : List Nat) (hsrc : Src w I v cs) (hroom : ∀ a n c, v = .slice a n c → n ≤ c) (hb : ∀ b ∈ cs, b < 256) (hlen : cs.length ≤ 100000000) (z : Int) (hV : V = (gotV cs z 8 : Nat)) (hE : E = gotE cs.length z 8) :
    Calls Try.prog 19 #[v, .int .i64 z] w fun e w' => e = .returned (.tuple #[.int .u64 V, .int .i64 E]) ∧ Below w.heap.size w w' := by
  subst hV hE; exact get64_any w v I cs hsrc hroom hb hlen z

set_option maxHeartbeats 1000000 in
theorem round_long (w : World) (s : Int) (a0 : Option Addr) (len0 cap0 : Nat) (h : 16777216 < len0) :
    Calls Try.prog 6 #[.slice a0 len0 cap0, .int .u64 s] w fun e w' => e = .returned (.bool true) ∧ Below w.heap.size w w' := by
  have hd1 : decide (16777216 < (len0 : Int)) = true := by simp; omega
  clear h
  go_enter Try.func6, Try.ntmps6
  go_wp2_with fail
  refine (awake_any _).mono ?_
  rintro e w1 ⟨rfl, hb⟩
  go_wp2_with fail
  go_ret
  exact ⟨rfl, hb⟩

set_option maxHeartbeats 2000000 in
theorem round_walk (w : World) (x : Nat) (hx : x < 18446744073709551616) (v : Value) (cs : List Nat) (hsrc : Src w (fun k => k < w.heap.size) v cs) (hb : ∀ b ∈ cs, b < 256) (hlen : cs.length ≤ 16777216) :
    Calls Try.prog 6 #[v, .int .u64 (x : Nat)] w fun e w' => e = .returned (.bool true) ∧ Below w.heap.size w w' := by
  obtain ⟨ao, cap, rfl, _⟩ := id hsrc
  have HS : Hid (Src w (fun k => k < w.heap.size) (.slice ao cs.length cap) cs) := hsrc
  have HB : Hid (∀ b ∈ cs, b < 256) := hb
  have hd1 : decide (16777216 < (cs.length : Int)) = false := by simp; omega
  obtain ⟨V2, hV2⟩ : ∃ V, V = x % 65536 := ⟨_, rfl⟩
  obtain ⟨V4, hV4⟩ : ∃ V, V = x % 4294967296 := ⟨_, rfl⟩
  have HV2 : Hid (V2 = x % 256 ^ 2) := hV2
  have HV4 : Hid (V4 = x % 256 ^ 4) := hV4
  have l2 : V2 < 65536 := by omega
  have l4 : V4 < 4294967296 := by omega
  have hc2 : IntKind.u16.wrap (x : Int) = (V2 : Int) := by rw [IntKind.wrap_u16]; omega
  have hc4 : (x : Int) % 4294967296 = (V4 : Int) := by omega
  clear hsrc hb hV2 hV4
  go_enter Try.func6, Try.ntmps6
  go_wp2_with fail
  refine (put16_any _ _ _ cs HS.out V2 rfl l2 (by omega)).mono ?_
  rintro e w1 ⟨vp, rfl, hp1⟩
  have HP1 : Hid (Fresh w w1 vp (cs ++ leOf x 2)) := by have h := hp1; rw [HV2.out, leOf_mod x 2 2 (by omega)] at h; exact h
  clear hp1
  go_wp2_with fail
  refine (put32_any _ _ _ (cs ++ leOf x 2) HP1.out.src V4 rfl l4 (by simp [leOf_length]; omega)).mono ?_
  rintro e w2 ⟨vq, rfl, hq2⟩
  have HQ2 : Hid (Fresh w1 w2 vq (cs ++ leOf x 2 ++ leOf x 4)) := by have h := hq2; rw [HV4.out, leOf_mod x 4 4 (by omega)] at h; exact h
  have HK2 : Hid (Kept (fun _ => False) w w2) := HP1.out.kept.trans hq2.kept (fun _ _ e => e) (fun _ _ e => e)
  have hs1 : w.heap.size ≤ w1.heap.size := HP1.out.kept.size
  clear hq2 HP1
  go_wp2_with fail
  refine (put64_any _ _ _ (cs ++ leOf x 2 ++ leOf x 4) HQ2.out.src x rfl hx (by simp [leOf_length]; omega)).mono ?_
  rintro e w3 ⟨vr, rfl, hr3⟩
  have HK3 : Hid (Kept (fun _ => False) w w3) := HK2.out.trans hr3.kept (fun _ _ e => e) (fun _ _ e => e)
  obtain ⟨ao2, cp2, hv, hgo⟩ := hr3.row.shape
  obtain ⟨g, rfl⟩ := hgo (by intro e; have := congrArg List.length e; simp [leOf_length] at this)
  obtain ⟨rs, hrs⟩ : ∃ rs, rs = cs ++ leOf x 2 ++ leOf x 4 ++ leOf x 8 := ⟨_, rfl⟩
  have HRS : Hid (rs = cs ++ leOf x 2 ++ leOf x 4 ++ leOf x 8) := hrs
  rw [← hrs] at hv
  have hL : rs.length = cs.length + 14 := by rw [hrs]; simp [leOf_length]
  rw [hL] at hv
  subst hv
  have HR3 : Hid (Row w3 (.slice (some ⟨g, 0, none⟩) (cs.length + 14) cp2) rs) := by have h := hr3.row; rw [← hrs] at h; exact h
  have hcp : cs.length + 14 ≤ cp2 := hr3.row.room _ _ _ rfl
  have HRM : Hid (∀ a n c, (Value.slice (some ⟨g, 0, none⟩) (cs.length + 14) cp2) = .slice a n c → n ≤ c) := hr3.row.room
  have HBR : Hid (∀ b ∈ rs, b < 256) := by
    intro b hb
    rw [hrs] at hb
    rcases List.mem_append.1 hb with hb | hb
    · rcases List.mem_append.1 hb with hb | hb
      · rcases List.mem_append.1 hb with hb | hb
        · exact HB.out b hb
        · exact leOf_lt _ _ b hb
      · exact leOf_lt _ _ b hb
    · exact leOf_lt _ _ b hb
  have HLR : Hid (rs.length ≤ 100000000) := by show _ ≤ _; omega
  have HLE : Hid (rs.length = cs.length + 14) := hL
  have G2 : Hid (gotV rs (cs.length : Int) 2 = V2 ∧ gotE rs.length (cs.length : Int) 2 = 0) := by
    have h := got_mid cs (leOf x 2) (leOf x 4 ++ leOf x 8) (cs.length : Int) 2 rfl (leOf_length _ _)
    rw [← List.append_assoc, ← hrs, leOf_n256, ← HV2.out] at h
    exact h
  have G4 : Hid (gotV rs ((cs.length : Int) + 2) 4 = V4 ∧ gotE rs.length ((cs.length : Int) + 2) 4 = 0) := by
    have h := got_mid (cs ++ leOf x 2) (leOf x 4) (leOf x 8) ((cs.length : Int) + 2) 4 (by simp [leOf_length]) (leOf_length _ _)
    rw [← hrs, leOf_n256, ← HV4.out] at h
    exact h
  have G8 : Hid (gotV rs ((cs.length : Int) + 6) 8 = x ∧ gotE rs.length ((cs.length : Int) + 6) 8 = 0) := by
    have h := got_mid (cs ++ leOf x 2 ++ leOf x 4) (leOf x 8) [] ((cs.length : Int) + 6) 8 (by simp [leOf_length]) (leOf_length _ _)
    rw [List.append_nil, ← hrs, leOf_n256, Nat.mod_eq_of_lt (show x < 256 ^ 8 from hx)] at h
    exact h
  have G9 : Hid (gotV rs ((cs.length : Int) + 7) 8 = 0 ∧ gotE rs.length ((cs.length : Int) + 7) 8 = 20) := got_out rs _ 8 (by rw [hL]; omega)
  clear hr3 HK2 HQ2 hgo hrs hL hs1
  go_wp2_with fail
  refine (get16_at _ _ _ rs (Src.ofRow HR3.out) HRM.out HBR.out HLR.out _ (V := (V2 : Nat)) (E := 0) (by rw [G2.out.1]) (by rw [G2.out.2])).mono ?_
  rintro e w4 ⟨rfl, hb4⟩
  have HR4 : Hid (Row w4 (.slice (some ⟨g, 0, none⟩) (cs.length + 14) cp2) rs) := HR3.out.kept (below_kept hb4 (fun _ => False)) (fun _ _ e => e)
  have HK4 : Hid (Kept (fun _ => False) w w4) := HK3.out.trans (below_kept hb4 (fun _ => False)) (fun _ _ e => e) (fun _ _ e => e)
  clear hb4 HR3 HK3
  go_wp2_with fail
  refine (get32_at _ _ _ rs (Src.ofRow HR4.out) HRM.out HBR.out HLR.out _ (V := (V4 : Nat)) (E := 0) (by rw [G4.out.1]) (by rw [G4.out.2])).mono ?_
  rintro e w5 ⟨rfl, hb5⟩
  have HR5 : Hid (Row w5 (.slice (some ⟨g, 0, none⟩) (cs.length + 14) cp2) rs) := HR4.out.kept (below_kept hb5 (fun _ => False)) (fun _ _ e => e)
  have HK5 : Hid (Kept (fun _ => False) w w5) := HK4.out.trans (below_kept hb5 (fun _ => False)) (fun _ _ e => e) (fun _ _ e => e)
  clear hb5 HR4 HK4
  go_wp2_with fail
  refine (get64_at _ _ _ rs (Src.ofRow HR5.out) HRM.out HBR.out HLR.out _ (V := (x : Nat)) (E := 0) (by rw [G8.out.1]) (by rw [G8.out.2])).mono ?_
  rintro e w6 ⟨rfl, hb6⟩
  have HR6 : Hid (Row w6 (.slice (some ⟨g, 0, none⟩) (cs.length + 14) cp2) rs) := HR5.out.kept (below_kept hb6 (fun _ => False)) (fun _ _ e => e)
  have HK6 : Hid (Kept (fun _ => False) w w6) := HK5.out.trans (below_kept hb6 (fun _ => False)) (fun _ _ e => e) (fun _ _ e => e)
  clear hb6 HR5 HK5
  go_wp2_with fail
  refine (get64_at _ _ _ rs (Src.ofRow HR6.out) HRM.out HBR.out HLR.out _ (V := 0) (E := 20) (by rw [G9.out.1]; rfl) (by rw [G9.out.2])).mono ?_
  rintro e w7 ⟨rfl, hb7⟩
  have HR7 : Hid (Row w7 (.slice (some ⟨g, 0, none⟩) (cs.length + 14) cp2) rs) := HR6.out.kept (below_kept hb7 (fun _ => False)) (fun _ _ e => e)
  have HK7 : Hid (Kept (fun _ => False) w w7) := HK6.out.trans (below_kept hb7 (fun _ => False)) (fun _ _ e => e) (fun _ _ e => e)
  clear hb7 HR6 HK6
  have hd2 : (((cs.length + 14 : Nat) : Int) != (cs.length : Int) + 14) = false := by simp
  go_wp2_with fail
  have HC7 : Hid (Row w7 (.slice (some ⟨g, 0, none⟩) cs.length cp2) cs) := by
    have h := HR7.out
    rw [HRS.out, List.append_assoc, List.append_assoc] at h
    exact Row.cut h
  refine (same_true _ _ _ _ _ _ (Src.ofRow HC7.out) (HS.out.kept HK7.out (fun _ _ _ e => e)) (by omega)).mono ?_
  rintro e w8 ⟨rfl, hb8⟩
  have HK8 : Hid (Kept (fun _ => False) w w8) := HK7.out.trans (below_kept hb8 (fun _ => False)) (fun _ _ e => e) (fun _ _ e => e)
  clear hb8 HR7 HK7 HC7
  go_wp2_with fail
  refine (awake_any _).mono ?_
  rintro e w9 ⟨rfl, hb9⟩
  have HK9 : Hid (Kept (fun _ => False) w w9) := HK8.out.trans (below_kept hb9 (fun _ => False)) (fun _ _ e => e) (fun _ _ e => e)
  clear hb9 HK8
  go_wp2_with fail
  go_ret
  refine ⟨?_, HK9.out.below (Nat.le_refl _) (fun _ _ e => e)⟩
  first | rfl | simp

theorem littleRound_all (a0 : Option Addr) (len0 cap0 : Nat) (z0 : List Int) (a1 : Int) (w : World) (w0 : IsRow .u8 w a0 len0 cap0 z0) (w1 : (Lit.int .u64 a1).wf = true) :
    Calls Try.prog 6 #[.slice a0 len0 cap0, .int .u64 a1] w fun e w' => e = .returned (.bool true) ∧ Below w.heap.size w w' := by
  by_cases h : 16777216 < len0
  · exact round_long w a1 a0 len0 cap0 h
  · obtain ⟨bs, hs, hl, hb⟩ := w0.src
    have h0 := bounds_u64 w1
    obtain ⟨s, rfl⟩ : ∃ s : Nat, a1 = s := ⟨a1.toNat, by omega⟩
    exact round_walk w s (by omega) _ bs hs hb (by omega)

end Go.Proofs.Ytgegginmdohklaa
