/-
  The check: little's and the reference's.
-/
import Derived.Test.YtjjhjbmmhkcapaaLRef
import Derived.Laws.BitsAllLaws
namespace Go.Proofs.Ytjjhjbmmhkcapaa
open Go.RowKit

theorem and_one (u : Nat) (h : u < 4294967296) : bits .and .u32 (u : Int) 1 = ((u % 2 : Nat) : Int) := by
  have e := u32_and_nat u 1 h (by omega)
  rw [Nat.and_one_is_mod] at e
  exact e

theorem xor_poly (n : Nat) (h : n < 4294967296) : bits .xor .u32 (n : Int) 3988292384 = ((n ^^^ 3988292384 : Nat) : Int) := u32_xor_nat n 3988292384 h (by decide)

theorem xor_nought (n : Nat) (h : n < 4294967296) : bits .xor .u32 (n : Int) 0 = (n : Int) := by
  have e := u32_xor_nat n 0 h (by decide)
  rw [Nat.xor_zero] at e
  exact e

theorem push_of_odd (u : Nat) (h : u % 2 = 1) : push u = u / 2 ^^^ 3988292384 := by unfold push; rw [h, Nat.one_mul]
theorem push_of_even (u : Nat) (h : u % 2 = 0) : push u = u / 2 := by unfold push; rw [h, Nat.zero_mul, Nat.xor_zero]

theorem push_odd (u : Nat) (h : u < 4294967296) (h1 : u % 2 = 1) : bits .xor .u32 ((u : Int) / 2) 3988292384 = ((push u : Nat) : Int) := by
  have e2 : (u : Int) / 2 = ((u / 2 : Nat) : Int) := by omega
  rw [e2, push_of_odd u h1]
  exact xor_poly (u / 2) (by omega)

theorem push_int (u : Nat) (h : u < 4294967296) : bits .xor .u32 ((u : Int) / 2) (bits .and .u32 (u : Int) 1 * 3988292384 % 4294967296) = ((push u : Nat) : Int) := by
  rw [and_one u h]
  rcases Nat.mod_two_eq_zero_or_one u with h1 | h1
  · have e3 : ((u % 2 : Nat) : Int) * 3988292384 % 4294967296 = 0 := by rw [h1]; rfl
    have e2 : (u : Int) / 2 = ((u / 2 : Nat) : Int) := by omega
    rw [e3, e2, push_of_even u h1]
    exact xor_nought (u / 2) (by omega)
  · have e3 : ((u % 2 : Nat) : Int) * 3988292384 % 4294967296 = 3988292384 := by rw [h1]; rfl
    rw [e3]
    exact push_odd u h h1

theorem push_even (u : Nat) (h1 : u % 2 = 0) : (u : Int) / 2 = ((push u : Nat) : Int) := by
  unfold push
  rw [h1, Nat.zero_mul, Nat.xor_zero]
  omega

theorem not_int (u : Nat) (h : u < 4294967296) : bits .xor .u32 4294967295 (u : Int) = ((not32 u : Nat) : Int) := by
  have e := u32_xor_nat 4294967295 u (by omega) h
  have e2 : 4294967295 ^^^ u = not32 u := by
    have hb : (BitVec.allOnes 32 ^^^ BitVec.ofNat 32 u).toNat = (~~~ BitVec.ofNat 32 u).toNat := by rw [BitVec.allOnes_xor]
    rw [BitVec.toNat_xor, BitVec.toNat_not, BitVec.toNat_allOnes, BitVec.toNat_ofNat, Nat.mod_eq_of_lt (show u < 2 ^ 32 by omega)] at hb
    exact hb
  rw [e2] at e
  exact e

set_option maxHeartbeats 1000000 in
theorem pushOut_any (w : World) (r : Nat) (hr : r < 4294967296) :
    Calls Try.prog 37 #[.int .u32 (r : Nat)] w fun e w' => e = .returned (.int .u32 (push8 r : Nat)) ∧ w' = w := by
  go_enter Try.func37, Try.ntmps37
  go_wp2
  go_loopg [0, 4] 8 (fun k x z wr => ∃ i u : Nat, i ≤ 8 ∧ 8 - i ≤ k ∧ z = .int .i64 (i : Nat) ∧ x = .int .u32 (u : Nat) ∧ u = pushN i r ∧ wr = w)
  case atStart => exact ⟨0, r, by omega, by omega, rfl, rfl, rfl, rfl⟩
  case round =>
    obtain ⟨i, u, hi, hik, rfl, rfl, hu, rfl⟩ := hrel
    have HU : Hid (u = pushN i r) := hu
    have hu2 : u < 4294967296 := by rw [hu]; exact pushN_lt hr i
    clear hu
    by_cases hlt : i < 8
    · go_wp2
      go_roundg (gk - 1)
      case measure => omega
      case rel =>
        exact ⟨i + 1, push u, by omega, by omega, by go_num, by rw [push_int u hu2], by rw [HU.out]; rfl, rfl⟩
    · have hin : i = 8 := by omega
      subst hin
      go_wp2
      go_ret
      rw [HU.out]
      exact ⟨rfl, rfl⟩

set_option maxHeartbeats 1000000 in
theorem lmore_any (w : World) (v : Value) (I : Nat → Prop) (cs : List Nat) (hsrc : Src w I v cs) (hb : ∀ b ∈ cs, b < 256) (s : Nat) (hs : s < 4294967296) (hlen : cs.length ≤ 100000000) :
    Calls Try.prog 34 #[.int .u32 (s : Nat), v] w fun e w' => e = .returned (.int .u32 (more s cs : Nat)) ∧ w' = w := by
  obtain ⟨ao, cap, rfl, hsa⟩ := id hsrc
  have HB : Hid (∀ b ∈ cs, b < 256) := hb
  have HSA : Hid (cs ≠ [] → ∃ b o, ao = some ⟨b, o, none⟩ ∧ I b ∧ ∀ j (_ : j < cs.length), w.cell? ⟨b, o + j, none⟩ = some (.int .u8 (cs[j] : Nat))) := hsa
  clear hsrc hsa hb
  go_enter Try.func34, Try.ntmps34
  go_wp2_with fail
  go_loopg [5, 12] cs.length (fun k x z wr => ∃ i u : Nat, i ≤ cs.length ∧ cs.length - i ≤ k ∧ z = .int .i64 (i : Nat) ∧ x = .int .u32 (u : Nat) ∧ u = reg (not32 s) (cs.take i) ∧ wr = w)
  case atStart => exact ⟨0, not32 s, by omega, by omega, rfl, by rw [← not_int s hs]; first | rfl | simp, rfl, rfl⟩
  case round =>
    obtain ⟨i, u, hi, hik, rfl, rfl, hu, rfl⟩ := hrel
    have HU : Hid (u = reg (not32 s) (cs.take i)) := hu
    have hu2 : u < 4294967296 := by rw [hu]; exact reg_lt (not32_lt _) _ (fun b hb => HB.out b (List.mem_of_mem_take hb))
    clear hu
    by_cases hlt : i < cs.length
    · obtain ⟨b, o, rfl, _, hcb⟩ := HSA.out (by intro e; rw [e] at hlt; simp at hlt)
      have d1 := hcb i hlt
      obtain ⟨x, hx⟩ : ∃ x, x = cs[i] := ⟨_, rfl⟩
      have hx2 : x < 256 := by rw [hx]; exact HB.out _ (List.getElem_mem _)
      have HX : Hid (x = cs[i]) := hx
      have HC := fun w => pushOut_any w (u ^^^ x) (xor_lt32 hu2 (by omega))
      have hxo : bits .xor .u32 (u : Int) (x : Int) = ((u ^^^ x : Nat) : Int) := u32_xor_nat u x hu2 (by omega)
      rw [← hx] at d1
      clear hcb hx HSA
      go_wp2_with fail
      refine (HC _).mono ?_
      rintro e w' ⟨rfl, rfl⟩
      go_wp2_with fail
      go_roundg (gk - 1)
      case measure => omega
      case rel =>
        refine ⟨i + 1, push8 (u ^^^ x), by omega, by omega, by go_num, rfl, ?_, rfl⟩
        rw [List.take_succ_eq_append_getElem hlt, reg_snoc, ← HU.out, ← HX.out]
    · have hin : i = cs.length := by omega
      subst hin
      go_wp2_with fail
      go_ret
      have h1 := HU.out
      rw [List.take_of_length_le (Nat.le_refl _)] at h1
      refine ⟨?_, rfl⟩
      have h2 := not_int u hu2
      unfold more
      rw [← h1, ← h2]
      first | rfl | simp

set_option maxHeartbeats 400000 in
theorem lsum_any (w : World) (v : Value) (I : Nat → Prop) (cs : List Nat) (hsrc : Src w I v cs) (hb : ∀ b ∈ cs, b < 256) (hlen : cs.length ≤ 100000000) :
    Calls Try.prog 24 #[v] w fun e w' => e = .returned (.int .u32 (more 0 cs : Nat)) ∧ w' = w := by
  have HC := lmore_any w v I cs hsrc hb 0 (by omega) hlen
  go_enter Try.func24, Try.ntmps24
  go_wp2_with fail
  refine HC.mono ?_
  rintro e w' ⟨rfl, rfl⟩
  go_wp2_with fail
  go_ret
  exact ⟨rfl, rfl⟩

set_option maxHeartbeats 1000000 in
theorem rmore_any (w : World) (v : Value) (I : Nat → Prop) (cs : List Nat) (hsrc : Src w I v cs) (hb : ∀ b ∈ cs, b < 256) (s : Nat) (hs : s < 4294967296) (hlen : cs.length ≤ 100000000) :
    Calls Try.prog 35 #[.int .u32 (s : Nat), v] w fun e w' => e = .returned (.int .u32 (more s cs : Nat)) ∧ w' = w := by
  obtain ⟨ao, cap, rfl, hsa⟩ := id hsrc
  have HB : Hid (∀ b ∈ cs, b < 256) := hb
  have HSA : Hid (cs ≠ [] → ∃ b o, ao = some ⟨b, o, none⟩ ∧ I b ∧ ∀ j (_ : j < cs.length), w.cell? ⟨b, o + j, none⟩ = some (.int .u8 (cs[j] : Nat))) := hsa
  clear hsrc hsa hb
  go_enter Try.func35, Try.ntmps35
  go_wp2_with fail
  go_loopg [5, 6, 7, 8] cs.length (fun k x z _ _ wr => ∃ i u : Nat, i ≤ cs.length ∧ cs.length - i ≤ k ∧ z = .int .i64 (i : Nat) ∧ x = .int .u32 (u : Nat) ∧ u = reg (not32 s) (cs.take i) ∧ wr = w)
  case atStart => exact ⟨0, not32 s, by omega, by omega, rfl, by rw [← not_int s hs]; first | rfl | simp, rfl, rfl⟩
  case round =>
    obtain ⟨i, u, hi, hik, rfl, rfl, hu, rfl⟩ := hrel
    have HU : Hid (u = reg (not32 s) (cs.take i)) := hu
    have hu2 : u < 4294967296 := by rw [hu]; exact reg_lt (not32_lt _) _ (fun b hb => HB.out b (List.mem_of_mem_take hb))
    clear hu
    by_cases hlt : i < cs.length
    · obtain ⟨b, o, rfl, _, hcb⟩ := HSA.out (by intro e; rw [e] at hlt; simp at hlt)
      have d1 := hcb i hlt
      obtain ⟨x, hx⟩ : ∃ x, x = cs[i] := ⟨_, rfl⟩
      have hx2 : x < 256 := by rw [hx]; exact HB.out _ (List.getElem_mem _)
      have HX : Hid (x = cs[i]) := hx
      have hxo : bits .xor .u32 (u : Int) (x : Int) = ((u ^^^ x : Nat) : Int) := u32_xor_nat u x hu2 (by omega)
      obtain ⟨y, hy⟩ : ∃ y, y = u ^^^ x := ⟨_, rfl⟩
      have hy2 : y < 4294967296 := by rw [hy]; exact xor_lt32 hu2 (by omega)
      have HY : Hid (y = u ^^^ x) := hy
      rw [← hy] at hxo
      rw [← hx] at d1
      obtain ⟨g0, hg0⟩ : ∃ g0, g0 = gk := ⟨_, rfl⟩
      subst hg0
      clear hcb hx HSA hy
      go_wp2_with fail
      go_loopg [5, 7, 8] 8 (fun k x z _ wx => ∃ t q : Nat, t ≤ 8 ∧ 8 - t ≤ k ∧ z = .int .i64 (t : Nat) ∧ x = .int .u32 (q : Nat) ∧ q = pushN t y ∧ wx = wr)
      case atStart => exact ⟨0, y, by omega, by omega, rfl, by first | rfl | rw [hxo], rfl, rfl⟩
      case round =>
        obtain ⟨t, q, ht, htk, rfl, rfl, hq, rfl⟩ := hrel
        have HQ : Hid (q = pushN t y) := hq
        have hq2 : q < 4294967296 := by rw [hq]; exact pushN_lt hy2 t
        clear hq hxo
        by_cases hlt2 : t < 8
        · have ha := and_one q hq2
          rcases Nat.mod_two_eq_zero_or_one q with h1 | h1
          · rw [h1] at ha
            have HE : Hid (q % 2 = 0) := h1
            clear h1
            go_wp2_with fail
            go_roundg (gk - 1)
            case measure => omega
            case rel => exact ⟨t + 1, push q, by omega, by omega, by go_num, by rw [← push_even q HE.out], by rw [HQ.out]; rfl, rfl⟩
          · rw [h1] at ha
            have HE : Hid (q % 2 = 1) := h1
            clear h1
            go_wp2_with fail
            go_roundg (gk - 1)
            case measure => omega
            case rel => exact ⟨t + 1, push q, by omega, by omega, by go_num, by rw [← push_odd q hq2 HE.out], by rw [HQ.out]; rfl, rfl⟩
        · have htn : t = 8 := by omega
          subst htn
          go_wp2_with fail
          go_roundg (g0 - 1)
          case measure => omega
          case rel =>
            refine ⟨i + 1, q, by omega, by omega, by go_num, rfl, ?_, rfl⟩
            rw [List.take_succ_eq_append_getElem hlt, reg_snoc, ← HU.out, ← HX.out, HQ.out, HY.out]
            rfl
    · have hin : i = cs.length := by omega
      subst hin
      go_wp2_with fail
      go_ret
      have h1 := HU.out
      rw [List.take_of_length_le (Nat.le_refl _)] at h1
      refine ⟨?_, rfl⟩
      have h2 := not_int u hu2
      unfold more
      rw [← h1, ← h2]
      first | rfl | simp

set_option maxHeartbeats 400000 in
theorem rsum_any (w : World) (v : Value) (I : Nat → Prop) (cs : List Nat) (hsrc : Src w I v cs) (hb : ∀ b ∈ cs, b < 256) (hlen : cs.length ≤ 100000000) :
    Calls Try.prog 26 #[v] w fun e w' => e = .returned (.int .u32 (more 0 cs : Nat)) ∧ w' = w := by
  have HC := rmore_any w v I cs hsrc hb 0 (by omega) hlen
  go_enter Try.func26, Try.ntmps26
  go_wp2_with fail
  refine HC.mono ?_
  rintro e w' ⟨rfl, rfl⟩
  go_wp2_with fail
  go_ret
  exact ⟨rfl, rfl⟩

end Go.Proofs.Ytjjhjbmmhkcapaa
