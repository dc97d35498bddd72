/-
  Of the proof: parts LSum, Lay, Writer, Reader.
-/
import Derived.Laws.BitsAllLaws
import Derived.Test.YtljlmfnbeofmmaaGreatDoorJ3

namespace Go.Proofs.YtljlmfnbeofmmaaGreatDoor
open Go.RowKit

theorem and_one (u : Nat) (h : u < 4294967296) : bits .and .u32 (u : Int) 1 = ((u % 2 : Nat) : Int) := by
 have e := u32_and_nat u 1 h (by omega)
 rw [Nat.and_one_is_mod] at e
 exact e

theorem xor_poly (n : Nat) (h : n < 4294967296) : bits .xor .u32 (n : Int) 3988292384 = ((n ^^^ 3988292384 : Nat) : Int) := u32_xor_nat n 3988292384 h (by decide)

theorem xor_nought (n : Nat) (h : n < 4294967296) : bits .xor .u32 (n : Int) 0 = (n : Int) := by
 have e := u32_xor_nat n 0 h (by decide)
 rw [Nat.xor_zero] at e
 exact e

theorem push_of_odd (u : Nat) (h : u % 2 = 1) : push u = u / 2 ^^^ 3988292384 := by unfold push; rw [h, Nat.one_mul]
theorem push_of_even (u : Nat) (h : u % 2 = 0) : push u = u / 2 := by unfold push; rw [h, Nat.zero_mul, Nat.xor_zero]

theorem push_odd (u : Nat) (h : u < 4294967296) (h1 : u % 2 = 1) : bits .xor .u32 ((u : Int) / 2) 3988292384 = ((push u : Nat) : Int) := by
 have e2 : (u : Int) / 2 = ((u / 2 : Nat) : Int) := by omega
 rw [e2, push_of_odd u h1]
 exact xor_poly (u / 2) (by omega)

theorem push_int (u : Nat) (h : u < 4294967296) : bits .xor .u32 ((u : Int) / 2) (bits .and .u32 (u : Int) 1 * 3988292384 % 4294967296) = ((push u : Nat) : Int) := by
 rw [and_one u h]
 rcases Nat.mod_two_eq_zero_or_one u with h1 | h1
 ·have e3 : ((u % 2 : Nat) : Int) * 3988292384 % 4294967296 = 0 := by rw [h1]; rfl
  have e2 : (u : Int) / 2 = ((u / 2 : Nat) : Int) := by omega
  rw [e3, e2, push_of_even u h1]
  exact xor_nought (u / 2) (by omega)
 ·have e3 : ((u % 2 : Nat) : Int) * 3988292384 % 4294967296 = 3988292384 := by rw [h1]; rfl
  rw [e3]
  exact push_odd u h h1

theorem push_even (u : Nat) (h1 : u % 2 = 0) : (u : Int) / 2 = ((push u : Nat) : Int) := by
 unfold push
 rw [h1, Nat.zero_mul, Nat.xor_zero]
 omega

theorem not_int (u : Nat) (h : u < 4294967296) : bits .xor .u32 4294967295 (u : Int) = ((not32 u : Nat) : Int) := by
 have e := u32_xor_nat 4294967295 u (by omega) h
 have e2 : 4294967295 ^^^ u = not32 u := by
  have hb : (BitVec.allOnes 32 ^^^ BitVec.ofNat 32 u).toNat = (~~~ BitVec.ofNat 32 u).toNat := by rw [BitVec.allOnes_xor]
  rw [BitVec.toNat_xor, BitVec.toNat_not, BitVec.toNat_allOnes, BitVec.toNat_ofNat, Nat.mod_eq_of_lt (show u < 2 ^ 32 by omega)] at hb
  exact hb
 rw [e2] at e
 exact e

set_option maxHeartbeats 1000000 in
theorem pushOut_any (w : World) (r : Nat) (hr : r < 4294967296) :
  Calls Tryz.prog 100 #[.int .u32 (r : Nat)] w fun e w' => e = .returned (.int .u32 (push8 r : Nat)) ∧ w' = w := by
 go_enter Tryz.func100, Tryz.ntmps100
 go_wp2
 go_loopg [0, 4] 8 (fun k x z wr => ∃ i u : Nat, i ≤ 8 ∧ 8 - i ≤ k ∧ z = .int .i64 (i : Nat) ∧ x = .int .u32 (u : Nat) ∧ u = pushN i r ∧ wr = w)
 case atStart => exact ⟨0, r, by omega, by omega, rfl, rfl, rfl, rfl⟩
 case round =>
  obtain ⟨i, u, hi, hik, rfl, rfl, hu, rfl⟩ := hrel
  have HU : Hid (u = pushN i r) := hu
  have hu2 : u < 4294967296 := by rw [hu]; exact pushN_lt hr i
  clear hu
  by_cases hlt : i < 8
  ·go_wp2
   go_roundg (gk - 1)
   case measure => omega
   case rel =>
    exact ⟨i + 1, push u, by omega, by omega, by go_num, by rw [push_int u hu2], by rw [HU.out]; rfl, rfl⟩
  ·have hin : i = 8 := by omega
   subst hin
   go_wp2
   go_ret
   rw [HU.out]
   exact ⟨rfl, rfl⟩

set_option maxHeartbeats 1000000 in
theorem lmore_any (w : World) (v : Value) (I : Nat → Prop) (cs : List Nat) (hsrc : Src w I v cs) (hb : ∀ b ∈ cs, b < 256) (s : Nat) (hs : s < 4294967296) (hlen : cs.length ≤ 100000000) :
  Calls Tryz.prog 62 #[.int .u32 (s : Nat), v] w fun e w' => e = .returned (.int .u32 (more s cs : Nat)) ∧ w' = w := by
 obtain ⟨ao, cap, rfl, hsa⟩ := id hsrc
 have HB : Hid (∀ b ∈ cs, b < 256) := hb
 have HSA : Hid (cs ≠ [] → ∃ b o, ao = some ⟨b, o, none⟩ ∧ I b ∧ ∀ j (_ : j < cs.length), w.cell? ⟨b, o + j, none⟩ = some (.int .u8 (cs[j] : Nat))) := hsa
 clear hsrc hsa hb
 go_enter Tryz.func62, Tryz.ntmps62
 go_wp2_with fail
 go_loopg [5, 12] cs.length (fun k x z wr => ∃ i u : Nat, i ≤ cs.length ∧ cs.length - i ≤ k ∧ z = .int .i64 (i : Nat) ∧ x = .int .u32 (u : Nat) ∧ u = reg (not32 s) (cs.take i) ∧ wr = w)
 case atStart => exact ⟨0, not32 s, by omega, by omega, rfl, by rw [← not_int s hs]; first | rfl | simp, rfl, rfl⟩
 case round =>
  obtain ⟨i, u, hi, hik, rfl, rfl, hu, rfl⟩ := hrel
  have HU : Hid (u = reg (not32 s) (cs.take i)) := hu
  have hu2 : u < 4294967296 := by rw [hu]; exact reg_lt (not32_lt _) _ (fun b hb => HB.out b (List.mem_of_mem_take hb))
  clear hu
  by_cases hlt : i < cs.length
  ·obtain ⟨b, o, rfl, _, hcb⟩ := HSA.out (by intro e; rw [e] at hlt; simp at hlt)
   have d1 := hcb i hlt
   obtain ⟨x, hx⟩ : ∃ x, x = cs[i] := ⟨_, rfl⟩
   have hx2 : x < 256 := by rw [hx]; exact HB.out _ (List.getElem_mem _)
   have HX : Hid (x = cs[i]) := hx
   have HC := fun w => pushOut_any w (u ^^^ x) (xor_lt32 hu2 (by omega))
   have hxo : bits .xor .u32 (u : Int) (x : Int) = ((u ^^^ x : Nat) : Int) := u32_xor_nat u x hu2 (by omega)
   rw [← hx] at d1
   clear hcb hx HSA
   go_wp2_with fail
   refine (HC _).mono ?_
   rintro e w' ⟨rfl, rfl⟩
   go_wp2_with fail
   go_roundg (gk - 1)
   case measure => omega
   case rel =>
    refine ⟨i + 1, push8 (u ^^^ x), by omega, by omega, by go_num, rfl, ?_, rfl⟩
    rw [List.take_succ_eq_append_getElem hlt, reg_snoc, ← HU.out, ← HX.out]
  ·have hin : i = cs.length := by omega
   subst hin
   go_wp2_with fail
   go_ret
   have h1 := HU.out
   rw [List.take_of_length_le (Nat.le_refl _)] at h1
   refine ⟨?_, rfl⟩
   have h2 := not_int u hu2
   unfold more
   rw [← h1, ← h2]
   first | rfl | simp

set_option maxHeartbeats 400000 in
theorem lsum_any (w : World) (v : Value) (I : Nat → Prop) (cs : List Nat) (hsrc : Src w I v cs) (hb : ∀ b ∈ cs, b < 256) (hlen : cs.length ≤ 100000000) :
  Calls Tryz.prog 28 #[v] w fun e w' => e = .returned (.int .u32 (more 0 cs : Nat)) ∧ w' = w := by
 have HC := lmore_any w v I cs hsrc hb 0 (by omega) hlen
 go_enter Tryz.func28, Tryz.ntmps28
 go_wp2_with fail
 refine HC.mono ?_
 rintro e w' ⟨rfl, rfl⟩
 go_wp2_with fail
 go_ret
 exact ⟨rfl, rfl⟩

set_option maxHeartbeats 1000000 in
theorem rmore_any (w : World) (v : Value) (I : Nat → Prop) (cs : List Nat) (hsrc : Src w I v cs) (hb : ∀ b ∈ cs, b < 256) (s : Nat) (hs : s < 4294967296) (hlen : cs.length ≤ 100000000) :
  Calls Tryz.prog 89 #[.int .u32 (s : Nat), v] w fun e w' => e = .returned (.int .u32 (more s cs : Nat)) ∧ w' = w := by
 obtain ⟨ao, cap, rfl, hsa⟩ := id hsrc
 have HB : Hid (∀ b ∈ cs, b < 256) := hb
 have HSA : Hid (cs ≠ [] → ∃ b o, ao = some ⟨b, o, none⟩ ∧ I b ∧ ∀ j (_ : j < cs.length), w.cell? ⟨b, o + j, none⟩ = some (.int .u8 (cs[j] : Nat))) := hsa
 clear hsrc hsa hb
 go_enter Tryz.func89, Tryz.ntmps89
 go_wp2_with fail
 go_loopg [5, 6, 7, 8] cs.length (fun k x z _ _ wr => ∃ i u : Nat, i ≤ cs.length ∧ cs.length - i ≤ k ∧ z = .int .i64 (i : Nat) ∧ x = .int .u32 (u : Nat) ∧ u = reg (not32 s) (cs.take i) ∧ wr = w)
 case atStart => exact ⟨0, not32 s, by omega, by omega, rfl, by rw [← not_int s hs]; first | rfl | simp, rfl, rfl⟩
 case round =>
  obtain ⟨i, u, hi, hik, rfl, rfl, hu, rfl⟩ := hrel
  have HU : Hid (u = reg (not32 s) (cs.take i)) := hu
  have hu2 : u < 4294967296 := by rw [hu]; exact reg_lt (not32_lt _) _ (fun b hb => HB.out b (List.mem_of_mem_take hb))
  clear hu
  by_cases hlt : i < cs.length
  ·obtain ⟨b, o, rfl, _, hcb⟩ := HSA.out (by intro e; rw [e] at hlt; simp at hlt)
   have d1 := hcb i hlt
   obtain ⟨x, hx⟩ : ∃ x, x = cs[i] := ⟨_, rfl⟩
   have hx2 : x < 256 := by rw [hx]; exact HB.out _ (List.getElem_mem _)
   have HX : Hid (x = cs[i]) := hx
   have hxo : bits .xor .u32 (u : Int) (x : Int) = ((u ^^^ x : Nat) : Int) := u32_xor_nat u x hu2 (by omega)
   obtain ⟨y, hy⟩ : ∃ y, y = u ^^^ x := ⟨_, rfl⟩
   have hy2 : y < 4294967296 := by rw [hy]; exact xor_lt32 hu2 (by omega)
   have HY : Hid (y = u ^^^ x) := hy
   rw [← hy] at hxo
   rw [← hx] at d1
   obtain ⟨g0, hg0⟩ : ∃ g0, g0 = gk := ⟨_, rfl⟩
   subst hg0
   clear hcb hx HSA hy
   go_wp2_with fail
   go_loopg [5, 7, 8] 8 (fun k x z _ wx => ∃ t q : Nat, t ≤ 8 ∧ 8 - t ≤ k ∧ z = .int .i64 (t : Nat) ∧ x = .int .u32 (q : Nat) ∧ q = pushN t y ∧ wx = wr)
   case atStart => exact ⟨0, y, by omega, by omega, rfl, by first | rfl | rw [hxo], rfl, rfl⟩
   case round =>
    obtain ⟨t, q, ht, htk, rfl, rfl, hq, rfl⟩ := hrel
    have HQ : Hid (q = pushN t y) := hq
    have hq2 : q < 4294967296 := by rw [hq]; exact pushN_lt hy2 t
    clear hq hxo
    by_cases hlt2 : t < 8
    ·have ha := and_one q hq2
     rcases Nat.mod_two_eq_zero_or_one q with h1 | h1
     ·rw [h1] at ha
      have HE : Hid (q % 2 = 0) := h1
      clear h1
      go_wp2_with fail
      go_roundg (gk - 1)
      case measure => omega
      case rel => exact ⟨t + 1, push q, by omega, by omega, by go_num, by rw [← push_even q HE.out], by rw [HQ.out]; rfl, rfl⟩
     ·rw [h1] at ha
      have HE : Hid (q % 2 = 1) := h1
      clear h1
      go_wp2_with fail
      go_roundg (gk - 1)
      case measure => omega
      case rel => exact ⟨t + 1, push q, by omega, by omega, by go_num, by rw [← push_odd q hq2 HE.out], by rw [HQ.out]; rfl, rfl⟩
    ·have htn : t = 8 := by omega
     subst htn
     go_wp2_with fail
     go_roundg (g0 - 1)
     case measure => omega
     case rel =>
      refine ⟨i + 1, q, by omega, by omega, by go_num, rfl, ?_, rfl⟩
      rw [List.take_succ_eq_append_getElem hlt, reg_snoc, ← HU.out, ← HX.out, HQ.out, HY.out]
      rfl
  ·have hin : i = cs.length := by omega
   subst hin
   go_wp2_with fail
   go_ret
   have h1 := HU.out
   rw [List.take_of_length_le (Nat.le_refl _)] at h1
   refine ⟨?_, rfl⟩
   have h2 := not_int u hu2
   unfold more
   rw [← h1, ← h2]
   first | rfl | simp

set_option maxHeartbeats 400000 in
theorem rsum_any (w : World) (v : Value) (I : Nat → Prop) (cs : List Nat) (hsrc : Src w I v cs) (hb : ∀ b ∈ cs, b < 256) (hlen : cs.length ≤ 100000000) :
  Calls Tryz.prog 47 #[v] w fun e w' => e = .returned (.int .u32 (more 0 cs : Nat)) ∧ w' = w := by
 have HC := rmore_any w v I cs hsrc hb 0 (by omega) hlen
 go_enter Tryz.func47, Tryz.ntmps47
 go_wp2_with fail
 refine HC.mono ?_
 rintro e w' ⟨rfl, rfl⟩
 go_wp2_with fail
 go_ret
 exact ⟨rfl, rfl⟩

end Go.Proofs.YtljlmfnbeofmmaaGreatDoor

namespace Go.Proofs.YtljlmfnbeofmmaaGreatDoor
open Go.RowKit

structure Lays (w0 w : World) (p : Nat) (v0 : Value) (X T : Nat) (v n : Nat) (s : Value) (bs : List Nat) (c : Nat) : Prop where
 st : St w p s bs c
 kept : Kept (Fp p v0) w0 w
 own : s.ownBlock = v0.ownBlock ∨ ∀ k, s.ownBlock = some k → w0.heap.size ≤ k
 sum : n256 bs + v * 2 ^ c = X
 cnt : c + n = T
 lo : c ≤ 8 * bs.length
 hi : 8 * bs.length ≤ c + 8
 hn : 8 * bs.length = c + 8 → 0 < n
 hv : v < 2 ^ n
 hx : n256 bs < 2 ^ c

theorem lays_app {w0 wr w1 : World} {p : Nat} {v0 s v' : Value} {X T v n c nq : Nat} {bs : List Nat} (h : Lays w0 wr p v0 X T v n s bs c) (h8 : 8 * bs.length = c) (h0 : 0 < n) {o : Obj}
  (hrow : Row w1 v' (bs ++ [0])) (hg : ((wr.drewN nq).alloc o).grownBy w1 s.ownBlock)
  (hv' : v'.ownBlock = s.ownBlock ∨ v'.ownBlock = some (((wr.drewN nq).alloc o).heap.size)) :
  Lays w0 (w1.setCell ⟨p, 0, none⟩ v') p v0 X T v n v' (bs ++ [0]) c := by
 have hk1 : Kept (fun k => s.ownBlock = some k) wr w1 := (((Kept.refl _ wr).drewN nq).alloc o).grown hg (fun k e => .inl e)
 have hsz : w0.heap.size ≤ wr.heap.size := h.kept.size
 have hlt := h.st.lt
 have hv : v'.ownBlock = s.ownBlock ∨ ∀ k, v'.ownBlock = some k → wr.heap.size ≤ k := by
  rcases hv' with e | e
  ·exact .inl e
  ·refine .inr (fun k e' => ?_)
   rw [e] at e'
   simp at e'
   omega
 have hne : v'.ownBlock ≠ some p := by
  rcases hv with e | e
  ·rw [e]; exact h.st.ne
  ·intro e'; have := e p e'; omega
 refine ⟨h.st.setBytes hk1 hrow hne ?_, ?_, ?_, ?_, h.cnt, by simp; omega, by simp; omega, fun _ => h0, h.hv, ?_⟩
 ·intro b hb
  rcases List.mem_append.1 hb with hb | hb
  ·exact h.st.byte b hb
  ·simp at hb; omega
 ·refine (Kept.trans (H := Fp p v0) h.kept hk1 (fun _ _ e => e) ?_).setCell _ _ (.inl (.inl rfl))
  intro x hx e
  rcases h.own with e' | e'
  ·exact .inr (by rw [← e', e])
  ·have := e' x e; omega
 ·rcases hv with e | e
  ·rw [e]; exact h.own
  ·exact .inr (fun k e' => Nat.le_trans hsz (e k e'))
 ·rw [n256_append]; simpa [n256] using h.sum
 ·rw [n256_append]; simpa [n256] using h.hx

theorem lays_end {w0 wr : World} {p : Nat} {v0 s : Value} {X T v c : Nat} {bs : List Nat} (h : Lays w0 wr p v0 X T v 0 s bs c) (nq : Nat) : Lays w0 (wr.drewN nq) p v0 X T 0 0 s bs T := by
 have e : T = c := by have := h.cnt; omega
 have hv : v = 0 := by have := h.hv; simp at this; exact this
 subst e hv
 exact ⟨h.st.drewN nq, h.kept.drewN nq, h.own, h.sum, rfl, h.lo, h.hi, h.hn, by simp, h.hx⟩

theorem lays_put {w0 wr : World} {p : Nat} {v0 : Value} {X T v n c g cap b free : Nat} {bs : List Nat} (h : Lays w0 wr p v0 X T v n (.slice (some ⟨g, 0, none⟩) (bs.length + 1) cap) (bs ++ [b]) c)
  (hf : c + free = 8 * (bs.length + 1)) (hf0 : 0 < free) (hn : 0 < n) (nq : Nat) :
  Lays w0 (((wr.drewN nq).setCell ⟨g, bs.length, none⟩ (.int .u8 (b ||| (v * 2 ^ (8 - free) % 256) : Nat))).setCell ⟨p, 1, none⟩ (.int .i64 (c + min free n : Nat))) p v0 X T (v / 2 ^ min free n) (n - min free n)
   (.slice (some ⟨g, 0, none⟩) (bs.length + 1) cap) (bs ++ [b ||| (v * 2 ^ (8 - free) % 256)]) (c + min free n) := by
 have hf8 : free ≤ 8 := by have := h.hi; simp at this; omega
 have hb := last_lt bs b c free (by omega) hf8 h.hx
 have hx : b ||| (v * 2 ^ (8 - free) % 256) = b + 2 ^ (8 - free) * (v % 2 ^ free) := by rw [shl_byte v free hf8]; exact or_add _ _ _ hb
 have hx8 : b ||| (v * 2 ^ (8 - free) % 256) < 256 := by
  have h1 : b < 2 ^ 8 := h.st.byte b (by simp)
  have h2 : v * 2 ^ (8 - free) % 256 < 2 ^ 8 := Nat.mod_lt _ (by decide)
  exact Nat.or_lt_two_pow h1 h2
 have hrow0 : Row wr (.slice (some ⟨g, 0, none⟩) (bs.length + 1) cap) (bs ++ [b]) := h.st.row
 have hst := World.ownsRow.stored (n := bs.length + 1) (by simpa [Row] using hrow0) bs.length (.int .u8 (b ||| (v * 2 ^ (8 - free) % 256) : Nat))
 have hrow1 : Row (wr.setCell ⟨g, bs.length, none⟩ (.int .u8 (b ||| (v * 2 ^ (8 - free) % 256) : Nat))) (.slice (some ⟨g, 0, none⟩) (bs.length + 1) cap) (bs ++ [b ||| (v * 2 ^ (8 - free) % 256)]) := by
  have := hst.1
  rw [List.set_append_right _ _ (by simp)] at this
  simpa [Row, byteV] using this
 have hgp : g ≠ p := by have := h.st.ne; simpa [Value.ownBlock] using this
 have hk1 : Kept (· = g) wr (wr.setCell ⟨g, bs.length, none⟩ (.int .u8 (b ||| (v * 2 ^ (8 - free) % 256) : Nat))) := (Kept.refl _ wr).setCell _ _ (.inl rfl)
 have hs1 : St (wr.setCell ⟨g, bs.length, none⟩ (.int .u8 (b ||| (v * 2 ^ (8 - free) % 256) : Nat))) p (.slice (some ⟨g, 0, none⟩) (bs.length + 1) cap) (bs ++ [b ||| (v * 2 ^ (8 - free) % 256)]) c := by
  refine ⟨hk1.cell h.st.cb (Ne.symm hgp), hk1.cell h.st.cc (Ne.symm hgp), (hk1.frozen h.st.lt (Ne.symm hgp)).trans h.st.fb, (hk1.frozen h.st.lt (Ne.symm hgp)).trans h.st.fc, hrow1, h.st.ne, ?_⟩
  intro y hy
  rcases List.mem_append.1 hy with hy | hy
  ·exact h.st.byte y (by simp [hy])
  ·simp at hy; subst hy; exact hx8
 have hsum : n256 (bs ++ [b ||| (v * 2 ^ (8 - free) % 256)]) = n256 (bs ++ [b]) + 2 ^ c * (v % 2 ^ free) := by rw [hx]; exact last_set bs b c free _ (by omega) hf8
 refine ⟨(hs1.setCount (c + min free n)).drewN nq, ?_, h.own, ?_, ?_, ?_, ?_, ?_, ?_, ?_⟩
 ·have hk2 := (Kept.refl (Fp p v0) (wr.setCell ⟨g, bs.length, none⟩ (.int .u8 (b ||| (v * 2 ^ (8 - free) % 256) : Nat)))).setCell ⟨p, 1, none⟩ (.int .i64 (c + min free n : Nat)) (.inl (.inl rfl))
  refine (Kept.trans (H := Fp p v0) ?_ hk2 (fun _ _ e => e) (fun _ _ e => e)).drewN nq
  refine Kept.trans (H := Fp p v0) h.kept hk1 (fun _ _ e => e) ?_
  intro x hx' e
  rcases h.own with e' | e'
  ·exact .inr (by rw [← e', e]; rfl)
  ·have := e' x (by rw [e]; rfl); omega
 ·rw [hsum, lay_step _ _ _ _ _ h.hv]; exact h.sum
 ·have := h.cnt; omega
 ·simp; omega
 ·simp; omega
 ·intro e; simp at e; omega
 ·have hv := h.hv
  rw [Nat.div_lt_iff_lt_mul (Nat.two_pow_pos _), ← Nat.pow_add, show n - min free n + min free n = n by omega]
  exact hv
 ·rw [hsum, Nat.pow_add]
  have h1 := h.hx
  have h2 : v % 2 ^ free < 2 ^ min free n := by
   by_cases hfn : free ≤ n
   ·rw [Nat.min_eq_left hfn]; exact Nat.mod_lt _ (Nat.two_pow_pos _)
   ·rw [Nat.min_eq_right (by omega)]; exact Nat.lt_of_le_of_lt (Nat.mod_le _ _) h.hv
  have h3 : 2 ^ c * (v % 2 ^ free + 1) ≤ 2 ^ c * 2 ^ min free n := Nat.mul_le_mul_left _ h2
  rw [Nat.mul_add] at h3
  omega

theorem lays_rel {w0 wr : World} {p : Nat} {v0 s : Value} {X T v n c g cap b free m k : Nat} {bs bs1 : List Nat} (h : Lays w0 wr p v0 X T v n s bs1 c) (hs : s = .slice (some ⟨g, 0, none⟩) bs1.length cap) (hb : bs1 = bs ++ [b] ∧ m = bs.length)
  (hf : c + free = 8 * (m + 1)) (hf0 : 0 < free) (hn : 0 < n) (nq : Nat) {B V N C : Int} (hB : B = bits .or .u8 (b : Int) ((v : Int) * 2 ^ (8 - free) % 256)) (hV : V = (v : Int) / 2 ^ min free n) (hN : N = ((n - min free n : Nat) : Int)) (hC : C = ((c + min free n : Nat) : Int)) (hk : 2 * n - 1 ≤ k) :
  ∃ s' bs' c' v' n', Value.int .u32 V = Value.int .u32 (v' : Nat) ∧ Value.int .i64 N = Value.int .i64 (n' : Nat) ∧ (2 * n' + if c' = 8 * bs'.length then 1 else 0) ≤ k ∧
   Lays w0 (((wr.drewN nq).setCell ⟨g, m, none⟩ (.int .u8 B)).setCell ⟨p, 1, none⟩ (.int .i64 C)) p v0 X T v' n' s' bs' c' := by
 obtain ⟨rfl, rfl⟩ := hb
 rw [List.length_append, List.length_singleton] at hs
 subst hs
 have R := lays_put h hf hf0 hn nq
 have hb8 : b < 256 := h.st.byte b (by simp)
 have e : ((v : Int) * 2 ^ (8 - free) % 256) = ((v * 2 ^ (8 - free) % 256 : Nat) : Int) := by simp
 rw [e, u8_or_nat b _ hb8 (Nat.mod_lt _ (by decide))] at hB
 subst hB hN hC
 refine ⟨_, _, _, v / 2 ^ min free n, n - min free n, by rw [hV]; simp, rfl, ?_, R⟩
 split <;> omega

set_option maxHeartbeats 1000000 in
theorem lay_any (w : World) (p : Nat) (s : Value) (bs : List Nat) (c v n : Nat) (hst : St w p s bs c) (hv : v < 2 ^ n) (hn : n ≤ 32) (hc : c ≤ 1000000000000)
  (hlo : c ≤ 8 * bs.length) (hhi : 8 * bs.length < c + 8) (hx : n256 bs < 2 ^ c) :
  Calls Tryz.prog 117 #[.pointer (some ⟨p, 0, none⟩), .int .u32 v, .int .i64 n] w fun e w' => e = .returned (.tuple #[]) ∧
   ∃ s' bs', Lays w w' p s (n256 bs + v * 2 ^ c) (c + n) 0 0 s' bs' (c + n) := by
 go_enter Tryz.func117, Tryz.ntmps117
 go_wp2
 go_step3
 go_wp2
 go_step3
 go_wp2
 go_loopg [1, 2] (2 * n + 1) (fun k x y wr => ∃ s' bs' c' v' n', x = .int .u32 (v' : Nat) ∧ y = .int .i64 (n' : Nat) ∧ 2 * n' + (if c' = 8 * bs'.length then 1 else 0) ≤ k ∧ Lays w wr p s (n256 bs + v * 2 ^ c) (c + n) v' n' s' bs' c')
 case atStart => exact ⟨s, bs, c, v, n, rfl, rfl, by split <;> omega, hst, Kept.refl _ _, .inl rfl, rfl, rfl, hlo, by omega, by omega, hv, hx⟩
 case round =>
  obtain ⟨s1, bs1, c1, v1, n1, rfl, rfl, hk, hl⟩ := hrel
  have HL : Hid (Lays w wr p s (n256 bs + v * 2 ^ c) (c + n) v1 n1 s1 bs1 c1) := hl
  have hcc := hl.st.cc
  have hcb := hl.st.cb
  have hfb := hl.st.fb
  have hfc := hl.st.fc
  have hlo1 := hl.lo
  have hhi1 := hl.hi
  have hcn := hl.cnt
  obtain ⟨ao, cap, hs, hg⟩ := hl.st.row.shape
  have HS : Hid (s1 = Value.slice ao bs1.length cap) := hs
  have HK : Hid (2 * n1 + (if c1 = 8 * bs1.length then 1 else 0) ≤ gk) := hk
  rw [hs] at hcb
  obtain ⟨L, hL⟩ : ∃ L, L = bs1.length := ⟨_, rfl⟩
  rw [← hL] at hcb hlo1 hhi1
  have HLL : Hid (L = bs1.length) := hL
  clear hk hL hst hlo hhi hx hv hs hg hl
  have hcn' : c1 + n1 ≤ 1000000000032 := by omega
  clear hcn
  by_cases h0 : n1 = 0
  ·go_wp2
   go_quiet (fail)
   go_wp2
   rw [Exit.noGoto_normal]
   go_end0
   have hl := HL.out
   subst h0
   exact ⟨rfl, s1, bs1, lays_end hl nq⟩
  ·by_cases h8 : 8 * L = c1
   ·go_wp2
    go_quiet (fail)
    have hrow : Row (wr.drewN nq) (.slice ao L cap) bs1 := by have := HL.out.st.row; rw [HS.out, ← HLL.out] at this; exact this
    have HR : Hid (Row ((wr.drewN nq).alloc (.cells #[.int .u8 0] 5)) (.slice ao L cap) bs1) := World.ownsRow.alloc hrow _
    have HLn : Hid (bs1.length + [0].length ≤ 1000000000000) := by have := HLL.out; show bs1.length + 1 ≤ _; omega
    clear hrow
    go_wp2_with (at_builtin; refine wpList_append_row _ rfl (.tmp 65) (.tmp 66) rfl (.slice ao L cap) bs1 rfl HR.out ⟨wr.heap.size, 0, none⟩ 1 1 [0] rfl rfl (bytesAt_new _ 0) HLn.out ?_)
    intro v' w1 hrow hgr hv'
    have hl := HL.out
    have hs := HS.out
    rw [← HLL.out] at hs
    rw [← hs] at hgr hv'
    have R := lays_app hl (by rw [← HLL.out]; exact h8) (by omega) hrow hgr (by simpa using hv')
    have hk1 : Kept (fun k => s1.ownBlock = some k) wr w1 := (((Kept.refl _ wr).drewN nq).alloc _).grown hgr (fun k e => .inl e)
    have hcb1 := hk1.cell hl.st.cb hl.st.ne
    have hfb1 := (hk1.frozen (p := ⟨p, 0, none⟩) hl.st.lt hl.st.ne).trans hl.st.fb
    have hm : 2 * n1 + 1 ≤ gk := by have := HK.out; rw [if_pos (by rw [← HLL.out]; omega)] at this; exact this
    obtain ⟨ao', cap', hs', _⟩ := Row.shape hrow
    have RR : Hid (Lays w (w1.setCell ⟨p, 0, none⟩ v') p s (n256 bs + v * 2 ^ c) (c + n) v1 n1 v' (bs1 ++ [0]) c1) := R
    have eL : (bs1 ++ [0]).length = bs1.length + 1 := by simp
    rw [eL] at hs'
    rw [hs'] at RR ⊢
    clear hrow hgr hv' hl hs R hk1 hs' HR eL
    go_wp2
    go_roundg (2 * n1)
    case measure => omega
    case rel => exact ⟨_, _, c1, v1, n1, rfl, rfl, by rw [if_neg (by rw [List.length_append]; have := HLL.out; simp; omega)]; omega, RR.out⟩
   ·obtain ⟨bs2, b, hb⟩ : ∃ bs2 b, bs1 = bs2 ++ [b] := by
     have hne : bs1 ≠ [] := by intro e; have := HLL.out; rw [e] at this; simp at this; omega
     exact ⟨bs1.dropLast, bs1.getLast hne, (List.dropLast_concat_getLast hne).symm⟩
    obtain ⟨m, hm⟩ : ∃ m, m = bs2.length := ⟨_, rfl⟩
    have hLm : L = m + 1 := by rw [HLL.out, hb, hm]; simp
    subst hLm
    have hl := HL.out
    obtain ⟨g, hao, hcell, hfr⟩ : ∃ g, ao = some ⟨g, 0, none⟩ ∧ wr.cell? ⟨g, m, none⟩ = some (.int .u8 (b : Nat)) ∧ wr.frozen? ⟨g, m, none⟩ = false := by
     obtain ⟨ao', cap', e1, e2⟩ := hl.st.row.shape
     have e3 := HS.out
     rw [e1] at e3
     injection e3 with e3 e4 e5
     obtain ⟨g, e6⟩ := e2 (by rw [hb]; simp)
     subst e3 e5 e6
     have hr := hl.st.row
     rw [e1] at hr
     refine ⟨g, rfl, ?_, ?_⟩
     ·rw [Row.cell hr m (by rw [hb, hm]; simp)]; simp [hb, hm]
     ·exact World.ownsRow.frozenAt hr m
    subst hao
    have HB : Hid (bs1 = bs2 ++ [b] ∧ m = bs2.length) := ⟨hb, hm⟩
    clear hb hm hl
    obtain ⟨f, hf⟩ : ∃ f, c1 + f = 8 * (m + 1) := ⟨8 * (m + 1) - c1, by omega⟩
    have hgp : ¬ p = g := by intro e; have := HL.out.st.ne; rw [HS.out] at this; exact this (by rw [e]; rfl)
    by_cases hfn : f ≤ n1
    ·go_wp2
     go_quiet (fail)
     go_wp2_with fail
     go_region
     go_wp2
     have hm : 2 * n1 ≤ gk := by have := HK.out; omega
     go_roundg (2 * n1 - 1)
     case measure => omega
     case rel =>
      have hmf : min f n1 = f := by omega
      exact lays_rel HL.out HS.out HB.out hf (by omega) (by omega) (nq + 1) (by rw [show (m + 1) * 8 - c1 = f by omega]) (by rw [hmf, show (m + 1) * 8 - c1 = f by omega]) (by omega) (by omega) (Nat.le_refl _)
    ·go_wp2
     go_quiet (fail)
     go_wp2_with fail
     go_region
     go_wp2
     have hm : 2 * n1 ≤ gk := by have := HK.out; omega
     go_roundg (2 * n1 - 1)
     case measure => omega
     case rel =>
      have hmf : min f n1 = n1 := by omega
      exact lays_rel HL.out HS.out HB.out hf (by omega) (by omega) (nq + 1) (by rw [show (m + 1) * 8 - c1 = f by omega]) (by rw [hmf]) (by omega) (by omega) (Nat.le_refl _)
end Go.Proofs.YtljlmfnbeofmmaaGreatDoor

namespace Go.Proofs.YtljlmfnbeofmmaaGreatDoor
open Go.RowKit

structure Wr (w : World) (p : Nat) (s : Value) (X c : Nat) : Prop where
 ex : ∃ bs, St w p s bs c ∧ n256 bs = X ∧ c ≤ 8 * bs.length ∧ 8 * bs.length < c + 8
 lt : X < 2 ^ c

def Grew (w : World) (s s' : Value) : Prop := s'.ownBlock = s.ownBlock ∨ ∀ k, s'.ownBlock = some k → w.heap.size ≤ k

theorem Wr.kept {F : Nat → Prop} {w w' : World} {p : Nat} {s : Value} {X c : Nat} (h : Wr w p s X c) (hk : Kept F w w') (hn : ∀ k, Fp p s k → ¬ F k) : Wr w' p s X c := by
 obtain ⟨bs, h1, h2⟩ := h.ex
 exact ⟨⟨bs, h1.kept hk hn, h2⟩, h.lt⟩

theorem Wr.fp_lt {w : World} {p : Nat} {s : Value} {X c : Nat} (h : Wr w p s X c) {k : Nat} (hk : Fp p s k) : k < w.heap.size := by
 obtain ⟨bs, h1, _⟩ := h.ex
 exact h1.fp_lt hk

theorem newWriter_any (w : World) :
  Calls Tryz.prog 115 #[] w fun e w' => e = .returned (.pointer (some ⟨w.heap.size, 0, none⟩)) ∧ Wr w' w.heap.size (.slice none 0 0) 0 0 ∧ Kept (fun _ => False) w w' ∧ w'.heap.size = w.heap.size + 1 := by
 go_enter Tryz.func115, Tryz.ntmps115
 go_wp2
 go_ret
 refine ⟨rfl, ⟨⟨[], ⟨by simp, by simp, by simp, by simp, World.ownsRow_nil _ _ _ _, by simp [Value.ownBlock], by simp⟩, rfl, by simp, by simp⟩, by simp⟩, (Kept.refl _ w).alloc _, by simp⟩

set_option maxHeartbeats 400000 in
theorem fits_any (n : Int) (w : World) :
  Calls Tryz.prog 116 #[.int .i64 n] w fun e w' => e = .returned (.bool (decide (0 ≤ n ∧ n ≤ 32))) ∧ w' = w := by
 by_cases h0 : 0 ≤ n
 ·by_cases h1 : n ≤ 32
  all_goals
   go_enter Tryz.func116, Tryz.ntmps116
   go_wp2
   go_ret
   exact ⟨by simp [h0, h1], rfl⟩
 ·go_enter Tryz.func116, Tryz.ntmps116
  go_wp2
  go_ret
  exact ⟨by simp; omega, rfl⟩

set_option maxHeartbeats 400000 in
theorem put_good (p v n X c : Nat) (s : Value) (w : World) (h : n ≤ 32) (hv : v < 2 ^ n) (hw : Wr w p s X c) (hc : c ≤ 1000000000000) :
  Calls Tryz.prog 81 #[.pointer (some ⟨p, 0, none⟩), .int .u32 (v : Nat), .int .i64 (n : Nat)] w fun e w' => e = .returned (.int .i64 0) ∧
   ∃ s', Wr w' p s' (X + v * 2 ^ c) (c + n) ∧ Kept (Fp p s) w w' ∧ Grew w s s' := by
 have hd : decide (0 ≤ (n : Int) ∧ (n : Int) ≤ 32) = true := by simp; omega
 have hq : (v : Int) / 2 ^ n = 0 := by
  rw [show ((v : Int) / 2 ^ n) = ((v / 2 ^ n : Nat) : Int) by simp, Nat.div_eq_of_lt hv]; rfl
 obtain ⟨bs, hst, hX, hlo, hhi⟩ := hw.ex
 have HX : Hid (n256 bs = X) := hX
 have HW : Hid (X < 2 ^ c) := hw.lt
 have HC := lay_any w p s bs c v n hst hv h hc hlo hhi (by rw [hX]; exact hw.lt)
 clear hX hw hst hlo hhi
 go_enter Tryz.func81, Tryz.ntmps81
 go_wp2_with (first | (go_at_call 116; refine (fits_any _ _).mono ?_; rintro e w' ⟨rfl, rfl⟩; rw [hd]) | (go_at_call 117; refine HC.mono ?_; rintro e w' ⟨rfl, s', bs', hl⟩))
 go_ret
 refine ⟨rfl, s', ⟨⟨bs', hl.st, ?_, hl.lo, ?_⟩, ?_⟩, hl.kept, hl.own⟩
 ·have := hl.sum; rw [HX.out] at this; simpa using this
 ·have := hl.hi; have := hl.hn; omega
 ·have h1 := hl.sum
  have h2 := hl.hx
  rw [HX.out] at h1
  simp at h1
  omega

set_option maxHeartbeats 400000 in
theorem walign_any (p : Nat) (c X : Nat) (s : Value) (w : World) (h : Wr w p s X c) (hc : c ≤ 1000000000000) :
  Calls Tryz.prog 80 #[.pointer (some ⟨p, 0, none⟩)] w fun e w' => e = .returned (.int .i64 0) ∧ Wr w' p s X ((c + 7) / 8 * 8) ∧ Kept (Fp p s) w w' := by
 obtain ⟨bs, hst, hX, hlo, hhi⟩ := h.ex
 have hfc := hst.fc
 have hcc := hst.cc
 have hcb := hst.cb
 have HX : Hid (n256 bs = X) := hX
 have HW : Hid (X < 2 ^ c) := h.lt
 have HS : Hid (St w p s bs c) := hst
 obtain ⟨ao, cap, hs, _⟩ := hst.row.shape
 rw [hs] at hcb
 have hL : bs.length ≤ 1000000000000 := by omega
 clear h hst hX hs
 go_enter Tryz.func80, Tryz.ntmps80
 go_wp2
 go_ret
 have e : (c + 7) / 8 * 8 = bs.length * 8 := by omega
 refine ⟨rfl, ?_, (Kept.refl _ w).setCell _ _ (.inl (.inl rfl))⟩
 rw [e]
 refine ⟨⟨bs, HS.out.setCount (bs.length * 8), HX.out, by omega, by omega⟩, ?_⟩
 exact Nat.lt_of_lt_of_le HW.out (Nat.pow_le_pow_right (by omega) (by omega))

end Go.Proofs.YtljlmfnbeofmmaaGreatDoor

namespace Go.Proofs.YtljlmfnbeofmmaaGreatDoor
open Go.RowKit
set_option maxHeartbeats 400000 in
theorem newReader_any (v : Value) (I : Nat → Prop) (cs : List Nat) (w : World) (h : Src w I v cs) (hlen : cs.length ≤ 100000000000) (hb : ∀ b ∈ cs, b < 256) :
  Calls Tryz.prog 198 #[v] w fun e w' => ∃ p s, e = .returned (.pointer (some ⟨p, 0, none⟩)) ∧ St w' p s cs 0 ∧ Kept (fun _ => False) w w' ∧ (∀ k, Fp p s k → w.heap.size ≤ k) := by
 obtain ⟨ao, cap, rfl, hsrc⟩ := id h
 have HS : Hid (Src w I (.slice ao cs.length cap) cs) := h
 clear h hsrc
 go_enter Tryz.func198, Tryz.ntmps198
 go_wp2_with (first | (at_make; refine wpList_make_bytes _ rfl _ _ rfl _ _ _ _ cs.length rfl rfl rfl rfl (by omega) ?_; intro w1 hr1 hg1 hs1; have HR : Hid (Row w1 (.slice (some ⟨w.heap.size, 0, none⟩) cs.length cs.length) (List.replicate cs.length 0)) := hr1; have HK : Hid (Kept (fun _ => False) w w1) := (Kept.refl _ w).grown hg1 (by simp); clear hr1 hg1) | (with_reducible refine atCopy ?_; refine wpList_copy_bytes _ rfl (.tmp 12) (.tmp 13) rfl w.heap.size cs.length cs.length ao cs.length cap (List.replicate cs.length 0) cs I rfl rfl (World.ownsRow.alloc HR.out _) (HS.out.kept (HK.out.alloc _) (fun _ _ _ h => h)) (by simp) ?_; intro w2 hr2 hg2 hs2))
 go_ret
 have hk2 : Kept (· = w.heap.size) (w1.alloc (.cells #[.slice (some ⟨w.heap.size, 0, none⟩) cs.length cs.length, .int .i64 0] 284)) w2 := (Kept.refl _ _).grown hg2 (fun k e => .inl (by simpa using e.symm))
 have hne : ¬ w1.heap.size = w.heap.size := by omega
 refine ⟨w1.heap.size, .slice (some ⟨w.heap.size, 0, none⟩) cs.length cs.length, rfl, ⟨hk2.cell (by simp) hne, hk2.cell (by simp) hne, (hk2.frozen (by simp) hne).trans (by simp), (hk2.frozen (by simp) hne).trans (by simp), ?_, by simp [Value.ownBlock]; omega, hb⟩, ?_, ?_⟩
 ·simpa using hr2
 ·exact Kept.trans (H := fun _ => False) (HK.out.alloc _) hk2 (fun _ _ h => h) (fun x hx e => by omega)
 ·intro k hk
  rcases hk with rfl | hk
  ·exact HK.out.size
  ·simp [Value.ownBlock] at hk; omega

set_option maxHeartbeats 400000 in
theorem wbytes_any (p X c : Nat) (s : Value) (w : World) (h : Wr w p s X c) (hc : c ≤ 100000000000) :
  Calls Tryz.prog 82 #[.pointer (some ⟨p, 0, none⟩)] w fun e w' => ∃ g bs, e = .returned (.slice (some ⟨g, 0, none⟩) bs.length bs.length) ∧ Row w' (.slice (some ⟨g, 0, none⟩) bs.length bs.length) bs ∧ (∀ b ∈ bs, b < 256) ∧
   n256 bs = X ∧ bs.length = (c + 7) / 8 ∧ Kept (fun _ => False) w w' ∧ w.heap.size ≤ g := by
 obtain ⟨bs, hst, hX, hlo, hhi⟩ := h.ex
 obtain ⟨ao, cap, hv, _⟩ := hst.row.shape
 have hcb := hst.cb
 have hcb1 : ∀ w1, Kept (fun _ => False) w w1 → w1.cell? ⟨p, 0, none⟩ = some (.slice ao bs.length cap) := fun w1 hk => hk.cell (by rw [hcb, hv]) (fun h => h)
 rw [hv] at hcb
 have HS : Hid (Src w (fun k => (Value.slice ao bs.length cap).ownBlock = some k) (.slice ao bs.length cap) bs) := by have := Src.ofRow hst.row; rw [hv] at this; exact this
 have HB : Hid (∀ b ∈ bs, b < 256) := hst.byte
 have HX : Hid (n256 bs = X) := hX
 have hlen : bs.length ≤ 100000000000 := by omega
 have HL : Hid (bs.length = (c + 7) / 8) := by show _ = _; omega
 clear h hst hX hlo hhi hc hv
 go_enter Tryz.func82, Tryz.ntmps82
 go_wp2_with (first | (at_make; refine wpList_make_bytes _ rfl _ _ rfl _ _ _ _ bs.length rfl rfl rfl rfl (by omega) ?_; intro w1 hr1 hg1 hs1; have HR : Hid (Row w1 (.slice (some ⟨w.heap.size, 0, none⟩) bs.length bs.length) (List.replicate bs.length 0)) := hr1; have HK : Hid (Kept (fun _ => False) w w1) := (Kept.refl _ w).grown hg1 (by simp); have hcb2 := hcb1 w1 HK.out; clear hr1 hg1) | (with_reducible refine atCopy ?_; refine wpList_copy_bytes _ rfl (.tmp 12) (.tmp 16) rfl w.heap.size bs.length bs.length ao bs.length cap (List.replicate bs.length 0) bs _ rfl rfl HR.out (HS.out.kept HK.out (fun _ _ _ h => h)) (by simp) ?_; intro w2 hr2 hg2 hs2))
 go_ret
 refine ⟨w.heap.size, bs, rfl, by simpa using hr2, HB.out, HX.out, HL.out, ?_, Nat.le_refl _⟩
 refine HK.out.grown hg2 (fun k e => .inr ?_)
 simp at e; omega

end Go.Proofs.YtljlmfnbeofmmaaGreatDoor
