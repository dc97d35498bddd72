import Derived.Test.YtljlmfnbeofmmaaGreatDoorZpG
namespace Go.Proofs.YtljlmfnbeofmmaaGreatDoor
open Go.RowKit

def EndA (w w' : World) (o : Except Nat (Nat × Nat)) (e : Ending) : Prop :=
 (∀ n f, o = .ok (n, f) → e = .returned (.tuple #[.int .i64 (n : Nat), .int .i64 (f : Nat)]) ∧ Same w w') ∧ (∀ c, o = .error c → e = pan8 c ∧ Same w w')

theorem EndA.good {w w' : World} {o : Except Nat (Nat × Nat)} {e : Ending} {n f : Nat} (h : o = .ok (n, f)) (he : e = .returned (.tuple #[.int .i64 (n : Nat), .int .i64 (f : Nat)])) (hk : Same w w') : EndA w w' o e :=
 ⟨fun n' f' h' => by rw [h] at h'; simp only [Except.ok.injEq, Prod.mk.injEq] at h'; obtain ⟨rfl, rfl⟩ := h'; exact ⟨he, hk⟩, fun c h' => by rw [h] at h'; cases h'⟩
theorem EndA.bad {w w' : World} {o : Except Nat (Nat × Nat)} {e : Ending} {c : Nat} (h : o = .error c) (he : e = pan8 c) (hk : Same w w') : EndA w w' o e :=
 ⟨fun n' f' h' => (by rw [h] at h'; cases h'), fun c' h' => by rw [h] at h'; simp only [Except.error.injEq] at h'; subst h'; exact ⟨he, hk⟩⟩

theorem end8_none {r : List Nat} {p : Nat} (h : enf8 r = none) : end8 r p = .error 81 := by unfold end8; rw [h]

set_option maxRecDepth 100000 in
set_option maxHeartbeats 400000 in
theorem end_any (N : Nat) (w : World) (r : List Nat) (a : Option Addr) (cap place : Nat) (hsrc : Src w (fun k => k < N) (.slice a r.length cap) r) (hroom : r.length ≤ cap) (hN : N ≤ w.heap.size) (hby : ∀ b ∈ r, b < 256) (hlen : r.length ≤ 2000000) (hpl : place ≤ 2000000) (hadr : a ≠ none) :
  Calls Tryz.prog 91 #[.slice a r.length cap, .int .i64 (place : Nat)] w fun e w' => EndA w w' (end8 r place) e := by
 obtain ⟨cb, hcb⟩ : ∃ b, b = w.heap.size := ⟨_, rfl⟩
 have HCB : Hid (cb = w.heap.size) := hcb
 obtain ⟨L, hL⟩ : ∃ L, L = r.length := ⟨_, rfl⟩
 obtain ⟨w0, hw0⟩ : ∃ W, W = w.alloc (.cells #[.slice a L cap] 129) := ⟨_, rfl⟩
 have hk0 : Same w w0 := by rw [hw0]; exact (Kept.refl _ w).alloc _
 have hc0 : Cur N w0 cb r a cap := ⟨by rw [hw0, hcb, ← hL]; exact Blk.new w _ _, hsrc.kept hk0 (fun _ _ _ f => f), hroom, by omega, hby, hlen, hadr⟩
 have HKp1 : Hid (Kept (· = cb) w w0) := hid hk0.k8
 have H1 := exp32_any N w0 cb r a cap 101010256 hc0 (by decide)
 rw [← hL]
 clear hsrc hroom hN hby hlen hk0 hc0 hL hadr
 go_enter Tryz.func91, Tryz.ntmps91
 go_wp2_with fail
 rw [← hw0, ← hcb]
 clear hw0 hcb
 refine H1.mono ?_
 intro e w1 h1
 cases ht1 : ex8 4 101010256 r with
 | none =>
  obtain ⟨rfl, hk⟩ := h1.2 ht1
  have HKb : Hid (Kept (· = cb) w w1) := hid (HKp1.out.k8 hk)
  have HEb : Hid (ex8 4 101010256 r = none) := ht1
  clear h1 hk ht1 H1
  unfold pan8
  go_wp2_with fail
  exact ⟨rfl, EndA.bad (end8_none (by simp only [enf8, HEb.out, bnd8_n])) rfl (HKb.out.mono (fun k hk e => by have := HCB.out; omega))⟩
 | some p1 =>
  obtain ⟨r1, rfl⟩ : ∃ z, z = p1 := ⟨_, rfl⟩
  obtain ⟨a1, cap1, rfl, hcu1, hk1⟩ := h1.1 _ ht1
  have E1 : Hid (ex8 4 101010256 r = some r1) := ht1
  obtain ⟨wl1, hwl1⟩ : ∃ W, W = w1.alloc (.cells #[.int .u16 0, .int .u16 0] 58) := ⟨_, rfl⟩
  have hsl : Same w1 wl1 := by rw [hwl1]; exact (Kept.refl _ w1).alloc _
  have hbl : Blk wl1 w1.heap.size #[.int .u16 0, .int .u16 0] 58 := by rw [hwl1]; exact Blk.new w1 _ _
  have l0 := hbl.cell 0
  have l1 := hbl.cell 1
  simp at l0 l1
  have HKp2 : Hid (Kept (· = cb) w wl1) := hid ((HKp1.out.k8 hk1).k8 hsl.k8)
  have H2 := exp16_two N wl1 cb r1 a1 cap1 0 0 w1.heap.size (hcu1.kept hsl (fun f => f) (fun _ _ f => f)) (by decide) (by decide) (fun e => by have := hcu1.blk.lt; omega) l0 l1
  clear h1 ht1 hcu1 hk1 H1 HKp1 hsl hbl l0 l1
  go_wp2_with fail
  rw [← hwl1]
  clear hwl1
  refine H2.mono ?_
  intro e w2 h2
  cases ht2 : exx8 0 0 r1 with
  | none =>
   obtain ⟨rfl, hk⟩ := h2.2 ht2
   have HKb : Hid (Kept (· = cb) w w2) := hid (HKp2.out.k8 hk)
   have HEb : Hid (exx8 0 0 r1 = none) := ht2
   clear h2 hk ht2 H2
   unfold pan8
   go_wp2_with fail
   refine ⟨rfl, EndA.bad (end8_none ?_) rfl (HKb.out.mono (fun k hk e => by have := HCB.out; omega))⟩
   have h9 := HEb.out
   unfold exx8 at h9
   simp only [enf8, E1.out, bnd8_s]
   cases h8 : ex8 2 0 r1 with
   | none => rfl
   | some z =>
    rw [h8, bnd8_s] at h9
    rw [bnd8_s, h9, bnd8_n]
  | some p2 =>
   obtain ⟨r2, rfl⟩ : ∃ z, z = p2 := ⟨_, rfl⟩
   obtain ⟨a2, cap2, rfl, hcu2, hk2⟩ := h2.1 _ ht2
   have E2 : Hid (∃ z, ex8 2 0 r1 = some z ∧ ex8 2 0 z = some r2) := hid (by
    unfold exx8 at ht2
    cases h8 : ex8 2 0 r1 with
    | none => rw [h8, bnd8_n] at ht2; cases ht2
    | some z => rw [h8, bnd8_s] at ht2; exact ⟨z, rfl, ht2⟩)
   obtain ⟨z2, hz2, hz3⟩ := E2.out
   have E3 : Hid (ex8 2 0 r1 = some z2) := hz2
   have E4 : Hid (ex8 2 0 z2 = some r2) := hz3
   have HKp3 : Hid (Kept (· = cb) w w2) := hid (HKp2.out.k8 hk2)
   have H3 := two_any N w2 cb r2 a2 cap2 hcu2
   clear h2 ht2 hcu2 hk2 H2 HKp2 hz2 hz3
   go_wp2_with fail
   refine H3.mono ?_
   intro e w3 h3
   cases ht3 : nm8 2 r2 with
   | none =>
    obtain ⟨rfl, hk⟩ := h3.2 ht3
    have HKb : Hid (Kept (· = cb) w w3) := hid (HKp3.out.k8 hk.k8)
    have HEb : Hid (nm8 2 r2 = none) := ht3
    clear h3 hk ht3 H3
    unfold pan8
    go_wp2_with fail
    exact ⟨rfl, EndA.bad (end8_none (by simp only [enf8, E1.out, bnd8_s, E3.out, bnd8_s, E4.out, bnd8_s, HEb.out, bnd8_n])) rfl (HKb.out.mono (fun k hk e => by have := HCB.out; omega))⟩
   | some p3 =>
    obtain ⟨n, r3⟩ := p3
    obtain ⟨a3, cap3, rfl, hn3, hcu3, hk3⟩ := h3.1 n r3 ht3
    have E5 : Hid (nm8 2 r2 = some (n, r3)) := ht3
    have hn16 : n < 65536 := hn3
    obtain ⟨wl3, hwl3⟩ : ∃ W, W = w3.alloc (.cells #[.int .u16 (n : Nat)] 58) := ⟨_, rfl⟩
    have hsl : Same w3 wl3 := by rw [hwl3]; exact (Kept.refl _ w3).alloc _
    have hbl : Blk wl3 w3.heap.size #[.int .u16 (n : Nat)] 58 := by rw [hwl3]; exact Blk.new w3 _ _
    have l0 := hbl.cell 0
    simp at l0
    have HKp4 : Hid (Kept (· = cb) w wl3) := hid ((HKp3.out.k8 hk3).k8 hsl.k8)
    have H4 := exp16_one N wl3 cb r3 a3 cap3 n w3.heap.size (hcu3.kept hsl (fun f => f) (fun _ _ f => f)) hn16 l0
    clear h3 ht3 hcu3 hk3 H3 HKp3 hsl hbl l0 hn3
    go_wp2_with fail
    rw [← hwl3]
    clear hwl3
    refine H4.mono ?_
    intro e w4 h4
    cases ht4 : ex8 2 n r3 with
    | none =>
     obtain ⟨rfl, hk⟩ := h4.2 ht4
     have HKb : Hid (Kept (· = cb) w w4) := hid (HKp4.out.k8 hk)
     have HEb : Hid (ex8 2 n r3 = none) := ht4
     clear h4 hk ht4 H4
     unfold pan8
     go_wp2_with fail
     exact ⟨rfl, EndA.bad (end8_none (by simp only [enf8, E1.out, bnd8_s, E3.out, bnd8_s, E4.out, bnd8_s, E5.out, bnd8_s, HEb.out, bnd8_n])) rfl (HKb.out.mono (fun k hk e => by have := HCB.out; omega))⟩
    | some p4 =>
     obtain ⟨r4, rfl⟩ : ∃ z, z = p4 := ⟨_, rfl⟩
     obtain ⟨a4, cap4, rfl, hcu4, hk4⟩ := h4.1 _ ht4
     have E6 : Hid (ex8 2 n r3 = some r4) := ht4
     have HKp5 : Hid (Kept (· = cb) w w4) := hid (HKp4.out.k8 hk4)
     have H5 := four_any N w4 cb r4 a4 cap4 hcu4
     clear h4 ht4 hcu4 hk4 H4 HKp4
     go_wp2_with fail
     refine H5.mono ?_
     intro e w5 h5
     cases ht5 : nm8 4 r4 with
     | none =>
      obtain ⟨rfl, hk⟩ := h5.2 ht5
      have HKb : Hid (Kept (· = cb) w w5) := hid (HKp5.out.k8 hk.k8)
      have HEb : Hid (nm8 4 r4 = none) := ht5
      clear h5 hk ht5 H5
      unfold pan8
      go_wp2_with fail
      exact ⟨rfl, EndA.bad (end8_none (by simp only [enf8, E1.out, bnd8_s, E3.out, bnd8_s, E4.out, bnd8_s, E5.out, bnd8_s, E6.out, bnd8_s, HEb.out, bnd8_n])) rfl (HKb.out.mono (fun k hk e => by have := HCB.out; omega))⟩
     | some p5 =>
      obtain ⟨lng, r5⟩ := p5
      obtain ⟨a5, cap5, rfl, hv5, hcu5, hk5⟩ := h5.1 lng r5 ht5
      have E7 : Hid (nm8 4 r4 = some (lng, r5)) := ht5
      have hl32 : lng < 4294967296 := hv5
      have HKp6 : Hid (Kept (· = cb) w w5) := hid (HKp5.out.k8 hk5)
      have H6 := four_any N w5 cb r5 a5 cap5 hcu5
      clear h5 ht5 hcu5 hk5 H5 HKp5 hv5
      go_wp2_with fail
      refine H6.mono ?_
      intro e w6 h6
      cases ht6 : nm8 4 r5 with
      | none =>
       obtain ⟨rfl, hk⟩ := h6.2 ht6
       have HKb : Hid (Kept (· = cb) w w6) := hid (HKp6.out.k8 hk.k8)
       have HEb : Hid (nm8 4 r5 = none) := ht6
       clear h6 hk ht6 H6
       unfold pan8
       go_wp2_with fail
       exact ⟨rfl, EndA.bad (end8_none (by simp only [enf8, E1.out, bnd8_s, E3.out, bnd8_s, E4.out, bnd8_s, E5.out, bnd8_s, E6.out, bnd8_s, E7.out, bnd8_s, HEb.out, bnd8_n])) rfl (HKb.out.mono (fun k hk e => by have := HCB.out; omega))⟩
      | some p6 =>
       obtain ⟨fr, r6⟩ := p6
       obtain ⟨a6, cap6, rfl, hv6, hcu6, hk6⟩ := h6.1 fr r6 ht6
       have E8 : Hid (nm8 4 r5 = some (fr, r6)) := ht6
       have hf32 : fr < 4294967296 := hv6
       obtain ⟨wl6, hwl6⟩ : ∃ W, W = w6.alloc (.cells #[.int .u16 0] 58) := ⟨_, rfl⟩
       have hsl : Same w6 wl6 := by rw [hwl6]; exact (Kept.refl _ w6).alloc _
       have hbl : Blk wl6 w6.heap.size #[.int .u16 0] 58 := by rw [hwl6]; exact Blk.new w6 _ _
       have l0 := hbl.cell 0
       simp at l0
       have HKp7 : Hid (Kept (· = cb) w wl6) := hid ((HKp6.out.k8 hk6).k8 hsl.k8)
       have H7 := exp16_one N wl6 cb r6 a6 cap6 0 w6.heap.size (hcu6.kept hsl (fun f => f) (fun _ _ f => f)) (by decide) l0
       clear h6 ht6 hcu6 hk6 H6 HKp6 hsl hbl l0 hv6
       go_wp2_with fail
       rw [← hwl6]
       clear hwl6
       refine H7.mono ?_
       intro e w7 h7
       cases ht7 : ex8 2 0 r6 with
       | none =>
        obtain ⟨rfl, hk⟩ := h7.2 ht7
        have HKb : Hid (Kept (· = cb) w w7) := hid (HKp7.out.k8 hk)
        have HEb : Hid (ex8 2 0 r6 = none) := ht7
        clear h7 hk ht7 H7
        unfold pan8
        go_wp2_with fail
        exact ⟨rfl, EndA.bad (end8_none (by simp only [enf8, E1.out, bnd8_s, E3.out, bnd8_s, E4.out, bnd8_s, E5.out, bnd8_s, E6.out, bnd8_s, E7.out, bnd8_s, E8.out, bnd8_s, HEb.out, bnd8_n])) rfl (HKb.out.mono (fun k hk e => by have := HCB.out; omega))⟩
       | some p7 =>
        obtain ⟨r7, rfl⟩ : ∃ z, z = p7 := ⟨_, rfl⟩
        obtain ⟨a7, cap7, rfl, hcu7, hk7⟩ := h7.1 _ ht7
        have HK7 : Hid (Same w w7) := hid ((HKp7.out.k8 hk7).mono (fun k hk e => by have := HCB.out; omega))
        have HEN : Hid (enf8 r = some (n, lng, fr)) := hid (by simp only [enf8, E1.out, bnd8_s, E3.out, bnd8_s, E4.out, bnd8_s, E5.out, bnd8_s, E6.out, bnd8_s, E7.out, bnd8_s, E8.out, bnd8_s, ht7])
        obtain ⟨s, hs⟩ : ∃ s, s = fr + lng := ⟨_, rfl⟩
        have hsI : (fr : Int) + (lng : Int) = (s : Int) := by omega
        have hsw : IntKind.u64.wrap (s : Int) = (s : Int) := by rw [IntKind.wrap_u64]; omega
        have hfw : IntKind.u64.wrap (fr : Int) = (fr : Int) := by rw [IntKind.wrap_u64]; omega
        have hlw : IntKind.u64.wrap (lng : Int) = (lng : Int) := by rw [IntKind.wrap_u64]; omega
        have hpw : IntKind.u64.wrap (place : Int) = (place : Int) := by rw [IntKind.wrap_u64]; omega
        have HS : Hid (s = fr + lng) := hs
        clear h7 ht7 hcu7 hk7 H7 HKp7 hs
        by_cases hsp : s = place
        ·subst hsp
         have HO := need_ok w7 (.int .i64 81)
         go_wp2_with fail
         refine HO.mono ?_
         rintro e w8 ⟨rfl, hw8⟩
         subst hw8
         clear HO
         by_cases hn : n ≤ 64
         ·have bn : decide ((n : Int) ≤ 64) = true := by simp; omega
          have HO := need_ok w8 (.int .i64 86)
          go_wp2_with fail
          refine HO.mono ?_
          rintro e w9 ⟨rfl, hw9⟩
          subst hw9
          clear HO
          go_wp2_with fail
          go_ret2
          exact EndA.good (by unfold end8; rw [HEN.out]; simp only; rw [if_neg (by have := HS.out; omega), if_neg (by omega)]) rfl HK7.out
         ·have bn : decide ((n : Int) ≤ 64) = false := by simp; omega
          have HO := need_bad w8 86
          go_wp2_with fail
          refine HO.mono ?_
          rintro e w9 ⟨rfl, hw9⟩
          subst hw9
          clear HO
          unfold pan8
          go_wp2_with fail
          exact ⟨rfl, EndA.bad (by unfold end8; rw [HEN.out]; simp only; rw [if_neg (by have := HS.out; omega), if_pos (by omega)]) rfl HK7.out⟩
        ·have bs : ((s : Int) == (place : Int)) = false := by simp; omega
         have HO := need_bad w7 81
         go_wp2_with fail
         refine HO.mono ?_
         rintro e w8 ⟨rfl, hw8⟩
         subst hw8
         clear HO
         unfold pan8
         go_wp2_with fail
         exact ⟨rfl, EndA.bad (by unfold end8; rw [HEN.out]; simp only; rw [if_pos (by have := HS.out; omega)]) rfl HK7.out⟩

end Go.Proofs.YtljlmfnbeofmmaaGreatDoor
