/-
  Of the proof: parts ZpD.
-/
import Derived.Laws.ResultCell
import Derived.Test.YtljlmfnbeofmmaaGreatDoorJ19
import Derived.Test.YtljlmfnbeofmmaaGreatDoorJ4

namespace Go.Proofs.YtljlmfnbeofmmaaGreatDoor
open Go.RowKit

def mkZ (m : Mk) : Array Value := #[.int .u16 (m.way : Nat), .int .u32 (m.sum : Nat), .int .u32 (m.packed : Nat), .int .u32 (m.size : Nat), .string (txt m.name)]

theorem bnd8_s {α β : Type} (x : α) (f : α → Option β) : bnd8 (some x) f = f x := rfl
theorem bnd8_n {α β : Type} (f : α → Option β) : bnd8 none f = none := rfl

def LabA (N : Nat) (w w' : World) (c : Nat) (r : List Nat) (e : Ending) : Prop :=
 (∀ m long y, lab8 r = some ((m, long), y) → ∃ a' cap', e = .returned (.tuple #[.agg (mkZ m), .int .i64 (long : Nat)]) ∧ MkOk (m.named []) ∧ m.name = [] ∧ long < 65536 ∧ Cur N w' c y a' cap' ∧ Kept (· = c) w w') ∧ (lab8 r = none → e = pan8 81 ∧ Kept (· = c) w w')

theorem LabA.good {N : Nat} {w w' : World} {c : Nat} {r y : List Nat} {m : Mk} {long : Nat} {e : Ending} (ht : lab8 r = some ((m, long), y)) {a' : Option Addr} {cap' : Nat} (he : e = .returned (.tuple #[.agg (mkZ m), .int .i64 (long : Nat)])) (h1 : MkOk (m.named [])) (h0 : m.name = []) (hl : long < 65536) (h2 : Cur N w' c y a' cap') (h3 : Kept (· = c) w w') : LabA N w w' c r e :=
 ⟨fun m' l' y' h => by rw [ht] at h; simp only [Option.some.injEq, Prod.mk.injEq] at h; obtain ⟨⟨rfl, rfl⟩, rfl⟩ := h; exact ⟨a', cap', he, h1, h0, hl, h2, h3⟩, fun h => by rw [ht] at h; cases h⟩

theorem LabA.bad {N : Nat} {w w' : World} {c : Nat} {r : List Nat} {e : Ending} (ht : lab8 r = none) (he : e = pan8 81) (h3 : Kept (· = c) w w') : LabA N w w' c r e :=
 ⟨fun m' l' y' h => (by rw [ht] at h; cases h), fun _ => ⟨he, h3⟩⟩

set_option maxRecDepth 100000 in
set_option maxHeartbeats 1000000 in
theorem lab_any (N : Nat) (w : World) (c : Nat) (r : List Nat) (a : Option Addr) (cap : Nat) (h : Cur N w c r a cap) :
  Calls Tryz.prog 137 #[.pointer (some ⟨c, 0, none⟩)] w fun e w' => LabA N w w' c r e := by
 obtain ⟨mb, hmb⟩ : ∃ b, b = w.heap.size := ⟨_, rfl⟩
 have HMB : Hid (c < mb ∧ mb = w.heap.size) := hid ⟨by have := h.blk.lt; omega, hmb⟩
 obtain ⟨w0, hw0⟩ : ∃ W, W = w.alloc (.cells #[.int .u16 0, .int .u32 0, .int .u32 0, .int .u32 0, .string ⟨#[]⟩] 60) := ⟨_, rfl⟩
 have hk0 : Same w w0 := by rw [hw0]; exact (Kept.refl _ w).alloc _
 have HK0 : Hid (Kept (· = c) w w0) := hid hk0.k8
 have HM0 : Hid (Blk w0 mb #[.int .u16 0, .int .u32 0, .int .u32 0, .int .u32 0, .string ⟨#[]⟩] 60) := hid (by rw [hw0, hmb]; exact Blk.new w _ _)
 have HC0 : Hid (Cur N w0 c r a cap) := hid (h.kept hk0 (fun f => f) (fun _ _ f => f))
 have H1 := take_any N w0 c r a cap 2 HC0.out (by decide)
 clear h hk0
 go_enter Tryz.func137, Tryz.ntmps137
 go_wp2_with fail
 rw [← hw0, ← hmb]
 clear hw0 hmb
 refine H1.mono ?_
 intro e w1 h1
 have HKp1 := HK0
 cases ht1 : tk8 2 r with
 | none =>
  obtain ⟨rfl, hk⟩ := h1.2 ht1
  have HKb : Hid (Kept (· = c) w w1) := hid (HKp1.out.k8 hk.k8)
  have HEb : Hid (tk8 2 r = none) := ht1
  clear h1 hk ht1 H1
  unfold pan8
  go_wp2_with fail
  exact ⟨rfl, LabA.bad (by simp only [lab8, HEb.out, bnd8_n]) rfl HKb.out⟩
 | some p1 =>
  obtain ⟨x1, r1⟩ := p1
  obtain ⟨v1, a1, cap1, rfl, htk1, hcu1, hk1⟩ := h1.1 x1 r1 ht1
  have E1 : Hid (tk8 2 r = some (x1, r1)) := ht1
  have HKa1 : Hid (Kept (· = c) w w1) := hid (HK0.out.k8 hk1)
  have HMa1 : Hid (Blk w1 mb #[.int .u16 0, .int .u32 0, .int .u32 0, .int .u32 0, .string ⟨#[]⟩] 60) := hid (HM0.out.kept hk1 (fun e => by have := HMB.out; omega))
  have hs1 : Same w1 (w1.alloc (.cells #[.int .u16 0] 58)) := (Kept.refl _ w1).alloc _
  have H2 := exp16_one N (w1.alloc (.cells #[.int .u16 0] 58)) c r1 a1 cap1 0 w1.heap.size (hcu1.kept hs1 (fun f => f) (fun _ _ f => f)) (by decide) (by have := (Blk.new w1 #[.int .u16 0] 58).cell 0; simp at this ⊢)
  have HKp2 : Hid (Kept (· = c) w (w1.alloc (.cells #[.int .u16 0] 58))) := hid (HKa1.out.k8 hs1.k8)
  have HMp2 : Hid (Blk (w1.alloc (.cells #[.int .u16 0] 58)) mb #[.int .u16 0, .int .u32 0, .int .u32 0, .int .u32 0, .string ⟨#[]⟩] 60) := hid (HMa1.out.kept hs1 (fun f => f))
  obtain ⟨va1, vc1, hv1⟩ := htk1.shp
  subst hv1
  clear h1 ht1 htk1 hcu1 hk1 H1 HK0 HM0 HC0 hs1 HKp1
  go_wp2_with fail
  refine H2.mono ?_
  intro e w2 h2
  cases ht2 : ex8 2 0 r1 with
  | none =>
   obtain ⟨rfl, hk⟩ := h2.2 ht2
   have HKb : Hid (Kept (· = c) w w2) := hid (HKp2.out.k8 hk)
   have HEb : Hid (ex8 2 0 r1 = none) := ht2
   clear h2 hk ht2 H2
   unfold pan8
   go_wp2_with fail
   exact ⟨rfl, LabA.bad (by simp only [lab8, E1.out, bnd8_s, HEb.out, bnd8_n]) rfl HKb.out⟩
  | some p2 =>
   obtain ⟨r2, rfl⟩ : ∃ z, z = p2 := ⟨_, rfl⟩
   obtain ⟨a2, cap2, rfl, hcu2, hk2⟩ := h2.1 _ ht2
   have E2 : Hid (ex8 2 0 r1 = some r2) := ht2
   have HKp3 : Hid (Kept (· = c) w w2) := hid (HKp2.out.k8 hk2)
   have HMa2 : Hid (Blk w2 mb #[.int .u16 0, .int .u32 0, .int .u32 0, .int .u32 0, .string ⟨#[]⟩] 60) := hid (HMp2.out.kept hk2 (fun e => by have := HMB.out; omega))
   have H3 := two_any N w2 c r2 a2 cap2 hcu2
   clear h2 ht2 hcu2 hk2 H2 HKp2 HMp2 HKa1 HMa1
   go_wp2_with fail
   refine H3.mono ?_
   intro e w3 h3
   cases ht3 : nm8 2 r2 with
   | none =>
    obtain ⟨rfl, hk⟩ := h3.2 ht3
    have HKb : Hid (Kept (· = c) w w3) := hid (HKp3.out.k8 hk.k8)
    have HEb : Hid (nm8 2 r2 = none) := ht3
    clear h3 hk ht3 H3
    unfold pan8
    go_wp2_with fail
    exact ⟨rfl, LabA.bad (by simp only [lab8, E1.out, bnd8_s, E2.out, bnd8_s, HEb.out, bnd8_n]) rfl HKb.out⟩
   | some p3 =>
    obtain ⟨way, r3⟩ := p3
    obtain ⟨a3, cap3, rfl, hway, hcu3, hk3⟩ := h3.1 way r3 ht3
    have E3 : Hid (nm8 2 r2 = some (way, r3)) := ht3
    have HWAY : Hid (way < 65536) := hway
    have HMa3 : Hid (Blk w3 mb #[.int .u16 0, .int .u32 0, .int .u32 0, .int .u32 0, .string ⟨#[]⟩] 60) := hid (HMa2.out.kept hk3 (fun e => by have := HMB.out; omega))
    have m0 := HMa3.out.cell 0
    have f0 := HMa3.out.frozen 0
    simp at m0
    have hs3 : Kept (· = mb) w3 (w3.setCell ⟨mb, 0, none⟩ (.int .u16 (way : Nat))) := (Kept.refl (· = mb) w3).setCell _ _ (.inl rfl)
    have HCp4 : Hid (Cur N (w3.setCell ⟨mb, 0, none⟩ (.int .u16 (way : Nat))) c r3 a3 cap3) := hid (hcu3.kept hs3 (fun e => by have := HMB.out; omega) (fun k hk e => by have := HMB.out; have := hcu3.new; omega))
    have HKp4 : Hid (Kept (· = c) w (w3.setCell ⟨mb, 0, none⟩ (.int .u16 (way : Nat)))) := hid ((HKp3.out.k8 hk3).setCell _ _ (.inr (by have := HMB.out; simp only; omega)))
    have HMp4 : Hid (Blk (w3.setCell ⟨mb, 0, none⟩ (.int .u16 (way : Nat))) mb #[.int .u16 (way : Nat), .int .u32 0, .int .u32 0, .int .u32 0, .string ⟨#[]⟩] 60) := hid (by have := HMa3.out.set 0 (.int .u16 (way : Nat)); simpa using this)
    have H4 := take_any N _ c r3 a3 cap3 4 HCp4.out (by decide)
    clear h3 ht3 hcu3 hk3 H3 HKp3 HMa2 HMa3 hway hs3
    go_wp2_with fail
    refine H4.mono ?_
    intro e w4 h4
    cases ht4 : tk8 4 r3 with
    | none =>
     obtain ⟨rfl, hk⟩ := h4.2 ht4
     have HKb : Hid (Kept (· = c) w w4) := hid (HKp4.out.k8 hk.k8)
     have HEb : Hid (tk8 4 r3 = none) := ht4
     clear h4 hk ht4 H4
     unfold pan8
     go_wp2_with fail
     exact ⟨rfl, LabA.bad (by simp only [lab8, E1.out, bnd8_s, E2.out, bnd8_s, E3.out, bnd8_s, HEb.out, bnd8_n]) rfl HKb.out⟩
    | some p4 =>
     obtain ⟨x4, r4⟩ := p4
     obtain ⟨v4, a4, cap4, rfl, htk4, hcu4, hk4⟩ := h4.1 x4 r4 ht4
     have E4 : Hid (tk8 4 r3 = some (x4, r4)) := ht4
     have HKp5 : Hid (Kept (· = c) w w4) := hid (HKp4.out.k8 hk4)
     have HMp5 : Hid (Blk w4 mb #[.int .u16 (way : Nat), .int .u32 0, .int .u32 0, .int .u32 0, .string ⟨#[]⟩] 60) := hid (HMp4.out.kept hk4 (fun e => by have := HMB.out; omega))
     have H5 := four_any N w4 c r4 a4 cap4 hcu4
     obtain ⟨va4, vc4, hv4⟩ := htk4.shp
     subst hv4
     clear h4 ht4 htk4 hcu4 hk4 H4 HKp4 HMp4 HCp4 m0 f0
     go_wp2_with fail
     refine H5.mono ?_
     intro e w5 h5
     cases ht5 : nm8 4 r4 with
     | none =>
      obtain ⟨rfl, hk⟩ := h5.2 ht5
      have HKb : Hid (Kept (· = c) w w5) := hid (HKp5.out.k8 hk.k8)
      have HEb : Hid (nm8 4 r4 = none) := ht5
      clear h5 hk ht5 H5
      unfold pan8
      go_wp2_with fail
      exact ⟨rfl, LabA.bad (by simp only [lab8, E1.out, bnd8_s, E2.out, bnd8_s, E3.out, bnd8_s, E4.out, bnd8_s, HEb.out, bnd8_n]) rfl HKb.out⟩
     | some p5 =>
      obtain ⟨sum, r5⟩ := p5
      obtain ⟨a5, cap5, rfl, hv5, hcu5, hk5⟩ := h5.1 sum r5 ht5
      have E5 : Hid (nm8 4 r4 = some (sum, r5)) := ht5
      have HV5 : Hid (sum < 4294967296) := hv5
      have HMp6 : Hid (Blk w5 mb #[.int .u16 (way : Nat), .int .u32 0, .int .u32 0, .int .u32 0, .string ⟨#[]⟩] 60) := hid (HMp5.out.kept hk5 (fun e => by have := HMB.out; omega))
      have HKp6 : Hid (Kept (· = c) w w5) := hid (HKp5.out.k8 hk5)
      have H6 := four_any N w5 c r5 a5 cap5 hcu5
      clear h5 ht5 hcu5 hk5 H5 hv5 HKp5 HMp5
      go_wp2_with fail
      refine H6.mono ?_
      intro e w6 h6
      cases ht6 : nm8 4 r5 with
      | none =>
       obtain ⟨rfl, hk⟩ := h6.2 ht6
       have HKb : Hid (Kept (· = c) w w6) := hid (HKp6.out.k8 hk.k8)
       have HEb : Hid (nm8 4 r5 = none) := ht6
       clear h6 hk ht6 H6
       unfold pan8
       go_wp2_with fail
       exact ⟨rfl, LabA.bad (by simp only [lab8, E1.out, bnd8_s, E2.out, bnd8_s, E3.out, bnd8_s, E4.out, bnd8_s, E5.out, bnd8_s, HEb.out, bnd8_n]) rfl HKb.out⟩
      | some p6 =>
       obtain ⟨pkd, r6⟩ := p6
       obtain ⟨a6, cap6, rfl, hv6, hcu6, hk6⟩ := h6.1 pkd r6 ht6
       have E6 : Hid (nm8 4 r5 = some (pkd, r6)) := ht6
       have HV6 : Hid (pkd < 4294967296) := hv6
       have HMp7 : Hid (Blk w6 mb #[.int .u16 (way : Nat), .int .u32 0, .int .u32 0, .int .u32 0, .string ⟨#[]⟩] 60) := hid (HMp6.out.kept hk6 (fun e => by have := HMB.out; omega))
       have HKp7 : Hid (Kept (· = c) w w6) := hid (HKp6.out.k8 hk6)
       have H7 := four_any N w6 c r6 a6 cap6 hcu6
       clear h6 ht6 hcu6 hk6 H6 hv6 HKp6 HMp6
       go_wp2_with fail
       refine H7.mono ?_
       intro e w7 h7
       cases ht7 : nm8 4 r6 with
       | none =>
        obtain ⟨rfl, hk⟩ := h7.2 ht7
        have HKb : Hid (Kept (· = c) w w7) := hid (HKp7.out.k8 hk.k8)
        have HEb : Hid (nm8 4 r6 = none) := ht7
        clear h7 hk ht7 H7
        unfold pan8
        go_wp2_with fail
        exact ⟨rfl, LabA.bad (by simp only [lab8, E1.out, bnd8_s, E2.out, bnd8_s, E3.out, bnd8_s, E4.out, bnd8_s, E5.out, bnd8_s, E6.out, bnd8_s, HEb.out, bnd8_n]) rfl HKb.out⟩
       | some p7 =>
        obtain ⟨siz, r7⟩ := p7
        obtain ⟨a7, cap7, rfl, hv7, hcu7, hk7⟩ := h7.1 siz r7 ht7
        have E7 : Hid (nm8 4 r6 = some (siz, r7)) := ht7
        have HV7 : Hid (siz < 4294967296) := hv7
        have HMp8 : Hid (Blk w7 mb #[.int .u16 (way : Nat), .int .u32 0, .int .u32 0, .int .u32 0, .string ⟨#[]⟩] 60) := hid (HMp7.out.kept hk7 (fun e => by have := HMB.out; omega))
        have m1 := HMp8.out.cell 1
        have m2 := HMp8.out.cell 2
        have m3 := HMp8.out.cell 3
        have f1 := HMp8.out.frozen 1
        have f2 := HMp8.out.frozen 2
        have f3 := HMp8.out.frozen 3
        simp at m1 m2 m3
        obtain ⟨wq, hwq⟩ : ∃ W, W = ((w7.setCell ⟨mb, 1, none⟩ (.int .u32 (sum : Nat))).setCell ⟨mb, 2, none⟩ (.int .u32 (pkd : Nat))).setCell ⟨mb, 3, none⟩ (.int .u32 (siz : Nat)) := ⟨_, rfl⟩
        have hsq : Kept (· = mb) w7 wq := by rw [hwq]; exact (((Kept.refl (· = mb) w7).setCell _ _ (.inl rfl)).setCell _ _ (.inl rfl)).setCell _ _ (.inl rfl)
        have HCq : Hid (Cur N wq c r7 a7 cap7) := hid (hcu7.kept hsq (fun e => by have := HMB.out; omega) (fun k hk e => by have := HMB.out; have := hcu7.new; omega))
        have HKp8 : Hid (Kept (· = c) w wq) := hid (by rw [hwq]; exact (((HKp7.out.k8 hk7).setCell _ _ (.inr (by have := HMB.out; simp only; omega))).setCell _ _ (.inr (by have := HMB.out; simp only; omega))).setCell _ _ (.inr (by have := HMB.out; simp only; omega)))
        have HMq : Hid (Blk wq mb #[.int .u16 (way : Nat), .int .u32 (sum : Nat), .int .u32 (pkd : Nat), .int .u32 (siz : Nat), .string ⟨#[]⟩] 60) := hid (by rw [hwq]; have := ((HMp8.out.set 1 (.int .u32 (sum : Nat))).set 2 (.int .u32 (pkd : Nat))).set 3 (.int .u32 (siz : Nat)); simpa using this)
        have H8 := two_any N wq c r7 a7 cap7 HCq.out
        clear h7 ht7 hcu7 hk7 H7 hv7 HKp7 HMp7 hsq
        go_wp2_with fail
        rw [← hwq]
        clear hwq m1 m2 m3 f1 f2 f3 HMp8
        refine H8.mono ?_
        intro e w8 h8
        cases ht8 : nm8 2 r7 with
        | none =>
         obtain ⟨rfl, hk⟩ := h8.2 ht8
         have HKb : Hid (Kept (· = c) w w8) := hid (HKp8.out.k8 hk.k8)
         have HEb : Hid (nm8 2 r7 = none) := ht8
         clear h8 hk ht8 H8
         unfold pan8
         go_wp2_with fail
         exact ⟨rfl, LabA.bad (by simp only [lab8, E1.out, bnd8_s, E2.out, bnd8_s, E3.out, bnd8_s, E4.out, bnd8_s, E5.out, bnd8_s, E6.out, bnd8_s, E7.out, bnd8_s, HEb.out, bnd8_n]) rfl HKb.out⟩
        | some p8 =>
         obtain ⟨lng, r8⟩ := p8
         obtain ⟨a8, cap8, rfl, hv8, hcu8, hk8⟩ := h8.1 lng r8 ht8
         have E8 : Hid (nm8 2 r7 = some (lng, r8)) := ht8
         have HV8 : Hid (lng < 65536) := hv8
         have hlng : lng < 65536 := hv8
         have HMa8 : Hid (Blk w8 mb #[.int .u16 (way : Nat), .int .u32 (sum : Nat), .int .u32 (pkd : Nat), .int .u32 (siz : Nat), .string ⟨#[]⟩] 60) := hid (HMq.out.kept hk8 (fun e => by have := HMB.out; omega))
         have hs8 : Same w8 (w8.alloc (.cells #[.int .u16 0] 58)) := (Kept.refl _ w8).alloc _
         have H9 := exp16_one N (w8.alloc (.cells #[.int .u16 0] 58)) c r8 a8 cap8 0 w8.heap.size (hcu8.kept hs8 (fun f => f) (fun _ _ f => f)) (by decide) (by have := (Blk.new w8 #[.int .u16 0] 58).cell 0; simp at this ⊢)
         have HKp9 : Hid (Kept (· = c) w (w8.alloc (.cells #[.int .u16 0] 58))) := hid ((HKp8.out.k8 hk8).k8 hs8.k8)
         have HMp9 : Hid (Blk (w8.alloc (.cells #[.int .u16 0] 58)) mb #[.int .u16 (way : Nat), .int .u32 (sum : Nat), .int .u32 (pkd : Nat), .int .u32 (siz : Nat), .string ⟨#[]⟩] 60) := hid (HMa8.out.kept hs8 (fun f => f))
         clear h8 ht8 hcu8 hk8 H8 hv8 HKp8 HMq HMa8 hs8 HCq
         go_wp2_with fail
         refine H9.mono ?_
         intro e w9 h9
         cases ht9 : ex8 2 0 r8 with
         | none =>
          obtain ⟨rfl, hk⟩ := h9.2 ht9
          have HKb : Hid (Kept (· = c) w w9) := hid (HKp9.out.k8 hk)
          have HEb : Hid (ex8 2 0 r8 = none) := ht9
          clear h9 hk ht9 H9
          unfold pan8
          go_wp2_with fail
          exact ⟨rfl, LabA.bad (by simp only [lab8, E1.out, bnd8_s, E2.out, bnd8_s, E3.out, bnd8_s, E4.out, bnd8_s, E5.out, bnd8_s, E6.out, bnd8_s, E7.out, bnd8_s, E8.out, bnd8_s, HEb.out, bnd8_n]) rfl HKb.out⟩
         | some p9 =>
          obtain ⟨r9, rfl⟩ : ∃ z, z = p9 := ⟨_, rfl⟩
          obtain ⟨a9, cap9, rfl, hcu9, hk9⟩ := h9.1 _ ht9
          have E9 : Hid (ex8 2 0 r8 = some r9) := ht9
          have HK9 : Hid (Kept (· = c) w w9) := hid (HKp9.out.k8 hk9)
          have HM9 : Hid (Blk w9 mb #[.int .u16 (way : Nat), .int .u32 (sum : Nat), .int .u32 (pkd : Nat), .int .u32 (siz : Nat), .string ⟨#[]⟩] 60) := hid (HMp9.out.kept hk9 (fun e => by have := HMB.out; omega))
          have HC9 : Hid (Cur N w9 c r9 a9 cap9) := hcu9
          have m0 := HM9.out.cell 0
          have m1 := HM9.out.cell 1
          have m2 := HM9.out.cell 2
          have m3 := HM9.out.cell 3
          have m4 := HM9.out.cell 4
          have f0 := HM9.out.frozen 0
          have f1 := HM9.out.frozen 1
          have f2 := HM9.out.frozen 2
          have f3 := HM9.out.frozen 3
          have f4 := HM9.out.frozen 4
          simp at m0 m1 m2 m3 m4
          clear h9 ht9 hcu9 hk9 H9 HKp9 HMp9
          go_wp2_with fail
          obtain ⟨wz, hwz⟩ : ∃ W, W = ((((w9.setCell ⟨mb, 0, none⟩ (.int .u16 (way : Nat))).setCell ⟨mb, 1, none⟩ (.int .u32 (sum : Nat))).setCell ⟨mb, 2, none⟩ (.int .u32 (pkd : Nat))).setCell ⟨mb, 3, none⟩ (.int .u32 (siz : Nat))).setCell ⟨mb, 4, none⟩ (.string ⟨#[]⟩) := ⟨_, rfl⟩
          have hkz : Kept (· = mb) w9 wz := by rw [hwz]; exact (((((Kept.refl (· = mb) w9).setCell _ _ (.inl rfl)).setCell _ _ (.inl rfl)).setCell _ _ (.inl rfl)).setCell _ _ (.inl rfl)).setCell _ _ (.inl rfl)
          have hbz : Blk wz mb #[.int .u16 (way : Nat), .int .u32 (sum : Nat), .int .u32 (pkd : Nat), .int .u32 (siz : Nat), .string ⟨#[]⟩] 60 := by rw [hwz]; have := ((((HM9.out.set 0 (.int .u16 (way : Nat))).set 1 (.int .u32 (sum : Nat))).set 2 (.int .u32 (pkd : Nat))).set 3 (.int .u32 (siz : Nat))).set 4 (.string ⟨#[]⟩); simpa using this
          have z0 := hbz.cell 0
          have z1 := hbz.cell 1
          have z2 := hbz.cell 2
          have z3 := hbz.cell 3
          have z4 := hbz.cell 4
          simp at z0 z1 z2 z3 z4
          rw [← hwz]
          refine bodyPost_ret (v := .tuple #[.agg (mkZ ⟨way, sum, pkd, siz, []⟩), .int .i64 (lng : Nat)]) (by rw [results_cell_tmp rfl]; simp [go_sem, z0, z1, z2, z3, z4, mkZ, txt]) rfl ?_
          exact LabA.good (by simp only [lab8, E1.out, bnd8_s, E2.out, E3.out, E4.out, E5.out, E6.out, E7.out, E8.out, E9.out]) rfl ⟨HWAY.out, HV5.out, HV6.out, HV7.out, by show ([] : List Nat).length < 65536; decide⟩ rfl HV8.out (HC9.out.kept hkz (fun e => by have := HMB.out; omega) (fun k hk e => by have := HMB.out; have := HC9.out.new; omega)) (HK9.out.trans hkz (fun _ _ e => e) (fun k hk e => by have := HMB.out; omega))

end Go.Proofs.YtljlmfnbeofmmaaGreatDoor
