/-
  Of the proof: parts ZpE.
-/
import Derived.Laws.BytesArg
import Derived.Test.YtljlmfnbeofmmaaGreatDoorJ20

namespace Go.Proofs.YtljlmfnbeofmmaaGreatDoor
open Go.RowKit

theorem str8 {w : World} {I : Nat → Prop} {a : Option Addr} {n c : Nat} {x : List Nat} (h : Src w I (.slice a n c) x) (hn : x.length = n) : (convert 26 9 (.slice a n c)).run Tryz.prog w = .ok (.string (txt x)) w := by
 obtain ⟨ao, cap, e, hs⟩ := h
 simp only [Value.slice.injEq] at e
 obtain ⟨rfl, _, rfl⟩ := e
 subst hn
 cases hx : x with
 | nil =>
  cases a with
  | none => exact run_convert_bytes_nil (P := Tryz.prog) w 26 5 Tryz.underlying26 Tryz.underlying5 0 c 9 Tryz.underlying9
  | some ad =>
   rw [run_convert_bytes_string w 26 9 5 _ _ c Tryz.underlying26 Tryz.underlying5 Tryz.underlying9]
   exact run_bytesToString (P := Tryz.prog) w ad 0 c [] (run_loadCells_list (P := Tryz.prog) w ad [] (fun j v hj => by simp at hj))
 | cons b r =>
  obtain ⟨g, o, h1, _, h3⟩ := hs (by rw [hx]; simp)
  rw [← hx]
  subst h1
  have h := run_convert_bytes_arg (P := Tryz.prog) w 26 5 Tryz.underlying26 Tryz.underlying5 g o x.length c (x.map (fun b => ((b : Nat) : Int))) (by simp) (fun i hi => by rw [h3 i hi]; simp [List.getD, hi]) 9 Tryz.underlying9
  rw [h]
  have e : strOfNums (x.map (fun b => ((b : Nat) : Int))) = txt x := by
   unfold strOfNums txt
   rw [List.map_map]
   rfl
  rw [e]

def RecA (N : Nat) (w w' : World) (c : Nat) (r : List Nat) (e : Ending) : Prop :=
 (∀ m at' y, rec8 r = some ((m, at'), y) → ∃ a' cap', e = .returned (.tuple #[.agg (mkZ m), .int .u32 (at' : Nat)]) ∧ MkOk m ∧ (∀ b ∈ m.name, b < 256) ∧ at' < 4294967296 ∧ Cur N w' c y a' cap' ∧ Kept (· = c) w w') ∧ (rec8 r = none → e = pan8 81 ∧ Kept (· = c) w w')

theorem RecA.good {N : Nat} {w w' : World} {c : Nat} {r y : List Nat} {m : Mk} {at' : Nat} {e : Ending} (ht : rec8 r = some ((m, at'), y)) {a' : Option Addr} {cap' : Nat} (he : e = .returned (.tuple #[.agg (mkZ m), .int .u32 (at' : Nat)])) (h1 : MkOk m) (h0 : ∀ b ∈ m.name, b < 256) (hl : at' < 4294967296) (h2 : Cur N w' c y a' cap') (h3 : Kept (· = c) w w') : RecA N w w' c r e :=
 ⟨fun m' l' y' h => by rw [ht] at h; simp only [Option.some.injEq, Prod.mk.injEq] at h; obtain ⟨⟨rfl, rfl⟩, rfl⟩ := h; exact ⟨a', cap', he, h1, h0, hl, h2, h3⟩, fun h => by rw [ht] at h; cases h⟩

theorem RecA.bad {N : Nat} {w w' : World} {c : Nat} {r : List Nat} {e : Ending} (ht : rec8 r = none) (he : e = pan8 81) (h3 : Kept (· = c) w w') : RecA N w w' c r e :=
 ⟨fun m' l' y' h => (by rw [ht] at h; cases h), fun _ => ⟨he, h3⟩⟩

set_option maxRecDepth 100000 in
set_option maxHeartbeats 1000000 in
theorem rec_any (N : Nat) (w : World) (c : Nat) (r : List Nat) (a : Option Addr) (cap : Nat) (h : Cur N w c r a cap) :
  Calls Tryz.prog 92 #[.pointer (some ⟨c, 0, none⟩)] w fun e w' => RecA N w w' c r e := by
 obtain ⟨mb, hmb⟩ : ∃ b, b = w.heap.size := ⟨_, rfl⟩
 have HMB : Hid (c < mb ∧ mb = w.heap.size) := hid ⟨by have := h.blk.lt; omega, hmb⟩
 obtain ⟨w0, hw0⟩ : ∃ W, W = w.alloc (.cells #[.int .u16 0, .int .u32 0, .int .u32 0, .int .u32 0, .string ⟨#[]⟩] 60) := ⟨_, rfl⟩
 have hk0 : Same w w0 := by rw [hw0]; exact (Kept.refl _ w).alloc _
 have HKp1 : Hid (Kept (· = c) w w0) := hid hk0.k8
 have HMp1 : Hid (Blk w0 mb #[.int .u16 0, .int .u32 0, .int .u32 0, .int .u32 0, .string ⟨#[]⟩] 60) := hid (by rw [hw0, hmb]; exact Blk.new w _ _)
 have HC0 : Hid (Cur N w0 c r a cap) := hid (h.kept hk0 (fun f => f) (fun _ _ f => f))
 have H1 := exp32_any N w0 c r a cap 33639248 HC0.out (by decide)
 clear h hk0
 go_enter Tryz.func92, Tryz.ntmps92
 go_wp2_with fail
 rw [← hw0, ← hmb]
 clear hw0 hmb
 refine H1.mono ?_
 intro e w1 h1
 cases ht1 : ex8 4 33639248 r with
 | none =>
  obtain ⟨rfl, hk⟩ := h1.2 ht1
  have HKb : Hid (Kept (· = c) w w1) := hid (HKp1.out.k8 hk)
  have HEb : Hid (ex8 4 33639248 r = none) := ht1
  clear h1 hk ht1 H1
  unfold pan8
  go_wp2_with fail
  exact ⟨rfl, RecA.bad (by simp only [rec8, HEb.out, bnd8_n]) rfl HKb.out⟩
 | some p1 =>
  obtain ⟨r1, rfl⟩ : ∃ z, z = p1 := ⟨_, rfl⟩
  obtain ⟨a1, cap1, rfl, hcu1, hk1⟩ := h1.1 _ ht1
  have E1 : Hid (ex8 4 33639248 r = some r1) := ht1
  have HKp2 : Hid (Kept (· = c) w w1) := hid (HKp1.out.k8 hk1)
  have HMp2 : Hid (Blk w1 mb #[.int .u16 0, .int .u32 0, .int .u32 0, .int .u32 0, .string ⟨#[]⟩] 60) := hid (HMp1.out.kept hk1 (fun e => by have := HMB.out; omega))
  have H2 := take_any N w1 c r1 a1 cap1 2 hcu1 (by decide)
  clear h1 ht1 hcu1 hk1 H1 HKp1 HMp1 HC0
  go_wp2_with fail
  refine H2.mono ?_
  intro e w2 h2
  cases ht2 : tk8 2 r1 with
  | none =>
   obtain ⟨rfl, hk⟩ := h2.2 ht2
   have HKb : Hid (Kept (· = c) w w2) := hid (HKp2.out.k8 hk.k8)
   have HEb : Hid (tk8 2 r1 = none) := ht2
   clear h2 hk ht2 H2
   unfold pan8
   go_wp2_with fail
   exact ⟨rfl, RecA.bad (by simp only [rec8, E1.out, bnd8_s, HEb.out, bnd8_n]) rfl HKb.out⟩
  | some p2 =>
   obtain ⟨x2, r2⟩ := p2
   obtain ⟨v2, a2, cap2, rfl, htk2, hcu2, hk2⟩ := h2.1 x2 r2 ht2
   have E2 : Hid (tk8 2 r1 = some (x2, r2)) := ht2
   have HKp3 : Hid (Kept (· = c) w w2) := hid (HKp2.out.k8 hk2)
   have HMp3 : Hid (Blk w2 mb #[.int .u16 0, .int .u32 0, .int .u32 0, .int .u32 0, .string ⟨#[]⟩] 60) := hid (HMp2.out.kept hk2 (fun e => by have := HMB.out; omega))
   have H3 := lab_any N w2 c r2 a2 cap2 hcu2
   obtain ⟨va2, vc2, hv2⟩ := htk2.shp
   subst hv2
   clear h2 ht2 htk2 hcu2 hk2 H2 HKp2 HMp2
   go_wp2_with fail
   refine H3.mono ?_
   intro e w3 h3
   cases ht3 : lab8 r2 with
   | none =>
    obtain ⟨rfl, hk⟩ := h3.2 ht3
    have HKb : Hid (Kept (· = c) w w3) := hid (HKp3.out.k8 hk)
    have HEb : Hid (lab8 r2 = none) := ht3
    clear h3 hk ht3 H3
    unfold pan8
    go_wp2_with fail
    exact ⟨rfl, RecA.bad (by simp only [rec8, E1.out, bnd8_s, E2.out, bnd8_s, HEb.out, bnd8_n]) rfl HKb.out⟩
   | some p3 =>
    obtain ⟨⟨m, lng⟩, r3⟩ := p3
    obtain ⟨a3, cap3, rfl, hmk3, hnm3, hlng, hcu3, hk3⟩ := h3.1 m lng r3 ht3
    have E3 : Hid (lab8 r2 = some ((m, lng), r3)) := ht3
    have HMK : Hid (MkOk (m.named []) ∧ lng < 65536) := hid ⟨hmk3, hlng⟩
    have HMa3 : Hid (Blk w3 mb #[.int .u16 0, .int .u32 0, .int .u32 0, .int .u32 0, .string ⟨#[]⟩] 60) := hid (HMp3.out.kept hk3 (fun e => by have := HMB.out; omega))
    have m0 := HMa3.out.cell 0
    have f0 := HMa3.out.frozen 0
    have m1 := HMa3.out.cell 1
    have f1 := HMa3.out.frozen 1
    have m2 := HMa3.out.cell 2
    have f2 := HMa3.out.frozen 2
    have m3 := HMa3.out.cell 3
    have f3 := HMa3.out.frozen 3
    have m4 := HMa3.out.cell 4
    have f4 := HMa3.out.frozen 4
    simp at m0 m1 m2 m3 m4
    obtain ⟨wq, hwq⟩ : ∃ W, W = ((((w3.setCell ⟨mb, 0, none⟩ (.int .u16 (m.way : Nat))).setCell ⟨mb, 1, none⟩ (.int .u32 (m.sum : Nat))).setCell ⟨mb, 2, none⟩ (.int .u32 (m.packed : Nat))).setCell ⟨mb, 3, none⟩ (.int .u32 (m.size : Nat))).setCell ⟨mb, 4, none⟩ (.string (txt m.name)) := ⟨_, rfl⟩
    have hsq : Kept (· = mb) w3 wq := by rw [hwq]; exact (((((Kept.refl (· = mb) w3).setCell _ _ (.inl rfl)).setCell _ _ (.inl rfl)).setCell _ _ (.inl rfl)).setCell _ _ (.inl rfl)).setCell _ _ (.inl rfl)
    have hcq : Cur N wq c r3 a3 cap3 := hcu3.kept hsq (fun e => by have := HMB.out; omega) (fun k hk e => by have := HMB.out; have := hcu3.new; omega)
    have hkq : Kept (· = c) w wq := (HKp3.out.k8 hk3).trans hsq (fun _ _ e => e) (fun k hk e => by have := HMB.out; omega)
    have HMq : Hid (Blk wq mb #[.int .u16 (m.way : Nat), .int .u32 (m.sum : Nat), .int .u32 (m.packed : Nat), .int .u32 (m.size : Nat), .string (txt m.name)] 60) := hid (by rw [hwq]; have := ((((HMa3.out.set 0 (.int .u16 (m.way : Nat))).set 1 (.int .u32 (m.sum : Nat))).set 2 (.int .u32 (m.packed : Nat))).set 3 (.int .u32 (m.size : Nat))).set 4 (.string (txt m.name)); simpa using this)
    obtain ⟨wp, hwp⟩ : ∃ W, W = wq.alloc (.cells #[.int .u16 0, .int .u16 0] 58) := ⟨_, rfl⟩
    have hsp : Same wq wp := by rw [hwp]; exact (Kept.refl _ wq).alloc _
    have hbp : Blk wp wq.heap.size #[.int .u16 0, .int .u16 0] 58 := by rw [hwp]; exact Blk.new wq _ _
    have HSZ : Hid (wq.heap.size = w3.heap.size) := hid (by rw [hwq]; simp [World.setCell])
    have p0 := hbp.cell 0
    have p1 := hbp.cell 1
    simp at p0 p1
    have H4 := exp16_two N wp c r3 a3 cap3 0 0 wq.heap.size (hcq.kept hsp (fun f => f) (fun _ _ f => f)) (by decide) (by decide) (fun e => by have := hcq.blk.lt; omega) p0 p1
    rw [HSZ.out] at H4
    have HKp4 : Hid (Kept (· = c) w wp) := hid (hkq.k8 hsp.k8)
    have HMp4 : Hid (Blk wp mb #[.int .u16 (m.way : Nat), .int .u32 (m.sum : Nat), .int .u32 (m.packed : Nat), .int .u32 (m.size : Nat), .string (txt m.name)] 60) := hid (HMq.out.kept hsp (fun f => f))
    clear h3 ht3 hcu3 hk3 H3 HKp3 HMp3 HMa3 hsq hcq hkq hsp hbp p0 p1 hmk3 hnm3 HSZ
    unfold mkZ
    go_wp2_with fail
    rw [← hwq, ← hwp]
    clear hwq hwp m0 m1 m2 m3 m4 f0 f1 f2 f3 f4 HMq
    refine H4.mono ?_
    intro e w4 h4
    cases ht4 : exx8 0 0 r3 with
    | none =>
     obtain ⟨rfl, hk⟩ := h4.2 ht4
     have HKb : Hid (Kept (· = c) w w4) := hid (HKp4.out.k8 hk)
     have HEb : Hid (exx8 0 0 r3 = none) := ht4
     clear h4 hk ht4 H4
     unfold pan8
     go_wp2_with fail
     refine ⟨rfl, RecA.bad ?_ rfl HKb.out⟩
     have h9 := HEb.out
     unfold exx8 at h9
     simp only [rec8, E1.out, bnd8_s, E2.out, E3.out]
     cases h8 : ex8 2 0 r3 with
     | none => rfl
     | some z =>
      rw [h8, bnd8_s] at h9
      rw [bnd8_s, h9, bnd8_n]
    | some p4 =>
     obtain ⟨r4, rfl⟩ : ∃ z, z = p4 := ⟨_, rfl⟩
     obtain ⟨a4, cap4, rfl, hcu4, hk4⟩ := h4.1 _ ht4
     have E4 : Hid (∃ z, ex8 2 0 r3 = some z ∧ ex8 2 0 z = some r4) := hid (by
      unfold exx8 at ht4
      cases h8 : ex8 2 0 r3 with
      | none => rw [h8, bnd8_n] at ht4; cases ht4
      | some z => rw [h8, bnd8_s] at ht4; exact ⟨z, rfl, ht4⟩)
     obtain ⟨z4, hz4, hz5⟩ := E4.out
     have E5 : Hid (ex8 2 0 r3 = some z4) := hz4
     have E6 : Hid (ex8 2 0 z4 = some r4) := hz5
     have HKp5 : Hid (Kept (· = c) w w4) := hid (HKp4.out.k8 hk4)
     have HMp5 : Hid (Blk w4 mb #[.int .u16 (m.way : Nat), .int .u32 (m.sum : Nat), .int .u32 (m.packed : Nat), .int .u32 (m.size : Nat), .string (txt m.name)] 60) := hid (HMp4.out.kept hk4 (fun e => by have := HMB.out; omega))
     have H5 := take_any N w4 c r4 a4 cap4 6 hcu4 (by decide)
     clear h4 ht4 hcu4 hk4 H4 HKp4 HMp4 hz4 hz5
     go_wp2_with fail
     refine H5.mono ?_
     intro e w5 h5
     cases ht5 : tk8 6 r4 with
     | none =>
      obtain ⟨rfl, hk⟩ := h5.2 ht5
      have HKb : Hid (Kept (· = c) w w5) := hid (HKp5.out.k8 hk.k8)
      have HEb : Hid (tk8 6 r4 = none) := ht5
      clear h5 hk ht5 H5
      unfold pan8
      go_wp2_with fail
      exact ⟨rfl, RecA.bad (by simp only [rec8, E1.out, bnd8_s, E2.out, bnd8_s, E3.out, bnd8_s, E5.out, bnd8_s, E6.out, bnd8_s, HEb.out, bnd8_n]) rfl HKb.out⟩
     | some p5 =>
      obtain ⟨x5, r5⟩ := p5
      obtain ⟨v5, a5, cap5, rfl, htk5, hcu5, hk5⟩ := h5.1 x5 r5 ht5
      have E7 : Hid (tk8 6 r4 = some (x5, r5)) := ht5
      have HKp6 : Hid (Kept (· = c) w w5) := hid (HKp5.out.k8 hk5)
      have HMp6 : Hid (Blk w5 mb #[.int .u16 (m.way : Nat), .int .u32 (m.sum : Nat), .int .u32 (m.packed : Nat), .int .u32 (m.size : Nat), .string (txt m.name)] 60) := hid (HMp5.out.kept hk5 (fun e => by have := HMB.out; omega))
      have H6 := four_any N w5 c r5 a5 cap5 hcu5
      obtain ⟨va5, vc5, hv5⟩ := htk5.shp
      subst hv5
      clear h5 ht5 htk5 hcu5 hk5 H5 HKp5 HMp5
      go_wp2_with fail
      refine H6.mono ?_
      intro e w6 h6
      cases ht6 : nm8 4 r5 with
      | none =>
       obtain ⟨rfl, hk⟩ := h6.2 ht6
       have HKb : Hid (Kept (· = c) w w6) := hid (HKp6.out.k8 hk.k8)
       have HEb : Hid (nm8 4 r5 = none) := ht6
       clear h6 hk ht6 H6
       unfold pan8
       go_wp2_with fail
       exact ⟨rfl, RecA.bad (by simp only [rec8, E1.out, bnd8_s, E2.out, bnd8_s, E3.out, bnd8_s, E5.out, bnd8_s, E6.out, bnd8_s, E7.out, bnd8_s, HEb.out, bnd8_n]) rfl HKb.out⟩
      | some p6 =>
       obtain ⟨pl, r6⟩ := p6
       obtain ⟨a6, cap6, rfl, hpl, hcu6, hk6⟩ := h6.1 pl r6 ht6
       have E8 : Hid (nm8 4 r5 = some (pl, r6)) := ht6
       have HPL : Hid (pl < 4294967296) := hpl
       have HKp7 : Hid (Kept (· = c) w w6) := hid (HKp6.out.k8 hk6)
       have HMp7 : Hid (Blk w6 mb #[.int .u16 (m.way : Nat), .int .u32 (m.sum : Nat), .int .u32 (m.packed : Nat), .int .u32 (m.size : Nat), .string (txt m.name)] 60) := hid (HMp6.out.kept hk6 (fun e => by have := HMB.out; omega))
       have H7 := take_any N w6 c r6 a6 cap6 lng hcu6 (by have := HMK.out.2; omega)
       clear h6 ht6 hcu6 hk6 H6 HKp6 HMp6 hpl
       go_wp2_with fail
       refine H7.mono ?_
       intro e w7 h7
       cases ht7 : tk8 lng r6 with
       | none =>
        obtain ⟨rfl, hk⟩ := h7.2 ht7
        have HKb : Hid (Kept (· = c) w w7) := hid (HKp7.out.k8 hk.k8)
        have HEb : Hid (tk8 lng r6 = none) := ht7
        clear h7 hk ht7 H7
        unfold pan8
        go_wp2_with fail
        exact ⟨rfl, RecA.bad (by simp only [rec8, E1.out, bnd8_s, E2.out, bnd8_s, E3.out, bnd8_s, E5.out, bnd8_s, E6.out, bnd8_s, E7.out, bnd8_s, E8.out, bnd8_s, HEb.out, bnd8_n]) rfl HKb.out⟩
       | some p7 =>
        obtain ⟨x7, r7⟩ := p7
        obtain ⟨v7, a7, cap7, rfl, htk7, hcu7, hk7⟩ := h7.1 x7 r7 ht7
        have E9 : Hid (tk8 lng r6 = some (x7, r7)) := ht7
        have HX7 : Hid (x7.length = lng ∧ ∀ b ∈ x7, b < 256) := hid ⟨htk7.len, htk7.byte⟩
        have HK7 : Hid (Kept (· = c) w w7) := hid (HKp7.out.k8 hk7)
        have HM7 : Hid (Blk w7 mb #[.int .u16 (m.way : Nat), .int .u32 (m.sum : Nat), .int .u32 (m.packed : Nat), .int .u32 (m.size : Nat), .string (txt m.name)] 60) := hid (HMp7.out.kept hk7 (fun e => by have := HMB.out; omega))
        have HC7 : Hid (Cur N w7 c r7 a7 cap7) := hcu7
        obtain ⟨va7, vc7, hv7⟩ := htk7.shp
        subst hv7
        have gs := str8 htk7.src htk7.len
        have m0 := HM7.out.cell 0
        have f0 := HM7.out.frozen 0
        have m1 := HM7.out.cell 1
        have f1 := HM7.out.frozen 1
        have m2 := HM7.out.cell 2
        have f2 := HM7.out.frozen 2
        have m3 := HM7.out.cell 3
        have f3 := HM7.out.frozen 3
        have m4 := HM7.out.cell 4
        have f4 := HM7.out.frozen 4
        simp at m0 m1 m2 m3 m4
        clear h7 ht7 htk7 hcu7 hk7 H7 HKp7 HMp7
        go_wp2_with fail
        obtain ⟨wz, hwz⟩ : ∃ W, W = (((((w7.setCell ⟨mb, 4, none⟩ (.string (txt x7))).setCell ⟨mb, 0, none⟩ (.int .u16 (m.way : Nat))).setCell ⟨mb, 1, none⟩ (.int .u32 (m.sum : Nat))).setCell ⟨mb, 2, none⟩ (.int .u32 (m.packed : Nat))).setCell ⟨mb, 3, none⟩ (.int .u32 (m.size : Nat))).setCell ⟨mb, 4, none⟩ (.string (txt x7)) := ⟨_, rfl⟩
        have hkz : Kept (· = mb) w7 wz := by rw [hwz]; exact ((((((Kept.refl (· = mb) w7).setCell _ _ (.inl rfl)).setCell _ _ (.inl rfl)).setCell _ _ (.inl rfl)).setCell _ _ (.inl rfl)).setCell _ _ (.inl rfl)).setCell _ _ (.inl rfl)
        have hbz : Blk wz mb #[.int .u16 (m.way : Nat), .int .u32 (m.sum : Nat), .int .u32 (m.packed : Nat), .int .u32 (m.size : Nat), .string (txt x7)] 60 := by rw [hwz]; have := (((((HM7.out.set 4 (.string (txt x7))).set 0 (.int .u16 (m.way : Nat))).set 1 (.int .u32 (m.sum : Nat))).set 2 (.int .u32 (m.packed : Nat))).set 3 (.int .u32 (m.size : Nat))).set 4 (.string (txt x7)); simpa using this
        have z0 := hbz.cell 0
        have z1 := hbz.cell 1
        have z2 := hbz.cell 2
        have z3 := hbz.cell 3
        have z4 := hbz.cell 4
        simp at z0 z1 z2 z3 z4
        rw [← hwz]
        refine bodyPost_ret (v := .tuple #[.agg (mkZ (m.named x7)), .int .u32 (pl : Nat)]) (by rw [results_cell_tmp rfl]; simp [go_sem, z0, z1, z2, z3, z4, mkZ, Mk.named]) rfl ?_
        exact RecA.good (by simp only [rec8, E1.out, bnd8_s, E2.out, E3.out, E5.out, E6.out, E7.out, E8.out, E9.out]) rfl ⟨HMK.out.1.way, HMK.out.1.sum, HMK.out.1.packed, HMK.out.1.size, by show x7.length < 65536; rw [HX7.out.1]; exact HMK.out.2⟩ HX7.out.2 HPL.out (HC7.out.kept hkz (fun e => by have := HMB.out; omega) (fun k hk e => by have := HMB.out; have := HC7.out.new; omega)) (HK7.out.trans hkz (fun _ _ e => e) (fun k hk e => by have := HMB.out; omega))

end Go.Proofs.YtljlmfnbeofmmaaGreatDoor
