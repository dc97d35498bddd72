/-
  Of the proof: parts ZpG, ZpP, ZpQ, ZpH.
-/
import Derived.Laws.StructEq
import Derived.Lib.Strings
import Derived.Deep.RegionHeld3
import Derived.RegionDies
import Derived.Test.YtljlmfnbeofmmaaGreatDoorJ21
import Derived.Test.YtljlmfnbeofmmaaGreatDoorJ4
import Derived.Test.YtljlmfnbeofmmaaGreatDoorJ3

namespace Go.Proofs.YtljlmfnbeofmmaaGreatDoor
open Go.RowKit

theorem txt_beq (a b : List Nat) (ha : ∀ x ∈ a, x < 256) (hb : ∀ x ∈ b, x < 256) : ((txt a).toList == (txt b).toList) = decide (a = b) := by
 rw [Lib.toList_data, Lib.toList_data]
 by_cases h : a = b
 ·subst h; simp
 ·simp only [h, decide_false]
  refine beq_eq_false_iff_ne.2 (fun e => h (txt_inj ha hb ?_))
  cases ht : txt a
  cases hu : txt b
  rw [ht, hu] at e
  simp only at e
  rw [Array.toList_inj] at e
  rw [e]

def itZ (m : Mk) (v : Value) : Array Value := #[.int .u16 (m.way : Nat), .int .u32 (m.sum : Nat), .int .u32 (m.packed : Nat), .int .u32 (m.size : Nat), .string (txt m.name), v]

set_option maxHeartbeats 400000 in
theorem named_any (w : World) (m q : Mk) (v : Value) (g : Nat) (hg : w.cell? ⟨g, 4, none⟩ = some (.string (txt q.name))) (ha : ∀ b ∈ m.name, b < 256) (hb : ∀ b ∈ q.name, b < 256) :
  Calls Tryz.prog 138 #[.agg (itZ m v), .pointer (some ⟨g, 0, none⟩)] w fun e w' => e = .returned (.bool (decide (m.name = q.name))) ∧ Same w w' := by
 have hg9 : ∀ o, (w.alloc o).cell? ⟨g, 4, none⟩ = some (.string (txt q.name)) := fun o => (show Same w (w.alloc o) from (Kept.refl _ w).alloc o).cell hg (fun f => f)
 have hq := txt_beq m.name q.name ha hb
 obtain ⟨B, hB⟩ : ∃ B, B = decide (m.name = q.name) := ⟨_, rfl⟩
 rw [← hB] at hq ⊢
 clear hB
 unfold itZ
 go_enter Tryz.func138, Tryz.ntmps138
 go_wp2_with fail
 go_ret
 exact ⟨rfl, (Kept.refl _ w).alloc _⟩

theorem results_cell8 {fn : Func} {p : Tmp} {ty : TypeId} (h : fn.results = #[.cell p ty]) (tmps : Array Value) (P : Program) (w : World) :
  (results fn tmps).run P w = ((asAddr (tmps.getD p undef)).run P w).andThen fun a w1 => (loadVar ty a).run P w1 := by
 simp only [results, h]
 simp [Sem.run_bind, Result.andThen]

def PieA (N : Nat) (w w' : World) (c : Nat) (m : Mk) (r : List Nat) (e : Ending) : Prop :=
 (∀ b y, pie8 m r = some (b, y) → ∃ v a' cap', e = .returned (.agg (itZ m v)) ∧ Tkn N w' v m.packed b ∧ Cur N w' c y a' cap' ∧ Kept (· = c) w w') ∧ (pie8 m r = none → e = pan8 81 ∧ Kept (· = c) w w')

theorem PieA.good {N : Nat} {w w' : World} {c : Nat} {m : Mk} {r b y : List Nat} {e : Ending} (ht : pie8 m r = some (b, y)) {v : Value} {a' : Option Addr} {cap' : Nat} (he : e = .returned (.agg (itZ m v))) (h1 : Tkn N w' v m.packed b) (h2 : Cur N w' c y a' cap') (h3 : Kept (· = c) w w') : PieA N w w' c m r e :=
 ⟨fun b' y' h => by rw [ht] at h; simp only [Option.some.injEq, Prod.mk.injEq] at h; obtain ⟨rfl, rfl⟩ := h; exact ⟨v, a', cap', he, h1, h2, h3⟩, fun h => by rw [ht] at h; cases h⟩

theorem PieA.bad {N : Nat} {w w' : World} {c : Nat} {m : Mk} {r : List Nat} {e : Ending} (ht : pie8 m r = none) (he : e = pan8 81) (h3 : Kept (· = c) w w') : PieA N w w' c m r e :=
 ⟨fun b' y' h => (by rw [ht] at h; cases h), fun _ => ⟨he, h3⟩⟩

theorem pie8_none {m : Mk} {r : List Nat} (h : hed8 m r = none) : pie8 m r = none := by unfold pie8; rw [h]; rfl

set_option maxRecDepth 100000 in
set_option maxHeartbeats 400000 in
theorem pie_any (N : Nat) (w : World) (c : Nat) (m : Mk) (r : List Nat) (a : Option Addr) (cap : Nat) (h : Cur N w c r a cap) (hm : MkOk m) (hnm : ∀ b ∈ m.name, b < 256) (hpk : m.packed ≤ 16384) :
  Calls Tryz.prog 94 #[.pointer (some ⟨c, 0, none⟩), .agg (mkZ m)] w fun e w' => PieA N w w' c m r e := by
 obtain ⟨w0, hw0⟩ : ∃ W, W = (w.alloc (.cells #[.int .u16 (m.way : Nat), .int .u32 (m.sum : Nat), .int .u32 (m.packed : Nat), .int .u32 (m.size : Nat), .string (txt m.name)] 60)).alloc (.cells #[.int .u16 0, .int .u32 0, .int .u32 0, .int .u32 0, .string ⟨#[]⟩, .slice none 0 0] 78) := ⟨_, rfl⟩
 obtain ⟨mb, hmb⟩ : ∃ b, b = w.heap.size := ⟨_, rfl⟩
 obtain ⟨ib, hib⟩ : ∃ b, b = w.heap.size + 1 := ⟨_, rfl⟩
 have HMB : Hid (c < mb ∧ mb = w.heap.size ∧ ib = w.heap.size + 1) := hid ⟨by have := h.blk.lt; omega, hmb, hib⟩
 have hk0 : Same w w0 := by rw [hw0]; exact ((Kept.refl _ w).alloc _).alloc _
 have HKp1 : Hid (Kept (· = c) w w0) := hid hk0.k8
 have HM0 : Hid (Blk w0 mb #[.int .u16 (m.way : Nat), .int .u32 (m.sum : Nat), .int .u32 (m.packed : Nat), .int .u32 (m.size : Nat), .string (txt m.name)] 60) := hid (by rw [hw0, hmb]; exact (Blk.new w _ _).kept (show Same _ _ from (Kept.refl _ _).alloc _) (fun f => f))
 have HI0 : Hid (Blk w0 ib #[.int .u16 0, .int .u32 0, .int .u32 0, .int .u32 0, .string ⟨#[]⟩, .slice none 0 0] 78) := hid (by rw [hw0, hib]; have h9 := Blk.new (w.alloc (.cells #[.int .u16 (m.way : Nat), .int .u32 (m.sum : Nat), .int .u32 (m.packed : Nat), .int .u32 (m.size : Nat), .string (txt m.name)] 60)) #[.int .u16 0, .int .u32 0, .int .u32 0, .int .u32 0, .string ⟨#[]⟩, .slice none 0 0] 78; rw [World.size_alloc] at h9; exact h9)
 have HSZ0 : Hid (w0.heap.size = w.heap.size + 2) := hid (by rw [hw0, World.size_alloc, World.size_alloc])
 have HC0 : Hid (Cur N w0 c r a cap) := hid (h.kept hk0 (fun f => f) (fun _ _ f => f))
 have H1 := exp32_any N w0 c r a cap 67324752 HC0.out (by decide)
 have HMK : Hid (MkOk m ∧ (∀ b ∈ m.name, b < 256)) := hid ⟨hm, hnm⟩
 clear h hk0 hm hnm
 unfold mkZ
 go_enter Tryz.func94, Tryz.ntmps94
 go_wp2_with fail
 rw [← hw0, ← hib, ← hmb]
 clear hw0 hmb hib
 refine H1.mono ?_
 intro e w1 h1
 cases ht1 : ex8 4 67324752 r with
 | none =>
  obtain ⟨rfl, hk⟩ := h1.2 ht1
  have HKb : Hid (Kept (· = c) w w1) := hid (HKp1.out.k8 hk)
  have HEb : Hid (ex8 4 67324752 r = none) := ht1
  clear h1 hk ht1 H1
  unfold pan8
  go_wp2_with fail
  exact ⟨rfl, PieA.bad (pie8_none (by simp only [hed8, HEb.out, bnd8_n])) rfl HKb.out⟩
 | some r1 =>
  obtain ⟨a1, cap1, rfl, hcu1, hk1⟩ := h1.1 _ ht1
  have E1 : Hid (ex8 4 67324752 r = some r1) := ht1
  have HKp2 : Hid (Kept (· = c) w w1) := hid (HKp1.out.k8 hk1)
  have HM1 : Hid (Blk w1 mb #[.int .u16 (m.way : Nat), .int .u32 (m.sum : Nat), .int .u32 (m.packed : Nat), .int .u32 (m.size : Nat), .string (txt m.name)] 60) := hid (HM0.out.kept hk1 (fun e => by have := HMB.out; omega))
  have HI1 : Hid (Blk w1 ib #[.int .u16 0, .int .u32 0, .int .u32 0, .int .u32 0, .string ⟨#[]⟩, .slice none 0 0] 78) := hid (HI0.out.kept hk1 (fun e => by have := HMB.out; omega))
  have H2 := lab_any N w1 c r1 a1 cap1 hcu1
  clear h1 ht1 hcu1 hk1 H1 HKp1 HM0 HI0 HC0
  go_wp2_with fail
  refine H2.mono ?_
  intro e w2 h2
  cases ht2 : lab8 r1 with
  | none =>
   obtain ⟨rfl, hk⟩ := h2.2 ht2
   have HKb : Hid (Kept (· = c) w w2) := hid (HKp2.out.k8 hk)
   have HEb : Hid (lab8 r1 = none) := ht2
   clear h2 hk ht2 H2
   unfold pan8
   go_wp2_with fail
   exact ⟨rfl, PieA.bad (pie8_none (by simp only [hed8, E1.out, bnd8_s, HEb.out, bnd8_n])) rfl HKb.out⟩
  | some p2 =>
   obtain ⟨⟨q, lng⟩, r2⟩ := p2
   obtain ⟨a2, cap2, rfl, hmk2, hnm2, hlng, hcu2, hk2⟩ := h2.1 q lng r2 ht2
   have E2 : Hid (lab8 r1 = some ((q, lng), r2)) := ht2
   have HLG : Hid (lng < 65536) := hlng
   obtain ⟨wt, hwt⟩ : ∃ W, W = w2.alloc (.cells #[.int .u16 (q.way : Nat), .int .u32 (q.sum : Nat), .int .u32 (q.packed : Nat), .int .u32 (q.size : Nat), .string (txt q.name)] 60) := ⟨_, rfl⟩
   have hst : Same w2 wt := by rw [hwt]; exact (Kept.refl _ w2).alloc _
   obtain ⟨tb, htb⟩ : ∃ b, b = w2.heap.size := ⟨_, rfl⟩
   have HTB : Hid (ib < tb ∧ mb < tb ∧ c < tb) := hid (by have h9 := hk2.size; have := HKp2.out.size; have := HMB.out; have := HI1.out.lt; omega)
   have HTt : Hid (Blk wt tb #[.int .u16 (q.way : Nat), .int .u32 (q.sum : Nat), .int .u32 (q.packed : Nat), .int .u32 (q.size : Nat), .string (txt q.name)] 60) := hid (by rw [hwt, htb]; exact Blk.new w2 _ _)
   have HKp3 : Hid (Kept (· = c) w wt) := hid ((HKp2.out.k8 hk2).k8 hst.k8)
   have HM2 : Hid (Blk wt mb #[.int .u16 (m.way : Nat), .int .u32 (m.sum : Nat), .int .u32 (m.packed : Nat), .int .u32 (m.size : Nat), .string (txt m.name)] 60) := hid ((HM1.out.kept hk2 (fun e => by have := HMB.out; omega)).kept hst (fun f => f))
   have HI2 : Hid (Blk wt ib #[.int .u16 0, .int .u32 0, .int .u32 0, .int .u32 0, .string ⟨#[]⟩, .slice none 0 0] 78) := hid ((HI1.out.kept hk2 (fun e => by have := HMB.out; omega)).kept hst (fun f => f))
   have H3 := take_any N wt c r2 a2 cap2 lng (hcu2.kept hst (fun f => f) (fun _ _ f => f)) (by omega)
   clear h2 ht2 hcu2 hk2 H2 HKp2 HM1 HI1 hst hmk2 hnm2
   unfold mkZ
   go_wp2_with fail
   rw [← hwt, ← htb]
   clear hwt htb
   refine H3.mono ?_
   intro e w3 h3
   cases ht3 : tk8 lng r2 with
   | none =>
    obtain ⟨rfl, hk⟩ := h3.2 ht3
    have HKb : Hid (Kept (· = c) w w3) := hid (HKp3.out.k8 hk.k8)
    have HEb : Hid (tk8 lng r2 = none) := ht3
    clear h3 hk ht3 H3
    unfold pan8
    go_wp2_with fail
    exact ⟨rfl, PieA.bad (pie8_none (by simp only [hed8, E1.out, bnd8_s, E2.out, HEb.out, bnd8_n])) rfl HKb.out⟩
   | some p3 =>
    obtain ⟨x3, r3⟩ := p3
    obtain ⟨v3, a3, cap3, rfl, htk3, hcu3, hk3⟩ := h3.1 x3 r3 ht3
    have E3 : Hid (tk8 lng r2 = some (x3, r3)) := ht3
    have HX3 : Hid (∀ b ∈ x3, b < 256) := hid htk3.byte
    have HT3 : Hid (Blk w3 tb #[.int .u16 (q.way : Nat), .int .u32 (q.sum : Nat), .int .u32 (q.packed : Nat), .int .u32 (q.size : Nat), .string (txt q.name)] 60) := hid (HTt.out.kept hk3 (fun e => by have := HTB.out; omega))
    have HM3 : Hid (Blk w3 mb #[.int .u16 (m.way : Nat), .int .u32 (m.sum : Nat), .int .u32 (m.packed : Nat), .int .u32 (m.size : Nat), .string (txt m.name)] 60) := hid (HM2.out.kept hk3 (fun e => by have := HMB.out; omega))
    have HI3 : Hid (Blk w3 ib #[.int .u16 0, .int .u32 0, .int .u32 0, .int .u32 0, .string ⟨#[]⟩, .slice none 0 0] 78) := hid (HI2.out.kept hk3 (fun e => by have := HMB.out; omega))
    obtain ⟨va3, vc3, hv3⟩ := htk3.shp
    subst hv3
    have gs := str8 htk3.src htk3.len
    have t4 := HT3.out.cell 4
    have ft4 := HT3.out.frozen 4
    simp at t4
    obtain ⟨w4, hw4⟩ : ∃ W, W = w3.setCell ⟨tb, 4, none⟩ (.string (txt x3)) := ⟨_, rfl⟩
    have hs4 : Kept (· = tb) w3 w4 := by rw [hw4]; exact (Kept.refl (· = tb) w3).setCell _ _ (.inl rfl)
    have HT4 : Hid (Blk w4 tb #[.int .u16 (q.way : Nat), .int .u32 (q.sum : Nat), .int .u32 (q.packed : Nat), .int .u32 (q.size : Nat), .string (txt x3)] 60) := hid (by rw [hw4]; have := HT3.out.set 4 (.string (txt x3)); simpa using this)
    have HM4 : Hid (Blk w4 mb #[.int .u16 (m.way : Nat), .int .u32 (m.sum : Nat), .int .u32 (m.packed : Nat), .int .u32 (m.size : Nat), .string (txt m.name)] 60) := hid (HM3.out.kept hs4 (fun e => by have := HTB.out; omega))
    have HI4 : Hid (Blk w4 ib #[.int .u16 0, .int .u32 0, .int .u32 0, .int .u32 0, .string ⟨#[]⟩, .slice none 0 0] 78) := hid (HI3.out.kept hs4 (fun e => by have := HTB.out; omega))
    have HC4 : Hid (Cur N w4 c r3 a3 cap3) := hid (hcu3.kept hs4 (fun e => by have := HTB.out; omega) (fun k hk e => by have := HTB.out; have := hcu3.new; omega))
    have HK4 : Hid (Kept (· = c) w w4) := hid ((HKp3.out.k8 hk3).trans hs4 (fun _ _ e => e) (fun k hk e => by have := HTB.out; have := HMB.out; omega))
    have tq0 := HT4.out.cell 0
    have tq1 := HT4.out.cell 1
    have tq2 := HT4.out.cell 2
    have tq3 := HT4.out.cell 3
    have tq4 := HT4.out.cell 4
    have mq0 := HM4.out.cell 0
    have mq1 := HM4.out.cell 1
    have mq2 := HM4.out.cell 2
    have mq3 := HM4.out.cell 3
    have mq4 := HM4.out.cell 4
    simp at tq0 tq1 tq2 tq3 tq4 mq0 mq1 mq2 mq3 mq4
    rw [hw4] at tq0 tq1 tq2 tq3 tq4 mq0 mq1 mq2 mq3 mq4
    have hbq := txt_beq x3 m.name HX3.out HMK.out.2
    have HHD : Hid (hed8 m r = if q.named x3 = m then some r3 else none) := hid (by simp only [hed8, E1.out, bnd8_s, E2.out, E3.out])
    clear h3 ht3 htk3 hcu3 hk3 H3 HKp3 HM2 HI2 HTt HT3 HM3 HI3 hs4
    by_cases hsame : q.named x3 = m
    ·have e1 : q.way = m.way := by rw [← hsame]; rfl
     have e2 : q.sum = m.sum := by rw [← hsame]; rfl
     have e3 : q.packed = m.packed := by rw [← hsame]; rfl
     have e4 : q.size = m.size := by rw [← hsame]; rfl
     have e5 : x3 = m.name := by rw [← hsame]; rfl
     rw [e1] at tq0
     rw [e2] at tq1
     rw [e3] at tq2
     rw [e4] at tq3
     rw [decide_eq_true e5] at hbq
     have HHD2 : Hid (hed8 m r = some r3) := hid (by rw [HHD.out, if_pos hsame])
     have HO := need_ok w4 (.int .i64 81)
     have HTK : Hid (∀ W2, Same w4 W2 → Calls Tryz.prog 136 #[.pointer (some ⟨c, 0, none⟩), .int .i64 (m.packed : Nat)] W2 fun e w' => TakZ N W2 w' c m.packed r3 e) := hid (fun W2 hk => take_any N W2 c r3 a3 cap3 m.packed (HC4.out.kept hk (fun f => f) (fun _ _ f => f)) (by omega))
     clear e1 e2 e3 e4 e5 hsame HHD
     go_wp2_with fail
     rw [← hw4]
     refine HO.mono ?_
     rintro e w5 ⟨rfl, hw5⟩
     subst hw5
     clear HO tq0 tq1 tq2 tq3 tq4 mq0 mq1 mq2 mq3 mq4 hbq t4 ft4 gs hw4
     have c0 := HM4.out.cell 0
     have c1 := HM4.out.cell 1
     have c2 := HM4.out.cell 2
     have c3 := HM4.out.cell 3
     have c4 := HM4.out.cell 4
     simp at c0 c1 c2 c3 c4
     have HCM : Hid (¬ mb = c) := hid (by have := HMB.out; omega)
     have HCI : Hid (¬ ib = c) := hid (by have := HMB.out; omega)
     have hpw : IntKind.i64.wrap (m.packed : Int) = (m.packed : Int) := by rw [IntKind.wrap_i64]; omega
     cases ht5 : tk8 m.packed r3 with
     | none =>
      have HEb : Hid (tk8 m.packed r3 = none) := ht5
      clear ht5
      go_wp2_with fail
      go_region_dies
      all_goals
       refine (HTK.out _ ((Kept.refl _ w5).drew)).mono ?_
       intro e w6 h6
       obtain ⟨rfl, hk6⟩ := h6.2 HEb.out
       exact ⟨rfl, PieA.bad (by unfold pie8; rw [bnd8_some HHD2.out]; exact HEb.out) rfl (HK4.out.k8 (Same.trans ((Kept.refl _ w5).drew) hk6).k8)⟩
     | some p5 =>
      obtain ⟨x5, r5⟩ := p5
      have E5 : Hid (tk8 m.packed r3 = some (x5, r5)) := ht5
      have HALL : Hid (∀ W6, Kept (· = c) w5.drew W6 → W6.cell? ⟨mb, 0, none⟩ = some (.int .u16 (m.way : Nat)) ∧ W6.cell? ⟨mb, 1, none⟩ = some (.int .u32 (m.sum : Nat)) ∧ W6.cell? ⟨mb, 2, none⟩ = some (.int .u32 (m.packed : Nat)) ∧ W6.cell? ⟨mb, 3, none⟩ = some (.int .u32 (m.size : Nat)) ∧ W6.cell? ⟨mb, 4, none⟩ = some (.string (txt m.name)) ∧ W6.cell? ⟨ib, 0, none⟩ = some (.int .u16 0) ∧ W6.cell? ⟨ib, 1, none⟩ = some (.int .u32 0) ∧ W6.cell? ⟨ib, 2, none⟩ = some (.int .u32 0) ∧ W6.cell? ⟨ib, 3, none⟩ = some (.int .u32 0) ∧ W6.cell? ⟨ib, 4, none⟩ = some (.string ⟨#[]⟩) ∧ W6.cell? ⟨ib, 5, none⟩ = some (.slice none 0 0) ∧ W6.frozen? ⟨ib, 0, none⟩ = false ∧ W6.frozen? ⟨ib, 1, none⟩ = false ∧ W6.frozen? ⟨ib, 2, none⟩ = false ∧ W6.frozen? ⟨ib, 3, none⟩ = false ∧ W6.frozen? ⟨ib, 4, none⟩ = false ∧ W6.frozen? ⟨ib, 5, none⟩ = false) := hid (fun W6 hk => by
       have hm9 := (HM4.out.kept (show Same w5 w5.drew from (Kept.refl _ w5).drew) (fun f => f)).kept hk HCM.out
       have hi9 := (HI4.out.kept (show Same w5 w5.drew from (Kept.refl _ w5).drew) (fun f => f)).kept hk HCI.out
       refine ⟨?_, ?_, ?_, ?_, ?_, ?_, ?_, ?_, ?_, ?_, ?_, hi9.frozen 0, hi9.frozen 1, hi9.frozen 2, hi9.frozen 3, hi9.frozen 4, hi9.frozen 5⟩
       ·have := hm9.cell 0; simpa using this
       ·have := hm9.cell 1; simpa using this
       ·have := hm9.cell 2; simpa using this
       ·have := hm9.cell 3; simpa using this
       ·have := hm9.cell 4; simpa using this
       ·have := hi9.cell 0; simpa using this
       ·have := hi9.cell 1; simpa using this
       ·have := hi9.cell 2; simpa using this
       ·have := hi9.cell 3; simpa using this
       ·have := hi9.cell 4; simpa using this
       ·have := hi9.cell 5; simpa using this)
      clear ht5
      go_wp2_with fail
      go_region_with (go_at_call 136; refine (HTK.out _ ((Kept.refl _ w5).drew)).mono ?_; intro e w6 h6; obtain ⟨v6, a6, cap6, rfl, htk6, hcu6, hk6⟩ := h6.1 x5 r5 E5.out; obtain ⟨va6, vc6, hv6⟩ := htk6.shp; subst hv6; obtain ⟨q0, q1, q2, q3, q4, q5, q6, q7, q8, q9, q10, q11, q12, q13, q14, q15, q16⟩ := HALL.out w6 hk6)
      all_goals
       go_wp2_with fail
       have hi6 := (HI4.out.kept (show Same w5 w5.drew from (Kept.refl _ w5).drew) (fun f => f)).kept hk6 HCI.out
       obtain ⟨wz, hwz⟩ : ∃ W, W = (((((w6.setCell ⟨ib, 0, none⟩ (.int .u16 (m.way : Nat))).setCell ⟨ib, 1, none⟩ (.int .u32 (m.sum : Nat))).setCell ⟨ib, 2, none⟩ (.int .u32 (m.packed : Nat))).setCell ⟨ib, 3, none⟩ (.int .u32 (m.size : Nat))).setCell ⟨ib, 4, none⟩ (.string (txt m.name))).setCell ⟨ib, 5, none⟩ (.slice va6 m.packed vc6) := ⟨_, rfl⟩
       have hkz : Kept (· = ib) w6 wz := by rw [hwz]; exact (((((((Kept.refl (· = ib) w6).setCell _ _ (.inl rfl)).setCell _ _ (.inl rfl)).setCell _ _ (.inl rfl)).setCell _ _ (.inl rfl)).setCell _ _ (.inl rfl)).setCell _ _ (.inl rfl))
       have hbz : Blk wz ib #[.int .u16 (m.way : Nat), .int .u32 (m.sum : Nat), .int .u32 (m.packed : Nat), .int .u32 (m.size : Nat), .string (txt m.name), .slice va6 m.packed vc6] 78 := by rw [hwz]; have := (((((hi6.set 0 (.int .u16 (m.way : Nat))).set 1 (.int .u32 (m.sum : Nat))).set 2 (.int .u32 (m.packed : Nat))).set 3 (.int .u32 (m.size : Nat))).set 4 (.string (txt m.name))).set 5 (.slice va6 m.packed vc6); simpa using this
       have z0 := hbz.cell 0
       have z1 := hbz.cell 1
       have z2 := hbz.cell 2
       have z3 := hbz.cell 3
       have z4 := hbz.cell 4
       have z5 := hbz.cell 5
       simp at z0 z1 z2 z3 z4 z5
       rw [← hwz]
       refine bodyPost_ret (v := .agg (itZ m (.slice va6 m.packed vc6))) (by rw [results_cell8 rfl]; simp [go_sem, z0, z1, z2, z3, z4, z5, itZ]) rfl ?_
       exact PieA.good (by unfold pie8; rw [bnd8_some HHD2.out]; exact E5.out) rfl (htk6.kept hkz (fun k hk e => by have := HMB.out; have := HC4.out.new; omega)) (hcu6.kept hkz (fun e => by have := HMB.out; omega) (fun k hk e => by have := HMB.out; have := HC4.out.new; omega)) ((HK4.out.k8 ((show Same w5 w5.drew from (Kept.refl _ w5).drew).k8.k8 hk6)).trans hkz (fun _ _ e => e) (fun k hk e => by have := HMB.out; omega))
    ·have hne : ((q.way : Int) == (m.way : Int)) = false ∨ (q.way = m.way ∧ ((q.sum : Int) == (m.sum : Int)) = false) ∨ (q.way = m.way ∧ q.sum = m.sum ∧ ((q.packed : Int) == (m.packed : Int)) = false) ∨ (q.way = m.way ∧ q.sum = m.sum ∧ q.packed = m.packed ∧ ((q.size : Int) == (m.size : Int)) = false) ∨ (q.way = m.way ∧ q.sum = m.sum ∧ q.packed = m.packed ∧ q.size = m.size ∧ ((txt x3).toList == (txt m.name).toList) = false) := by
      by_cases g1 : q.way = m.way
      ·by_cases g2 : q.sum = m.sum
       ·by_cases g3 : q.packed = m.packed
        ·by_cases g4 : q.size = m.size
         ·have g5 : ¬ x3 = m.name := fun e => hsame (by unfold Mk.named; rw [g1, g2, g3, g4, e])
          exact .inr (.inr (.inr (.inr ⟨g1, g2, g3, g4, by rw [hbq]; simp [g5]⟩)))
         ·exact .inr (.inr (.inr (.inl ⟨g1, g2, g3, by simp; omega⟩)))
        ·exact .inr (.inr (.inl ⟨g1, g2, by simp; omega⟩))
       ·exact .inr (.inl ⟨g1, by simp; omega⟩)
      ·exact .inl (by simp; omega)
     have HBD : Hid (pie8 m r = none) := hid (pie8_none (by rw [HHD.out, if_neg hsame]))
     have HO := need_bad w4 81
     clear hbq hsame HHD
     rcases hne with g | ⟨e1, g⟩ | ⟨e1, e2, g⟩ | ⟨e1, e2, e3, g⟩ | ⟨e1, e2, e3, e4, g⟩
     all_goals
      try
       rw [e1] at tq0
       clear e1
      try
       rw [e2] at tq1
       clear e2
      try
       rw [e3] at tq2
       clear e3
      try
       rw [e4] at tq3
       clear e4
      go_wp2_with fail
      rw [← hw4]
      refine HO.mono ?_
      rintro e w5 ⟨rfl, hw5⟩
      subst hw5
      unfold pan8
      clear HO tq0 tq1 tq2 tq3 tq4 mq0 mq1 mq2 mq3 mq4 t4 ft4 gs hw4
      go_wp2_with fail
      exact ⟨rfl, PieA.bad HBD.out rfl HK4.out⟩

end Go.Proofs.YtljlmfnbeofmmaaGreatDoor

namespace Go.Proofs.YtljlmfnbeofmmaaGreatDoor
open Go.RowKit

def Nums (k : IntKind) (w : World) (g : Nat) (vs : List Nat) : Prop := ∀ j, j < vs.length → w.cell? ⟨g, j, none⟩ = some (.int k (vs.getD j 0 : Nat))

def les (n : Nat) (vs : List Nat) : List Nat := vs.flatMap (leOf · n)

theorem les_take (n : Nat) (vs : List Nat) (i : Nat) (hi : i < vs.length) : les n (vs.take (i + 1)) = les n (vs.take i) ++ leOf (vs.getD i 0) n := by
 unfold les
 rw [List.take_add_one, List.flatMap_append, List.getD_eq_getElem?_getD, List.getElem?_eq_getElem hi]
 simp

theorem les_length (n : Nat) (vs : List Nat) : (les n vs).length = vs.length * n := by
 unfold les
 induction vs with
 | nil => simp
 | cons a r ih => rw [List.flatMap_cons, List.length_append, ih, leOf_length, List.length_cons, Nat.succ_mul, Nat.add_comm]

set_option maxRecDepth 100000 in
set_option maxHeartbeats 400000 in
theorem put16s_any (w : World) (v : Value) (I : Nat → Prop) (cs : List Nat) (g : Nat) (vs : List Nat) (n : Nat) (hn : n = vs.length) (hs : Src w I v cs) (hl : Nums .u16 w g vs) (hv : ∀ x ∈ vs, x < 65536) (hlen : cs.length ≤ 10000000) (hvl : n ≤ 100) :
  Calls Tryz.prog 73 #[v, .slice (some ⟨g, 0, none⟩) n n] w fun e w' => ∃ v', e = .returned v' ∧ (∃ J, Src w' J v' (cs ++ les 2 vs)) ∧ Same w w' ∧ (1 ≤ n → Fresh w w' v' (cs ++ les 2 vs)) := by
 have HS : Hid (Src w I v cs) := hs
 have HL : Hid (Nums .u16 w g vs) := hl
 have HB : Hid (n = vs.length ∧ (∀ x ∈ vs, x < 65536) ∧ cs.length ≤ 10000000) := hid ⟨hn, hv, hlen⟩
 clear hs hl hv hlen hn
 go_enter Tryz.func73, Tryz.ntmps73
 go_wp2_with fail
 go_loopg [0, 9] n (fun qq z0 z9 wr => ∃ i : Nat, z9 = .int .i64 (i : Nat) ∧ i ≤ n ∧ n - i ≤ qq ∧ Hid ((∃ J, Src wr J z0 (cs ++ les 2 (vs.take i))) ∧ Same w wr ∧ (1 ≤ i → Fresh w wr z0 (cs ++ les 2 (vs.take i)))))
 case atStart => exact ⟨0, rfl, by omega, by omega, hid ⟨⟨I, by simpa [les] using HS.out⟩, Kept.refl _ _, fun h => by omega⟩⟩
 case round =>
  obtain ⟨i, rfl, hi1, hiq, HI⟩ := hrel
  obtain ⟨vb, hvb⟩ : ∃ vb, vb = u0 := ⟨_, rfl⟩
  rw [← hvb] at HI ⊢
  clear hvb
  by_cases hi : i < n
  ·have hli : decide (i < n) = true := by simp; omega
   obtain ⟨x, hx⟩ : ∃ x, x = vs.getD i 0 := ⟨_, rfl⟩
   have hc := HI.out.2.1.cell (HL.out i (by have := HB.out.1; omega)) (fun f => f)
   rw [← hx] at hc
   have hxv : x < 65536 := HB.out.2.1 x (by rw [hx, List.getD_eq_getElem?_getD, List.getElem?_eq_getElem (by have := HB.out.1; omega)]; exact List.getElem_mem _)
   have hiw : IntKind.i64.wrap ((i : Int) + 1) = ((i + 1 : Nat) : Int) := by rw [IntKind.wrap_i64]; omega
   have HX : Hid (x = vs.getD i 0) := hx
   obtain ⟨⟨J, hJ⟩, _, _⟩ := HI.out
   have HPU := put16_any wr vb J _ hJ x rfl hxv (by rw [List.length_append, les_length, List.length_take]; have := HB.out; omega)
   clear hx hJ
   go_wp2_with fail
   refine HPU.mono ?_
   rintro e w2 ⟨v2, rfl, hf⟩
   have HF : Hid (Fresh w w2 v2 (cs ++ les 2 (vs.take (i + 1)))) := hid (by
    rw [les_take 2 vs i (by have := HB.out.1; omega), ← List.append_assoc, ← HX.out]
    exact ⟨hf.row, Same.trans HI.out.2.1 hf.kept, fun k e => Nat.le_trans HI.out.2.1.size (hf.new k e)⟩)
   clear hf HPU
   go_wp2_with fail
   go_roundg (gk - 1)
   case measure => omega
   case rel => exact ⟨i + 1, by go_num, by omega, by omega, hid ⟨⟨_, Src.ofRow HF.out.row⟩, HF.out.kept, fun _ => HF.out⟩⟩
  ·have hli : decide (i < n) = false := by simp; omega
   obtain rfl : i = n := by omega
   go_wp2_with fail
   go_ret
   have ht : vs.take i = vs := List.take_of_length_le (by have := HB.out.1; omega)
   have h9 := HI.out
   rw [ht] at h9
   exact ⟨_, rfl, h9.1, h9.2.1, h9.2.2⟩

set_option maxRecDepth 100000 in
set_option maxHeartbeats 400000 in
theorem put32s_any (w : World) (v : Value) (I : Nat → Prop) (cs : List Nat) (g : Nat) (vs : List Nat) (n : Nat) (hn : n = vs.length) (hs : Src w I v cs) (hl : Nums .u32 w g vs) (hv : ∀ x ∈ vs, x < 4294967296) (hlen : cs.length ≤ 10000000) (hvl : n ≤ 100) :
  Calls Tryz.prog 76 #[v, .slice (some ⟨g, 0, none⟩) n n] w fun e w' => ∃ v', e = .returned v' ∧ (∃ J, Src w' J v' (cs ++ les 4 vs)) ∧ Same w w' ∧ (1 ≤ n → Fresh w w' v' (cs ++ les 4 vs)) := by
 have HS : Hid (Src w I v cs) := hs
 have HL : Hid (Nums .u32 w g vs) := hl
 have HB : Hid (n = vs.length ∧ (∀ x ∈ vs, x < 4294967296) ∧ cs.length ≤ 10000000) := hid ⟨hn, hv, hlen⟩
 clear hs hl hv hlen hn
 go_enter Tryz.func76, Tryz.ntmps76
 go_wp2_with fail
 go_loopg [0, 9] n (fun qq z0 z9 wr => ∃ i : Nat, z9 = .int .i64 (i : Nat) ∧ i ≤ n ∧ n - i ≤ qq ∧ Hid ((∃ J, Src wr J z0 (cs ++ les 4 (vs.take i))) ∧ Same w wr ∧ (1 ≤ i → Fresh w wr z0 (cs ++ les 4 (vs.take i)))))
 case atStart => exact ⟨0, rfl, by omega, by omega, hid ⟨⟨I, by simpa [les] using HS.out⟩, Kept.refl _ _, fun h => by omega⟩⟩
 case round =>
  obtain ⟨i, rfl, hi1, hiq, HI⟩ := hrel
  obtain ⟨vb, hvb⟩ : ∃ vb, vb = u0 := ⟨_, rfl⟩
  rw [← hvb] at HI ⊢
  clear hvb
  by_cases hi : i < n
  ·have hli : decide (i < n) = true := by simp; omega
   obtain ⟨x, hx⟩ : ∃ x, x = vs.getD i 0 := ⟨_, rfl⟩
   have hc := HI.out.2.1.cell (HL.out i (by have := HB.out.1; omega)) (fun f => f)
   rw [← hx] at hc
   have hxv : x < 4294967296 := HB.out.2.1 x (by rw [hx, List.getD_eq_getElem?_getD, List.getElem?_eq_getElem (by have := HB.out.1; omega)]; exact List.getElem_mem _)
   have hiw : IntKind.i64.wrap ((i : Int) + 1) = ((i + 1 : Nat) : Int) := by rw [IntKind.wrap_i64]; omega
   have HX : Hid (x = vs.getD i 0) := hx
   obtain ⟨⟨J, hJ⟩, _, _⟩ := HI.out
   have HPU := put32_any wr vb J _ hJ x rfl hxv (by rw [List.length_append, les_length, List.length_take]; have := HB.out; omega)
   clear hx hJ
   go_wp2_with fail
   refine HPU.mono ?_
   rintro e w2 ⟨v2, rfl, hf⟩
   have HF : Hid (Fresh w w2 v2 (cs ++ les 4 (vs.take (i + 1)))) := hid (by
    rw [les_take 4 vs i (by have := HB.out.1; omega), ← List.append_assoc, ← HX.out]
    exact ⟨hf.row, Same.trans HI.out.2.1 hf.kept, fun k e => Nat.le_trans HI.out.2.1.size (hf.new k e)⟩)
   clear hf HPU
   go_wp2_with fail
   go_roundg (gk - 1)
   case measure => omega
   case rel => exact ⟨i + 1, by go_num, by omega, by omega, hid ⟨⟨_, Src.ofRow HF.out.row⟩, HF.out.kept, fun _ => HF.out⟩⟩
  ·have hli : decide (i < n) = false := by simp; omega
   obtain rfl : i = n := by omega
   go_wp2_with fail
   go_ret
   have ht : vs.take i = vs := List.take_of_length_le (by have := HB.out.1; omega)
   have h9 := HI.out
   rw [ht] at h9
   exact ⟨_, rfl, h9.1, h9.2.1, h9.2.2⟩

end Go.Proofs.YtljlmfnbeofmmaaGreatDoor

namespace Go.Proofs.YtljlmfnbeofmmaaGreatDoor
open Go.RowKit

theorem nums_new (k : IntKind) (w : World) (vs : List Nat) (t : TypeId) : Nums k (w.alloc (.cells (vs.map (fun x => Value.int k (x : Nat))).toArray t)) w.heap.size vs := by
 intro j hj
 have hb := (Blk.new w (vs.map (fun x => Value.int k (x : Nat))).toArray t).cell j
 rw [hb]
 simp [List.getD_eq_getElem?_getD, List.getElem?_eq_getElem hj]

def LabBk (w : World) (b : Nat) (m : Mk) : Prop := Blk w b #[.int .u16 (m.way : Nat), .int .u32 (m.sum : Nat), .int .u32 (m.packed : Nat), .int .u32 (m.size : Nat), .string (txt m.name)] 60

theorem LabBk.cells {w : World} {b : Nat} {m : Mk} (h : LabBk w b m) : w.cell? ⟨b, 0, none⟩ = some (.int .u16 (m.way : Nat)) ∧ w.cell? ⟨b, 1, none⟩ = some (.int .u32 (m.sum : Nat)) ∧ w.cell? ⟨b, 2, none⟩ = some (.int .u32 (m.packed : Nat)) ∧ w.cell? ⟨b, 3, none⟩ = some (.int .u32 (m.size : Nat)) ∧ w.cell? ⟨b, 4, none⟩ = some (.string (txt m.name)) :=
 ⟨Blk.cell h 0, Blk.cell h 1, Blk.cell h 2, Blk.cell h 3, Blk.cell h 4⟩

theorem LabBk.kept {w w' : World} {b : Nat} {m : Mk} (h : LabBk w b m) (hk : Same w w') : LabBk w' b m := Blk.kept h hk (fun f => f)

theorem labB_is (m : Mk) : les 2 [20, 0, m.way, 0, 33] ++ les 4 [m.sum, m.packed, m.size] ++ les 2 [m.name.length, 0] = labB m := by
 simp [les, labB]

set_option maxRecDepth 100000 in
set_option maxHeartbeats 400000 in
theorem layLabel_any (w : World) (v : Value) (I : Nat → Prop) (cs : List Nat) (m : Mk) (hs : Src w I v cs) (hm : MkOk m) (hlen : cs.length ≤ 1000000) :
  Calls Tryz.prog 75 #[v, .agg (mkZ m)] w fun e w' => ∃ v', e = .returned v' ∧ Fresh w w' v' (cs ++ labB m) := by
 obtain ⟨W1, hW1⟩ : ∃ W, W = w.alloc (.cells #[.int .u16 (m.way : Nat), .int .u32 (m.sum : Nat), .int .u32 (m.packed : Nat), .int .u32 (m.size : Nat), .string (txt m.name)] 60) := ⟨_, rfl⟩
 obtain ⟨mb, hmb⟩ : ∃ b, b = w.heap.size := ⟨_, rfl⟩
 have hsz : W1.heap.size = mb + 1 := by rw [hW1, hmb, World.size_alloc]
 have HK1 : Hid (Same w W1) := hid (by rw [hW1]; exact (Kept.refl _ w).alloc _)
 have HL1 : Hid (LabBk W1 mb m) := hid (by rw [hW1, hmb]; exact Blk.new w _ _)
 have HM : Hid (MkOk m ∧ cs.length ≤ 1000000) := hid ⟨hm, hlen⟩
 have hka : ∀ o, Same W1 (W1.alloc o) := fun o => (Kept.refl _ W1).alloc o
 have hn1 := nums_new .u16 W1 [20, 0, m.way, 0, 33] 58
 have H1 := put16s_any _ v I cs W1.heap.size [20, 0, m.way, 0, 33] 5 rfl (hs.kept (Same.trans HK1.out (hka _)) (fun _ _ _ f => f)) hn1 (by intro x hx; have := hm.way; simp at hx; omega) (by omega) (by decide)
 rw [hsz] at H1
 have HKA : Hid (Same W1 (W1.alloc (.cells (List.map (fun x => Value.int .u16 (x : Nat)) [20, 0, m.way, 0, 33]).toArray 58))) := hid (hka _)
 clear hs hn1 hka hm hlen hsz
 unfold mkZ
 go_enter Tryz.func75, Tryz.ntmps75
 go_wp2_with fail
 rw [← hW1, ← hmb]
 clear hW1 hmb
 refine H1.mono ?_
 rintro e w2 ⟨v2, rfl, _, _, hf2⟩
 have hf2 := hf2 (by decide)
 have hk2 : Same W1 w2 := Same.trans HKA.out hf2.kept
 have HK2 : Hid (Same w w2) := hid (Same.trans HK1.out hk2)
 have HL2 : Hid (LabBk w2 mb m) := hid (HL1.out.kept hk2)
 obtain ⟨c0, c1, c2, c3, c4⟩ := HL2.out.cells
 have hka : ∀ o, Same w2 (w2.alloc o) := fun o => (Kept.refl _ w2).alloc o
 have hn2 := nums_new .u32 w2 [m.sum, m.packed, m.size] 48
 have H2 := put32s_any _ v2 _ (cs ++ les 2 [20, 0, m.way, 0, 33]) w2.heap.size [m.sum, m.packed, m.size] 3 rfl ((Src.ofRow hf2.row).kept (hka _) (fun _ _ _ f => f)) hn2 (by intro x hx; have := HM.out.1.sum; have := HM.out.1.packed; have := HM.out.1.size; simp at hx; omega) (by rw [List.length_append, les_length]; have := HM.out.2; simp; omega) (by decide)
 have HKA2 : Hid (Same w2 (w2.alloc (.cells (List.map (fun x => Value.int .u32 (x : Nat)) [m.sum, m.packed, m.size]).toArray 48))) := hid (hka _)
 clear hn2 hka hf2 hk2 H1 HKA HL1 HK1
 go_wp2_with fail
 refine H2.mono ?_
 rintro e w3 ⟨v3, rfl, _, _, hf3⟩
 have hf3 := hf3 (by decide)
 have hk3 : Same w2 w3 := Same.trans HKA2.out hf3.kept
 have HK3 : Hid (Same w w3) := hid (Same.trans HK2.out hk3)
 have HL3 : Hid (LabBk w3 mb m) := hid (HL2.out.kept hk3)
 obtain ⟨d0, d1, d2, d3, d4⟩ := HL3.out.cells
 obtain ⟨nl, hnl⟩ : ∃ n, n = m.name.length := ⟨_, rfl⟩
 have htx : ((txt m.name).size : Int) = (nl : Int) := by rw [hnl, txt_size]
 have htn : (txt m.name).size = nl := by rw [hnl, txt_size]
 have hw16 : IntKind.u16.wrap (nl : Int) = (nl : Int) := by rw [IntKind.wrap_u16]; have := HM.out.1.name; omega
 have HNL : Hid (nl = m.name.length) := hnl
 have hka : ∀ o, Same w3 (w3.alloc o) := fun o => (Kept.refl _ w3).alloc o
 have hn3 := nums_new .u16 w3 [nl, 0] 58
 have H3 := put16s_any _ v3 _ (cs ++ les 2 [20, 0, m.way, 0, 33] ++ les 4 [m.sum, m.packed, m.size]) w3.heap.size [nl, 0] 2 rfl ((Src.ofRow hf3.row).kept (hka _) (fun _ _ _ f => f)) hn3 (by intro x hx; have := HM.out.1.name; simp at hx; omega) (by rw [List.length_append, List.length_append, les_length, les_length]; have := HM.out.2; simp; omega) (by decide)
 have HKA3 : Hid (Same w3 (w3.alloc (.cells (List.map (fun x => Value.int .u16 (x : Nat)) [nl, 0]).toArray 58))) := hid (hka _)
 clear hn3 hka hf3 hk3 H2 HKA2 HL2 HK2 c0 c1 c2 c3 c4 hnl
 go_wp2_with fail
 refine H3.mono ?_
 rintro e w4 ⟨v4, rfl, _, _, hf4⟩
 have hf4 := hf4 (by decide)
 have HF4 : Hid (Fresh w w4 v4 (cs ++ labB m)) := hid (by
  refine ⟨?_, Same.trans HK3.out (Same.trans HKA3.out hf4.kept), fun k e => Nat.le_trans (Same.trans HK3.out HKA3.out).size (hf4.new k e)⟩
  have h9 := hf4.row
  rw [HNL.out] at h9
  rw [← labB_is, ← List.append_assoc, ← List.append_assoc]
  exact h9)
 clear hf4 H3
 go_wp2_with fail
 go_ret
 exact ⟨_, rfl, HF4.out⟩

end Go.Proofs.YtljlmfnbeofmmaaGreatDoor

namespace Go.Proofs.YtljlmfnbeofmmaaGreatDoor
open Go.RowKit

def EndA (w w' : World) (o : Except Nat (Nat × Nat)) (e : Ending) : Prop :=
 (∀ n f, o = .ok (n, f) → e = .returned (.tuple #[.int .i64 (n : Nat), .int .i64 (f : Nat)]) ∧ Same w w') ∧ (∀ c, o = .error c → e = pan8 c ∧ Same w w')

theorem EndA.good {w w' : World} {o : Except Nat (Nat × Nat)} {e : Ending} {n f : Nat} (h : o = .ok (n, f)) (he : e = .returned (.tuple #[.int .i64 (n : Nat), .int .i64 (f : Nat)])) (hk : Same w w') : EndA w w' o e :=
 ⟨fun n' f' h' => by rw [h] at h'; simp only [Except.ok.injEq, Prod.mk.injEq] at h'; obtain ⟨rfl, rfl⟩ := h'; exact ⟨he, hk⟩, fun c h' => by rw [h] at h'; cases h'⟩
theorem EndA.bad {w w' : World} {o : Except Nat (Nat × Nat)} {e : Ending} {c : Nat} (h : o = .error c) (he : e = pan8 c) (hk : Same w w') : EndA w w' o e :=
 ⟨fun n' f' h' => (by rw [h] at h'; cases h'), fun c' h' => by rw [h] at h'; simp only [Except.error.injEq] at h'; subst h'; exact ⟨he, hk⟩⟩

theorem end8_none {r : List Nat} {p : Nat} (h : enf8 r = none) : end8 r p = .error 81 := by unfold end8; rw [h]

set_option maxRecDepth 100000 in
set_option maxHeartbeats 400000 in
theorem end_any (N : Nat) (w : World) (r : List Nat) (a : Option Addr) (cap place : Nat) (hsrc : Src w (fun k => k < N) (.slice a r.length cap) r) (hroom : r.length ≤ cap) (hN : N ≤ w.heap.size) (hby : ∀ b ∈ r, b < 256) (hlen : r.length ≤ 2000000) (hpl : place ≤ 2000000) (hadr : a ≠ none) :
  Calls Tryz.prog 91 #[.slice a r.length cap, .int .i64 (place : Nat)] w fun e w' => EndA w w' (end8 r place) e := by
 obtain ⟨cb, hcb⟩ : ∃ b, b = w.heap.size := ⟨_, rfl⟩
 have HCB : Hid (cb = w.heap.size) := hcb
 obtain ⟨L, hL⟩ : ∃ L, L = r.length := ⟨_, rfl⟩
 obtain ⟨w0, hw0⟩ : ∃ W, W = w.alloc (.cells #[.slice a L cap] 129) := ⟨_, rfl⟩
 have hk0 : Same w w0 := by rw [hw0]; exact (Kept.refl _ w).alloc _
 have hc0 : Cur N w0 cb r a cap := ⟨by rw [hw0, hcb, ← hL]; exact Blk.new w _ _, hsrc.kept hk0 (fun _ _ _ f => f), hroom, by omega, hby, hlen, hadr⟩
 have HKp1 : Hid (Kept (· = cb) w w0) := hid hk0.k8
 have H1 := exp32_any N w0 cb r a cap 101010256 hc0 (by decide)
 rw [← hL]
 clear hsrc hroom hN hby hlen hk0 hc0 hL hadr
 go_enter Tryz.func91, Tryz.ntmps91
 go_wp2_with fail
 rw [← hw0, ← hcb]
 clear hw0 hcb
 refine H1.mono ?_
 intro e w1 h1
 cases ht1 : ex8 4 101010256 r with
 | none =>
  obtain ⟨rfl, hk⟩ := h1.2 ht1
  have HKb : Hid (Kept (· = cb) w w1) := hid (HKp1.out.k8 hk)
  have HEb : Hid (ex8 4 101010256 r = none) := ht1
  clear h1 hk ht1 H1
  unfold pan8
  go_wp2_with fail
  exact ⟨rfl, EndA.bad (end8_none (by simp only [enf8, HEb.out, bnd8_n])) rfl (HKb.out.mono (fun k hk e => by have := HCB.out; omega))⟩
 | some p1 =>
  obtain ⟨r1, rfl⟩ : ∃ z, z = p1 := ⟨_, rfl⟩
  obtain ⟨a1, cap1, rfl, hcu1, hk1⟩ := h1.1 _ ht1
  have E1 : Hid (ex8 4 101010256 r = some r1) := ht1
  obtain ⟨wl1, hwl1⟩ : ∃ W, W = w1.alloc (.cells #[.int .u16 0, .int .u16 0] 58) := ⟨_, rfl⟩
  have hsl : Same w1 wl1 := by rw [hwl1]; exact (Kept.refl _ w1).alloc _
  have hbl : Blk wl1 w1.heap.size #[.int .u16 0, .int .u16 0] 58 := by rw [hwl1]; exact Blk.new w1 _ _
  have l0 := hbl.cell 0
  have l1 := hbl.cell 1
  simp at l0 l1
  have HKp2 : Hid (Kept (· = cb) w wl1) := hid ((HKp1.out.k8 hk1).k8 hsl.k8)
  have H2 := exp16_two N wl1 cb r1 a1 cap1 0 0 w1.heap.size (hcu1.kept hsl (fun f => f) (fun _ _ f => f)) (by decide) (by decide) (fun e => by have := hcu1.blk.lt; omega) l0 l1
  clear h1 ht1 hcu1 hk1 H1 HKp1 hsl hbl l0 l1
  go_wp2_with fail
  rw [← hwl1]
  clear hwl1
  refine H2.mono ?_
  intro e w2 h2
  cases ht2 : exx8 0 0 r1 with
  | none =>
   obtain ⟨rfl, hk⟩ := h2.2 ht2
   have HKb : Hid (Kept (· = cb) w w2) := hid (HKp2.out.k8 hk)
   have HEb : Hid (exx8 0 0 r1 = none) := ht2
   clear h2 hk ht2 H2
   unfold pan8
   go_wp2_with fail
   refine ⟨rfl, EndA.bad (end8_none ?_) rfl (HKb.out.mono (fun k hk e => by have := HCB.out; omega))⟩
   have h9 := HEb.out
   unfold exx8 at h9
   simp only [enf8, E1.out, bnd8_s]
   cases h8 : ex8 2 0 r1 with
   | none => rfl
   | some z =>
    rw [h8, bnd8_s] at h9
    rw [bnd8_s, h9, bnd8_n]
  | some p2 =>
   obtain ⟨r2, rfl⟩ : ∃ z, z = p2 := ⟨_, rfl⟩
   obtain ⟨a2, cap2, rfl, hcu2, hk2⟩ := h2.1 _ ht2
   have E2 : Hid (∃ z, ex8 2 0 r1 = some z ∧ ex8 2 0 z = some r2) := hid (by
    unfold exx8 at ht2
    cases h8 : ex8 2 0 r1 with
    | none => rw [h8, bnd8_n] at ht2; cases ht2
    | some z => rw [h8, bnd8_s] at ht2; exact ⟨z, rfl, ht2⟩)
   obtain ⟨z2, hz2, hz3⟩ := E2.out
   have E3 : Hid (ex8 2 0 r1 = some z2) := hz2
   have E4 : Hid (ex8 2 0 z2 = some r2) := hz3
   have HKp3 : Hid (Kept (· = cb) w w2) := hid (HKp2.out.k8 hk2)
   have H3 := two_any N w2 cb r2 a2 cap2 hcu2
   clear h2 ht2 hcu2 hk2 H2 HKp2 hz2 hz3
   go_wp2_with fail
   refine H3.mono ?_
   intro e w3 h3
   cases ht3 : nm8 2 r2 with
   | none =>
    obtain ⟨rfl, hk⟩ := h3.2 ht3
    have HKb : Hid (Kept (· = cb) w w3) := hid (HKp3.out.k8 hk.k8)
    have HEb : Hid (nm8 2 r2 = none) := ht3
    clear h3 hk ht3 H3
    unfold pan8
    go_wp2_with fail
    exact ⟨rfl, EndA.bad (end8_none (by simp only [enf8, E1.out, bnd8_s, E3.out, bnd8_s, E4.out, bnd8_s, HEb.out, bnd8_n])) rfl (HKb.out.mono (fun k hk e => by have := HCB.out; omega))⟩
   | some p3 =>
    obtain ⟨n, r3⟩ := p3
    obtain ⟨a3, cap3, rfl, hn3, hcu3, hk3⟩ := h3.1 n r3 ht3
    have E5 : Hid (nm8 2 r2 = some (n, r3)) := ht3
    have hn16 : n < 65536 := hn3
    obtain ⟨wl3, hwl3⟩ : ∃ W, W = w3.alloc (.cells #[.int .u16 (n : Nat)] 58) := ⟨_, rfl⟩
    have hsl : Same w3 wl3 := by rw [hwl3]; exact (Kept.refl _ w3).alloc _
    have hbl : Blk wl3 w3.heap.size #[.int .u16 (n : Nat)] 58 := by rw [hwl3]; exact Blk.new w3 _ _
    have l0 := hbl.cell 0
    simp at l0
    have HKp4 : Hid (Kept (· = cb) w wl3) := hid ((HKp3.out.k8 hk3).k8 hsl.k8)
    have H4 := exp16_one N wl3 cb r3 a3 cap3 n w3.heap.size (hcu3.kept hsl (fun f => f) (fun _ _ f => f)) hn16 l0
    clear h3 ht3 hcu3 hk3 H3 HKp3 hsl hbl l0 hn3
    go_wp2_with fail
    rw [← hwl3]
    clear hwl3
    refine H4.mono ?_
    intro e w4 h4
    cases ht4 : ex8 2 n r3 with
    | none =>
     obtain ⟨rfl, hk⟩ := h4.2 ht4
     have HKb : Hid (Kept (· = cb) w w4) := hid (HKp4.out.k8 hk)
     have HEb : Hid (ex8 2 n r3 = none) := ht4
     clear h4 hk ht4 H4
     unfold pan8
     go_wp2_with fail
     exact ⟨rfl, EndA.bad (end8_none (by simp only [enf8, E1.out, bnd8_s, E3.out, bnd8_s, E4.out, bnd8_s, E5.out, bnd8_s, HEb.out, bnd8_n])) rfl (HKb.out.mono (fun k hk e => by have := HCB.out; omega))⟩
    | some p4 =>
     obtain ⟨r4, rfl⟩ : ∃ z, z = p4 := ⟨_, rfl⟩
     obtain ⟨a4, cap4, rfl, hcu4, hk4⟩ := h4.1 _ ht4
     have E6 : Hid (ex8 2 n r3 = some r4) := ht4
     have HKp5 : Hid (Kept (· = cb) w w4) := hid (HKp4.out.k8 hk4)
     have H5 := four_any N w4 cb r4 a4 cap4 hcu4
     clear h4 ht4 hcu4 hk4 H4 HKp4
     go_wp2_with fail
     refine H5.mono ?_
     intro e w5 h5
     cases ht5 : nm8 4 r4 with
     | none =>
      obtain ⟨rfl, hk⟩ := h5.2 ht5
      have HKb : Hid (Kept (· = cb) w w5) := hid (HKp5.out.k8 hk.k8)
      have HEb : Hid (nm8 4 r4 = none) := ht5
      clear h5 hk ht5 H5
      unfold pan8
      go_wp2_with fail
      exact ⟨rfl, EndA.bad (end8_none (by simp only [enf8, E1.out, bnd8_s, E3.out, bnd8_s, E4.out, bnd8_s, E5.out, bnd8_s, E6.out, bnd8_s, HEb.out, bnd8_n])) rfl (HKb.out.mono (fun k hk e => by have := HCB.out; omega))⟩
     | some p5 =>
      obtain ⟨lng, r5⟩ := p5
      obtain ⟨a5, cap5, rfl, hv5, hcu5, hk5⟩ := h5.1 lng r5 ht5
      have E7 : Hid (nm8 4 r4 = some (lng, r5)) := ht5
      have hl32 : lng < 4294967296 := hv5
      have HKp6 : Hid (Kept (· = cb) w w5) := hid (HKp5.out.k8 hk5)
      have H6 := four_any N w5 cb r5 a5 cap5 hcu5
      clear h5 ht5 hcu5 hk5 H5 HKp5 hv5
      go_wp2_with fail
      refine H6.mono ?_
      intro e w6 h6
      cases ht6 : nm8 4 r5 with
      | none =>
       obtain ⟨rfl, hk⟩ := h6.2 ht6
       have HKb : Hid (Kept (· = cb) w w6) := hid (HKp6.out.k8 hk.k8)
       have HEb : Hid (nm8 4 r5 = none) := ht6
       clear h6 hk ht6 H6
       unfold pan8
       go_wp2_with fail
       exact ⟨rfl, EndA.bad (end8_none (by simp only [enf8, E1.out, bnd8_s, E3.out, bnd8_s, E4.out, bnd8_s, E5.out, bnd8_s, E6.out, bnd8_s, E7.out, bnd8_s, HEb.out, bnd8_n])) rfl (HKb.out.mono (fun k hk e => by have := HCB.out; omega))⟩
      | some p6 =>
       obtain ⟨fr, r6⟩ := p6
       obtain ⟨a6, cap6, rfl, hv6, hcu6, hk6⟩ := h6.1 fr r6 ht6
       have E8 : Hid (nm8 4 r5 = some (fr, r6)) := ht6
       have hf32 : fr < 4294967296 := hv6
       obtain ⟨wl6, hwl6⟩ : ∃ W, W = w6.alloc (.cells #[.int .u16 0] 58) := ⟨_, rfl⟩
       have hsl : Same w6 wl6 := by rw [hwl6]; exact (Kept.refl _ w6).alloc _
       have hbl : Blk wl6 w6.heap.size #[.int .u16 0] 58 := by rw [hwl6]; exact Blk.new w6 _ _
       have l0 := hbl.cell 0
       simp at l0
       have HKp7 : Hid (Kept (· = cb) w wl6) := hid ((HKp6.out.k8 hk6).k8 hsl.k8)
       have H7 := exp16_one N wl6 cb r6 a6 cap6 0 w6.heap.size (hcu6.kept hsl (fun f => f) (fun _ _ f => f)) (by decide) l0
       clear h6 ht6 hcu6 hk6 H6 HKp6 hsl hbl l0 hv6
       go_wp2_with fail
       rw [← hwl6]
       clear hwl6
       refine H7.mono ?_
       intro e w7 h7
       cases ht7 : ex8 2 0 r6 with
       | none =>
        obtain ⟨rfl, hk⟩ := h7.2 ht7
        have HKb : Hid (Kept (· = cb) w w7) := hid (HKp7.out.k8 hk)
        have HEb : Hid (ex8 2 0 r6 = none) := ht7
        clear h7 hk ht7 H7
        unfold pan8
        go_wp2_with fail
        exact ⟨rfl, EndA.bad (end8_none (by simp only [enf8, E1.out, bnd8_s, E3.out, bnd8_s, E4.out, bnd8_s, E5.out, bnd8_s, E6.out, bnd8_s, E7.out, bnd8_s, E8.out, bnd8_s, HEb.out, bnd8_n])) rfl (HKb.out.mono (fun k hk e => by have := HCB.out; omega))⟩
       | some p7 =>
        obtain ⟨r7, rfl⟩ : ∃ z, z = p7 := ⟨_, rfl⟩
        obtain ⟨a7, cap7, rfl, hcu7, hk7⟩ := h7.1 _ ht7
        have HK7 : Hid (Same w w7) := hid ((HKp7.out.k8 hk7).mono (fun k hk e => by have := HCB.out; omega))
        have HEN : Hid (enf8 r = some (n, lng, fr)) := hid (by simp only [enf8, E1.out, bnd8_s, E3.out, bnd8_s, E4.out, bnd8_s, E5.out, bnd8_s, E6.out, bnd8_s, E7.out, bnd8_s, E8.out, bnd8_s, ht7])
        obtain ⟨s, hs⟩ : ∃ s, s = fr + lng := ⟨_, rfl⟩
        have hsI : (fr : Int) + (lng : Int) = (s : Int) := by omega
        have hsw : IntKind.u64.wrap (s : Int) = (s : Int) := by rw [IntKind.wrap_u64]; omega
        have hfw : IntKind.u64.wrap (fr : Int) = (fr : Int) := by rw [IntKind.wrap_u64]; omega
        have hlw : IntKind.u64.wrap (lng : Int) = (lng : Int) := by rw [IntKind.wrap_u64]; omega
        have hpw : IntKind.u64.wrap (place : Int) = (place : Int) := by rw [IntKind.wrap_u64]; omega
        have HS : Hid (s = fr + lng) := hs
        clear h7 ht7 hcu7 hk7 H7 HKp7 hs
        by_cases hsp : s = place
        ·subst hsp
         have HO := need_ok w7 (.int .i64 81)
         go_wp2_with fail
         refine HO.mono ?_
         rintro e w8 ⟨rfl, hw8⟩
         subst hw8
         clear HO
         by_cases hn : n ≤ 64
         ·have bn : decide ((n : Int) ≤ 64) = true := by simp; omega
          have HO := need_ok w8 (.int .i64 86)
          go_wp2_with fail
          refine HO.mono ?_
          rintro e w9 ⟨rfl, hw9⟩
          subst hw9
          clear HO
          go_wp2_with fail
          go_ret2
          exact EndA.good (by unfold end8; rw [HEN.out]; simp only; rw [if_neg (by have := HS.out; omega), if_neg (by omega)]) rfl HK7.out
         ·have bn : decide ((n : Int) ≤ 64) = false := by simp; omega
          have HO := need_bad w8 86
          go_wp2_with fail
          refine HO.mono ?_
          rintro e w9 ⟨rfl, hw9⟩
          subst hw9
          clear HO
          unfold pan8
          go_wp2_with fail
          exact ⟨rfl, EndA.bad (by unfold end8; rw [HEN.out]; simp only; rw [if_neg (by have := HS.out; omega), if_pos (by omega)]) rfl HK7.out⟩
        ·have bs : ((s : Int) == (place : Int)) = false := by simp; omega
         have HO := need_bad w7 81
         go_wp2_with fail
         refine HO.mono ?_
         rintro e w8 ⟨rfl, hw8⟩
         subst hw8
         clear HO
         unfold pan8
         go_wp2_with fail
         exact ⟨rfl, EndA.bad (by unfold end8; rw [HEN.out]; simp only; rw [if_pos (by have := HS.out; omega)]) rfl HK7.out⟩

end Go.Proofs.YtljlmfnbeofmmaaGreatDoor
