import Derived.Test.YtljlmfnbeofmmaaGreatDoorZpE
import Derived.Test.YtljlmfnbeofmmaaGreatDoorZpF
import Derived.Laws.StructEq
import Derived.Lib.Strings
import Derived.Deep.RegionHeld3
import Derived.RegionDies
namespace Go.Proofs.YtljlmfnbeofmmaaGreatDoor
open Go.RowKit

theorem txt_beq (a b : List Nat) (ha : ∀ x ∈ a, x < 256) (hb : ∀ x ∈ b, x < 256) : ((txt a).toList == (txt b).toList) = decide (a = b) := by
 rw [Lib.toList_data, Lib.toList_data]
 by_cases h : a = b
 ·subst h; simp
 ·simp only [h, decide_false]
  refine beq_eq_false_iff_ne.2 (fun e => h (txt_inj ha hb ?_))
  cases ht : txt a
  cases hu : txt b
  rw [ht, hu] at e
  simp only at e
  rw [Array.toList_inj] at e
  rw [e]

def itZ (m : Mk) (v : Value) : Array Value := #[.int .u16 (m.way : Nat), .int .u32 (m.sum : Nat), .int .u32 (m.packed : Nat), .int .u32 (m.size : Nat), .string (txt m.name), v]

set_option maxHeartbeats 400000 in
theorem named_any (w : World) (m q : Mk) (v : Value) (g : Nat) (hg : w.cell? ⟨g, 4, none⟩ = some (.string (txt q.name))) (ha : ∀ b ∈ m.name, b < 256) (hb : ∀ b ∈ q.name, b < 256) :
  Calls Tryz.prog 138 #[.agg (itZ m v), .pointer (some ⟨g, 0, none⟩)] w fun e w' => e = .returned (.bool (decide (m.name = q.name))) ∧ Same w w' := by
 have hg9 : ∀ o, (w.alloc o).cell? ⟨g, 4, none⟩ = some (.string (txt q.name)) := fun o => (show Same w (w.alloc o) from (Kept.refl _ w).alloc o).cell hg (fun f => f)
 have hq := txt_beq m.name q.name ha hb
 obtain ⟨B, hB⟩ : ∃ B, B = decide (m.name = q.name) := ⟨_, rfl⟩
 rw [← hB] at hq ⊢
 clear hB
 unfold itZ
 go_enter Tryz.func138, Tryz.ntmps138
 go_wp2_with fail
 go_ret
 exact ⟨rfl, (Kept.refl _ w).alloc _⟩

theorem results_cell8 {fn : Func} {p : Tmp} {ty : TypeId} (h : fn.results = #[.cell p ty]) (tmps : Array Value) (P : Program) (w : World) :
  (results fn tmps).run P w = ((asAddr (tmps.getD p undef)).run P w).andThen fun a w1 => (loadVar ty a).run P w1 := by
 simp only [results, h]
 simp [Sem.run_bind, Result.andThen]

def PieA (N : Nat) (w w' : World) (c : Nat) (m : Mk) (r : List Nat) (e : Ending) : Prop :=
 (∀ b y, pie8 m r = some (b, y) → ∃ v a' cap', e = .returned (.agg (itZ m v)) ∧ Tkn N w' v m.packed b ∧ Cur N w' c y a' cap' ∧ Kept (· = c) w w') ∧ (pie8 m r = none → e = pan8 81 ∧ Kept (· = c) w w')

theorem PieA.good {N : Nat} {w w' : World} {c : Nat} {m : Mk} {r b y : List Nat} {e : Ending} (ht : pie8 m r = some (b, y)) {v : Value} {a' : Option Addr} {cap' : Nat} (he : e = .returned (.agg (itZ m v))) (h1 : Tkn N w' v m.packed b) (h2 : Cur N w' c y a' cap') (h3 : Kept (· = c) w w') : PieA N w w' c m r e :=
 ⟨fun b' y' h => by rw [ht] at h; simp only [Option.some.injEq, Prod.mk.injEq] at h; obtain ⟨rfl, rfl⟩ := h; exact ⟨v, a', cap', he, h1, h2, h3⟩, fun h => by rw [ht] at h; cases h⟩

theorem PieA.bad {N : Nat} {w w' : World} {c : Nat} {m : Mk} {r : List Nat} {e : Ending} (ht : pie8 m r = none) (he : e = pan8 81) (h3 : Kept (· = c) w w') : PieA N w w' c m r e :=
 ⟨fun b' y' h => (by rw [ht] at h; cases h), fun _ => ⟨he, h3⟩⟩

theorem pie8_none {m : Mk} {r : List Nat} (h : hed8 m r = none) : pie8 m r = none := by unfold pie8; rw [h]; rfl

set_option maxRecDepth 100000 in
set_option maxHeartbeats 400000 in
theorem pie_any (N : Nat) (w : World) (c : Nat) (m : Mk) (r : List Nat) (a : Option Addr) (cap : Nat) (h : Cur N w c r a cap) (hm : MkOk m) (hnm : ∀ b ∈ m.name, b < 256) (hpk : m.packed ≤ 16384) :
  Calls Tryz.prog 94 #[.pointer (some ⟨c, 0, none⟩), .agg (mkZ m)] w fun e w' => PieA N w w' c m r e := by
 obtain ⟨w0, hw0⟩ : ∃ W, W = (w.alloc (.cells #[.int .u16 (m.way : Nat), .int .u32 (m.sum : Nat), .int .u32 (m.packed : Nat), .int .u32 (m.size : Nat), .string (txt m.name)] 60)).alloc (.cells #[.int .u16 0, .int .u32 0, .int .u32 0, .int .u32 0, .string ⟨#[]⟩, .slice none 0 0] 78) := ⟨_, rfl⟩
 obtain ⟨mb, hmb⟩ : ∃ b, b = w.heap.size := ⟨_, rfl⟩
 obtain ⟨ib, hib⟩ : ∃ b, b = w.heap.size + 1 := ⟨_, rfl⟩
 have HMB : Hid (c < mb ∧ mb = w.heap.size ∧ ib = w.heap.size + 1) := hid ⟨by have := h.blk.lt; omega, hmb, hib⟩
 have hk0 : Same w w0 := by rw [hw0]; exact ((Kept.refl _ w).alloc _).alloc _
 have HKp1 : Hid (Kept (· = c) w w0) := hid hk0.k8
 have HM0 : Hid (Blk w0 mb #[.int .u16 (m.way : Nat), .int .u32 (m.sum : Nat), .int .u32 (m.packed : Nat), .int .u32 (m.size : Nat), .string (txt m.name)] 60) := hid (by rw [hw0, hmb]; exact (Blk.new w _ _).kept (show Same _ _ from (Kept.refl _ _).alloc _) (fun f => f))
 have HI0 : Hid (Blk w0 ib #[.int .u16 0, .int .u32 0, .int .u32 0, .int .u32 0, .string ⟨#[]⟩, .slice none 0 0] 78) := hid (by rw [hw0, hib]; have h9 := Blk.new (w.alloc (.cells #[.int .u16 (m.way : Nat), .int .u32 (m.sum : Nat), .int .u32 (m.packed : Nat), .int .u32 (m.size : Nat), .string (txt m.name)] 60)) #[.int .u16 0, .int .u32 0, .int .u32 0, .int .u32 0, .string ⟨#[]⟩, .slice none 0 0] 78; rw [World.size_alloc] at h9; exact h9)
 have HSZ0 : Hid (w0.heap.size = w.heap.size + 2) := hid (by rw [hw0, World.size_alloc, World.size_alloc])
 have HC0 : Hid (Cur N w0 c r a cap) := hid (h.kept hk0 (fun f => f) (fun _ _ f => f))
 have H1 := exp32_any N w0 c r a cap 67324752 HC0.out (by decide)
 have HMK : Hid (MkOk m ∧ (∀ b ∈ m.name, b < 256)) := hid ⟨hm, hnm⟩
 clear h hk0 hm hnm
 unfold mkZ
 go_enter Tryz.func94, Tryz.ntmps94
 go_wp2_with fail
 rw [← hw0, ← hib, ← hmb]
 clear hw0 hmb hib
 refine H1.mono ?_
 intro e w1 h1
 cases ht1 : ex8 4 67324752 r with
 | none =>
  obtain ⟨rfl, hk⟩ := h1.2 ht1
  have HKb : Hid (Kept (· = c) w w1) := hid (HKp1.out.k8 hk)
  have HEb : Hid (ex8 4 67324752 r = none) := ht1
  clear h1 hk ht1 H1
  unfold pan8
  go_wp2_with fail
  exact ⟨rfl, PieA.bad (pie8_none (by simp only [hed8, HEb.out, bnd8_n])) rfl HKb.out⟩
 | some r1 =>
  obtain ⟨a1, cap1, rfl, hcu1, hk1⟩ := h1.1 _ ht1
  have E1 : Hid (ex8 4 67324752 r = some r1) := ht1
  have HKp2 : Hid (Kept (· = c) w w1) := hid (HKp1.out.k8 hk1)
  have HM1 : Hid (Blk w1 mb #[.int .u16 (m.way : Nat), .int .u32 (m.sum : Nat), .int .u32 (m.packed : Nat), .int .u32 (m.size : Nat), .string (txt m.name)] 60) := hid (HM0.out.kept hk1 (fun e => by have := HMB.out; omega))
  have HI1 : Hid (Blk w1 ib #[.int .u16 0, .int .u32 0, .int .u32 0, .int .u32 0, .string ⟨#[]⟩, .slice none 0 0] 78) := hid (HI0.out.kept hk1 (fun e => by have := HMB.out; omega))
  have H2 := lab_any N w1 c r1 a1 cap1 hcu1
  clear h1 ht1 hcu1 hk1 H1 HKp1 HM0 HI0 HC0
  go_wp2_with fail
  refine H2.mono ?_
  intro e w2 h2
  cases ht2 : lab8 r1 with
  | none =>
   obtain ⟨rfl, hk⟩ := h2.2 ht2
   have HKb : Hid (Kept (· = c) w w2) := hid (HKp2.out.k8 hk)
   have HEb : Hid (lab8 r1 = none) := ht2
   clear h2 hk ht2 H2
   unfold pan8
   go_wp2_with fail
   exact ⟨rfl, PieA.bad (pie8_none (by simp only [hed8, E1.out, bnd8_s, HEb.out, bnd8_n])) rfl HKb.out⟩
  | some p2 =>
   obtain ⟨⟨q, lng⟩, r2⟩ := p2
   obtain ⟨a2, cap2, rfl, hmk2, hnm2, hlng, hcu2, hk2⟩ := h2.1 q lng r2 ht2
   have E2 : Hid (lab8 r1 = some ((q, lng), r2)) := ht2
   have HLG : Hid (lng < 65536) := hlng
   obtain ⟨wt, hwt⟩ : ∃ W, W = w2.alloc (.cells #[.int .u16 (q.way : Nat), .int .u32 (q.sum : Nat), .int .u32 (q.packed : Nat), .int .u32 (q.size : Nat), .string (txt q.name)] 60) := ⟨_, rfl⟩
   have hst : Same w2 wt := by rw [hwt]; exact (Kept.refl _ w2).alloc _
   obtain ⟨tb, htb⟩ : ∃ b, b = w2.heap.size := ⟨_, rfl⟩
   have HTB : Hid (ib < tb ∧ mb < tb ∧ c < tb) := hid (by have h9 := hk2.size; have := HKp2.out.size; have := HMB.out; have := HI1.out.lt; omega)
   have HTt : Hid (Blk wt tb #[.int .u16 (q.way : Nat), .int .u32 (q.sum : Nat), .int .u32 (q.packed : Nat), .int .u32 (q.size : Nat), .string (txt q.name)] 60) := hid (by rw [hwt, htb]; exact Blk.new w2 _ _)
   have HKp3 : Hid (Kept (· = c) w wt) := hid ((HKp2.out.k8 hk2).k8 hst.k8)
   have HM2 : Hid (Blk wt mb #[.int .u16 (m.way : Nat), .int .u32 (m.sum : Nat), .int .u32 (m.packed : Nat), .int .u32 (m.size : Nat), .string (txt m.name)] 60) := hid ((HM1.out.kept hk2 (fun e => by have := HMB.out; omega)).kept hst (fun f => f))
   have HI2 : Hid (Blk wt ib #[.int .u16 0, .int .u32 0, .int .u32 0, .int .u32 0, .string ⟨#[]⟩, .slice none 0 0] 78) := hid ((HI1.out.kept hk2 (fun e => by have := HMB.out; omega)).kept hst (fun f => f))
   have H3 := take_any N wt c r2 a2 cap2 lng (hcu2.kept hst (fun f => f) (fun _ _ f => f)) (by omega)
   clear h2 ht2 hcu2 hk2 H2 HKp2 HM1 HI1 hst hmk2 hnm2
   unfold mkZ
   go_wp2_with fail
   rw [← hwt, ← htb]
   clear hwt htb
   refine H3.mono ?_
   intro e w3 h3
   cases ht3 : tk8 lng r2 with
   | none =>
    obtain ⟨rfl, hk⟩ := h3.2 ht3
    have HKb : Hid (Kept (· = c) w w3) := hid (HKp3.out.k8 hk.k8)
    have HEb : Hid (tk8 lng r2 = none) := ht3
    clear h3 hk ht3 H3
    unfold pan8
    go_wp2_with fail
    exact ⟨rfl, PieA.bad (pie8_none (by simp only [hed8, E1.out, bnd8_s, E2.out, HEb.out, bnd8_n])) rfl HKb.out⟩
   | some p3 =>
    obtain ⟨x3, r3⟩ := p3
    obtain ⟨v3, a3, cap3, rfl, htk3, hcu3, hk3⟩ := h3.1 x3 r3 ht3
    have E3 : Hid (tk8 lng r2 = some (x3, r3)) := ht3
    have HX3 : Hid (∀ b ∈ x3, b < 256) := hid htk3.byte
    have HT3 : Hid (Blk w3 tb #[.int .u16 (q.way : Nat), .int .u32 (q.sum : Nat), .int .u32 (q.packed : Nat), .int .u32 (q.size : Nat), .string (txt q.name)] 60) := hid (HTt.out.kept hk3 (fun e => by have := HTB.out; omega))
    have HM3 : Hid (Blk w3 mb #[.int .u16 (m.way : Nat), .int .u32 (m.sum : Nat), .int .u32 (m.packed : Nat), .int .u32 (m.size : Nat), .string (txt m.name)] 60) := hid (HM2.out.kept hk3 (fun e => by have := HMB.out; omega))
    have HI3 : Hid (Blk w3 ib #[.int .u16 0, .int .u32 0, .int .u32 0, .int .u32 0, .string ⟨#[]⟩, .slice none 0 0] 78) := hid (HI2.out.kept hk3 (fun e => by have := HMB.out; omega))
    obtain ⟨va3, vc3, hv3⟩ := htk3.shp
    subst hv3
    have gs := str8 htk3.src htk3.len
    have t4 := HT3.out.cell 4
    have ft4 := HT3.out.frozen 4
    simp at t4
    obtain ⟨w4, hw4⟩ : ∃ W, W = w3.setCell ⟨tb, 4, none⟩ (.string (txt x3)) := ⟨_, rfl⟩
    have hs4 : Kept (· = tb) w3 w4 := by rw [hw4]; exact (Kept.refl (· = tb) w3).setCell _ _ (.inl rfl)
    have HT4 : Hid (Blk w4 tb #[.int .u16 (q.way : Nat), .int .u32 (q.sum : Nat), .int .u32 (q.packed : Nat), .int .u32 (q.size : Nat), .string (txt x3)] 60) := hid (by rw [hw4]; have := HT3.out.set 4 (.string (txt x3)); simpa using this)
    have HM4 : Hid (Blk w4 mb #[.int .u16 (m.way : Nat), .int .u32 (m.sum : Nat), .int .u32 (m.packed : Nat), .int .u32 (m.size : Nat), .string (txt m.name)] 60) := hid (HM3.out.kept hs4 (fun e => by have := HTB.out; omega))
    have HI4 : Hid (Blk w4 ib #[.int .u16 0, .int .u32 0, .int .u32 0, .int .u32 0, .string ⟨#[]⟩, .slice none 0 0] 78) := hid (HI3.out.kept hs4 (fun e => by have := HTB.out; omega))
    have HC4 : Hid (Cur N w4 c r3 a3 cap3) := hid (hcu3.kept hs4 (fun e => by have := HTB.out; omega) (fun k hk e => by have := HTB.out; have := hcu3.new; omega))
    have HK4 : Hid (Kept (· = c) w w4) := hid ((HKp3.out.k8 hk3).trans hs4 (fun _ _ e => e) (fun k hk e => by have := HTB.out; have := HMB.out; omega))
    have tq0 := HT4.out.cell 0
    have tq1 := HT4.out.cell 1
    have tq2 := HT4.out.cell 2
    have tq3 := HT4.out.cell 3
    have tq4 := HT4.out.cell 4
    have mq0 := HM4.out.cell 0
    have mq1 := HM4.out.cell 1
    have mq2 := HM4.out.cell 2
    have mq3 := HM4.out.cell 3
    have mq4 := HM4.out.cell 4
    simp at tq0 tq1 tq2 tq3 tq4 mq0 mq1 mq2 mq3 mq4
    rw [hw4] at tq0 tq1 tq2 tq3 tq4 mq0 mq1 mq2 mq3 mq4
    have hbq := txt_beq x3 m.name HX3.out HMK.out.2
    have HHD : Hid (hed8 m r = if q.named x3 = m then some r3 else none) := hid (by simp only [hed8, E1.out, bnd8_s, E2.out, E3.out])
    clear h3 ht3 htk3 hcu3 hk3 H3 HKp3 HM2 HI2 HTt HT3 HM3 HI3 hs4
    by_cases hsame : q.named x3 = m
    ·have e1 : q.way = m.way := by rw [← hsame]; rfl
     have e2 : q.sum = m.sum := by rw [← hsame]; rfl
     have e3 : q.packed = m.packed := by rw [← hsame]; rfl
     have e4 : q.size = m.size := by rw [← hsame]; rfl
     have e5 : x3 = m.name := by rw [← hsame]; rfl
     rw [e1] at tq0
     rw [e2] at tq1
     rw [e3] at tq2
     rw [e4] at tq3
     rw [decide_eq_true e5] at hbq
     have HHD2 : Hid (hed8 m r = some r3) := hid (by rw [HHD.out, if_pos hsame])
     have HO := need_ok w4 (.int .i64 81)
     have HTK : Hid (∀ W2, Same w4 W2 → Calls Tryz.prog 136 #[.pointer (some ⟨c, 0, none⟩), .int .i64 (m.packed : Nat)] W2 fun e w' => TakZ N W2 w' c m.packed r3 e) := hid (fun W2 hk => take_any N W2 c r3 a3 cap3 m.packed (HC4.out.kept hk (fun f => f) (fun _ _ f => f)) (by omega))
     clear e1 e2 e3 e4 e5 hsame HHD
     go_wp2_with fail
     rw [← hw4]
     refine HO.mono ?_
     rintro e w5 ⟨rfl, hw5⟩
     subst hw5
     clear HO tq0 tq1 tq2 tq3 tq4 mq0 mq1 mq2 mq3 mq4 hbq t4 ft4 gs hw4
     have c0 := HM4.out.cell 0
     have c1 := HM4.out.cell 1
     have c2 := HM4.out.cell 2
     have c3 := HM4.out.cell 3
     have c4 := HM4.out.cell 4
     simp at c0 c1 c2 c3 c4
     have HCM : Hid (¬ mb = c) := hid (by have := HMB.out; omega)
     have HCI : Hid (¬ ib = c) := hid (by have := HMB.out; omega)
     have hpw : IntKind.i64.wrap (m.packed : Int) = (m.packed : Int) := by rw [IntKind.wrap_i64]; omega
     cases ht5 : tk8 m.packed r3 with
     | none =>
      have HEb : Hid (tk8 m.packed r3 = none) := ht5
      clear ht5
      go_wp2_with fail
      go_region_dies
      all_goals
       refine (HTK.out _ ((Kept.refl _ w5).drew)).mono ?_
       intro e w6 h6
       obtain ⟨rfl, hk6⟩ := h6.2 HEb.out
       exact ⟨rfl, PieA.bad (by unfold pie8; rw [bnd8_some HHD2.out]; exact HEb.out) rfl (HK4.out.k8 (Same.trans ((Kept.refl _ w5).drew) hk6).k8)⟩
     | some p5 =>
      obtain ⟨x5, r5⟩ := p5
      have E5 : Hid (tk8 m.packed r3 = some (x5, r5)) := ht5
      have HALL : Hid (∀ W6, Kept (· = c) w5.drew W6 → W6.cell? ⟨mb, 0, none⟩ = some (.int .u16 (m.way : Nat)) ∧ W6.cell? ⟨mb, 1, none⟩ = some (.int .u32 (m.sum : Nat)) ∧ W6.cell? ⟨mb, 2, none⟩ = some (.int .u32 (m.packed : Nat)) ∧ W6.cell? ⟨mb, 3, none⟩ = some (.int .u32 (m.size : Nat)) ∧ W6.cell? ⟨mb, 4, none⟩ = some (.string (txt m.name)) ∧ W6.cell? ⟨ib, 0, none⟩ = some (.int .u16 0) ∧ W6.cell? ⟨ib, 1, none⟩ = some (.int .u32 0) ∧ W6.cell? ⟨ib, 2, none⟩ = some (.int .u32 0) ∧ W6.cell? ⟨ib, 3, none⟩ = some (.int .u32 0) ∧ W6.cell? ⟨ib, 4, none⟩ = some (.string ⟨#[]⟩) ∧ W6.cell? ⟨ib, 5, none⟩ = some (.slice none 0 0) ∧ W6.frozen? ⟨ib, 0, none⟩ = false ∧ W6.frozen? ⟨ib, 1, none⟩ = false ∧ W6.frozen? ⟨ib, 2, none⟩ = false ∧ W6.frozen? ⟨ib, 3, none⟩ = false ∧ W6.frozen? ⟨ib, 4, none⟩ = false ∧ W6.frozen? ⟨ib, 5, none⟩ = false) := hid (fun W6 hk => by
       have hm9 := (HM4.out.kept (show Same w5 w5.drew from (Kept.refl _ w5).drew) (fun f => f)).kept hk HCM.out
       have hi9 := (HI4.out.kept (show Same w5 w5.drew from (Kept.refl _ w5).drew) (fun f => f)).kept hk HCI.out
       refine ⟨?_, ?_, ?_, ?_, ?_, ?_, ?_, ?_, ?_, ?_, ?_, hi9.frozen 0, hi9.frozen 1, hi9.frozen 2, hi9.frozen 3, hi9.frozen 4, hi9.frozen 5⟩
       ·have := hm9.cell 0; simpa using this
       ·have := hm9.cell 1; simpa using this
       ·have := hm9.cell 2; simpa using this
       ·have := hm9.cell 3; simpa using this
       ·have := hm9.cell 4; simpa using this
       ·have := hi9.cell 0; simpa using this
       ·have := hi9.cell 1; simpa using this
       ·have := hi9.cell 2; simpa using this
       ·have := hi9.cell 3; simpa using this
       ·have := hi9.cell 4; simpa using this
       ·have := hi9.cell 5; simpa using this)
      clear ht5
      go_wp2_with fail
      go_region_with (go_at_call 136; refine (HTK.out _ ((Kept.refl _ w5).drew)).mono ?_; intro e w6 h6; obtain ⟨v6, a6, cap6, rfl, htk6, hcu6, hk6⟩ := h6.1 x5 r5 E5.out; obtain ⟨va6, vc6, hv6⟩ := htk6.shp; subst hv6; obtain ⟨q0, q1, q2, q3, q4, q5, q6, q7, q8, q9, q10, q11, q12, q13, q14, q15, q16⟩ := HALL.out w6 hk6)
      all_goals
       go_wp2_with fail
       have hi6 := (HI4.out.kept (show Same w5 w5.drew from (Kept.refl _ w5).drew) (fun f => f)).kept hk6 HCI.out
       obtain ⟨wz, hwz⟩ : ∃ W, W = (((((w6.setCell ⟨ib, 0, none⟩ (.int .u16 (m.way : Nat))).setCell ⟨ib, 1, none⟩ (.int .u32 (m.sum : Nat))).setCell ⟨ib, 2, none⟩ (.int .u32 (m.packed : Nat))).setCell ⟨ib, 3, none⟩ (.int .u32 (m.size : Nat))).setCell ⟨ib, 4, none⟩ (.string (txt m.name))).setCell ⟨ib, 5, none⟩ (.slice va6 m.packed vc6) := ⟨_, rfl⟩
       have hkz : Kept (· = ib) w6 wz := by rw [hwz]; exact (((((((Kept.refl (· = ib) w6).setCell _ _ (.inl rfl)).setCell _ _ (.inl rfl)).setCell _ _ (.inl rfl)).setCell _ _ (.inl rfl)).setCell _ _ (.inl rfl)).setCell _ _ (.inl rfl))
       have hbz : Blk wz ib #[.int .u16 (m.way : Nat), .int .u32 (m.sum : Nat), .int .u32 (m.packed : Nat), .int .u32 (m.size : Nat), .string (txt m.name), .slice va6 m.packed vc6] 78 := by rw [hwz]; have := (((((hi6.set 0 (.int .u16 (m.way : Nat))).set 1 (.int .u32 (m.sum : Nat))).set 2 (.int .u32 (m.packed : Nat))).set 3 (.int .u32 (m.size : Nat))).set 4 (.string (txt m.name))).set 5 (.slice va6 m.packed vc6); simpa using this
       have z0 := hbz.cell 0
       have z1 := hbz.cell 1
       have z2 := hbz.cell 2
       have z3 := hbz.cell 3
       have z4 := hbz.cell 4
       have z5 := hbz.cell 5
       simp at z0 z1 z2 z3 z4 z5
       rw [← hwz]
       refine bodyPost_ret (v := .agg (itZ m (.slice va6 m.packed vc6))) (by rw [results_cell8 rfl]; simp [go_sem, z0, z1, z2, z3, z4, z5, itZ]) rfl ?_
       exact PieA.good (by unfold pie8; rw [bnd8_some HHD2.out]; exact E5.out) rfl (htk6.kept hkz (fun k hk e => by have := HMB.out; have := HC4.out.new; omega)) (hcu6.kept hkz (fun e => by have := HMB.out; omega) (fun k hk e => by have := HMB.out; have := HC4.out.new; omega)) ((HK4.out.k8 ((show Same w5 w5.drew from (Kept.refl _ w5).drew).k8.k8 hk6)).trans hkz (fun _ _ e => e) (fun k hk e => by have := HMB.out; omega))
    ·have hne : ((q.way : Int) == (m.way : Int)) = false ∨ (q.way = m.way ∧ ((q.sum : Int) == (m.sum : Int)) = false) ∨ (q.way = m.way ∧ q.sum = m.sum ∧ ((q.packed : Int) == (m.packed : Int)) = false) ∨ (q.way = m.way ∧ q.sum = m.sum ∧ q.packed = m.packed ∧ ((q.size : Int) == (m.size : Int)) = false) ∨ (q.way = m.way ∧ q.sum = m.sum ∧ q.packed = m.packed ∧ q.size = m.size ∧ ((txt x3).toList == (txt m.name).toList) = false) := by
      by_cases g1 : q.way = m.way
      ·by_cases g2 : q.sum = m.sum
       ·by_cases g3 : q.packed = m.packed
        ·by_cases g4 : q.size = m.size
         ·have g5 : ¬ x3 = m.name := fun e => hsame (by unfold Mk.named; rw [g1, g2, g3, g4, e])
          exact .inr (.inr (.inr (.inr ⟨g1, g2, g3, g4, by rw [hbq]; simp [g5]⟩)))
         ·exact .inr (.inr (.inr (.inl ⟨g1, g2, g3, by simp; omega⟩)))
        ·exact .inr (.inr (.inl ⟨g1, g2, by simp; omega⟩))
       ·exact .inr (.inl ⟨g1, by simp; omega⟩)
      ·exact .inl (by simp; omega)
     have HBD : Hid (pie8 m r = none) := hid (pie8_none (by rw [HHD.out, if_neg hsame]))
     have HO := need_bad w4 81
     clear hbq hsame HHD
     rcases hne with g | ⟨e1, g⟩ | ⟨e1, e2, g⟩ | ⟨e1, e2, e3, g⟩ | ⟨e1, e2, e3, e4, g⟩
     all_goals
      try
       rw [e1] at tq0
       clear e1
      try
       rw [e2] at tq1
       clear e2
      try
       rw [e3] at tq2
       clear e3
      try
       rw [e4] at tq3
       clear e4
      go_wp2_with fail
      rw [← hw4]
      refine HO.mono ?_
      rintro e w5 ⟨rfl, hw5⟩
      subst hw5
      unfold pan8
      clear HO tq0 tq1 tq2 tq3 tq4 mq0 mq1 mq2 mq3 mq4 t4 ft4 gs hw4
      go_wp2_with fail
      exact ⟨rfl, PieA.bad HBD.out rfl HK4.out⟩

end Go.Proofs.YtljlmfnbeofmmaaGreatDoor
