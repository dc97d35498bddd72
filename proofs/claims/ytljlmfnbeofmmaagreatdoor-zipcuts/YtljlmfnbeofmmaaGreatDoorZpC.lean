import Derived.Test.YtljlmfnbeofmmaaGreatDoorZpB
namespace Go.Proofs.YtljlmfnbeofmmaaGreatDoor
open Go.RowKit

def ExpZ (N : Nat) (w w' : World) (c : Nat) (o : Option (List Nat)) (e : Ending) : Prop :=
 (∀ y, o = some y → ∃ a' cap', e = .returned (.tuple #[]) ∧ Cur N w' c y a' cap' ∧ Kept (· = c) w w') ∧ (o = none → e = pan8 81 ∧ Kept (· = c) w w')

theorem ExpZ.good {N : Nat} {w w' : World} {c : Nat} {o : Option (List Nat)} {y : List Nat} {e : Ending} (ht : o = some y) {a' : Option Addr} {cap' : Nat} (he : e = .returned (.tuple #[])) (h2 : Cur N w' c y a' cap') (h3 : Kept (· = c) w w') : ExpZ N w w' c o e :=
 ⟨fun y' h => by rw [ht] at h; simp only [Option.some.injEq] at h; subst h; exact ⟨a', cap', he, h2, h3⟩, fun h => by rw [ht] at h; cases h⟩

theorem ExpZ.bad {N : Nat} {w w' : World} {c : Nat} {o : Option (List Nat)} {e : Ending} (ht : o = none) (he : e = pan8 81) (h3 : Kept (· = c) w w') : ExpZ N w w' c o e :=
 ⟨fun y' h => (by rw [ht] at h; cases h), fun _ => ⟨he, h3⟩⟩

theorem ex8_of {n v x : Nat} {r y : List Nat} (h : nm8 n r = some (x, y)) : ex8 n v r = if x = v then some y else none := by unfold ex8; rw [h]
theorem ex8_no {n v : Nat} {r : List Nat} (h : nm8 n r = none) : ex8 n v r = none := by unfold ex8; rw [h]

theorem Same.k8 {c : Nat} {w w' : World} (h : Same w w') : Kept (· = c) w w' := h.mono (fun _ _ f => f.elim)
theorem Kept.k8 {c : Nat} {a b d : World} (h : Kept (· = c) a b) (k : Kept (· = c) b d) : Kept (· = c) a d := Kept.trans h k (fun _ _ e => e) (fun _ _ e => e)

set_option maxRecDepth 100000 in
set_option maxHeartbeats 400000 in
theorem exp32_any (N : Nat) (w : World) (c : Nat) (r : List Nat) (a : Option Addr) (cap v : Nat) (h : Cur N w c r a cap) (hv : v < 4294967296) :
  Calls Tryz.prog 132 #[.pointer (some ⟨c, 0, none⟩), .int .u32 (v : Nat)] w fun e w' => ExpZ N w w' c (ex8 4 v r) e := by
 have HF := four_any N w c r a cap h
 cases ht : nm8 4 r with
 | none =>
  have HB : Hid (nm8 4 r = none) := ht
  clear h ht
  go_enter Tryz.func132, Tryz.ntmps132
  go_wp2_with fail
  refine HF.mono ?_
  intro e w1 h1
  obtain ⟨rfl, hk⟩ := h1.2 HB.out
  have HK : Hid (Same w w1) := hk
  clear h1 hk HF
  unfold pan8
  go_wp2_with fail
  exact ⟨rfl, ExpZ.bad (ex8_no HB.out) rfl HK.out.k8⟩
 | some p =>
  obtain ⟨x, y⟩ := p
  have HB : Hid (nm8 4 r = some (x, y)) := ht
  clear h ht
  by_cases hx : x = v
  ·subst hx
   go_enter Tryz.func132, Tryz.ntmps132
   go_wp2_with fail
   refine HF.mono ?_
   intro e w1 h1
   obtain ⟨a', cap', rfl, hx4, hcu, hk⟩ := h1.1 x y HB.out
   have HCU : Hid (Cur N w1 c y a' cap') := hcu
   have HK : Hid (Kept (· = c) w w1) := hk
   have HO := need_ok w1 (.int .i64 81)
   clear h1 hcu hk HF hx4
   go_wp2_with fail
   refine HO.mono ?_
   rintro e w2 ⟨rfl, hw2⟩
   subst hw2
   clear HO
   go_wp2_with fail
   go_end0
   exact ExpZ.good (by rw [ex8_of HB.out, if_pos rfl]) rfl HCU.out HK.out
  ·have bx : ((x : Int) == (v : Int)) = false := by simp; omega
   have HX : Hid (¬ x = v) := hx
   clear hx
   go_enter Tryz.func132, Tryz.ntmps132
   go_wp2_with fail
   refine HF.mono ?_
   intro e w1 h1
   obtain ⟨a', cap', rfl, hx4, hcu, hk⟩ := h1.1 x y HB.out
   have HK : Hid (Kept (· = c) w w1) := hk
   have HO := need_bad w1 81
   clear h1 hcu hk HF hx4
   go_wp2_with fail
   refine HO.mono ?_
   rintro e w2 ⟨rfl, hw2⟩
   subst hw2
   clear HO
   unfold pan8
   go_wp2_with fail
   exact ⟨rfl, ExpZ.bad (by rw [ex8_of HB.out, if_neg HX.out]) rfl HK.out⟩

set_option maxRecDepth 100000 in
set_option maxHeartbeats 400000 in
theorem exp16_one (N : Nat) (w : World) (c : Nat) (r : List Nat) (a : Option Addr) (cap v g : Nat) (h : Cur N w c r a cap) (hv : v < 65536) (hg : w.cell? ⟨g, 0, none⟩ = some (.int .u16 (v : Nat))) :
  Calls Tryz.prog 133 #[.pointer (some ⟨c, 0, none⟩), .slice (some ⟨g, 0, none⟩) 1 1] w fun e w' => ExpZ N w w' c (ex8 2 v r) e := by
 have HF := two_any N w c r a cap h
 cases ht : nm8 2 r with
 | none =>
  have HB : Hid (nm8 2 r = none) := ht
  clear h ht
  go_enter Tryz.func133, Tryz.ntmps133
  go_wp2_with fail
  refine wp_loop_rounds 2 ?_
  rw [rounds_succ]
  go_wp2_with fail
  refine HF.mono ?_
  intro e w1 h1
  obtain ⟨rfl, hk⟩ := h1.2 HB.out
  have HK : Hid (Same w w1) := hk
  clear h1 hk HF hg
  unfold pan8
  go_wp2_with fail
  exact ⟨rfl, ExpZ.bad (ex8_no HB.out) rfl HK.out.k8⟩
 | some p =>
  obtain ⟨x, y⟩ := p
  have HB : Hid (nm8 2 r = some (x, y)) := ht
  clear h ht
  by_cases hx : x = v
  ·subst hx
   go_enter Tryz.func133, Tryz.ntmps133
   go_wp2_with fail
   refine wp_loop_rounds 2 ?_
   rw [rounds_succ]
   go_wp2_with fail
   refine HF.mono ?_
   intro e w1 h1
   obtain ⟨a', cap', rfl, hx4, hcu, hk⟩ := h1.1 x y HB.out
   have HCU : Hid (Cur N w1 c y a' cap') := hcu
   have HK : Hid (Kept (· = c) w w1) := hk
   have HO := need_ok w1 (.int .i64 81)
   clear h1 hcu hk HF hx4 hg
   go_wp2_with fail
   refine HO.mono ?_
   rintro e w2 ⟨rfl, hw2⟩
   subst hw2
   clear HO
   go_wp2_with fail
   rw [rounds_succ]
   go_wp2_with fail
   go_end0
   exact ExpZ.good (by rw [ex8_of HB.out, if_pos rfl]) rfl HCU.out HK.out
  ·have bx : ((x : Int) == (v : Int)) = false := by simp; omega
   have HX : Hid (¬ x = v) := hx
   clear hx
   go_enter Tryz.func133, Tryz.ntmps133
   go_wp2_with fail
   refine wp_loop_rounds 2 ?_
   rw [rounds_succ]
   go_wp2_with fail
   refine HF.mono ?_
   intro e w1 h1
   obtain ⟨a', cap', rfl, hx4, hcu, hk⟩ := h1.1 x y HB.out
   have HK : Hid (Kept (· = c) w w1) := hk
   have HO := need_bad w1 81
   clear h1 hcu hk HF hx4 hg
   go_wp2_with fail
   refine HO.mono ?_
   rintro e w2 ⟨rfl, hw2⟩
   subst hw2
   clear HO
   unfold pan8
   go_wp2_with fail
   exact ⟨rfl, ExpZ.bad (by rw [ex8_of HB.out, if_neg HX.out]) rfl HK.out⟩

def exx8 (v u : Nat) (r : List Nat) : Option (List Nat) := bnd8 (ex8 2 v r) fun r => ex8 2 u r

set_option maxRecDepth 100000 in
set_option maxHeartbeats 400000 in
theorem exp16_two (N : Nat) (w : World) (c : Nat) (r : List Nat) (a : Option Addr) (cap v u g : Nat) (h : Cur N w c r a cap) (hv : v < 65536) (hu : u < 65536) (hgc : g ≠ c) (hg : w.cell? ⟨g, 0, none⟩ = some (.int .u16 (v : Nat))) (hg1 : w.cell? ⟨g, 1, none⟩ = some (.int .u16 (u : Nat))) :
  Calls Tryz.prog 133 #[.pointer (some ⟨c, 0, none⟩), .slice (some ⟨g, 0, none⟩) 2 2] w fun e w' => ExpZ N w w' c (exx8 v u r) e := by
 have HF := two_any N w c r a cap h
 have HG1 : Hid (∀ w1, Kept (· = c) w w1 → w1.cell? ⟨g, 1, none⟩ = some (.int .u16 (u : Nat))) := hid (fun w1 hk => hk.cell hg1 (fun e => hgc e))
 clear hg1
 cases ht : nm8 2 r with
 | none =>
  have HB : Hid (nm8 2 r = none) := ht
  clear h ht
  go_enter Tryz.func133, Tryz.ntmps133
  go_wp2_with fail
  refine wp_loop_rounds 3 ?_
  rw [rounds_succ]
  go_wp2_with fail
  refine HF.mono ?_
  intro e w1 h1
  obtain ⟨rfl, hk⟩ := h1.2 HB.out
  have HK : Hid (Same w w1) := hk
  clear h1 hk HF hg
  unfold pan8
  go_wp2_with fail
  exact ⟨rfl, ExpZ.bad (bnd8_none (ex8_no HB.out)) rfl HK.out.k8⟩
 | some p =>
  obtain ⟨x, y⟩ := p
  have HB : Hid (nm8 2 r = some (x, y)) := ht
  clear h ht
  by_cases hx : x = v
  ·subst hx
   go_enter Tryz.func133, Tryz.ntmps133
   go_wp2_with fail
   refine wp_loop_rounds 3 ?_
   rw [rounds_succ]
   go_wp2_with fail
   refine HF.mono ?_
   intro e w1 h1
   obtain ⟨a', cap', rfl, hx4, hcu, hk⟩ := h1.1 x y HB.out
   have HK : Hid (Kept (· = c) w w1) := hk
   have HO := need_ok w1 (.int .i64 81)
   have HF2 := two_any N w1 c y a' cap' hcu
   have HE1 : Hid (ex8 2 x r = some y) := hid (by rw [ex8_of HB.out, if_pos rfl])
   clear h1 hcu hk HF hx4 hg
   go_wp2_with fail
   refine HO.mono ?_
   rintro e w2 ⟨rfl, hw2⟩
   subst hw2
   have hg1 := HG1.out w2 HK.out
   clear HO
   go_wp2_with fail
   rw [rounds_succ]
   go_wp2_with fail
   refine HF2.mono ?_
   intro e w3 h3
   cases ht2 : nm8 2 y with
   | none =>
    obtain ⟨rfl, hk3⟩ := h3.2 ht2
    have HK3 : Hid (Kept (· = c) w w3) := hid (HK.out.k8 hk3.k8)
    have HB2 : Hid (nm8 2 y = none) := ht2
    clear h3 hk3 HF2 hg1 ht2
    unfold pan8
    go_wp2_with fail
    exact ⟨rfl, ExpZ.bad (by unfold exx8; rw [bnd8_some HE1.out]; exact ex8_no HB2.out) rfl HK3.out⟩
   | some p2 =>
    obtain ⟨x2, y2⟩ := p2
    obtain ⟨a2, cap2, rfl, _, hcu2, hk3⟩ := h3.1 x2 y2 ht2
    have HK3 : Hid (Kept (· = c) w w3) := hid (HK.out.k8 hk3)
    have HB2 : Hid (nm8 2 y = some (x2, y2)) := ht2
    have HCU : Hid (Cur N w3 c y2 a2 cap2) := hcu2
    clear h3 hk3 HF2 hg1 ht2 hcu2
    by_cases hx2 : x2 = u
    ·subst hx2
     have HO := need_ok w3 (.int .i64 81)
     go_wp2_with fail
     refine HO.mono ?_
     rintro e w4 ⟨rfl, hw4⟩
     subst hw4
     clear HO
     go_wp2_with fail
     rw [rounds_succ]
     go_wp2_with fail
     go_end0
     exact ExpZ.good (by unfold exx8; rw [bnd8_some HE1.out, ex8_of HB2.out, if_pos rfl]) rfl HCU.out HK3.out
    ·have bx : ((x2 : Int) == (u : Int)) = false := by simp; omega
     have HX : Hid (¬ x2 = u) := hx2
     have HO := need_bad w3 81
     clear hx2
     go_wp2_with fail
     refine HO.mono ?_
     rintro e w4 ⟨rfl, hw4⟩
     subst hw4
     clear HO
     unfold pan8
     go_wp2_with fail
     exact ⟨rfl, ExpZ.bad (by unfold exx8; rw [bnd8_some HE1.out, ex8_of HB2.out, if_neg HX.out]) rfl HK3.out⟩
  ·have bx : ((x : Int) == (v : Int)) = false := by simp; omega
   have HX : Hid (¬ x = v) := hx
   clear hx
   go_enter Tryz.func133, Tryz.ntmps133
   go_wp2_with fail
   refine wp_loop_rounds 3 ?_
   rw [rounds_succ]
   go_wp2_with fail
   refine HF.mono ?_
   intro e w1 h1
   obtain ⟨a', cap', rfl, hx4, hcu, hk⟩ := h1.1 x y HB.out
   have HK : Hid (Kept (· = c) w w1) := hk
   have HO := need_bad w1 81
   clear h1 hcu hk HF hx4 hg
   go_wp2_with fail
   refine HO.mono ?_
   rintro e w2 ⟨rfl, hw2⟩
   subst hw2
   clear HO
   unfold pan8
   go_wp2_with fail
   exact ⟨rfl, ExpZ.bad (by unfold exx8; rw [bnd8_none (by rw [ex8_of HB.out, if_neg HX.out])]) rfl HK.out⟩

end Go.Proofs.YtljlmfnbeofmmaaGreatDoor
