/-
  Of the proof: parts TyU, TyV, TyW, TyX, TyY, TyZ, TzA, TzB, TzD.
-/
import Derived.Test.YtcokedgoibiljaaGreatDoorJ47
import Derived.Test.YtcokedgoibiljaaGreatDoorJ10
import Derived.Test.YtcokedgoibiljaaGreatDoorJ23

/-
  Layer 14's laws: one call of a transaction (act), walked (written by tools/genact14.py).
-/
namespace Go.Proofs.YtcokedgoibiljaaGreatDoor
open Go.RowKit Go.Maps Go.Sort Go.Shelf

theorem Tryz.sizeSn14 : (Tryz.prog.info? 49).map (·.size) = some 9 := by kernel_rfl

/-- What is recorded of a call. -/
def snV (o : Ot) (dt : ByteArray) (l : Value) (er : Int) : List Value := otE o ++ [.string dt, l, .int .i64 er]

section
variable {K' N : Nat} {B : Int} {w : World} {p : Nat} {S' : Ts} {F : Nat → Prop}

/-- A manager that is left by what writes a block that is none of its. -/
theorem MgA.kept {w1 w2 w3 : World} {G : Nat → Prop} (h : MgA K' N B w1 p F S' w2) (hF : ∀ k, F k → k < w.heap.size) (h1 : Same w w1) (hk : Kept G w2 w3) (hG : ∀ k, G k → w.heap.size ≤ k ∧ k < w1.heap.size) : MgA K' N B w p F S' w3 := by
  obtain ⟨F', a1, a2, a3⟩ := h
  have hs := h1.size
  refine ⟨F', a1.kept hk (fun k f g => ?_), fun k hk => a2 k (by omega), ?_⟩
  · have h9 := hG k g
    have := hF k ((a2 k h9.2).1 f)
    omega
  · exact Kept.trans (Kept.trans h1 a3 (fun _ _ f => f.elim) (fun _ _ f => f)) hk (fun _ _ f => f) (fun k hk g => by have := hG k g; omega)

set_option maxRecDepth 100000 in
set_option maxHeartbeats 2000000 in
theorem act_put (o : Ot) (hk : o.kind = 4) (n : Nb) {er : Int} (hF : ∀ k, F k → k < w.heap.size) (hC : ∀ w', Same w w' → Calls Tryz.prog 28 #[.pointer (some ⟨p, 0, none⟩), .int .i64 n.v, .string o.ar, .string o.en, .string o.dt] w' fun e w2 => e = .returned (.int .i64 er) ∧ MgA K' N B w' p F S' w2) :
    Calls Tryz.prog 17 #[.pointer (some ⟨p, 0, none⟩), .int .i64 n.v, .agg (otE o).toArray] w fun e w' => e = .returned (.agg (snV o ⟨#[]⟩ (.slice none 0 0) er).toArray) ∧ MgA K' N B w p F S' w' := by
  obtain ⟨b1, hb1⟩ : ∃ b, b = w.heap.size := ⟨_, rfl⟩
  obtain ⟨b2, hb2⟩ : ∃ b, b = w.heap.size + 1 := ⟨_, rfl⟩
  obtain ⟨b3, hb3⟩ : ∃ b, b = w.heap.size + 1 + 1 := ⟨_, rfl⟩
  obtain ⟨W, hW⟩ : ∃ W, W = ((w.alloc (.cells #[.int .i64 4, .int .i64 o.num, .string o.tn, .string o.ar, .string o.en, .string o.dt] 24)).alloc (.cells #[.int .i64 0, .int .i64 0, .string ⟨#[]⟩, .string ⟨#[]⟩, .string ⟨#[]⟩, .string ⟨#[]⟩, .string ⟨#[]⟩, .slice none 0 0, .int .i64 0] 49)).alloc (.cells #[.int .i64 4, .int .i64 o.num, .string o.tn, .string o.ar, .string o.en, .string o.dt, .string ⟨#[]⟩, .slice none 0 0, .int .i64 0] 49) := ⟨_, rfl⟩
  have HW : Hid (Same w W ∧ W.heap.size = w.heap.size + 3 ∧ b1 = w.heap.size ∧ b2 = w.heap.size + 1 ∧ b3 = w.heap.size + 2) := hid ⟨by rw [hW]; exact (((Kept.refl _ w).alloc _).alloc _).alloc _, by rw [hW]; simp, hb1, hb2, hb3⟩
  have HB1 : Hid (Blk W b1 #[.int .i64 4, .int .i64 o.num, .string o.tn, .string o.ar, .string o.en, .string o.dt] 24) := hid (by
    have h1 : Blk (w.alloc (.cells #[.int .i64 4, .int .i64 o.num, .string o.tn, .string o.ar, .string o.en, .string o.dt] 24)) b1 #[.int .i64 4, .int .i64 o.num, .string o.tn, .string o.ar, .string o.en, .string o.dt] 24 := by rw [hb1]; exact Blk.new w _ _
    rw [hW]
    exact h1.kept (F := fun _ => False) (((Kept.refl _ _).alloc _).alloc _) (fun f => f))
  have HB2 : Hid (Blk W b2 #[.int .i64 0, .int .i64 0, .string ⟨#[]⟩, .string ⟨#[]⟩, .string ⟨#[]⟩, .string ⟨#[]⟩, .string ⟨#[]⟩, .slice none 0 0, .int .i64 0] 49) := hid (by
    have h1 : Blk ((w.alloc (.cells #[.int .i64 4, .int .i64 o.num, .string o.tn, .string o.ar, .string o.en, .string o.dt] 24)).alloc (.cells #[.int .i64 0, .int .i64 0, .string ⟨#[]⟩, .string ⟨#[]⟩, .string ⟨#[]⟩, .string ⟨#[]⟩, .string ⟨#[]⟩, .slice none 0 0, .int .i64 0] 49)) b2 #[.int .i64 0, .int .i64 0, .string ⟨#[]⟩, .string ⟨#[]⟩, .string ⟨#[]⟩, .string ⟨#[]⟩, .string ⟨#[]⟩, .slice none 0 0, .int .i64 0] 49 := by
      rw [hb2]
      have h2 := Blk.new (w.alloc (.cells #[.int .i64 4, .int .i64 o.num, .string o.tn, .string o.ar, .string o.en, .string o.dt] 24)) #[.int .i64 0, .int .i64 0, .string ⟨#[]⟩, .string ⟨#[]⟩, .string ⟨#[]⟩, .string ⟨#[]⟩, .string ⟨#[]⟩, .slice none 0 0, .int .i64 0] 49
      rwa [show (w.alloc (.cells #[.int .i64 4, .int .i64 o.num, .string o.tn, .string o.ar, .string o.en, .string o.dt] 24)).heap.size = w.heap.size + 1 from by simp] at h2
    rw [hW]
    exact h1.kept (F := fun _ => False) ((Kept.refl _ _).alloc _) (fun f => f))
  have HB3 : Hid (Blk W b3 #[.int .i64 4, .int .i64 o.num, .string o.tn, .string o.ar, .string o.en, .string o.dt, .string ⟨#[]⟩, .slice none 0 0, .int .i64 0] 49) := hid (by
    rw [hW, hb3]
    have h2 := Blk.new ((w.alloc (.cells #[.int .i64 4, .int .i64 o.num, .string o.tn, .string o.ar, .string o.en, .string o.dt] 24)).alloc (.cells #[.int .i64 0, .int .i64 0, .string ⟨#[]⟩, .string ⟨#[]⟩, .string ⟨#[]⟩, .string ⟨#[]⟩, .string ⟨#[]⟩, .slice none 0 0, .int .i64 0] 49)) #[.int .i64 4, .int .i64 o.num, .string o.tn, .string o.ar, .string o.en, .string o.dt, .string ⟨#[]⟩, .slice none 0 0, .int .i64 0] 49
    rwa [show ((w.alloc (.cells #[.int .i64 4, .int .i64 o.num, .string o.tn, .string o.ar, .string o.en, .string o.dt] 24)).alloc (.cells #[.int .i64 0, .int .i64 0, .string ⟨#[]⟩, .string ⟨#[]⟩, .string ⟨#[]⟩, .string ⟨#[]⟩, .string ⟨#[]⟩, .slice none 0 0, .int .i64 0] 49)).heap.size = w.heap.size + 1 + 1 from by simp] at h2)
  have HC := hid hC
  have HF := hid hF
  have HO : Hid (otE o = [.int .i64 4, .int .i64 o.num, .string o.tn, .string o.ar, .string o.en, .string o.dt]) := hid (by unfold otE; rw [hk])
  unfold snV
  rw [HO.out]
  clear hk hC hF
  go_enter Tryz.func17, Tryz.ntmps17
  go_upto_region 2 with fail
  rw [← hb3, ← hb2, ← hb1, ← hW]
  clear hW hb1 hb2 hb3
  have c0 : W.cell? ⟨b1, 0, none⟩ = some (.int .i64 4) := HB1.out.cell 0
  have c1 : W.cell? ⟨b1, 3, none⟩ = some (.string o.ar) := HB1.out.cell 3
  have c2 : W.cell? ⟨b1, 4, none⟩ = some (.string o.en) := HB1.out.cell 4
  have c3 : W.cell? ⟨b1, 5, none⟩ = some (.string o.dt) := HB1.out.cell 5
  have HCC := HC.out W HW.out.1
  go_wp2_with fail
  refine HCC.mono ?_
  rintro e w4 ⟨rfl, hm⟩
  clear HCC c0 c1 c2 c3
  have HM := hid hm
  have HFF : Hid (¬ F b1 ∧ ¬ F b2 ∧ ¬ F b3) := hid ⟨fun f => by have := HF.out _ f; have := HW.out; omega, fun f => by have := HF.out _ f; have := HW.out; omega, fun f => by have := HF.out _ f; have := HW.out; omega⟩
  have HB24 : Hid (Blk w4 b2 #[.int .i64 0, .int .i64 0, .string ⟨#[]⟩, .string ⟨#[]⟩, .string ⟨#[]⟩, .string ⟨#[]⟩, .string ⟨#[]⟩, .slice none 0 0, .int .i64 0] 49) := hid (by obtain ⟨F', a1, a2, a3⟩ := hm; exact HB2.out.kept a3 HFF.out.2.1)
  have HB34 : Hid (Blk w4 b3 #[.int .i64 4, .int .i64 o.num, .string o.tn, .string o.ar, .string o.en, .string o.dt, .string ⟨#[]⟩, .slice none 0 0, .int .i64 0] 49) := hid (by obtain ⟨F', a1, a2, a3⟩ := hm; exact HB3.out.kept a3 HFF.out.2.2)
  clear hm
  obtain ⟨w5, hw5⟩ : ∃ W, W = w4.setCell ⟨b3, 8, none⟩ (.int .i64 er) := ⟨_, rfl⟩
  have HB35 : Hid (Blk w5 b3 #[.int .i64 4, .int .i64 o.num, .string o.tn, .string o.ar, .string o.en, .string o.dt, .string ⟨#[]⟩, .slice none 0 0, .int .i64 er] 49) := hid (by
    rw [hw5]
    have h9 := HB34.out.set 8 (.int .i64 er)
    simpa using h9)
  have HK45 : Hid (Kept (· = b3) w4 w5) := hid (by rw [hw5]; exact (Kept.refl (· = b3) w4).setCell _ _ (.inl rfl))
  have HB25 : Hid (Blk w5 b2 #[.int .i64 0, .int .i64 0, .string ⟨#[]⟩, .string ⟨#[]⟩, .string ⟨#[]⟩, .string ⟨#[]⟩, .string ⟨#[]⟩, .slice none 0 0, .int .i64 0] 49) := hid (HB24.out.kept HK45.out (fun e => by have := HW.out; omega))
  have f8 : w4.frozen? ⟨b3, 8, none⟩ = false := HB34.out.frozen 8
  have d8 : w4.cell? ⟨b3, 8, none⟩ = some (.int .i64 0) := HB34.out.cell 8
  go_upto_region 13 with fail
  rw [← hw5]
  clear hw5 f8 d8
  go_wp2_with (first
    | (with_reducible refine at_load 49 72 ?_; refine wpl_load 49 9 _ Tryz.underlying49 rfl Tryz.sizeSn14 rfl HB35.out [.int .i64 4, .int .i64 o.num, .string o.tn, .string o.ar, .string o.en, .string o.dt, .string ⟨#[]⟩, .slice none 0 0, .int .i64 er] rfl rfl ?_)
    | (with_reducible refine at_store 49 6 ?_; refine wpl_store 49 9 Tryz.sizeSn14 rfl (cells := [.int .i64 4, .int .i64 o.num, .string o.tn, .string o.ar, .string o.en, .string o.dt, .string ⟨#[]⟩, .slice none 0 0, .int .i64 er]) rfl HB25.out rfl rfl (by simp [Value.oneCell']) ?_; intro w6 hB6 hk6 hs6; have HB6 := hid hB6; have HK6 := hid hk6; clear hB6 hk6 hs6))
  refine bodyPost_ret (v := .agg #[.int .i64 4, .int .i64 o.num, .string o.tn, .string o.ar, .string o.en, .string o.dt, .string ⟨#[]⟩, .slice none 0 0, .int .i64 er]) (by rw [results_cell15 (p := 6) (ty := 49) rfl 9 _ Tryz.underlying49 rfl Tryz.sizeSn14 _ rfl HB6.out rfl]) rfl ?_
  refine ⟨rfl, HM.out.kept HF.out HW.out.1 (G := fun k => k = b2 ∨ k = b3) ((HK45.out.mono (fun _ _ e => .inr e)).trans (HK6.out.mono (fun _ _ e => .inl e)) (fun _ _ e => e) (fun _ _ e => e)) (fun k e => by have := HW.out; omega)⟩

set_option maxRecDepth 100000 in
set_option maxHeartbeats 2000000 in
theorem act_add (o : Ot) (hk : o.kind = 5) (n : Nb) {er : Int} (hF : ∀ k, F k → k < w.heap.size) (hC : ∀ w', Same w w' → Calls Tryz.prog 29 #[.pointer (some ⟨p, 0, none⟩), .int .i64 n.v, .string o.ar, .string o.en, .string o.dt] w' fun e w2 => e = .returned (.int .i64 er) ∧ MgA K' N B w' p F S' w2) :
    Calls Tryz.prog 17 #[.pointer (some ⟨p, 0, none⟩), .int .i64 n.v, .agg (otE o).toArray] w fun e w' => e = .returned (.agg (snV o ⟨#[]⟩ (.slice none 0 0) er).toArray) ∧ MgA K' N B w p F S' w' := by
  obtain ⟨b1, hb1⟩ : ∃ b, b = w.heap.size := ⟨_, rfl⟩
  obtain ⟨b2, hb2⟩ : ∃ b, b = w.heap.size + 1 := ⟨_, rfl⟩
  obtain ⟨b3, hb3⟩ : ∃ b, b = w.heap.size + 1 + 1 := ⟨_, rfl⟩
  obtain ⟨W, hW⟩ : ∃ W, W = ((w.alloc (.cells #[.int .i64 5, .int .i64 o.num, .string o.tn, .string o.ar, .string o.en, .string o.dt] 24)).alloc (.cells #[.int .i64 0, .int .i64 0, .string ⟨#[]⟩, .string ⟨#[]⟩, .string ⟨#[]⟩, .string ⟨#[]⟩, .string ⟨#[]⟩, .slice none 0 0, .int .i64 0] 49)).alloc (.cells #[.int .i64 5, .int .i64 o.num, .string o.tn, .string o.ar, .string o.en, .string o.dt, .string ⟨#[]⟩, .slice none 0 0, .int .i64 0] 49) := ⟨_, rfl⟩
  have HW : Hid (Same w W ∧ W.heap.size = w.heap.size + 3 ∧ b1 = w.heap.size ∧ b2 = w.heap.size + 1 ∧ b3 = w.heap.size + 2) := hid ⟨by rw [hW]; exact (((Kept.refl _ w).alloc _).alloc _).alloc _, by rw [hW]; simp, hb1, hb2, hb3⟩
  have HB1 : Hid (Blk W b1 #[.int .i64 5, .int .i64 o.num, .string o.tn, .string o.ar, .string o.en, .string o.dt] 24) := hid (by
    have h1 : Blk (w.alloc (.cells #[.int .i64 5, .int .i64 o.num, .string o.tn, .string o.ar, .string o.en, .string o.dt] 24)) b1 #[.int .i64 5, .int .i64 o.num, .string o.tn, .string o.ar, .string o.en, .string o.dt] 24 := by rw [hb1]; exact Blk.new w _ _
    rw [hW]
    exact h1.kept (F := fun _ => False) (((Kept.refl _ _).alloc _).alloc _) (fun f => f))
  have HB2 : Hid (Blk W b2 #[.int .i64 0, .int .i64 0, .string ⟨#[]⟩, .string ⟨#[]⟩, .string ⟨#[]⟩, .string ⟨#[]⟩, .string ⟨#[]⟩, .slice none 0 0, .int .i64 0] 49) := hid (by
    have h1 : Blk ((w.alloc (.cells #[.int .i64 5, .int .i64 o.num, .string o.tn, .string o.ar, .string o.en, .string o.dt] 24)).alloc (.cells #[.int .i64 0, .int .i64 0, .string ⟨#[]⟩, .string ⟨#[]⟩, .string ⟨#[]⟩, .string ⟨#[]⟩, .string ⟨#[]⟩, .slice none 0 0, .int .i64 0] 49)) b2 #[.int .i64 0, .int .i64 0, .string ⟨#[]⟩, .string ⟨#[]⟩, .string ⟨#[]⟩, .string ⟨#[]⟩, .string ⟨#[]⟩, .slice none 0 0, .int .i64 0] 49 := by
      rw [hb2]
      have h2 := Blk.new (w.alloc (.cells #[.int .i64 5, .int .i64 o.num, .string o.tn, .string o.ar, .string o.en, .string o.dt] 24)) #[.int .i64 0, .int .i64 0, .string ⟨#[]⟩, .string ⟨#[]⟩, .string ⟨#[]⟩, .string ⟨#[]⟩, .string ⟨#[]⟩, .slice none 0 0, .int .i64 0] 49
      rwa [show (w.alloc (.cells #[.int .i64 5, .int .i64 o.num, .string o.tn, .string o.ar, .string o.en, .string o.dt] 24)).heap.size = w.heap.size + 1 from by simp] at h2
    rw [hW]
    exact h1.kept (F := fun _ => False) ((Kept.refl _ _).alloc _) (fun f => f))
  have HB3 : Hid (Blk W b3 #[.int .i64 5, .int .i64 o.num, .string o.tn, .string o.ar, .string o.en, .string o.dt, .string ⟨#[]⟩, .slice none 0 0, .int .i64 0] 49) := hid (by
    rw [hW, hb3]
    have h2 := Blk.new ((w.alloc (.cells #[.int .i64 5, .int .i64 o.num, .string o.tn, .string o.ar, .string o.en, .string o.dt] 24)).alloc (.cells #[.int .i64 0, .int .i64 0, .string ⟨#[]⟩, .string ⟨#[]⟩, .string ⟨#[]⟩, .string ⟨#[]⟩, .string ⟨#[]⟩, .slice none 0 0, .int .i64 0] 49)) #[.int .i64 5, .int .i64 o.num, .string o.tn, .string o.ar, .string o.en, .string o.dt, .string ⟨#[]⟩, .slice none 0 0, .int .i64 0] 49
    rwa [show ((w.alloc (.cells #[.int .i64 5, .int .i64 o.num, .string o.tn, .string o.ar, .string o.en, .string o.dt] 24)).alloc (.cells #[.int .i64 0, .int .i64 0, .string ⟨#[]⟩, .string ⟨#[]⟩, .string ⟨#[]⟩, .string ⟨#[]⟩, .string ⟨#[]⟩, .slice none 0 0, .int .i64 0] 49)).heap.size = w.heap.size + 1 + 1 from by simp] at h2)
  have HC := hid hC
  have HF := hid hF
  have HO : Hid (otE o = [.int .i64 5, .int .i64 o.num, .string o.tn, .string o.ar, .string o.en, .string o.dt]) := hid (by unfold otE; rw [hk])
  unfold snV
  rw [HO.out]
  clear hk hC hF
  go_enter Tryz.func17, Tryz.ntmps17
  go_upto_region 2 with fail
  rw [← hb3, ← hb2, ← hb1, ← hW]
  clear hW hb1 hb2 hb3
  have c0 : W.cell? ⟨b1, 0, none⟩ = some (.int .i64 5) := HB1.out.cell 0
  have c1 : W.cell? ⟨b1, 3, none⟩ = some (.string o.ar) := HB1.out.cell 3
  have c2 : W.cell? ⟨b1, 4, none⟩ = some (.string o.en) := HB1.out.cell 4
  have c3 : W.cell? ⟨b1, 5, none⟩ = some (.string o.dt) := HB1.out.cell 5
  have HCC := HC.out W HW.out.1
  go_wp2_with fail
  refine HCC.mono ?_
  rintro e w4 ⟨rfl, hm⟩
  clear HCC c0 c1 c2 c3
  have HM := hid hm
  have HFF : Hid (¬ F b1 ∧ ¬ F b2 ∧ ¬ F b3) := hid ⟨fun f => by have := HF.out _ f; have := HW.out; omega, fun f => by have := HF.out _ f; have := HW.out; omega, fun f => by have := HF.out _ f; have := HW.out; omega⟩
  have HB24 : Hid (Blk w4 b2 #[.int .i64 0, .int .i64 0, .string ⟨#[]⟩, .string ⟨#[]⟩, .string ⟨#[]⟩, .string ⟨#[]⟩, .string ⟨#[]⟩, .slice none 0 0, .int .i64 0] 49) := hid (by obtain ⟨F', a1, a2, a3⟩ := hm; exact HB2.out.kept a3 HFF.out.2.1)
  have HB34 : Hid (Blk w4 b3 #[.int .i64 5, .int .i64 o.num, .string o.tn, .string o.ar, .string o.en, .string o.dt, .string ⟨#[]⟩, .slice none 0 0, .int .i64 0] 49) := hid (by obtain ⟨F', a1, a2, a3⟩ := hm; exact HB3.out.kept a3 HFF.out.2.2)
  clear hm
  obtain ⟨w5, hw5⟩ : ∃ W, W = w4.setCell ⟨b3, 8, none⟩ (.int .i64 er) := ⟨_, rfl⟩
  have HB35 : Hid (Blk w5 b3 #[.int .i64 5, .int .i64 o.num, .string o.tn, .string o.ar, .string o.en, .string o.dt, .string ⟨#[]⟩, .slice none 0 0, .int .i64 er] 49) := hid (by
    rw [hw5]
    have h9 := HB34.out.set 8 (.int .i64 er)
    simpa using h9)
  have HK45 : Hid (Kept (· = b3) w4 w5) := hid (by rw [hw5]; exact (Kept.refl (· = b3) w4).setCell _ _ (.inl rfl))
  have HB25 : Hid (Blk w5 b2 #[.int .i64 0, .int .i64 0, .string ⟨#[]⟩, .string ⟨#[]⟩, .string ⟨#[]⟩, .string ⟨#[]⟩, .string ⟨#[]⟩, .slice none 0 0, .int .i64 0] 49) := hid (HB24.out.kept HK45.out (fun e => by have := HW.out; omega))
  have f8 : w4.frozen? ⟨b3, 8, none⟩ = false := HB34.out.frozen 8
  have d8 : w4.cell? ⟨b3, 8, none⟩ = some (.int .i64 0) := HB34.out.cell 8
  go_upto_region 13 with fail
  rw [← hw5]
  clear hw5 f8 d8
  go_wp2_with (first
    | (with_reducible refine at_load 49 72 ?_; refine wpl_load 49 9 _ Tryz.underlying49 rfl Tryz.sizeSn14 rfl HB35.out [.int .i64 5, .int .i64 o.num, .string o.tn, .string o.ar, .string o.en, .string o.dt, .string ⟨#[]⟩, .slice none 0 0, .int .i64 er] rfl rfl ?_)
    | (with_reducible refine at_store 49 6 ?_; refine wpl_store 49 9 Tryz.sizeSn14 rfl (cells := [.int .i64 5, .int .i64 o.num, .string o.tn, .string o.ar, .string o.en, .string o.dt, .string ⟨#[]⟩, .slice none 0 0, .int .i64 er]) rfl HB25.out rfl rfl (by simp [Value.oneCell']) ?_; intro w6 hB6 hk6 hs6; have HB6 := hid hB6; have HK6 := hid hk6; clear hB6 hk6 hs6))
  refine bodyPost_ret (v := .agg #[.int .i64 5, .int .i64 o.num, .string o.tn, .string o.ar, .string o.en, .string o.dt, .string ⟨#[]⟩, .slice none 0 0, .int .i64 er]) (by rw [results_cell15 (p := 6) (ty := 49) rfl 9 _ Tryz.underlying49 rfl Tryz.sizeSn14 _ rfl HB6.out rfl]) rfl ?_
  refine ⟨rfl, HM.out.kept HF.out HW.out.1 (G := fun k => k = b2 ∨ k = b3) ((HK45.out.mono (fun _ _ e => .inr e)).trans (HK6.out.mono (fun _ _ e => .inl e)) (fun _ _ e => e) (fun _ _ e => e)) (fun k e => by have := HW.out; omega)⟩

set_option maxRecDepth 100000 in
set_option maxHeartbeats 2000000 in
theorem act_del (o : Ot) (hk : o.kind = 6) (n : Nb) {er : Int} (hF : ∀ k, F k → k < w.heap.size) (hC : ∀ w', Same w w' → Calls Tryz.prog 30 #[.pointer (some ⟨p, 0, none⟩), .int .i64 n.v, .string o.ar, .string o.en] w' fun e w2 => e = .returned (.int .i64 er) ∧ MgA K' N B w' p F S' w2) :
    Calls Tryz.prog 17 #[.pointer (some ⟨p, 0, none⟩), .int .i64 n.v, .agg (otE o).toArray] w fun e w' => e = .returned (.agg (snV o ⟨#[]⟩ (.slice none 0 0) er).toArray) ∧ MgA K' N B w p F S' w' := by
  obtain ⟨b1, hb1⟩ : ∃ b, b = w.heap.size := ⟨_, rfl⟩
  obtain ⟨b2, hb2⟩ : ∃ b, b = w.heap.size + 1 := ⟨_, rfl⟩
  obtain ⟨b3, hb3⟩ : ∃ b, b = w.heap.size + 1 + 1 := ⟨_, rfl⟩
  obtain ⟨W, hW⟩ : ∃ W, W = ((w.alloc (.cells #[.int .i64 6, .int .i64 o.num, .string o.tn, .string o.ar, .string o.en, .string o.dt] 24)).alloc (.cells #[.int .i64 0, .int .i64 0, .string ⟨#[]⟩, .string ⟨#[]⟩, .string ⟨#[]⟩, .string ⟨#[]⟩, .string ⟨#[]⟩, .slice none 0 0, .int .i64 0] 49)).alloc (.cells #[.int .i64 6, .int .i64 o.num, .string o.tn, .string o.ar, .string o.en, .string o.dt, .string ⟨#[]⟩, .slice none 0 0, .int .i64 0] 49) := ⟨_, rfl⟩
  have HW : Hid (Same w W ∧ W.heap.size = w.heap.size + 3 ∧ b1 = w.heap.size ∧ b2 = w.heap.size + 1 ∧ b3 = w.heap.size + 2) := hid ⟨by rw [hW]; exact (((Kept.refl _ w).alloc _).alloc _).alloc _, by rw [hW]; simp, hb1, hb2, hb3⟩
  have HB1 : Hid (Blk W b1 #[.int .i64 6, .int .i64 o.num, .string o.tn, .string o.ar, .string o.en, .string o.dt] 24) := hid (by
    have h1 : Blk (w.alloc (.cells #[.int .i64 6, .int .i64 o.num, .string o.tn, .string o.ar, .string o.en, .string o.dt] 24)) b1 #[.int .i64 6, .int .i64 o.num, .string o.tn, .string o.ar, .string o.en, .string o.dt] 24 := by rw [hb1]; exact Blk.new w _ _
    rw [hW]
    exact h1.kept (F := fun _ => False) (((Kept.refl _ _).alloc _).alloc _) (fun f => f))
  have HB2 : Hid (Blk W b2 #[.int .i64 0, .int .i64 0, .string ⟨#[]⟩, .string ⟨#[]⟩, .string ⟨#[]⟩, .string ⟨#[]⟩, .string ⟨#[]⟩, .slice none 0 0, .int .i64 0] 49) := hid (by
    have h1 : Blk ((w.alloc (.cells #[.int .i64 6, .int .i64 o.num, .string o.tn, .string o.ar, .string o.en, .string o.dt] 24)).alloc (.cells #[.int .i64 0, .int .i64 0, .string ⟨#[]⟩, .string ⟨#[]⟩, .string ⟨#[]⟩, .string ⟨#[]⟩, .string ⟨#[]⟩, .slice none 0 0, .int .i64 0] 49)) b2 #[.int .i64 0, .int .i64 0, .string ⟨#[]⟩, .string ⟨#[]⟩, .string ⟨#[]⟩, .string ⟨#[]⟩, .string ⟨#[]⟩, .slice none 0 0, .int .i64 0] 49 := by
      rw [hb2]
      have h2 := Blk.new (w.alloc (.cells #[.int .i64 6, .int .i64 o.num, .string o.tn, .string o.ar, .string o.en, .string o.dt] 24)) #[.int .i64 0, .int .i64 0, .string ⟨#[]⟩, .string ⟨#[]⟩, .string ⟨#[]⟩, .string ⟨#[]⟩, .string ⟨#[]⟩, .slice none 0 0, .int .i64 0] 49
      rwa [show (w.alloc (.cells #[.int .i64 6, .int .i64 o.num, .string o.tn, .string o.ar, .string o.en, .string o.dt] 24)).heap.size = w.heap.size + 1 from by simp] at h2
    rw [hW]
    exact h1.kept (F := fun _ => False) ((Kept.refl _ _).alloc _) (fun f => f))
  have HB3 : Hid (Blk W b3 #[.int .i64 6, .int .i64 o.num, .string o.tn, .string o.ar, .string o.en, .string o.dt, .string ⟨#[]⟩, .slice none 0 0, .int .i64 0] 49) := hid (by
    rw [hW, hb3]
    have h2 := Blk.new ((w.alloc (.cells #[.int .i64 6, .int .i64 o.num, .string o.tn, .string o.ar, .string o.en, .string o.dt] 24)).alloc (.cells #[.int .i64 0, .int .i64 0, .string ⟨#[]⟩, .string ⟨#[]⟩, .string ⟨#[]⟩, .string ⟨#[]⟩, .string ⟨#[]⟩, .slice none 0 0, .int .i64 0] 49)) #[.int .i64 6, .int .i64 o.num, .string o.tn, .string o.ar, .string o.en, .string o.dt, .string ⟨#[]⟩, .slice none 0 0, .int .i64 0] 49
    rwa [show ((w.alloc (.cells #[.int .i64 6, .int .i64 o.num, .string o.tn, .string o.ar, .string o.en, .string o.dt] 24)).alloc (.cells #[.int .i64 0, .int .i64 0, .string ⟨#[]⟩, .string ⟨#[]⟩, .string ⟨#[]⟩, .string ⟨#[]⟩, .string ⟨#[]⟩, .slice none 0 0, .int .i64 0] 49)).heap.size = w.heap.size + 1 + 1 from by simp] at h2)
  have HC := hid hC
  have HF := hid hF
  have HO : Hid (otE o = [.int .i64 6, .int .i64 o.num, .string o.tn, .string o.ar, .string o.en, .string o.dt]) := hid (by unfold otE; rw [hk])
  unfold snV
  rw [HO.out]
  clear hk hC hF
  go_enter Tryz.func17, Tryz.ntmps17
  go_upto_region 2 with fail
  rw [← hb3, ← hb2, ← hb1, ← hW]
  clear hW hb1 hb2 hb3
  have c0 : W.cell? ⟨b1, 0, none⟩ = some (.int .i64 6) := HB1.out.cell 0
  have c1 : W.cell? ⟨b1, 3, none⟩ = some (.string o.ar) := HB1.out.cell 3
  have c2 : W.cell? ⟨b1, 4, none⟩ = some (.string o.en) := HB1.out.cell 4
  have c3 : W.cell? ⟨b1, 5, none⟩ = some (.string o.dt) := HB1.out.cell 5
  have HCC := HC.out W HW.out.1
  go_wp2_with fail
  refine HCC.mono ?_
  rintro e w4 ⟨rfl, hm⟩
  clear HCC c0 c1 c2 c3
  have HM := hid hm
  have HFF : Hid (¬ F b1 ∧ ¬ F b2 ∧ ¬ F b3) := hid ⟨fun f => by have := HF.out _ f; have := HW.out; omega, fun f => by have := HF.out _ f; have := HW.out; omega, fun f => by have := HF.out _ f; have := HW.out; omega⟩
  have HB24 : Hid (Blk w4 b2 #[.int .i64 0, .int .i64 0, .string ⟨#[]⟩, .string ⟨#[]⟩, .string ⟨#[]⟩, .string ⟨#[]⟩, .string ⟨#[]⟩, .slice none 0 0, .int .i64 0] 49) := hid (by obtain ⟨F', a1, a2, a3⟩ := hm; exact HB2.out.kept a3 HFF.out.2.1)
  have HB34 : Hid (Blk w4 b3 #[.int .i64 6, .int .i64 o.num, .string o.tn, .string o.ar, .string o.en, .string o.dt, .string ⟨#[]⟩, .slice none 0 0, .int .i64 0] 49) := hid (by obtain ⟨F', a1, a2, a3⟩ := hm; exact HB3.out.kept a3 HFF.out.2.2)
  clear hm
  obtain ⟨w5, hw5⟩ : ∃ W, W = w4.setCell ⟨b3, 8, none⟩ (.int .i64 er) := ⟨_, rfl⟩
  have HB35 : Hid (Blk w5 b3 #[.int .i64 6, .int .i64 o.num, .string o.tn, .string o.ar, .string o.en, .string o.dt, .string ⟨#[]⟩, .slice none 0 0, .int .i64 er] 49) := hid (by
    rw [hw5]
    have h9 := HB34.out.set 8 (.int .i64 er)
    simpa using h9)
  have HK45 : Hid (Kept (· = b3) w4 w5) := hid (by rw [hw5]; exact (Kept.refl (· = b3) w4).setCell _ _ (.inl rfl))
  have HB25 : Hid (Blk w5 b2 #[.int .i64 0, .int .i64 0, .string ⟨#[]⟩, .string ⟨#[]⟩, .string ⟨#[]⟩, .string ⟨#[]⟩, .string ⟨#[]⟩, .slice none 0 0, .int .i64 0] 49) := hid (HB24.out.kept HK45.out (fun e => by have := HW.out; omega))
  have f8 : w4.frozen? ⟨b3, 8, none⟩ = false := HB34.out.frozen 8
  have d8 : w4.cell? ⟨b3, 8, none⟩ = some (.int .i64 0) := HB34.out.cell 8
  go_upto_region 13 with fail
  rw [← hw5]
  clear hw5 f8 d8
  go_wp2_with (first
    | (with_reducible refine at_load 49 72 ?_; refine wpl_load 49 9 _ Tryz.underlying49 rfl Tryz.sizeSn14 rfl HB35.out [.int .i64 6, .int .i64 o.num, .string o.tn, .string o.ar, .string o.en, .string o.dt, .string ⟨#[]⟩, .slice none 0 0, .int .i64 er] rfl rfl ?_)
    | (with_reducible refine at_store 49 6 ?_; refine wpl_store 49 9 Tryz.sizeSn14 rfl (cells := [.int .i64 6, .int .i64 o.num, .string o.tn, .string o.ar, .string o.en, .string o.dt, .string ⟨#[]⟩, .slice none 0 0, .int .i64 er]) rfl HB25.out rfl rfl (by simp [Value.oneCell']) ?_; intro w6 hB6 hk6 hs6; have HB6 := hid hB6; have HK6 := hid hk6; clear hB6 hk6 hs6))
  refine bodyPost_ret (v := .agg #[.int .i64 6, .int .i64 o.num, .string o.tn, .string o.ar, .string o.en, .string o.dt, .string ⟨#[]⟩, .slice none 0 0, .int .i64 er]) (by rw [results_cell15 (p := 6) (ty := 49) rfl 9 _ Tryz.underlying49 rfl Tryz.sizeSn14 _ rfl HB6.out rfl]) rfl ?_
  refine ⟨rfl, HM.out.kept HF.out HW.out.1 (G := fun k => k = b2 ∨ k = b3) ((HK45.out.mono (fun _ _ e => .inr e)).trans (HK6.out.mono (fun _ _ e => .inl e)) (fun _ _ e => e) (fun _ _ e => e)) (fun k e => by have := HW.out; omega)⟩

set_option maxRecDepth 100000 in
set_option maxHeartbeats 2000000 in
theorem act_read (o : Ot) (hk : o.kind = 2) (n : Nb) {er : Int} {dt : ByteArray} (hF : ∀ k, F k → k < w.heap.size) (hC : ∀ w', Same w w' → Calls Tryz.prog 24 #[.pointer (some ⟨p, 0, none⟩), .int .i64 n.v, .string o.ar, .string o.en] w' fun e w2 => e = .returned (.tuple #[.string dt, .int .i64 er]) ∧ MgA K' N B w' p F S' w2) :
    Calls Tryz.prog 17 #[.pointer (some ⟨p, 0, none⟩), .int .i64 n.v, .agg (otE o).toArray] w fun e w' => e = .returned (.agg (snV o dt (.slice none 0 0) er).toArray) ∧ MgA K' N B w p F S' w' := by
  obtain ⟨b1, hb1⟩ : ∃ b, b = w.heap.size := ⟨_, rfl⟩
  obtain ⟨b2, hb2⟩ : ∃ b, b = w.heap.size + 1 := ⟨_, rfl⟩
  obtain ⟨b3, hb3⟩ : ∃ b, b = w.heap.size + 1 + 1 := ⟨_, rfl⟩
  obtain ⟨W, hW⟩ : ∃ W, W = ((w.alloc (.cells #[.int .i64 2, .int .i64 o.num, .string o.tn, .string o.ar, .string o.en, .string o.dt] 24)).alloc (.cells #[.int .i64 0, .int .i64 0, .string ⟨#[]⟩, .string ⟨#[]⟩, .string ⟨#[]⟩, .string ⟨#[]⟩, .string ⟨#[]⟩, .slice none 0 0, .int .i64 0] 49)).alloc (.cells #[.int .i64 2, .int .i64 o.num, .string o.tn, .string o.ar, .string o.en, .string o.dt, .string ⟨#[]⟩, .slice none 0 0, .int .i64 0] 49) := ⟨_, rfl⟩
  have HW : Hid (Same w W ∧ W.heap.size = w.heap.size + 3 ∧ b1 = w.heap.size ∧ b2 = w.heap.size + 1 ∧ b3 = w.heap.size + 2) := hid ⟨by rw [hW]; exact (((Kept.refl _ w).alloc _).alloc _).alloc _, by rw [hW]; simp, hb1, hb2, hb3⟩
  have HB1 : Hid (Blk W b1 #[.int .i64 2, .int .i64 o.num, .string o.tn, .string o.ar, .string o.en, .string o.dt] 24) := hid (by
    have h1 : Blk (w.alloc (.cells #[.int .i64 2, .int .i64 o.num, .string o.tn, .string o.ar, .string o.en, .string o.dt] 24)) b1 #[.int .i64 2, .int .i64 o.num, .string o.tn, .string o.ar, .string o.en, .string o.dt] 24 := by rw [hb1]; exact Blk.new w _ _
    rw [hW]
    exact h1.kept (F := fun _ => False) (((Kept.refl _ _).alloc _).alloc _) (fun f => f))
  have HB2 : Hid (Blk W b2 #[.int .i64 0, .int .i64 0, .string ⟨#[]⟩, .string ⟨#[]⟩, .string ⟨#[]⟩, .string ⟨#[]⟩, .string ⟨#[]⟩, .slice none 0 0, .int .i64 0] 49) := hid (by
    have h1 : Blk ((w.alloc (.cells #[.int .i64 2, .int .i64 o.num, .string o.tn, .string o.ar, .string o.en, .string o.dt] 24)).alloc (.cells #[.int .i64 0, .int .i64 0, .string ⟨#[]⟩, .string ⟨#[]⟩, .string ⟨#[]⟩, .string ⟨#[]⟩, .string ⟨#[]⟩, .slice none 0 0, .int .i64 0] 49)) b2 #[.int .i64 0, .int .i64 0, .string ⟨#[]⟩, .string ⟨#[]⟩, .string ⟨#[]⟩, .string ⟨#[]⟩, .string ⟨#[]⟩, .slice none 0 0, .int .i64 0] 49 := by
      rw [hb2]
      have h2 := Blk.new (w.alloc (.cells #[.int .i64 2, .int .i64 o.num, .string o.tn, .string o.ar, .string o.en, .string o.dt] 24)) #[.int .i64 0, .int .i64 0, .string ⟨#[]⟩, .string ⟨#[]⟩, .string ⟨#[]⟩, .string ⟨#[]⟩, .string ⟨#[]⟩, .slice none 0 0, .int .i64 0] 49
      rwa [show (w.alloc (.cells #[.int .i64 2, .int .i64 o.num, .string o.tn, .string o.ar, .string o.en, .string o.dt] 24)).heap.size = w.heap.size + 1 from by simp] at h2
    rw [hW]
    exact h1.kept (F := fun _ => False) ((Kept.refl _ _).alloc _) (fun f => f))
  have HB3 : Hid (Blk W b3 #[.int .i64 2, .int .i64 o.num, .string o.tn, .string o.ar, .string o.en, .string o.dt, .string ⟨#[]⟩, .slice none 0 0, .int .i64 0] 49) := hid (by
    rw [hW, hb3]
    have h2 := Blk.new ((w.alloc (.cells #[.int .i64 2, .int .i64 o.num, .string o.tn, .string o.ar, .string o.en, .string o.dt] 24)).alloc (.cells #[.int .i64 0, .int .i64 0, .string ⟨#[]⟩, .string ⟨#[]⟩, .string ⟨#[]⟩, .string ⟨#[]⟩, .string ⟨#[]⟩, .slice none 0 0, .int .i64 0] 49)) #[.int .i64 2, .int .i64 o.num, .string o.tn, .string o.ar, .string o.en, .string o.dt, .string ⟨#[]⟩, .slice none 0 0, .int .i64 0] 49
    rwa [show ((w.alloc (.cells #[.int .i64 2, .int .i64 o.num, .string o.tn, .string o.ar, .string o.en, .string o.dt] 24)).alloc (.cells #[.int .i64 0, .int .i64 0, .string ⟨#[]⟩, .string ⟨#[]⟩, .string ⟨#[]⟩, .string ⟨#[]⟩, .string ⟨#[]⟩, .slice none 0 0, .int .i64 0] 49)).heap.size = w.heap.size + 1 + 1 from by simp] at h2)
  have HC := hid hC
  have HF := hid hF
  have HO : Hid (otE o = [.int .i64 2, .int .i64 o.num, .string o.tn, .string o.ar, .string o.en, .string o.dt]) := hid (by unfold otE; rw [hk])
  unfold snV
  rw [HO.out]
  clear hk hC hF
  go_enter Tryz.func17, Tryz.ntmps17
  go_upto_region 2 with fail
  rw [← hb3, ← hb2, ← hb1, ← hW]
  clear hW hb1 hb2 hb3
  have c0 : W.cell? ⟨b1, 0, none⟩ = some (.int .i64 2) := HB1.out.cell 0
  have c1 : W.cell? ⟨b1, 3, none⟩ = some (.string o.ar) := HB1.out.cell 3
  have c2 : W.cell? ⟨b1, 4, none⟩ = some (.string o.en) := HB1.out.cell 4
  have c3 : W.cell? ⟨b1, 5, none⟩ = some (.string o.dt) := HB1.out.cell 5
  have HCC := HC.out W HW.out.1
  go_wp2_with fail
  refine HCC.mono ?_
  rintro e w4 ⟨rfl, hm⟩
  clear HCC c0 c1 c2 c3
  have HM := hid hm
  have HFF : Hid (¬ F b1 ∧ ¬ F b2 ∧ ¬ F b3) := hid ⟨fun f => by have := HF.out _ f; have := HW.out; omega, fun f => by have := HF.out _ f; have := HW.out; omega, fun f => by have := HF.out _ f; have := HW.out; omega⟩
  have HB24 : Hid (Blk w4 b2 #[.int .i64 0, .int .i64 0, .string ⟨#[]⟩, .string ⟨#[]⟩, .string ⟨#[]⟩, .string ⟨#[]⟩, .string ⟨#[]⟩, .slice none 0 0, .int .i64 0] 49) := hid (by obtain ⟨F', a1, a2, a3⟩ := hm; exact HB2.out.kept a3 HFF.out.2.1)
  have HB34 : Hid (Blk w4 b3 #[.int .i64 2, .int .i64 o.num, .string o.tn, .string o.ar, .string o.en, .string o.dt, .string ⟨#[]⟩, .slice none 0 0, .int .i64 0] 49) := hid (by obtain ⟨F', a1, a2, a3⟩ := hm; exact HB3.out.kept a3 HFF.out.2.2)
  clear hm
  obtain ⟨w5, hw5⟩ : ∃ W, W = (w4.setCell ⟨b3, 6, none⟩ (.string dt)).setCell ⟨b3, 8, none⟩ (.int .i64 er) := ⟨_, rfl⟩
  have HB35 : Hid (Blk w5 b3 #[.int .i64 2, .int .i64 o.num, .string o.tn, .string o.ar, .string o.en, .string o.dt, .string dt, .slice none 0 0, .int .i64 er] 49) := hid (by
    rw [hw5]
    have h9 := (HB34.out.set 6 (.string dt)).set 8 (.int .i64 er)
    simpa using h9)
  have HK45 : Hid (Kept (· = b3) w4 w5) := hid (by rw [hw5]; exact ((Kept.refl (· = b3) w4).setCell _ _ (.inl rfl)).setCell _ _ (.inl rfl))
  have HB25 : Hid (Blk w5 b2 #[.int .i64 0, .int .i64 0, .string ⟨#[]⟩, .string ⟨#[]⟩, .string ⟨#[]⟩, .string ⟨#[]⟩, .string ⟨#[]⟩, .slice none 0 0, .int .i64 0] 49) := hid (HB24.out.kept HK45.out (fun e => by have := HW.out; omega))
  have f8 : w4.frozen? ⟨b3, 8, none⟩ = false := HB34.out.frozen 8
  have d8 : w4.cell? ⟨b3, 8, none⟩ = some (.int .i64 0) := HB34.out.cell 8
  have f6 : w4.frozen? ⟨b3, 6, none⟩ = false := HB34.out.frozen 6
  have d6 : w4.cell? ⟨b3, 6, none⟩ = some (.string ⟨#[]⟩) := HB34.out.cell 6
  have f86 : (w4.setCell ⟨b3, 6, none⟩ (.string dt)).frozen? ⟨b3, 8, none⟩ = false := (HB34.out.set 6 (.string dt)).frozen 8
  go_upto_region 13 with fail
  rw [← hw5]
  clear hw5 f8 d8 f6 d6 f86
  go_wp2_with (first
    | (with_reducible refine at_load 49 72 ?_; refine wpl_load 49 9 _ Tryz.underlying49 rfl Tryz.sizeSn14 rfl HB35.out [.int .i64 2, .int .i64 o.num, .string o.tn, .string o.ar, .string o.en, .string o.dt, .string dt, .slice none 0 0, .int .i64 er] rfl rfl ?_)
    | (with_reducible refine at_store 49 6 ?_; refine wpl_store 49 9 Tryz.sizeSn14 rfl (cells := [.int .i64 2, .int .i64 o.num, .string o.tn, .string o.ar, .string o.en, .string o.dt, .string dt, .slice none 0 0, .int .i64 er]) rfl HB25.out rfl rfl (by simp [Value.oneCell']) ?_; intro w6 hB6 hk6 hs6; have HB6 := hid hB6; have HK6 := hid hk6; clear hB6 hk6 hs6))
  refine bodyPost_ret (v := .agg #[.int .i64 2, .int .i64 o.num, .string o.tn, .string o.ar, .string o.en, .string o.dt, .string dt, .slice none 0 0, .int .i64 er]) (by rw [results_cell15 (p := 6) (ty := 49) rfl 9 _ Tryz.underlying49 rfl Tryz.sizeSn14 _ rfl HB6.out rfl]) rfl ?_
  refine ⟨rfl, HM.out.kept HF.out HW.out.1 (G := fun k => k = b2 ∨ k = b3) ((HK45.out.mono (fun _ _ e => .inr e)).trans (HK6.out.mono (fun _ _ e => .inl e)) (fun _ _ e => e) (fun _ _ e => e)) (fun k e => by have := HW.out; omega)⟩

/-- What a call leaves of a manager, and a row of texts beside it. -/
def MgV (K N : Nat) (B : Int) (w : World) (p : Nat) (F : Nat → Prop) (S : Ts) (v : Value) (L : List Nm) (w' : World) : Prop := ∃ F', Mg K N B w' p S F' ∧ (∀ k, k < w.heap.size → (F' k ↔ F k)) ∧ Kept F w w' ∧ RowE w.heap.size 9 nmV w' v L ∧ ∀ k, v.ownBlock = some k → ¬ F' k

theorem MgV.kept {w1 w2 w3 : World} {v : Value} {L : List Nm} {G : Nat → Prop} (h : MgV K' N B w1 p F S' v L w2) (hF : ∀ k, F k → k < w.heap.size) (h1 : Same w w1) (hk : Kept G w2 w3) (hG : ∀ k, G k → w.heap.size ≤ k ∧ k < w1.heap.size) : MgV K' N B w p F S' v L w3 := by
  obtain ⟨F', a1, a2, a3, a4, a5⟩ := h
  have hs := h1.size
  refine ⟨F', a1.kept hk (fun k f g => ?_), fun k hk => a2 k (by omega), ?_, (a4.kept hk (fun k e g => by have := a4.ge e; have := hG k g; omega)).base hs, a5⟩
  · have h9 := hG k g
    have := hF k ((a2 k h9.2).1 f)
    omega
  · exact Kept.trans (Kept.trans h1 a3 (fun _ _ f => f.elim) (fun _ _ f => f)) hk (fun _ _ f => f) (fun k hk g => by have := hG k g; omega)

/-- What List tells and leaves. -/
noncomputable def lsF (S : Ts) (n : Nb) (ar : Nm) : Int × List Nm × Ts :=
  match S.op n with
  | none => (140, [], S)
  | some (ow, mv) => if sho ar.s = true then (0, seeN mv S.M (bxT ow ar), S.set n (ow, lsM mv (bxT ow ar))) else (143, [], S)

theorem glistV {K : Nat} {S : Ts} (h : Mg K N B w p S F) (n : Nb) (ar : Nm) (hK : K + 1 ≤ 100000) (hB : B ≤ 9223372036854775806) : Calls Tryz.prog 26 #[.pointer (some ⟨p, 0, none⟩), .int .i64 n.v, .string ar.s] w fun e w' => ∃ v, e = .returned (.tuple #[v, .int .i64 (lsF S n ar).1]) ∧ MgV (K + 1) N B w p F (lsF S n ar).2.2 v (lsF S n ar).2.1 w' := by
  have hm := h
  have hlt : ∀ k, F k → k < w.heap.size := fun k f => (h.lt f).2
  have hstill : ∀ w', Same w w' → MgV (K + 1) N B w p F S (.slice none 0 0) [] w' := fun w' hk => by
    obtain ⟨F', b1, b2, b3⟩ := hm.still (Nat.le_succ _) hK hk
    exact ⟨F', b1, b2, b3, RowE.nil, fun k e => by cases e⟩
  obtain ⟨c, τ, h1, h2, h3, h4⟩ := h
  have hop : S.op n = (getK n c.L).map (fun q => (c.ow q, c.mv q)) := by rw [← h3]; rfl
  refine (tlist_any h1 n ar (fun x hx => ⟨(h2.sn x hx).1, by have := (h2.sn x hx).2.1; have := h2.now; omega⟩) hK).mono ?_
  rintro e w' (⟨a1, a2, a3⟩ | ⟨q, a1, a2, a3, a4⟩ | ⟨q, v, a1, a2, a3, a4, a5⟩)
  · have hl : lsF S n ar = (140, [], S) := by unfold lsF; rw [hop, a1]; rfl
    rw [hl]
    exact ⟨_, a2, hstill w' a3⟩
  · have hl : lsF S n ar = (143, [], S) := by unfold lsF; rw [hop, a1]; show (if sho ar.s = true then _ else _) = _; rw [if_neg (by rw [a2]; decide)]
    rw [hl]
    exact ⟨_, a3, hstill w' a4⟩
  · have hl : lsF S n ar = (0, seeN (c.mv q) S.M (boT c q ar), S.set n (c.ow q, lsM (c.mv q) (boT c q ar))) := by unfold lsF; rw [hop, a1]; show (if sho ar.s = true then _ else _) = _; rw [if_pos a2]; rfl
    rw [hl]
    refine ⟨v, a3, F, ⟨c.set q (lsM (c.mv q) (boT c q ar)), τ, a5.1, h2.set (lsM_t _ _), ?_, h4⟩, fun _ _ => Iff.rfl, a5.2.mono (fun k _ e => (h4 k).2 e), a4, fun k e f => ?_⟩
    · have h9 := abs_set h1 a1 (lsM (c.mv q) (boT c q ar))
      rw [h3] at h9
      exact h9
    · have := a4.ge e
      have := hlt k f
      omega

set_option maxRecDepth 100000 in
set_option maxHeartbeats 2000000 in
theorem act_list (o : Ot) (hk : o.kind = 3) (n : Nb) {er : Int} {Ln : List Nm} (hF : ∀ k, F k → k < w.heap.size) (hC : ∀ w', Same w w' → Calls Tryz.prog 26 #[.pointer (some ⟨p, 0, none⟩), .int .i64 n.v, .string o.ar] w' fun e w2 => ∃ v, e = .returned (.tuple #[v, .int .i64 er]) ∧ MgV K' N B w' p F S' v Ln w2) :
    Calls Tryz.prog 17 #[.pointer (some ⟨p, 0, none⟩), .int .i64 n.v, .agg (otE o).toArray] w fun e w' => ∃ v, e = .returned (.agg (snV o ⟨#[]⟩ v er).toArray) ∧ MgV K' N B w p F S' v Ln w' := by
  obtain ⟨b1, hb1⟩ : ∃ b, b = w.heap.size := ⟨_, rfl⟩
  obtain ⟨b2, hb2⟩ : ∃ b, b = w.heap.size + 1 := ⟨_, rfl⟩
  obtain ⟨b3, hb3⟩ : ∃ b, b = w.heap.size + 1 + 1 := ⟨_, rfl⟩
  obtain ⟨W, hW⟩ : ∃ W, W = ((w.alloc (.cells #[.int .i64 3, .int .i64 o.num, .string o.tn, .string o.ar, .string o.en, .string o.dt] 24)).alloc (.cells #[.int .i64 0, .int .i64 0, .string ⟨#[]⟩, .string ⟨#[]⟩, .string ⟨#[]⟩, .string ⟨#[]⟩, .string ⟨#[]⟩, .slice none 0 0, .int .i64 0] 49)).alloc (.cells #[.int .i64 3, .int .i64 o.num, .string o.tn, .string o.ar, .string o.en, .string o.dt, .string ⟨#[]⟩, .slice none 0 0, .int .i64 0] 49) := ⟨_, rfl⟩
  have HW : Hid (Same w W ∧ W.heap.size = w.heap.size + 3 ∧ b1 = w.heap.size ∧ b2 = w.heap.size + 1 ∧ b3 = w.heap.size + 2) := hid ⟨by rw [hW]; exact (((Kept.refl _ w).alloc _).alloc _).alloc _, by rw [hW]; simp, hb1, hb2, hb3⟩
  have HB1 : Hid (Blk W b1 #[.int .i64 3, .int .i64 o.num, .string o.tn, .string o.ar, .string o.en, .string o.dt] 24) := hid (by
    have h1 : Blk (w.alloc (.cells #[.int .i64 3, .int .i64 o.num, .string o.tn, .string o.ar, .string o.en, .string o.dt] 24)) b1 #[.int .i64 3, .int .i64 o.num, .string o.tn, .string o.ar, .string o.en, .string o.dt] 24 := by rw [hb1]; exact Blk.new w _ _
    rw [hW]
    exact h1.kept (F := fun _ => False) (((Kept.refl _ _).alloc _).alloc _) (fun f => f))
  have HB2 : Hid (Blk W b2 #[.int .i64 0, .int .i64 0, .string ⟨#[]⟩, .string ⟨#[]⟩, .string ⟨#[]⟩, .string ⟨#[]⟩, .string ⟨#[]⟩, .slice none 0 0, .int .i64 0] 49) := hid (by
    have h1 : Blk ((w.alloc (.cells #[.int .i64 3, .int .i64 o.num, .string o.tn, .string o.ar, .string o.en, .string o.dt] 24)).alloc (.cells #[.int .i64 0, .int .i64 0, .string ⟨#[]⟩, .string ⟨#[]⟩, .string ⟨#[]⟩, .string ⟨#[]⟩, .string ⟨#[]⟩, .slice none 0 0, .int .i64 0] 49)) b2 #[.int .i64 0, .int .i64 0, .string ⟨#[]⟩, .string ⟨#[]⟩, .string ⟨#[]⟩, .string ⟨#[]⟩, .string ⟨#[]⟩, .slice none 0 0, .int .i64 0] 49 := by
      rw [hb2]
      have h2 := Blk.new (w.alloc (.cells #[.int .i64 3, .int .i64 o.num, .string o.tn, .string o.ar, .string o.en, .string o.dt] 24)) #[.int .i64 0, .int .i64 0, .string ⟨#[]⟩, .string ⟨#[]⟩, .string ⟨#[]⟩, .string ⟨#[]⟩, .string ⟨#[]⟩, .slice none 0 0, .int .i64 0] 49
      rwa [show (w.alloc (.cells #[.int .i64 3, .int .i64 o.num, .string o.tn, .string o.ar, .string o.en, .string o.dt] 24)).heap.size = w.heap.size + 1 from by simp] at h2
    rw [hW]
    exact h1.kept (F := fun _ => False) ((Kept.refl _ _).alloc _) (fun f => f))
  have HB3 : Hid (Blk W b3 #[.int .i64 3, .int .i64 o.num, .string o.tn, .string o.ar, .string o.en, .string o.dt, .string ⟨#[]⟩, .slice none 0 0, .int .i64 0] 49) := hid (by
    rw [hW, hb3]
    have h2 := Blk.new ((w.alloc (.cells #[.int .i64 3, .int .i64 o.num, .string o.tn, .string o.ar, .string o.en, .string o.dt] 24)).alloc (.cells #[.int .i64 0, .int .i64 0, .string ⟨#[]⟩, .string ⟨#[]⟩, .string ⟨#[]⟩, .string ⟨#[]⟩, .string ⟨#[]⟩, .slice none 0 0, .int .i64 0] 49)) #[.int .i64 3, .int .i64 o.num, .string o.tn, .string o.ar, .string o.en, .string o.dt, .string ⟨#[]⟩, .slice none 0 0, .int .i64 0] 49
    rwa [show ((w.alloc (.cells #[.int .i64 3, .int .i64 o.num, .string o.tn, .string o.ar, .string o.en, .string o.dt] 24)).alloc (.cells #[.int .i64 0, .int .i64 0, .string ⟨#[]⟩, .string ⟨#[]⟩, .string ⟨#[]⟩, .string ⟨#[]⟩, .string ⟨#[]⟩, .slice none 0 0, .int .i64 0] 49)).heap.size = w.heap.size + 1 + 1 from by simp] at h2)
  have HC := hid hC
  have HF := hid hF
  have HO : Hid (otE o = [.int .i64 3, .int .i64 o.num, .string o.tn, .string o.ar, .string o.en, .string o.dt]) := hid (by unfold otE; rw [hk])
  unfold snV
  rw [HO.out]
  clear hk hC hF
  go_enter Tryz.func17, Tryz.ntmps17
  go_upto_region 2 with fail
  rw [← hb3, ← hb2, ← hb1, ← hW]
  clear hW hb1 hb2 hb3
  have c0 : W.cell? ⟨b1, 0, none⟩ = some (.int .i64 3) := HB1.out.cell 0
  have c1 : W.cell? ⟨b1, 3, none⟩ = some (.string o.ar) := HB1.out.cell 3
  have c2 : W.cell? ⟨b1, 4, none⟩ = some (.string o.en) := HB1.out.cell 4
  have c3 : W.cell? ⟨b1, 5, none⟩ = some (.string o.dt) := HB1.out.cell 5
  have HCC := HC.out W HW.out.1
  clear c2 c3
  go_wp2_with fail
  refine HCC.mono ?_
  rintro e w4 ⟨v, rfl, hm⟩
  obtain ⟨ao, nl, cp, hv⟩ : ∃ a n c, v = .slice a n c := by
    obtain ⟨_, _, _, _, a4, _⟩ := hm
    obtain ⟨a, c, e, _⟩ := a4.shape
    exact ⟨a, _, c, e⟩
  subst hv
  clear HCC c0 c1
  have HM := hid hm
  have HFF : Hid (¬ F b1 ∧ ¬ F b2 ∧ ¬ F b3) := hid ⟨fun f => by have := HF.out _ f; have := HW.out; omega, fun f => by have := HF.out _ f; have := HW.out; omega, fun f => by have := HF.out _ f; have := HW.out; omega⟩
  have HB24 : Hid (Blk w4 b2 #[.int .i64 0, .int .i64 0, .string ⟨#[]⟩, .string ⟨#[]⟩, .string ⟨#[]⟩, .string ⟨#[]⟩, .string ⟨#[]⟩, .slice none 0 0, .int .i64 0] 49) := hid (by obtain ⟨F', a1, a2, a3, _⟩ := hm; exact HB2.out.kept a3 HFF.out.2.1)
  have HB34 : Hid (Blk w4 b3 #[.int .i64 3, .int .i64 o.num, .string o.tn, .string o.ar, .string o.en, .string o.dt, .string ⟨#[]⟩, .slice none 0 0, .int .i64 0] 49) := hid (by obtain ⟨F', a1, a2, a3, _⟩ := hm; exact HB3.out.kept a3 HFF.out.2.2)
  clear hm
  obtain ⟨w5, hw5⟩ : ∃ W, W = (w4.setCell ⟨b3, 7, none⟩ (.slice ao nl cp)).setCell ⟨b3, 8, none⟩ (.int .i64 er) := ⟨_, rfl⟩
  have HB35 : Hid (Blk w5 b3 #[.int .i64 3, .int .i64 o.num, .string o.tn, .string o.ar, .string o.en, .string o.dt, .string ⟨#[]⟩, .slice ao nl cp, .int .i64 er] 49) := hid (by
    rw [hw5]
    have h9 := (HB34.out.set 7 (.slice ao nl cp)).set 8 (.int .i64 er)
    simpa using h9)
  have HK45 : Hid (Kept (· = b3) w4 w5) := hid (by rw [hw5]; exact ((Kept.refl (· = b3) w4).setCell _ _ (.inl rfl)).setCell _ _ (.inl rfl))
  have HB25 : Hid (Blk w5 b2 #[.int .i64 0, .int .i64 0, .string ⟨#[]⟩, .string ⟨#[]⟩, .string ⟨#[]⟩, .string ⟨#[]⟩, .string ⟨#[]⟩, .slice none 0 0, .int .i64 0] 49) := hid (HB24.out.kept HK45.out (fun e => by have := HW.out; omega))
  have f8 : w4.frozen? ⟨b3, 8, none⟩ = false := HB34.out.frozen 8
  have d8 : w4.cell? ⟨b3, 8, none⟩ = some (.int .i64 0) := HB34.out.cell 8
  have f6 : w4.frozen? ⟨b3, 7, none⟩ = false := HB34.out.frozen 7
  have d6 : w4.cell? ⟨b3, 7, none⟩ = some (.slice none 0 0) := HB34.out.cell 7
  have f86 : (w4.setCell ⟨b3, 7, none⟩ (.slice ao nl cp)).frozen? ⟨b3, 8, none⟩ = false := (HB34.out.set 7 (.slice ao nl cp)).frozen 8
  go_upto_region 13 with fail
  rw [← hw5]
  clear hw5 f8 d8 f6 d6 f86
  go_wp2_with (first
    | (with_reducible refine at_load 49 72 ?_; refine wpl_load 49 9 _ Tryz.underlying49 rfl Tryz.sizeSn14 rfl HB35.out [.int .i64 3, .int .i64 o.num, .string o.tn, .string o.ar, .string o.en, .string o.dt, .string ⟨#[]⟩, .slice ao nl cp, .int .i64 er] rfl rfl ?_)
    | (with_reducible refine at_store 49 6 ?_; refine wpl_store 49 9 Tryz.sizeSn14 rfl (cells := [.int .i64 3, .int .i64 o.num, .string o.tn, .string o.ar, .string o.en, .string o.dt, .string ⟨#[]⟩, .slice ao nl cp, .int .i64 er]) rfl HB25.out rfl rfl (by simp [Value.oneCell']) ?_; intro w6 hB6 hk6 hs6; have HB6 := hid hB6; have HK6 := hid hk6; clear hB6 hk6 hs6))
  refine bodyPost_ret (v := .agg #[.int .i64 3, .int .i64 o.num, .string o.tn, .string o.ar, .string o.en, .string o.dt, .string ⟨#[]⟩, .slice ao nl cp, .int .i64 er]) (by rw [results_cell15 (p := 6) (ty := 49) rfl 9 _ Tryz.underlying49 rfl Tryz.sizeSn14 _ rfl HB6.out rfl]) rfl ?_
  refine ⟨_, rfl, HM.out.kept HF.out HW.out.1 (G := fun k => k = b2 ∨ k = b3) ((HK45.out.mono (fun _ _ e => .inr e)).trans (HK6.out.mono (fun _ _ e => .inl e)) (fun _ _ e => e) (fun _ _ e => e)) (fun k e => by have := HW.out; omega)⟩

set_option maxRecDepth 100000 in
set_option maxHeartbeats 2000000 in
theorem act_none (o : Ot) (hk : (o.kind == 2) = false ∧ (o.kind == 3) = false ∧ (o.kind == 4) = false ∧ (o.kind == 5) = false ∧ (o.kind == 6) = false) (n : Nb) (hF : ∀ k, F k → k < w.heap.size) (hC : ∀ w', Same w w' → MgA K' N B w' p F S' w') :
    Calls Tryz.prog 17 #[.pointer (some ⟨p, 0, none⟩), .int .i64 n.v, .agg (otE o).toArray] w fun e w' => e = .returned (.agg (snV o ⟨#[]⟩ (.slice none 0 0) 0).toArray) ∧ MgA K' N B w p F S' w' := by
  obtain ⟨b1, hb1⟩ : ∃ b, b = w.heap.size := ⟨_, rfl⟩
  obtain ⟨b2, hb2⟩ : ∃ b, b = w.heap.size + 1 := ⟨_, rfl⟩
  obtain ⟨b3, hb3⟩ : ∃ b, b = w.heap.size + 1 + 1 := ⟨_, rfl⟩
  obtain ⟨W, hW⟩ : ∃ W, W = ((w.alloc (.cells #[.int .i64 o.kind, .int .i64 o.num, .string o.tn, .string o.ar, .string o.en, .string o.dt] 24)).alloc (.cells #[.int .i64 0, .int .i64 0, .string ⟨#[]⟩, .string ⟨#[]⟩, .string ⟨#[]⟩, .string ⟨#[]⟩, .string ⟨#[]⟩, .slice none 0 0, .int .i64 0] 49)).alloc (.cells #[.int .i64 o.kind, .int .i64 o.num, .string o.tn, .string o.ar, .string o.en, .string o.dt, .string ⟨#[]⟩, .slice none 0 0, .int .i64 0] 49) := ⟨_, rfl⟩
  have HW : Hid (Same w W ∧ W.heap.size = w.heap.size + 3 ∧ b1 = w.heap.size ∧ b2 = w.heap.size + 1 ∧ b3 = w.heap.size + 2) := hid ⟨by rw [hW]; exact (((Kept.refl _ w).alloc _).alloc _).alloc _, by rw [hW]; simp, hb1, hb2, hb3⟩
  have HB1 : Hid (Blk W b1 #[.int .i64 o.kind, .int .i64 o.num, .string o.tn, .string o.ar, .string o.en, .string o.dt] 24) := hid (by
    have h1 : Blk (w.alloc (.cells #[.int .i64 o.kind, .int .i64 o.num, .string o.tn, .string o.ar, .string o.en, .string o.dt] 24)) b1 #[.int .i64 o.kind, .int .i64 o.num, .string o.tn, .string o.ar, .string o.en, .string o.dt] 24 := by rw [hb1]; exact Blk.new w _ _
    rw [hW]
    exact h1.kept (F := fun _ => False) (((Kept.refl _ _).alloc _).alloc _) (fun f => f))
  have HB2 : Hid (Blk W b2 #[.int .i64 0, .int .i64 0, .string ⟨#[]⟩, .string ⟨#[]⟩, .string ⟨#[]⟩, .string ⟨#[]⟩, .string ⟨#[]⟩, .slice none 0 0, .int .i64 0] 49) := hid (by
    have h1 : Blk ((w.alloc (.cells #[.int .i64 o.kind, .int .i64 o.num, .string o.tn, .string o.ar, .string o.en, .string o.dt] 24)).alloc (.cells #[.int .i64 0, .int .i64 0, .string ⟨#[]⟩, .string ⟨#[]⟩, .string ⟨#[]⟩, .string ⟨#[]⟩, .string ⟨#[]⟩, .slice none 0 0, .int .i64 0] 49)) b2 #[.int .i64 0, .int .i64 0, .string ⟨#[]⟩, .string ⟨#[]⟩, .string ⟨#[]⟩, .string ⟨#[]⟩, .string ⟨#[]⟩, .slice none 0 0, .int .i64 0] 49 := by
      rw [hb2]
      have h2 := Blk.new (w.alloc (.cells #[.int .i64 o.kind, .int .i64 o.num, .string o.tn, .string o.ar, .string o.en, .string o.dt] 24)) #[.int .i64 0, .int .i64 0, .string ⟨#[]⟩, .string ⟨#[]⟩, .string ⟨#[]⟩, .string ⟨#[]⟩, .string ⟨#[]⟩, .slice none 0 0, .int .i64 0] 49
      rwa [show (w.alloc (.cells #[.int .i64 o.kind, .int .i64 o.num, .string o.tn, .string o.ar, .string o.en, .string o.dt] 24)).heap.size = w.heap.size + 1 from by simp] at h2
    rw [hW]
    exact h1.kept (F := fun _ => False) ((Kept.refl _ _).alloc _) (fun f => f))
  have HB3 : Hid (Blk W b3 #[.int .i64 o.kind, .int .i64 o.num, .string o.tn, .string o.ar, .string o.en, .string o.dt, .string ⟨#[]⟩, .slice none 0 0, .int .i64 0] 49) := hid (by
    rw [hW, hb3]
    have h2 := Blk.new ((w.alloc (.cells #[.int .i64 o.kind, .int .i64 o.num, .string o.tn, .string o.ar, .string o.en, .string o.dt] 24)).alloc (.cells #[.int .i64 0, .int .i64 0, .string ⟨#[]⟩, .string ⟨#[]⟩, .string ⟨#[]⟩, .string ⟨#[]⟩, .string ⟨#[]⟩, .slice none 0 0, .int .i64 0] 49)) #[.int .i64 o.kind, .int .i64 o.num, .string o.tn, .string o.ar, .string o.en, .string o.dt, .string ⟨#[]⟩, .slice none 0 0, .int .i64 0] 49
    rwa [show ((w.alloc (.cells #[.int .i64 o.kind, .int .i64 o.num, .string o.tn, .string o.ar, .string o.en, .string o.dt] 24)).alloc (.cells #[.int .i64 0, .int .i64 0, .string ⟨#[]⟩, .string ⟨#[]⟩, .string ⟨#[]⟩, .string ⟨#[]⟩, .string ⟨#[]⟩, .slice none 0 0, .int .i64 0] 49)).heap.size = w.heap.size + 1 + 1 from by simp] at h2)
  have HC := hid hC
  have HF := hid hF
  have HO : Hid (otE o = [.int .i64 o.kind, .int .i64 o.num, .string o.tn, .string o.ar, .string o.en, .string o.dt]) := hid (rfl)
  unfold snV
  rw [HO.out]
  obtain ⟨e2, e3, e4, e5, e6⟩ := hk
  clear hC hF
  go_enter Tryz.func17, Tryz.ntmps17
  go_upto_region 2 with fail
  rw [← hb3, ← hb2, ← hb1, ← hW]
  clear hW hb1 hb2 hb3
  have c0 : W.cell? ⟨b1, 0, none⟩ = some (.int .i64 o.kind) := HB1.out.cell 0
  have HM := hid (HC.out W HW.out.1)
  go_upto_region 13 with fail
  go_wp2_with (first
    | (with_reducible refine at_load 49 72 ?_; refine wpl_load 49 9 _ Tryz.underlying49 rfl Tryz.sizeSn14 rfl HB3.out [.int .i64 o.kind, .int .i64 o.num, .string o.tn, .string o.ar, .string o.en, .string o.dt, .string ⟨#[]⟩, .slice none 0 0, .int .i64 0] rfl rfl ?_)
    | (with_reducible refine at_store 49 6 ?_; refine wpl_store 49 9 Tryz.sizeSn14 rfl (cells := [.int .i64 o.kind, .int .i64 o.num, .string o.tn, .string o.ar, .string o.en, .string o.dt, .string ⟨#[]⟩, .slice none 0 0, .int .i64 0]) rfl HB2.out rfl rfl (by simp [Value.oneCell']) ?_; intro w6 hB6 hk6 hs6; have HB6 := hid hB6; have HK6 := hid hk6; clear hB6 hk6 hs6))
  refine bodyPost_ret (v := .agg #[.int .i64 o.kind, .int .i64 o.num, .string o.tn, .string o.ar, .string o.en, .string o.dt, .string ⟨#[]⟩, .slice none 0 0, .int .i64 0]) (by rw [results_cell15 (p := 6) (ty := 49) rfl 9 _ Tryz.underlying49 rfl Tryz.sizeSn14 _ rfl HB6.out rfl]) rfl ?_
  refine ⟨rfl, HM.out.kept HF.out HW.out.1 (G := fun k => k = b2 ∨ k = b3) (HK6.out.mono (fun _ _ e => .inl e)) (fun k e => by have := HW.out; omega)⟩

end

end Go.Proofs.YtcokedgoibiljaaGreatDoor

/-
  Layer 14's laws: what one call makes of the state; no datum above 8192 bytes.
-/
namespace Go.Proofs.YtcokedgoibiljaaGreatDoor
open Go.RowKit Go.Maps Go.Sort Go.Shelf

/-- No datum above 8192 bytes. -/
structure Sm (S : Ts) : Prop where
  vs : ∀ b n, ∀ v ∈ S.M.V b n, v.data.size ≤ 8192
  st : ∀ n ow mv, S.op n = some (ow, mv) → ∀ k r, mv.st k = some r → r.data.size ≤ 8192

section
variable {S : Ts} {n : Nb} {ow : Nm} {mv m : Mv}

theorem Sm.see (h : Sm S) (hop : S.op n = some (ow, mv)) (k : Ke) : (seeD mv S.M k).size ≤ 8192 := by
  unfold seeD
  cases hs : mv.st k with
  | some r => exact h.st n ow mv hop k r hs
  | none =>
    rcases newV_in (S.M.V k.1 k.2) (max (mv.t + 1) S.M.floor) with e | e
    · show (newV _ _).data.size ≤ _
      rw [e]; exact Nat.zero_le _
    · exact h.vs _ _ _ e

theorem Sm.set (h : Sm S) (hm : ∀ k r, m.st k = some r → r.data.size ≤ 8192) : Sm (S.set n (ow, m)) := by
  refine ⟨h.vs, fun y o2 m2 e => ?_⟩
  have e' : (if y = n then some (ow, m) else S.op y) = some (o2, m2) := e
  by_cases hy : y = n
  · rw [if_pos hy] at e'
    injection e' with e'
    injection e' with e1 e2
    subst e1 e2
    exact hm
  · rw [if_neg hy] at e'
    exact h.st y o2 m2 e'

theorem Sm.beg (h : Sm S) (tn : Nm) : Sm (S.beg n tn) := by
  refine ⟨h.vs, fun y o2 m2 e => ?_⟩
  have e' : (if y = n then some (tn, mv0 (S.M.now - 1)) else S.op y) = some (o2, m2) := e
  by_cases hy : y = n
  · rw [if_pos hy] at e'
    injection e' with e'
    injection e' with e1 e2
    subst e1 e2
    intro k r e
    cases e
  · rw [if_neg hy] at e'
    exact h.st y o2 m2 e'

theorem puts_in (f : Vs) (ws : List Wr) (t : Int) (b : Bx) (n : Nm) (v : Ver) (h : v ∈ putsF f ws t b n) : v ∈ f b n ∨ ∃ x ∈ ws, v = verOf x t := by
  induction ws generalizing f with
  | nil => exact .inl h
  | cons x r ih =>
    rcases ih (putF f x t) h with h9 | ⟨y, hy, e⟩
    · have h8 : v ∈ (if b = x.b ∧ n = x.n then putV (f b n) (verOf x t) else f b n) := h9
      by_cases hb : b = x.b ∧ n = x.n
      · rw [if_pos hb] at h8
        unfold putV at h8
        rcases List.mem_append.1 h8 with h7 | h7
        · exact .inl (List.mem_filter.1 h7).1
        · exact .inr ⟨x, List.mem_cons_self, List.mem_singleton.1 h7⟩
      · rw [if_neg hb] at h8
        exact .inl h8
    · exact .inr ⟨y, List.mem_cons_of_mem _ hy, e⟩

theorem ver_sz (x : Wr) (t : Int) (h : x.data.size ≤ 8192) : (verOf x t).data.size ≤ 8192 := by
  unfold verOf
  split
  · exact h
  · exact Nat.zero_le _

theorem Sm.com (h : Sm S) (xs : List Wr) (hx : ∀ x ∈ xs, x.data.size ≤ 8192) : Sm (S.com xs) := by
  obtain ⟨e1, _, _, e4⟩ := com_op S xs
  refine ⟨fun b n v hv => ?_, fun y o2 m2 e => h.st y o2 m2 (by rw [← e1]; exact e)⟩
  rw [e4] at hv
  by_cases hn : xs = []
  · rw [if_pos hn] at hv; exact h.vs b n v hv
  · rw [if_neg hn] at hv
    rcases puts_in _ _ _ _ _ _ hv with h9 | ⟨x, hx9, rfl⟩
    · exact h.vs b n v h9
    · exact ver_sz x _ (hx x hx9)

theorem Sm.ends (h : Sm S) (mm : Int) : Sm (S.ends n mm) := by
  refine ⟨fun b k v hv => ?_, fun y o2 m2 e => ?_⟩
  · have hv' : v ∈ (prM S.M (mm + 1)).V b k := hv
    unfold prM at hv'
    split at hv'
    · exact h.vs b k v hv'
    · exact h.vs b k v (List.drop_subset _ _ hv')
  · have e' : (if y = n then none else S.op y) = some (o2, m2) := e
    by_cases hy : y = n
    · rw [if_pos hy] at e'; cases e'
    · rw [if_neg hy] at e'; exact h.st y o2 m2 e'
end

def Ot.a (o : Ot) : Nm := ⟨o.ar, o.ok.2.1⟩
def Ot.e (o : Ot) : Nm := ⟨o.en, o.ok.2.2.1⟩

/-- What one call tells and makes of the state. -/
def ActR (S : Ts) (n : Nb) (o : Ot) (dt : ByteArray) (L : List Nm) (er : Int) (S' : Ts) : Prop :=
  (o.kind = 2 ∧ L = [] ∧ S.see n o.a o.e (fun m => .tuple #[.string ⟨#[]⟩, .int .i64 m]) (reaT S.M o.a o.e) = (.tuple #[.string dt, .int .i64 er], S')) ∨
  (o.kind = 3 ∧ dt = ⟨#[]⟩ ∧ lsF S n o.a = (er, L, S')) ∨
  (o.kind = 4 ∧ dt = ⟨#[]⟩ ∧ L = [] ∧ S.stg n o.a o.e (fun ow mv => if 8192 < o.dt.size then (145, mv) else (0, stM mv ⟨(kyT ow o.a o.e).1, (kyT ow o.a o.e).2, true, o.dt, o.ok.2.2.2.1⟩)) = (er, S')) ∨
  (o.kind = 5 ∧ dt = ⟨#[]⟩ ∧ L = [] ∧ S.stg n o.a o.e (fun ow mv => addF mv S.M (kyT ow o.a o.e) o.dt) = (er, S')) ∨
  (o.kind = 6 ∧ dt = ⟨#[]⟩ ∧ L = [] ∧ S.stg n o.a o.e (fun ow mv => (0, stM mv ⟨(kyT ow o.a o.e).1, (kyT ow o.a o.e).2, false, ⟨#[]⟩, by decide⟩)) = (er, S')) ∨
  ((o.kind ≠ 2 ∧ o.kind ≠ 3 ∧ o.kind ≠ 4 ∧ o.kind ≠ 5 ∧ o.kind ≠ 6) ∧ dt = ⟨#[]⟩ ∧ L = [] ∧ er = 0 ∧ S' = S)

section
variable {K N : Nat} {B : Int} {w : World} {p : Nat} {S : Ts} {F : Nat → Prop}

theorem Mg.more (h : Mg K N B w p S F) {K' : Nat} (hK : K ≤ K') (hb : K' ≤ 100000) : Mg K' N B w p S F := by
  obtain ⟨c, τ, h1, h2, h3, h4⟩ := h
  exact ⟨c, τ, h1.more hK hb, h2, h3, h4⟩

theorem MgA.row {w' : World} {K' : Nat} (h : MgA K N B w p F S w') (hK : K ≤ K') (hb : K' ≤ 100000) : MgV K' N B w p F S (.slice none 0 0) [] w' := by
  obtain ⟨F', a1, a2, a3⟩ := h
  exact ⟨F', a1.more hK hb, a2, a3, RowE.nil, fun k e => by cases e⟩

theorem see_ex (S : Ts) (n : Nb) (ar en : Nm) : ∃ dt er, (S.see n ar en (fun m => .tuple #[.string ⟨#[]⟩, .int .i64 m]) (reaT S.M ar en)).1 = .tuple #[.string dt, .int .i64 er] := by
  unfold Ts.see
  cases S.op n with
  | none => exact ⟨_, _, rfl⟩
  | some x =>
    obtain ⟨ow, mv⟩ := x
    show ∃ dt er, (if namT ar en = true then _ else _ : Value × Ts).1 = _
    by_cases h : namT ar en = true
    · rw [if_pos h]
      show ∃ dt er, (if seeT mv S.M (kyT ow ar en) = true then _ else _ : Value) = _
      by_cases h2 : seeT mv S.M (kyT ow ar en) = true
      · rw [if_pos h2]; exact ⟨_, _, rfl⟩
      · rw [if_neg h2]; exact ⟨_, _, rfl⟩
    · rw [if_neg h]; exact ⟨_, _, rfl⟩

theorem act_any (h : Mg K N B w p S F) (hs : Sm S) (hx : Mxl w) (n : Nb) (o : Ot) (hd : o.dt.size ≤ 4611686018427379712) (hB : B ≤ 9223372036854775806) (hK : K + 2 ≤ 100000) :
    Calls Tryz.prog 17 #[.pointer (some ⟨p, 0, none⟩), .int .i64 n.v, .agg (otE o).toArray] w fun e w' => ∃ dt v er S' L, e = .returned (.agg (snV o dt v er).toArray) ∧ ActR S n o dt L er S' ∧ MgV (K + 2) N B w p F S' v L w' := by
  have hF : ∀ k, F k → k < w.heap.size := fun k f => (h.lt f).2
  have hmx : ∀ w', Same w w' → Mxl w' := fun w' hk => hx.kept hk (fun f => f)
  by_cases h2 : o.kind = 2
  · obtain ⟨dt, er, e1⟩ := see_ex S n o.a o.e
    refine (act_read o h2 n (dt := dt) (er := er) hF (fun w' hk => ?_)).mono (fun e w' ⟨a1, a2⟩ => ⟨dt, _, er, _, [], a1, .inl ⟨h2, rfl, Prod.ext e1 rfl⟩, a2.row (Nat.le_succ _) hK⟩)
    have h9 := greadT (h.same hk) n o.a o.e (hmx w' hk) hB (by omega : K + 1 ≤ 100000)
    rw [e1] at h9
    exact h9
  by_cases h3 : o.kind = 3
  · refine (act_list o h3 n hF (fun w' hk => glistV (h.same hk) n o.a (by omega : K + 1 ≤ 100000) hB)).mono ?_
    rintro e w' ⟨v, a1, F', b1, b2⟩
    exact ⟨_, v, _, _, _, a1, .inr (.inl ⟨h3, rfl, rfl⟩), F', b1.more (Nat.le_succ _) hK, b2⟩
  by_cases h4 : o.kind = 4
  · exact (act_put o h4 n hF (fun w' hk => gputT (h.same hk) n o.a o.e o.dt o.ok.2.2.2.1 (hmx w' hk) (by omega : K + 1 ≤ 100000))).mono (fun e w' ⟨a1, a2⟩ => ⟨_, _, _, _, [], a1, .inr (.inr (.inl ⟨h4, rfl, rfl, rfl⟩)), a2.row (Nat.le_succ _) hK⟩)
  by_cases h5 : o.kind = 5
  · exact (act_add o h5 n hF (fun w' hk => gaddT (h.same hk) n o.a o.e o.dt (fun ow mv e => by have := hs.see e (kyT ow o.a o.e); omega) (hmx w' hk) hB (by omega : K + 1 + 1 ≤ 100000))).mono (fun e w' ⟨a1, a2⟩ => ⟨_, _, _, _, [], a1, .inr (.inr (.inr (.inl ⟨h5, rfl, rfl, rfl⟩))), a2.row (Nat.le_refl _) hK⟩)
  by_cases h6 : o.kind = 6
  · exact (act_del o h6 n hF (fun w' hk => gdelT (h.same hk) n o.a o.e (hmx w' hk) (by omega : K + 1 ≤ 100000))).mono (fun e w' ⟨a1, a2⟩ => ⟨_, _, _, _, [], a1, .inr (.inr (.inr (.inr (.inl ⟨h6, rfl, rfl, rfl⟩)))), a2.row (Nat.le_succ _) hK⟩)
  · exact (act_none o ⟨beq_false_of_ne h2, beq_false_of_ne h3, beq_false_of_ne h4, beq_false_of_ne h5, beq_false_of_ne h6⟩ n hF (fun w' hk => (h.same hk).still (Nat.le_refl _) (by omega) (Kept.refl _ _))).mono (fun e w' ⟨a1, a2⟩ => ⟨_, _, _, _, [], a1, .inr (.inr (.inr (.inr (.inr ⟨⟨h2, h3, h4, h5, h6⟩, rfl, rfl, rfl, rfl⟩)))), a2.row (by omega) hK⟩)
end

end Go.Proofs.YtcokedgoibiljaaGreatDoor

/-
  Layer 14's laws: what a script's calls keep of a manager.
-/
namespace Go.Proofs.YtcokedgoibiljaaGreatDoor
open Go.RowKit Go.Maps Go.Sort Go.Shelf

/-- Rising writes whose keys stand in a list are no more than it has. -/
theorem ris_len : ∀ (ys : List Wr) (ks : List Ke), ys.Pairwise ltW → (∀ r ∈ ys, keO r ∈ ks) → ys.length ≤ ks.length
  | [], _, _, _ => Nat.zero_le _
  | r :: ys, ks, hp, hk => by
    have hr := hk r List.mem_cons_self
    have hp' := List.pairwise_cons.1 hp
    have h9 := ris_len ys (ks.erase (keO r)) hp'.2 (fun y hy => (List.mem_erase_of_ne (fun e => by
      have h8 := hp'.1 y hy
      unfold ltW at h8
      rw [e] at h8
      exact ltK_irr _ h8)).2 (hk y (List.mem_cons_of_mem _ hy)))
    rw [List.length_erase_of_mem hr] at h9
    have : 0 < ks.length := List.length_pos_of_mem hr
    rw [List.length_cons]
    omega

/-- What a script keeps: the sizes, the numbers, and of each open transaction the keys that it staged (T: a token for each call of a transaction that is open). -/
structure Jn (S : Ts) (K : Nat) (B : Int) (i : Nat) (T : List Nb) : Prop where
  sm : Sm S
  bg : S.bg ≤ (i : Int)
  bb : B ≤ 1 + (i : Int)
  kk : K + 3 * T.length ≤ 5 * i
  ks : ∀ n ow mv, S.op n = some (ow, mv) → ∃ ks : List Ke, ks.length ≤ T.count n ∧ ∀ k, mv.st k ≠ none → k ∈ ks

section
variable {S S' : Ts} {K : Nat} {B : Int} {i : Nat} {T : List Nb} {n : Nb}

theorem Jn.more (h : Jn S K B i T) {K' : Nat} (hK : K' ≤ K + 5) : Jn S K' B (i + 1) T :=
  ⟨h.sm, by have := h.bg; omega, by have := h.bb; omega, by have := h.kk; omega, h.ks⟩

/-- A transaction's set another one, with at most one key more. -/
theorem Jn.set (h : Jn S K B i T) {ow : Nm} {mv m : Mv} (hop : S.op n = some (ow, mv)) (hs : ∀ k r, m.st k = some r → r.data.size ≤ 8192) {q : Ke} (hq : ∀ k, m.st k ≠ none → k = q ∨ mv.st k ≠ none) : Jn (S.set n (ow, m)) (K + 2) B (i + 1) (n :: T) := by
  refine ⟨h.sm.set hs, by have := h.bg; show S.bg ≤ _; omega, by have := h.bb; omega, by have := h.kk; rw [List.length_cons]; omega, fun y o2 m2 e => ?_⟩
  have e' : (if y = n then some (ow, m) else S.op y) = some (o2, m2) := e
  by_cases hy : y = n
  · rw [if_pos hy] at e'
    injection e' with e'
    injection e' with e1 e2
    subst e1 e2
    subst hy
    obtain ⟨ks, h1, h2⟩ := h.ks y ow mv hop
    refine ⟨q :: ks, by rw [List.count_cons_self, List.length_cons]; omega, fun k hk => ?_⟩
    rcases hq k hk with e | e
    · rw [e]; exact List.mem_cons_self
    · exact List.mem_cons_of_mem _ (h2 k e)
  · rw [if_neg hy] at e'
    obtain ⟨ks, h1, h2⟩ := h.ks y o2 m2 e'
    exact ⟨ks, by rw [List.count_cons_of_ne (fun e => hy e.symm)]; exact h1, h2⟩

theorem stM_st (mv : Mv) (r : Wr) (k : Ke) : (stM mv r).st k = if keO r = k then some r else mv.st k := rfl

theorem Jn.stg (h : Jn S K B i T) {ar en : Nm} {f : Nm → Mv → Int × Mv} (hf : ∀ ow mv, S.op n = some (ow, mv) → (f ow mv).2.st = mv.st ∨ ∃ r : Wr, r.data.size ≤ 8192 ∧ (f ow mv).2.st = fun k => if keO r = k then some r else mv.st k) : ∃ T', Jn (S.stg n ar en f).2 (K + 2) B (i + 1) T' := by
  unfold Ts.stg
  cases hop : S.op n with
  | none => exact ⟨T, h.more (by omega)⟩
  | some x =>
    obtain ⟨ow, mv⟩ := x
    show ∃ T', Jn (if namT ar en = true then _ else _ : Int × Ts).2 _ _ _ _
    by_cases hn : namT ar en = true
    · rw [if_pos hn]
      refine ⟨n :: T, ?_⟩
      rcases hf ow mv hop with e | ⟨r, hr, e⟩
      · exact h.set hop (fun k r e2 => h.sm.st n ow mv hop k r (by rw [← e]; exact e2)) (q := (⟨⟨#[]⟩, ⟨#[]⟩, ⟨Nat.zero_le _, Nat.zero_le _⟩⟩, ⟨⟨#[]⟩, Nat.zero_le _⟩)) (fun k e2 => .inr (by rw [← e]; exact e2))
      · refine h.set hop (q := keO r) (fun k x e2 => ?_) (fun k e2 => ?_)
        · rw [e] at e2
          simp only at e2
          split at e2
          · injection e2 with e2; subst e2; exact hr
          · exact h.sm.st n ow mv hop k x e2
        · rw [e] at e2
          simp only at e2
          split at e2
          · rename_i e3; exact .inl e3.symm
          · exact .inr e2
    · rw [if_neg hn]
      exact ⟨T, h.more (by omega)⟩

theorem Jn.act (h : Jn S K B i T) {o : Ot} {dt : ByteArray} {L : List Nm} {er : Int} (ha : ActR S n o dt L er S') : ∃ T', Jn S' (K + 2) B (i + 1) T' := by
  rcases ha with ⟨_, _, e⟩ | ⟨_, _, e⟩ | ⟨_, _, _, e⟩ | ⟨_, _, _, e⟩ | ⟨_, _, _, e⟩ | ⟨_, _, _, _, e⟩
  · have e2 : (S.see n o.a o.e (fun m => .tuple #[.string ⟨#[]⟩, .int .i64 m]) (reaT S.M o.a o.e)).2 = S' := by rw [e]
    rw [← e2]
    unfold Ts.see
    cases hop : S.op n with
    | none => exact ⟨T, h.more (by omega)⟩
    | some x =>
      obtain ⟨ow, mv⟩ := x
      show ∃ T', Jn (if namT o.a o.e = true then _ else _ : Value × Ts).2 _ _ _ _
      by_cases hn : namT o.a o.e = true
      · rw [if_pos hn]
        exact ⟨n :: T, h.set hop (m := notM mv (kyT ow o.a o.e)) (fun k r e2 => h.sm.st n ow mv hop k r (by rw [← (notM_st mv (kyT ow o.a o.e) k).1]; exact e2)) (q := kyT ow o.a o.e) (fun k e2 => .inr (by rw [← (notM_st mv (kyT ow o.a o.e) k).1]; exact e2))⟩
      · rw [if_neg hn]
        exact ⟨T, h.more (by omega)⟩
  · unfold lsF at e
    cases hop : S.op n with
    | none =>
      rw [hop] at e
      obtain rfl : S = S' := congrArg (fun x => x.2.2) e
      exact ⟨T, h.more (by omega)⟩
    | some x =>
      obtain ⟨ow, mv⟩ := x
      rw [hop] at e
      simp only at e
      split at e
      · have e2 : S.set n (ow, lsM mv (bxT ow o.a)) = S' := congrArg (fun x => x.2.2) e
        rw [← e2]
        exact ⟨n :: T, h.set hop (m := lsM mv (bxT ow o.a)) (fun k r e2 => h.sm.st n ow mv hop k r e2) (q := kyT ow o.a o.e) (fun k e2 => .inr e2)⟩
      · obtain rfl : S = S' := congrArg (fun x => x.2.2) e
        exact ⟨T, h.more (by omega)⟩
  · have e2 := congrArg Prod.snd e
    simp only at e2
    rw [← e2]
    refine h.stg (fun ow mv hop => ?_)
    by_cases hd : 8192 < o.dt.size
    · rw [if_pos hd]; exact .inl rfl
    · rw [if_neg hd]; exact .inr ⟨_, by show o.dt.size ≤ _; omega, rfl⟩
  · have e2 := congrArg Prod.snd e
    simp only at e2
    rw [← e2]
    refine h.stg (fun ow mv hop => ?_)
    unfold addF
    by_cases hd : (seeD mv S.M (kyT ow o.a o.e)).size + o.dt.size ≤ 8192
    · rw [dif_pos hd]
      refine .inr ⟨⟨(kyT ow o.a o.e).1, (kyT ow o.a o.e).2, true, seeD mv S.M (kyT ow o.a o.e) ++ o.dt, by rw [ByteArray.size_append]; unfold maxLen; omega⟩, by show (_ ++ _ : ByteArray).size ≤ _; rw [ByteArray.size_append]; exact hd, ?_⟩
      funext k
      rw [stM_st, (notM_st mv (kyT ow o.a o.e) k).1]
    · rw [dif_neg hd]
      exact .inl (funext fun k => (notM_st mv (kyT ow o.a o.e) k).1)
  · have e2 := congrArg Prod.snd e
    simp only at e2
    rw [← e2]
    exact h.stg (fun ow mv hop => .inr ⟨_, Nat.zero_le _, rfl⟩)
  · rw [e]; exact ⟨T, h.more (by omega)⟩

theorem Jn.beg (h : Jn S K B i T) {tn : Nm} : Jn (S.beg n tn) K B (i + 1) T := by
  refine ⟨h.sm.beg tn, by have := h.bg; show S.bg + 1 ≤ _; omega, by have := h.bb; omega, by have := h.kk; omega, fun y o2 m2 e => ?_⟩
  have e' : (if y = n then some (tn, mv0 (S.M.now - 1)) else S.op y) = some (o2, m2) := e
  by_cases hy : y = n
  · rw [if_pos hy] at e'
    injection e' with e'
    injection e' with e1 e2
    subst e1 e2
    exact ⟨[], Nat.zero_le _, fun k e => absurd rfl e⟩
  · rw [if_neg hy] at e'
    exact h.ks y o2 m2 e'

theorem Jn.xs (h : Jn S K B i T) {t er : Int} {xs : List Wr} (hc : CkT S n t er xs) : xs.length ≤ T.count n ∧ ∀ x ∈ xs, x.data.size ≤ 8192 := by
  rcases hc with ⟨_, _, _, e⟩ | ⟨ow, mv, ys, hop, hst, _, hc⟩
  · subst e; exact ⟨Nat.zero_le _, fun x hx => by cases hx⟩
  · have hy : xs = [] ∨ xs = ys := by
      rcases hc with ⟨_, _, _, e⟩ | ⟨_, _, _, _, e⟩ | ⟨_, _, D, _, ⟨_, _, _, e⟩ | ⟨_, _, _, e⟩⟩
      · exact .inl e
      · exact .inl e
      · exact .inl e
      · exact .inr e
    rcases hy with e | e
    · subst e; exact ⟨Nat.zero_le _, fun x hx => by cases hx⟩
    · subst e
      obtain ⟨ks, h1, h2⟩ := h.ks n ow mv hop
      exact ⟨Nat.le_trans (ris_len xs ks hst.1 (fun r hr => h2 _ (by rw [(hst.2 r).1 hr]; exact fun e => by cases e))) h1, fun x hx => h.sm.st n ow mv hop _ x ((hst.2 x).1 hx)⟩

theorem Jn.com (h : Jn S K B i T) {t er m : Int} {xs : List Wr} (hc : CkT S n t er xs) : Jn ((S.com xs).ends n m) (K + 3 * xs.length) (B + 1) (i + 1) (T.filter (fun x => decide (x ≠ n))) := by
  obtain ⟨h1, h2⟩ := h.xs hc
  obtain ⟨e1, e2, _, _⟩ := com_op S xs
  have hl : (T.filter (fun x => decide (x ≠ n))).length + T.count n = T.length := by
    clear h h1 h2 hc
    induction T with
    | nil => rfl
    | cons x r ih =>
      by_cases e : x = n
      · subst e
        rw [List.filter_cons_of_neg (by simp), List.count_cons_self, List.length_cons]; omega
      · rw [List.filter_cons_of_pos (by simpa using e), List.count_cons_of_ne e, List.length_cons, List.length_cons]; omega
  refine ⟨(h.sm.com xs h2).ends m, ?_, by have := h.bb; omega, by have := h.kk; omega, fun y o2 m2 e => ?_⟩
  · show (S.com xs).bg ≤ _
    rw [e2]
    have := h.bg
    omega
  · have e' : (if y = n then none else (S.com xs).op y) = some (o2, m2) := e
    by_cases hy : y = n
    · rw [if_pos hy] at e'; cases e'
    · rw [if_neg hy, e1] at e'
      obtain ⟨ks, g1, g2⟩ := h.ks y o2 m2 e'
      refine ⟨ks, ?_, g2⟩
      rw [List.count_filter (by simpa using hy)]
      exact g1
end

end Go.Proofs.YtcokedgoibiljaaGreatDoor

/-
  Layer 14's laws: Check in terms of the state; is a script large?
-/
namespace Go.Proofs.YtcokedgoibiljaaGreatDoor
open Go.RowKit Go.Maps Go.Sort Go.Shelf

theorem gcheckT {K N : Nat} {B : Int} {w : World} {p : Nat} {S : Ts} {F : Nat → Prop} (h : Mg K N B w p S F) (n : Nb) (hB : B ≤ 9223372036854775804) : Calls Tryz.prog 23 #[.pointer (some ⟨p, 0, none⟩), .int .i64 n.v] w fun e w' =>
    ∃ (t : Int) (a : Option Addr) (m cap : Nat) (er : Int) (xs : List Wr), e = .returned (.tuple #[.agg #[.int .i64 t, .slice a m cap], .int .i64 er]) ∧ CkT S n t er xs ∧ RowC w.heap.size 65 5 wrE w' (.slice a m cap) xs ∧ Same w w' := by
  obtain ⟨c, τ, h1, h2, h3, h4⟩ := h
  refine (tcheck_any h1 n h2.sn (fun y hy => by have := h2.num y hy; omega) ⟨h2.now.1, by have := h2.now; omega⟩).mono ?_
  rintro e w' ⟨hk, t, a, m, cap, er, xs, e1, e2, e3⟩
  exact ⟨t, a, m, cap, er, xs, e1, ckt_of h3 e2, e3, hk⟩

set_option maxRecDepth 100000 in
set_option maxHeartbeats 1000000 in
theorem large14 (w : World) (a : Option Addr) (n cap : Nat) (hn : n ≤ 4611686018427387904) : Calls Tryz.prog 8 #[.slice none 0 0, .slice a n cap] w fun e w' => e = .returned (.bool (decide (4096 < n))) ∧ Same w w' := by
  have HN := hid hn
  have hw : IntKind.i64.wrap (0 + (n : Int)) = (n : Int) := by have := HN.out; rw [IntKind.wrap_i64]; omega
  have hw2 : IntKind.i64.wrap (n : Int) = (n : Int) := by have := HN.out; rw [IntKind.wrap_i64]; omega
  clear hn
  go_enter Tryz.func8, Tryz.ntmps8
  go_wp2_with fail
  go_loopg [5, 6] 1 (fun q y z wr => y = .int .i64 (n : Int) ∧ z = .int .i64 0 ∧ Hid (Same w wr))
  case atStart => exact ⟨rfl, rfl, hid (Kept.refl _ _)⟩
  case round =>
    obtain ⟨rfl, rfl, HS⟩ := hrel
    go_wp2_with fail
    go_ret
    have h9 : decide ((4096 : Int) < (n : Int)) = decide (4096 < n) := decide_eq_decide.2 (by omega)
    refine ⟨?_, HS.out⟩
    rw [← h9]
    rfl

end Go.Proofs.YtcokedgoibiljaaGreatDoor

/-
  Layer 14's laws: scripts that came in; a script's calls, one by one.
-/
namespace Go.Proofs.YtcokedgoibiljaaGreatDoor
open Go.ChangeShapes Go.WideShapes Go.ChangeAt Go.RowKit Go.Deep Go.Maps Go.Sort Go.Shelf

instance : Inhabited Ot := ⟨⟨0, 0, ⟨#[]⟩, ⟨#[]⟩, ⟨#[]⟩, ⟨#[]⟩, Nat.zero_le _, Nat.zero_le _, Nat.zero_le _, Nat.zero_le _, by decide⟩⟩

theorem SrcC.at6 {w : World} {I : Nat → Prop} {ao : Option Addr} {n c : Nat} {xs : List Ot} (h : SrcC 6 otE w I (.slice ao n c) xs) (j : Nat) (hj : j < n) : ∃ b o t, ao = some ⟨b, o, none⟩ ∧ I b ∧ xs[j]? = some t ∧ w.cell? ⟨b, o + j * 6, none⟩ = some (.int .i64 t.kind) ∧ w.cell? ⟨b, o + j * 6 + 1, none⟩ = some (.int .i64 t.num) ∧ w.cell? ⟨b, o + j * 6 + 2, none⟩ = some (.string t.tn) ∧ w.cell? ⟨b, o + j * 6 + 3, none⟩ = some (.string t.ar) ∧ w.cell? ⟨b, o + j * 6 + 4, none⟩ = some (.string t.en) ∧ w.cell? ⟨b, o + j * 6 + 5, none⟩ = some (.string t.dt) := by
  obtain ⟨a', c', e, hl, hc⟩ := h
  injection e with e1 e2 e3
  have hjx : j < xs.length := by omega
  obtain ⟨b, o, h1, h2, h3⟩ := hc (fun e => by rw [e] at hjx; simp at hjx)
  exact ⟨b, o, xs[j], e1.trans h1, h2, List.getElem?_eq_getElem hjx, h3 j hjx 0 (by omega), h3 j hjx 1 (by omega), h3 j hjx 2 (by omega), h3 j hjx 3 (by omega), h3 j hjx 4 (by omega), h3 j hjx 5 (by omega)⟩

def Ot.t (o : Ot) : Nm := ⟨o.tn, o.ok.1⟩
def Ot.n (o : Ot) : Nb := ⟨o.num, o.ok.2.2.2.2⟩

/-- A manager of new memory behind i calls of a script. -/
def Pl (w0 : World) (N p i : Nat) (w : World) : Prop := ∃ K B S T, Ma w0 K N B p S w ∧ Jn S K B i T

section
variable {w0 w : World} {N p i : Nat}

theorem Pl.same (h : Pl w0 N p i w) : Same w0 w := by
  obtain ⟨_, _, _, _, h, _⟩ := h
  exact h.same

theorem Pl.still {w' : World} (h : Pl w0 N p i w) (hk : Same w w') : Pl w0 N p i w' := by
  obtain ⟨K, B, S, T, h1, h2⟩ := h
  exact ⟨K, B, S, T, h1.still hk, h2⟩

theorem pl_new (w : World) : Calls Tryz.prog 13 #[] w fun e w' => ∃ N p, e = .returned (.pointer (some ⟨p, 0, none⟩)) ∧ Pl w N p 0 w' := by
  refine (ma_empty w).mono ?_
  rintro e w' ⟨N, p, h1, h2⟩
  exact ⟨N, p, h1, 0, 1, _, [], h2, ⟨⟨fun b n v hv => (by cases hv), fun n ow mv e => (by cases e)⟩, Int.le_refl _, by omega, by simp, fun n ow mv e => (by cases e)⟩⟩

theorem pl_beg (h : Pl w0 N p i w) (hi : i ≤ 20000) (tn : Nm) : Calls Tryz.prog 15 #[.pointer (some ⟨p, 0, none⟩), .string tn.s] w fun e w' => (∃ a b, e = .returned (.tuple #[.int .i64 a, .int .i64 b])) ∧ Pl w0 N p (i + 1) w' := by
  obtain ⟨K, B, S, T, ⟨⟨F, h1⟩, h2, h3⟩, hj⟩ := h
  refine (gbeginT h1 tn (by have := hj.bg; omega)).mono ?_
  rintro e w' (⟨_, a, b⟩ | ⟨_, _, a, b⟩ | ⟨_, _, nb, _, a, b⟩)
  · exact ⟨⟨_, _, a⟩, K, B, S, T, Ma.next h1 h2 h3 b, hj.more (by omega)⟩
  · exact ⟨⟨_, _, a⟩, K, B, S, T, Ma.next h1 h2 h3 b, hj.more (by omega)⟩
  · exact ⟨⟨_, _, a⟩, K, B, _, T, Ma.next h1 h2 h3 b, hj.beg⟩

theorem pl_com (h : Pl w0 N p i w) (hi : i ≤ 20000) (n : Nb) : Calls Tryz.prog 18 #[.pointer (some ⟨p, 0, none⟩), .int .i64 n.v] w fun e w' => (∃ a b, e = .returned (.tuple #[.int .i64 a, .int .i64 b])) ∧ Pl w0 N p (i + 1) w' := by
  obtain ⟨K, B, S, T, ⟨⟨F, h1⟩, h2, h3⟩, hj⟩ := h
  refine (gcommitT h1 n (by have := hj.bb; omega) (fun t er xs hc => by
    have := (hj.xs hc).1
    have := List.count_le_length (a := n) (l := T)
    have := hj.kk
    omega)).mono ?_
  rintro e w' (⟨_, a, b⟩ | ⟨x, t, er, xs, m, _, b2, b3, _, b5⟩)
  · exact ⟨⟨_, _, a⟩, K, B, S, T, Ma.next h1 h2 h3 b, hj.more (by omega)⟩
  · exact ⟨⟨_, _, b3⟩, _, _, _, _, Ma.next h1 h2 h3 b5, hj.com b2⟩

theorem pl_act (h : Pl w0 N p i w) (hi : i ≤ 19999) (hx : Mxl w0) (n : Nb) (o : Ot) (hd : o.dt.size ≤ 4611686018427379712) : Calls Tryz.prog 17 #[.pointer (some ⟨p, 0, none⟩), .int .i64 n.v, .agg (otE o).toArray] w fun e w' => (∃ dt v er, e = .returned (.agg (snV o dt v er).toArray)) ∧ Pl w0 N p (i + 1) w' := by
  obtain ⟨K, B, S, T, hm, hj⟩ := h
  have hx' := hm.mxl hx
  obtain ⟨⟨F, h1⟩, h2, h3⟩ := hm
  refine (act_any h1 hj.sm hx' n o hd (by have := hj.bb; omega) (by have := hj.kk; omega)).mono ?_
  rintro e w' ⟨dt, v, er, S', L, a1, a2, F', b1, b2, b3, _⟩
  obtain ⟨T', hj'⟩ := hj.act a2
  exact ⟨⟨dt, v, er, a1⟩, _, _, _, T', Ma.next h1 h2 h3 ⟨F', b1, b2, b3⟩, hj'⟩
end

end Go.Proofs.YtcokedgoibiljaaGreatDoor

/-
  Layer 14's laws: a transaction whose calls are the only ones.
-/
namespace Go.Proofs.YtcokedgoibiljaaGreatDoor
open Go.RowKit Go.Maps Go.Sort Go.Shelf

/-- What a tenant's own transaction notes and stages. -/
structure OwnM (tn : Nm) (t : Int) (mv : Mv) : Prop where
  tt : mv.t = t
  key : ∀ k r, mv.st k = some r → keO r = k ∧ k.1.tn = tn.s ∧ namT ⟨k.1.ar, k.1.ok.2⟩ k.2 = true
  sz : ∀ k r, mv.st k = some r → r.data.size ≤ 8192
  gone : ∀ k r, mv.st k = some r → r.there = false → r.data = ⟨#[]⟩

theorem OwnM.new (tn : Nm) (t : Int) : OwnM tn t (mv0 t) := ⟨rfl, fun k r e => (by cases e), fun k r e => (by cases e), fun k r e => (by cases e)⟩

theorem OwnM.like {tn : Nm} {t : Int} {mv m : Mv} (h : OwnM tn t mv) (h1 : m.t = mv.t) (h2 : ∀ k, m.st k = mv.st k) : OwnM tn t m :=
  ⟨h1.trans h.tt, fun k r e => h.key k r (by rw [← h2]; exact e), fun k r e => h.sz k r (by rw [← h2]; exact e), fun k r e => h.gone k r (by rw [← h2]; exact e)⟩

theorem OwnM.stage {tn : Nm} {t : Int} {mv m : Mv} (h : OwnM tn t mv) {ar en : Nm} (hn : namT ar en = true) (r : Wr) (hk : keO r = kyT tn ar en) (hd : r.data.size ≤ 8192) (hg : r.there = false → r.data = ⟨#[]⟩) (h1 : m.t = mv.t) (h2 : ∀ k, m.st k = if keO r = k then some r else mv.st k) : OwnM tn t m := by
  refine ⟨h1.trans h.tt, fun k x e => ?_, fun k x e => ?_, fun k x e => ?_⟩
  · rw [h2] at e
    by_cases hq : keO r = k
    · rw [if_pos hq] at e
      injection e with e
      subst e
      refine ⟨hq, ?_, ?_⟩
      · rw [← hq, hk]; rfl
      · rw [← hq, hk]; exact hn
    · rw [if_neg hq] at e
      exact h.key k x e
  · rw [h2] at e
    by_cases hq : keO r = k
    · rw [if_pos hq] at e
      injection e with e
      subst e
      exact hd
    · rw [if_neg hq] at e
      exact h.sz k x e
  · rw [h2] at e
    by_cases hq : keO r = k
    · rw [if_pos hq] at e
      injection e with e
      subst e
      exact hg
    · rw [if_neg hq] at e
      exact h.gone k x e

theorem set_set14 (S : Ts) (n : Nb) (a b : Nm × Mv) : (S.set n a).set n b = S.set n b := by
  unfold Ts.set
  simp only [Ts.mk.injEq, true_and, and_true]
  funext y
  by_cases h : y = n
  · rw [if_pos h, if_pos h]
  · rw [if_neg h, if_neg h, if_neg h]

theorem set_op14 (S : Ts) (n : Nb) (a : Nm × Mv) : (S.set n a).op n = some a := if_pos rfl

section
variable {S : Ts} {n : Nb} {tn : Nm} {t : Int} {mv : Mv}

theorem own_stg (h : OwnM tn t mv) {ar en : Nm} {f : Nm → Mv → Int × Mv} (hf : namT ar en = true → OwnM tn t (f tn mv).2) : ∃ m, ((S.set n (tn, mv)).stg n ar en f).2 = S.set n (tn, m) ∧ OwnM tn t m := by
  unfold Ts.stg
  rw [set_op14]
  show ∃ m, (if namT ar en = true then _ else _ : Int × Ts).2 = _ ∧ _
  by_cases hn : namT ar en = true
  · rw [if_pos hn]
    exact ⟨_, set_set14 S n _ _, hf hn⟩
  · rw [if_neg hn]
    exact ⟨mv, rfl, h⟩

theorem own_act (h : OwnM tn t mv) {o : Ot} {dt : ByteArray} {L : List Nm} {er : Int} {S' : Ts} (ha : ActR (S.set n (tn, mv)) n o dt L er S') : ∃ m, S' = S.set n (tn, m) ∧ OwnM tn t m := by
  have hnot : ∀ k, OwnM tn t (notM mv k) := fun k => h.like (notM_st mv k k).2 (fun k' => (notM_st mv k k').1)
  rcases ha with ⟨_, _, e⟩ | ⟨_, _, e⟩ | ⟨_, _, _, e⟩ | ⟨_, _, _, e⟩ | ⟨_, _, _, e⟩ | ⟨_, _, _, _, e⟩
  · have e2 := congrArg Prod.snd e
    simp only at e2
    rw [← e2]
    unfold Ts.see
    rw [set_op14]
    show ∃ m, (if namT o.a o.e = true then _ else _ : Value × Ts).2 = _ ∧ _
    by_cases hn : namT o.a o.e = true
    · rw [if_pos hn]
      exact ⟨_, set_set14 S n _ _, hnot _⟩
    · rw [if_neg hn]
      exact ⟨mv, rfl, h⟩
  · unfold lsF at e
    rw [set_op14] at e
    simp only at e
    split at e
    · have e2 := congrArg (fun x => x.2.2) e
      simp only at e2
      rw [← e2]
      exact ⟨_, set_set14 S n _ _, h.like rfl (fun _ => rfl)⟩
    · have e2 := congrArg (fun x => x.2.2) e
      simp only at e2
      rw [← e2]
      exact ⟨mv, rfl, h⟩
  · have e2 := congrArg Prod.snd e
    simp only at e2
    rw [← e2]
    refine own_stg h (fun hn => ?_)
    by_cases hd : 8192 < o.dt.size
    · rw [if_pos hd]; exact h
    · rw [if_neg hd]; exact h.stage hn _ rfl (by show o.dt.size ≤ _; omega) (fun e => by cases e) rfl (fun _ => rfl)
  · have e2 := congrArg Prod.snd e
    simp only at e2
    rw [← e2]
    refine own_stg h (fun hn => ?_)
    unfold addF
    split
    · rename_i hd
      refine (hnot (kyT tn o.a o.e)).stage hn _ rfl ?_ (fun e => by cases e) rfl (fun _ => rfl)
      show (_ ++ _ : ByteArray).size ≤ _
      rw [ByteArray.size_append]
      exact hd
    · exact hnot _
  · have e2 := congrArg Prod.snd e
    simp only at e2
    rw [← e2]
    exact own_stg h (fun hn => h.stage hn _ rfl (Nat.zero_le _) (fun _ => rfl) rfl (fun _ => rfl))
  · exact ⟨mv, e, h⟩
end

end Go.Proofs.YtcokedgoibiljaaGreatDoor

/-
  Layer 14's laws: a transaction alone does not clash; what it wrote is read.
-/
namespace Go.Proofs.YtcokedgoibiljaaGreatDoor
open Go.RowKit Go.Maps Go.Sort Go.Shelf

/-- No commit lies behind its snapshot. -/
theorem own_con {S : Ts} {mv : Mv} (h : mv.t = S.M.now - 1) : S.con mv = false := by
  unfold Ts.con
  have e : S.M.now - 1 - mv.t = 0 := by omega
  rw [e]
  have e2 : S.cl.drop (S.cl.length - (0 : Int).toNat) = [] := by simp
  rw [e2]
  unfold chkP
  rw [if_pos (by rfl)]
  split <;> rfl

/-- What Check says is determinate. -/
theorem ckt_det {S : Ts} {n : Nb} {t er t' er' : Int} {xs xs' : List Wr} (h : CkT S n t er xs) (h' : CkT S n t' er' xs') : t = t' ∧ er = er' ∧ xs = xs' := by
  rcases h with ⟨a, rfl, rfl, rfl⟩ | ⟨ow, mv, ys, a, b, _, c⟩
  · rcases h' with ⟨_, rfl, rfl, rfl⟩ | ⟨ow, mv, ys, a', _⟩
    · exact ⟨rfl, rfl, rfl⟩
    · rw [a] at a'; cases a'
  · rcases h' with ⟨a', _⟩ | ⟨ow', mv', ys', a', b', _, c'⟩
    · rw [a] at a'; cases a'
    · rw [a] at a'
      injection a' with a'
      injection a' with e1 e2
      subst e1 e2
      obtain rfl := b.det b'
      rcases c with ⟨c1, rfl, rfl, rfl⟩ | ⟨c1, c2, rfl, rfl, rfl⟩ | ⟨c1, c2, D, c3, c4⟩
      · rcases c' with ⟨_, rfl, rfl, rfl⟩ | ⟨d1, _⟩ | ⟨d1, _⟩
        · exact ⟨rfl, rfl, rfl⟩
        · exact absurd c1 d1
        · exact absurd c1 d1
      · rcases c' with ⟨d1, _⟩ | ⟨_, _, rfl, rfl, rfl⟩ | ⟨_, d2, _⟩
        · exact absurd d1 c1
        · exact ⟨rfl, rfl, rfl⟩
        · rw [c2] at d2; cases d2
      · rcases c' with ⟨d1, _⟩ | ⟨_, d2, _⟩ | ⟨_, _, D', d3, d4⟩
        · exact absurd d1 c1
        · rw [c2] at d2; cases d2
        · obtain rfl := c3.det d3
          rcases c4 with ⟨f1, rfl, rfl, rfl⟩ | ⟨f1, rfl, rfl, rfl⟩
          · rcases d4 with ⟨_, rfl, rfl, rfl⟩ | ⟨g1, _⟩
            · exact ⟨rfl, rfl, rfl⟩
            · rw [f1] at g1; cases g1
          · rcases d4 with ⟨g1, _⟩ | ⟨_, rfl, rfl, rfl⟩
            · rw [f1] at g1; cases g1
            · exact ⟨rfl, rfl, rfl⟩

/-- What Check says of a transaction alone: no clash; its time is none or the next. -/
theorem own_ckt {S : Ts} {n : Nb} {tn : Nm} {mv : Mv} {t er : Int} {xs : List Wr} (hop : S.op n = some (tn, mv)) (ht : mv.t = S.M.now - 1) (h : CkT S n t er xs) : (er = 0 ∨ er = 145) ∧ ((xs = [] ∧ t = 0) ∨ (xs ≠ [] ∧ er = 0 ∧ t = S.M.now ∧ StW mv xs)) := by
  rcases h with ⟨a, _⟩ | ⟨ow, mv', ys, a, b, _, c⟩
  · rw [hop] at a; cases a
  · rw [hop] at a
    injection a with a
    injection a with e1 e2
    subst e1 e2
    rcases c with ⟨_, rfl, rfl, rfl⟩ | ⟨_, c2, _⟩ | ⟨c1, _, D, _, ⟨_, rfl, rfl, rfl⟩ | ⟨_, rfl, rfl, rfl⟩⟩
    · exact ⟨.inl rfl, .inl ⟨rfl, rfl⟩⟩
    · rw [own_con ht] at c2; cases c2
    · exact ⟨.inr rfl, .inl ⟨rfl, rfl⟩⟩
    · exact ⟨.inl rfl, .inr ⟨c1, rfl, rfl, b⟩⟩

/-- Each write of a rising row is what is newest at its key. -/
theorem puts_at {V : Vs} {t : Int} (h : UpTo V t) (ws : List Wr) (hp : ws.Pairwise ltW) (i : Nat) (hi : i < ws.length) : newV (putsF V ws t ws[i].b ws[i].n) t = verOf ws[i] t := by
  have key : ∀ j, i + 1 ≤ j → j ≤ ws.length → newV (putsF V (ws.take j) t ws[i].b ws[i].n) t = verOf ws[i] t := by
    intro j
    induction j with
    | zero => intro h1; omega
    | succ j ih =>
      intro h1 h2
      by_cases e : j = i
      · subst e; exact puts_hit h ws j hi
      · have hj : j < ws.length := by omega
        rw [puts_miss ws j hj ws[i].b ws[i].n (fun e2 => ?_)]
        · exact ih (by omega) (by omega)
        · have h9 := List.pairwise_iff_getElem.1 hp i j hi hj (by omega)
          unfold ltW at h9
          have e3 : keO ws[i] = keO ws[j] := by unfold keO; rw [e2.1, e2.2]
          rw [e3] at h9
          exact ltK_irr _ h9
  have h9 := key ws.length (by omega) (Nat.le_refl _)
  rwa [List.take_length] at h9

end Go.Proofs.YtcokedgoibiljaaGreatDoor

/-
  Layer 14's laws: what a transaction alone wrote is read behind its commit.
-/
namespace Go.Proofs.YtcokedgoibiljaaGreatDoor
open Go.RowKit Go.Maps Go.Sort Go.Shelf

/-- What Read tells where nothing is staged. -/
theorem rea_vis (M : Mst) (ar en ow : Nm) (mv : Mv) (h : mv.st (kyT ow ar en) = none) : (reaT M ar en ow mv).1 = match visV (M.V (kyT ow ar en).1 (kyT ow ar en).2) (max (mv.t + 1) M.floor) with
    | some d => .tuple #[.string d, .int .i64 0]
    | none => .tuple #[.string ⟨#[]⟩, .int .i64 144] := by
  unfold reaT seeT seeD visV
  rw [h]
  simp only
  split <;> simp_all

section
variable {S : Ts} {n : Nb} {m : Int} {xs : List Wr}

theorem com_now (hx : xs ≠ []) : ((S.com xs).ends n m).M.now = S.M.now + 1 := by
  obtain ⟨_, _, _, e4⟩ := com_op S xs
  show (prM (S.com xs).M (m + 1)).now = _
  rw [e4, if_neg hx]
  unfold prM
  split <;> rfl

theorem com_now0 : ((S.com []).ends n m).M.now = S.M.now := by
  obtain ⟨_, _, _, e4⟩ := com_op S []
  show (prM (S.com []).M (m + 1)).now = _
  rw [e4, if_pos rfl]
  unfold prM
  split <;> rfl

theorem com_floor (hx : xs ≠ []) (hf : S.M.floor ≤ S.M.now) : ((S.com xs).ends n m).M.floor ≤ S.M.now + 1 := by
  obtain ⟨_, _, _, e4⟩ := com_op S xs
  show (prM (S.com xs).M (m + 1)).floor ≤ _
  rw [e4, if_neg hx]
  unfold prM
  split
  · show S.M.floor ≤ _; omega
  · show min (m + 1) (S.M.now + 1) ≤ _; omega

/-- Each write is what is seen at its key from the commit on. -/
theorem own_back (hx : xs ≠ []) (hup : UpTo S.M.V (S.M.now + 1)) (hp : xs.Pairwise ltW) (i : Nat) (hi : i < xs.length) : visV (((S.com xs).ends n m).M.V xs[i].b xs[i].n) (S.M.now + 1) = if xs[i].there then some xs[i].data else none := by
  obtain ⟨_, _, _, e4⟩ := com_op S xs
  have h0 : visV (putsF S.M.V xs (S.M.now + 1) xs[i].b xs[i].n) (S.M.now + 1) = if xs[i].there then some xs[i].data else none := by
    unfold visV
    rw [puts_at hup xs hp i hi]
    unfold verOf
    by_cases e : xs[i].there = true
    · rw [if_pos e, if_pos rfl, if_pos e]
    · rw [if_neg e, if_neg e]; rfl
  show visV ((prM (S.com xs).M (m + 1)).V xs[i].b xs[i].n) _ = _
  rw [e4, if_neg hx]
  unfold prM
  split
  · exact h0
  · show visV (pruV (putsF S.M.V xs (S.M.now + 1) xs[i].b xs[i].n) (min (m + 1) (S.M.now + 1))) _ = _
    rw [visV_prune ((hup.puts xs) _ _).1 (by omega)]
    exact h0
end

/-- A store's versions rise, none later than now. -/
theorem Mg.upTo {K N : Nat} {B : Int} {w : World} {p : Nat} {S : Ts} {F : Nat → Prop} (h : Mg K N B w p S F) : UpTo S.M.V (S.M.now + 1) := by
  obtain ⟨c, τ, h1, _⟩ := h
  exact h1.sto.upTo (by omega)

end Go.Proofs.YtcokedgoibiljaaGreatDoor

/-
  Layer 14's laws: a tenant's own transaction, call by call.
-/
namespace Go.Proofs.YtcokedgoibiljaaGreatDoor
open Go.RowKit Go.Maps Go.Sort Go.Shelf

/-- A manager of new memory in which transaction nb is the tenant's own, and its calls are the only ones behind state S1. -/
def Ow (w0 : World) (N p i : Nat) (nb : Nb) (tn : Nm) (S1 : Ts) (w : World) : Prop := ∃ K B T mv, Ma w0 K N B p (S1.set nb (tn, mv)) w ∧ Jn (S1.set nb (tn, mv)) K B i T ∧ OwnM tn (S1.M.now - 1) mv

section
variable {w0 w : World} {N p i : Nat} {nb : Nb} {tn : Nm} {S1 : Ts}

theorem Ow.same (h : Ow w0 N p i nb tn S1 w) : Same w0 w := by
  obtain ⟨_, _, _, _, h, _⟩ := h
  exact h.same

theorem beg_set (S : Ts) (nb : Nb) (tn : Nm) : (S.beg nb tn).set nb (tn, mv0 (S.M.now - 1)) = S.beg nb tn := by
  unfold Ts.set Ts.beg
  simp only [Ts.mk.injEq, true_and, and_true]
  funext y
  by_cases h : y = nb
  · rw [if_pos h, if_pos h]
  · rw [if_neg h]

theorem ow_beg (h : Pl w0 N p i w) (hi : i ≤ 20000) (tn : Nm) : Calls Tryz.prog 15 #[.pointer (some ⟨p, 0, none⟩), .string tn.s] w fun e w' =>
    (∃ z, z ≠ 0 ∧ e = .returned (.tuple #[.int .i64 0, .int .i64 z]) ∧ Same w0 w') ∨ (∃ nb S1, e = .returned (.tuple #[.int .i64 nb.v, .int .i64 0]) ∧ sho tn.s = true ∧ S1.ln ≤ 256 ∧ Ow w0 N p (i + 1) nb tn S1 w') := by
  obtain ⟨K, B, S, T, ⟨⟨F, h1⟩, h2, h3⟩, hj⟩ := h
  refine (gbeginT h1 tn (by have := hj.bg; omega)).mono ?_
  rintro e w' (⟨_, a, b⟩ | ⟨_, _, a, b⟩ | ⟨s1, s2, nb, hb, a, b⟩)
  · exact .inl ⟨143, by decide, a, (Ma.next h1 h2 h3 b).same⟩
  · exact .inl ⟨141, by decide, a, (Ma.next h1 h2 h3 b).same⟩
  · refine .inr ⟨nb, S.beg nb tn, by rw [hb]; exact a, s1, by show S.ln + 1 ≤ 256; omega, K, B, T, mv0 (S.M.now - 1), ?_, ?_, OwnM.new tn _⟩
    · rw [beg_set]; exact Ma.next h1 h2 h3 b
    · rw [beg_set]; exact hj.beg

theorem ow_act (h : Ow w0 N p i nb tn S1 w) (hi : i ≤ 19999) (hx : Mxl w0) (o : Ot) (hd : o.dt.size ≤ 4611686018427379712) : Calls Tryz.prog 17 #[.pointer (some ⟨p, 0, none⟩), .int .i64 nb.v, .agg (otE o).toArray] w fun e w' => (∃ dt v er, e = .returned (.agg (snV o dt v er).toArray)) ∧ Ow w0 N p (i + 1) nb tn S1 w' := by
  obtain ⟨K, B, T, mv, hm, hj, ho⟩ := h
  have hx' := hm.mxl hx
  obtain ⟨⟨F, h1⟩, h2, h3⟩ := hm
  refine (act_any h1 hj.sm hx' nb o hd (by have := hj.bb; omega) (by have := hj.kk; omega)).mono ?_
  rintro e w' ⟨dt, v, er, S', L, a1, a2, F', b1, b2, b3, _⟩
  obtain ⟨T', hj'⟩ := hj.act a2
  obtain ⟨m, rfl, ho'⟩ := own_act ho a2
  exact ⟨⟨dt, v, er, a1⟩, _, _, T', m, Ma.next h1 h2 h3 ⟨F', b1, b2, b3⟩, hj', ho'⟩
end
/-- What Check, Now, Commit and the second Begin need and tell of an own transaction's state. -/
structure OwE (w0 : World) (K N p : Nat) (B : Int) (nb : Nb) (tn : Nm) (S : Ts) (mv : Mv) (w : World) : Prop where
  ma : Ma w0 K N B p S w
  op : S.op nb = some (tn, mv)
  own : OwnM tn (S.M.now - 1) mv
  bb : B ≤ 30000
  kk : ∀ t er xs, CkT S nb t er xs → K + 3 * xs.length ≤ 60000
  bg : S.bg ≤ 30000
  ln : S.ln ≤ 256

theorem Ow.ends {w0 w : World} {N p i : Nat} {nb : Nb} {tn : Nm} {S1 : Ts} (h : Ow w0 N p i nb tn S1 w) (hl : S1.ln ≤ 256) (hi : i ≤ 9000) : ∃ K B S mv, OwE w0 K N p B nb tn S mv w := by
  obtain ⟨K, B, T, mv, h1, h2, h3⟩ := h
  exact ⟨K, B, _, mv, h1, set_op14 _ _ _, h3, by have := h2.bb; omega, fun t er xs hc => by
    have := (h2.xs hc).1
    have := List.count_le_length (a := nb) (l := T)
    have := h2.kk
    omega, by have := h2.bg; omega, hl⟩

section
variable {w0 w : World} {K N p : Nat} {B : Int} {nb : Nb} {tn : Nm} {S : Ts} {mv : Mv}
end

end Go.Proofs.YtcokedgoibiljaaGreatDoor
