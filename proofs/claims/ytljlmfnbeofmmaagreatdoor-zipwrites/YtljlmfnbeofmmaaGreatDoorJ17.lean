/-
  Of the proof: parts MtF.
-/
import Derived.WalkMore
import Derived.Test.YtljlmfnbeofmmaaGreatDoorJ16

namespace Go.Proofs.YtljlmfnbeofmmaaGreatDoor
open Go.RowKit

def tkV (n d : Nat) : Value := .agg #[.int .u8 0, .int .i64 (n : Nat), .int .i64 (d : Nat)]

set_option maxRecDepth 100000 in
set_option maxHeartbeats 4000000 in
theorem mmatch_none (w : World) (vd : Value) (aa : Option Addr) (na ca at0 : Nat) (h : na ≤ at0) :
  Calls Tryz.prog 151 #[.agg #[vd, .slice aa na ca], .int .i64 (at0 : Nat)] w fun e w' => e = .returned (tkV 0 0) ∧ Same w w' := by
 have g1 : decide (na ≤ at0) = true := by simp; omega
 clear h
 go_enter Tryz.func151, Tryz.ntmps151
 go_wp2_with fail
 go_step3
 go_wp2_with fail
 rw [Exit.noGoto_ret]
 refine bodyPost_ret (v := tkV 0 0) (by simp [results, Tryz.results151, go_sem, tkV]) rfl ?_
 exact ⟨rfl, (((Kept.refl _ w).alloc _).alloc _).alloc _⟩

structure MS (w wr : World) (vd va : Value) (n d : Nat) : Prop where
 b0 : Blk wr w.heap.size #[vd, va] 153
 b1 : Blk wr (w.heap.size + 1) #[.int .u8 0, .int .i64 0, .int .i64 0] 111
 b2 : Blk wr (w.heap.size + 1 + 1) #[.int .u8 0, .int .i64 (n : Nat), .int .i64 (d : Nat)] 111
 same : Same w wr

theorem MS.drewN {w wr : World} {vd va : Value} {n d : Nat} (h : MS w wr vd va n d) (k : Nat) : MS w (wr.drewN k) vd va n d := ⟨h.b0, h.b1, h.b2, h.same.drewN k⟩

theorem MS.start (w : World) (vd va : Value) : MS w (((w.alloc (.cells #[vd, va] 153)).alloc (.cells #[.int .u8 0, .int .i64 0, .int .i64 0] 111)).alloc (.cells #[.int .u8 0, .int .i64 0, .int .i64 0] 111)) vd va 0 0 := by
 have k1 : Same (w.alloc (.cells #[vd, va] 153)) (((w.alloc (.cells #[vd, va] 153)).alloc (.cells #[.int .u8 0, .int .i64 0, .int .i64 0] 111)).alloc (.cells #[.int .u8 0, .int .i64 0, .int .i64 0] 111)) := ((Kept.refl _ _).alloc _).alloc _
 have k2 : Same ((w.alloc (.cells #[vd, va] 153)).alloc (.cells #[.int .u8 0, .int .i64 0, .int .i64 0] 111)) (((w.alloc (.cells #[vd, va] 153)).alloc (.cells #[.int .u8 0, .int .i64 0, .int .i64 0] 111)).alloc (.cells #[.int .u8 0, .int .i64 0, .int .i64 0] 111)) := (Kept.refl _ _).alloc _
 refine ⟨(Blk.new w _ _).kept k1 (fun f => f), ?_, ?_, (((Kept.refl _ w).alloc _).alloc _).alloc _⟩
 ·have := (Blk.new (w.alloc (.cells #[vd, va] 153)) #[.int .u8 0, .int .i64 0, .int .i64 0] 111).kept k2 (fun f => f)
  simpa using this
 ·have := Blk.new ((w.alloc (.cells #[vd, va] 153)).alloc (.cells #[.int .u8 0, .int .i64 0, .int .i64 0] 111)) #[.int .u8 0, .int .i64 0, .int .i64 0] 111
  simpa using this

theorem MS.store {w wr : World} {vd va : Value} {n d : Nat} (h : MS w wr vd va n d) (m e : Nat) :
  MS w (((wr.setCell ⟨w.heap.size + 1 + 1, 0, none⟩ (.int .u8 0)).setCell ⟨w.heap.size + 1 + 1, 1, none⟩ (.int .i64 (m : Nat))).setCell ⟨w.heap.size + 1 + 1, 2, none⟩ (.int .i64 (e : Nat))) vd va m e := by
 have hk : Kept (fun j => j = w.heap.size + 1 + 1) wr (((wr.setCell ⟨w.heap.size + 1 + 1, 0, none⟩ (.int .u8 0)).setCell ⟨w.heap.size + 1 + 1, 1, none⟩ (.int .i64 (m : Nat))).setCell ⟨w.heap.size + 1 + 1, 2, none⟩ (.int .i64 (e : Nat))) :=
  (((Kept.refl (fun j => j = w.heap.size + 1 + 1) wr).setCell _ _ (.inl rfl)).setCell _ _ (.inl rfl)).setCell _ _ (.inl rfl)
 refine ⟨h.b0.kept hk (by omega), h.b1.kept hk (by omega), ?_, Same.then h.same hk (fun x hx e => by omega)⟩
 have := ((h.b2.set 0 (.int .u8 0)).set 1 (.int .i64 (m : Nat))).set 2 (.int .i64 (e : Nat))
 simpa using this

theorem chA_next {data : List Nat} {q i : Nat} (hs : sameB data q i = true) : chA data q < (q : Int) ∧ -1 ≤ chA data q ∧ (0 ≤ chA data q → sameB data (chA data q).toNat i = true) := by
 rcases chA_cases data q with ⟨p, h1, h2, h3, _⟩ | ⟨h1, _⟩
 ·rw [h1]
  refine ⟨by omega, by omega, fun _ => ?_⟩
  rw [Int.toNat_natCast, sameB_trans hs]
  exact h3
 ·rw [h1]
  exact ⟨by omega, by omega, fun h => by omega⟩

theorem MS.answer {w wr : World} {vd va : Value} {n d : Nat} (h : MS w wr vd va n d) (m e : Nat) :
  Blk (((wr.setCell ⟨w.heap.size + 1, 0, none⟩ (.int .u8 0)).setCell ⟨w.heap.size + 1, 1, none⟩ (.int .i64 (m : Nat))).setCell ⟨w.heap.size + 1, 2, none⟩ (.int .i64 (e : Nat))) (w.heap.size + 1) #[.int .u8 0, .int .i64 (m : Nat), .int .i64 (e : Nat)] 111 ∧
  Same w (((wr.setCell ⟨w.heap.size + 1, 0, none⟩ (.int .u8 0)).setCell ⟨w.heap.size + 1, 1, none⟩ (.int .i64 (m : Nat))).setCell ⟨w.heap.size + 1, 2, none⟩ (.int .i64 (e : Nat))) := by
 have hk : Kept (fun j => j = w.heap.size + 1) wr (((wr.setCell ⟨w.heap.size + 1, 0, none⟩ (.int .u8 0)).setCell ⟨w.heap.size + 1, 1, none⟩ (.int .i64 (m : Nat))).setCell ⟨w.heap.size + 1, 2, none⟩ (.int .i64 (e : Nat))) :=
  (((Kept.refl (fun j => j = w.heap.size + 1) wr).setCell _ _ (.inl rfl)).setCell _ _ (.inl rfl)).setCell _ _ (.inl rfl)
 refine ⟨?_, Same.then h.same hk (fun x hx e => by omega)⟩
 have := ((h.b1.set 0 (.int .u8 0)).set 1 (.int .i64 (m : Nat))).set 2 (.int .i64 (e : Nat))
 simpa using this

theorem mlM_begin {data : List Nat} {q i : Nat} (hq : q < i) (hs : sameB data q i = true) (hl : i + 3 ≤ data.length) : mlM data i (i - q) = extM data i (i - q) (258 - 3) 3 := by
 have h := (sameB_iff data q i).1 hs
 refine mlM_from 3 (by decide) (fun j hj => ⟨by omega, ?_⟩)
 match j, hj with
 | 0, _ => rw [show i + 0 - (i - q) = q by omega, Nat.add_zero]; exact h.1.symm
 | 1, _ => rw [show i + 1 - (i - q) = q + 1 by omega]; exact h.2.1.symm
 | 2, _ => rw [show i + 2 - (i - q) = q + 2 by omega]; exact h.2.2.symm

set_option maxRecDepth 100000 in
set_option maxHeartbeats 8000000 in
theorem mmatch_some (w : World) (ad : Option Addr) (L cd : Nat) (I J : Nat → Prop) (data : List Nat) (aa : Option Addr) (na ca at0 : Nat) (hd : Src w I (.slice ad L cd) data) (ha : SrcE intV w J (.slice aa na ca) (chM data)) (hL : data.length = L) (hna : L - 2 = na) (hta : at0 < na) (hlen : L ≤ 20000) :
  Calls Tryz.prog 151 #[.agg #[.slice ad L cd, .slice aa na ca], .int .i64 (at0 : Nat)] w fun e w' => e = .returned (tkV (matM data at0).1 (matM data at0).2) ∧ Same w w' := by
 have g1 : decide (na ≤ at0) = false := by simp; omega
 obtain ⟨b, o, hadr, hcell⟩ : ∃ b o, ad = some ⟨b, o, none⟩ ∧ ∀ j (_ : j < data.length), w.cell? ⟨b, o + j, none⟩ = some (.int .u8 (data[j] : Nat)) := by
  obtain ⟨ao', cap', e1, e2⟩ := hd
  injection e1 with e3 _ _
  subst e3
  obtain ⟨b, o, e4, _, e5⟩ := e2 (by intro e; rw [e] at hL; simp at hL; omega)
  exact ⟨b, o, e4, e5⟩
 subst hadr
 obtain ⟨b', o', hadr, hcella⟩ : ∃ b o, aa = some ⟨b, o, none⟩ ∧ ∀ j, j < na → w.cell? ⟨b, o + j, none⟩ = some (.int .i64 (chA data j)) := by
  obtain ⟨ao', cap', e1, _, e2⟩ := ha
  injection e1 with e3 _ _
  subst e3
  obtain ⟨b, o, e4, _, e5⟩ := e2 (by intro e; have := congrArg List.length e; rw [chM_length] at this; simp at this; omega)
  refine ⟨b, o, e4, fun j hj => ?_⟩
  have h1 : j < (chM data).length := by rw [chM_length]; omega
  have h2 := e5 j h1
  rw [chM_get data j (by omega) h1] at h2
  exact h2
 subst hadr
 have HC : Hid (∀ wr j, Same w wr → j < L → wr.cell? ⟨b, o + j, none⟩ = some (.int .u8 (data.getD j 0 : Nat))) := hid (fun wr j hk hj => by
  have hj2 : j < data.length := by omega
  have := hk.cell (hcell j hj2) (fun f => f)
  rw [this]; simp [List.getD, hj2])
 have HCA : Hid (∀ wr j, Same w wr → j < na → wr.cell? ⟨b', o' + j, none⟩ = some (.int .i64 (chA data j))) := hid (fun wr j hk hj => hk.cell (hcella j hj) (fun f => f))
 obtain ⟨most, hmost⟩ : ∃ m, m = min 258 (L - at0) := ⟨_, rfl⟩
 have hm1 : min (258 : Int) ((L : Int) - (at0 : Int)) = (most : Int) := by omega
 have hm3 : 3 ≤ most ∧ most ≤ 258 ∧ at0 + most ≤ L := by omega
 have HMX : Hid (∀ e, mlM data at0 e ≤ most) := hid (fun e => by rw [hmost, ← hL]; exact mlM_max data at0 e (by omega))
 have HMO : Hid (most = 258 ∨ at0 + most = L) := hid (by omega)
 have HLD : Hid (data.length = L) := hL
 have HNA : Hid (L - 2 = na) := hna
 have hat : at0 < L := by omega
 obtain ⟨W0, hW0⟩ : ∃ W0, W0 = (((w.alloc (.cells #[.slice (some ⟨b, o, none⟩) L cd, .slice (some ⟨b', o', none⟩) na ca] 153)).alloc (.cells #[.int .u8 0, .int .i64 0, .int .i64 0] 111)).alloc (.cells #[.int .u8 0, .int .i64 0, .int .i64 0] 111)) := ⟨_, rfl⟩
 have HMS : Hid (MS w W0 (.slice (some ⟨b, o, none⟩) L cd) (.slice (some ⟨b', o', none⟩) na ca) 0 0) := hid (by rw [hW0]; exact MS.start w _ _)
 have cA := HCA.out (((w.alloc (.cells #[.slice (some ⟨b, o, none⟩) L cd, .slice (some ⟨b', o', none⟩) na ca] 153)).alloc (.cells #[.int .u8 0, .int .i64 0, .int .i64 0] 111)).alloc (.cells #[.int .u8 0, .int .i64 0, .int .i64 0] 111)) at0 ((((Kept.refl _ w).alloc _).alloc _).alloc _) hta
 obtain ⟨f0, hf0⟩ : ∃ f, f = chA data at0 := ⟨_, rfl⟩
 rw [← hf0] at cA
 have HF0 : Hid (f0 = chA data at0) := hf0
 clear hd ha hcell hcella hmost hL hna hf0
 go_enter Tryz.func151, Tryz.ntmps151
 go_wp2_with fail
 go_step3
 go_wp2_with fail
 all_goals
  first
   | (have e6 : (258 : Int) = (most : Int) := by omega
      rw [e6])
   | (have e6 : (L : Int) - (at0 : Int) = (most : Int) := by omega
      rw [e6])
  clear e6 h hm1
  go_step3
  go_wp2_with fail
  rw [← hW0]
  clear hW0 cA g1
  go_loopg [7] (at0 + 1) (fun q zf wr => ∃ (fr : Int) (n d : Nat), zf = .int .i64 fr ∧ (fr + 1).toNat ≤ q ∧ fr < (at0 : Int) ∧ -1 ≤ fr ∧ n < most ∧ d ≤ at0 ∧ Hid (Found data at0 fr n d) ∧ Hid (0 ≤ fr → sameB data fr.toNat at0 = true) ∧ Hid (MS w wr (.slice (some ⟨b, o, none⟩) L cd) (.slice (some ⟨b', o', none⟩) na ca) n d))
  case atStart =>
   rcases chA_cases data at0 with ⟨q, h1, h2, h3, _⟩ | ⟨h1, _⟩
   ·have e := HF0.out.trans h1
    exact ⟨f0, 0, 0, rfl, by omega, by omega, by omega, by omega, by omega, hid (by rw [HF0.out]; exact Found.start), hid (fun _ => by rw [e]; exact h3), HMS⟩
   ·have e := HF0.out.trans h1
    exact ⟨f0, 0, 0, rfl, by omega, by omega, by omega, by omega, by omega, hid (by rw [HF0.out]; exact Found.start), hid (fun _ => by omega), HMS⟩
  case round =>
   obtain ⟨fr, n, d, rfl, hq, hfa, hf1, hnm, hda, HFO, HSA, HM⟩ := hrel
   by_cases hneg : fr = -1
   ·subst hneg
    have HEQ : Hid ((n, d) = matM data at0) := hid HFO.out.done
    have f0 : wr.cell? ⟨w.heap.size + 1 + 1, 0, none⟩ = some (.int .u8 0) := HM.out.b2.cell 0
    have f1 : wr.cell? ⟨w.heap.size + 1 + 1, 1, none⟩ = some (.int .i64 (n : Nat)) := HM.out.b2.cell 1
    have f2 : wr.cell? ⟨w.heap.size + 1 + 1, 2, none⟩ = some (.int .i64 (d : Nat)) := HM.out.b2.cell 2
    have r0 : wr.cell? ⟨w.heap.size + 1, 0, none⟩ = some (.int .u8 0) := HM.out.b1.cell 0
    have r1 : wr.cell? ⟨w.heap.size + 1, 1, none⟩ = some (.int .i64 0) := HM.out.b1.cell 1
    have r2 : wr.cell? ⟨w.heap.size + 1, 2, none⟩ = some (.int .i64 0) := HM.out.b1.cell 2
    have z0 : wr.frozen? ⟨w.heap.size + 1, 0, none⟩ = false := HM.out.b1.frozen 0
    have z1 : wr.frozen? ⟨w.heap.size + 1, 1, none⟩ = false := HM.out.b1.frozen 1
    have z2 : wr.frozen? ⟨w.heap.size + 1, 2, none⟩ = false := HM.out.b1.frozen 2
    have HAN := hid (HM.out.answer n d)
    clear hq hfa hf1
    go_wp2_with fail
    rw [Exit.noGoto_ret]
    have q0 := HAN.out.1.cell 0
    have q1 := HAN.out.1.cell 1
    have q2 := HAN.out.1.cell 2
    have hS := HAN.out.2
    generalize (((wr.setCell ⟨w.heap.size + 1, 0, none⟩ (.int .u8 0)).setCell ⟨w.heap.size + 1, 1, none⟩ (.int .i64 (n : Nat))).setCell ⟨w.heap.size + 1, 2, none⟩ (.int .i64 (d : Nat))) = WF at q0 q1 q2 hS ⊢
    simp at q0 q1 q2
    refine bodyPost_ret (v := tkV n d) (by simp [results, Tryz.results151, go_sem, tkV, q0, q1, q2]) rfl ?_
    exact ⟨by rw [← HEQ.out], hS⟩
   ·obtain ⟨G, hG⟩ : ∃ G, G = gk := ⟨_, rfl⟩
    obtain ⟨q, rfl⟩ : ∃ q : Nat, fr = (q : Int) := ⟨fr.toNat, by omega⟩
    have hqa : q < at0 := by omega
    have hG2 : q + 1 ≤ G := by omega
    have gq : ((q : Int) != -1) = true := by first | (simp; done) | (simp; omega)
    have HSQ : Hid (sameB data q at0 = true) := hid (by have := HSA.out (by omega); simpa using this)
    have HNX := hid (chA_next HSQ.out)
    obtain ⟨p1, hp1⟩ : ∃ p, p = q + n := ⟨_, rfl⟩
    obtain ⟨p2, hp2⟩ : ∃ p, p = at0 + n := ⟨_, rfl⟩
    have a1 : (q : Int) + (n : Int) = (p1 : Int) := by omega
    have a2 : (at0 : Int) + (n : Int) = (p2 : Int) := by omega
    have l1 : p1 < L := by omega
    have l2 : p2 < L := by omega
    have wr1 : IntKind.i64.wrap (p1 : Int) = (p1 : Int) := by rw [IntKind.wrap_i64]; omega
    have wr2 : IntKind.i64.wrap (p2 : Int) = (p2 : Int) := by rw [IntKind.wrap_i64]; omega
    have c1 := HC.out wr p1 HM.out.same l1
    have c2 := HC.out wr p2 HM.out.same l2
    obtain ⟨x1, hx1⟩ : ∃ x, x = data.getD p1 0 := ⟨_, rfl⟩
    obtain ⟨x2, hx2⟩ : ∃ x, x = data.getD p2 0 := ⟨_, rfl⟩
    rw [← hx1] at c1
    rw [← hx2] at c2
    have e0 : wr.cell? ⟨w.heap.size, 0, none⟩ = some (.slice (some ⟨b, o, none⟩) L cd) := HM.out.b0.cell 0
    have e1 : wr.cell? ⟨w.heap.size, 1, none⟩ = some (.slice (some ⟨b', o', none⟩) na ca) := HM.out.b0.cell 1
    have f1 : wr.cell? ⟨w.heap.size + 1 + 1, 1, none⟩ = some (.int .i64 (n : Nat)) := HM.out.b2.cell 1
    have cq := HCA.out wr q HM.out.same (by omega)
    have hqn : q < na := by omega
    obtain ⟨f', hf'⟩ : ∃ f, f = chA data q := ⟨_, rfl⟩
    rw [← hf'] at cq
    have HF' : Hid (f' = chA data q) := hf'
    by_cases hx : x1 = x2
    ·have HMB : Hid (mlM data at0 (at0 - q) = extM data at0 (at0 - q) (258 - 3) 3) := hid (mlM_begin hqa HSQ.out (by rw [HLD.out]; omega))
     have gx : ((x1 : Int) != (x2 : Int)) = false := by simp [hx]
     clear hx hx1 hx2 hp1 hp2 hneg hf1 hfa hq hf'
     go_wp2_with fail
     go_quiet (fail)
     go_wp2_with fail
     go_loopg [8] most (fun k zm wq => ∃ (m : Nat), zm = .int .i64 (m : Nat) ∧ most - m ≤ k ∧ 3 ≤ m ∧ m ≤ most ∧ Hid (mlM data at0 (at0 - q) = extM data at0 (at0 - q) (258 - m) m) ∧ Hid (MS w wq (.slice (some ⟨b, o, none⟩) L cd) (.slice (some ⟨b', o', none⟩) na ca) n d))
     case atStart => exact ⟨3, rfl, by omega, by omega, by omega, HMB, hid (HM.out.drewN _)⟩
     case round =>
      clear HMB HM c1 c2 e0 e1 f1 cq a1 a2 l1 l2 wr1 wr2 gx gq
      obtain ⟨m, rfl, hmk, hm3, hmm, HML, HM⟩ := hrel
      obtain ⟨dd, hdd⟩ : ∃ x, x = at0 - q := ⟨_, rfl⟩
      have hsub : (at0 : Int) - (q : Int) = (dd : Int) := by omega
      have e0 : wr.cell? ⟨w.heap.size, 0, none⟩ = some (.slice (some ⟨b, o, none⟩) L cd) := HM.out.b0.cell 0
      have e1 : wr.cell? ⟨w.heap.size, 1, none⟩ = some (.slice (some ⟨b', o', none⟩) na ca) := HM.out.b0.cell 1
      have f0 : wr.cell? ⟨w.heap.size + 1 + 1, 0, none⟩ = some (.int .u8 0) := HM.out.b2.cell 0
      have f1 : wr.cell? ⟨w.heap.size + 1 + 1, 1, none⟩ = some (.int .i64 (n : Nat)) := HM.out.b2.cell 1
      have f2 : wr.cell? ⟨w.heap.size + 1 + 1, 2, none⟩ = some (.int .i64 (d : Nat)) := HM.out.b2.cell 2
      have y0 : wr.frozen? ⟨w.heap.size + 1 + 1, 0, none⟩ = false := HM.out.b2.frozen 0
      have y1 : wr.frozen? ⟨w.heap.size + 1 + 1, 1, none⟩ = false := HM.out.b2.frozen 1
      have y2 : wr.frozen? ⟨w.heap.size + 1 + 1, 2, none⟩ = false := HM.out.b2.frozen 2
      have HST := hid (HM.out.store m dd)
      obtain ⟨WS, hWS⟩ : ∃ W, W = (((wr.setCell ⟨w.heap.size + 1 + 1, 0, none⟩ (.int .u8 0)).setCell ⟨w.heap.size + 1 + 1, 1, none⟩ (.int .i64 (m : Nat))).setCell ⟨w.heap.size + 1 + 1, 2, none⟩ (.int .i64 (dd : Nat))) := ⟨_, rfl⟩
      by_cases hfull : m = most
      ·have HEQ : Hid ((m, dd) = matM data at0) := hid (by
        rw [hdd]
        refine HFO.out.full hqa HSQ.out ?_ hm3 (by omega) (by rw [hfull]; exact HMX.out)
        rw [HML.out]
        rcases HMO.out with h9 | h9
        ·rw [hfull, h9]; rfl
        ·exact extM_stop (by rw [HLD.out]; omega))
       have gm : ((m : Int) == (most : Int)) = true := by simp [hfull]
       rw [← hWS] at HST
       have f0 : WS.cell? ⟨w.heap.size + 1 + 1, 0, none⟩ = some (.int .u8 0) := HST.out.b2.cell 0
       have f1 : WS.cell? ⟨w.heap.size + 1 + 1, 1, none⟩ = some (.int .i64 (m : Nat)) := HST.out.b2.cell 1
       have f2 : WS.cell? ⟨w.heap.size + 1 + 1, 2, none⟩ = some (.int .i64 (dd : Nat)) := HST.out.b2.cell 2
       have r0 : WS.cell? ⟨w.heap.size + 1, 0, none⟩ = some (.int .u8 0) := HST.out.b1.cell 0
       have r1 : WS.cell? ⟨w.heap.size + 1, 1, none⟩ = some (.int .i64 0) := HST.out.b1.cell 1
       have r2 : WS.cell? ⟨w.heap.size + 1, 2, none⟩ = some (.int .i64 0) := HST.out.b1.cell 2
       have z0 : WS.frozen? ⟨w.heap.size + 1, 0, none⟩ = false := HST.out.b1.frozen 0
       have z1 : WS.frozen? ⟨w.heap.size + 1, 1, none⟩ = false := HST.out.b1.frozen 1
       have z2 : WS.frozen? ⟨w.heap.size + 1, 2, none⟩ = false := HST.out.b1.frozen 2
       have HAN := hid (HST.out.answer m dd)
       clear hfull hmk hdd
       go_upto_region 16 with fail
       rw [← hWS]
       clear hWS
       go_wp2_with fail
       rw [Exit.noGoto_ret]
       have q0 := HAN.out.1.cell 0
       have q1 := HAN.out.1.cell 1
       have q2 := HAN.out.1.cell 2
       have hS := HAN.out.2
       generalize (((WS.setCell ⟨w.heap.size + 1, 0, none⟩ (.int .u8 0)).setCell ⟨w.heap.size + 1, 1, none⟩ (.int .i64 (m : Nat))).setCell ⟨w.heap.size + 1, 2, none⟩ (.int .i64 (dd : Nat))) = WF at q0 q1 q2 hS ⊢
       simp at q0 q1 q2
       refine bodyPost_ret (v := tkV m dd) (by simp [results, Tryz.results151, go_sem, tkV, q0, q1, q2]) rfl ?_
       exact ⟨by rw [← HEQ.out], hS⟩
      ·have gm : ((m : Int) == (most : Int)) = false := by simp; omega
       have hml : m < most := by omega
       obtain ⟨p1, hp1⟩ : ∃ p, p = q + m := ⟨_, rfl⟩
       obtain ⟨p2, hp2⟩ : ∃ p, p = at0 + m := ⟨_, rfl⟩
       have a1 : (q : Int) + (m : Int) = (p1 : Int) := by omega
       have a2 : (at0 : Int) + (m : Int) = (p2 : Int) := by omega
       have l1 : p1 < L := by omega
       have l2 : p2 < L := by omega
       have wr1 : IntKind.i64.wrap (p1 : Int) = (p1 : Int) := by rw [IntKind.wrap_i64]; omega
       have wr2 : IntKind.i64.wrap (p2 : Int) = (p2 : Int) := by rw [IntKind.wrap_i64]; omega
       have c1 := HC.out wr p1 HM.out.same l1
       have c2 := HC.out wr p2 HM.out.same l2
       obtain ⟨y1', hy1'⟩ : ∃ x, x = data.getD p1 0 := ⟨_, rfl⟩
       obtain ⟨y2', hy2'⟩ : ∃ x, x = data.getD p2 0 := ⟨_, rfl⟩
       rw [← hy1'] at c1
       rw [← hy2'] at c2
       have cq := HCA.out wr q HM.out.same (by omega)
       rw [← HF'.out] at cq
       clear hfull hWS
       by_cases hx : y1' = y2'
       ·have HML2 : Hid (mlM data at0 (at0 - q) = extM data at0 (at0 - q) (258 - (m + 1)) (m + 1)) := hid (by
         rw [HML.out, show 258 - m = (258 - (m + 1)) + 1 by omega]
         refine extM_step (by rw [HLD.out]; omega) ?_
         rw [show at0 + m - (at0 - q) = q + m by omega, ← hp1, ← hp2, ← hy1', ← hy2']
         exact hx.symm)
        have gx : ((y1' : Int) != (y2' : Int)) = false := by simp [hx]
        clear hx hy1' hy2' hp1 hp2 hdd
        go_wp2_with fail
        go_quiet (fail)
        go_wp2_with fail
        go_roundg (gk - 1)
        case measure => omega
        case rel => exact ⟨m + 1, by go_num, by omega, by omega, by omega, HML2, hid (HM.out.drewN _)⟩
       ·have HME : Hid (mlM data at0 (at0 - q) = m) := hid (by
         rw [HML.out]
         refine extM_stop (fun h9 => hx ?_)
         have := h9.2
         rw [show at0 + m - (at0 - q) = q + m by omega, ← hp1, ← hp2, ← hy1', ← hy2'] at this
         exact this.symm)
        have gx : ((y1' : Int) != (y2' : Int)) = true := by simp; omega
        clear hx hy1' hy2' hp1 hp2
        by_cases hmore : n < m
        ·have HFN : Hid (Found data at0 (chA data q) m dd) := hid (by
          have := (HFO.out.more hqa HSQ.out (by rw [HME.out]; exact hm3) (by rw [HME.out]; exact hmore)).1
          rw [HME.out, ← hdd] at this
          exact this)
         have gn : decide (n < m) = true := by simp; omega
         have hdd2 : dd ≤ at0 := by omega
         have HSTD : Hid (∀ k, MS w (((wr.drewN k).setCell ⟨w.heap.size + 1 + 1, 0, none⟩ (.int .u8 0)).setCell ⟨w.heap.size + 1 + 1, 1, none⟩ (.int .i64 (m : Nat)) |>.setCell ⟨w.heap.size + 1 + 1, 2, none⟩ (.int .i64 (dd : Nat))) (.slice (some ⟨b, o, none⟩) L cd) (.slice (some ⟨b', o', none⟩) na ca) m dd) := hid (fun k => (HM.out.drewN k).store m dd)
         clear hmore hdd
         go_wp2_with fail
         go_quiet (fail)
         go_upto_region 7 with fail
         have hMSN := HSTD.out nq
         generalize ((((wr.drewN nq).setCell ⟨w.heap.size + 1 + 1, 0, none⟩ (.int .u8 0)).setCell ⟨w.heap.size + 1 + 1, 1, none⟩ (.int .i64 (m : Nat))).setCell ⟨w.heap.size + 1 + 1, 2, none⟩ (.int .i64 (dd : Nat))) = WN at hMSN ⊢
         have HMSN := hid hMSN
         have e1 : WN.cell? ⟨w.heap.size, 1, none⟩ = some (.slice (some ⟨b', o', none⟩) na ca) := hMSN.b0.cell 1
         have cq2 := HCA.out WN q hMSN.same (by omega)
         rw [← HF'.out] at cq2
         clear hMSN HSTD
         go_wp2_with fail
         go_roundg (G - 1)
         case measure => omega
         case rel =>
          have h9 := HNX.out
          exact ⟨f', m, dd, rfl, by rw [HF'.out]; omega, by rw [HF'.out]; omega, by rw [HF'.out]; omega, hml, hdd2, by rw [HF'.out]; exact HFN, by rw [HF'.out]; exact hid h9.2.2, HMSN⟩
        ·have HFN : Hid (Found data at0 (chA data q) n d) := hid (HFO.out.not hqa HSQ.out (by rw [HME.out]; omega))
         have gn : decide (n < m) = false := by simp; omega
         clear hmore hdd
         go_wp2_with fail
         go_quiet (fail)
         go_wp2_with fail
         go_roundg (G - 1)
         case measure => omega
         case rel =>
          have h9 := HNX.out
          exact ⟨f', n, d, rfl, by rw [HF'.out]; omega, by rw [HF'.out]; omega, by rw [HF'.out]; omega, hnm, hda, by rw [HF'.out]; exact HFN, by rw [HF'.out]; exact hid h9.2.2, hid (HM.out.drewN _)⟩
    ·have gx : ((x1 : Int) != (x2 : Int)) = true := by simp; omega
     have HF2 : Hid (Found data at0 (chA data q) n d) := hid (HFO.out.not hqa HSQ.out (mlM_ne (n := n) (by
      rw [show at0 + n - (at0 - q) = q + n by omega, ← hp1, ← hp2, ← hx1, ← hx2]
      exact fun e => hx e.symm)))
     clear hx hx1 hx2 hp1 hp2 hneg hf1 hfa hq hf'
     go_wp2_with fail
     go_quiet (fail)
     go_wp2_with fail
     go_roundg (gk - 1)
     case measure => omega
     case rel =>
      have h9 := HNX.out
      exact ⟨f', n, d, rfl, by rw [HF'.out]; omega, by rw [HF'.out]; omega, by rw [HF'.out]; omega, hnm, hda, by rw [HF'.out]; exact HF2, by rw [HF'.out]; exact hid h9.2.2, hid (HM.out.drewN _)⟩

theorem mmatch_any (w : World) (ad : Option Addr) (L cd : Nat) (I J : Nat → Prop) (data : List Nat) (aa : Option Addr) (na ca at0 : Nat) (hd : Src w I (.slice ad L cd) data) (ha : SrcE intV w J (.slice aa na ca) (chM data)) (hL : data.length = L) (hna : L - 2 = na) (hlen : L ≤ 20000) :
  Calls Tryz.prog 151 #[.agg #[.slice ad L cd, .slice aa na ca], .int .i64 (at0 : Nat)] w fun e w' => e = .returned (tkV (matM data at0).1 (matM data at0).2) ∧ Same w w' := by
 by_cases h : at0 < na
 ·exact mmatch_some w ad L cd I J data aa na ca at0 hd ha hL hna h hlen
 ·rw [matM_short (by omega)]
  exact mmatch_none w _ aa na ca at0 (by omega)

end Go.Proofs.YtljlmfnbeofmmaaGreatDoor
