/-
  Of the proof: parts ZsC.
-/
import Derived.Deep.RegionHeld3
import Derived.Test.YtljlmfnbeofmmaaGreatDoorJ3

namespace Go.Proofs.YtljlmfnbeofmmaaGreatDoor
open Go.RowKit

def laidL (fs : List (Nat × Nat)) : List Nat := fs.flatMap (fun p => leOf p.1 p.2)

theorem laidL_take (fs : List (Nat × Nat)) (k : Nat) {p : Nat × Nat} (h : fs[k]? = some p) : laidL (fs.take (k + 1)) = laidL (fs.take k) ++ leOf p.1 p.2 := by
 unfold laidL
 rw [List.take_add_one, h, List.flatMap_append]
 simp

def Flds (w : World) (g : Nat) (fs : List (Nat × Nat)) : Prop := ∀ (k : Nat) (p : Nat × Nat), fs[k]? = some p → w.cell? ⟨g, 2 * k, none⟩ = some (.int .i64 (p.1 : Nat)) ∧ w.cell? ⟨g, 2 * k + 1, none⟩ = some (.int .i64 (p.2 : Nat))

theorem laidL_len (fs : List (Nat × Nat)) (hf : ∀ p ∈ fs, p.2 ≤ 8) (k : Nat) : (laidL (fs.take k)).length ≤ k * 8 := by
 induction k with
 | zero => simp [laidL]
 | succ k ih =>
  cases h : fs[k]? with
  | none =>
   have e : fs.take (k + 1) = fs.take k := by rw [List.take_add_one, h]; simp
   rw [e]; omega
  | some p =>
   rw [laidL_take fs k h, List.length_append, leOf_length]
   have := hf p (List.mem_of_getElem? h)
   omega

set_option maxRecDepth 100000 in
set_option maxHeartbeats 1000000 in
theorem rlaid_any (w : World) (v : Value) (I : Nat → Prop) (cs : List Nat) (g : Nat) (fs : List (Nat × Nat)) (m : Nat) (hm : m = fs.length) (hsrc : Src w I v cs) (hf : Flds w g fs) (hb : ∀ p ∈ fs, p.1 < 9223372036854775808 ∧ p.2 ≤ 8) (h0 : 0 < m) (hm1 : m ≤ 100) (hlen : cs.length ≤ 10000000) (hv : ∃ a n c, v = .slice a n c) :
  Calls Tryz.prog 48 #[v, .slice (some ⟨g, 0, none⟩) (2 * m) (2 * m)] w fun e w' => ∃ v', e = .returned v' ∧ Fresh w w' v' (cs ++ laidL fs) := by
 have HS : Hid (Src w I v cs) := hsrc
 have HF : Hid (Flds w g fs) := hf
 have HB : Hid (∀ p ∈ fs, p.1 < 9223372036854775808 ∧ p.2 ≤ 8) := hb
 have HM : Hid (m = fs.length) := hm
 have HL : Hid (cs.length ≤ 10000000) := hlen
 have HV : Hid (∃ a n c, v = .slice a n c) := hv
 obtain ⟨M2, hM2⟩ : ∃ M, M = 2 * m := ⟨_, rfl⟩
 rw [← hM2]
 have HM2 : Hid (M2 = 2 * m) := hM2
 have hM2b : M2 ≤ 200 := by omega
 clear hsrc hf hb hm hlen hM2 hv
 go_enter Tryz.func48, Tryz.ntmps48
 go_wp2_with fail
 go_loopg [0, 5] m (fun qq z0 z5 wr => ∃ k i : Nat, z5 = .int .i64 (i : Nat) ∧ i ≤ 200 ∧ m - k ≤ qq ∧ Hid (i = 2 * k ∧ k ≤ m) ∧ Hid (Same w wr ∧ (∃ J, Src wr J z0 (cs ++ laidL (fs.take k))) ∧ (0 < k → Fresh w wr z0 (cs ++ laidL (fs.take k))) ∧ ∃ a n c, z0 = .slice a n c))
 case atStart => exact ⟨0, 0, rfl, by omega, by omega, hid ⟨rfl, Nat.zero_le _⟩, hid ⟨Kept.refl _ _, ⟨_, by simpa [laidL] using HS.out⟩, fun h => by omega, HV.out⟩⟩
 case round =>
  obtain ⟨k, i, rfl, hi2, hq, HK, HI⟩ := hrel
  obtain ⟨v0, hv0⟩ : ∃ v, v = u0 := ⟨_, rfl⟩
  rw [← hv0] at HI
  rw [← hv0]
  clear hv0
  obtain ⟨a0, n0, c0, hv0⟩ := HI.out.2.2.2
  subst hv0
  obtain ⟨i1, hi1⟩ : ∃ x, x = i + 1 := ⟨_, rfl⟩
  have hi1I : (i : Int) + 1 = (i1 : Int) := by omega
  have hi1w : IntKind.i64.wrap (i1 : Int) = (i1 : Int) := by rw [IntKind.wrap_i64]; omega
  by_cases hk : k < m
  ·have hlt : decide ((i1 : Int) < (M2 : Int)) = true := by have := HM2.out; have := HK.out; simp; omega
   have hlt' : decide (i1 < M2) = true := by have := HM2.out; have := HK.out; simp; omega
   obtain ⟨p, hp⟩ : ∃ p, fs[k]? = some p := ⟨_, List.getElem?_eq_getElem (by have := HM.out; omega)⟩
   have hpb := HB.out p (List.mem_of_getElem? hp)
   obtain ⟨k0, k1⟩ := HF.out k p hp
   have k0 := HI.out.1.cell k0 (fun f => f)
   have k1 := HI.out.1.cell k1 (fun f => f)
   rw [← HK.out.1] at k0 k1
   rw [← hi1] at k1
   obtain ⟨x, hx⟩ : ∃ x, x = p.1 := ⟨_, rfl⟩
   obtain ⟨n, hn⟩ : ∃ x, x = p.2 := ⟨_, rfl⟩
   rw [← hx] at k0
   rw [← hn] at k1
   rw [← hx, ← hn] at hpb
   have hxw : IntKind.u64.wrap (x : Int) = (x : Int) := by rw [IntKind.wrap_u64]; omega
   have q1 : (0 : Int) ≤ (i : Int) := by omega
   have q2 : (i : Int) < (M2 : Int) := by have := HM2.out; have := HK.out; omega
   have q3 : (0 : Int) ≤ (i1 : Int) := by omega
   have q4 : (i1 : Int) < (M2 : Int) := by have := HM2.out; have := HK.out; omega
   obtain ⟨i2, hi2'⟩ : ∃ x, x = i + 2 := ⟨_, rfl⟩
   have hi2I : (i : Int) + 2 = (i2 : Int) := by omega
   have hi2w : IntKind.i64.wrap (i2 : Int) = (i2 : Int) := by rw [IntKind.wrap_i64]; omega
   have HI2 : Hid (i2 = 2 * (k + 1) ∧ k + 1 ≤ m ∧ i2 ≤ 200) := hid (by have := HK.out; have := HM2.out; omega)
   have HXN : Hid (laidL (fs.take (k + 1)) = laidL (fs.take k) ++ leOf x n) := hid (by rw [hx, hn]; exact laidL_take fs k hp)
   have HPUT : Hid (∀ wx, Same wr wx → Calls Tryz.prog 90 #[.slice a0 n0 c0, .int .u64 (x : Nat), .int .i64 (n : Nat)] wx fun e w' => ∃ v', e = .returned v' ∧ Fresh wx w' v' (cs ++ laidL (fs.take k) ++ leOf x n)) := hid (fun wx hkx => by
    obtain ⟨J, hJ⟩ := HI.out.2.1
    refine rput_any wx _ J (cs ++ laidL (fs.take k)) (hJ.kept hkx (fun _ _ _ f => f)) x n rfl hpb.2 (by omega) ?_
    have := laidL_len fs (fun q hq => (HB.out q hq).2) k
    have := HL.out
    rw [List.length_append]
    omega)
   have hk100 : k < 100 := by omega
   clear hp hx hn hi1 hi2' hpb
   go_wp2_with fail
   go_region_held3 (fun w' => w'.cell? ⟨g, i, none⟩ = some (.int .i64 (x : Nat)) ∧ w'.cell? ⟨g, i1, none⟩ = some (.int .i64 (n : Nat)))
    (first
     | (go_split_ands; exact ⟨hf4.kept.cell (by assumption) (fun f => f), hf4.kept.cell (by assumption) (fun f => f)⟩)
     | go_keep)
    (first | (go_at_call 90; refine (HPUT.out _ (by first | exact (Kept.refl _ _).drew | exact Kept.refl _ _ | exact (Kept.refl _ _).drewN _)).mono ?_; rintro e w4 ⟨v4, rfl, hf4⟩))
   all_goals
    have HN : Hid (Same w w4 ∧ (∃ J, Src w4 J v4 (cs ++ laidL (fs.take (k + 1)))) ∧ (0 < k + 1 → Fresh w w4 v4 (cs ++ laidL (fs.take (k + 1)))) ∧ ∃ a n c, v4 = .slice a n c) := hid (by
     have hsame : Same w w4 := Same.trans HI.out.1 (Same.trans ((Kept.refl _ wr).drew) hf4.kept)
     have hrow : Row w4 v4 (cs ++ laidL (fs.take (k + 1))) := by rw [HXN.out, ← List.append_assoc]; exact hf4.row
     refine ⟨hsame, ⟨_, Src.ofRow hrow⟩, fun _ => ⟨hrow, hsame, fun q e => Nat.le_trans HI.out.1.size (hf4.new q e)⟩, ?_⟩
     obtain ⟨a, c, e, _⟩ := hrow.shape
     exact ⟨a, _, c, e⟩)
    clear hf4
    go_wp2_with fail
    go_roundg (gk - 1)
    case measure => omega
    case rel => exact ⟨k + 1, i2, by go_num, HI2.out.2.2, by omega, hid ⟨HI2.out.1, HI2.out.2.1⟩, HN⟩
  ·have hlt : decide ((i1 : Int) < (M2 : Int)) = false := by have := HM2.out; have := HK.out; simp; omega
   have hlt' : decide (i1 < M2) = false := by have := HM2.out; have := HK.out; simp; omega
   have HE : Hid (k = m) := hid (by have := HK.out; omega)
   clear hk hi1
   go_wp2_with fail
   go_ret
   have h9 := HI.out.2.2.1 (by have := HE.out; omega)
   rw [List.take_of_length_le (by have := HE.out; have := HM.out; omega)] at h9
   exact ⟨_, rfl, h9⟩

end Go.Proofs.YtljlmfnbeofmmaaGreatDoor
