/-
  The program's digest.
-/
import Derived.Test.YtfhfnkhiomahfaaGreatDoorJHm
namespace Go.Proofs.YtfhfnkhiomahfaaGreatDoor
open Go.RowKit

theorem beB_get (x n i : Nat) (h : i < n) : (beB x n).getD i 0 = x / 256 ^ (n - 1 - i) % 256 := by
  induction n generalizing i with
  | zero => omega
  | succ n ih =>
    cases i with
    | zero => simp [beB]
    | succ i =>
      have := ih i (by omega)
      rw [List.getD_eq_getElem?_getD] at this ⊢
      simp only [beB, List.getElem?_cons_succ]
      rw [this]
      congr 3
      omega

theorem digB_get (ws : List Nat) (i : Nat) (h : i < 4 * ws.length) : (digB ws).getD i 0 = ws.getD (i / 4) 0 / 256 ^ (3 - i % 4) % 256 := by
  induction ws generalizing i with
  | nil => simp at h
  | cons x l ih =>
    have hd : digB (x :: l) = beB x 4 ++ digB l := rfl
    have hl := beB_length x 4
    rw [hd]
    by_cases h4 : i < 4
    · rw [List.getD_eq_getElem?_getD, List.getElem?_append_left (by omega), ← List.getD_eq_getElem?_getD, beB_get x 4 i h4, show i / 4 = 0 by omega, show i % 4 = i by omega]
      rfl
    · have h5 := ih (i - 4) (by simp at h; omega)
      rw [List.getD_eq_getElem?_getD, List.getElem?_append_right (by omega), hl, ← List.getD_eq_getElem?_getD, h5, show (i - 4) % 4 = i % 4 by omega, show i / 4 = (i - 4) / 4 + 1 by omega]
      rfl

theorem take_set15 (l : List Nat) (N i : Nat) (hi : i < l.length) (hN : i < N) : (l.take i ++ List.replicate (N - i) 0).set i (l.getD i 0) = l.take (i + 1) ++ List.replicate (N - (i + 1)) 0 := by
  have hl : (l.take i).length = i := by simp; omega
  rw [List.set_append_right _ _ (by omega), hl, show N - i = (N - (i + 1)) + 1 by omega, List.replicate_succ]
  simp only [Nat.sub_self, List.set_cons_zero]
  rw [List.take_succ_eq_append_getElem hi, List.append_assoc, List.singleton_append, List.getD_eq_getElem?_getD, List.getElem?_eq_getElem hi]
  rfl

theorem Tryz.zero32 : (Tryz.prog.info? 86).bind (·.zero) = some (.agg ((List.replicate 32 0).map byteV).toArray) := by kernel_rfl
theorem Tryz.size32 : (Tryz.prog.info? 86).map (·.size) = some 32 := by kernel_rfl

theorem shr_byte (x s k : Nat) (hs : s = 8 * k) : ((x : Int) / 2 ^ s) % 256 = ((x / 256 ^ k % 256 : Nat) : Int) := by
  have e : (256 : Nat) ^ k = 2 ^ s := by rw [hs, Nat.pow_mul]
  rw [e]
  simp

set_option maxRecDepth 100000 in
set_option maxHeartbeats 400000 in
theorem digest_any (w : World) (ws : List Nat) (hw : Wds 8 ws) :
    Calls Tryz.prog 89 #[.agg (ws.map wordV).toArray] w fun e w' => e = .returned (.agg ((digB ws).map byteV).toArray) ∧ Same w w' := by
  have HW : Hid (Wds 8 ws) := hw
  have HDL : Hid ((digB ws).length = 32) := hid (digB_length hw.1)
  clear hw
  go_enter Tryz.func89, Tryz.ntmps89
  go_wp2_with (first
    | (with_reducible refine at_box 125 ?_; refine wpl_box 125 (ws.map wordV).toArray rfl ?_; intro w1 g1 hB1 hk1 hg1 hl1; have HB1 := hid hB1; have HK1 := hid hk1; clear hB1 hk1)
    | (with_reducible refine at_alloc 86 2 ?_; refine wpl_alloc 86 _ Tryz.zero32 ?_; intro w2 g2 hB2 hk2 hg2 hl2; have HB2 := hid hB2; have HK2 := hid hk2; clear hB2 hk2)
    | (with_reducible refine at_alloc 86 3 ?_; refine wpl_alloc 86 _ Tryz.zero32 ?_; intro w3 g3 hB3 hk3 hg3 hl3; have HB3 := hid hB3; have HK3 := hid hk3; clear hB3 hk3))
  have HK13 : Hid (Same w w3) := hid ((HK1.out.trans HK2.out).trans HK3.out)
  have HB13 : Hid (Blk w3 g1 (ws.map wordV).toArray 125) := hid ((HB1.out.kept HK2.out (fun f => f)).kept HK3.out (fun f => f))
  have HB23 : Hid (Blk w3 g2 ((List.replicate 32 0).map byteV).toArray 86) := hid (HB2.out.kept HK3.out (fun f => f))
  have hg13 : g1 < g3 := by have := HK2.out.size; omega
  have hg23 : g2 < g3 := by omega
  have hgw : w.heap.size ≤ g2 := by have := HK1.out.size; omega
  clear HB1 HK1 HB2 HK2 HK3 hl3 hg3 hl2 hg2 hl1 hg1
  obtain ⟨V, hV⟩ : ∃ V : Value, V = .agg (ws.map wordV).toArray := ⟨_, rfl⟩
  rw [← hV]
  clear hV
  go_loopg [4, 5, 6] 32 (fun k _ _ z wr => ∃ i : Nat, i ≤ 32 ∧ 32 - i ≤ k ∧ z = .int .i64 (i : Nat) ∧ Hid (Blk wr g3 (((digB ws).take i ++ List.replicate (32 - i) 0).map byteV).toArray 86) ∧ Hid (Kept (· = g3) w3 wr))
  case atStart => exact ⟨0, by omega, by omega, rfl, HB3, hid (Kept.refl _ _)⟩
  case round =>
    clear HB3
    obtain ⟨i, hi, hik, rfl, HBi, HKi⟩ := hrel
    by_cases hlt : i < 32
    · obtain ⟨q, hq⟩ : ∃ q, q = i / 4 := ⟨_, rfl⟩
      obtain ⟨r, hr⟩ : ∃ r, r = i % 4 := ⟨_, rfl⟩
      obtain ⟨bl, hbl⟩ : ∃ x, x = 3 - r := ⟨_, rfl⟩
      obtain ⟨s, hs⟩ : ∃ s, s = 8 * bl := ⟨_, rfl⟩
      have c1 := (HB13.out.kept HKi.out (by omega)).wcell q (by rw [HW.out.1]; omega)
      have hx2 := HW.out.get q
      obtain ⟨x, hxe⟩ : ∃ x, x = ws.getD q 0 := ⟨_, rfl⟩
      rw [← hxe] at c1 hx2
      have hsb := shr_byte x s bl hs
      have hdg : (digB ws).getD i 0 = x / 256 ^ bl % 256 := by
        rw [digB_get ws i (by rw [HW.out.1]; omega), ← hq, ← hr, ← hbl, hxe]
      obtain ⟨y, hy⟩ : ∃ y, y = x / 256 ^ bl % 256 := ⟨_, rfl⟩
      rw [← hy] at hsb hdg
      have HDG := hid hdg
      have hqi : (i : Int) / 4 = (q : Int) := by omega
      have hri : (i : Int) % 4 = (r : Int) := by omega
      have hbi : 3 - (r : Int) = (bl : Int) := by omega
      have hsi : (bl : Int) * 8 = (s : Int) := by omega
      have hs32 : s < 32 := by omega
      have hq8 : q < 8 := by omega
      have hll : ((digB ws).take i ++ List.replicate (32 - i) 0).length = 32 := by have := HDL.out; simp; omega
      have c2 := HBi.out.bcell i (by omega)
      have f2 := HBi.out.frozen i
      clear hq hr hbl hs hxe hdg hy hll
      go_wp2_with fail
      go_roundg (gk - 1)
      case measure => omega
      case rel =>
        refine ⟨i + 1, by omega, by omega, by go_num, ?_, hid (HKi.out.setCell _ _ (.inl rfl))⟩
        have h9 := HBi.out.bset i ((digB ws).getD i 0)
        rw [take_set15 (digB ws) 32 i (by rw [HDL.out]; exact hlt) hlt, HDG.out] at h9
        exact hid h9
    · have hin : i = 32 := by omega
      subst hin
      rw [show 32 - 32 = 0 from rfl, List.replicate_zero, List.append_nil, List.take_of_length_le (by rw [HDL.out]; exact Nat.le_refl _)] at HBi
      go_wp2_with (first
        | (with_reducible refine at_load 86 23 ?_; refine wpl_load 86 32 _ Tryz.underlying86 rfl Tryz.size32 rfl HBi.out ((digB ws).map byteV) (by simp [HDL.out]) (take_all15 (by simp [HDL.out])) ?_)
        | (with_reducible refine at_store 86 2 ?_; refine wpl_store 86 32 Tryz.size32 rfl (cells := (digB ws).map byteV) rfl (HB23.out.kept HKi.out (by omega)) (by simp) (by simp [HDL.out]) (byteV_one _) ?_; intro w9 hB9 hk9 hs9; have HB9 := hid hB9; have HK9 := hid hk9; clear hB9 hk9 hs9))
      refine bodyPost_ret (results_cell15 rfl 32 _ Tryz.underlying86 rfl Tryz.size32 _ rfl HB9.out (by simp [HDL.out])) rfl ?_
      exact ⟨rfl, (HK13.out.then HKi.out (fun x hx e => by omega)).then HK9.out (fun x hx e => by omega)⟩

end Go.Proofs.YtfhfnkhiomahfaaGreatDoor
