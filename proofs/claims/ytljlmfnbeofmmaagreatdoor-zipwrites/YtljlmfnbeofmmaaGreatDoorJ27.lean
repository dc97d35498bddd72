/-
  Of the proof: parts LnRep, LnTc.
-/
import Derived.Laws.Bits64b
import Derived.Deep.RegionLaw
import Derived.Test.YtljlmfnbeofmmaaGreatDoorJ13
import Derived.Test.YtljlmfnbeofmmaaGreatDoorJ11
import Derived.Test.YtljlmfnbeofmmaaGreatDoorJ26
import Derived.Test.YtljlmfnbeofmmaaGreatDoorJ10
import Derived.Test.YtljlmfnbeofmmaaGreatDoorJ6
import Derived.Test.YtljlmfnbeofmmaaGreatDoorJ3

namespace Go.Proofs.YtljlmfnbeofmmaaGreatDoor
open Go.RowKit

set_option maxHeartbeats 1000000 in
theorem mul64_one (w : World) (n : Nat) (hn : n ≤ 1000000) :
  Calls Tryz.prog 186 #[.int .u64 1, .int .u64 (n : Nat)] w fun e w' => e = .returned (.tuple #[.int .u64 0, .int .u64 (n : Nat)]) ∧ w' = w := by
 have h1 : bits .and .u64 1 4294967295 = 1 := by decide
 have h2 : bits .and .u64 (n : Int) 4294967295 = (n : Int) := by
  have h := bits_and_u64_nat n 4294967295 (by omega) (by omega)
  have e : n &&& 4294967295 = n % 4294967296 := Nat.and_two_pow_sub_one_eq_mod n 32
  rw [e, Nat.mod_eq_of_lt (by omega)] at h
  exact h
 have h3 : (n : Int) / 4294967296 = 0 := by omega
 have h4 : IntKind.u64.wrap (n : Int) = (n : Int) := by rw [IntKind.wrap_u64]; omega
 have h5 : bits .and .u64 0 4294967295 = 0 := by decide
 go_enter Tryz.func186, Tryz.ntmps186
 go_wp2_with fail
 go_ret2
 exact ⟨rfl, rfl⟩

set_option maxHeartbeats 1000000 in
theorem mul_one (w : World) (n : Nat) (hn : n ≤ 1000000) :
  Calls Tryz.prog 154 #[.int .u64 1, .int .u64 (n : Nat)] w fun e w' => e = .returned (.tuple #[.int .u64 0, .int .u64 (n : Nat)]) ∧ w' = w := by
 have HC := mul64_one w n hn
 go_enter Tryz.func154, Tryz.ntmps154
 go_wp2_with fail
 refine HC.mono ?_
 rintro e w1 ⟨rfl, hw1⟩
 subst hw1
 clear HC
 go_wp2_with fail
 go_ret2
 exact ⟨rfl, rfl⟩

theorem splice_more {α : Type} {enc : α → List Value} {k : Nat} (ok : EncOk enc k) (x y : α) (n m N : Nat) (h : n + m ≤ N) :
  splice ((List.replicate n x ++ List.replicate (N - n) y).flatMap enc) (n * k) ((List.replicate m x).flatMap enc) = (List.replicate (n + m) x ++ List.replicate (N - (n + m)) y).flatMap enc := by
 have e1 : ((List.replicate n x).flatMap enc).length = n * k := by rw [flat_length ok, List.length_replicate]
 have e2 : ((List.replicate m x).flatMap enc).length = m * k := by rw [flat_length ok, List.length_replicate]
 have e3 : List.replicate (N - n) y = List.replicate m y ++ List.replicate (N - (n + m)) y := by rw [List.replicate_append_replicate]; congr 1; omega
 have e4 : ((List.replicate m y).flatMap enc).length = m * k := by rw [flat_length ok, List.length_replicate]
 unfold splice
 rw [List.flatMap_append, e2, List.take_append_of_le_length (by omega), List.take_of_length_le (by omega), List.drop_append, List.drop_eq_nil_of_le (by omega), e1, List.nil_append, Nat.add_sub_cancel_left, e3, List.flatMap_append, ← e4, List.drop_left, ← List.append_assoc, ← List.flatMap_append, List.replicate_append_replicate, ← List.flatMap_append]

theorem flat_rep_take {α : Type} {enc : α → List Value} {k : Nat} (ok : EncOk enc k) (x y : α) (n m N : Nat) (h : m ≤ n) : ((List.replicate n x ++ List.replicate N y).flatMap enc).take (m * k) = (List.replicate m x).flatMap enc := by
 have e1 : List.replicate n x = List.replicate m x ++ List.replicate (n - m) x := by rw [List.replicate_append_replicate]; congr 1; omega
 have e2 : ((List.replicate m x).flatMap enc).length = m * k := by rw [flat_length ok, List.length_replicate]
 rw [e1, List.append_assoc, List.flatMap_append, ← e2, List.take_left]

def natL (n : Nat) : List Value := [natV n]
theorem natL_ok : EncOk natL 1 := ⟨fun _ => rfl, fun x u hu => by simp [natL] at hu; subst hu; rfl, by decide⟩
theorem natL_flat (xs : List Nat) : xs.flatMap natL = xs.map natV := by
 induction xs with
 | nil => rfl
 | cons a r ih => rw [List.flatMap_cons, ih]; rfl

theorem Tryz.infoSt1 : (Tryz.prog.info? 220).map (·.size) = some 2 := by kernel_rfl
theorem Tryz.infoN1 : (Tryz.prog.info? 3).map (·.size) = some 1 := by kernel_rfl

set_option maxRecDepth 100000 in
set_option maxHeartbeats 2000000 in
theorem repeatS_any (w : World) (ad : Addr) (y : Int × Int) (N : Nat) (hx : CellsAt w ad (stC y)) (hN : N ≤ 1000) :
  Calls Tryz.prog 196 #[.slice (some ad) 1 1, .int .i64 (N : Nat)] w fun e w' => ∃ g, e = .returned (.slice (some ⟨g, 0, none⟩) N N) ∧ RowC w.heap.size 220 2 stC w' (.slice (some ⟨g, 0, none⟩) N N) (List.replicate N y) ∧ Same w w' := by
 have HMU := mul_one w N (by omega)
 have HX : Hid (CellsAt w ad (stC y)) := hx
 have hxb : ad.block < w.heap.size := by
  have h0 := hx 0
  have hl := stC_ok.len y
  rw [List.getElem?_eq_getElem (by rw [hl]; decide)] at h0
  have := World.block_lt_of_cell? w _ (h0 _ rfl)
  unfold Addr.add at this
  split at this <;> simpa using this
 have HXB : Hid (ad.block < w.heap.size) := hxb
 have hwN : wrap64 (N : Int) = (N : Int) := by unfold wrap64; omega
 have hwU : IntKind.u64.wrap (N : Int) = (N : Int) := by rw [IntKind.wrap_u64]; omega
 clear hx hxb
 obtain ⟨m, hm⟩ : ∃ m, m = Nat.min 1 N := ⟨_, rfl⟩
 have hm1 : m ≤ 1 := by rw [hm]; exact Nat.min_le_left _ _
 have hmN : m ≤ N := by rw [hm]; exact Nat.min_le_right _ _
 have hm0 : 0 < m ∨ N = 0 := by
  rw [hm]
  rcases Nat.eq_zero_or_pos N with h | h
  ·exact .inr h
  ·exact .inl (Nat.lt_min.2 ⟨by decide, h⟩)
 have HM : Hid (Nat.min 1 N = m) := hid hm.symm
 clear hm
 have HE0 : Hid (((List.replicate m y).flatMap stC).length = m * 2) := hid (by rw [flat_length stC_ok, List.length_replicate])
 have HCS0 : Hid (∀ w2, Same w w2 → 0 < ((List.replicate m y).flatMap stC).length → ∃ a, some ad = some a ∧ CellsAt w2 a ((List.replicate m y).flatMap stC)) := hid (fun w2 hk h => by
  refine ⟨ad, rfl, fun j u hu => hk.cell (HX.out j u ?_) (fun f => f)⟩
  have : m = 1 := by
   rcases Nat.eq_zero_or_pos m with e | e
   ·subst e; simp at h
   ·omega
  subst this
  simpa using hu)
 go_enter Tryz.func196, Tryz.ntmps196
 go_wp2_with fail
 refine HMU.mono ?_
 rintro e w1 ⟨rfl, hw1⟩
 subst hw1
 clear HMU
 go_wp2_with (first | (at_make; refine wpList_make_c _ stC 2 stC_ok (0, 0) w1.heap.size 172 220 (.agg #[.int .i64 0, .int .i64 0]) 16 Tryz.underlying172 Tryz.infoSt rfl (by decide) rfl _ _ rfl _ _ _ _ N rfl rfl rfl rfl (by omega) (Nat.le_refl _) ?_; intro w2 hr2 hg2 hs2; have HR2 : Hid (Raw w2 w1.heap.size 220 ((List.replicate N (0, 0)).flatMap stC)) := hid hr2.raw; have HK2 : Hid (Same w1 w2) := hid ((Kept.refl _ w1).grown hg2 (fun j e => by cases e)); clear hr2 hg2) | (with_reducible refine atCopy ?_; refine wpList_copy_k _ rfl (.tmp 31) (.tmp 32) 172 172 rfl 220 2 Tryz.underlying172 Tryz.infoSt1 w1.heap.size 0 N N (some ad) 1 1 rfl rfl _ 220 HR2.out ((List.replicate m y).flatMap stC) (by rw [HM.out]; exact HE0.out) (HCS0.out _ HK2.out) (by decide) (by rw [HE0.out, flat_length stC_ok, List.length_replicate, Nat.zero_add]; exact Nat.mul_le_mul_right _ hmN) (flat_one stC_ok _) m HM.out ?_; intro w3 hr3 hg3; have HR3 : Hid (Raw w3 w1.heap.size 220 ((List.replicate m y ++ List.replicate (N - m) (0, 0)).flatMap stC)) := hid (by have h := splice_more stC_ok y (0, 0) 0 m N (by omega); simp only [List.replicate_zero, List.nil_append, Nat.sub_zero, Nat.zero_mul, Nat.zero_add] at h; rw [← h]; exact hr3); have HK3 : Hid (Same w1 w3) := hid (HK2.out.grown hg3 (fun j e => .inr (by injection e with e; omega))); clear hr3 hg3))
 go_loopg [8] N (fun q z wr => ∃ (n : Nat), N - n ≤ q ∧ n ≤ N ∧ (0 < n ∨ N = 0) ∧ z = .int .i64 (n : Nat) ∧ Hid (Raw wr w1.heap.size 220 ((List.replicate n y ++ List.replicate (N - n) (0, 0)).flatMap stC)) ∧ Hid (Same w1 wr))
 case atStart => exact ⟨m, by omega, by omega, hm0, rfl, HR3, HK3⟩
 case round =>
  clear HR2 HK2 HR3 HK3 hm1 hmN hm0
  obtain ⟨n, hq, hn, hn0, rfl, HR, HK⟩ := hrel
  by_cases hlt : n < N
  ·obtain ⟨j, hj⟩ : ∃ j, j = Nat.min n (N - n) := ⟨_, rfl⟩
   have hjn : j ≤ n := by rw [hj]; exact Nat.min_le_left _ _
   have hjN : j ≤ N - n := by rw [hj]; exact Nat.min_le_right _ _
   have hj0 : 0 < j := by rw [hj]; exact Nat.lt_min.2 ⟨by omega, by omega⟩
   have HJ : Hid (Nat.min n (N - n) = j) := hid hj.symm
   clear hj
   obtain ⟨t, ht⟩ : ∃ t, t = n + j := ⟨_, rfl⟩
   have htI : (n : Int) + (j : Int) = (t : Int) := by omega
   have htw : IntKind.i64.wrap (t : Int) = (t : Int) := by rw [IntKind.wrap_i64]; omega
   have htN : t ≤ N := by omega
   have htn : n < t := by omega
   have HT : Hid (t = n + j) := ht
   have HE1 : Hid (((List.replicate j y).flatMap stC).length = j * 2) := hid (by rw [flat_length stC_ok, List.length_replicate])
   have HA1 : Hid (CellsAt wr ⟨w1.heap.size, 0, none⟩ ((List.replicate j y).flatMap stC)) := hid (by rw [← flat_rep_take stC_ok y (0, 0) n j (N - n) hjn]; exact HR.out.at _)
   have HF1 : Hid (n * 2 + ((List.replicate j y).flatMap stC).length ≤ ((List.replicate n y ++ List.replicate (N - n) (0, 0)).flatMap stC).length) := hid (by rw [HE1.out, flat_length stC_ok, List.length_append, List.length_replicate, List.length_replicate, ← Nat.add_mul]; exact Nat.mul_le_mul_right _ (by omega))
   have hNe : ¬ N = n := by omega
   clear ht hjN hj0
   go_wp2_with fail
   go_region_law (refine step_copy_k rfl (.tmp 41) (.tmp 44) 172 172 rfl 220 2 Tryz.underlying172 Tryz.infoSt1 w1.heap.size (n * 2) (N - n) (N - n) ⟨w1.heap.size, 0, none⟩ n N (by simp [Act.eval, Act.put]) (by simp [Act.eval, Act.put]) _ 220 HR.out ((List.replicate j y).flatMap stC) (by rw [HJ.out]; exact HE1.out) HA1.out HF1.out (flat_one stC_ok _) j HJ.out ?_; intro w4 hr4 hg4)
   all_goals
    have HR4 : Hid (Raw w4 w1.heap.size 220 ((List.replicate t y ++ List.replicate (N - t) (0, 0)).flatMap stC)) := hid (by have h := splice_more stC_ok y (0, 0) n j N (by have := HT.out; omega); rw [← HT.out] at h; rw [← h]; exact hr4)
    have HK4 : Hid (Same w1 w4) := hid (HK.out.drew.grown hg4 (fun i e => .inr (by injection e with e; omega)))
    clear hr4 hg4
    go_wp2_with fail
    go_roundg (gk - 1)
    case measure => omega
    case rel => exact ⟨t, by omega, htN, .inl (by omega), rfl, HR4, HK4⟩
  ·have hnN : n = N := by omega
   have HR4 : Hid (Raw wr w1.heap.size 220 ((List.replicate N y).flatMap stC)) := hid (by have h := HR.out; rw [hnN, Nat.sub_self] at h; simpa using h)
   clear hnN HR
   go_wp2_with fail
   go_ret
   refine ⟨_, rfl, ?_, HK.out⟩
   have h := HR4.out.row (B := w1.heap.size) stC_ok (Nat.le_refl _) (by simp [maxLen]; omega)
   rw [List.length_replicate] at h
   exact h

set_option maxRecDepth 100000 in
set_option maxHeartbeats 2000000 in
theorem repeatN_any (w : World) (ad : Addr) (y : Nat) (N : Nat) (hx : CellsAt w ad (natL y)) (hN : N ≤ 1000) :
  Calls Tryz.prog 124 #[.slice (some ad) 1 1, .int .i64 (N : Nat)] w fun e w' => ∃ g, e = .returned (.slice (some ⟨g, 0, none⟩) N N) ∧ RowC w.heap.size 3 1 natL w' (.slice (some ⟨g, 0, none⟩) N N) (List.replicate N y) ∧ Same w w' := by
 have HMU := mul_one w N (by omega)
 have HX : Hid (CellsAt w ad (natL y)) := hx
 have hxb : ad.block < w.heap.size := by
  have h0 := hx 0
  have hl := natL_ok.len y
  rw [List.getElem?_eq_getElem (by rw [hl]; decide)] at h0
  have := World.block_lt_of_cell? w _ (h0 _ rfl)
  unfold Addr.add at this
  split at this <;> simpa using this
 have HXB : Hid (ad.block < w.heap.size) := hxb
 have hwN : wrap64 (N : Int) = (N : Int) := by unfold wrap64; omega
 have hwU : IntKind.u64.wrap (N : Int) = (N : Int) := by rw [IntKind.wrap_u64]; omega
 clear hx hxb
 obtain ⟨m, hm⟩ : ∃ m, m = Nat.min 1 N := ⟨_, rfl⟩
 have hm1 : m ≤ 1 := by rw [hm]; exact Nat.min_le_left _ _
 have hmN : m ≤ N := by rw [hm]; exact Nat.min_le_right _ _
 have hm0 : 0 < m ∨ N = 0 := by
  rw [hm]
  rcases Nat.eq_zero_or_pos N with h | h
  ·exact .inr h
  ·exact .inl (Nat.lt_min.2 ⟨by decide, h⟩)
 have HM : Hid (Nat.min 1 N = m) := hid hm.symm
 clear hm
 have HE0 : Hid (((List.replicate m y).flatMap natL).length = m * 1) := hid (by rw [flat_length natL_ok, List.length_replicate])
 have HCS0 : Hid (∀ w2, Same w w2 → 0 < ((List.replicate m y).flatMap natL).length → ∃ a, some ad = some a ∧ CellsAt w2 a ((List.replicate m y).flatMap natL)) := hid (fun w2 hk h => by
  refine ⟨ad, rfl, fun j u hu => hk.cell (HX.out j u ?_) (fun f => f)⟩
  have : m = 1 := by
   rcases Nat.eq_zero_or_pos m with e | e
   ·subst e; simp at h
   ·omega
  subst this
  simpa using hu)
 go_enter Tryz.func124, Tryz.ntmps124
 go_wp2_with fail
 refine HMU.mono ?_
 rintro e w1 ⟨rfl, hw1⟩
 subst hw1
 clear HMU
 go_wp2_with (first | (at_make; refine wpList_make_c _ natL 1 natL_ok 0 w1.heap.size 117 3 (.int .i64 0) 8 Tryz.underlying117 Tryz.infoN rfl (by decide) rfl _ _ rfl _ _ _ _ N rfl rfl rfl rfl (by omega) (Nat.le_refl _) ?_; intro w2 hr2 hg2 hs2; have HR2 : Hid (Raw w2 w1.heap.size 3 ((List.replicate N 0).flatMap natL)) := hid hr2.raw; have HK2 : Hid (Same w1 w2) := hid ((Kept.refl _ w1).grown hg2 (fun j e => by cases e)); clear hr2 hg2) | (with_reducible refine atCopy ?_; refine wpList_copy_k _ rfl (.tmp 31) (.tmp 32) 117 117 rfl 3 1 Tryz.underlying117 Tryz.infoN1 w1.heap.size 0 N N (some ad) 1 1 rfl rfl _ 3 HR2.out ((List.replicate m y).flatMap natL) (by rw [HM.out]; exact HE0.out) (HCS0.out _ HK2.out) (by decide) (by rw [HE0.out, flat_length natL_ok, List.length_replicate, Nat.zero_add]; exact Nat.mul_le_mul_right _ hmN) (flat_one natL_ok _) m HM.out ?_; intro w3 hr3 hg3; have HR3 : Hid (Raw w3 w1.heap.size 3 ((List.replicate m y ++ List.replicate (N - m) 0).flatMap natL)) := hid (by have h := splice_more natL_ok y 0 0 m N (by omega); simp only [List.replicate_zero, List.nil_append, Nat.sub_zero, Nat.zero_mul, Nat.zero_add] at h; rw [← h]; exact hr3); have HK3 : Hid (Same w1 w3) := hid (HK2.out.grown hg3 (fun j e => .inr (by injection e with e; omega))); clear hr3 hg3))
 go_loopg [8] N (fun q z wr => ∃ (n : Nat), N - n ≤ q ∧ n ≤ N ∧ (0 < n ∨ N = 0) ∧ z = .int .i64 (n : Nat) ∧ Hid (Raw wr w1.heap.size 3 ((List.replicate n y ++ List.replicate (N - n) 0).flatMap natL)) ∧ Hid (Same w1 wr))
 case atStart => exact ⟨m, by omega, by omega, hm0, rfl, HR3, HK3⟩
 case round =>
  clear HR2 HK2 HR3 HK3 hm1 hmN hm0
  obtain ⟨n, hq, hn, hn0, rfl, HR, HK⟩ := hrel
  by_cases hlt : n < N
  ·obtain ⟨j, hj⟩ : ∃ j, j = Nat.min n (N - n) := ⟨_, rfl⟩
   have hjn : j ≤ n := by rw [hj]; exact Nat.min_le_left _ _
   have hjN : j ≤ N - n := by rw [hj]; exact Nat.min_le_right _ _
   have hj0 : 0 < j := by rw [hj]; exact Nat.lt_min.2 ⟨by omega, by omega⟩
   have HJ : Hid (Nat.min n (N - n) = j) := hid hj.symm
   clear hj
   obtain ⟨t, ht⟩ : ∃ t, t = n + j := ⟨_, rfl⟩
   have htI : (n : Int) + (j : Int) = (t : Int) := by omega
   have htw : IntKind.i64.wrap (t : Int) = (t : Int) := by rw [IntKind.wrap_i64]; omega
   have htN : t ≤ N := by omega
   have htn : n < t := by omega
   have HT : Hid (t = n + j) := ht
   have HE1 : Hid (((List.replicate j y).flatMap natL).length = j * 1) := hid (by rw [flat_length natL_ok, List.length_replicate])
   have HA1 : Hid (CellsAt wr ⟨w1.heap.size, 0, none⟩ ((List.replicate j y).flatMap natL)) := hid (by rw [← flat_rep_take natL_ok y 0 n j (N - n) hjn]; exact HR.out.at _)
   have HF1 : Hid (n * 1 + ((List.replicate j y).flatMap natL).length ≤ ((List.replicate n y ++ List.replicate (N - n) 0).flatMap natL).length) := hid (by rw [HE1.out, flat_length natL_ok, List.length_append, List.length_replicate, List.length_replicate, ← Nat.add_mul]; exact Nat.mul_le_mul_right _ (by omega))
   have hNe : ¬ N = n := by omega
   clear ht hjN hj0
   go_wp2_with fail
   go_region_law (refine step_copy_k rfl (.tmp 41) (.tmp 44) 117 117 rfl 3 1 Tryz.underlying117 Tryz.infoN1 w1.heap.size (n * 1) (N - n) (N - n) ⟨w1.heap.size, 0, none⟩ n N (by simp [Act.eval, Act.put]) (by simp [Act.eval, Act.put]) _ 3 HR.out ((List.replicate j y).flatMap natL) (by rw [HJ.out]; exact HE1.out) HA1.out HF1.out (flat_one natL_ok _) j HJ.out ?_; intro w4 hr4 hg4)
   all_goals
    have HR4 : Hid (Raw w4 w1.heap.size 3 ((List.replicate t y ++ List.replicate (N - t) 0).flatMap natL)) := hid (by have h := splice_more natL_ok y 0 n j N (by have := HT.out; omega); rw [← HT.out] at h; rw [← h]; exact hr4)
    have HK4 : Hid (Same w1 w4) := hid (HK.out.drew.grown hg4 (fun i e => .inr (by injection e with e; omega)))
    clear hr4 hg4
    go_wp2_with fail
    go_roundg (gk - 1)
    case measure => omega
    case rel => exact ⟨t, by omega, htN, .inl (by omega), rfl, HR4, HK4⟩
  ·have hnN : n = N := by omega
   have HR4 : Hid (Raw wr w1.heap.size 3 ((List.replicate N y).flatMap natL)) := hid (by have h := HR.out; rw [hnN, Nat.sub_self] at h; simpa using h)
   clear hnN HR
   go_wp2_with fail
   go_ret
   refine ⟨_, rfl, ?_, HK.out⟩
   have h := HR4.out.row (B := w1.heap.size) natL_ok (Nat.le_refl _) (by simp [maxLen]; omega)
   rw [List.length_replicate] at h
   exact h

end Go.Proofs.YtljlmfnbeofmmaaGreatDoor

namespace Go.Proofs.YtljlmfnbeofmmaaGreatDoor
open Go.RowKit

def Tab (w : World) : Prop := ∀ i, i < 19 → w.cell? ⟨0, i, none⟩ = some (.int .i64 ((ord.getD i 0 : Nat) : Int))

theorem Tab.kept {F : Nat → Prop} {w w' : World} (h : Tab w) (hk : Kept F w w') (hF : ¬ F 0) : Tab w' := fun i hi => hk.cell (h i hi) hF

theorem chk_good (l : List Nat) (hl : l.length = 19) (h7 : ∀ x ∈ l, x ≤ 7) (h : chkN l = 0) : Good (l.map (fun (n : Nat) => (n : Int))) l := by
 have hg := good_of (zs := l.map (fun (n : Nat) => (n : Int))) (by rw [chk_codes l hl h7]; exact h)
 have e : (l.map (fun (n : Nat) => (n : Int))).map Int.toNat = l := by
  rw [List.map_map]
  conv => rhs; rw [← List.map_id l]
  exact List.map_congr_left (fun x _ => by simp)
 rw [e] at hg
 exact hg

end Go.Proofs.YtljlmfnbeofmmaaGreatDoor
