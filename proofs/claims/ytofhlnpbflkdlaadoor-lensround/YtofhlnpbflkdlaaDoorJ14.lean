/-
  Of the proof: parts LnRep, LnTk, LnTs, LnTb, LnTc, LnUk.
-/
import Derived.Laws.Bits64b
import Derived.Test.YtofhlnpbflkdlaaDoorJ10
import Derived.Test.YtofhlnpbflkdlaaDoorJ9
import Derived.Test.YtofhlnpbflkdlaaDoorJ13
import Derived.Test.YtofhlnpbflkdlaaDoorJ12
import Derived.Test.YtofhlnpbflkdlaaDoorJ8
import Derived.Test.YtofhlnpbflkdlaaDoorJ7
import Derived.Test.YtofhlnpbflkdlaaDoorJ4

/-
  slices.Repeat of one element.
-/
namespace Go.Proofs.YtofhlnpbflkdlaaDoor
open Go.RowKit

set_option maxHeartbeats 1000000 in
theorem mul64_one (w : World) (n : Nat) (hn : n ≤ 1000000) :
    Calls Tryd.prog 84 #[.int .u64 1, .int .u64 (n : Nat)] w fun e w' => e = .returned (.tuple #[.int .u64 0, .int .u64 (n : Nat)]) ∧ w' = w := by
  have h1 : bits .and .u64 1 4294967295 = 1 := by decide
  have h2 : bits .and .u64 (n : Int) 4294967295 = (n : Int) := by
    have h := bits_and_u64_nat n 4294967295 (by omega) (by omega)
    have e : n &&& 4294967295 = n % 4294967296 := Nat.and_two_pow_sub_one_eq_mod n 32
    rw [e, Nat.mod_eq_of_lt (by omega)] at h
    exact h
  have h3 : (n : Int) / 4294967296 = 0 := by omega
  have h4 : IntKind.u64.wrap (n : Int) = (n : Int) := by rw [IntKind.wrap_u64]; omega
  have h5 : bits .and .u64 0 4294967295 = 0 := by decide
  go_enter Tryd.func84, Tryd.ntmps84
  go_wp2_with fail
  go_ret2
  exact ⟨rfl, rfl⟩

set_option maxHeartbeats 1000000 in
theorem mul_one (w : World) (n : Nat) (hn : n ≤ 1000000) :
    Calls Tryd.prog 73 #[.int .u64 1, .int .u64 (n : Nat)] w fun e w' => e = .returned (.tuple #[.int .u64 0, .int .u64 (n : Nat)]) ∧ w' = w := by
  have HC := mul64_one w n hn
  go_enter Tryd.func73, Tryd.ntmps73
  go_wp2_with fail
  refine HC.mono ?_
  rintro e w1 ⟨rfl, hw1⟩
  subst hw1
  clear HC
  go_wp2_with fail
  go_ret2
  exact ⟨rfl, rfl⟩

theorem splice_more {α : Type} {enc : α → List Value} {k : Nat} (ok : EncOk enc k) (x y : α) (n m N : Nat) (h : n + m ≤ N) :
    splice ((List.replicate n x ++ List.replicate (N - n) y).flatMap enc) (n * k) ((List.replicate m x).flatMap enc) = (List.replicate (n + m) x ++ List.replicate (N - (n + m)) y).flatMap enc := by
  have e1 : ((List.replicate n x).flatMap enc).length = n * k := by rw [flat_length ok, List.length_replicate]
  have e2 : ((List.replicate m x).flatMap enc).length = m * k := by rw [flat_length ok, List.length_replicate]
  have e3 : List.replicate (N - n) y = List.replicate m y ++ List.replicate (N - (n + m)) y := by rw [List.replicate_append_replicate]; congr 1; omega
  have e4 : ((List.replicate m y).flatMap enc).length = m * k := by rw [flat_length ok, List.length_replicate]
  unfold splice
  rw [List.flatMap_append, e2, List.take_append_of_le_length (by omega), List.take_of_length_le (by omega), List.drop_append, List.drop_eq_nil_of_le (by omega), e1, List.nil_append, Nat.add_sub_cancel_left, e3, List.flatMap_append, ← e4, List.drop_left, ← List.append_assoc, ← List.flatMap_append, List.replicate_append_replicate, ← List.flatMap_append]

theorem flat_rep_take {α : Type} {enc : α → List Value} {k : Nat} (ok : EncOk enc k) (x y : α) (n m N : Nat) (h : m ≤ n) : ((List.replicate n x ++ List.replicate N y).flatMap enc).take (m * k) = (List.replicate m x).flatMap enc := by
  have e1 : List.replicate n x = List.replicate m x ++ List.replicate (n - m) x := by rw [List.replicate_append_replicate]; congr 1; omega
  have e2 : ((List.replicate m x).flatMap enc).length = m * k := by rw [flat_length ok, List.length_replicate]
  rw [e1, List.append_assoc, List.flatMap_append, ← e2, List.take_left]

/-- A number's cell. -/
def natL (n : Nat) : List Value := [natV n]
theorem natL_ok : EncOk natL 1 := ⟨fun _ => rfl, fun x u hu => by simp [natL] at hu; subst hu; rfl, by decide⟩
theorem natL_flat (xs : List Nat) : xs.flatMap natL = xs.map natV := by
  induction xs with
  | nil => rfl
  | cons a r ih => rw [List.flatMap_cons, ih]; rfl

theorem Tryd.infoSt1 : (Tryd.prog.info? 31).map (·.size) = some 2 := by kernel_rfl
theorem Tryd.infoN1 : (Tryd.prog.info? 3).map (·.size) = some 1 := by kernel_rfl

set_option maxRecDepth 100000 in
set_option maxHeartbeats 2000000 in
theorem repeatS_any (w : World) (ad : Addr) (y : Int × Int) (N : Nat) (hx : CellsAt w ad (stC y)) (hN : N ≤ 1000) :
    Calls Tryd.prog 59 #[.slice (some ad) 1 1, .int .i64 (N : Nat)] w fun e w' => ∃ g, e = .returned (.slice (some ⟨g, 0, none⟩) N N) ∧ RowC w.heap.size 31 2 stC w' (.slice (some ⟨g, 0, none⟩) N N) (List.replicate N y) ∧ Same w w' := by
  have HMU := mul_one w N (by omega)
  have HX : Hid (CellsAt w ad (stC y)) := hx
  have hxb : ad.block < w.heap.size := by
    have h0 := hx 0
    have hl := stC_ok.len y
    rw [List.getElem?_eq_getElem (by rw [hl]; decide)] at h0
    have := World.block_lt_of_cell? w _ (h0 _ rfl)
    unfold Addr.add at this
    split at this <;> simpa using this
  have HXB : Hid (ad.block < w.heap.size) := hxb
  have hwN : wrap64 (N : Int) = (N : Int) := by unfold wrap64; omega
  have hwU : IntKind.u64.wrap (N : Int) = (N : Int) := by rw [IntKind.wrap_u64]; omega
  clear hx hxb
  obtain ⟨m, hm⟩ : ∃ m, m = Nat.min 1 N := ⟨_, rfl⟩
  have hm1 : m ≤ 1 := by rw [hm]; exact Nat.min_le_left _ _
  have hmN : m ≤ N := by rw [hm]; exact Nat.min_le_right _ _
  have hm0 : 0 < m ∨ N = 0 := by
    rw [hm]
    rcases Nat.eq_zero_or_pos N with h | h
    · exact .inr h
    · exact .inl (Nat.lt_min.2 ⟨by decide, h⟩)
  have HM : Hid (Nat.min 1 N = m) := hid hm.symm
  clear hm
  have HE0 : Hid (((List.replicate m y).flatMap stC).length = m * 2) := hid (by rw [flat_length stC_ok, List.length_replicate])
  have HCS0 : Hid (∀ w2, Same w w2 → 0 < ((List.replicate m y).flatMap stC).length → ∃ a, some ad = some a ∧ CellsAt w2 a ((List.replicate m y).flatMap stC)) := hid (fun w2 hk h => by
    refine ⟨ad, rfl, fun j u hu => hk.cell (HX.out j u ?_) (fun f => f)⟩
    have : m = 1 := by
      rcases Nat.eq_zero_or_pos m with e | e
      · subst e; simp at h
      · omega
    subst this
    simpa using hu)
  go_enter Tryd.func59, Tryd.ntmps59
  go_wp2_with fail
  refine HMU.mono ?_
  rintro e w1 ⟨rfl, hw1⟩
  subst hw1
  clear HMU
  go_wp2_with (first | (at_make; refine wpList_make_c _ stC 2 stC_ok (0, 0) w1.heap.size 25 31 (.agg #[.int .i64 0, .int .i64 0]) 16 Tryd.underlying25 Tryd.infoSt rfl (by decide) rfl _ _ rfl _ _ _ _ N rfl rfl rfl rfl (by omega) (Nat.le_refl _) ?_; intro w2 hr2 hg2 hs2; have HR2 : Hid (Raw w2 w1.heap.size 31 ((List.replicate N (0, 0)).flatMap stC)) := hid hr2.raw; have HK2 : Hid (Same w1 w2) := hid ((Kept.refl _ w1).grown hg2 (fun j e => by cases e)); clear hr2 hg2) | (with_reducible refine atCopy ?_; refine wpList_copy_k _ rfl (.tmp 31) (.tmp 32) 25 25 rfl 31 2 Tryd.underlying25 Tryd.infoSt1 w1.heap.size 0 N N (some ad) 1 1 rfl rfl _ 31 HR2.out ((List.replicate m y).flatMap stC) (by rw [HM.out]; exact HE0.out) (HCS0.out _ HK2.out) (by decide) (by rw [HE0.out, flat_length stC_ok, List.length_replicate, Nat.zero_add]; exact Nat.mul_le_mul_right _ hmN) (flat_one stC_ok _) m HM.out ?_; intro w3 hr3 hg3; have HR3 : Hid (Raw w3 w1.heap.size 31 ((List.replicate m y ++ List.replicate (N - m) (0, 0)).flatMap stC)) := hid (by have h := splice_more stC_ok y (0, 0) 0 m N (by omega); simp only [List.replicate_zero, List.nil_append, Nat.sub_zero, Nat.zero_mul, Nat.zero_add] at h; rw [← h]; exact hr3); have HK3 : Hid (Same w1 w3) := hid (HK2.out.grown hg3 (fun j e => .inr (by injection e with e; omega))); clear hr3 hg3))
  go_loopg [8] N (fun q z wr => ∃ (n : Nat), N - n ≤ q ∧ n ≤ N ∧ (0 < n ∨ N = 0) ∧ z = .int .i64 (n : Nat) ∧ Hid (Raw wr w1.heap.size 31 ((List.replicate n y ++ List.replicate (N - n) (0, 0)).flatMap stC)) ∧ Hid (Same w1 wr))
  case atStart => exact ⟨m, by omega, by omega, hm0, rfl, HR3, HK3⟩
  case round =>
    clear HR2 HK2 HR3 HK3 hm1 hmN hm0
    obtain ⟨n, hq, hn, hn0, rfl, HR, HK⟩ := hrel
    by_cases hlt : n < N
    · obtain ⟨j, hj⟩ : ∃ j, j = Nat.min n (N - n) := ⟨_, rfl⟩
      have hjn : j ≤ n := by rw [hj]; exact Nat.min_le_left _ _
      have hjN : j ≤ N - n := by rw [hj]; exact Nat.min_le_right _ _
      have hj0 : 0 < j := by rw [hj]; exact Nat.lt_min.2 ⟨by omega, by omega⟩
      have HJ : Hid (Nat.min n (N - n) = j) := hid hj.symm
      clear hj
      obtain ⟨t, ht⟩ : ∃ t, t = n + j := ⟨_, rfl⟩
      have htI : (n : Int) + (j : Int) = (t : Int) := by omega
      have htw : IntKind.i64.wrap (t : Int) = (t : Int) := by rw [IntKind.wrap_i64]; omega
      have htN : t ≤ N := by omega
      have htn : n < t := by omega
      have HT : Hid (t = n + j) := ht
      have HE1 : Hid (((List.replicate j y).flatMap stC).length = j * 2) := hid (by rw [flat_length stC_ok, List.length_replicate])
      have HA1 : Hid (CellsAt wr ⟨w1.heap.size, 0, none⟩ ((List.replicate j y).flatMap stC)) := hid (by rw [← flat_rep_take stC_ok y (0, 0) n j (N - n) hjn]; exact HR.out.at _)
      have HF1 : Hid (n * 2 + ((List.replicate j y).flatMap stC).length ≤ ((List.replicate n y ++ List.replicate (N - n) (0, 0)).flatMap stC).length) := hid (by rw [HE1.out, flat_length stC_ok, List.length_append, List.length_replicate, List.length_replicate, ← Nat.add_mul]; exact Nat.mul_le_mul_right _ (by omega))
      have hNe : ¬ N = n := by omega
      clear ht hjN hj0
      go_wp2_with fail
      go_region_law (refine step_copy_k rfl (.tmp 41) (.tmp 44) 25 25 rfl 31 2 Tryd.underlying25 Tryd.infoSt1 w1.heap.size (n * 2) (N - n) (N - n) ⟨w1.heap.size, 0, none⟩ n N (by simp [Act.eval, Act.put]) (by simp [Act.eval, Act.put]) _ 31 HR.out ((List.replicate j y).flatMap stC) (by rw [HJ.out]; exact HE1.out) HA1.out HF1.out (flat_one stC_ok _) j HJ.out ?_; intro w4 hr4 hg4)
      all_goals
        have HR4 : Hid (Raw w4 w1.heap.size 31 ((List.replicate t y ++ List.replicate (N - t) (0, 0)).flatMap stC)) := hid (by have h := splice_more stC_ok y (0, 0) n j N (by have := HT.out; omega); rw [← HT.out] at h; rw [← h]; exact hr4)
        have HK4 : Hid (Same w1 w4) := hid (HK.out.drew.grown hg4 (fun i e => .inr (by injection e with e; omega)))
        clear hr4 hg4
        go_wp2_with fail
        go_roundg (gk - 1)
        case measure => omega
        case rel => exact ⟨t, by omega, htN, .inl (by omega), rfl, HR4, HK4⟩
    · have hnN : n = N := by omega
      have HR4 : Hid (Raw wr w1.heap.size 31 ((List.replicate N y).flatMap stC)) := hid (by have h := HR.out; rw [hnN, Nat.sub_self] at h; simpa using h)
      clear hnN HR
      go_wp2_with fail
      go_ret
      refine ⟨_, rfl, ?_, HK.out⟩
      have h := HR4.out.row (B := w1.heap.size) stC_ok (Nat.le_refl _) (by simp [maxLen]; omega)
      rw [List.length_replicate] at h
      exact h

set_option maxRecDepth 100000 in
set_option maxHeartbeats 2000000 in
theorem repeatN_any (w : World) (ad : Addr) (y : Nat) (N : Nat) (hx : CellsAt w ad (natL y)) (hN : N ≤ 1000) :
    Calls Tryd.prog 80 #[.slice (some ad) 1 1, .int .i64 (N : Nat)] w fun e w' => ∃ g, e = .returned (.slice (some ⟨g, 0, none⟩) N N) ∧ RowC w.heap.size 3 1 natL w' (.slice (some ⟨g, 0, none⟩) N N) (List.replicate N y) ∧ Same w w' := by
  have HMU := mul_one w N (by omega)
  have HX : Hid (CellsAt w ad (natL y)) := hx
  have hxb : ad.block < w.heap.size := by
    have h0 := hx 0
    have hl := natL_ok.len y
    rw [List.getElem?_eq_getElem (by rw [hl]; decide)] at h0
    have := World.block_lt_of_cell? w _ (h0 _ rfl)
    unfold Addr.add at this
    split at this <;> simpa using this
  have HXB : Hid (ad.block < w.heap.size) := hxb
  have hwN : wrap64 (N : Int) = (N : Int) := by unfold wrap64; omega
  have hwU : IntKind.u64.wrap (N : Int) = (N : Int) := by rw [IntKind.wrap_u64]; omega
  clear hx hxb
  obtain ⟨m, hm⟩ : ∃ m, m = Nat.min 1 N := ⟨_, rfl⟩
  have hm1 : m ≤ 1 := by rw [hm]; exact Nat.min_le_left _ _
  have hmN : m ≤ N := by rw [hm]; exact Nat.min_le_right _ _
  have hm0 : 0 < m ∨ N = 0 := by
    rw [hm]
    rcases Nat.eq_zero_or_pos N with h | h
    · exact .inr h
    · exact .inl (Nat.lt_min.2 ⟨by decide, h⟩)
  have HM : Hid (Nat.min 1 N = m) := hid hm.symm
  clear hm
  have HE0 : Hid (((List.replicate m y).flatMap natL).length = m * 1) := hid (by rw [flat_length natL_ok, List.length_replicate])
  have HCS0 : Hid (∀ w2, Same w w2 → 0 < ((List.replicate m y).flatMap natL).length → ∃ a, some ad = some a ∧ CellsAt w2 a ((List.replicate m y).flatMap natL)) := hid (fun w2 hk h => by
    refine ⟨ad, rfl, fun j u hu => hk.cell (HX.out j u ?_) (fun f => f)⟩
    have : m = 1 := by
      rcases Nat.eq_zero_or_pos m with e | e
      · subst e; simp at h
      · omega
    subst this
    simpa using hu)
  go_enter Tryd.func80, Tryd.ntmps80
  go_wp2_with fail
  refine HMU.mono ?_
  rintro e w1 ⟨rfl, hw1⟩
  subst hw1
  clear HMU
  go_wp2_with (first | (at_make; refine wpList_make_c _ natL 1 natL_ok 0 w1.heap.size 22 3 (.int .i64 0) 8 Tryd.underlying22 Tryd.infoN rfl (by decide) rfl _ _ rfl _ _ _ _ N rfl rfl rfl rfl (by omega) (Nat.le_refl _) ?_; intro w2 hr2 hg2 hs2; have HR2 : Hid (Raw w2 w1.heap.size 3 ((List.replicate N 0).flatMap natL)) := hid hr2.raw; have HK2 : Hid (Same w1 w2) := hid ((Kept.refl _ w1).grown hg2 (fun j e => by cases e)); clear hr2 hg2) | (with_reducible refine atCopy ?_; refine wpList_copy_k _ rfl (.tmp 31) (.tmp 32) 22 22 rfl 3 1 Tryd.underlying22 Tryd.infoN1 w1.heap.size 0 N N (some ad) 1 1 rfl rfl _ 3 HR2.out ((List.replicate m y).flatMap natL) (by rw [HM.out]; exact HE0.out) (HCS0.out _ HK2.out) (by decide) (by rw [HE0.out, flat_length natL_ok, List.length_replicate, Nat.zero_add]; exact Nat.mul_le_mul_right _ hmN) (flat_one natL_ok _) m HM.out ?_; intro w3 hr3 hg3; have HR3 : Hid (Raw w3 w1.heap.size 3 ((List.replicate m y ++ List.replicate (N - m) 0).flatMap natL)) := hid (by have h := splice_more natL_ok y 0 0 m N (by omega); simp only [List.replicate_zero, List.nil_append, Nat.sub_zero, Nat.zero_mul, Nat.zero_add] at h; rw [← h]; exact hr3); have HK3 : Hid (Same w1 w3) := hid (HK2.out.grown hg3 (fun j e => .inr (by injection e with e; omega))); clear hr3 hg3))
  go_loopg [8] N (fun q z wr => ∃ (n : Nat), N - n ≤ q ∧ n ≤ N ∧ (0 < n ∨ N = 0) ∧ z = .int .i64 (n : Nat) ∧ Hid (Raw wr w1.heap.size 3 ((List.replicate n y ++ List.replicate (N - n) 0).flatMap natL)) ∧ Hid (Same w1 wr))
  case atStart => exact ⟨m, by omega, by omega, hm0, rfl, HR3, HK3⟩
  case round =>
    clear HR2 HK2 HR3 HK3 hm1 hmN hm0
    obtain ⟨n, hq, hn, hn0, rfl, HR, HK⟩ := hrel
    by_cases hlt : n < N
    · obtain ⟨j, hj⟩ : ∃ j, j = Nat.min n (N - n) := ⟨_, rfl⟩
      have hjn : j ≤ n := by rw [hj]; exact Nat.min_le_left _ _
      have hjN : j ≤ N - n := by rw [hj]; exact Nat.min_le_right _ _
      have hj0 : 0 < j := by rw [hj]; exact Nat.lt_min.2 ⟨by omega, by omega⟩
      have HJ : Hid (Nat.min n (N - n) = j) := hid hj.symm
      clear hj
      obtain ⟨t, ht⟩ : ∃ t, t = n + j := ⟨_, rfl⟩
      have htI : (n : Int) + (j : Int) = (t : Int) := by omega
      have htw : IntKind.i64.wrap (t : Int) = (t : Int) := by rw [IntKind.wrap_i64]; omega
      have htN : t ≤ N := by omega
      have htn : n < t := by omega
      have HT : Hid (t = n + j) := ht
      have HE1 : Hid (((List.replicate j y).flatMap natL).length = j * 1) := hid (by rw [flat_length natL_ok, List.length_replicate])
      have HA1 : Hid (CellsAt wr ⟨w1.heap.size, 0, none⟩ ((List.replicate j y).flatMap natL)) := hid (by rw [← flat_rep_take natL_ok y 0 n j (N - n) hjn]; exact HR.out.at _)
      have HF1 : Hid (n * 1 + ((List.replicate j y).flatMap natL).length ≤ ((List.replicate n y ++ List.replicate (N - n) 0).flatMap natL).length) := hid (by rw [HE1.out, flat_length natL_ok, List.length_append, List.length_replicate, List.length_replicate, ← Nat.add_mul]; exact Nat.mul_le_mul_right _ (by omega))
      have hNe : ¬ N = n := by omega
      clear ht hjN hj0
      go_wp2_with fail
      go_region_law (refine step_copy_k rfl (.tmp 41) (.tmp 44) 22 22 rfl 3 1 Tryd.underlying22 Tryd.infoN1 w1.heap.size (n * 1) (N - n) (N - n) ⟨w1.heap.size, 0, none⟩ n N (by simp [Act.eval, Act.put]) (by simp [Act.eval, Act.put]) _ 3 HR.out ((List.replicate j y).flatMap natL) (by rw [HJ.out]; exact HE1.out) HA1.out HF1.out (flat_one natL_ok _) j HJ.out ?_; intro w4 hr4 hg4)
      all_goals
        have HR4 : Hid (Raw w4 w1.heap.size 3 ((List.replicate t y ++ List.replicate (N - t) 0).flatMap natL)) := hid (by have h := splice_more natL_ok y 0 n j N (by have := HT.out; omega); rw [← HT.out] at h; rw [← h]; exact hr4)
        have HK4 : Hid (Same w1 w4) := hid (HK.out.drew.grown hg4 (fun i e => .inr (by injection e with e; omega)))
        clear hr4 hg4
        go_wp2_with fail
        go_roundg (gk - 1)
        case measure => omega
        case rel => exact ⟨t, by omega, htN, .inl (by omega), rfl, HR4, HK4⟩
    · have hnN : n = N := by omega
      have HR4 : Hid (Raw wr w1.heap.size 3 ((List.replicate N y).flatMap natL)) := hid (by have h := HR.out; rw [hnN, Nat.sub_self] at h; simpa using h)
      clear hnN HR
      go_wp2_with fail
      go_ret
      refine ⟨_, rfl, ?_, HK.out⟩
      have h := HR4.out.row (B := w1.heap.size) natL_ok (Nat.le_refl _) (by simp [maxLen]; omega)
      rw [List.length_replicate] at h
      exact h

end Go.Proofs.YtofhlnpbflkdlaaDoor

/-
  The program's take, readStep.
-/
namespace Go.Proofs.YtofhlnpbflkdlaaDoor
open Go.RowKit

/-- Numbers of so many bits each, one behind the other. -/
def numsAt (ls : List Nat) (c : Nat) : List Nat → List Nat
  | [] => []
  | n :: r => numAt ls c n :: numsAt ls (c + n) r

theorem numsAt_snoc (ls : List Nat) (c : Nat) (ws : List Nat) (n : Nat) : numsAt ls c (ws ++ [n]) = numsAt ls c ws ++ [numAt ls (c + ws.sum) n] := by
  induction ws generalizing c with
  | nil => simp [numsAt]
  | cons a r ih => simp only [List.cons_append, numsAt, ih, List.sum_cons, Nat.add_assoc]

theorem numsAt_length (ls : List Nat) (c : Nat) (ws : List Nat) : (numsAt ls c ws).length = ws.length := by
  induction ws generalizing c with
  | nil => rfl
  | cons a r ih => simp [numsAt, ih]

theorem sum_take_le (ws : List Nat) (i : Nat) (hi : i < ws.length) : (ws.take i).sum + ws[i] ≤ ws.sum := by
  have h : (ws.take (i + 1)).sum + (ws.drop (i + 1)).sum = ws.sum := by rw [← List.sum_append, List.take_append_drop]
  rw [List.take_succ_eq_append_getElem hi, List.sum_append] at h
  simp at h
  omega

/-- The reader's number as one of the bits. -/
theorem num_bits (bs : List Nat) (hb : ∀ b ∈ bs, b < 256) (c n : Nat) (h : c + n ≤ 8 * bs.length) : n256 bs / 2 ^ c % 2 ^ n = numAt (ofBytes bs) c n := (left_n2 bs hb c n h).symm

/-- An answer of take: the numbers, or that there are too few bits. -/
def TakeA (w w' : World) (p : Nat) (s : Value) (bs : List Nat) (c : Nat) (ws : List Nat) (e : Ending) : Prop :=
  (c + ws.sum ≤ 8 * bs.length ∧ (∃ v', e = .returned (.tuple #[v', .int .i64 0]) ∧ NRow w.heap.size w' v' (numsAt (ofBytes bs) c ws)) ∧ St w' p s bs (c + ws.sum)) ∨
  (8 * bs.length < c + ws.sum ∧ e = .returned (.tuple #[.slice none 0 0, .int .i64 10]) ∧ ∃ c', c ≤ c' ∧ c' ≤ 8 * bs.length ∧ St w' p s bs c')

set_option maxRecDepth 100000 in
set_option maxHeartbeats 2000000 in
theorem ltake_any (w : World) (p c : Nat) (s : Value) (bs : List Nat) (v : Value) (I : Nat → Prop) (ws : List Nat) (hst : St w p s bs c) (hc : c ≤ 8 * bs.length) (hlen : bs.length ≤ 100000000) (hs : SrcE natV w I v ws) (hI : ∀ k, I k → k ≠ p) (hws : ∀ n ∈ ws, n ≤ 32) (hwl : ws.length ≤ 1000) :
    Calls Tryd.prog 69 #[.pointer (some ⟨p, 0, none⟩), v] w fun e w' => TakeA w w' p s bs c ws e ∧ Kept (· = p) w w' := by
  obtain ⟨ao, cap, rfl, hx1, hx2⟩ := id hs
  clear hx1 hx2
  have HS : Hid (SrcE natV w I (.slice ao ws.length cap) ws) := hs
  have HST : Hid (St w p s bs c) := hst
  have HP : Hid (∀ k, Fp p s k → k < w.heap.size) := hid (fun k h => hst.fp_lt h)
  have HWS : Hid (∀ n ∈ ws, n ≤ 32) := hws
  have HI : Hid (∀ k, I k → k ≠ p) := hI
  have HB : Hid (∀ b ∈ bs, b < 256) := hst.byte
  clear hs hst hws hI
  go_enter Tryd.func69, Tryd.ntmps69
  go_wp2_with fail
  go_loopg [6, 8, 9, 10, 13] ws.length (fun q zo _ _ _ zi wr => ∃ (i : Nat), ws.length - i ≤ q ∧ i ≤ ws.length ∧ zi = .int .i64 (i : Nat) ∧ Hid (c + (ws.take i).sum ≤ 8 * bs.length) ∧ Hid (NRow w.heap.size wr zo (numsAt (ofBytes bs) c (ws.take i))) ∧ Hid (St wr p s bs (c + (ws.take i).sum)) ∧ Hid (Kept (· = p) w wr))
  case atStart => exact ⟨0, by omega, by omega, rfl, hid (by simpa using hc), hid (by simpa [numsAt] using RowE.nil), hid (by simpa using HST.out), Kept.refl _ _⟩
  case round =>
    clear HST
    obtain ⟨i, hq, hi, rfl, HC, HV, HST, HK⟩ := hrel
    have hsz := HK.out.size
    by_cases hlt : i < ws.length
    · obtain ⟨b, o, cap', e, hIb, _, cx⟩ := (HS.out.kept HK.out (fun k h _ => HI.out k h)).get i hlt
      simp only [Value.slice.injEq] at e
      obtain ⟨rfl, hxe, rfl⟩ := e
      clear hxe hIb
      obtain ⟨n, hn⟩ : ∃ n, n = ws[i] := ⟨_, rfl⟩
      rw [← hn] at cx
      unfold natV at cx
      have hn32 : n ≤ 32 := by rw [hn]; exact HWS.out _ (List.getElem_mem _)
      obtain ⟨ci, hci⟩ : ∃ ci, ci = c + (ws.take i).sum := ⟨_, rfl⟩
      rw [← hci] at HC HST
      have hci0 : c ≤ ci := by omega
      have HSUM : Hid (c + (ws.take (i + 1)).sum = ci + n) := hid (by rw [List.take_succ_eq_append_getElem hlt, List.sum_append, hci, hn]; simp; omega)
      have HTOT : Hid (ci + n ≤ c + ws.sum) := hid (by have := sum_take_le ws i hlt; rw [hci, hn]; omega)
      have HNUM : Hid (numsAt (ofBytes bs) c (ws.take (i + 1)) = numsAt (ofBytes bs) c (ws.take i) ++ [numAt (ofBytes bs) ci n]) := hid (by rw [List.take_succ_eq_append_getElem hlt, numsAt_snoc, hci, hn])
      have hnl : (numsAt (ofBytes bs) c (ws.take i)).length ≤ 1000 := by rw [numsAt_length]; simp; omega
      clear hn hci
      by_cases hfit : ci + n ≤ 8 * bs.length
      · have HT := take_good p ci n s bs wr HST.out (by omega) hn32 hfit
        rw [num_bits bs HB.out ci n hfit] at HT
        obtain ⟨x, hx⟩ : ∃ x, x = numAt (ofBytes bs) ci n := ⟨_, rfl⟩
        have hxl : x < 2 ^ 32 := by
          rw [hx]
          exact Nat.lt_of_lt_of_le (numAt_lt _ (ofBytes_lt bs) _ _) (Nat.pow_le_pow_right (by decide) hn32)
        rw [← hx] at HT HNUM
        have hxw : wrap64 (x : Int) = (x : Int) := by unfold wrap64; omega
        have HF : Hid (ci + n ≤ 8 * bs.length) := hfit
        clear hx hfit
        go_wp2_with fail
        refine HT.mono ?_
        rintro e w2 ⟨rfl, hs2, hk2⟩
        have HST2 : Hid (St w2 p s bs (ci + n)) := hs2
        have HK2 : Hid (Kept (· = p) w w2) := hid (Kept.trans HK.out hk2 (fun _ _ h => h) (fun _ _ h => h))
        have HV2 : Hid (NRow w.heap.size w2 u6 (numsAt (ofBytes bs) c (ws.take i))) := hid (HV.out.kept hk2 (fun k e h => by have h1 := HV.out.ge e; have h2 := HP.out p (.inl rfl); omega))
        have hsz2 := HK2.out.size
        clear hs2 hk2 HT
        go_wp2_with (at_builtin; refine wpList_append_e _ natV natV_one w.heap.size 22 3 (natV 0) 8 Tryd.underlying22 Tryd.infoN rfl (by decide) rfl (.tmp 26) (.tmp 29) rfl u6 _ rfl (World.ownsRow.alloc HV2.out _) ⟨w2.heap.size, 0, none⟩ 1 1 [x] rfl rfl (cellsAt_new _ _ _) (by simp; omega) (by simp; omega) ?_; intro v5 w5 hr5 hg5; have HV5 : Hid (NRow w.heap.size w5 v5 (numsAt (ofBytes bs) c (ws.take (i + 1)))) := hid (by rw [HNUM.out]; exact hr5); have HK5' : Hid (Kept (fun k => u6.ownBlock = some k) w2 w5) := hid (((Kept.refl _ w2).alloc _).grown hg5 (fun _ e => .inl e)); have HST5 : Hid (St w5 p s bs (c + (ws.take (i + 1)).sum)) := hid (by rw [HSUM.out]; exact HST2.out.kept HK5'.out (fun k h e => by have h1 := HV2.out.ge e; have h2 := HP.out k h; omega)); have HK5 : Hid (Kept (· = p) w w5) := hid (Kept.trans HK2.out HK5'.out (fun _ _ h => h) (fun k hk e => by have := HV2.out.ge e; omega)); clear hr5 hg5)
        go_roundg (gk - 1)
        case measure => omega
        case rel => exact ⟨i + 1, by omega, by omega, by go_num, hid (by rw [HSUM.out]; exact HF.out), HV5, HST5, HK5⟩
      · have HT := take_end p ci n s bs wr HST.out HC.out (by omega) hn32 (by omega)
        have HE : Hid (8 * bs.length < c + ws.sum) := hid (by have := HTOT.out; omega)
        clear hfit
        go_wp2_with fail
        refine HT.mono ?_
        rintro e w2 ⟨rfl, m, hw2⟩
        subst hw2
        clear HT
        go_wp2_with fail
        go_ret2
        exact ⟨.inr ⟨HE.out, rfl, ci, hci0, HC.out, HST.out.drewN _⟩, HK.out.drewN _⟩
    · have hil : i = ws.length := by omega
      subst hil
      have e1 : ws.take ws.length = ws := List.take_of_length_le (Nat.le_refl _)
      have HC2 : Hid (c + ws.sum ≤ 8 * bs.length) := hid (by have h := HC.out; rw [e1] at h; exact h)
      have HV2 : Hid (NRow w.heap.size wr u6 (numsAt (ofBytes bs) c ws)) := hid (by have h := HV.out; rw [e1] at h; exact h)
      have HST2 : Hid (St wr p s bs (c + ws.sum)) := hid (by have h := HST.out; rw [e1] at h; exact h)
      clear HC HV HST e1
      go_wp2_with fail
      go_ret2
      exact ⟨.inl ⟨HC2.out, ⟨_, rfl, HV2.out⟩, HST2.out⟩, HK.out⟩

theorem rest_lt2 (bs : List Nat) (hb : ∀ b ∈ bs, b < 256) (c : Nat) (hc : c ≤ 8 * bs.length) : n256 bs / 2 ^ c < 2 ^ (8 * bs.length - c) := by
  have h := n256_lt bs hb
  rw [pow8] at h
  refine (Nat.div_lt_iff_lt_mul (Nat.two_pow_pos c)).2 ?_
  rw [← Nat.pow_add, show 8 * bs.length - c + c = 8 * bs.length by omega]
  exact h

/-- The decoder's Next as a function of the bits. -/
theorem lnext_any (w : World) (d : Nat) (vc vs : Value) (zs : List Int) (ns : List Nat) (p c : Nat) (s : Value) (bs : List Nat) (hg : Good zs ns) (hd : Dec w d vc vs ns) (hs : St w p s bs c) (hc : c ≤ 8 * bs.length) (hlen : bs.length ≤ 100000000) (hdis : ∀ k, DF d vc vs k → ¬ Fp p s k) :
    Calls Tryd.prog 93 #[.pointer (some ⟨d, 0, none⟩), .pointer (some ⟨p, 0, none⟩)] w fun e w' => e = .returned (.tuple #[.int .i64 ((nextF ns ((ofBytes bs).drop c)).1 : Nat), .int .i64 ((nextF ns ((ofBytes bs).drop c)).2.2 : Nat)]) ∧ St w' p s bs (c + (nextF ns ((ofBytes bs).drop c)).2.1) ∧ c + (nextF ns ((ofBytes bs).drop c)).2.1 ≤ 8 * bs.length ∧ Kept (· = p) w w' := by
  refine (next_any w d vc vs ns p c s bs hd (mx_le ns 15 hg.le) hg.max hs hc hlen hdis).mono ?_
  rintro e w' ⟨⟨sym, long, er, rfl, hans, hst⟩, hk⟩
  have hr := nextF_is ns ((ofBytes bs).drop c)
  obtain ⟨h1, h2, h3⟩ := next_same hg bs hs.byte c hc (rest_lt2 bs hs.byte c hc) hans hr
  rw [h1, h2, h3]
  refine ⟨rfl, hst, ?_, hk⟩
  rcases hans with ⟨_, _, _, h, _⟩ | ⟨_, _, h, _, _⟩ | ⟨_, _, h, _, _⟩
  · omega
  · omega
  · omega

/-- An answer of readStep. -/
def RStepA (w' : World) (p : Nat) (s : Value) (bs : List Nat) (c : Nat) (e : Ending) : Except Nat ((Nat × Nat) × Nat) → Prop
  | .error er => e = .returned (.tuple #[.agg #[.int .i64 0, .int .i64 0], .int .i64 (er : Nat)]) ∧ er ≠ 0 ∧ ∃ c', c ≤ c' ∧ c' ≤ 8 * bs.length ∧ St w' p s bs c'
  | .ok (x, c') => e = .returned (.tuple #[.agg #[.int .i64 (x.1 : Nat), .int .i64 (x.2 : Nat)], .int .i64 0]) ∧ c' ≤ 8 * bs.length ∧ St w' p s bs c'

end Go.Proofs.YtofhlnpbflkdlaaDoor

/-
  The program's readStep.
-/
namespace Go.Proofs.YtofhlnpbflkdlaaDoor
open Go.RowKit

set_option maxRecDepth 100000 in
set_option maxHeartbeats 2000000 in
theorem lstep_any (w : World) (d : Nat) (vc vs : Value) (zs : List Int) (ns : List Nat) (p c : Nat) (s : Value) (bs : List Nat) (hg : Good zs ns) (hd : Dec w d vc vs ns) (hs : St w p s bs c) (hc : c ≤ 8 * bs.length) (hlen : bs.length ≤ 100000000) (hdis : ∀ k, DF d vc vs k → ¬ Fp p s k) :
    Calls Tryd.prog 82 #[.pointer (some ⟨p, 0, none⟩), .pointer (some ⟨d, 0, none⟩)] w fun e w' => RStepA w' p s bs c e (stepF ns (ofBytes bs) c) ∧ Kept (· = p) w w' := by
  obtain ⟨W, hW⟩ : ∃ W, W = w.alloc (.cells #[.int .i64 0, .int .i64 0] 31) := ⟨_, rfl⟩
  have hk0 : Same w W := by rw [hW]; exact (Kept.refl _ w).alloc _
  have HN := lnext_any W d vc vs zs ns p c s bs hg (hd.kept hk0 (fun _ _ f => f)) (hs.kept hk0 (fun _ _ f => f)) hc hlen hdis
  have HK0 : Hid (Same w W) := hk0
  have HBK : Hid (Blk W w.heap.size #[.int .i64 0, .int .i64 0] 31) := hid (by rw [hW]; exact Blk.new w _ _)
  have hpw : p < w.heap.size := hs.lt
  have HB : Hid (∀ b ∈ bs, b < 256) := hs.byte
  obtain ⟨sym, long, er, hnf⟩ : ∃ a b c', nextF ns ((ofBytes bs).drop c) = (a, b, c') := ⟨_, _, _, rfl⟩
  rw [hnf] at HN
  simp only at HN
  have HF : Hid (stepF ns (ofBytes bs) c = if er ≠ 0 then .error er else if 8 * bs.length < c + long + xbits sym then .error 10 else .ok ((sym, numAt (ofBytes bs) (c + long) (xbits sym)), c + long + xbits sym)) := hid (by
    unfold stepF
    rw [hnf, ofBytes_length])
  have HSH := fun W2 => shape_any W2 (sym : Int)
  rw [widthM_nat] at HSH
  have hx7 := xbits_le sym
  obtain ⟨xb, hxb⟩ : ∃ x, x = xbits sym := ⟨_, rfl⟩
  rw [← hxb] at HF HSH hx7
  have HP : Hid (∀ k, Fp p s k → k < w.heap.size) := hid (fun k h => hs.fp_lt h)
  clear hd hs hdis hnf hk0 hxb
  go_enter Tryd.func82, Tryd.ntmps82
  go_wp2_with fail
  rw [← hW]
  clear hW
  refine HN.mono ?_
  rintro e w2 ⟨rfl, hs2, hc2, hk2⟩
  have HST2 : Hid (St w2 p s bs (c + long)) := hs2
  have HK2 : Hid (Kept (· = p) W w2) := hk2
  have HB2 : Hid (Blk w2 w.heap.size #[.int .i64 0, .int .i64 0] 31) := hid (HBK.out.kept hk2 (by omega))
  have f1 : w2.frozen? ⟨w.heap.size, 0, none⟩ = false := HB2.out.frozen 0
  have f2 : w2.frozen? ⟨w.heap.size, 1, none⟩ = false := HB2.out.frozen 1
  have c1 : w2.cell? ⟨w.heap.size, 0, none⟩ = some (.int .i64 0) := HB2.out.cell 0
  have c2 : w2.cell? ⟨w.heap.size, 1, none⟩ = some (.int .i64 0) := HB2.out.cell 1
  have hcl : c ≤ c + long := by omega
  have HKW : Hid (Kept (· = p) w w2) := hid (Kept.trans (HK0.out.mono (fun _ _ f => f.elim)) hk2 (fun _ _ h => h) (fun _ _ h => h))
  clear hs2 hk2 HN
  by_cases her : er = 0
  · have hed : ((er : Int) != 0) = false := by simp; omega
    have HER : Hid (er = 0) := her
    have her0 : (er : Int) = 0 := by omega
    clear her
    go_wp2_with fail
    refine (HSH _).mono ?_
    rintro e w3 ⟨rfl, hw3⟩
    subst hw3
    clear HSH
    by_cases hfit : c + long + xb ≤ 8 * bs.length
    · have HT := take_good p (c + long) xb s bs w3 HST2.out (by omega) (by omega) hfit
      rw [num_bits bs HB.out _ xb hfit] at HT
      obtain ⟨x, hx⟩ : ∃ x, x = numAt (ofBytes bs) (c + long) xb := ⟨_, rfl⟩
      have hxl : x < 2 ^ 7 := by
        rw [hx]
        exact Nat.lt_of_lt_of_le (numAt_lt _ (ofBytes_lt bs) _ _) (Nat.pow_le_pow_right (by decide) hx7)
      rw [← hx] at HT HF
      have hxw : wrap64 (x : Int) = (x : Int) := by unfold wrap64; omega
      have HE : Hid (stepF ns (ofBytes bs) c = .ok ((sym, x), c + long + xb)) := hid (by rw [HF.out, HER.out, if_neg (by simp), if_neg (by omega)])
      have HFIT : Hid (c + long + xb ≤ 8 * bs.length) := hfit
      clear hx hfit
      go_wp2_with fail
      refine HT.mono ?_
      rintro e w4 ⟨rfl, hs4, hk4⟩
      have HST4 : Hid (St w4 p s bs (c + long + xb)) := hs4
      have HB4 : Hid (Blk w4 w.heap.size #[.int .i64 0, .int .i64 0] 31) := hid (HB2.out.kept hk4 (by omega))
      have HK4 : Hid (Kept (· = p) w w4) := hid (Kept.trans HKW.out hk4 (fun _ _ h => h) (fun _ _ h => h))
      have f3 : w4.frozen? ⟨w.heap.size, 0, none⟩ = false := HB4.out.frozen 0
      have f4 : w4.frozen? ⟨w.heap.size, 1, none⟩ = false := HB4.out.frozen 1
      have c3 : w4.cell? ⟨w.heap.size, 0, none⟩ = some (.int .i64 0) := HB4.out.cell 0
      have c4 : w4.cell? ⟨w.heap.size, 1, none⟩ = some (.int .i64 0) := HB4.out.cell 1
      clear hs4 hk4 HT f1 f2 c1 c2
      go_wp2_with fail
      have HKF : Hid (Kept (· = w.heap.size) w4 ((w4.setCell ⟨w.heap.size, 0, none⟩ (.int .i64 (sym : Nat))).setCell ⟨w.heap.size, 1, none⟩ (.int .i64 (x : Nat)))) := hid (((Kept.refl (· = w.heap.size) w4).setCell ⟨w.heap.size, 0, none⟩ _ (.inl rfl)).setCell ⟨w.heap.size, 1, none⟩ _ (.inl rfl))
      refine bodyPost_ret (v := .tuple #[.agg #[.int .i64 (sym : Nat), .int .i64 (x : Nat)], .int .i64 0]) (by simp [results, Tryd.results82, go_sem, c3, c4]) rfl ?_
      refine ⟨?_, Kept.trans HK4.out HKF.out (fun _ _ h => h) (fun k hk e => by omega)⟩
      rw [HE.out]
      exact ⟨rfl, HFIT.out, HST4.out.kept HKF.out (fun k h e => by have := HP.out k h; omega)⟩
    · have HT := take_end p (c + long) xb s bs w3 HST2.out hc2 (by omega) (by omega) (by omega)
      have HE : Hid (stepF ns (ofBytes bs) c = .error 10) := hid (by rw [HF.out, HER.out, if_neg (by simp), if_pos (by omega)])
      clear hfit
      go_wp2_with fail
      refine HT.mono ?_
      rintro e w4 ⟨rfl, m, hw4⟩
      subst hw4
      clear HT
      go_wp2_with fail
      have HKF : Hid (Kept (· = w.heap.size) w3 (((w3.drewN m).setCell ⟨w.heap.size, 0, none⟩ (.int .i64 0)).setCell ⟨w.heap.size, 1, none⟩ (.int .i64 0))) := hid ((((Kept.refl (· = w.heap.size) w3).drewN m).setCell ⟨w.heap.size, 0, none⟩ _ (.inl rfl)).setCell ⟨w.heap.size, 1, none⟩ _ (.inl rfl))
      refine bodyPost_ret (v := .tuple #[.agg #[.int .i64 0, .int .i64 0], .int .i64 10]) (by simp [results, Tryd.results82, go_sem, c1, c2]) rfl ?_
      refine ⟨?_, Kept.trans HKW.out HKF.out (fun _ _ h => h) (fun k hk e => by omega)⟩
      rw [HE.out]
      exact ⟨rfl, by decide, c + long, hcl, hc2, HST2.out.kept HKF.out (fun k h e => by have := HP.out k h; omega)⟩
  · have hed : ((er : Int) != 0) = true := by simp; omega
    have HE : Hid (stepF ns (ofBytes bs) c = .error er) := hid (by rw [HF.out, if_pos her])
    have HER : Hid (er ≠ 0) := her
    clear her
    go_wp2_with fail
    have HKF : Hid (Kept (· = w.heap.size) w2 ((w2.setCell ⟨w.heap.size, 0, none⟩ (.int .i64 0)).setCell ⟨w.heap.size, 1, none⟩ (.int .i64 0))) := hid (((Kept.refl (· = w.heap.size) w2).setCell ⟨w.heap.size, 0, none⟩ _ (.inl rfl)).setCell ⟨w.heap.size, 1, none⟩ _ (.inl rfl))
    refine bodyPost_ret (v := .tuple #[.agg #[.int .i64 0, .int .i64 0], .int .i64 (er : Nat)]) (by simp [results, Tryd.results82, go_sem, c1, c2]) rfl ?_
    refine ⟨?_, Kept.trans HKW.out HKF.out (fun _ _ h => h) (fun k hk e => by omega)⟩
    rw [HE.out]
    exact ⟨rfl, HER.out, c + long, hcl, hc2, HST2.out.kept HKF.out (fun k h e => by have := HP.out k h; omega)⟩

end Go.Proofs.YtofhlnpbflkdlaaDoor

/-
  The program's readSteps.
-/
namespace Go.Proofs.YtofhlnpbflkdlaaDoor
open Go.RowKit

/-- An answer of readSteps. -/
def RStepsA (w w' : World) (p : Nat) (s : Value) (bs : List Nat) (c : Nat) (e : Ending) : Except Nat (List Nat × Nat) → Prop
  | .error er => e = .returned (.tuple #[.slice none 0 0, .int .i64 (er : Nat)]) ∧ er ≠ 0 ∧ ∃ c', c ≤ c' ∧ c' ≤ 8 * bs.length ∧ St w' p s bs c'
  | .ok (l, c') => (∃ v', e = .returned (.tuple #[v', .int .i64 0]) ∧ NRow w.heap.size w' v' l) ∧ c' ≤ 8 * bs.length ∧ St w' p s bs c'

set_option maxRecDepth 100000 in
set_option maxHeartbeats 2000000 in
theorem lsteps_any (w : World) (d : Nat) (vc vs : Value) (zs : List Int) (ns : List Nat) (p c : Nat) (s : Value) (bs : List Nat) (N : Nat) (hg : Good zs ns) (hd : Dec w d vc vs ns) (hs : St w p s bs c) (hc : c ≤ 8 * bs.length) (hlen : bs.length ≤ 100000000) (hdis : ∀ k, DF d vc vs k → ¬ Fp p s k) (hN : N ≤ 1000) :
    Calls Tryd.prog 71 #[.pointer (some ⟨p, 0, none⟩), .pointer (some ⟨d, 0, none⟩), .int .i64 (N : Nat)] w fun e w' => RStepsA w w' p s bs c e (bodyF ns (ofBytes bs) N N [] c) ∧ Kept (· = p) w w' := by
  have HG : Hid (Good zs ns) := hg
  have HD : Hid (Dec w d vc vs ns) := hd
  have HST : Hid (St w p s bs c) := hs
  have HDIS : Hid (∀ k, DF d vc vs k → ¬ Fp p s k) := hdis
  have HP : Hid (∀ k, Fp p s k → k < w.heap.size) := hid (fun k h => hs.fp_lt h)
  clear hg hd hs hdis
  go_enter Tryd.func71, Tryd.ntmps71
  go_wp2_with fail
  go_loopg [8, 9, 10] N (fun q zo _ _ wr => ∃ (l : List Nat) (f ci : Nat), N - l.length ≤ q ∧ N - l.length ≤ f ∧ c ≤ ci ∧ ci ≤ 8 * bs.length ∧ Hid (bodyF ns (ofBytes bs) N N [] c = bodyF ns (ofBytes bs) N f l ci) ∧ Hid (l.length ≤ N ∧ ∀ x ∈ l, x ≤ 15) ∧ Hid (NRow w.heap.size wr zo l) ∧ Hid (St wr p s bs ci) ∧ Hid (Kept (· = p) w wr))
  case atStart => exact ⟨[], N, c, by simp, by simp, by omega, hc, rfl, hid ⟨by simp, by simp⟩, RowE.nil, HST, Kept.refl _ _⟩
  case round =>
    clear HST
    obtain ⟨l, f, ci, hq, hf, hci, hci8, HBF, HLL, HV, HST, HK⟩ := hrel
    have hsz := HK.out.size
    have hl1 : l.length ≤ 1000000 := by have := HLL.out.1; omega
    obtain ⟨a8, cap8, hv8, _⟩ := HV.out.shape
    subst hv8
    have HDW : Hid (Dec wr d vc vs ns) := hid (HD.out.kept HK.out (fun k h e => HDIS.out k h (.inl e)))
    have HRS := lstep_any wr d vc vs zs ns p ci s bs HG.out HDW.out HST.out hci8 hlen HDIS.out
    have HMS := fun (W : World) (x y : Int) => mayStand_any W x y l.length N hl1
    have HSAYS := fun (W : World) (x y : Int) (hr : NRow w.heap.size W (.slice a8 l.length cap8) l) (hB : w.heap.size ≤ W.heap.size) (hm : mayB (x, y) l.length N) => say_any W w.heap.size _ l x y N hr hB hl1 hm
    by_cases hlt : l.length < N
    · obtain ⟨f, rfl⟩ : ∃ g, f = g + 1 := ⟨f - 1, by omega⟩
      obtain ⟨L, hL⟩ : ∃ L, L = l.length := ⟨_, rfl⟩
      have HL : Hid (L = l.length) := hL
      cases hsf : stepF ns (ofBytes bs) ci with
      | error er =>
        rw [hsf] at HRS
        have HE : Hid (bodyF ns (ofBytes bs) N N [] c = .error er) := hid (by rw [HBF.out, bodyF_err hlt hsf])
        rw [← hL] at HV hq hf hl1 hlt HMS HSAYS ⊢
        clear hsf hL HMS HSAYS
        go_wp2_with fail
        refine HRS.mono ?_
        rintro e w2 ⟨⟨rfl, her, c', hc1, hc2, hs2⟩, hk2⟩
        have HST2 : Hid (St w2 p s bs c') := hs2
        have HK2 : Hid (Kept (· = p) w w2) := hid (Kept.trans HK.out hk2 (fun _ _ h => h) (fun _ _ h => h))
        have hed : ((er : Int) != 0) = true := by simp; omega
        have HER : Hid (er ≠ 0) := her
        have hcc : c ≤ c' := by omega
        have HP2 : Hid (∀ k, Fp p s k → k < w2.heap.size) := hid (fun k h => by have := HP.out k h; have := HK2.out.size; omega)
        clear hs2 hk2 HRS her
        go_wp2_with fail
        go_ret2
        refine ⟨?_, HK2.out.alloc _⟩
        rw [HE.out]
        exact ⟨rfl, HER.out, c', hcc, hc2, HST2.out.kept ((Kept.refl (fun _ => False) w2).alloc _) (fun _ _ f => f)⟩
      | ok r =>
        obtain ⟨⟨sy, x⟩, c'⟩ := r
        rw [hsf] at HRS
        have HBS : Hid (bodyF ns (ofBytes bs) N N [] c = match withM l ((sy : Int), (x : Int)) N with | none => .error 41 | some m => bodyF ns (ofBytes bs) N f m c') := hid (by rw [HBF.out, bodyF_step hlt hsf]; all_goals rfl)
        have hcc : ci ≤ c' := stepF_ge hsf
        have HMS2 := fun W => HMS W (sy : Int) (x : Int)
        have HSA2 := fun W => HSAYS W (sy : Int) (x : Int)
        rw [← hL] at HV hq hf hl1 hlt HMS2 HSA2 ⊢
        clear hsf hL HMS HSAYS
        go_wp2_with fail
        refine HRS.mono ?_
        rintro e w2 ⟨⟨rfl, hc2, hs2⟩, hk2⟩
        have HST2 : Hid (St w2 p s bs c') := hs2
        have HK2 : Hid (Kept (· = p) w w2) := hid (Kept.trans HK.out hk2 (fun _ _ h => h) (fun _ _ h => h))
        have HV2 : Hid (NRow w.heap.size w2 (.slice a8 L cap8) l) := hid (HV.out.kept hk2 (fun k e h => by have h1 := HV.out.ge e; have h2 := HP.out p (.inl rfl); omega))
        have hsz2 := HK2.out.size
        clear hs2 hk2 HRS HST HK HV HDW
        by_cases hmay : mayB ((sy : Int), (x : Int)) L N
        · have HM : Hid (withM l ((sy : Int), (x : Int)) N = some (l ++ List.replicate (leastM (sy : Int) + (x : Int).toNat) (sayV (sy : Int) l))) := hid (withM_may (by rw [← HL.out]; exact hmay))
          have HMAY : Hid (mayB ((sy : Int), (x : Int)) L N) := hmay
          clear hmay
          obtain ⟨m, hm⟩ : ∃ m, m = l ++ List.replicate (leastM (sy : Int) + (x : Int).toNat) (sayV (sy : Int) l) := ⟨_, rfl⟩
          rw [← hm] at HM HSA2
          have hgr := withM_grows HM.out HLL.out.2
          have HBM : Hid (bodyF ns (ofBytes bs) N N [] c = bodyF ns (ofBytes bs) N f m c') := hid (by rw [HBS.out, HM.out])
          have HMM : Hid (m.length ≤ N ∧ ∀ x ∈ m, x ≤ 15) := hid hgr.2
          have hLm : L < m.length := by rw [HL.out]; exact hgr.1
          clear hm hgr
          go_wp2_with fail
          refine (HMS2 _).mono ?_
          rintro e w3 ⟨he, hk3⟩
          have he2 := he.yes HMAY.out
          subst he2
          have c3 : w3.cell? ⟨w2.heap.size, 0, none⟩ = some (.int .i64 (sy : Nat)) := hk3.cell (by simp) (fun f => f)
          have c4 : w3.cell? ⟨w2.heap.size, 1, none⟩ = some (.int .i64 (x : Nat)) := hk3.cell (by simp) (fun f => f)
          have HK3 : Hid (Same w2 w3) := hid (Same.trans ((Kept.refl _ w2).alloc _) hk3)
          have hsz3 : w.heap.size ≤ w3.heap.size := by have h2 := HK3.out.size; omega
          have HSY := HSA2 w3 (HV2.out.same HK3.out) hsz3 HMAY.out
          clear he hk3 HMS2 HSA2
          go_wp2_with fail
          refine HSY.mono ?_
          rintro e w4 ⟨v4, rfl, hr4, hk4⟩
          have HV4 : Hid (NRow w.heap.size w4 v4 m) := hr4
          have HST4 : Hid (St w4 p s bs c') := hid ((HST2.out.kept HK3.out (fun _ _ f => f)).kept hk4 (fun k h e => by have := HP.out k h; unfold Over at e; omega))
          have HK4 : Hid (Kept (· = p) w w4) := hid (Kept.trans (Kept.trans HK2.out HK3.out (fun _ _ h => h) (fun _ _ f => f.elim)) hk4 (fun _ _ h => h) (fun k hk e => by unfold Over at e; omega))
          clear hr4 hk4 HSY c3 c4
          go_wp2_with fail
          go_roundg (gk - 1)
          case measure => omega
          case rel => exact ⟨m, f, c', by omega, by omega, by omega, hc2, HBM, HMM, HV4, HST4, HK4⟩
        · have HM : Hid (withM l ((sy : Int), (x : Int)) N = none) := hid (withM_no (by rw [← HL.out]; exact hmay))
          have HMAY : Hid (¬ mayB ((sy : Int), (x : Int)) L N) := hmay
          have HE : Hid (bodyF ns (ofBytes bs) N N [] c = .error 41) := hid (by rw [HBS.out, HM.out])
          have hccc : c ≤ c' := by omega
          clear hmay
          go_wp2_with fail
          refine (HMS2 _).mono ?_
          rintro e w3 ⟨he, hk3⟩
          have he2 := he.no HMAY.out
          subst he2
          have HK3 : Hid (Same w2 w3) := hid (Same.trans ((Kept.refl _ w2).alloc _) hk3)
          clear he hk3 HMS2 HSA2
          go_wp2_with fail
          go_ret2
          refine ⟨?_, Kept.trans HK2.out HK3.out (fun _ _ h => h) (fun _ _ f => f.elim)⟩
          rw [HE.out]
          exact ⟨rfl, by decide, c', hccc, hc2, HST2.out.kept HK3.out (fun _ _ f => f)⟩
    · have HE : Hid (bodyF ns (ofBytes bs) N N [] c = .ok (l, ci)) := hid (by rw [HBF.out, bodyF_end (by omega)])
      obtain ⟨L, hL⟩ : ∃ L, L = l.length := ⟨_, rfl⟩
      rw [← hL] at HV hlt ⊢
      clear hL HMS HSAYS HRS hq hf
      go_wp2_with fail
      go_ret2
      refine ⟨?_, HK.out⟩
      rw [HE.out]
      exact ⟨⟨_, rfl, HV.out⟩, hci8, HST.out⟩

end Go.Proofs.YtofhlnpbflkdlaaDoor

/-
  The program's readCodes.
-/
namespace Go.Proofs.YtofhlnpbflkdlaaDoor
open Go.RowKit

/-- The order of the codes' lengths, as the program's variable holds it. -/
def Tab (w : World) : Prop := ∀ i, i < 19 → w.cell? ⟨0, i, none⟩ = some (.int .i64 ((ord.getD i 0 : Nat) : Int))

theorem Tab.kept {F : Nat → Prop} {w w' : World} (h : Tab w) (hk : Kept F w w') (hF : ¬ F 0) : Tab w' := fun i hi => hk.cell (h i hi) hF

theorem numsAt_three (ls : List Nat) (c n i : Nat) (hi : i < (numsAt ls c (List.replicate n 3)).length) : (numsAt ls c (List.replicate n 3))[i] = numAt ls (c + 3 * i) 3 := by
  induction n generalizing c i with
  | zero => simp [numsAt] at hi
  | succ n ih =>
    cases i with
    | zero => simp [List.replicate_succ, numsAt]
    | succ i =>
      simp only [List.replicate_succ, numsAt, List.getElem_cons_succ]
      rw [ih (c + 3) i (by simpa [List.replicate_succ, numsAt] using hi)]
      congr 1
      omega

theorem nrow_of_l {B : Nat} {w : World} {v : Value} {xs : List Nat} (h : RowC B 3 1 natL w v xs) : NRow B w v xs := by
  unfold RowC at h
  rw [natL_flat] at h
  exact h

theorem sum_three (n : Nat) : (List.replicate n 3).sum = 3 * n := by
  induction n with
  | zero => rfl
  | succ n ih => rw [List.replicate_succ, List.sum_cons, ih]; omega

theorem chk_good (l : List Nat) (hl : l.length = 19) (h7 : ∀ x ∈ l, x ≤ 7) (h : chkN l = 0) : Good (l.map (fun (n : Nat) => (n : Int))) l := by
  have hg := good_of (zs := l.map (fun (n : Nat) => (n : Int))) (by rw [chk_codes l hl h7]; exact h)
  have e : (l.map (fun (n : Nat) => (n : Int))).map Int.toNat = l := by
    rw [List.map_map]
    conv => rhs; rw [← List.map_id l]
    exact List.map_congr_left (fun x _ => by simp)
  rw [e] at hg
  exact hg

/-- An answer of readCodes. -/
def RCodesA (w w' : World) (p : Nat) (s : Value) (bs : List Nat) (c come : Nat) (e : Ending) : Prop :=
  (8 * bs.length < c + 3 * come ∧ e = .returned (.tuple #[.pointer none, .int .i64 10]) ∧ ∃ c', c ≤ c' ∧ c' ≤ 8 * bs.length ∧ St w' p s bs c') ∨
  (c + 3 * come ≤ 8 * bs.length ∧ St w' p s bs (c + 3 * come) ∧
    ((chkN (codesF (ofBytes bs) c come) ≠ 0 ∧ e = .returned (.tuple #[.pointer none, .int .i64 (chkN (codesF (ofBytes bs) c come) : Nat)])) ∨
      (chkN (codesF (ofBytes bs) c come) = 0 ∧ ∃ d vc vs, e = .returned (.tuple #[.pointer (some ⟨d, 0, none⟩), .int .i64 0]) ∧ Dec w' d vc vs (codesF (ofBytes bs) c come) ∧ ∀ k, DF d vc vs k → w.heap.size ≤ k)))

set_option maxRecDepth 100000 in
set_option maxHeartbeats 2000000 in
theorem lcodes_any (w : World) (p c : Nat) (s : Value) (bs : List Nat) (come : Nat) (hs : St w p s bs c) (hc : c ≤ 8 * bs.length) (hlen : bs.length ≤ 100000000) (h19 : come ≤ 19) (hT : Tab w) (hpg : p ≠ 0) :
    Calls Tryd.prog 70 #[.pointer (some ⟨p, 0, none⟩), .int .i64 (come : Nat)] w fun e w' => RCodesA w w' p s bs c come e ∧ Kept (· = p) w w' := by
  obtain ⟨W, hW⟩ : ∃ W, W = w.alloc (.cells #[.int .i64 3] 3) := ⟨_, rfl⟩
  have hk0 : Same w W := by rw [hW]; exact (Kept.refl _ w).alloc _
  have HK0 : Hid (Same w W) := hk0
  have HRP := repeatN_any W ⟨w.heap.size, 0, none⟩ 3 come (by rw [hW]; exact cellsAt_new w 3 (natV 3)) (by omega)
  have HST : Hid (St W p s bs c) := hid (hs.kept hk0 (fun _ _ f => f))
  have HT : Hid (Tab W) := hid (hT.kept hk0 (fun f => f))
  have HP : Hid (∀ k, Fp p s k → k < w.heap.size) := hid (fun k h => hs.fp_lt h)
  have hpw : p < w.heap.size := hs.lt
  have hsW := hk0.size
  clear hs hT hk0
  go_enter Tryd.func70, Tryd.ntmps70
  go_wp2_with fail
  rw [← hW]
  clear hW
  refine HRP.mono ?_
  rintro e w1 ⟨g, rfl, hr1, hk1⟩
  have hr1n := nrow_of_l hr1
  have hTK := ltake_any w1 p c s bs (.slice (some ⟨g, 0, none⟩) come come) _ (List.replicate come 3) (HST.out.kept hk1 (fun _ _ f => f)) hc hlen (SrcE.ofRow hr1n) (fun k e => by have := hr1n.ge e; omega) (fun n hn => by have := List.eq_of_mem_replicate hn; omega) (by simp; omega)
  have HK1 : Hid (Same w w1) := hid (Same.trans HK0.out hk1)
  have HT1 : Hid (Tab w1) := hid (HT.out.kept hk1 (fun f => f))
  clear hr1 hk1 HRP hr1n HST HT
  go_wp2_with fail
  refine hTK.mono ?_
  rintro e w2 ⟨hta, hk2⟩
  have HK2 : Hid (Kept (· = p) w w2) := hid (Kept.trans (HK1.out.mono (fun _ _ f => f.elim)) hk2 (fun _ _ h => h) (fun _ _ h => h))
  have HT2 : Hid (Tab w2) := hid (HT1.out.kept hk2 (fun e => hpg e.symm))
  have hsz1 := HK1.out.size
  have hsz2 := HK2.out.size
  have hsz12 := hk2.size
  clear hk2 hTK
  rcases hta with ⟨hfit, ⟨v2, rfl, hr2⟩, hs2⟩ | ⟨hbig, rfl, c', hc1, hc2, hs2⟩
  · have HF : Hid (c + 3 * come ≤ 8 * bs.length) := by rw [sum_three] at hfit; exact hfit
    have HS2 : Hid (St w2 p s bs (c + 3 * come)) := by rw [sum_three] at hs2; exact hs2
    have HR2 : Hid (NRow w1.heap.size w2 v2 (numsAt (ofBytes bs) c (List.replicate come 3))) := hr2
    have hnl := numsAt_length (ofBytes bs) c (List.replicate come 3)
    rw [List.length_replicate] at hnl
    obtain ⟨a2, cap2, hv2, _⟩ := hr2.shape
    subst hv2
    rw [hnl] at HR2 ⊢
    clear hfit hs2 hr2
    have HNL : Hid ((numsAt (ofBytes bs) c (List.replicate come 3)).length = come) := hnl
    clear hnl
    go_wp2_with (at_make; refine wpList_make_e _ natV 0 w2.heap.size 22 3 8 Tryd.underlying22 Tryd.infoN rfl (by decide) rfl _ _ rfl _ _ _ _ 19 rfl rfl rfl rfl (by decide) (Nat.le_refl _) ?_; intro w3 hr3 hg3 hs3; have HR3 : Hid (NRow w2.heap.size w3 (.slice (some ⟨w2.heap.size, 0, none⟩) 19 19) (codesF (ofBytes bs) c 0)) := hid hr3; have HK3 : Hid (Same w2 w3) := hid ((Kept.refl _ w2).grown hg3 (fun j e => by cases e)); clear hr3 hg3)
    go_loopg [9, 10, 25] come (fun q _ _ zi wr => ∃ (i : Nat), come - i ≤ q ∧ i ≤ come ∧ zi = .int .i64 (i : Nat) ∧ Hid (NRow w2.heap.size wr (.slice (some ⟨w2.heap.size, 0, none⟩) 19 19) (codesF (ofBytes bs) c i)) ∧ Hid (Same w2 wr))
    case atStart => exact ⟨0, by omega, by omega, rfl, HR3, HK3⟩
    case round =>
      clear HR3 HK3 hs3
      obtain ⟨i, hq, hi, rfl, HV, HK⟩ := hrel
      by_cases hlt : i < come
      · obtain ⟨b, o, cap', e, _, _, cx⟩ := (SrcE.ofRow (HR2.out.same HK.out)).get i (by rw [HNL.out]; exact hlt)
        rw [HNL.out] at e
        simp only [Value.slice.injEq] at e
        obtain ⟨rfl, hxe, rfl⟩ := e
        clear hxe
        rw [numsAt_three] at cx
        obtain ⟨x, hx⟩ : ∃ x, x = numAt (ofBytes bs) (c + 3 * i) 3 := ⟨_, rfl⟩
        rw [← hx] at cx
        unfold natV at cx
        have ct := (HT2.out.kept HK.out (fun f => f)) i (by omega)
        have ho18 := ord_le i (by omega)
        obtain ⟨oi, hoi⟩ : ∃ x, x = ord.getD i 0 := ⟨_, rfl⟩
        rw [← hoi] at ct ho18
        have cl : wr.cell? ⟨w2.heap.size, oi, none⟩ = some (natV (codesF (ofBytes bs) c i)[oi]!) := by
          have h := HV.out.cell oi (by rw [codesF_length]; omega)
          rw [h]
          congr 2
          rw [getElem!_pos]
        have fl : wr.frozen? ⟨w2.heap.size, oi, none⟩ = false := HV.out.frozen oi
        have HV2 : Hid (NRow w2.heap.size (wr.setCell ⟨w2.heap.size, oi, none⟩ (.int .i64 (x : Nat))) (.slice (some ⟨w2.heap.size, 0, none⟩) 19 19) (codesF (ofBytes bs) c (i + 1))) := hid (by
          have h := HV.out.lay oi x
          rw [hx, hoi] at h ⊢
          exact h)
        have HKN : Hid (Same w2 (wr.setCell ⟨w2.heap.size, oi, none⟩ (.int .i64 (x : Nat)))) := hid (HK.out.setCell _ _ (.inr (Nat.le_refl _)))
        generalize (codesF (ofBytes bs) c i)[oi]! = old at cl
        clear hx hoi
        go_wp2_with fail
        go_roundg (gk - 1)
        case measure => omega
        case rel => exact ⟨i + 1, by omega, by omega, by go_num, HV2, HKN⟩
      · have hic : i = come := by omega
        subst hic
        clear hq hlt
        have hcl := codesF_length (ofBytes bs) c i
        have hc7 := codesF_le (ofBytes bs) (ofBytes_lt bs) c i
        have hsrc : SrcE intV wr _ (.slice (some ⟨w2.heap.size, 0, none⟩) 19 19) ((codesF (ofBytes bs) c i).map (fun (n : Nat) => (n : Int))) := (SrcE.ofRow HV.out).recode (by rw [List.map_map]; rfl)
        have HSTF : Hid (St wr p s bs (c + 3 * i)) := hid (HS2.out.kept HK.out (fun _ _ f => f))
        by_cases hch : chkN (codesF (ofBytes bs) c i) = 0
        · have HN := new_good wr _ _ _ _ hsrc (chk_good _ hcl hc7 hch) (by rw [chk_codes _ hcl hc7]; exact hch)
          have HCH : Hid (chkN (codesF (ofBytes bs) c i) = 0) := hch
          have hszr := HK.out.size
          clear hch hsrc hcl hc7
          go_wp2_with fail
          refine HN.mono ?_
          rintro e w5 ⟨⟨d, vc, vs, rfl, hdec, hdf⟩, hk5⟩
          have HDEC : Hid (Dec w5 d vc vs (codesF (ofBytes bs) c i)) := hdec
          have HDF : Hid (∀ k, DF d vc vs k → w.heap.size ≤ k) := hid (fun k h => by have := hdf k h; omega)
          have HK5 : Hid (Same wr w5) := hk5
          clear hdec hdf hk5 HN
          go_wp2_with fail
          go_ret2
          exact ⟨.inr ⟨HF.out, HSTF.out.kept HK5.out (fun _ _ f => f), .inr ⟨HCH.out, d, vc, vs, rfl, HDEC.out, HDF.out⟩⟩, Kept.trans (Kept.trans HK2.out HK.out (fun _ _ h => h) (fun _ _ f => f.elim)) HK5.out (fun _ _ h => h) (fun _ _ f => f.elim)⟩
        · have HN := new_bad wr _ _ _ hsrc (by simp [hcl]) (by rw [chk_codes _ hcl hc7]; exact hch)
          rw [chk_codes _ hcl hc7] at HN
          have HCH : Hid (chkN (codesF (ofBytes bs) c i) ≠ 0) := hch
          clear hch hsrc hcl hc7
          go_wp2_with fail
          refine HN.mono ?_
          rintro e w5 ⟨rfl, hk5⟩
          have HK5 : Hid (Same wr w5) := hk5
          clear hk5 HN
          go_wp2_with fail
          go_ret2
          exact ⟨.inr ⟨HF.out, HSTF.out.kept HK5.out (fun _ _ f => f), .inl ⟨HCH.out, rfl⟩⟩, Kept.trans (Kept.trans HK2.out HK.out (fun _ _ h => h) (fun _ _ f => f.elim)) HK5.out (fun _ _ h => h) (fun _ _ f => f.elim)⟩
  · have HB : Hid (8 * bs.length < c + 3 * come) := by rw [sum_three] at hbig; exact hbig
    have HS2 : Hid (St w2 p s bs c') := hs2
    clear hbig hs2
    go_wp2_with fail
    go_ret2
    exact ⟨.inl ⟨HB.out, rfl, c', hc1, hc2, HS2.out⟩, HK2.out⟩

end Go.Proofs.YtofhlnpbflkdlaaDoor

/-
  The program's Unpack.
-/
namespace Go.Proofs.YtofhlnpbflkdlaaDoor
open Go.RowKit

set_option maxRecDepth 100000 in
set_option maxHeartbeats 2000000 in
theorem lunpack_any (w : World) (v : Value) (I : Nat → Prop) (ss : List (Int × Int)) (nz : Int) (hs : StSrc w I v ss) (hlen : ss.length ≤ 10000000) :
    Calls Tryd.prog 15 #[v, .int .i64 nz] w fun e w' => UnpA w w' e (unpM ss nz) := by
  obtain ⟨ao, cap, rfl, hx1, hx2⟩ := id hs
  clear hx1 hx2
  have HS : Hid (StSrc w I (.slice ao ss.length cap) ss) := hs
  have HWI := within_any w nz 0 316
  clear hs
  by_cases hout : nz < 0 ∨ 316 < nz
  · have HE : Hid (unpM ss nz = .error 1) := hid (by unfold unpM; rw [if_pos hout])
    have hin : inB nz 0 316 = false := by
      unfold inB
      rcases hout with h | h
      · have : ¬ 0 ≤ nz := by omega
        simp [this]
      · have : ¬ nz ≤ 316 := by omega
        simp [this]
    rw [hin] at HWI
    clear hout hin
    go_enter Tryd.func15, Tryd.ntmps15
    go_wp2_with fail
    refine HWI.mono ?_
    rintro e w1 ⟨rfl, hw1⟩
    subst hw1
    clear HWI
    go_wp2_with fail
    go_ret2
    rw [HE.out]
    exact ⟨rfl, Kept.refl _ _⟩
  · obtain ⟨n, rfl⟩ : ∃ n : Nat, nz = (n : Int) := ⟨nz.toNat, by omega⟩
    have hn : n ≤ 316 := by omega
    have hin : inB (n : Int) 0 316 = true := by
      unfold inB
      have h1 : (0 : Int) ≤ (n : Int) := by omega
      have h2 : (n : Int) ≤ 316 := by omega
      simp [h1, h2]
    rw [hin] at HWI
    have HU : Hid (unpM ss (n : Int) = match runM n [] ss with | none => .error 41 | some l => if l.length < n then .error 41 else .ok l) := hid (by
      unfold unpM
      rw [if_neg (by omega)]
      simp only [Int.toNat_natCast]
      all_goals rfl)
    clear hout hin
    go_enter Tryd.func15, Tryd.ntmps15
    go_wp2_with fail
    refine HWI.mono ?_
    rintro e w1 ⟨rfl, hw1⟩
    subst hw1
    clear HWI
    go_wp2_with fail
    go_loopg [6, 8, 14] ss.length (fun q zl _ zi wr => ∃ (i : Nat) (l : List Nat), ss.length - i ≤ q ∧ i ≤ ss.length ∧ zi = .int .i64 (i : Nat) ∧ Hid (runM n [] (ss.take i) = some l ∧ l.length ≤ n ∧ ∀ x ∈ l, x ≤ 15) ∧ Hid (NRow w1.heap.size wr zl l) ∧ Hid (Same w1 wr))
    case atStart => exact ⟨0, [], by omega, by omega, rfl, hid ⟨by simp [runM], by simp, by simp⟩, RowE.nil, Kept.refl _ _⟩
    case round =>
      obtain ⟨i, l, hq, hi, rfl, HRUN, HV, HK⟩ := hrel
      by_cases hlt : i < ss.length
      · obtain ⟨b, o, e1, _, hcell⟩ : ∃ b o, ao = some ⟨b, o, none⟩ ∧ True ∧ ∀ t (_ : t < 2), wr.cell? ⟨b, o + (i * 2 + t), none⟩ = (stC ss[i])[t]? := by
          obtain ⟨ao', cap', e1, _, e2⟩ := HS.out.kept stC_ok HK.out (fun _ _ _ f => f)
          injection e1 with e3 _ _
          subst e3
          obtain ⟨b, o, e4, _, e5⟩ := e2 (by intro e; rw [e] at hlt; simp at hlt)
          exact ⟨b, o, e4, trivial, e5 i hlt⟩
        subst e1
        obtain ⟨x, y, hxy⟩ : ∃ x y, ss[i] = (x, y) := ⟨_, _, rfl⟩
        rw [hxy] at hcell
        have c1 : wr.cell? ⟨b, o + i * 2, none⟩ = some (.int .i64 x) := hcell 0 (by decide)
        have c2 : wr.cell? ⟨b, o + i * 2 + 1, none⟩ = some (.int .i64 y) := hcell 1 (by decide)
        have HSN : Hid (runM n [] (ss.take (i + 1)) = withM l (x, y) n) := hid (by
          rw [List.take_succ_eq_append_getElem hlt, runM_snoc, HRUN.out.1, hxy]
          rfl)
        have hll : l.length ≤ 1000000 := by have := HRUN.out.2.1; omega
        obtain ⟨a6, cap6, hv6, _⟩ := HV.out.shape
        subst hv6
        have HMS := fun W => mayStand_any W x y l.length n hll
        have HSAYS := fun (W : World) (hr : NRow w1.heap.size W (.slice a6 l.length cap6) l) (hB : w1.heap.size ≤ W.heap.size) (hm : mayB (x, y) l.length n) => say_any W w1.heap.size _ l x y n hr hB hll hm
        obtain ⟨L, hL⟩ : ∃ L, L = l.length := ⟨_, rfl⟩
        have HL : Hid (L = l.length) := hL
        rw [← hL] at HMS HSAYS HV hll ⊢
        clear hcell hxy hL
        by_cases hmay : mayB (x, y) L n
        · have HM : Hid (withM l (x, y) n = some (l ++ List.replicate (leastM x + y.toNat) (sayV x l))) := hid (withM_may (by rw [← HL.out]; exact hmay))
          have HMAY : Hid (mayB (x, y) L n) := hmay
          clear hmay
          obtain ⟨m, hm⟩ : ∃ m, m = l ++ List.replicate (leastM x + y.toNat) (sayV x l) := ⟨_, rfl⟩
          rw [← hm] at HM HSAYS
          have HMM : Hid (runM n [] (ss.take (i + 1)) = some m ∧ m.length ≤ n ∧ ∀ x ∈ m, x ≤ 15) := hid ⟨by rw [HSN.out, HM.out], (withM_grows HM.out HRUN.out.2.2).2.1, (withM_grows HM.out HRUN.out.2.2).2.2⟩
          clear hm
          go_wp2_with fail
          refine (HMS _).mono ?_
          rintro e w2 ⟨he, hk2⟩
          have he2 := he.yes HMAY.out
          subst he2
          have c3 : w2.cell? ⟨wr.heap.size, 0, none⟩ = some (.int .i64 x) := hk2.cell (by simp) (fun f => f)
          have c4 : w2.cell? ⟨wr.heap.size, 1, none⟩ = some (.int .i64 y) := hk2.cell (by simp) (fun f => f)
          have HK2 : Hid (Same wr w2) := hid (Same.trans ((Kept.refl _ wr).alloc _) hk2)
          have hsz2 : w1.heap.size ≤ w2.heap.size := by have h1 := HK.out.size; have h2 := HK2.out.size; omega
          have HSY := HSAYS w2 (HV.out.same HK2.out) hsz2 HMAY.out
          clear he hk2 HMS HSAYS
          go_wp2_with fail
          refine HSY.mono ?_
          rintro e w3 ⟨v3, rfl, hr3, hk3⟩
          have HV3 : Hid (NRow w1.heap.size w3 v3 m) := hr3
          have HK3 : Hid (Same w1 w3) := hid (Same.then (Same.trans HK.out HK2.out) hk3 (fun j hj e => by unfold Over at e; omega))
          clear hr3 hk3 HSY c3 c4
          go_wp2_with fail
          go_roundg (gk - 1)
          case measure => omega
          case rel => exact ⟨i + 1, m, by omega, by omega, by go_num, HMM, HV3, HK3⟩
        · have HM : Hid (withM l (x, y) n = none) := hid (withM_no (by rw [← HL.out]; exact hmay))
          have HMAY : Hid (¬ mayB (x, y) L n) := hmay
          have HE : Hid (unpM ss (n : Int) = .error 41) := hid (by
            have h := runM_none (n := n) (l := []) (ss.take (i + 1)) (ss.drop (i + 1)) (by rw [HSN.out, HM.out])
            rw [List.take_append_drop] at h
            rw [HU.out, h])
          clear hmay
          go_wp2_with fail
          refine (HMS _).mono ?_
          rintro e w2 ⟨he, hk2⟩
          have he2 := he.no HMAY.out
          subst he2
          have HK2 : Hid (Same w1 w2) := hid (Same.trans (HK.out.alloc _) hk2)
          clear he hk2 HMS HSAYS
          go_wp2_with fail
          go_ret2
          rw [HE.out]
          exact ⟨rfl, HK2.out⟩
      · have hrun : runM n [] ss = some l := by
          have h := HRUN.out.1
          rw [List.take_of_length_le (by omega)] at h
          exact h
        obtain ⟨ao2, cap2, hv2, _⟩ := HV.out.shape
        subst hv2
        obtain ⟨L, hL⟩ : ∃ L, L = l.length := ⟨_, rfl⟩
        rw [← hL] at HV ⊢
        by_cases hsh : L < n
        · have HE : Hid (unpM ss (n : Int) = .error 41) := hid (by rw [HU.out, hrun]; simp only; rw [if_pos (by omega)])
          clear hrun hL
          go_wp2_with fail
          go_ret2
          rw [HE.out]
          exact ⟨rfl, HK.out⟩
        · have HE : Hid (unpM ss (n : Int) = .ok l) := hid (by rw [HU.out, hrun]; simp only; rw [if_neg (by omega)])
          clear hrun hL
          go_wp2_with fail
          go_ret2
          rw [HE.out]
          exact ⟨_, rfl, HV.out, HK.out⟩

end Go.Proofs.YtofhlnpbflkdlaaDoor
