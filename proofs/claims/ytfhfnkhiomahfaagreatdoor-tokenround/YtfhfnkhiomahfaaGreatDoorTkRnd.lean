/-
  TokenRound's walk.
-/
import Derived.Test.YtfhfnkhiomahfaaGreatDoorTkJ
import Derived.Test.YtfhfnkhiomahfaaGreatDoorTkAr
namespace Go.Proofs.YtfhfnkhiomahfaaGreatDoor
open Go.RowKit Go.Shelf

theorem tx6_extract (l : List UInt8) (a b : Nat) : (tx6 l).extract a b = tx6 ((l.drop a).take (b - a)) := by
  apply data_inj
  rw [tx6_data]
  simp [tx6, ByteArray.data_extract]

theorem cut_hi (b m : List UInt8) : (b ++ 46 :: m).drop (b.length + 1) = m := by
  rw [show b ++ 46 :: m = (b ++ [46]) ++ m by simp, List.drop_append]
  simp

theorem cut_lo (b m : List UInt8) : (b ++ 46 :: m).take (b.length + 1) = b ++ [46] := by
  rw [show b ++ 46 :: m = (b ++ [46]) ++ m by simp, show b.length + 1 = (b ++ [46]).length by simp, List.take_left]

theorem par_cut {x : ByteArray} {t : ByteArray} {u s : Nat} {m : List UInt8} (h : ParR x.data.toList t u s m) : ∃ q, x.size = q + 64 ∧ q = (bodL t u s).length + 1 ∧ x.extract q x.size = tx6 m ∧ x.extract 0 q = tx6 (bodL t u s ++ [46]) := by
  have hx : x = tx6 (bodL t u s ++ 46 :: m) := by rw [← h.2.2, tx6_of]
  have hm := (isM_pt h.2.1).2
  have hz : x.size = (bodL t u s).length + 1 + 64 := by rw [hx, tx6_size, List.length_append, List.length_cons, hm]
  refine ⟨_, hz, rfl, ?_, ?_⟩
  · rw [hz, hx, tx6_extract, cut_hi, List.take_of_length_le (by rw [hm]; omega)]
  · rw [hx, tx6_extract, List.drop_zero, Nat.sub_zero, cut_lo]

theorem par_none_nil : ∀ t u s m, ¬ ParR (ByteArray.mk #[]).data.toList t u s m := fun t u s m h => by
  have h1 := h.2.2
  have h2 := congrArg List.length h1
  simp [bodL] at h2

theorem wrap64_16 (n : Nat) (h : n < 4611686018427387904) : wrap64 (n : Int) = (n : Int) := by unfold wrap64; omega

theorem big16 {n : Nat} (h : ¬ 1048576 < n) : decide ((1048576 : Int) < (n : Int)) = false := by simp; omega

set_option maxRecDepth 100000 in
set_option maxHeartbeats 2000000 in
theorem round16 (w : World) (hW : W6 w) (t : ByteArray) (u s : Int) (k x : ByteArray) (hu : -9223372036854775808 ≤ u ∧ u ≤ 9223372036854775807) (hs : -9223372036854775808 ≤ s ∧ s ≤ 9223372036854775807) :
    Calls Tryz.prog 6 #[.agg #[.string t, .int .i64 u, .int .i64 s], .string k, .string x] w fun e w' => e = .returned (.bool true) ∧ Same w w' := by
  obtain ⟨W1, hW1⟩ : ∃ W, W = w.alloc (.cells #[.string t, .int .i64 u, .int .i64 s] 23) := ⟨_, rfl⟩
  obtain ⟨xb, hxb⟩ : ∃ b, b = w.heap.size := ⟨_, rfl⟩
  have HK1 : Hid (Same w W1) := hid (by rw [hW1]; exact (Kept.refl _ w).alloc _)
  have HB : Hid (Blk W1 xb #[.string t, .int .i64 u, .int .i64 s] 23) := hid (by rw [hW1, hxb]; exact Blk.new w _ _)
  obtain ⟨x0, x1, x2, _, _, _⟩ := HB.out.c3
  have HW := hid hW
  have HUS := hid (And.intro hu hs)
  clear hu hs hW
  by_cases hbig : 1048576 < t.size ∨ 1048576 < k.size ∨ 1048576 < x.size
  · have HA := awake_any W1 (HW.out.same HK1.out)
    have d : decide ((1048576 : Int) < (t.size : Int)) = true ∨ (decide ((1048576 : Int) < (t.size : Int)) = false ∧ decide ((1048576 : Int) < (k.size : Int)) = true) ∨ (decide ((1048576 : Int) < (t.size : Int)) = false ∧ decide ((1048576 : Int) < (k.size : Int)) = false ∧ decide ((1048576 : Int) < (x.size : Int)) = true) := by
      by_cases h1 : 1048576 < t.size
      · exact .inl (by simp; omega)
      · by_cases h2 : 1048576 < k.size
        · exact .inr (.inl ⟨big16 h1, by simp; omega⟩)
        · exact .inr (.inr ⟨big16 h1, big16 h2, by simp; omega⟩)
    clear hbig
    go_enter Tryz.func6, Tryz.ntmps6
    go_upto_region 1 with fail
    rw [← hW1, ← hxb]
    clear hW1 hxb
    rcases d with d1 | ⟨d1, d2⟩ | ⟨d1, d2, d3⟩
    all_goals
      go_wp2_with fail
      refine HA.mono ?_
      rintro e w2 ⟨rfl, hk2⟩
      have HK2 := hid (Same.trans HK1.out hk2)
      clear hk2 HA
      go_wp2_with fail
      go_ret
      exact ⟨rfl, HK2.out⟩
  · have d1 : decide ((1048576 : Int) < (t.size : Int)) = false := by simp; omega
    have d2 : decide ((1048576 : Int) < (k.size : Int)) = false := by simp; omega
    have d3 : decide ((1048576 : Int) < (x.size : Int)) = false := by simp; omega
    have HZ : Hid (t.size ≤ 1048576 ∧ k.size ≤ 1048576 ∧ x.size ≤ 1048576) := hid (by omega)
    clear hbig
    go_enter Tryz.func6, Tryz.ntmps6
    go_upto_region 1 with fail
    rw [← hW1, ← hxb]
    clear hW1 hxb
    by_cases hgood : mayB t u s = true ∧ k.size ≤ 64
    case' pos =>
      have HP := print_ok W1 (HW.out.same HK1.out) t u s k hgood.2 (by have := HZ.out; omega) HUS.out.1 HUS.out.2 hgood.1
      obtain ⟨u', hu'⟩ : ∃ u' : Nat, u = (u' : Int) := ⟨u.toNat, by have := (mayB_iff.1 hgood.1).2.1; omega⟩
      obtain ⟨s', hs'⟩ : ∃ s' : Nat, s = (s' : Int) := ⟨s.toNat, by have := (mayB_iff.1 hgood.1).2.2; omega⟩
      obtain ⟨tk, htk⟩ : ∃ x, x = tx6 (bodI t u s ++ 46 :: macL k (bodI t u s)) := ⟨_, rfl⟩
      rw [← htk] at HP
      have hpar : ParR tk.data.toList t u' s' (macL k (bodL t u' s')) := by
        rw [htk, tx6_data, hu', hs', bodI_nat]
        exact tok_par t u' s' k (by have := mayB_iff.1 hgood.1; rw [hu', hs'] at this; exact this)
      obtain ⟨q0, hz0, hql0, hhi0, hlo0⟩ := par_cut hpar
      have HPA := hid hpar
      have HUE := hid (And.intro hu' hs')
      have hm64 : 1 ≤ (bodL t u' s').length := by unfold bodL; simp; omega
      have n1 : (tk.size : Int) - 64 = (q0 : Int) := by omega
      have n2 : IntKind.i64.wrap (q0 : Int) = (q0 : Int) := by rw [IntKind.wrap_i64]; have := hpar.len; have h3 : tk.data.toList.length = tk.size := Array.length_toList; omega
      have n3 : (0 : Int) ≤ (q0 : Int) := by omega
      have n4 : (q0 : Int) ≤ (tk.size : Int) := by omega
      have n4n : q0 ≤ tk.size := by omega
      have n5 : decide ((tk.size : Int) ≤ 65) = false := by
        have h3 : tk.data.toList.length = tk.size := Array.length_toList
        have h4 := congrArg List.length hpar.2.2
        rw [h3, List.length_append, List.length_cons, macL_length] at h4
        simp
        omega
      obtain ⟨mm, hmm⟩ : ∃ m, m = tx6 (macL k (bodL t u' s')) := ⟨_, rfl⟩
      rw [← hmm] at hhi0
      have HMM := hid hmm
      unfold clV at HP
      have n2w : wrap64 (q0 : Int) = (q0 : Int) := wrap64_16 q0 (by have := hpar.len; have h3 : tk.data.toList.length = tk.size := Array.length_toList; omega)
      clear hgood hu' hs' htk hpar hz0 hm64 hmm hql0 hlo0 n2
      go_wp2_with fail
      refine HP.mono ?_
      rintro e w2 ⟨rfl, hk2⟩
      have HK2 := hid (Same.trans HK1.out hk2)
      have HB2 := hid (HB.out.kept hk2 (fun f => f))
      have HP2 := parse_ok w2 (HW.out.same HK2.out) tk HPA.out
      unfold clV at HP2
      rw [← HMM.out, ← HUE.out.1, ← HUE.out.2] at HP2
      clear hk2 HP x0 x1 x2
      go_wp2_with fail
      refine HP2.mono ?_
      rintro e w3 ⟨rfl, hk3⟩
      obtain ⟨W4, hW4⟩ : ∃ W, W = w3.alloc (.cells #[.string t, .int .i64 u, .int .i64 s] 23) := ⟨_, rfl⟩
      obtain ⟨cb, hcb⟩ : ∃ b, b = w3.heap.size := ⟨_, rfl⟩
      have hk4 : Same w2 W4 := by rw [hW4]; exact hk3.alloc _
      have HK4 : Hid (Same w W4) := hid (Same.trans HK2.out hk4)
      obtain ⟨y0, y1, y2, _, _, _⟩ := (HB2.out.kept hk4 (fun f => f)).c3
      have hcc : Blk W4 cb #[.string t, .int .i64 u, .int .i64 s] 23 := by rw [hW4, hcb]; exact Blk.new w3 _ _
      obtain ⟨c0, c1, c2, _, _, _⟩ := hcc.c3
      clear hk3 hk4 HP2 hcc
      go_upto_region 5 with fail
      rw [← hW4, ← hcb]
      clear hW4 hcb
      go_upto_region 7 with fail
      clear y0 y1 y2 c0 c1 c2 n1 n2w n3 n4 n4n n5 hhi0 HPA HMM HUE
    case' neg =>
      have HP := print_bad W1 t u s k (by
        by_cases h1 : mayB t u s = true
        · exact .inr (by by_cases h2 : k.size ≤ 64; exact absurd ⟨h1, h2⟩ hgood; omega)
        · exact .inl (by simpa using h1))
      unfold clV at HP
      clear hgood
      go_wp2_with fail
      refine HP.mono ?_
      rintro e w2 ⟨rfl, hk2⟩
      have HK2 := hid (Same.trans HK1.out hk2)
      have HP2 := parse_no w2 (HW.out.same HK2.out) ⟨#[]⟩ par_none_nil
      unfold clV at HP2
      clear hk2 HP x0 x1 x2
      go_wp2_with fail
      refine HP2.mono ?_
      rintro e w3 ⟨rfl, hk3⟩
      obtain ⟨W4, hW4⟩ : ∃ W, W = w3.alloc (.cells #[.string ⟨#[]⟩, .int .i64 0, .int .i64 0] 23) := ⟨_, rfl⟩
      have HK4 : Hid (Same w W4) := hid (by rw [hW4]; exact (Same.trans HK2.out hk3).alloc _)
      clear hk3 HP2
      go_upto_region 5 with fail
      rw [← hW4]
      clear hW4
      go_upto_region 7 with fail
    all_goals
      clear HK2 HB HK1
      by_cases hpx : ∃ t' u' s' m', ParR x.data.toList t' u' s' m'
      · obtain ⟨t', u', s', m', hpx⟩ := hpx
        have HP3 := parse_ok W4 (HW.out.same HK4.out) x hpx
        obtain ⟨q, hz, hql, hhi, hlo⟩ := par_cut hpx
        have hts : t'.size ≤ 16 := by have h1 := (sho_pt hpx.1.1).2; have h2 : t'.data.toList.length = t'.size := Array.length_toList; omega
        have hus := hpx.1.2
        have HMB := hid (mayB_iff.2 hpx.1)
        have HTS : Hid (t'.size ≤ 16 ∧ u' ≤ 1000000000 ∧ s' ≤ 1000000000) := hid ⟨hts, by omega, by omega⟩
        obtain ⟨ag, hag⟩ : ∃ x, x = tx6 (tokL t' u' s' ⟨#[107]⟩) := ⟨_, rfl⟩
        have hpa : ParR ag.data.toList t' u' s' (macL ⟨#[107]⟩ (bodL t' u' s')) := by rw [hag, tx6_data]; exact tok_par _ _ _ _ hpx.1
        obtain ⟨q2, hz2, hql2, hhi2, hlo2⟩ := par_cut hpa
        obtain rfl : q2 = q := by omega
        obtain ⟨lo, hlo'⟩ : ∃ x, x = tx6 (bodL t' u' s' ++ [46]) := ⟨_, rfl⟩
        obtain ⟨hi, hhi'⟩ : ∃ x, x = tx6 m' := ⟨_, rfl⟩
        rw [← hlo'] at hlo hlo2
        rw [← hhi'] at hhi HP3
        have n1 : (x.size : Int) - 64 = (q2 : Int) := by omega
        have n1' : (ag.size : Int) - 64 = (q2 : Int) := by omega
        have n2 : IntKind.i64.wrap (q2 : Int) = (q2 : Int) := by rw [IntKind.wrap_i64]; have := HZ.out; omega
        have n3 : (0 : Int) ≤ (q2 : Int) := by omega
        have n4 : (q2 : Int) ≤ (x.size : Int) := by omega
        have n4' : (q2 : Int) ≤ (ag.size : Int) := by omega
        have n4n : q2 ≤ x.size := by omega
        have n4m : q2 ≤ ag.size := by omega
        have n5 : ((ag.size : Int) == (x.size : Int)) = true := by simp; omega
        have n6 : (ag.size == x.size) = true := by simp; omega
        have HAG : Hid (tx6 (bodI t' u' s' ++ 46 :: macL ⟨#[107]⟩ (bodI t' u' s')) = ag) := hid (by rw [hag, bodI_nat]; rfl)
        unfold clV at HP3
        clear hpx hz hql hts hus hag hpa hz2 hql2 hhi2 hlo' hhi'
        go_wp2_with fail
        refine HP3.mono ?_
        rintro e w5 ⟨rfl, hk5⟩
        obtain ⟨W6', hW6'⟩ : ∃ W, W = w5.alloc (.cells #[.string t', .int .i64 (u' : Nat), .int .i64 (s' : Nat)] 23) := ⟨_, rfl⟩
        obtain ⟨cb2, hcb2⟩ : ∃ b, b = w5.heap.size := ⟨_, rfl⟩
        have HK6 : Hid (Same w W6') := hid (by rw [hW6']; exact (Same.trans HK4.out hk5).alloc _)
        have hcc : Blk W6' cb2 #[.string t', .int .i64 (u' : Nat), .int .i64 (s' : Nat)] 23 := by rw [hW6', hcb2]; exact Blk.new w5 _ _
        obtain ⟨c0, c1, c2, _, _, _⟩ := hcc.c3
        have HP4 := print_ok W6' (HW.out.same HK6.out) t' u' s' ⟨#[107]⟩ (by decide) (by have := HTS.out; omega) (by have := HTS.out; omega) (by have := HTS.out; omega) HMB.out
        rw [HAG.out] at HP4
        unfold clV at HP4
        clear hk5 hcc HP3
        go_upto_region 8 with fail
        rw [← hW6', ← hcb2]
        clear hW6' hcb2
        go_wp2_with fail
        refine HP4.mono ?_
        rintro e w7 ⟨rfl, hk7⟩
        have HK7 := hid (Same.trans HK6.out hk7)
        have HAW : Hid (∀ W, Same w7 W → Calls Tryz.prog 9 #[] W fun e w' => e = .returned (.bool true) ∧ Same W w') := hid (fun W hW' => awake_any W (HW.out.same (Same.trans HK7.out hW')))
        clear hk7 HP4 c0 c1 c2
        go_upto_region 11 with fail
        refine wp_region_same (by kernel_rfl) (by kernel_rfl) ?_
        refine wpq_call rfl 9 #[] (.bool true) (fun W => by go_simp) (calls_same (HAW.out)) ?_
        simp only [Act.put, List.setIfInBounds_toArray, List.set_cons_zero, List.set_cons_succ]
        refine wpq_value rfl (.bool true) (fun W _ => by first | rfl | go_simp) ?_
        simp only [Act.put, List.setIfInBounds_toArray, List.set_cons_zero, List.set_cons_succ]
        refine wpq_value rfl (.int .i64 0) (fun W _ => by first | rfl | go_simp) ?_
        simp only [Act.put, List.setIfInBounds_toArray, List.set_cons_zero, List.set_cons_succ]
        refine wpq_value rfl (.bool true) (fun W _ => by first | rfl | go_simp) ?_
        simp only [Act.put, List.setIfInBounds_toArray, List.set_cons_zero, List.set_cons_succ]
        refine wpq_value rfl (.bool true) (fun W _ => by first | rfl | go_simp) ?_
        simp only [Act.put, List.setIfInBounds_toArray, List.set_cons_zero, List.set_cons_succ]
        refine wpq_value rfl (.bool true) (fun W _ => by first | rfl | go_simp) ?_
        simp only [Act.put, List.setIfInBounds_toArray, List.set_cons_zero, List.set_cons_succ]
        refine wpq_value rfl (.string ag) (fun W _ => by first | rfl | go_simp) ?_
        simp only [Act.put, List.setIfInBounds_toArray, List.set_cons_zero, List.set_cons_succ]
        refine wpq_value rfl (.int .i64 (ag.size : Nat)) (fun W _ => by first | rfl | go_simp) ?_
        simp only [Act.put, List.setIfInBounds_toArray, List.set_cons_zero, List.set_cons_succ]
        refine wpq_value rfl (.string x) (fun W _ => by first | rfl | go_simp) ?_
        simp only [Act.put, List.setIfInBounds_toArray, List.set_cons_zero, List.set_cons_succ]
        refine wpq_value rfl (.int .i64 (x.size : Nat)) (fun W _ => by first | rfl | go_simp) ?_
        simp only [Act.put, List.setIfInBounds_toArray, List.set_cons_zero, List.set_cons_succ]
        refine wpq_value rfl (.bool true) (fun W _ => by first | rfl | go_simp) ?_
        simp only [Act.put, List.setIfInBounds_toArray, List.set_cons_zero, List.set_cons_succ]
        refine wpq_value rfl (.bool true) (fun W _ => by first | rfl | go_simp) ?_
        simp only [Act.put, List.setIfInBounds_toArray, List.set_cons_zero, List.set_cons_succ]
        refine wpq_value rfl (.bool true) (fun W _ => by first | rfl | go_simp) ?_
        simp only [Act.put, List.setIfInBounds_toArray, List.set_cons_zero, List.set_cons_succ]
        refine wpq_value rfl (.string ag) (fun W _ => by first | rfl | go_simp) ?_
        simp only [Act.put, List.setIfInBounds_toArray, List.set_cons_zero, List.set_cons_succ]
        refine wpq_value rfl (.string ag) (fun W _ => by first | rfl | go_simp) ?_
        simp only [Act.put, List.setIfInBounds_toArray, List.set_cons_zero, List.set_cons_succ]
        refine wpq_value rfl (.int .i64 (ag.size : Nat)) (fun W _ => by first | rfl | go_simp) ?_
        simp only [Act.put, List.setIfInBounds_toArray, List.set_cons_zero, List.set_cons_succ]
        refine wpq_value rfl (.int .i64 (q2 : Nat)) (fun W _ => by first | rfl | go_simp) ?_
        simp only [Act.put, List.setIfInBounds_toArray, List.set_cons_zero, List.set_cons_succ]
        refine wpq_value rfl (.string lo) (fun W _ => by first | rfl | go_simp) ?_
        simp only [Act.put, List.setIfInBounds_toArray, List.set_cons_zero, List.set_cons_succ]
        refine wpq_value rfl (.string x) (fun W _ => by first | rfl | go_simp) ?_
        simp only [Act.put, List.setIfInBounds_toArray, List.set_cons_zero, List.set_cons_succ]
        refine wpq_value rfl (.string x) (fun W _ => by first | rfl | go_simp) ?_
        simp only [Act.put, List.setIfInBounds_toArray, List.set_cons_zero, List.set_cons_succ]
        refine wpq_value rfl (.int .i64 (x.size : Nat)) (fun W _ => by first | rfl | go_simp) ?_
        simp only [Act.put, List.setIfInBounds_toArray, List.set_cons_zero, List.set_cons_succ]
        refine wpq_value rfl (.int .i64 (q2 : Nat)) (fun W _ => by first | rfl | go_simp) ?_
        simp only [Act.put, List.setIfInBounds_toArray, List.set_cons_zero, List.set_cons_succ]
        refine wpq_value rfl (.string lo) (fun W _ => by first | rfl | go_simp) ?_
        simp only [Act.put, List.setIfInBounds_toArray, List.set_cons_zero, List.set_cons_succ]
        refine wpq_value rfl (.bool true) (fun W _ => by first | rfl | go_simp) ?_
        simp only [Act.put, List.setIfInBounds_toArray, List.set_cons_zero, List.set_cons_succ]
        refine wpq_value rfl (.bool true) (fun W _ => by first | rfl | go_simp) ?_
        simp only [Act.put, List.setIfInBounds_toArray, List.set_cons_zero, List.set_cons_succ]
        refine wpq_value rfl (.bool true) (fun W _ => by first | rfl | go_simp) ?_
        simp only [Act.put, List.setIfInBounds_toArray, List.set_cons_zero, List.set_cons_succ]
        refine wpq_value rfl (.string hi) (fun W _ => by first | rfl | go_simp) ?_
        simp only [Act.put, List.setIfInBounds_toArray, List.set_cons_zero, List.set_cons_succ]
        refine wpq_value rfl (.string x) (fun W _ => by first | rfl | go_simp) ?_
        simp only [Act.put, List.setIfInBounds_toArray, List.set_cons_zero, List.set_cons_succ]
        refine wpq_value rfl (.string x) (fun W _ => by first | rfl | go_simp) ?_
        simp only [Act.put, List.setIfInBounds_toArray, List.set_cons_zero, List.set_cons_succ]
        refine wpq_value rfl (.int .i64 (x.size : Nat)) (fun W _ => by first | rfl | go_simp) ?_
        simp only [Act.put, List.setIfInBounds_toArray, List.set_cons_zero, List.set_cons_succ]
        refine wpq_value rfl (.int .i64 (q2 : Nat)) (fun W _ => by first | rfl | go_simp) ?_
        simp only [Act.put, List.setIfInBounds_toArray, List.set_cons_zero, List.set_cons_succ]
        refine wpq_value rfl (.string hi) (fun W _ => by first | rfl | go_simp) ?_
        simp only [Act.put, List.setIfInBounds_toArray, List.set_cons_zero, List.set_cons_succ]
        refine wpq_value rfl (.bool true) (fun W _ => by first | rfl | go_simp) ?_
        simp only [Act.put, List.setIfInBounds_toArray, List.set_cons_zero, List.set_cons_succ]
        refine wpq_value rfl (.bool true) (fun W _ => by first | rfl | go_simp) ?_
        simp only [Act.put, List.setIfInBounds_toArray, List.set_cons_zero, List.set_cons_succ]
        refine wpq_value rfl (.bool true) (fun W _ => by first | rfl | go_simp) ?_
        simp only [Act.put, List.setIfInBounds_toArray, List.set_cons_zero, List.set_cons_succ]
        refine wpQuiet_nil ?_
        intro w9 hk9
        have HK9 : Hid (Same w w9) := hid (Same.trans HK7.out hk9)
        clear hk9
        go_wp2_with fail
        go_ret
        exact ⟨rfl, HK9.out⟩
      · have HP3 := parse_no W4 (HW.out.same HK4.out) x (fun t' u' s' m' h => hpx ⟨t', u', s', m', h⟩)
        unfold clV at HP3
        clear hpx
        go_wp2_with fail
        refine HP3.mono ?_
        rintro e w5 ⟨rfl, hk5⟩
        obtain ⟨W6', hW6'⟩ : ∃ W, W = w5.alloc (.cells #[.string ⟨#[]⟩, .int .i64 0, .int .i64 0] 23) := ⟨_, rfl⟩
        obtain ⟨cb2, hcb2⟩ : ∃ b, b = w5.heap.size := ⟨_, rfl⟩
        have HK6 : Hid (Same w W6') := hid (by rw [hW6']; exact (Same.trans HK4.out hk5).alloc _)
        have HCC : Hid (Blk W6' cb2 #[.string ⟨#[]⟩, .int .i64 0, .int .i64 0] 23) := hid (by rw [hW6', hcb2]; exact Blk.new w5 _ _)
        have HA := awake_any W6' (HW.out.same HK6.out)
        clear hk5 HP3
        go_upto_region 8 with fail
        rw [← hW6', ← hcb2]
        clear hW6' hcb2
        go_wp2_with fail
        refine HA.mono ?_
        rintro e w7 ⟨rfl, hk7⟩
        have HK7 := hid (Same.trans HK6.out hk7)
        obtain ⟨c0, c1, c2, _, _, _⟩ := (HCC.out.kept hk7 (fun f => f)).c3
        clear hk7 HA
        go_wp2_with fail
        go_ret
        exact ⟨rfl, HK7.out⟩

theorem tokenRound_all (t : ByteArray) (u s : Int) (k x : ByteArray) (W : World) (hc : t.size ≤ maxLen ∧ (Lit.int .i64 u).wf = true ∧ (Lit.int .i64 s).wf = true) (_hk : k.size ≤ maxLen) (_hx : x.size ≤ maxLen) (hT : W6 W) :
    Calls Tryz.prog 6 #[.agg #[.string t, .int .i64 u, .int .i64 s], .string k, .string x] W fun e W' => e = .returned (.bool true) ∧ Below W.heap.size W W' :=
  (round16 W hT t u s k x (wf16 hc.2.1) (wf16 hc.2.2)).mono fun _ _ ⟨he, hk⟩ => ⟨he, Kept.below hk (Nat.le_refl _) (fun _ _ f => f)⟩

end Go.Proofs.YtfhfnkhiomahfaaGreatDoor
