/-
  The reference's schedule.
-/
import Derived.Test.YtgbfhpilhnbnjaaDoorHmC
namespace Go.Proofs.YtgbfhpilhnbnjaaDoor
open Go.RowKit

set_option maxRecDepth 100000 in
set_option maxHeartbeats 1000000 in
theorem rsched_any (w : World) (v : Value) (I : Nat → Prop) (b : List Nat) (hs : Src w I v b) (hI : ∀ k, I k → k < w.heap.size) (hb : ∀ x ∈ b, x < 256) (hl : b.length = 64) :
    Calls Tryd.prog 26 #[v] w fun e w' => e = .returned (.agg ((schW b).map wordV).toArray) ∧ Same w w' := by
  obtain ⟨ao, cap, rfl, hc⟩ := id hs
  obtain ⟨bb, o, rfl, hIb, hcell⟩ := hc (by intro e; rw [e] at hl; simp at hl)
  have HCL : Hid (∀ j, j < 64 → w.cell? ⟨bb, o + j, none⟩ = some (.int .u8 (b.getD j 0 : Nat))) := hid (fun j hj => by
    have h := hcell j (by omega)
    rw [h, List.getD_eq_getElem?_getD, List.getElem?_eq_getElem (by omega)]
    rfl)
  have hbb := hI bb hIb
  have HB := hid hb
  rw [hl]
  clear hs hc hcell hIb hI hb hl
  go_enter Tryd.func26, Tryd.ntmps26
  go_wp2_with (first
    | (with_reducible refine at_alloc 51 2 ?_; refine wpl_alloc 51 _ Tryd.zero64 ?_; intro w2 g2 hB2 hk2 hg2 hl2; have HB2 := hid hB2; have HK2 := hid hk2; clear hB2 hk2)
    | (with_reducible refine at_alloc 51 3 ?_; refine wpl_alloc 51 _ Tryd.zero64 ?_; intro w3 g3 hB3 hk3 hg3 hl3; have HB3 := hid hB3; have HK3 := hid hk3; clear hB3 hk3))
  have HK13 : Hid (Same w w3) := hid (HK2.out.trans HK3.out)
  have HB23 : Hid (Blk w3 g2 ((List.replicate 64 0).map wordV).toArray 51) := hid (HB2.out.kept HK3.out (fun f => f))
  have hg23 : g2 < g3 := by omega
  have hbg : bb ≠ g3 := by omega
  have hgw : w.heap.size ≤ g2 := by omega
  have HC3 : Hid (∀ j, j < 64 → w3.cell? ⟨bb, o + j, none⟩ = some (.int .u8 (b.getD j 0 : Nat))) := hid (fun j hj => HK13.out.cell (HCL.out j hj) (fun f => f))
  clear HB2 HK2 HK3 HCL hl3 hg3 hl2 hg2 hbb
  have HB0 : Hid (Blk w3 g3 ((accB b (4 * 0)).map wordV).toArray 51) := HB3
  clear HB3
  go_loopg [4, 5] 16 (fun k z _ wr => ∃ i : Nat, i ≤ 16 ∧ 16 - i ≤ k ∧ z = .int .i64 (i : Nat) ∧ Hid (Blk wr g3 ((accB b (4 * i)).map wordV).toArray 51) ∧ Hid (Kept (· = g3) w3 wr))
  case atStart => exact ⟨0, by omega, by omega, rfl, HB0, hid (Kept.refl _ _)⟩
  case round =>
    obtain ⟨i, hi, hik, rfl, HBi, HKi⟩ := hrel
    clear HB0
    by_cases hlt : i < 16
    · have HB4 : Hid (Blk wr g3 ((accB b (4 * i + 0)).map wordV).toArray 51) := HBi
      obtain ⟨gk0, hgk0⟩ : ∃ g, g = gk := ⟨_, rfl⟩
      subst hgk0
      clear HBi
      go_wp2_with fail
      go_loopg [5] 4 (fun k z wr => ∃ n : Nat, n ≤ 4 ∧ 4 - n ≤ k ∧ z = .int .i64 (n : Nat) ∧ Hid (Blk wr g3 ((accB b (4 * i + n)).map wordV).toArray 51) ∧ Hid (Kept (· = g3) w3 wr))
      case atStart => exact ⟨0, by omega, by omega, rfl, HB4, HKi⟩
      case round =>
        clear HB4 HKi
        obtain ⟨n, hn, hnk, rfl, HBn, HKn⟩ := hrel
        by_cases hlt2 : n < 4
        · obtain ⟨j, hj⟩ : ∃ j, j = 4 * i + n := ⟨_, rfl⟩
          obtain ⟨f, hf⟩ : ∃ f, f = 4 * i := ⟨_, rfl⟩
          have hji : j / 4 = i := by omega
          have hj64 : j < 64 := by omega
          have cb := HKn.out.cell (HC3.out j hj64) hbg
          have cw := HBn.out.wcell i (by rw [accB_length]; omega)
          have fw := HBn.out.frozen i
          rw [← hj] at cw
          have hy2 : (accB b j).getD i 0 < 16777216 := by have h := accB_get b HB.out j hj64; rw [hji] at h; exact h
          obtain ⟨x, hxe⟩ : ∃ x, x = b.getD j 0 := ⟨_, rfl⟩
          have hx2 : x < 256 := by rw [hxe]; exact getD_byte HB.out j
          obtain ⟨y, hye⟩ : ∃ y, y = (accB b j).getD i 0 := ⟨_, rfl⟩
          rw [← hxe] at cb
          rw [← hye] at cw hy2
          obtain ⟨y2, hy3⟩ : ∃ z, z = y * 256 := ⟨_, rfl⟩
          obtain ⟨z, hz⟩ : ∃ z, z = y * 256 + x := ⟨_, rfl⟩
          have HZ : Hid (accB b (4 * i + (n + 1)) = (accB b j).set i z) := hid (by rw [show 4 * i + (n + 1) = j + 1 by omega, accB, hji, ← hxe, ← hye, hz])
          rw [← hj] at HBn
          have m1 : 256 * (y : Int) = (y2 : Int) := by omega
          have m2 : IntKind.u32.wrap (y2 : Int) = (y2 : Int) := by rw [IntKind.wrap_u32']; omega
          have m3 : (y2 : Int) + (x : Int) = (z : Int) := by omega
          have m4 : IntKind.u32.wrap (z : Int) = (z : Int) := by rw [IntKind.wrap_u32']; omega
          have s1 : 4 * (i : Int) = (f : Int) := by omega
          have s2 : (f : Int) + (n : Int) = (j : Int) := by omega
          have w1 : IntKind.i64.wrap (f : Int) = (f : Int) := wrap_nat15 f (by omega)
          have w2 : IntKind.i64.wrap (j : Int) = (j : Int) := wrap_nat15 j (by omega)
          have p1 : (0 : Int) ≤ (i : Int) := by omega
          have p2 : (i : Int) < 64 := by omega
          have p3 : (0 : Int) ≤ (j : Int) := by omega
          have p4 : (j : Int) < 64 := by omega
          have p5 : (0 : Int) ≤ (x : Int) := by omega
          clear hj hf hji hxe hye hy3 hz hy2
          go_wp2_with fail
          go_region
          go_wp2_with fail
          go_roundg (gk - 1)
          case measure => omega
          case rel =>
            refine ⟨n + 1, by omega, by omega, by go_num, ?_, hid ((HKn.out.setCell _ _ (.inl rfl)).drew)⟩
            rw [HZ.out]
            exact hid (HBn.out.wset i z)
        · have hn4 : n = 4 := by omega
          subst hn4
          go_wp2_with fail
          go_roundg (gk0 - 1)
          case measure => omega
          case rel => exact ⟨i + 1, by omega, by omega, by go_num, by rw [show 4 * (i + 1) = 4 * i + 4 by omega]; exact HBn, HKn⟩
    · have hin : i = 16 := by omega
      subst hin
      rw [show 4 * 16 = 64 from rfl, accB_64] at HBi
      go_wp2_with fail
      go_loopg [6, 7, 8, 9, 10] 48 (fun k z _ _ _ _ wx => ∃ m : Nat, m ≤ 48 ∧ 48 - m ≤ k ∧ z = .int .i64 ((16 + m : Nat) : Int) ∧ Hid (Blk wx g3 ((extA b m).map wordV).toArray 51) ∧ Hid (Kept (· = g3) w3 wx))
      case atStart => exact ⟨0, by omega, by omega, rfl, HBi, HKi⟩
      case round =>
        clear HBi HKi
        obtain ⟨m, hm, hmk, rfl, HBm, HKm⟩ := hrel
        obtain ⟨j, hj⟩ : ∃ j, j = 16 + m := ⟨_, rfl⟩
        rw [← hj]
        by_cases hlt2 : m < 48
        · have hcj := HBm.out.wcell j (by rw [extA_length b m hm]; omega)
          have hfj := HBm.out.frozen j
          have HCE : Hid (∀ k, k < 16 + m → ∀ W, Same wr W → W.cell? ⟨g3, k, none⟩ = some (.int .u32 ((extW m (wdsB b 16)).getD k 0 : Nat))) := hid (fun k hk W hW => by
            have c := HBm.out.wcell k (by rw [extA_length b m hm]; omega)
            rw [extA_get b m _ hk] at c
            exact hW.cell c (fun f => f))
          have HJC : Hid (∀ W, Same wr W → Blk W g3 ((extA b m).map wordV).toArray 51) := hid (fun W hW => HBm.out.kept hW (fun f => f))
          have c15 := HCE.out (m + 1) (by omega) wr (Kept.refl _ _)
          have c2 := HCE.out (m + 14) (by omega) wr (Kept.refl _ _)
          have hwd := extW_wds (wdsB_wds b HB.out 16) m
          have v15 := hwd.get (m + 1)
          have v2 := hwd.get (m + 14)
          have hnx : nxW (extW m (wdsB b 16)) = add3 (add3 (add3 ((extW m (wdsB b 16)).getD m 0) (earF ((extW m (wdsB b 16)).getD (m + 1) 0))) ((extW m (wdsB b 16)).getD (m + 9) 0)) (latF ((extW m (wdsB b 16)).getD (m + 14) 0)) := by
            unfold nxW
            rw [extW_len, show 16 + m - 16 = m by omega, show 16 + m - 15 = m + 1 by omega, show 16 + m - 7 = m + 9 by omega, show 16 + m - 2 = m + 14 by omega]
          have HC16 := hid (HCE.out m (by omega))
          have HC7 := hid (HCE.out (m + 9) (by omega))
          have HNX := hid hnx
          obtain ⟨x16, hx16⟩ : ∃ x, x = (extW m (wdsB b 16)).getD m 0 := ⟨_, rfl⟩
          obtain ⟨x15, hx15⟩ : ∃ x, x = (extW m (wdsB b 16)).getD (m + 1) 0 := ⟨_, rfl⟩
          obtain ⟨x7, hx7⟩ : ∃ x, x = (extW m (wdsB b 16)).getD (m + 9) 0 := ⟨_, rfl⟩
          obtain ⟨x2, hx2⟩ : ∃ x, x = (extW m (wdsB b 16)).getD (m + 14) 0 := ⟨_, rfl⟩
          rw [← hx16, ← hx15, ← hx7, ← hx2] at HNX
          rw [← hx16] at HC16
          rw [← hx7] at HC7
          rw [← hx15] at c15 v15
          rw [← hx2] at c2 v2
          have HE := hid (ear_i x15 v15)
          have HLt := hid (lat_i x2 v2)
          obtain ⟨m1, hm1⟩ : ∃ x, x = m + 1 := ⟨_, rfl⟩
          obtain ⟨m9, hm9⟩ : ∃ x, x = m + 9 := ⟨_, rfl⟩
          obtain ⟨m14, hm14⟩ : ∃ x, x = m + 14 := ⟨_, rfl⟩
          rw [← hm1] at c15
          rw [← hm9] at HC7
          rw [← hm14] at c2
          have j16 : (j : Int) - 16 = (m : Int) := by omega
          have j15 : (j : Int) - 15 = (m1 : Int) := by omega
          have j7 : (j : Int) - 7 = (m9 : Int) := by omega
          have j2 : (j : Int) - 2 = (m14 : Int) := by omega
          have jj : j < 64 := by omega
          have k16 : m < 64 := by omega
          have k15 : m1 < 64 := by omega
          have k7 : m9 < 64 := by omega
          have k2 : m14 < 64 := by omega
          have p16 : (0 : Int) ≤ (m : Int) := by omega
          have p7 : (0 : Int) ≤ (m9 : Int) := by omega
          have pj : (0 : Int) ≤ (j : Int) := by omega
          have q16 : (m : Int) < 64 := by omega
          have q7 : (m9 : Int) < 64 := by omega
          have qj : (j : Int) < 64 := by omega
          have w16 : IntKind.i64.wrap (m : Int) = (m : Int) := wrap_nat15 m (by omega)
          have w7 : IntKind.i64.wrap (m9 : Int) = (m9 : Int) := wrap_nat15 m9 (by omega)
          have HJ : Hid (j = 16 + m) := hid hj
          have HM := hid hm
          have H1 := fun W => rturn_any W x15 7 v15 (by omega) (by omega)
          have H2 := fun W => rturn_any W x15 18 v15 (by omega) (by omega)
          have H3 := fun W => rturn_any W x2 17 v2 (by omega) (by omega)
          have H4 := fun W => rturn_any W x2 19 v2 (by omega) (by omega)
          clear hj hm1 hm9 hm14 hwd hnx hx16 hx15 hx7 hx2 v15 v2 HCE hcj hfj
          go_wp2_with fail
          refine (H1 _).mono ?_
          rintro e w5 ⟨rfl, q5, rfl⟩
          go_wp2_with fail
          refine (H2 _).mono ?_
          rintro e w6 ⟨rfl, q6, rfl⟩
          go_wp2_with fail
          refine (H3 _).mono ?_
          rintro e w7 ⟨rfl, q7', rfl⟩
          go_wp2_with fail
          refine (H4 _).mono ?_
          rintro e w8 ⟨rfl, q8, rfl⟩
          obtain ⟨w9, hw9⟩ : ∃ W, W = (wr.drewN (q5 + q6 + q7')).drewN q8 := ⟨_, rfl⟩
          have HK9 : Hid (Same wr w9) := hid (by rw [hw9]; exact ((Kept.refl _ wr).drewN _).drewN _)
          rw [← hw9, HE.out]
          clear hw9 H1 H2 H3 H4 c15 c2
          have d16 := HC16.out w9 HK9.out
          have d7 := HC7.out w9 HK9.out
          have hcj := (HJC.out w9 HK9.out).wcell j (by rw [extA_length b m HM.out]; omega)
          have hfj := (HJC.out w9 HK9.out).frozen j
          obtain ⟨e15, he15⟩ : ∃ x, x = earF x15 := ⟨_, rfl⟩
          obtain ⟨l2, hl2⟩ : ∃ x, x = latF x2 := ⟨_, rfl⟩
          rw [← he15, ← hl2] at HNX
          rw [← hl2] at HLt
          rw [← he15]
          have a1 : IntKind.u32.wrap ((x16 : Int) + (e15 : Int)) = ((add3 x16 e15 : Nat) : Int) := by unfold add3; rw [IntKind.wrap_u32']; omega
          obtain ⟨t1, ht1⟩ : ∃ x, x = add3 x16 e15 := ⟨_, rfl⟩
          have a2 : IntKind.u32.wrap ((t1 : Int) + (x7 : Int)) = ((add3 t1 x7 : Nat) : Int) := by unfold add3; rw [IntKind.wrap_u32']; omega
          obtain ⟨t2, ht2⟩ : ∃ x, x = add3 t1 x7 := ⟨_, rfl⟩
          have a3 : IntKind.u32.wrap ((t2 : Int) + (l2 : Int)) = ((add3 t2 l2 : Nat) : Int) := by unfold add3; rw [IntKind.wrap_u32']; omega
          obtain ⟨t3, ht3⟩ : ∃ x, x = add3 t2 l2 := ⟨_, rfl⟩
          rw [← ht1] at a1 HNX
          rw [← ht2] at a2 HNX
          rw [← ht3] at a3 HNX
          have hlt' := HLt.out
          clear he15 hl2 ht1 ht2 ht3
          go_wp2_with fail
          go_region
          go_wp2_with fail
          go_roundg (gk - 1)
          case measure => omega
          case rel =>
            refine ⟨m + 1, by omega, by omega, by rw [show 16 + (m + 1) = j + 1 by have := HJ.out; omega]; go_num, ?_, hid (((Kept.trans HKm.out HK9.out (fun _ _ e => e) (fun _ _ f => f.elim)).setCell _ _ (.inl rfl)).drew)⟩
            rw [← extA_next b m hlt2, HNX.out, ← HJ.out]
            exact hid ((HJC.out w9 HK9.out).wset j t3)
        · have hm48 : m = 48 := by omega
          subst hm48
          have hj64 : j = 64 := by omega
          subst hj64
          rw [extA_48] at HBm
          have HSL : Hid ((schW b).length = 64) := hid (schW_wds b HB.out).1
          clear hj
          go_wp2_with (first
            | (with_reducible refine at_load 51 77 ?_; refine wpl_load 51 64 _ Tryd.underlying51 rfl Tryd.size64 rfl HBm.out ((schW b).map wordV) (by simp [HSL.out]) (take_all15 (by simp [HSL.out])) ?_)
            | (with_reducible refine at_store 51 2 ?_; refine wpl_store 51 64 Tryd.size64 rfl (cells := (schW b).map wordV) rfl (HB23.out.kept HKm.out (by omega)) (by simp) (by simp [HSL.out]) (wordV_one _) ?_; intro w9 hB9 hk9 hs9; have HB9 := hid hB9; have HK9 := hid hk9; clear hB9 hk9 hs9))
          refine bodyPost_ret (results_cell15 rfl 64 _ Tryd.underlying51 rfl Tryd.size64 _ rfl HB9.out (by simp [HSL.out])) rfl ?_
          exact ⟨rfl, (HK13.out.then HKm.out (fun x hx e => by omega)).then HK9.out (fun x hx e => by omega)⟩

end Go.Proofs.YtgbfhpilhnbnjaaDoor
