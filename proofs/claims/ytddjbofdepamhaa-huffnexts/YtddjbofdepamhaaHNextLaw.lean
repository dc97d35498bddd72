/-
  The law HuffNexts, walked.
-/
import Derived.Test.YtddjbofdepamhaaHNextW
import Derived.Test.YtddjbofdepamhaaHRowsW
import Derived.Test.YtddjbofdepamhaaOf
namespace Go.Proofs.Ytddjbofdepamhaa
open Go.RowKit

theorem Ans.long_le {ns : List Nat} {h R sym long e : Nat} (ha : Ans ns h R sym long e) : long ≤ h := by
  rcases ha with ⟨_, _, _, h, _⟩ | ⟨_, _, h, _⟩ | ⟨_, _, h, _⟩
  · exact h
  · omega
  · omega

set_option maxRecDepth 100000 in
set_option maxHeartbeats 2000000 in
theorem nexts_bad (W : World) (a : Option Addr) (len cap : Nat) (zs : List Int) (vb : Option Addr) (blen bcap : Nat) (hs : SrcE intV W (fun k => k < W.heap.size) (.slice a len cap) zs) (hl : zs.length = len) (hlong : len ≤ 5000) (hbl : blen ≤ 16384) (hb : chk zs ≠ 0) :
    Calls Try.prog 5 #[.slice a len cap, .slice vb blen bcap] W fun e w' => e = .returned (.bool true) ∧ Below W.heap.size W w' := by
  have HLE := lent_any W _ _ zs hs (by omega)
  have HS : Hid (SrcE intV W (fun k => k < W.heap.size) (.slice a len cap) zs) := hs
  have HB : Hid (chk zs ≠ 0) := hb
  obtain ⟨c, hc⟩ : ∃ c, c = chk zs := ⟨_, rfl⟩
  have HC : Hid (c = chk zs) := hc
  have hd : ((c : Int) != (c : Int)) = false := by simp
  have hd0 : ((c : Int) != 0) = true := by simp; omega
  have b1 : decide ((5000 : Int) < (len : Int)) = false := by simp; omega
  have b2 : decide ((16384 : Int) < (blen : Int)) = false := by simp; omega
  rw [hl] at HLE
  have HL : Hid (zs.length = len) := hl
  clear hs hl hb hc
  go_enter Try.func5, Try.ntmps5
  go_wp2_with fail
  refine HLE.mono ?_
  rintro e w1 ⟨g, rfl, hL1, hk1, hgb, _⟩
  have HL1 : Hid (Lent w1 g zs) := hL1
  have HK1 : Hid (Same W w1) := hk1
  have HCH := new_bad w1 _ _ zs hL1.src (by have := HL.out; omega) HB.out
  rw [HL.out, ← HC.out] at HCH
  clear hL1 hk1 HLE
  go_wp2_with fail
  refine HCH.mono ?_
  rintro e w2 ⟨rfl, hk2⟩
  have HL2 : Hid (Lent w2 g zs) := hid (HL1.out.kept hk2 (fun h => h))
  have HK2 : Hid (Same W w2) := hid (Same.trans HK1.out hk2)
  have HCO := rcheck_any w2 _ _ zs (HS.out.same HK2.out) (by have := HL.out; omega)
  rw [← HC.out] at HCO
  clear hk2 HCH
  go_wp2_with fail
  refine HCO.mono ?_
  rintro e w3 ⟨rfl, hw3⟩
  subst hw3
  have HBK := back_any w3 g _ _ zs HL2.out (HS.out.same HK2.out) (by have := HL.out; omega)
  rw [HL.out] at HBK
  clear HCO
  go_wp2_with fail
  refine HBK.mono ?_
  rintro e w5 ⟨rfl, hk5⟩
  have HK5 : Hid (Same W w5) := hid (Same.trans HK2.out hk5)
  have HA := awake_any w5
  clear hk5 HBK
  go_wp2_with fail
  refine HA.mono ?_
  rintro e w6 ⟨rfl, hk6⟩
  have HK6 : Hid (Same W w6) := hid (Same.trans HK5.out hk6)
  clear hk6 HA
  go_wp2_with fail
  go_ret
  exact ⟨rfl, HK6.out.bel⟩

set_option maxRecDepth 100000 in
set_option maxHeartbeats 4000000 in
theorem nexts_good (W : World) (a : Option Addr) (len cap : Nat) (zs : List Int) (ns : List Nat) (vb : Option Addr) (blen bcap : Nat) (bs : List Nat) (hs : SrcE intV W (fun k => k < W.heap.size) (.slice a len cap) zs) (hl : zs.length = len) (hlong : len ≤ 5000)
    (hbs : Src W (fun k => k < W.heap.size) (.slice vb blen bcap) bs) (hbl : bs.length = blen) (hblong : blen ≤ 16384) (hb : ∀ b ∈ bs, b < 256) (hg : Good zs ns) (hb0 : chk zs = 0) :
    Calls Try.prog 5 #[.slice a len cap, .slice vb blen bcap] W fun e w' => e = .returned (.bool true) ∧ Below W.heap.size W w' := by
  have HLE := lent_any W _ _ zs hs (by omega)
  have HS : Hid (SrcE intV W (fun k => k < W.heap.size) (.slice a len cap) zs) := hs
  have HBS : Hid (Src W (fun k => k < W.heap.size) (.slice vb blen bcap) bs) := hbs
  have HB : Hid (chk zs = 0 ∧ Good zs ns) := ⟨hb0, hg⟩
  have HBB : Hid ((∀ b ∈ bs, b < 256) ∧ bs.length = blen) := ⟨hb, hbl⟩
  have b1 : decide ((5000 : Int) < (len : Int)) = false := by simp; omega
  have b2 : decide ((16384 : Int) < (blen : Int)) = false := by simp; omega
  have h288 : len ≤ 288 := by have := hg.len; have := hg.max; omega
  rw [hl] at HLE
  have HL : Hid (zs.length = len) := hl
  have HNL : Hid (len = ns.length) := hid (by rw [← hl]; exact hg.len.symm)
  have HMX : Hid (mxL ns ≤ 15) := hid (mx_le ns 15 hg.le)
  clear hs hl hb hg hb0 hbs hbl
  go_enter Try.func5, Try.ntmps5
  go_wp2_with fail
  refine HLE.mono ?_
  rintro e w1 ⟨g, rfl, hL1, hk1, hgb, hgl⟩
  have HL1 : Hid (Lent w1 g zs) := hL1
  have HK1 : Hid (Same W w1) := hk1
  have HCH := new_good w1 _ _ zs ns hL1.src HB.out.2 HB.out.1
  rw [HL.out] at HCH
  clear hL1 hk1 HLE
  go_wp2_with fail
  refine HCH.mono ?_
  rintro e w2 ⟨⟨d, vc, vs, rfl, hdec, hdf⟩, hk2⟩
  have HL2 : Hid (Lent w2 g zs) := hid (HL1.out.kept hk2 (fun h => h))
  have HK2 : Hid (Same W w2) := hid (Same.trans HK1.out hk2)
  have HD2 : Hid (Dec w2 d vc vs ns) := hdec
  have HDF : Hid (∀ k, DF d vc vs k → w1.heap.size ≤ k) := hdf
  have HCO := rcheck_any w2 _ _ zs (HS.out.same HK2.out) (by have := HL.out; omega)
  rw [HB.out.1] at HCO
  clear hk2 HCH hdec hdf
  go_wp2_with fail
  refine HCO.mono ?_
  rintro e w3 ⟨rfl, hw3⟩
  subst hw3
  have HBK := back_any w3 g _ _ zs HL2.out (HS.out.same HK2.out) (by have := HL.out; omega)
  rw [HL.out] at HBK
  clear HCO
  go_wp2_with fail
  refine HBK.mono ?_
  rintro e w5 ⟨rfl, hk5⟩
  have HK5 : Hid (Same W w5) := hid (Same.trans HK2.out hk5)
  have HL5 : Hid (Lent w5 g zs) := hid (HL2.out.kept hk5 (fun h => h))
  have HD5 : Hid (Dec w5 d vc vs ns) := hid (HD2.out.kept hk5 (fun _ _ h => h))
  clear hk5 HBK HD2
  go_wp2_with fail
  go_loopg [9] len (fun q zi wr => ∃ (i : Nat) (xs : List Int), len - i ≤ q ∧ i ≤ len ∧ zi = .int .i64 (i : Nat) ∧ Hid (IRow 0 wr (.slice (some ⟨g, 0, none⟩) (len + 1) (len + 1)) xs ∧ xs.length = len + 1) ∧ Hid (Kept (· = g) w5 wr))
  case atStart => exact ⟨0, zs ++ [-77], by omega, by omega, rfl, hid (by have h := HL5.out.row; rw [HL.out] at h; exact ⟨h, by simp; exact HL.out⟩), Kept.refl _ _⟩
  case round =>
    obtain ⟨i, xs, hq, hi, rfl, HX, HKx⟩ := hrel
    by_cases hlt : i < len
    · have hix : i < xs.length := by have := HX.out.2; omega
      have c1 := HX.out.1.cell i hix
      have f1 := HX.out.1.frozen i
      obtain ⟨x, hx⟩ : ∃ x, x = xs[i] := ⟨_, rfl⟩
      rw [← hx] at c1
      unfold intV at c1
      clear hx
      have HX2 : Hid (IRow 0 (wr.setCell ⟨g, i, none⟩ (.int .i64 3)) (.slice (some ⟨g, 0, none⟩) (len + 1) (len + 1)) (xs.set i 3) ∧ (xs.set i 3).length = len + 1) := hid ⟨HX.out.1.lay i 3, by rw [List.length_set]; exact HX.out.2⟩
      go_wp2_with fail
      go_roundg (gk - 1)
      case measure => omega
      case rel => exact ⟨i + 1, xs.set i 3, by omega, by omega, by go_num, HX2, hid (HKx.out.setCell ⟨g, i, none⟩ _ (.inl rfl))⟩
    · have HKW : Hid (Same W wr) := hid (Same.then HK5.out HKx.out (fun x hx e => by omega))
      have HDW : Hid (Dec wr d vc vs ns) := hid (HD5.out.kept HKx.out (fun k hk e => by have := HDF.out k hk; omega))
      have HRO := rows_any wr _ _ ns ((HS.out.same HKW.out).recode HB.out.2.eq) (by have := HNL.out; omega) HB.out.2.le HB.out.2.measure_le
      rw [← HNL.out] at HRO
      clear HX HKx HL5 HD5 hq hi
      obtain ⟨w6, hw6⟩ : ∃ w6, w6 = wr := ⟨_, rfl⟩
      subst hw6
      have hltd : decide (i < len) = false := by simp; omega
      clear hlt
      go_wp2_with fail
      clear hltd
      refine HRO.mono ?_
      rintro e w7 ⟨go, rs, rfl, hrw⟩
      have HRW : Hid (RW w6 w7 go len ns (fun s => key ns s ≠ 0) rs) := hrw
      have HK7 : Hid (Same W w7) := hid (Same.trans HKW.out hrw.same)
      have HD7 : Hid (Dec w7 d vc vs ns) := hid (HDW.out.kept hrw.same (fun _ _ h => h))
      have HOF := refOf_any w7 _ _ bs (HBS.out.kept HK7.out (fun _ _ _ h => h)) (by have := HBB.out.2; omega) HBB.out.1
      clear hrw HRO
      go_wp2_with fail
      refine HOF.mono ?_
      rintro e w8 ⟨vo, rfl, hgo⟩
      have HK78 : Hid (Same w7 w8) := hid (hgo.ofNil rfl).1
      have HRO8 : Hid (Row w8 vo (ofBytes bs)) := hgo.row
      have HK8 : Hid (Same W w8) := hid (Same.trans HK7.out HK78.out)
      have HRW8 : Hid (RW w6 w8 go len ns (fun s => key ns s ≠ 0) rs) := hid (HRW.out.later HK78.out)
      have HD8 : Hid (Dec w8 d vc vs ns) := hid (HD7.out.kept HK78.out (fun _ _ h => h))
      obtain ⟨ao, co, hvo, _⟩ := hgo.row.shape
      subst hvo
      have HNR := newReader_any _ _ bs w8 (HBS.out.kept HK8.out (fun _ _ _ h => h)) (by have := HBB.out.2; omega) HBB.out.1
      clear hgo HOF HRW HD7 HDW
      obtain ⟨M, hM⟩ : ∃ M, M = (ofBytes bs).length := ⟨_, rfl⟩
      have HM : Hid (M = 8 * bs.length) := hid (by rw [hM, ofBytes_length])
      rw [← hM] at HRO8 ⊢
      have HMO : Hid (M = (ofBytes bs).length) := hM
      have hMle : M ≤ 131072 := by have := HM.out; have := HBB.out.2; omega
      clear hM
      go_wp2_with fail
      refine HNR.mono ?_
      rintro e w9 ⟨p, s, rfl, hst, hk9, hfp⟩
      have HST9 : Hid (St w9 p s bs 0) := hst
      have HK9 : Hid (Same W w9) := hid (Same.trans HK8.out hk9)
      have HFP : Hid (∀ k, Fp p s k → w8.heap.size ≤ k) := hfp
      have HD9 : Hid (Dec w9 d vc vs ns) := hid (HD8.out.kept hk9 (fun _ _ h => h))
      have HRO9 : Hid (Row w9 (.slice ao M co) (ofBytes bs)) := hid (HRO8.out.kept hk9 (fun _ _ h => h))
      have HRW9 : Hid (RW w6 w9 go len ns (fun s => key ns s ≠ 0) rs) := hid (HRW8.out.later hk9)
      have HDIS : Hid (∀ k, DF d vc vs k → ¬ Fp p s k) := hid (fun k h1 h2 => by
        have h3 := HD8.out.lt h1
        have h4 := hfp k h2
        omega)
      have HPB : Hid (w8.heap.size ≤ p ∧ W.heap.size ≤ p) := hid ⟨hfp p (.inl rfl), by have h := hfp p (.inl rfl); have h2 := HK8.out.size; omega⟩
      have HROP : Hid (∀ k, (Value.slice ao M co).ownBlock = some k → k < w8.heap.size) := hid (fun k hk => HRO8.out.lt hk)
      have HRWP : Hid (∀ k, k < w8.heap.size → ¬ k = p) := hid (fun k hk e => by have := HPB.out.1; omega)
      have HRWL : Hid (go < w8.heap.size ∧ (∀ t (ht : t < rs.length), key ns t ≠ 0 → ∀ k, (slV rs[t]).ownBlock = some k → k < w8.heap.size) ∧ w6.heap.size ≤ w8.heap.size) := hid ⟨HRW8.out.row.lt rfl, fun t ht h0 k hk => (HRW8.out.have' t ht h0).1.lt hk, HRW8.out.same.size⟩
      clear hst hk9 hfp HNR HD8 HRW8
      go_wp2_with fail
      go_loopg [13, 14] (M + 1) (fun q zat zn wr => ∃ (n c : Nat), M + 1 - n ≤ q ∧ n ≤ M + 1 ∧ c ≤ M ∧ zn = .int .i64 (n : Nat) ∧ zat = .int .i64 (c : Nat) ∧ Hid (St wr p s bs c) ∧ Hid (Kept (· = p) w9 wr))
      case atStart => exact ⟨0, 0, by omega, by omega, by omega, rfl, rfl, HST9, Kept.refl _ _⟩
      case round =>
        obtain ⟨n, c, hq, hn, hcM, rfl, rfl, HST, HKr⟩ := hrel
        have hgone : True := trivial
        by_cases hnM : n ≤ M
        · have HNX := next_any wr d vc vs ns p c s bs (HD9.out.kept HKr.out (fun k hk e => HDIS.out k hk (.inl e))) HMX.out (by have := HNL.out; omega) HST.out (by have := HM.out; omega) (by have := HBB.out.2; omega) HDIS.out
          clear hgone
          go_wp2_with fail
          refine HNX.mono ?_
          rintro e w10 ⟨⟨sym, long, er, rfl, hans, hst10⟩, hk10⟩
          have HK10 : Hid (Kept (· = p) w9 w10) := hid (HKr.out.trans hk10 (fun _ _ h => h) (fun _ _ h => h))
          have HST10 : Hid (St w10 p s bs (c + long)) := hst10
          have HANS : Hid (Ans ns (min (8 * bs.length - c) (mxL ns)) (n256 bs / 2 ^ c % 2 ^ (min (8 * bs.length - c) (mxL ns))) sym long er) := hans
          have hll : c + long ≤ M := by have h := hans.long_le; have := HM.out; omega
          have hrw10 : RW w6 w10 go len ns (fun s => key ns s ≠ 0) rs := by
            have h9 := HRW9.out
            refine ⟨h9.row.kept HK10.out (fun k hk e => ?_), fun t ht hp => ⟨(h9.have' t ht hp).1.kept HK10.out (fun k hk e => ?_), (h9.have' t ht hp).2⟩, h9.none', Same.then h9.same HK10.out (fun x hx e => ?_)⟩
            · simp [Value.ownBlock] at hk
              have := HRWL.out.1
              exact HRWP.out k (by omega) e
            · exact HRWP.out k (HRWL.out.2.1 t ht hp k hk) e
            · exact HRWP.out x (by have := HRWL.out.2.2; omega) e
          have HRX := rnext_any w10 w6 go len ns rs (.slice ao M co) _ (ofBytes bs) c hrw10 HNL.out h288 HB.out.2.key_le (Src.ofRow (HRO9.out.kept HK10.out (fun k hk e => HRWP.out k (HROP.out k hk) e))) (by have := HMO.out; omega) (by have := HMO.out; omega)
          clear hans hst10 hk10 HNX hrw10
          go_wp2_with fail
          refine HRX.mono ?_
          rintro e w11 ⟨⟨is, k, g2, rfl, hrn⟩, hk11⟩
          obtain ⟨rfl, rfl, rfl⟩ := next_same HB.out.2 bs HBB.out.1 c (by have := HM.out; omega) (rest_lt bs HBB.out.1 c (by have := HM.out; omega)) HANS.out hrn
          have HK11 : Hid (Kept (· = p) w9 w11) := hid (HK10.out.trans hk11 (fun _ _ h => h) (fun _ _ h => h.elim))
          have HST11 : Hid (St w11 p s bs (c + k)) := hid (HST10.out.kept hk11 (fun _ _ h => h))
          obtain ⟨c2, hc2⟩ : ∃ c2, c2 = c + k := ⟨_, rfl⟩
          rw [← hc2] at HST11 hll
          have hcI : (c : Int) + (k : Int) = (c2 : Int) := by omega
          have HGO := gone_any p c2 s bs w11 HST11.out
          have d1 : ((g2 : Int) != (g2 : Int)) = false := by simp
          have d2 : ((is : Int) != (is : Int)) = false := by simp
          have d3 : ((c2 : Int) != (c2 : Int)) = false := by simp
          clear hrn hk11 HRX hc2 HANS HST10 HK10
          go_wp2_with fail
          refine HGO.mono ?_
          rintro e w12 ⟨rfl, hw12⟩
          subst hw12
          clear HGO
          by_cases hg0 : g2 = 0
          · have d4 : ((g2 : Int) != 0) = false := by simp; omega
            clear hg0
            go_wp2_with fail
            go_roundg (gk - 1)
            case measure => omega
            case rel => exact ⟨n + 1, c2, by omega, by omega, hll, by go_num, rfl, HST11, HK11⟩
          · have d4 : ((g2 : Int) != 0) = true := by simp; omega
            have HNN := next_noreader w12 d
            clear hg0
            go_wp2_with fail
            refine HNN.mono ?_
            rintro e w13 ⟨rfl, hw13⟩
            subst hw13
            have HA := awake_any w13
            clear HNN
            go_wp2_with fail
            refine HA.mono ?_
            rintro e w14 ⟨rfl, hk14⟩
            have HK14 : Hid (Same W w14) := hid (Same.trans (Same.then HK9.out HK11.out (fun x hx e => by have := HPB.out.2; omega)) hk14)
            clear hk14 HA
            go_wp2_with fail
            go_ret
            exact ⟨rfl, HK14.out.bel⟩
        · have hnd : decide (n ≤ M) = false := by simp; omega
          have HNN := next_noreader wr d
          clear hnM
          go_wp2_with fail
          refine HNN.mono ?_
          rintro e w13 ⟨rfl, hw13⟩
          subst hw13
          have HA := awake_any w13
          clear HNN
          go_wp2_with fail
          refine HA.mono ?_
          rintro e w14 ⟨rfl, hk14⟩
          have HK14 : Hid (Same W w14) := hid (Same.trans (Same.then HK9.out HKr.out (fun x hx e => by have := HPB.out.2; omega)) hk14)
          clear hk14 HA
          go_wp2_with fail
          go_ret
          exact ⟨rfl, HK14.out.bel⟩

theorem huffNexts_all (a : Option Addr) (len cap : Nat) (zs : List Int) (b : Option Addr) (blen bcap : Nat) (ys : List Int) (W : World) (h : IsRow .i64 W a len cap zs) (h2 : IsRow .u8 W b blen bcap ys) :
    Calls Try.prog 5 #[.slice a len cap, .slice b blen bcap] W fun e w' => e = .returned (.bool true) ∧ Below W.heap.size W w' := by
  obtain ⟨hs, hl⟩ := h.ints
  obtain ⟨bs, hbs, hbl, hb⟩ := h2.src
  clear h h2
  by_cases hlong : 5000 < len
  · have b1 : decide ((5000 : Int) < (len : Int)) = true := by simp; omega
    clear hlong hl hs hbs hbl
    go_enter Try.func5, Try.ntmps5
    go_wp2_with fail
    go_ret
    exact ⟨rfl, Below.refl _ _⟩
  · by_cases hblong : 16384 < blen
    · have b1 : decide ((5000 : Int) < (len : Int)) = false := by simp; omega
      have b2 : decide ((16384 : Int) < (blen : Int)) = true := by simp; omega
      clear hlong hblong hl hs hbs hbl
      go_enter Try.func5, Try.ntmps5
      go_wp2_with fail
      go_ret
      exact ⟨rfl, Below.refl _ _⟩
    · by_cases hc : chk (zs.take len) = 0
      · exact nexts_good W a len cap _ _ b blen bcap bs hs hl (by omega) hbs hbl (by omega) hb (good_of hc) hc
      · exact nexts_bad W a len cap _ b blen bcap hs hl (by omega) (by omega) hc

end Go.Proofs.Ytddjbofdepamhaa
