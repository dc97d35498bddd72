/-
  Of the proof: parts LnWritesLaw, LnRoundLaw.
-/
import Derived.Test.YtofhlnpbflkdlaaDoorJ19
import Derived.Test.YtofhlnpbflkdlaaDoorJ21
import Derived.Test.YtofhlnpbflkdlaaDoorJ9

/-
  The law LensWrites.
-/
namespace Go.Proofs.YtofhlnpbflkdlaaDoor
open Go.RowKit

/-- Noughts and ones in turn. -/
def alt (n : Nat) : List Nat := (List.range n).map (fun i => i % 2)
theorem alt_length (n : Nat) : (alt n).length = n := by simp [alt]
theorem alt_succ (i : Nat) : alt (i + 1) = alt i ++ bitsOf (i % 2) 1 := by
  unfold alt
  rw [List.range_succ, List.map_append]
  congr 1
  simp [bitsOf]
theorem alt_get (n i : Nat) (h : i < (alt n).length) : (alt n)[i] = i % 2 := by simp [alt]

/-- Bytes of bits, the last one filled up with noughts. -/
theorem ofBytes_pad (bs X : List Nat) (hb : ∀ b ∈ bs, b < 256) (hX : ∀ b ∈ X, b < 2) (hn : n256 bs = n2 X) (hl : bs.length = (X.length + 7) / 8) : ofBytes bs = X ++ List.replicate (8 * bs.length - X.length) 0 := by
  refine n2_inj _ _ (by rw [ofBytes_length, List.length_append, List.length_replicate]; omega) (ofBytes_lt bs) (fun x hx => ?_) ?_
  · rcases List.mem_append.1 hx with h | h
    · exact hX x h
    · have := List.eq_of_mem_replicate h; omega
  · rw [ofBytes_n2 bs hb, n2_align, hn]

set_option maxRecDepth 100000 in
set_option maxHeartbeats 4000000 in
theorem writes_bad (W : World) (a b : Option Addr) (L cap D capd n : Nat) (zl zd : List Int) (hsl : SrcE intV W (fun k => k < W.heap.size) (.slice a L cap) zl) (hsd : SrcE intV W (fun k => k < W.heap.size) (.slice b D capd) zd) (hll : zl.length = L) (hdl : zd.length = D) (hL : L ≤ 1048576) (hD : D ≤ 1048576) (hn : n ≤ 100) (hm : mayM zl zd = false) (hT : Tab W) :
    Calls Tryd.prog 5 #[.slice a L cap, .slice b D capd, .int .i64 (n : Nat)] W fun e w' => e = .returned (.bool true) ∧ Same W w' := by
  have HSA : Hid (SrcE intV W (fun k => k < W.heap.size) (.slice a L cap) zl) := hsl
  have HSB : Hid (SrcE intV W (fun k => k < W.heap.size) (.slice b D capd) zd) := hsd
  have HLL : Hid (zl.length = L ∧ zd.length = D) := hid ⟨hll, hdl⟩
  have HT : Hid (Tab W) := hT
  have HMY : Hid (mayM zl zd = false) := hm
  have b1 : decide ((1048576 : Int) < (L : Int)) = false := by simp; omega
  have b2 : decide ((1048576 : Int) < (D : Int)) = false := by simp; omega
  have b3 : decide ((n : Int) < 0) = false := by simp
  have b4 : decide ((100 : Int) < (n : Int)) = false := by simp; omega
  have HNW := newWriter_any W
  clear hsl hsd hll hdl hT hm
  go_enter Tryd.func5, Tryd.ntmps5
  go_wp2_with fail
  refine HNW.mono ?_
  rintro e w1 ⟨rfl, hw1, hk1, hz1⟩
  have HW1 : Hid (WS w1 w1 W.heap.size (.slice none 0 0) (.slice none 0 0) (alt 0)) := hid (WS.start (by simpa [alt, n2] using hw1) (by simp [alt]))
  have HK1 : Hid (Same W w1) := hk1
  clear hw1 hk1 HNW b1 b2 b3 b4
  go_wp2_with fail
  go_loopg [8] n (fun q zi wr => ∃ (i : Nat) (si : Value), n - i ≤ q ∧ i ≤ n ∧ zi = .int .i64 (i : Nat) ∧ Hid (WS w1 wr W.heap.size (.slice none 0 0) si (alt i)))
  case atStart => exact ⟨0, .slice none 0 0, by omega, by omega, rfl, HW1⟩
  case round =>
    clear HW1
    obtain ⟨i, si, hq, hi, rfl, HWI⟩ := hrel
    by_cases hlt : i < n
    · have HP := ws_put w1 wr W.heap.size (.slice none 0 0) si (alt i) (i % 2) 1 HWI.out (by decide) (by omega) (by rw [alt_length]; omega)
      obtain ⟨m, hm⟩ : ∃ m, m = i % 2 := ⟨_, rfl⟩
      rw [← hm] at HP
      have HA : Hid (alt (i + 1) = alt i ++ bitsOf m 1) := hid (by rw [hm]; exact alt_succ i)
      have hmI : Int.tmod (i : Int) 2 = (m : Int) := by rw [hm]; exact (Int.ofNat_tmod i 2).symm
      have hmw : IntKind.u32.wrap (m : Int) = (m : Int) := by rw [IntKind.wrap_u32]; omega
      clear hm
      go_wp2_with fail
      refine HP.mono ?_
      rintro e wy ⟨rfl, ⟨sy, hwy⟩, hky⟩
      have HWY : Hid (WS w1 wy W.heap.size (.slice none 0 0) sy (alt (i + 1))) := hid (by rw [HA.out]; exact hwy)
      clear hwy HP hky
      go_wp2_with fail
      go_roundg (gk - 1)
      case measure => omega
      case rel => exact ⟨i + 1, sy, by omega, by omega, by go_num, HWY⟩
    · have hin : i = n := by omega
      subst hin
      clear hq hlt hi
      have hFP : ∀ k, Fp W.heap.size si k → k < wr.heap.size := fun k h => HWI.out.wr.fp_lt h
      have HFP : Hid (∀ k, Fp W.heap.size si k → k < wr.heap.size ∧ W.heap.size ≤ k) := hid (fun k h => ⟨hFP k h, by
        rcases h with e | e
        · omega
        · rcases HWI.out.own k e with h1 | h1
          · simp [Value.ownBlock] at h1
          · have := HK1.out.size; omega⟩)
      have hkA : Same W wr := Same.then HK1.out HWI.out.kept (fun k hk f => by
        rcases f with e | e
        · omega
        · simp [Value.ownBlock] at e)
      have HKA : Hid (Same W wr) := hkA
      have HLE := lent_any wr _ _ zl (HSA.out.same hkA) (by have := HLL.out.1; omega)
      rw [HLL.out.1] at HLE
      clear hFP hkA
      go_wp2_with fail
      refine HLE.mono ?_
      rintro e w2 ⟨gx, rfl, hL2, hk2, hgx1, hgx2⟩
      have HX2 : Hid (Lent w2 gx zl) := hL2
      have HK2 : Hid (Same wr w2) := hk2
      have HLE2 := lent_any w2 _ _ zd (HSB.out.same (Same.trans HKA.out hk2)) (by have := HLL.out.2; omega)
      rw [HLL.out.2] at HLE2
      clear hL2 hk2 HLE
      go_wp2_with fail
      refine HLE2.mono ?_
      rintro e w3 ⟨gy, rfl, hL3, hk3, hgy1, hgy2⟩
      have HY3 : Hid (Lent w3 gy zd) := hL3
      have HX3 : Hid (Lent w3 gx zl) := hid (HX2.out.kept hk3 (fun f => f))
      have HK3 : Hid (Same wr w3) := hid (Same.trans HK2.out hk3)
      have HKW3 : Hid (Same W w3) := hid (Same.trans HKA.out HK3.out)
      have HWS3 : Hid (WS w3 w3 W.heap.size si si (alt i)) := hid (WS.start (HWI.out.wr.kept HK3.out (fun _ _ f => f)) HWI.out.bit)
      have hsx := HX3.out.src
      have hsy := HY3.out.src
      rw [HLL.out.1] at hsx
      rw [HLL.out.2] at hsy
      have HWR := lwrite_bad w3 W.heap.size _ _ L (L + 1) D (D + 1) _ _ zl zd hsx hsy (by omega) (by omega) HMY.out
      clear hL3 hk3 HLE2 hsx hsy
      go_wp2_with fail
      refine HWR.mono ?_
      rintro e w4 ⟨rfl, hk4⟩
      have HK4 : Hid (Same w3 w4) := hk4
      have HKE := kept_any w4 gx _ _ zl (HX3.out.kept hk4 (fun f => f)) (HSA.out.same (Same.trans HKW3.out hk4)) (by have := HLL.out.1; omega)
      rw [HLL.out.1] at HKE
      clear hk4 HWR
      go_wp2_with fail
      refine HKE.mono ?_
      rintro e w5 ⟨rfl, hk5⟩
      have HK5 : Hid (Same w3 w5) := hid (Same.trans HK4.out hk5)
      have HKE2 := kept_any w5 gy _ _ zd (HY3.out.kept HK5.out (fun f => f)) (HSB.out.same (Same.trans HKW3.out HK5.out)) (by have := HLL.out.2; omega)
      rw [HLL.out.2] at HKE2
      clear hk5 HKE
      go_wp2_with fail
      refine HKE2.mono ?_
      rintro e w6 ⟨rfl, hk6⟩
      have HK6 : Hid (Same w3 w6) := hid (Same.trans HK5.out hk6)
      have HMA := may_any w6 _ _ _ _ zl zd (HSA.out.same (Same.trans HKW3.out HK6.out)) (HSB.out.same (Same.trans HKW3.out HK6.out)) (by have := HLL.out.1; omega) (by have := HLL.out.2; omega)
      rw [HMY.out] at HMA
      clear hk6 HKE2
      go_wp2_with fail
      refine HMA.mono ?_
      rintro e w7 ⟨rfl, hw7⟩
      subst hw7
      have HAW := lawake_any w7 (HT.out.kept (Same.trans HKW3.out HK6.out) (fun f => f))
      clear HMA
      go_wp2_with fail
      refine HAW.mono ?_
      rintro e w8 ⟨rfl, hk8⟩
      have HK8 : Hid (Same w3 w8) := hid (Same.trans HK6.out hk8)
      have HLN := len_any W.heap.size _ _ si w8 (HWS3.out.wr.kept HK8.out (fun _ _ f => f))
      rw [alt_length] at HLN
      clear hk8 HAW
      go_wp2_with fail
      refine HLN.mono ?_
      rintro e w9 ⟨rfl, hw9⟩
      subst hw9
      clear HLN
      go_wp2_with fail
      go_ret
      exact ⟨rfl, Same.trans HKW3.out HK8.out⟩

set_option maxRecDepth 100000 in
set_option maxHeartbeats 1000000 in
theorem writes_good (W : World) (a b : Option Addr) (L cap D capd n : Nat) (zl zd : List Int) (hsl : SrcE intV W (fun k => k < W.heap.size) (.slice a L cap) zl) (hsd : SrcE intV W (fun k => k < W.heap.size) (.slice b D capd) zd) (hll : zl.length = L) (hdl : zd.length = D) (hL : L ≤ 1048576) (hD : D ≤ 1048576) (hn : n ≤ 100) (hm : mayM zl zd = true) (hT : Tab W) :
    Calls Tryd.prog 5 #[.slice a L cap, .slice b D capd, .int .i64 (n : Nat)] W fun e w' => e = .returned (.bool true) ∧ Same W w' := by
  have HSA : Hid (SrcE intV W (fun k => k < W.heap.size) (.slice a L cap) zl) := hsl
  have HSB : Hid (SrcE intV W (fun k => k < W.heap.size) (.slice b D capd) zd) := hsd
  have HLL : Hid (zl.length = L ∧ zd.length = D) := hid ⟨hll, hdl⟩
  have HT : Hid (Tab W) := hT
  have HMY : Hid (mayM zl zd = true) := hm
  have b1 : decide ((1048576 : Int) < (L : Int)) = false := by simp; omega
  have b2 : decide ((1048576 : Int) < (D : Int)) = false := by simp; omega
  have b3 : decide ((n : Int) < 0) = false := by simp
  have b4 : decide ((100 : Int) < (n : Int)) = false := by simp; omega
  have HNW := newWriter_any W
  clear hsl hsd hll hdl hT hm
  go_enter Tryd.func5, Tryd.ntmps5
  go_wp2_with fail
  refine HNW.mono ?_
  rintro e w1 ⟨rfl, hw1, hk1, hz1⟩
  have HW1 : Hid (WS w1 w1 W.heap.size (.slice none 0 0) (.slice none 0 0) (alt 0)) := hid (WS.start (by simpa [alt, n2] using hw1) (by simp [alt]))
  have HK1 : Hid (Same W w1) := hk1
  clear hw1 hk1 HNW b1 b2 b3 b4
  go_wp2_with fail
  go_loopg [8] n (fun q zi wr => ∃ (i : Nat) (si : Value), n - i ≤ q ∧ i ≤ n ∧ zi = .int .i64 (i : Nat) ∧ Hid (WS w1 wr W.heap.size (.slice none 0 0) si (alt i)))
  case atStart => exact ⟨0, .slice none 0 0, by omega, by omega, rfl, HW1⟩
  case round =>
    clear HW1
    obtain ⟨i, si, hq, hi, rfl, HWI⟩ := hrel
    by_cases hlt : i < n
    · have HP := ws_put w1 wr W.heap.size (.slice none 0 0) si (alt i) (i % 2) 1 HWI.out (by decide) (by omega) (by rw [alt_length]; omega)
      obtain ⟨m, hm⟩ : ∃ m, m = i % 2 := ⟨_, rfl⟩
      rw [← hm] at HP
      have HA : Hid (alt (i + 1) = alt i ++ bitsOf m 1) := hid (by rw [hm]; exact alt_succ i)
      have hmI : Int.tmod (i : Int) 2 = (m : Int) := by rw [hm]; exact (Int.ofNat_tmod i 2).symm
      have hmw : IntKind.u32.wrap (m : Int) = (m : Int) := by rw [IntKind.wrap_u32]; omega
      clear hm
      go_wp2_with fail
      refine HP.mono ?_
      rintro e wy ⟨rfl, ⟨sy, hwy⟩, hky⟩
      have HWY : Hid (WS w1 wy W.heap.size (.slice none 0 0) sy (alt (i + 1))) := hid (by rw [HA.out]; exact hwy)
      clear hwy HP hky
      go_wp2_with fail
      go_roundg (gk - 1)
      case measure => omega
      case rel => exact ⟨i + 1, sy, by omega, by omega, by go_num, HWY⟩
    · have hin : i = n := by omega
      subst hin
      clear hq hlt hi
      have hFP : ∀ k, Fp W.heap.size si k → k < wr.heap.size := fun k h => HWI.out.wr.fp_lt h
      have HFP : Hid (∀ k, Fp W.heap.size si k → k < wr.heap.size ∧ W.heap.size ≤ k) := hid (fun k h => ⟨hFP k h, by
        rcases h with e | e
        · omega
        · rcases HWI.out.own k e with h1 | h1
          · simp [Value.ownBlock] at h1
          · have := HK1.out.size; omega⟩)
      have hkA : Same W wr := Same.then HK1.out HWI.out.kept (fun k hk f => by
        rcases f with e | e
        · omega
        · simp [Value.ownBlock] at e)
      have HKA : Hid (Same W wr) := hkA
      have HLE := lent_any wr _ _ zl (HSA.out.same hkA) (by have := HLL.out.1; omega)
      rw [HLL.out.1] at HLE
      clear hFP hkA
      go_wp2_with fail
      refine HLE.mono ?_
      rintro e w2 ⟨gx, rfl, hL2, hk2, hgx1, hgx2⟩
      have HX2 : Hid (Lent w2 gx zl) := hL2
      have HK2 : Hid (Same wr w2) := hk2
      have HLE2 := lent_any w2 _ _ zd (HSB.out.same (Same.trans HKA.out hk2)) (by have := HLL.out.2; omega)
      rw [HLL.out.2] at HLE2
      clear hL2 hk2 HLE
      go_wp2_with fail
      refine HLE2.mono ?_
      rintro e w3 ⟨gy, rfl, hL3, hk3, hgy1, hgy2⟩
      have HY3 : Hid (Lent w3 gy zd) := hL3
      have HX3 : Hid (Lent w3 gx zl) := hid (HX2.out.kept hk3 (fun f => f))
      have HK3 : Hid (Same wr w3) := hid (Same.trans HK2.out hk3)
      have HKW3 : Hid (Same W w3) := hid (Same.trans HKA.out HK3.out)
      have HWS3 : Hid (WS w3 w3 W.heap.size si si (alt i)) := hid (WS.start (HWI.out.wr.kept HK3.out (fun _ _ f => f)) HWI.out.bit)
      have hsx := HX3.out.src
      have hsy := HY3.out.src
      rw [HLL.out.1] at hsx
      rw [HLL.out.2] at hsy
      have HWR := lwrite_good w3 W.heap.size si (alt i) _ _ L (L + 1) D (D + 1) _ _ zl zd hsx hsy HMY.out HWS3.out (by rw [alt_length]; omega) (HT.out.kept HKW3.out (fun f => f)) (fun f => by have h1 := (HFP.out _ f).2; have h2 := HT.out.pos; omega)
      clear hL3 hk3 HLE2 hsx hsy
      go_wp2_with fail
      refine HWR.mono ?_
      rintro e w4 ⟨rfl, s4, many, cs, sn, hho, hsn, hws4⟩
      have hhl := head_len hho hsn
      have hrl := fun B hB => readF_laid hho (alt i) B hB
      obtain ⟨hb, hhb⟩ : ∃ hb, hb = headBits (zl.map Int.toNat).length (zd.map Int.toNat).length many cs sn := ⟨_, rfl⟩
      rw [← hhb] at hhl hrl hws4
      rw [alt_length] at hrl
      have HRL : Hid (∀ B : List Nat, (∀ b ∈ B, b < 2) → readF (alt i ++ (hb ++ B)) i = .ok ((zl.map Int.toNat, zd.map Int.toNat), hb.length)) := hid hrl
      obtain ⟨H, hH⟩ : ∃ H, H = hb.length := ⟨_, rfl⟩
      rw [List.length_map, List.length_map, HLL.out.1, HLL.out.2, ← hH] at hhl
      have HHE : Hid (H = hb.length) := hH
      have HWS4 : Hid (WS w3 w4 W.heap.size si s4 (alt i ++ hb)) := hws4
      have HKW4 : Hid (Same W w4) := hid (Same.then HKW3.out hws4.kept (fun k hk f => by have := (HFP.out k f).2; omega))
      obtain ⟨hl1, hl2, hd1, hd2, hokl, hokd⟩ := mayM_parts HMY.out
      rw [HLL.out.1] at hl1 hl2
      rw [HLL.out.2] at hd1 hd2
      have HNA : Hid ((zl.map Int.toNat).map natV = zl.map intV) := hid (nat_of_ok hokl).1
      have HNB : Hid ((zd.map Int.toNat).map natV = zd.map intV) := hid (nat_of_ok hokd).1
      have HKE := kept_any w4 gx _ _ zl (HX3.out.kept hws4.kept (fun f => by have := (HFP.out gx f).1; omega)) (HSA.out.same HKW4.out) (by have := HLL.out.1; omega)
      rw [HLL.out.1] at HKE
      have HY4 : Hid (Lent w4 gy zd) := hid (HY3.out.kept hws4.kept (fun f => by have := (HFP.out gy f).1; have := HK2.out.size; omega))
      clear hho hsn hrl hhb hH hws4 HWR hokl hokd
      go_wp2_with fail
      refine HKE.mono ?_
      rintro e w5 ⟨rfl, hk5⟩
      have HK5 : Hid (Same w4 w5) := hk5
      have HKE2 := kept_any w5 gy _ _ zd (HY4.out.kept HK5.out (fun f => f)) (HSB.out.same (Same.trans HKW4.out HK5.out)) (by have := HLL.out.2; omega)
      rw [HLL.out.2] at HKE2
      clear hk5 HKE
      go_wp2_with fail
      refine HKE2.mono ?_
      rintro e w6 ⟨rfl, hk6⟩
      have HK6 : Hid (Same w4 w6) := hid (Same.trans HK5.out hk6)
      have HMA := may_any w6 _ _ _ _ zl zd (HSA.out.same (Same.trans HKW4.out HK6.out)) (HSB.out.same (Same.trans HKW4.out HK6.out)) (by have := HLL.out.1; omega) (by have := HLL.out.2; omega)
      rw [HMY.out] at HMA
      clear hk6 HKE2
      go_wp2_with fail
      refine HMA.mono ?_
      rintro e w7 ⟨rfl, hw7⟩
      subst hw7
      have HWS7 : Hid (WS w3 w7 W.heap.size si s4 (alt i ++ hb)) := hid (HWS4.out.same HK6.out)
      obtain ⟨t, ht⟩ : ∃ t, t = i + H := ⟨_, rfl⟩
      have HTL : Hid ((alt i ++ hb).length = t) := hid (by rw [List.length_append, alt_length, ht, HHE.out])
      have HBY := wbytes_any W.heap.size _ _ s4 w7 HWS7.out.wr (by rw [HTL.out]; omega)
      clear HMA
      go_wp2_with fail
      refine HBY.mono ?_
      rintro e w8 ⟨g8, bs, rfl, hr8, hb8, hn8, hl8, hk8, _⟩
      rw [HTL.out] at hl8
      have hpad := ofBytes_pad bs (alt i ++ hb) hb8 HWS7.out.bit hn8 (by rw [HTL.out]; exact hl8)
      have HPAD : Hid (ofBytes bs = alt i ++ (hb ++ List.replicate (8 * bs.length - t) 0)) := hid (by rw [hpad, HTL.out, List.append_assoc])
      have HRF : Hid (readF (ofBytes bs) i = .ok ((zl.map Int.toNat, zd.map Int.toNat), H)) := hid (by
        rw [HPAD.out, HHE.out]
        exact HRL.out _ (fun x hx => by have := List.eq_of_mem_replicate hx; omega))
      have hbl : bs.length ≤ 100000 := by omega
      have HOF := refOf_any w8 _ _ bs (Src.ofRow hr8) (by omega) hb8
      have HK8 : Hid (Same w4 w8) := hid (Same.trans HK6.out hk8)
      have HIB : Hid (i ≤ 8 * bs.length) := hid (by omega)
      obtain ⟨M8, hM8⟩ : ∃ M, M = bs.length := ⟨_, rfl⟩
      rw [← hM8] at HOF ⊢
      have HM8 : Hid (M8 = bs.length) := hM8
      clear hr8 hb8 hn8 hk8 hpad HBY hl8 hM8
      go_wp2_with fail
      refine HOF.mono ?_
      rintro e w9 ⟨v9, rfl, hg9⟩
      have hk9 : Same w8 w9 := hg9.kept.mono (fun _ _ e => by cases e)
      have HR9 : Hid (Row w9 v9 (ofBytes bs)) := hg9.row
      have HRR := rread_any w9 v9 _ (ofBytes bs) i (Src.ofRow hg9.row) (fun j e => hg9.row.lt e) (ofBytes_lt bs) (by rw [ofBytes_length]; exact HIB.out) (by rw [ofBytes_length]; omega)
      rw [HRF.out] at HRR
      have HK9 : Hid (Same w4 w9) := hid (Same.trans HK8.out hk9)
      obtain ⟨a9, cap9, hv9, hg9s⟩ := hg9.row.shape
      subst hv9
      obtain ⟨Q9, hQ9⟩ : ∃ Q, Q = (ofBytes bs).length := ⟨_, rfl⟩
      rw [← hQ9] at HR9 HRR ⊢
      have HQ9 : Hid (Q9 = (ofBytes bs).length ∧ i ≤ Q9) := hid ⟨hQ9, by rw [hQ9, ofBytes_length]; exact HIB.out⟩
      clear hg9 hk9 HOF hg9s hQ9
      go_wp2_with fail
      refine HRR.mono ?_
      rintro e w10 ⟨⟨wa, wb, rfl, hwa, hwb⟩, hk10⟩
      have HWA : Hid (SrcE natV w10 (fun j => w9.heap.size ≤ j) wa (zl.map Int.toNat)) := hwa
      have HWB : Hid (SrcE natV w10 (fun j => w9.heap.size ≤ j) wb (zd.map Int.toNat)) := hwb
      have HK10 : Hid (Same w4 w10) := hid (Same.trans HK9.out hk10)
      have HR10 : Hid (Src w10 (fun k => (Value.slice a9 Q9 cap9).ownBlock = some k) (.slice a9 Q9 cap9) (ofBytes bs)) := hid (Src.ofRow (HR9.out.kept hk10 (fun _ _ f => f)))
      clear hwa hwb hk10 HRR
      go_wp2_with fail
      go_loopg [18] i (fun q zj wr => ∃ (j : Nat), i - j ≤ q ∧ j ≤ i ∧ zj = .int .i64 (j : Nat) ∧ wr = w10)
      case atStart => exact ⟨0, by omega, by omega, rfl, rfl⟩
      case round =>
        obtain ⟨j, hq, hj, rfl, hwr⟩ := hrel
        subst hwr
        by_cases hlt : j < i
        · have hjl : j < (ofBytes bs).length := by have := HQ9.out; omega
          obtain ⟨b9, o9, rfl, cj⟩ : ∃ b o, a9 = some ⟨b, o, none⟩ ∧ wr.cell? ⟨b, o + j, none⟩ = some (.int .u8 ((ofBytes bs)[j] : Nat)) := by
            obtain ⟨ao, cp, e, hc⟩ := HR10.out
            simp only [Value.slice.injEq] at e
            obtain ⟨rfl, _, rfl⟩ := e
            obtain ⟨b, o, e, _, hc⟩ := hc (fun e => by rw [e] at hjl; simp at hjl)
            exact ⟨b, o, e, hc j hjl⟩
          have hval : (ofBytes bs)[j] = j % 2 := by
            have h1 : (ofBytes bs)[j]? = some (j % 2) := by
              rw [HPAD.out, List.getElem?_append_left (by rw [alt_length]; exact hlt), List.getElem?_eq_getElem (by rw [alt_length]; exact hlt), alt_get]
            rw [List.getElem?_eq_getElem hjl] at h1
            exact Option.some.inj h1
          rw [hval] at cj
          obtain ⟨m, hm⟩ : ∃ m, m = j % 2 := ⟨_, rfl⟩
          rw [← hm] at cj
          have hmI : Int.tmod (j : Int) 2 = (m : Int) := by rw [hm]; exact (Int.ofNat_tmod j 2).symm
          have hmw : IntKind.i64.wrap (m : Int) = (m : Int) := by rw [IntKind.wrap_i64]; omega
          have hjQ : j < Q9 := by have := HQ9.out; omega
          clear hval hm hjl
          go_wp2_with fail
          go_roundg (gk - 1)
          case measure => omega
          case rel => exact ⟨j + 1, by omega, by omega, by go_num, rfl⟩
        · have hji : j = i := by omega
          subst hji
          clear hq hlt
          have HAW := lawake_any wr (HT.out.kept (Same.trans HKW4.out HK10.out) (fun f => f))
          go_wp2_with fail
          refine HAW.mono ?_
          rintro e w11 ⟨rfl, hk11⟩
          have HK11 : Hid (Same wr w11) := hk11
          have HK411 : Hid (Same w4 w11) := hid (Same.trans HK10.out hk11)
          have HI1 := ints_same w11 wa _ _ _ (zl.map Int.toNat) (HWA.out.same hk11) ((HSA.out.same (Same.trans HKW4.out HK411.out)).recode HNA.out) (by rw [List.length_map, HLL.out.1]; omega)
          clear hk11 HAW
          go_wp2_with fail
          refine HI1.mono ?_
          rintro e w12 ⟨rfl, hk12⟩
          have HK412 : Hid (Same w4 w12) := hid (Same.trans HK411.out hk12)
          have HI2 := ints_same w12 wb _ _ _ (zd.map Int.toNat) (HWB.out.same (Same.trans HK11.out hk12)) ((HSB.out.same (Same.trans HKW4.out HK412.out)).recode HNB.out) (by rw [List.length_map, HLL.out.2]; omega)
          clear hk12 HI1
          go_wp2_with fail
          refine HI2.mono ?_
          rintro e w13 ⟨rfl, hk13⟩
          have HK413 : Hid (Same w4 w13) := hid (Same.trans HK412.out hk13)
          have HLN := len_any W.heap.size _ _ s4 w13 (HWS4.out.wr.kept HK413.out (fun _ _ f => f))
          rw [HTL.out] at HLN
          have htI : (j : Int) + (H : Int) = (t : Int) := by omega
          have htw : IntKind.i64.wrap (t : Int) = (t : Int) := by rw [IntKind.wrap_i64]; omega
          obtain ⟨q1, hq1⟩ : ∃ q, q = L + D := ⟨_, rfl⟩
          have hq1I : (L : Int) + (D : Int) = (q1 : Int) := by omega
          have hq1w : IntKind.i64.wrap (q1 : Int) = (q1 : Int) := by rw [IntKind.wrap_i64]; omega
          obtain ⟨q2, hq2⟩ : ∃ q, q = 14 * q1 := ⟨_, rfl⟩
          have hq2I : (14 : Int) * (q1 : Int) = (q2 : Int) := by omega
          have hq2w : IntKind.i64.wrap (q2 : Int) = (q2 : Int) := by rw [IntKind.wrap_i64]; omega
          obtain ⟨q3, hq3⟩ : ∃ q, q = 71 + q2 := ⟨_, rfl⟩
          have hq3I : (71 : Int) + (q2 : Int) = (q3 : Int) := by omega
          have hq3w : IntKind.i64.wrap (q3 : Int) = (q3 : Int) := by rw [IntKind.wrap_i64]; omega
          have hHq : H ≤ q3 := by omega
          have HKF : Hid (Same W w13) := hid (Same.trans HKW4.out HK413.out)
          clear hk13 HI2 hq1 hq2 hq3 ht hhl
          go_wp2_with fail
          refine HLN.mono ?_
          rintro e w14 ⟨rfl, hw14⟩
          subst hw14
          clear HLN
          go_wp2_with fail
          go_ret
          exact ⟨rfl, HKF.out⟩

set_option maxRecDepth 100000 in
set_option maxHeartbeats 4000000 in
theorem lensWrites_all (a : Option Addr) (len cap : Nat) (zl : List Int) (b : Option Addr) (len1 cap1 : Nat) (zd : List Int) (nz : Int) (W : World) (h : IsRow .i64 W a len cap zl) (h1 : IsRow .i64 W b len1 cap1 zd) (_hm : (Lit.int .i64 nz).wf = true) (hT : Tab W) :
    Calls Tryd.prog 5 #[.slice a len cap, .slice b len1 cap1, .int .i64 nz] W fun e w' => e = .returned (.bool true) ∧ Below W.heap.size W w' := by
  obtain ⟨hs, hl⟩ := h.ints
  obtain ⟨hs1, hl1⟩ := h1.ints
  clear h h1
  suffices H : Calls Tryd.prog 5 #[.slice a len cap, .slice b len1 cap1, .int .i64 nz] W fun e w' => e = .returned (.bool true) ∧ Same W w' from H.mono (fun e w' h => ⟨h.1, h.2.bel⟩)
  by_cases hbad : 1048576 < len ∨ 1048576 < len1 ∨ nz < 0 ∨ 100 < nz
  · have HAW := lawake_any W hT
    by_cases c1 : 1048576 < len
    · have b1 : decide ((1048576 : Int) < (len : Int)) = true := by simp; omega
      clear hbad c1 hs hl hs1 hl1 hT
      go_enter Tryd.func5, Tryd.ntmps5
      go_wp2_with fail
      refine HAW.mono ?_
      rintro e w5 ⟨rfl, hk5⟩
      have HK5 : Hid (Same W w5) := hk5
      clear hk5 HAW
      go_wp2_with fail
      go_ret
      exact ⟨rfl, HK5.out⟩
    · have b1 : decide ((1048576 : Int) < (len : Int)) = false := by simp; omega
      by_cases c2 : 1048576 < len1
      · have b2 : decide ((1048576 : Int) < (len1 : Int)) = true := by simp; omega
        clear hbad c1 c2 hs hl hs1 hl1 hT
        go_enter Tryd.func5, Tryd.ntmps5
        go_wp2_with fail
        refine HAW.mono ?_
        rintro e w5 ⟨rfl, hk5⟩
        have HK5 : Hid (Same W w5) := hk5
        clear hk5 HAW
        go_wp2_with fail
        go_ret
        exact ⟨rfl, HK5.out⟩
      · have b2 : decide ((1048576 : Int) < (len1 : Int)) = false := by simp; omega
        by_cases c3 : nz < 0
        · have b3 : decide (nz < 0) = true := by simp; omega
          clear hbad c1 c2 c3 hs hl hs1 hl1 hT
          go_enter Tryd.func5, Tryd.ntmps5
          go_wp2_with fail
          refine HAW.mono ?_
          rintro e w5 ⟨rfl, hk5⟩
          have HK5 : Hid (Same W w5) := hk5
          clear hk5 HAW
          go_wp2_with fail
          go_ret
          exact ⟨rfl, HK5.out⟩
        · have b3 : decide (nz < 0) = false := by simp; omega
          have b4 : decide (100 < nz) = true := by simp; omega
          clear hbad c1 c2 c3 hs hl hs1 hl1 hT
          go_enter Tryd.func5, Tryd.ntmps5
          go_wp2_with fail
          refine HAW.mono ?_
          rintro e w5 ⟨rfl, hk5⟩
          have HK5 : Hid (Same W w5) := hk5
          clear hk5 HAW
          go_wp2_with fail
          go_ret
          exact ⟨rfl, HK5.out⟩
  · obtain ⟨n, rfl⟩ : ∃ n : Nat, nz = (n : Int) := ⟨nz.toNat, by omega⟩
    cases hm : mayM (zl.take len) (zd.take len1) with
    | false => exact writes_bad W a b len cap len1 cap1 n _ _ hs hs1 hl hl1 (by omega) (by omega) (by omega) hm hT
    | true => exact writes_good W a b len cap len1 cap1 n _ _ hs hs1 hl hl1 (by omega) (by omega) (by omega) hm hT

end Go.Proofs.YtofhlnpbflkdlaaDoor

/-
  The law LensRound.
-/
namespace Go.Proofs.YtofhlnpbflkdlaaDoor
open Go.RowKit

/-- Two heads and 32 bits, one behind the other. -/
theorem round_bits {xs ys zs : List Nat} {m1 m2 : Nat} {c1 c2 : List Nat} {s1 s2 : List (Nat × Nat)} (h1 : HeadOk xs ys m1 c1 s1) (h2 : HeadOk xs zs m2 c2 s2) (v n : Nat) (hv : v < 2 ^ 32) (T : List Nat)
    (hT : T = headBits xs.length ys.length m1 c1 s1 ++ headBits xs.length zs.length m2 c2 s2 ++ bitsOf v 32 ++ List.replicate n 0) :
    readF T 0 = .ok ((xs, ys), (headBits xs.length ys.length m1 c1 s1).length) ∧ readF T (headBits xs.length ys.length m1 c1 s1).length = .ok ((xs, zs), (headBits xs.length zs.length m2 c2 s2).length) ∧
      numAt T ((headBits xs.length ys.length m1 c1 s1).length + (headBits xs.length zs.length m2 c2 s2).length) 32 = v := by
  have hz : ∀ b ∈ List.replicate n 0, b < 2 := fun b hb => by have := List.eq_of_mem_replicate hb; omega
  have hbv : ∀ b ∈ bitsOf v 32 ++ List.replicate n 0, b < 2 := fun b hb => by
    rcases List.mem_append.1 hb with h | h
    · exact bitsOf_lt _ _ b h
    · exact hz b h
  refine ⟨?_, ?_, ?_⟩
  · have h := readF_laid h1 [] (headBits xs.length zs.length m2 c2 s2 ++ (bitsOf v 32 ++ List.replicate n 0)) (fun b hb => by
      rcases List.mem_append.1 hb with h | h
      · exact headBits_bit _ _ _ _ _ b h
      · exact hbv b h)
    rw [hT]
    simpa [List.append_assoc] using h
  · have h := readF_laid h2 (headBits xs.length ys.length m1 c1 s1) (bitsOf v 32 ++ List.replicate n 0) hbv
    rw [hT]
    simpa [List.append_assoc] using h
  · have h := numAt_laid (headBits xs.length ys.length m1 c1 s1 ++ headBits xs.length zs.length m2 c2 s2) (List.replicate n 0) v 32 hv
    rw [hT]
    rw [List.length_append] at h
    simpa [List.append_assoc] using h

set_option maxRecDepth 100000 in
set_option maxHeartbeats 1000000 in
theorem round_good (W : World) (a b c : Option Addr) (L cap D capd O capo v : Nat) (zl zd zo : List Int) (hsl : SrcE intV W (fun k => k < W.heap.size) (.slice a L cap) zl) (hsd : SrcE intV W (fun k => k < W.heap.size) (.slice b D capd) zd) (hso : SrcE intV W (fun k => k < W.heap.size) (.slice c O capo) zo) (hll : zl.length = L) (hdl : zd.length = D) (hol : zo.length = O) (hL : L ≤ 1048576) (hD : D ≤ 1048576) (hO : O ≤ 1048576) (hv : v < 2 ^ 32) (hm : mayM zl zd = true) (hm2 : mayM zl zo = true) (hT : Tab W) :
    Calls Tryd.prog 8 #[.slice a L cap, .slice b D capd, .slice c O capo, .int .u32 (v : Nat)] W fun e w' => e = .returned (.bool true) ∧ Same W w' := by
  have HSA : Hid (SrcE intV W (fun k => k < W.heap.size) (.slice a L cap) zl) := hsl
  have HSB : Hid (SrcE intV W (fun k => k < W.heap.size) (.slice b D capd) zd) := hsd
  have HSC : Hid (SrcE intV W (fun k => k < W.heap.size) (.slice c O capo) zo) := hso
  have HLL : Hid (zl.length = L ∧ zd.length = D ∧ zo.length = O) := hid ⟨hll, hdl, hol⟩
  have HT : Hid (Tab W) := hT
  have HM1 : Hid (mayM zl zd = true) := hm
  have HM2 : Hid (mayM zl zo = true) := hm2
  have b1 : decide ((1048576 : Int) < (L : Int)) = false := by simp; omega
  have b2 : decide ((1048576 : Int) < (D : Int)) = false := by simp; omega
  have b3 : decide ((1048576 : Int) < (O : Int)) = false := by simp; omega
  have HNW := newWriter_any W
  obtain ⟨hl1, hl2, hd1, hd2, hokl, hokd⟩ := mayM_parts hm
  obtain ⟨_, _, ho1, ho2, _, hoko⟩ := mayM_parts hm2
  rw [hll] at hl1 hl2
  rw [hdl] at hd1 hd2
  rw [hol] at ho1 ho2
  have HNA : Hid ((zl.map Int.toNat).map natV = zl.map intV) := hid (nat_of_ok hokl).1
  have HNB : Hid ((zd.map Int.toNat).map natV = zd.map intV) := hid (nat_of_ok hokd).1
  have HNC : Hid ((zo.map Int.toNat).map natV = zo.map intV) := hid (nat_of_ok hoko).1
  clear hsl hsd hso hll hdl hol hT hm hm2 hokl hokd hoko
  go_enter Tryd.func8, Tryd.ntmps8
  go_wp2_with fail
  refine HNW.mono ?_
  rintro e w1 ⟨rfl, hw1, hk1, hz1⟩
  have hws1 : WS w1 w1 W.heap.size (.slice none 0 0) (.slice none 0 0) [] := WS.start (by simpa [n2] using hw1) (by simp)
  have HK1 : Hid (Same W w1) := hk1
  have HWR := lwrite_good w1 W.heap.size (.slice none 0 0) [] _ _ L cap D capd _ _ zl zd (HSA.out.same hk1) (HSB.out.same hk1) HM1.out hws1 (by simp) (HT.out.kept hk1 (fun f => f)) (fun f => by
    rcases f with e | e
    · have := HT.out.pos; omega
    · simp [Value.ownBlock] at e)
  clear hw1 hk1 HNW b1 b2 b3 hws1
  go_wp2_with fail
  refine HWR.mono ?_
  rintro e w2 ⟨rfl, s2, m1, c1, n1, hho1, hsn1, hws2⟩
  have hkA : Same W w2 := Same.then HK1.out hws2.kept (fun k hk f => by
    rcases f with e | e
    · omega
    · simp [Value.ownBlock] at e)
  have hown2 : ∀ k, Fp W.heap.size s2 k → W.heap.size ≤ k := fun k f => by
    rcases f with e | e
    · omega
    · rcases hws2.own k e with h | h
      · simp [Value.ownBlock] at h
      · omega
  have hhl1 := head_len hho1 hsn1
  obtain ⟨X1, hX1⟩ : ∃ X, X = headBits (zl.map Int.toNat).length (zd.map Int.toNat).length m1 c1 n1 := ⟨_, rfl⟩
  rw [List.nil_append, ← hX1] at hws2
  rw [← hX1, List.length_map, List.length_map, HLL.out.1, HLL.out.2.1] at hhl1
  have HHO1 : Hid (HeadOk (zl.map Int.toNat) (zd.map Int.toNat) m1 c1 n1 ∧ X1 = headBits (zl.map Int.toNat).length (zd.map Int.toNat).length m1 c1 n1) := hid ⟨hho1, hX1⟩
  have HKA : Hid (Same W w2) := hkA
  have HWR2 := lwrite_good w2 W.heap.size s2 X1 _ _ L cap O capo _ _ zl zo (HSA.out.same hkA) (HSC.out.same hkA) HM2.out (WS.start hws2.wr hws2.bit) (by omega) (HT.out.kept hkA (fun f => f)) (fun f => by have := hown2 _ f; have := HT.out.pos; omega)
  have HOWN : Hid (∀ k, Fp W.heap.size s2 k → W.heap.size ≤ k) := hown2
  clear hho1 hsn1 hX1 hws2 hkA hown2 HWR
  go_wp2_with fail
  refine HWR2.mono ?_
  rintro e w3 ⟨rfl, s3, m2, c2, n2', hho2, hsn2, hws3⟩
  have hkB : Same W w3 := Same.then HKA.out hws3.kept (fun k hk f => by have := HOWN.out k f; omega)
  have hhl2 := head_len hho2 hsn2
  obtain ⟨X2, hX2⟩ : ∃ X, X = headBits (zl.map Int.toNat).length (zo.map Int.toNat).length m2 c2 n2' := ⟨_, rfl⟩
  rw [← hX2] at hws3
  rw [← hX2, List.length_map, List.length_map, HLL.out.1, HLL.out.2.2] at hhl2
  have HHO2 : Hid (HeadOk (zl.map Int.toNat) (zo.map Int.toNat) m2 c2 n2' ∧ X2 = headBits (zl.map Int.toNat).length (zo.map Int.toNat).length m2 c2 n2') := hid ⟨hho2, hX2⟩
  have HKB : Hid (Same W w3) := hkB
  have HPT := ws_put w2 w3 W.heap.size s2 s3 _ v 32 hws3 (by decide) hv (by rw [List.length_append]; omega)
  clear hho2 hsn2 hX2 hws3 hkB HWR2
  go_wp2_with fail
  refine HPT.mono ?_
  rintro e w4 ⟨rfl, ⟨s4, hws4⟩, _⟩
  have HKC : Hid (Same W w4) := hid (Same.then HKA.out hws4.kept (fun k hk f => by have := HOWN.out k f; omega))
  have HWS4 : Hid (WS w2 w4 W.heap.size s2 s4 (X1 ++ X2 ++ bitsOf v 32)) := hws4
  obtain ⟨t, ht⟩ : ∃ t, t = X1.length + X2.length := ⟨_, rfl⟩
  have HTL : Hid ((X1 ++ X2 ++ bitsOf v 32).length = t + 32 ∧ t = X1.length + X2.length) := hid ⟨by rw [List.length_append, List.length_append, bitsOf_length, ht], ht⟩
  have hws4' : Wr w4 W.heap.size s4 (n2 (X1 ++ X2 ++ bitsOf v 32)) (t + 32) := by have h := hws4.wr; rw [HTL.out.1] at h; exact h
  have HBY := wbytes_any W.heap.size _ _ s4 w4 hws4' (by omega)
  clear hws4 HPT hws4'
  go_wp2_with fail
  refine HBY.mono ?_
  rintro e w5 ⟨g5, bs, rfl, hr5, hb5, hn5, hl5, hk5, _⟩
  have hpad := ofBytes_pad bs (X1 ++ X2 ++ bitsOf v 32) hb5 HWS4.out.bit hn5 (by rw [HTL.out.1]; exact hl5)
  have hrb := round_bits HHO1.out.1 HHO2.out.1 v _ hv (ofBytes bs) (by rw [← HHO1.out.2, ← HHO2.out.2]; exact hpad)
  rw [← HHO1.out.2, ← HHO2.out.2] at hrb
  obtain ⟨x1, hx1⟩ : ∃ x, x = X1.length := ⟨_, rfl⟩
  obtain ⟨x2, hx2⟩ : ∃ x, x = X2.length := ⟨_, rfl⟩
  rw [← hx1, ← hx2] at hrb
  rw [← hx1, ← hx2] at ht
  have HRF1 : Hid (readF (ofBytes bs) 0 = .ok ((zl.map Int.toNat, zd.map Int.toNat), x1)) := hid hrb.1
  have HRF2 : Hid (readF (ofBytes bs) x1 = .ok ((zl.map Int.toNat, zo.map Int.toNat), x2)) := hid hrb.2.1
  have HNUM : Hid (numAt (ofBytes bs) t 32 = v) := hid (by rw [ht]; exact hrb.2.2)
  have HBL : Hid (t + 32 ≤ 8 * bs.length ∧ bs.length ≤ 100000 ∧ t = x1 + x2) := hid ⟨by omega, by omega, ht⟩
  have HBY5 : Hid (∀ b ∈ bs, b < 256) := hb5
  have HNR := newReader_any _ _ bs w5 (Src.ofRow hr5) (by omega) hb5
  have HK5 : Hid (Same W w5) := hid (Same.trans HKC.out hk5)
  obtain ⟨M5, hM5⟩ : ∃ M, M = bs.length := ⟨_, rfl⟩
  rw [← hM5] at HNR ⊢
  clear hr5 hb5 hn5 hl5 hk5 hpad hrb hx1 hx2 ht hM5 HBY hhl1 hhl2
  go_wp2_with fail
  refine HNR.mono ?_
  rintro e w6 ⟨p6, s6, rfl, hst6, hk6, hf6⟩
  have HK6 : Hid (Same W w6) := hid (Same.trans HK5.out hk6)
  have HF6 : Hid (∀ k, Fp p6 s6 k → w5.heap.size ≤ k) := hf6
  have HP6 : Hid (W.heap.size ≤ p6 ∧ p6 < w6.heap.size) := hid ⟨by have := hf6 p6 (.inl rfl); have := HK5.out.size; omega, hst6.lt⟩
  have HPG : Hid (p6 ≠ 0) := hid (fun e => by have := HT.out.pos; have := HP6.out; omega)
  have HRD := lread_any w6 p6 0 s6 bs hst6 (Nat.zero_le _) (by have := HBL.out; omega) (HT.out.kept HK6.out (fun f => f)) HPG.out
  rw [HRF1.out] at HRD
  clear hst6 hk6 hf6 HNR
  go_wp2_with fail
  refine HRD.mono ?_
  rintro e w7 ⟨⟨⟨va, vb, rfl, hra, hrb⟩, hc7, hst7⟩, hk7⟩
  rw [Nat.zero_add] at hst7
  have HRA : Hid (NRow w6.heap.size w7 va (zl.map Int.toNat)) := hra
  have HRB : Hid (NRow w6.heap.size w7 vb (zd.map Int.toNat)) := hrb
  have HK7 : Hid (Same W w7) := hid (Same.then HK6.out hk7 (fun k hk e => by have := HP6.out; omega))
  have HRD2 := lread_any w7 p6 x1 s6 bs hst7 (by have := HBL.out; omega) (by have := HBL.out; omega) (HT.out.kept HK7.out (fun f => f)) HPG.out
  rw [HRF2.out] at HRD2
  have hsz67 := hk7.size
  clear hra hrb hc7 hst7 hk7 HRD
  go_wp2_with fail
  refine HRD2.mono ?_
  rintro e w8 ⟨⟨⟨vc, vd, rfl, hrc, hrd⟩, hc8, hst8⟩, hk8⟩
  have HRC : Hid (NRow w7.heap.size w8 vc (zl.map Int.toNat)) := hrc
  have HRE : Hid (NRow w7.heap.size w8 vd (zo.map Int.toNat)) := hrd
  have HRA8 : Hid (NRow w6.heap.size w8 va (zl.map Int.toNat)) := hid (HRA.out.kept hk8 (fun k e f => by have h1 := HRA.out.ge e; have := HP6.out; omega))
  have HRB8 : Hid (NRow w6.heap.size w8 vb (zd.map Int.toNat)) := hid (HRB.out.kept hk8 (fun k e f => by have h1 := HRB.out.ge e; have := HP6.out; omega))
  have HK8 : Hid (Same W w8) := hid (Same.then HK7.out hk8 (fun k hk e => by have := HP6.out; omega))
  have hst8' : St w8 p6 s6 bs t := by have e : t = x1 + x2 := HBL.out.2.2; rw [e]; exact hst8
  have HTK := take_good p6 t 32 s6 bs w8 hst8' (by have := HBL.out; omega) (by decide) HBL.out.1
  rw [num_bits bs HBY5.out t 32 HBL.out.1, HNUM.out] at HTK
  have hsz78 := hk8.size
  clear hrc hrd hc8 hst8 hst8' hk8 HRD2 HRA HRB
  go_wp2_with fail
  refine HTK.mono ?_
  rintro e w9 ⟨rfl, _, hk9⟩
  have HRA9 : Hid (NRow w6.heap.size w9 va (zl.map Int.toNat)) := hid (HRA8.out.kept hk9 (fun k e f => by have h1 := HRA8.out.ge e; have := HP6.out; omega))
  have HRB9 : Hid (NRow w6.heap.size w9 vb (zd.map Int.toNat)) := hid (HRB8.out.kept hk9 (fun k e f => by have h1 := HRB8.out.ge e; have := HP6.out; omega))
  have HRC9 : Hid (NRow w7.heap.size w9 vc (zl.map Int.toNat)) := hid (HRC.out.kept hk9 (fun k e f => by have h1 := HRC.out.ge e; have := HP6.out; omega))
  have HRE9 : Hid (NRow w7.heap.size w9 vd (zo.map Int.toNat)) := hid (HRE.out.kept hk9 (fun k e f => by have h1 := HRE.out.ge e; have := HP6.out; omega))
  have HK9 : Hid (Same W w9) := hid (Same.then HK8.out hk9 (fun k hk e => by have := HP6.out; omega))
  have HAW := lawake_any w9 (HT.out.kept HK9.out (fun f => f))
  clear hk9 HTK HRA8 HRB8 HRC HRE
  go_wp2_with fail
  refine HAW.mono ?_
  rintro e w10 ⟨rfl, hk10⟩
  have HK10 : Hid (Same w9 w10) := hk10
  have HI1 := ints_same w10 va _ _ _ (zl.map Int.toNat) (SrcE.ofRow (HRA9.out.same hk10)) ((HSA.out.same (Same.trans HK9.out hk10)).recode HNA.out) (by rw [List.length_map, HLL.out.1]; omega)
  clear hk10 HAW
  go_wp2_with fail
  refine HI1.mono ?_
  rintro e w11 ⟨rfl, hk11⟩
  have HK11 : Hid (Same w9 w11) := hid (Same.trans HK10.out hk11)
  have HI2 := ints_same w11 vb _ _ _ (zd.map Int.toNat) (SrcE.ofRow (HRB9.out.same HK11.out)) ((HSB.out.same (Same.trans HK9.out HK11.out)).recode HNB.out) (by rw [List.length_map, HLL.out.2.1]; omega)
  clear hk11 HI1
  go_wp2_with fail
  refine HI2.mono ?_
  rintro e w12 ⟨rfl, hk12⟩
  have HK12 : Hid (Same w9 w12) := hid (Same.trans HK11.out hk12)
  have HI3 := ints_same w12 vc _ _ _ (zl.map Int.toNat) (SrcE.ofRow (HRC9.out.same HK12.out)) ((HSA.out.same (Same.trans HK9.out HK12.out)).recode HNA.out) (by rw [List.length_map, HLL.out.1]; omega)
  clear hk12 HI2
  go_wp2_with fail
  refine HI3.mono ?_
  rintro e w13 ⟨rfl, hk13⟩
  have HK13 : Hid (Same w9 w13) := hid (Same.trans HK12.out hk13)
  have HI4 := ints_same w13 vd _ _ _ (zo.map Int.toNat) (SrcE.ofRow (HRE9.out.same HK13.out)) ((HSC.out.same (Same.trans HK9.out HK13.out)).recode HNC.out) (by rw [List.length_map, HLL.out.2.2]; omega)
  clear hk13 HI3
  go_wp2_with fail
  refine HI4.mono ?_
  rintro e w14 ⟨rfl, hk14⟩
  have HK14 : Hid (Same W w14) := hid (Same.trans HK9.out (Same.trans HK13.out hk14))
  clear hk14 HI4
  go_wp2_with fail
  go_ret
  exact ⟨rfl, HK14.out⟩

/-- Write, whatever the lists: an error and nothing laid, or a head. -/
theorem lwrite_either (w : World) (p : Nat) (s : Value) (X : List Nat) (al ad : Option Addr) (L cl D cd : Nat) (I J : Nat → Prop) (zl zd : List Int) (hA : SrcE intV w I (.slice al L cl) zl) (hB : SrcE intV w J (.slice ad D cd) zd) (hL : L ≤ 10000000) (hD : D ≤ 10000000)
    (hws : WS w w p s s X) (hX : X.length ≤ 100000) (hT : Tab w) (hpg : ¬ Fp p s 0) :
    Calls Tryd.prog 20 #[.pointer (some ⟨p, 0, none⟩), .slice al L cl, .slice ad D cd] w fun e w' => ∃ r s' Y, e = .returned (.int .i64 (r : Nat)) ∧ WS w w' p s s' Y ∧ Y.length ≤ X.length + 10000 ∧ (mayM zl zd = false → r = 1) ∧ r ≤ 1 := by
  cases hm : mayM zl zd with
  | false =>
    refine (lwrite_bad w p al ad L cl D cd I J zl zd hA hB hL hD hm).mono ?_
    rintro e w' ⟨rfl, hk⟩
    exact ⟨1, s, X, rfl, hws.same hk, by omega, fun _ => rfl, by omega⟩
  | true =>
    refine (lwrite_good w p s X al ad L cl D cd I J zl zd hA hB hm hws hX hT hpg).mono ?_
    rintro e w' ⟨rfl, s', many, cs, sn, hho, hsn, hw'⟩
    have h1 := head_len hho hsn
    obtain ⟨_, h2, _, h3, _, _⟩ := mayM_parts hm
    rw [List.length_map, List.length_map] at h1
    refine ⟨0, s', _, rfl, hw', ?_, (fun h => by cases h), by omega⟩
    rw [List.length_append]
    rw [List.length_map, List.length_map]
    omega

set_option maxRecDepth 100000 in
set_option maxHeartbeats 1000000 in
theorem round_bad (W : World) (a b c : Option Addr) (L cap D capd O capo v : Nat) (zl zd zo : List Int) (hsl : SrcE intV W (fun k => k < W.heap.size) (.slice a L cap) zl) (hsd : SrcE intV W (fun k => k < W.heap.size) (.slice b D capd) zd) (hso : SrcE intV W (fun k => k < W.heap.size) (.slice c O capo) zo) (hL : L ≤ 1048576) (hD : D ≤ 1048576) (hO : O ≤ 1048576) (hv : v < 2 ^ 32) (hm : mayM zl zd = false ∨ mayM zl zo = false) (hT : Tab W) :
    Calls Tryd.prog 8 #[.slice a L cap, .slice b D capd, .slice c O capo, .int .u32 (v : Nat)] W fun e w' => e = .returned (.bool true) ∧ Same W w' := by
  have HSA : Hid (SrcE intV W (fun k => k < W.heap.size) (.slice a L cap) zl) := hsl
  have HSC : Hid (SrcE intV W (fun k => k < W.heap.size) (.slice c O capo) zo) := hso
  have HSB : Hid (SrcE intV W (fun k => k < W.heap.size) (.slice b D capd) zd) := hsd
  have HT : Hid (Tab W) := hT
  have HM : Hid (mayM zl zd = false ∨ mayM zl zo = false) := hm
  have b1 : decide ((1048576 : Int) < (L : Int)) = false := by simp; omega
  have b2 : decide ((1048576 : Int) < (D : Int)) = false := by simp; omega
  have b3 : decide ((1048576 : Int) < (O : Int)) = false := by simp; omega
  have HNW := newWriter_any W
  clear hsl hsd hso hT hm
  go_enter Tryd.func8, Tryd.ntmps8
  go_wp2_with fail
  refine HNW.mono ?_
  rintro e w1 ⟨rfl, hw1, hk1, hz1⟩
  have hws1 : WS w1 w1 W.heap.size (.slice none 0 0) (.slice none 0 0) [] := WS.start (by simpa [n2] using hw1) (by simp)
  have HK1 : Hid (Same W w1) := hk1
  have HWR := lwrite_either w1 W.heap.size (.slice none 0 0) [] _ _ L cap D capd _ _ zl zd (HSA.out.same hk1) (HSB.out.same hk1) (by omega) (by omega) hws1 (by simp) (HT.out.kept hk1 (fun f => f)) (fun f => by
    rcases f with e | e
    · have := HT.out.pos; omega
    · simp [Value.ownBlock] at e)
  clear hw1 hk1 HNW b1 b2 b3 hws1
  go_wp2_with fail
  refine HWR.mono ?_
  rintro e w2 ⟨r1, s2, X1, rfl, hws2, hxl1, hr1, hr1b⟩
  have hkA : Same W w2 := Same.then HK1.out hws2.kept (fun k hk f => by
    rcases f with e | e
    · omega
    · simp [Value.ownBlock] at e)
  have hown2 : ∀ k, Fp W.heap.size s2 k → W.heap.size ≤ k := fun k f => by
    rcases f with e | e
    · omega
    · rcases hws2.own k e with h | h
      · simp [Value.ownBlock] at h
      · omega
  have HKA : Hid (Same W w2) := hkA
  have hx1 : X1.length ≤ 10000 := by simpa using hxl1
  have HWR2 := lwrite_either w2 W.heap.size s2 X1 _ _ L cap O capo _ _ zl zo (HSA.out.same hkA) (HSC.out.same hkA) (by omega) (by omega) (WS.start hws2.wr hws2.bit) (by omega) (HT.out.kept hkA (fun f => f)) (fun f => by have := hown2 _ f; have := HT.out.pos; omega)
  have HOWN : Hid (∀ k, Fp W.heap.size s2 k → W.heap.size ≤ k) := hown2
  have HR1 : Hid (mayM zl zd = false → r1 = 1) := hr1
  clear hws2 hkA hown2 HWR hr1 hxl1
  go_wp2_with fail
  refine HWR2.mono ?_
  rintro e w3 ⟨r2, s3, X2, rfl, hws3, hxl2, hr2, hr2b⟩
  have HR2 : Hid (mayM zl zo = false → r2 = 1) := hr2
  have HPT := ws_put w2 w3 W.heap.size s2 s3 _ v 32 hws3 (by decide) hv (by omega)
  clear hws3 HWR2 hr2 hxl2 hx1
  go_wp2_with fail
  refine HPT.mono ?_
  rintro e w4 ⟨rfl, ⟨s4, hws4⟩, _⟩
  have HKC : Hid (Same W w4) := hid (Same.then HKA.out hws4.kept (fun k hk f => by have := HOWN.out k f; omega))
  have HAW := lawake_any w4 (HT.out.kept HKC.out (fun f => f))
  clear hws4 HPT
  have hor : r1 = 1 ∨ (r1 = 0 ∧ r2 = 1) := by
    by_cases h : r1 = 1
    · exact .inl h
    · refine .inr ⟨by omega, ?_⟩
      rcases HM.out with h1 | h1
      · exact absurd (HR1.out h1) h
      · exact HR2.out h1
  rcases hor with rfl | ⟨rfl, rfl⟩
  · go_wp2_with fail
    refine HAW.mono ?_
    rintro e w5 ⟨rfl, hk5⟩
    have HK5 : Hid (Same W w5) := hid (Same.trans HKC.out hk5)
    clear hk5 HAW
    go_wp2_with fail
    go_ret
    exact ⟨rfl, HK5.out⟩
  · go_wp2_with fail
    refine HAW.mono ?_
    rintro e w5 ⟨rfl, hk5⟩
    have HK5 : Hid (Same W w5) := hid (Same.trans HKC.out hk5)
    clear hk5 HAW
    go_wp2_with fail
    go_ret
    exact ⟨rfl, HK5.out⟩

set_option maxRecDepth 100000 in
set_option maxHeartbeats 4000000 in
theorem lensRound_all (a : Option Addr) (len cap : Nat) (zl : List Int) (b : Option Addr) (len1 cap1 : Nat) (zd : List Int) (c : Option Addr) (len2 cap2 : Nat) (zo : List Int) (vz : Int) (W : World) (h : IsRow .i64 W a len cap zl) (h1 : IsRow .i64 W b len1 cap1 zd) (h2 : IsRow .i64 W c len2 cap2 zo) (hv : (Lit.int .u32 vz).wf = true) (hT : Tab W) :
    Calls Tryd.prog 8 #[.slice a len cap, .slice b len1 cap1, .slice c len2 cap2, .int .u32 vz] W fun e w' => e = .returned (.bool true) ∧ Below W.heap.size W w' := by
  obtain ⟨hs, hl⟩ := h.ints
  obtain ⟨hs1, hl1⟩ := h1.ints
  obtain ⟨hs2, hl2⟩ := h2.ints
  have hvb := bounds_u32 hv
  clear h h1 h2 hv
  suffices H : Calls Tryd.prog 8 #[.slice a len cap, .slice b len1 cap1, .slice c len2 cap2, .int .u32 vz] W fun e w' => e = .returned (.bool true) ∧ Same W w' from H.mono (fun e w' h => ⟨h.1, h.2.bel⟩)
  by_cases hbad : 1048576 < len ∨ 1048576 < len1 ∨ 1048576 < len2
  · have HAW := lawake_any W hT
    by_cases c1 : 1048576 < len
    · have b1 : decide ((1048576 : Int) < (len : Int)) = true := by simp; omega
      clear hbad c1 hs hl hs1 hl1 hs2 hl2 hT hvb
      go_enter Tryd.func8, Tryd.ntmps8
      go_wp2_with fail
      refine HAW.mono ?_
      rintro e w5 ⟨rfl, hk5⟩
      have HK5 : Hid (Same W w5) := hk5
      clear hk5 HAW
      go_wp2_with fail
      go_ret
      exact ⟨rfl, HK5.out⟩
    · have b1 : decide ((1048576 : Int) < (len : Int)) = false := by simp; omega
      by_cases c2 : 1048576 < len1
      · have b2 : decide ((1048576 : Int) < (len1 : Int)) = true := by simp; omega
        clear hbad c1 c2 hs hl hs1 hl1 hs2 hl2 hT hvb
        go_enter Tryd.func8, Tryd.ntmps8
        go_wp2_with fail
        refine HAW.mono ?_
        rintro e w5 ⟨rfl, hk5⟩
        have HK5 : Hid (Same W w5) := hk5
        clear hk5 HAW
        go_wp2_with fail
        go_ret
        exact ⟨rfl, HK5.out⟩
      · have b2 : decide ((1048576 : Int) < (len1 : Int)) = false := by simp; omega
        have b3 : decide ((1048576 : Int) < (len2 : Int)) = true := by simp; omega
        clear hbad c1 c2 hs hl hs1 hl1 hs2 hl2 hT hvb
        go_enter Tryd.func8, Tryd.ntmps8
        go_wp2_with fail
        refine HAW.mono ?_
        rintro e w5 ⟨rfl, hk5⟩
        have HK5 : Hid (Same W w5) := hk5
        clear hk5 HAW
        go_wp2_with fail
        go_ret
        exact ⟨rfl, HK5.out⟩
  · obtain ⟨v, rfl⟩ : ∃ v : Nat, vz = (v : Int) := ⟨vz.toNat, by omega⟩
    have hv : v < 2 ^ 32 := by omega
    by_cases hm : mayM (zl.take len) (zd.take len1) = false ∨ mayM (zl.take len) (zo.take len2) = false
    · exact round_bad W a b c len cap len1 cap1 len2 cap2 v _ _ _ hs hs1 hs2 (by omega) (by omega) (by omega) hv hm hT
    · refine round_good W a b c len cap len1 cap1 len2 cap2 v _ _ _ hs hs1 hs2 hl hl1 hl2 (by omega) (by omega) (by omega) hv ?_ ?_ hT
      · cases hx : mayM (zl.take len) (zd.take len1) with
        | true => rfl
        | false => exact absurd (.inl hx) hm
      · cases hx : mayM (zl.take len) (zo.take len2) with
        | true => rfl
        | false => exact absurd (.inr hx) hm

end Go.Proofs.YtofhlnpbflkdlaaDoor
