/-
  Of the proof: parts LnWritesLaw.
-/
import Derived.Test.YtofhlnpbflkdlaaDoorJ19
import Derived.Test.YtofhlnpbflkdlaaDoorJ21
import Derived.Test.YtofhlnpbflkdlaaDoorJ9

/-
  The law LensWrites.
-/
namespace Go.Proofs.YtofhlnpbflkdlaaDoor
open Go.RowKit

/-- Noughts and ones in turn. -/
def alt (n : Nat) : List Nat := (List.range n).map (fun i => i % 2)
theorem alt_length (n : Nat) : (alt n).length = n := by simp [alt]
theorem alt_succ (i : Nat) : alt (i + 1) = alt i ++ bitsOf (i % 2) 1 := by
  unfold alt
  rw [List.range_succ, List.map_append]
  congr 1
  simp [bitsOf]
theorem alt_get (n i : Nat) (h : i < (alt n).length) : (alt n)[i] = i % 2 := by simp [alt]

/-- Bytes of bits, the last one filled up with noughts. -/
theorem ofBytes_pad (bs X : List Nat) (hb : ∀ b ∈ bs, b < 256) (hX : ∀ b ∈ X, b < 2) (hn : n256 bs = n2 X) (hl : bs.length = (X.length + 7) / 8) : ofBytes bs = X ++ List.replicate (8 * bs.length - X.length) 0 := by
  refine n2_inj _ _ (by rw [ofBytes_length, List.length_append, List.length_replicate]; omega) (ofBytes_lt bs) (fun x hx => ?_) ?_
  · rcases List.mem_append.1 hx with h | h
    · exact hX x h
    · have := List.eq_of_mem_replicate h; omega
  · rw [ofBytes_n2 bs hb, n2_align, hn]

set_option maxRecDepth 100000 in
set_option maxHeartbeats 4000000 in
theorem writes_bad (W : World) (a b : Option Addr) (L cap D capd n : Nat) (zl zd : List Int) (hsl : SrcE intV W (fun k => k < W.heap.size) (.slice a L cap) zl) (hsd : SrcE intV W (fun k => k < W.heap.size) (.slice b D capd) zd) (hll : zl.length = L) (hdl : zd.length = D) (hL : L ≤ 1048576) (hD : D ≤ 1048576) (hn : n ≤ 100) (hm : mayM zl zd = false) (hT : Tab W) :
    Calls Tryd.prog 5 #[.slice a L cap, .slice b D capd, .int .i64 (n : Nat)] W fun e w' => e = .returned (.bool true) ∧ Same W w' := by
  have HSA : Hid (SrcE intV W (fun k => k < W.heap.size) (.slice a L cap) zl) := hsl
  have HSB : Hid (SrcE intV W (fun k => k < W.heap.size) (.slice b D capd) zd) := hsd
  have HLL : Hid (zl.length = L ∧ zd.length = D) := hid ⟨hll, hdl⟩
  have HT : Hid (Tab W) := hT
  have HMY : Hid (mayM zl zd = false) := hm
  have b1 : decide ((1048576 : Int) < (L : Int)) = false := by simp; omega
  have b2 : decide ((1048576 : Int) < (D : Int)) = false := by simp; omega
  have b3 : decide ((n : Int) < 0) = false := by simp
  have b4 : decide ((100 : Int) < (n : Int)) = false := by simp; omega
  have HNW := newWriter_any W
  clear hsl hsd hll hdl hT hm
  go_enter Tryd.func5, Tryd.ntmps5
  go_wp2_with fail
  refine HNW.mono ?_
  rintro e w1 ⟨rfl, hw1, hk1, hz1⟩
  have HW1 : Hid (WS w1 w1 W.heap.size (.slice none 0 0) (.slice none 0 0) (alt 0)) := hid (WS.start (by simpa [alt, n2] using hw1) (by simp [alt]))
  have HK1 : Hid (Same W w1) := hk1
  clear hw1 hk1 HNW b1 b2 b3 b4
  go_wp2_with fail
  go_loopg [8] n (fun q zi wr => ∃ (i : Nat) (si : Value), n - i ≤ q ∧ i ≤ n ∧ zi = .int .i64 (i : Nat) ∧ Hid (WS w1 wr W.heap.size (.slice none 0 0) si (alt i)))
  case atStart => exact ⟨0, .slice none 0 0, by omega, by omega, rfl, HW1⟩
  case round =>
    clear HW1
    obtain ⟨i, si, hq, hi, rfl, HWI⟩ := hrel
    by_cases hlt : i < n
    · have HP := ws_put w1 wr W.heap.size (.slice none 0 0) si (alt i) (i % 2) 1 HWI.out (by decide) (by omega) (by rw [alt_length]; omega)
      obtain ⟨m, hm⟩ : ∃ m, m = i % 2 := ⟨_, rfl⟩
      rw [← hm] at HP
      have HA : Hid (alt (i + 1) = alt i ++ bitsOf m 1) := hid (by rw [hm]; exact alt_succ i)
      have hmI : Int.tmod (i : Int) 2 = (m : Int) := by rw [hm]; exact (Int.ofNat_tmod i 2).symm
      have hmw : IntKind.u32.wrap (m : Int) = (m : Int) := by rw [IntKind.wrap_u32]; omega
      clear hm
      go_wp2_with fail
      refine HP.mono ?_
      rintro e wy ⟨rfl, ⟨sy, hwy⟩, hky⟩
      have HWY : Hid (WS w1 wy W.heap.size (.slice none 0 0) sy (alt (i + 1))) := hid (by rw [HA.out]; exact hwy)
      clear hwy HP hky
      go_wp2_with fail
      go_roundg (gk - 1)
      case measure => omega
      case rel => exact ⟨i + 1, sy, by omega, by omega, by go_num, HWY⟩
    · have hin : i = n := by omega
      subst hin
      clear hq hlt hi
      have hFP : ∀ k, Fp W.heap.size si k → k < wr.heap.size := fun k h => HWI.out.wr.fp_lt h
      have HFP : Hid (∀ k, Fp W.heap.size si k → k < wr.heap.size ∧ W.heap.size ≤ k) := hid (fun k h => ⟨hFP k h, by
        rcases h with e | e
        · omega
        · rcases HWI.out.own k e with h1 | h1
          · simp [Value.ownBlock] at h1
          · have := HK1.out.size; omega⟩)
      have hkA : Same W wr := Same.then HK1.out HWI.out.kept (fun k hk f => by
        rcases f with e | e
        · omega
        · simp [Value.ownBlock] at e)
      have HKA : Hid (Same W wr) := hkA
      have HLE := lent_any wr _ _ zl (HSA.out.same hkA) (by have := HLL.out.1; omega)
      rw [HLL.out.1] at HLE
      clear hFP hkA
      go_wp2_with fail
      refine HLE.mono ?_
      rintro e w2 ⟨gx, rfl, hL2, hk2, hgx1, hgx2⟩
      have HX2 : Hid (Lent w2 gx zl) := hL2
      have HK2 : Hid (Same wr w2) := hk2
      have HLE2 := lent_any w2 _ _ zd (HSB.out.same (Same.trans HKA.out hk2)) (by have := HLL.out.2; omega)
      rw [HLL.out.2] at HLE2
      clear hL2 hk2 HLE
      go_wp2_with fail
      refine HLE2.mono ?_
      rintro e w3 ⟨gy, rfl, hL3, hk3, hgy1, hgy2⟩
      have HY3 : Hid (Lent w3 gy zd) := hL3
      have HX3 : Hid (Lent w3 gx zl) := hid (HX2.out.kept hk3 (fun f => f))
      have HK3 : Hid (Same wr w3) := hid (Same.trans HK2.out hk3)
      have HKW3 : Hid (Same W w3) := hid (Same.trans HKA.out HK3.out)
      have HWS3 : Hid (WS w3 w3 W.heap.size si si (alt i)) := hid (WS.start (HWI.out.wr.kept HK3.out (fun _ _ f => f)) HWI.out.bit)
      have hsx := HX3.out.src
      have hsy := HY3.out.src
      rw [HLL.out.1] at hsx
      rw [HLL.out.2] at hsy
      have HWR := lwrite_bad w3 W.heap.size _ _ L (L + 1) D (D + 1) _ _ zl zd hsx hsy (by omega) (by omega) HMY.out
      clear hL3 hk3 HLE2 hsx hsy
      go_wp2_with fail
      refine HWR.mono ?_
      rintro e w4 ⟨rfl, hk4⟩
      have HK4 : Hid (Same w3 w4) := hk4
      have HKE := kept_any w4 gx _ _ zl (HX3.out.kept hk4 (fun f => f)) (HSA.out.same (Same.trans HKW3.out hk4)) (by have := HLL.out.1; omega)
      rw [HLL.out.1] at HKE
      clear hk4 HWR
      go_wp2_with fail
      refine HKE.mono ?_
      rintro e w5 ⟨rfl, hk5⟩
      have HK5 : Hid (Same w3 w5) := hid (Same.trans HK4.out hk5)
      have HKE2 := kept_any w5 gy _ _ zd (HY3.out.kept HK5.out (fun f => f)) (HSB.out.same (Same.trans HKW3.out HK5.out)) (by have := HLL.out.2; omega)
      rw [HLL.out.2] at HKE2
      clear hk5 HKE
      go_wp2_with fail
      refine HKE2.mono ?_
      rintro e w6 ⟨rfl, hk6⟩
      have HK6 : Hid (Same w3 w6) := hid (Same.trans HK5.out hk6)
      have HMA := may_any w6 _ _ _ _ zl zd (HSA.out.same (Same.trans HKW3.out HK6.out)) (HSB.out.same (Same.trans HKW3.out HK6.out)) (by have := HLL.out.1; omega) (by have := HLL.out.2; omega)
      rw [HMY.out] at HMA
      clear hk6 HKE2
      go_wp2_with fail
      refine HMA.mono ?_
      rintro e w7 ⟨rfl, hw7⟩
      subst hw7
      have HAW := lawake_any w7 (HT.out.kept (Same.trans HKW3.out HK6.out) (fun f => f))
      clear HMA
      go_wp2_with fail
      refine HAW.mono ?_
      rintro e w8 ⟨rfl, hk8⟩
      have HK8 : Hid (Same w3 w8) := hid (Same.trans HK6.out hk8)
      have HLN := len_any W.heap.size _ _ si w8 (HWS3.out.wr.kept HK8.out (fun _ _ f => f))
      rw [alt_length] at HLN
      clear hk8 HAW
      go_wp2_with fail
      refine HLN.mono ?_
      rintro e w9 ⟨rfl, hw9⟩
      subst hw9
      clear HLN
      go_wp2_with fail
      go_ret
      exact ⟨rfl, Same.trans HKW3.out HK8.out⟩

set_option maxRecDepth 100000 in
set_option maxHeartbeats 1000000 in
theorem writes_good (W : World) (a b : Option Addr) (L cap D capd n : Nat) (zl zd : List Int) (hsl : SrcE intV W (fun k => k < W.heap.size) (.slice a L cap) zl) (hsd : SrcE intV W (fun k => k < W.heap.size) (.slice b D capd) zd) (hll : zl.length = L) (hdl : zd.length = D) (hL : L ≤ 1048576) (hD : D ≤ 1048576) (hn : n ≤ 100) (hm : mayM zl zd = true) (hT : Tab W) :
    Calls Tryd.prog 5 #[.slice a L cap, .slice b D capd, .int .i64 (n : Nat)] W fun e w' => e = .returned (.bool true) ∧ Same W w' := by
  have HSA : Hid (SrcE intV W (fun k => k < W.heap.size) (.slice a L cap) zl) := hsl
  have HSB : Hid (SrcE intV W (fun k => k < W.heap.size) (.slice b D capd) zd) := hsd
  have HLL : Hid (zl.length = L ∧ zd.length = D) := hid ⟨hll, hdl⟩
  have HT : Hid (Tab W) := hT
  have HMY : Hid (mayM zl zd = true) := hm
  have b1 : decide ((1048576 : Int) < (L : Int)) = false := by simp; omega
  have b2 : decide ((1048576 : Int) < (D : Int)) = false := by simp; omega
  have b3 : decide ((n : Int) < 0) = false := by simp
  have b4 : decide ((100 : Int) < (n : Int)) = false := by simp; omega
  have HNW := newWriter_any W
  clear hsl hsd hll hdl hT hm
  go_enter Tryd.func5, Tryd.ntmps5
  go_wp2_with fail
  refine HNW.mono ?_
  rintro e w1 ⟨rfl, hw1, hk1, hz1⟩
  have HW1 : Hid (WS w1 w1 W.heap.size (.slice none 0 0) (.slice none 0 0) (alt 0)) := hid (WS.start (by simpa [alt, n2] using hw1) (by simp [alt]))
  have HK1 : Hid (Same W w1) := hk1
  clear hw1 hk1 HNW b1 b2 b3 b4
  go_wp2_with fail
  go_loopg [8] n (fun q zi wr => ∃ (i : Nat) (si : Value), n - i ≤ q ∧ i ≤ n ∧ zi = .int .i64 (i : Nat) ∧ Hid (WS w1 wr W.heap.size (.slice none 0 0) si (alt i)))
  case atStart => exact ⟨0, .slice none 0 0, by omega, by omega, rfl, HW1⟩
  case round =>
    clear HW1
    obtain ⟨i, si, hq, hi, rfl, HWI⟩ := hrel
    by_cases hlt : i < n
    · have HP := ws_put w1 wr W.heap.size (.slice none 0 0) si (alt i) (i % 2) 1 HWI.out (by decide) (by omega) (by rw [alt_length]; omega)
      obtain ⟨m, hm⟩ : ∃ m, m = i % 2 := ⟨_, rfl⟩
      rw [← hm] at HP
      have HA : Hid (alt (i + 1) = alt i ++ bitsOf m 1) := hid (by rw [hm]; exact alt_succ i)
      have hmI : Int.tmod (i : Int) 2 = (m : Int) := by rw [hm]; exact (Int.ofNat_tmod i 2).symm
      have hmw : IntKind.u32.wrap (m : Int) = (m : Int) := by rw [IntKind.wrap_u32]; omega
      clear hm
      go_wp2_with fail
      refine HP.mono ?_
      rintro e wy ⟨rfl, ⟨sy, hwy⟩, hky⟩
      have HWY : Hid (WS w1 wy W.heap.size (.slice none 0 0) sy (alt (i + 1))) := hid (by rw [HA.out]; exact hwy)
      clear hwy HP hky
      go_wp2_with fail
      go_roundg (gk - 1)
      case measure => omega
      case rel => exact ⟨i + 1, sy, by omega, by omega, by go_num, HWY⟩
    · have hin : i = n := by omega
      subst hin
      clear hq hlt hi
      have hFP : ∀ k, Fp W.heap.size si k → k < wr.heap.size := fun k h => HWI.out.wr.fp_lt h
      have HFP : Hid (∀ k, Fp W.heap.size si k → k < wr.heap.size ∧ W.heap.size ≤ k) := hid (fun k h => ⟨hFP k h, by
        rcases h with e | e
        · omega
        · rcases HWI.out.own k e with h1 | h1
          · simp [Value.ownBlock] at h1
          · have := HK1.out.size; omega⟩)
      have hkA : Same W wr := Same.then HK1.out HWI.out.kept (fun k hk f => by
        rcases f with e | e
        · omega
        · simp [Value.ownBlock] at e)
      have HKA : Hid (Same W wr) := hkA
      have HLE := lent_any wr _ _ zl (HSA.out.same hkA) (by have := HLL.out.1; omega)
      rw [HLL.out.1] at HLE
      clear hFP hkA
      go_wp2_with fail
      refine HLE.mono ?_
      rintro e w2 ⟨gx, rfl, hL2, hk2, hgx1, hgx2⟩
      have HX2 : Hid (Lent w2 gx zl) := hL2
      have HK2 : Hid (Same wr w2) := hk2
      have HLE2 := lent_any w2 _ _ zd (HSB.out.same (Same.trans HKA.out hk2)) (by have := HLL.out.2; omega)
      rw [HLL.out.2] at HLE2
      clear hL2 hk2 HLE
      go_wp2_with fail
      refine HLE2.mono ?_
      rintro e w3 ⟨gy, rfl, hL3, hk3, hgy1, hgy2⟩
      have HY3 : Hid (Lent w3 gy zd) := hL3
      have HX3 : Hid (Lent w3 gx zl) := hid (HX2.out.kept hk3 (fun f => f))
      have HK3 : Hid (Same wr w3) := hid (Same.trans HK2.out hk3)
      have HKW3 : Hid (Same W w3) := hid (Same.trans HKA.out HK3.out)
      have HWS3 : Hid (WS w3 w3 W.heap.size si si (alt i)) := hid (WS.start (HWI.out.wr.kept HK3.out (fun _ _ f => f)) HWI.out.bit)
      have hsx := HX3.out.src
      have hsy := HY3.out.src
      rw [HLL.out.1] at hsx
      rw [HLL.out.2] at hsy
      have HWR := lwrite_good w3 W.heap.size si (alt i) _ _ L (L + 1) D (D + 1) _ _ zl zd hsx hsy HMY.out HWS3.out (by rw [alt_length]; omega) (HT.out.kept HKW3.out (fun f => f)) (fun f => by have h1 := (HFP.out _ f).2; have h2 := HT.out.pos; omega)
      clear hL3 hk3 HLE2 hsx hsy
      go_wp2_with fail
      refine HWR.mono ?_
      rintro e w4 ⟨rfl, s4, many, cs, sn, hho, hsn, hws4⟩
      have hhl := head_len hho hsn
      have hrl := fun B hB => readF_laid hho (alt i) B hB
      obtain ⟨hb, hhb⟩ : ∃ hb, hb = headBits (zl.map Int.toNat).length (zd.map Int.toNat).length many cs sn := ⟨_, rfl⟩
      rw [← hhb] at hhl hrl hws4
      rw [alt_length] at hrl
      have HRL : Hid (∀ B : List Nat, (∀ b ∈ B, b < 2) → readF (alt i ++ (hb ++ B)) i = .ok ((zl.map Int.toNat, zd.map Int.toNat), hb.length)) := hid hrl
      obtain ⟨H, hH⟩ : ∃ H, H = hb.length := ⟨_, rfl⟩
      rw [List.length_map, List.length_map, HLL.out.1, HLL.out.2, ← hH] at hhl
      have HHE : Hid (H = hb.length) := hH
      have HWS4 : Hid (WS w3 w4 W.heap.size si s4 (alt i ++ hb)) := hws4
      have HKW4 : Hid (Same W w4) := hid (Same.then HKW3.out hws4.kept (fun k hk f => by have := (HFP.out k f).2; omega))
      obtain ⟨hl1, hl2, hd1, hd2, hokl, hokd⟩ := mayM_parts HMY.out
      rw [HLL.out.1] at hl1 hl2
      rw [HLL.out.2] at hd1 hd2
      have HNA : Hid ((zl.map Int.toNat).map natV = zl.map intV) := hid (nat_of_ok hokl).1
      have HNB : Hid ((zd.map Int.toNat).map natV = zd.map intV) := hid (nat_of_ok hokd).1
      have HKE := kept_any w4 gx _ _ zl (HX3.out.kept hws4.kept (fun f => by have := (HFP.out gx f).1; omega)) (HSA.out.same HKW4.out) (by have := HLL.out.1; omega)
      rw [HLL.out.1] at HKE
      have HY4 : Hid (Lent w4 gy zd) := hid (HY3.out.kept hws4.kept (fun f => by have := (HFP.out gy f).1; have := HK2.out.size; omega))
      clear hho hsn hrl hhb hH hws4 HWR hokl hokd
      go_wp2_with fail
      refine HKE.mono ?_
      rintro e w5 ⟨rfl, hk5⟩
      have HK5 : Hid (Same w4 w5) := hk5
      have HKE2 := kept_any w5 gy _ _ zd (HY4.out.kept HK5.out (fun f => f)) (HSB.out.same (Same.trans HKW4.out HK5.out)) (by have := HLL.out.2; omega)
      rw [HLL.out.2] at HKE2
      clear hk5 HKE
      go_wp2_with fail
      refine HKE2.mono ?_
      rintro e w6 ⟨rfl, hk6⟩
      have HK6 : Hid (Same w4 w6) := hid (Same.trans HK5.out hk6)
      have HMA := may_any w6 _ _ _ _ zl zd (HSA.out.same (Same.trans HKW4.out HK6.out)) (HSB.out.same (Same.trans HKW4.out HK6.out)) (by have := HLL.out.1; omega) (by have := HLL.out.2; omega)
      rw [HMY.out] at HMA
      clear hk6 HKE2
      go_wp2_with fail
      refine HMA.mono ?_
      rintro e w7 ⟨rfl, hw7⟩
      subst hw7
      have HWS7 : Hid (WS w3 w7 W.heap.size si s4 (alt i ++ hb)) := hid (HWS4.out.same HK6.out)
      obtain ⟨t, ht⟩ : ∃ t, t = i + H := ⟨_, rfl⟩
      have HTL : Hid ((alt i ++ hb).length = t) := hid (by rw [List.length_append, alt_length, ht, HHE.out])
      have HBY := wbytes_any W.heap.size _ _ s4 w7 HWS7.out.wr (by rw [HTL.out]; omega)
      clear HMA
      go_wp2_with fail
      refine HBY.mono ?_
      rintro e w8 ⟨g8, bs, rfl, hr8, hb8, hn8, hl8, hk8, _⟩
      rw [HTL.out] at hl8
      have hpad := ofBytes_pad bs (alt i ++ hb) hb8 HWS7.out.bit hn8 (by rw [HTL.out]; exact hl8)
      have HPAD : Hid (ofBytes bs = alt i ++ (hb ++ List.replicate (8 * bs.length - t) 0)) := hid (by rw [hpad, HTL.out, List.append_assoc])
      have HRF : Hid (readF (ofBytes bs) i = .ok ((zl.map Int.toNat, zd.map Int.toNat), H)) := hid (by
        rw [HPAD.out, HHE.out]
        exact HRL.out _ (fun x hx => by have := List.eq_of_mem_replicate hx; omega))
      have hbl : bs.length ≤ 100000 := by omega
      have HOF := refOf_any w8 _ _ bs (Src.ofRow hr8) (by omega) hb8
      have HK8 : Hid (Same w4 w8) := hid (Same.trans HK6.out hk8)
      have HIB : Hid (i ≤ 8 * bs.length) := hid (by omega)
      obtain ⟨M8, hM8⟩ : ∃ M, M = bs.length := ⟨_, rfl⟩
      rw [← hM8] at HOF ⊢
      have HM8 : Hid (M8 = bs.length) := hM8
      clear hr8 hb8 hn8 hk8 hpad HBY hl8 hM8
      go_wp2_with fail
      refine HOF.mono ?_
      rintro e w9 ⟨v9, rfl, hg9⟩
      have hk9 : Same w8 w9 := hg9.kept.mono (fun _ _ e => by cases e)
      have HR9 : Hid (Row w9 v9 (ofBytes bs)) := hg9.row
      have HRR := rread_any w9 v9 _ (ofBytes bs) i (Src.ofRow hg9.row) (fun j e => hg9.row.lt e) (ofBytes_lt bs) (by rw [ofBytes_length]; exact HIB.out) (by rw [ofBytes_length]; omega)
      rw [HRF.out] at HRR
      have HK9 : Hid (Same w4 w9) := hid (Same.trans HK8.out hk9)
      obtain ⟨a9, cap9, hv9, hg9s⟩ := hg9.row.shape
      subst hv9
      obtain ⟨Q9, hQ9⟩ : ∃ Q, Q = (ofBytes bs).length := ⟨_, rfl⟩
      rw [← hQ9] at HR9 HRR ⊢
      have HQ9 : Hid (Q9 = (ofBytes bs).length ∧ i ≤ Q9) := hid ⟨hQ9, by rw [hQ9, ofBytes_length]; exact HIB.out⟩
      clear hg9 hk9 HOF hg9s hQ9
      go_wp2_with fail
      refine HRR.mono ?_
      rintro e w10 ⟨⟨wa, wb, rfl, hwa, hwb⟩, hk10⟩
      have HWA : Hid (SrcE natV w10 (fun j => w9.heap.size ≤ j) wa (zl.map Int.toNat)) := hwa
      have HWB : Hid (SrcE natV w10 (fun j => w9.heap.size ≤ j) wb (zd.map Int.toNat)) := hwb
      have HK10 : Hid (Same w4 w10) := hid (Same.trans HK9.out hk10)
      have HR10 : Hid (Src w10 (fun k => (Value.slice a9 Q9 cap9).ownBlock = some k) (.slice a9 Q9 cap9) (ofBytes bs)) := hid (Src.ofRow (HR9.out.kept hk10 (fun _ _ f => f)))
      clear hwa hwb hk10 HRR
      go_wp2_with fail
      go_loopg [18] i (fun q zj wr => ∃ (j : Nat), i - j ≤ q ∧ j ≤ i ∧ zj = .int .i64 (j : Nat) ∧ wr = w10)
      case atStart => exact ⟨0, by omega, by omega, rfl, rfl⟩
      case round =>
        obtain ⟨j, hq, hj, rfl, hwr⟩ := hrel
        subst hwr
        by_cases hlt : j < i
        · have hjl : j < (ofBytes bs).length := by have := HQ9.out; omega
          obtain ⟨b9, o9, rfl, cj⟩ : ∃ b o, a9 = some ⟨b, o, none⟩ ∧ wr.cell? ⟨b, o + j, none⟩ = some (.int .u8 ((ofBytes bs)[j] : Nat)) := by
            obtain ⟨ao, cp, e, hc⟩ := HR10.out
            simp only [Value.slice.injEq] at e
            obtain ⟨rfl, _, rfl⟩ := e
            obtain ⟨b, o, e, _, hc⟩ := hc (fun e => by rw [e] at hjl; simp at hjl)
            exact ⟨b, o, e, hc j hjl⟩
          have hval : (ofBytes bs)[j] = j % 2 := by
            have h1 : (ofBytes bs)[j]? = some (j % 2) := by
              rw [HPAD.out, List.getElem?_append_left (by rw [alt_length]; exact hlt), List.getElem?_eq_getElem (by rw [alt_length]; exact hlt), alt_get]
            rw [List.getElem?_eq_getElem hjl] at h1
            exact Option.some.inj h1
          rw [hval] at cj
          obtain ⟨m, hm⟩ : ∃ m, m = j % 2 := ⟨_, rfl⟩
          rw [← hm] at cj
          have hmI : Int.tmod (j : Int) 2 = (m : Int) := by rw [hm]; exact (Int.ofNat_tmod j 2).symm
          have hmw : IntKind.i64.wrap (m : Int) = (m : Int) := by rw [IntKind.wrap_i64]; omega
          have hjQ : j < Q9 := by have := HQ9.out; omega
          clear hval hm hjl
          go_wp2_with fail
          go_roundg (gk - 1)
          case measure => omega
          case rel => exact ⟨j + 1, by omega, by omega, by go_num, rfl⟩
        · have hji : j = i := by omega
          subst hji
          clear hq hlt
          have HAW := lawake_any wr (HT.out.kept (Same.trans HKW4.out HK10.out) (fun f => f))
          go_wp2_with fail
          refine HAW.mono ?_
          rintro e w11 ⟨rfl, hk11⟩
          have HK11 : Hid (Same wr w11) := hk11
          have HK411 : Hid (Same w4 w11) := hid (Same.trans HK10.out hk11)
          have HI1 := ints_same w11 wa _ _ _ (zl.map Int.toNat) (HWA.out.same hk11) ((HSA.out.same (Same.trans HKW4.out HK411.out)).recode HNA.out) (by rw [List.length_map, HLL.out.1]; omega)
          clear hk11 HAW
          go_wp2_with fail
          refine HI1.mono ?_
          rintro e w12 ⟨rfl, hk12⟩
          have HK412 : Hid (Same w4 w12) := hid (Same.trans HK411.out hk12)
          have HI2 := ints_same w12 wb _ _ _ (zd.map Int.toNat) (HWB.out.same (Same.trans HK11.out hk12)) ((HSB.out.same (Same.trans HKW4.out HK412.out)).recode HNB.out) (by rw [List.length_map, HLL.out.2]; omega)
          clear hk12 HI1
          go_wp2_with fail
          refine HI2.mono ?_
          rintro e w13 ⟨rfl, hk13⟩
          have HK413 : Hid (Same w4 w13) := hid (Same.trans HK412.out hk13)
          have HLN := len_any W.heap.size _ _ s4 w13 (HWS4.out.wr.kept HK413.out (fun _ _ f => f))
          rw [HTL.out] at HLN
          have htI : (j : Int) + (H : Int) = (t : Int) := by omega
          have htw : IntKind.i64.wrap (t : Int) = (t : Int) := by rw [IntKind.wrap_i64]; omega
          obtain ⟨q1, hq1⟩ : ∃ q, q = L + D := ⟨_, rfl⟩
          have hq1I : (L : Int) + (D : Int) = (q1 : Int) := by omega
          have hq1w : IntKind.i64.wrap (q1 : Int) = (q1 : Int) := by rw [IntKind.wrap_i64]; omega
          obtain ⟨q2, hq2⟩ : ∃ q, q = 14 * q1 := ⟨_, rfl⟩
          have hq2I : (14 : Int) * (q1 : Int) = (q2 : Int) := by omega
          have hq2w : IntKind.i64.wrap (q2 : Int) = (q2 : Int) := by rw [IntKind.wrap_i64]; omega
          obtain ⟨q3, hq3⟩ : ∃ q, q = 71 + q2 := ⟨_, rfl⟩
          have hq3I : (71 : Int) + (q2 : Int) = (q3 : Int) := by omega
          have hq3w : IntKind.i64.wrap (q3 : Int) = (q3 : Int) := by rw [IntKind.wrap_i64]; omega
          have hHq : H ≤ q3 := by omega
          have HKF : Hid (Same W w13) := hid (Same.trans HKW4.out HK413.out)
          clear hk13 HI2 hq1 hq2 hq3 ht hhl
          go_wp2_with fail
          refine HLN.mono ?_
          rintro e w14 ⟨rfl, hw14⟩
          subst hw14
          clear HLN
          go_wp2_with fail
          go_ret
          exact ⟨rfl, HKF.out⟩

set_option maxRecDepth 100000 in
set_option maxHeartbeats 4000000 in
theorem lensWrites_all (a : Option Addr) (len cap : Nat) (zl : List Int) (b : Option Addr) (len1 cap1 : Nat) (zd : List Int) (nz : Int) (W : World) (h : IsRow .i64 W a len cap zl) (h1 : IsRow .i64 W b len1 cap1 zd) (_hm : (Lit.int .i64 nz).wf = true) (hT : Tab W) :
    Calls Tryd.prog 5 #[.slice a len cap, .slice b len1 cap1, .int .i64 nz] W fun e w' => e = .returned (.bool true) ∧ Below W.heap.size W w' := by
  obtain ⟨hs, hl⟩ := h.ints
  obtain ⟨hs1, hl1⟩ := h1.ints
  clear h h1
  suffices H : Calls Tryd.prog 5 #[.slice a len cap, .slice b len1 cap1, .int .i64 nz] W fun e w' => e = .returned (.bool true) ∧ Same W w' from H.mono (fun e w' h => ⟨h.1, h.2.bel⟩)
  by_cases hbad : 1048576 < len ∨ 1048576 < len1 ∨ nz < 0 ∨ 100 < nz
  · have HAW := lawake_any W hT
    by_cases c1 : 1048576 < len
    · have b1 : decide ((1048576 : Int) < (len : Int)) = true := by simp; omega
      clear hbad c1 hs hl hs1 hl1 hT
      go_enter Tryd.func5, Tryd.ntmps5
      go_wp2_with fail
      refine HAW.mono ?_
      rintro e w5 ⟨rfl, hk5⟩
      have HK5 : Hid (Same W w5) := hk5
      clear hk5 HAW
      go_wp2_with fail
      go_ret
      exact ⟨rfl, HK5.out⟩
    · have b1 : decide ((1048576 : Int) < (len : Int)) = false := by simp; omega
      by_cases c2 : 1048576 < len1
      · have b2 : decide ((1048576 : Int) < (len1 : Int)) = true := by simp; omega
        clear hbad c1 c2 hs hl hs1 hl1 hT
        go_enter Tryd.func5, Tryd.ntmps5
        go_wp2_with fail
        refine HAW.mono ?_
        rintro e w5 ⟨rfl, hk5⟩
        have HK5 : Hid (Same W w5) := hk5
        clear hk5 HAW
        go_wp2_with fail
        go_ret
        exact ⟨rfl, HK5.out⟩
      · have b2 : decide ((1048576 : Int) < (len1 : Int)) = false := by simp; omega
        by_cases c3 : nz < 0
        · have b3 : decide (nz < 0) = true := by simp; omega
          clear hbad c1 c2 c3 hs hl hs1 hl1 hT
          go_enter Tryd.func5, Tryd.ntmps5
          go_wp2_with fail
          refine HAW.mono ?_
          rintro e w5 ⟨rfl, hk5⟩
          have HK5 : Hid (Same W w5) := hk5
          clear hk5 HAW
          go_wp2_with fail
          go_ret
          exact ⟨rfl, HK5.out⟩
        · have b3 : decide (nz < 0) = false := by simp; omega
          have b4 : decide (100 < nz) = true := by simp; omega
          clear hbad c1 c2 c3 hs hl hs1 hl1 hT
          go_enter Tryd.func5, Tryd.ntmps5
          go_wp2_with fail
          refine HAW.mono ?_
          rintro e w5 ⟨rfl, hk5⟩
          have HK5 : Hid (Same W w5) := hk5
          clear hk5 HAW
          go_wp2_with fail
          go_ret
          exact ⟨rfl, HK5.out⟩
  · obtain ⟨n, rfl⟩ : ∃ n : Nat, nz = (n : Int) := ⟨nz.toNat, by omega⟩
    cases hm : mayM (zl.take len) (zd.take len1) with
    | false => exact writes_bad W a b len cap len1 cap1 n _ _ hs hs1 hl hl1 (by omega) (by omega) (by omega) hm hT
    | true => exact writes_good W a b len cap len1 cap1 n _ _ hs hs1 hl hl1 (by omega) (by omega) (by omega) hm hT

end Go.Proofs.YtofhlnpbflkdlaaDoor
