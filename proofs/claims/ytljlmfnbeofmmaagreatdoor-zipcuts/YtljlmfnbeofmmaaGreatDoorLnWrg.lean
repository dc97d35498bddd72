import Derived.Test.YtljlmfnbeofmmaaGreatDoorLnWrt
namespace Go.Proofs.YtljlmfnbeofmmaaGreatDoor
open Go.RowKit
def WroteF (w w' : World) (p : Nat) (s : Value) (X : List Nat) (xs ys : List Nat) : Prop :=
 ∃ s' many cs sn, (cs = chosen (packM (xs ++ ys)) ∧ many = comeN cs 19 ∧ sn = packN (xs ++ ys)) ∧ HeadOk xs ys many cs sn ∧ sn.length ≤ xs.length + ys.length ∧ WS w w' p s s' (X ++ headBits xs.length ys.length many cs sn)

theorem mayM_parts {zl zd : List Int} (h : mayM zl zd = true) : 257 ≤ zl.length ∧ zl.length ≤ 286 ∧ 1 ≤ zd.length ∧ zd.length ≤ 30 ∧ lensOk zl = true ∧ lensOk zd = true := by
 unfold mayM at h
 simp only [Bool.and_eq_true, decide_eq_true_eq] at h
 obtain ⟨⟨⟨⟨⟨h1, h2⟩, h3⟩, h4⟩, h5⟩, h6⟩ := h
 exact ⟨h1, h2, h3, h4, h5, h6⟩

theorem small_le {zl : List Int} (h : lensOk zl = true) : ∀ n ∈ zl.map Int.toNat, n ≤ 15 := by
 have hb := (lensOk_iff zl).1 h
 intro x hx
 obtain ⟨z, hz, rfl⟩ := List.mem_map.1 hx
 have := hb z hz
 omega

set_option maxRecDepth 100000 in
set_option maxHeartbeats 4000000 in
theorem lwrite_fn (w : World) (p : Nat) (s : Value) (X : List Nat) (al ad : Option Addr) (L cl D cd : Nat) (I J : Nat → Prop) (zl zd : List Int) (hA : SrcE intV w I (.slice al L cl) zl) (hB : SrcE intV w J (.slice ad D cd) zd) (hm : mayM zl zd = true)
  (hws : WS w w p s s X) (hX : X.length ≤ 100000) (hT : Tab w) (hpg : ¬ Fp p s 0) :
  Calls Tryz.prog 88 #[.pointer (some ⟨p, 0, none⟩), .slice al L cl, .slice ad D cd] w fun e w' => e = .returned (.int .i64 0) ∧ WroteF w w' p s X (zl.map Int.toNat) (zd.map Int.toNat) := by
 have hll := hA.at.1
 have hdl := hB.at.1
 obtain ⟨h1, h2, h3, h4, hokl, hokd⟩ := mayM_parts hm
 rw [← hll] at h1 h2
 rw [← hdl] at h3 h4
 have HHD := head_ok (zl.map Int.toNat) (zd.map Int.toNat) (small_le hokl) (small_le hokd) (by rw [List.length_map, ← hll]; exact h1) (by rw [List.length_map, ← hll]; exact h2) (by rw [List.length_map, ← hdl]; exact h3) (by rw [List.length_map, ← hdl]; exact h4)
 rw [← List.map_append] at HHD
 have hpn := packN_length ((zl ++ zd).map Int.toNat)
 have h15 : ∀ n ∈ (zl ++ zd).map Int.toNat, n ≤ 15 := small_le (by rw [lensOk_append, hokl, hokd]; rfl)
 have hcast := packN_cast ((zl ++ zd).map Int.toNat) h15
 have his := packM_is ((zl ++ zd).map Int.toNat) h15
 obtain ⟨ns, hns⟩ : ∃ ns, ns = (zl ++ zd).map Int.toNat := ⟨_, rfl⟩
 have hnl : ns.length = L + D := by rw [hns, List.length_map, List.length_append, ← hll, ← hdl]
 have hxl : (zl.map Int.toNat).length = L := by rw [List.length_map, ← hll]
 have hyl : (zd.map Int.toNat).length = D := by rw [List.length_map, ← hdl]
 rw [← hns] at HHD hpn hcast his
 obtain ⟨cs, hcs⟩ : ∃ cs, cs = chosen (packM ns) := ⟨_, rfl⟩
 rw [← hcs] at HHD
 obtain ⟨come, hcome⟩ : ∃ x, x = comeN cs 19 := ⟨_, rfl⟩
 rw [← hcome] at HHD
 have HHO : Hid (HeadOk (zl.map Int.toNat) (zd.map Int.toNat) come cs (packN ns)) := HHD
 have hc4 := HHD.m1
 have hc19 := HHD.m2
 have HWI1 := fun W => within_any W (L : Int) 257 286
 have HWI2 := fun W => within_any W (D : Int) 1 30
 have e1 : inB (L : Int) 257 286 = true := by
  unfold inB
  have h1 : (257 : Int) ≤ (L : Int) := by omega
  have h2 : (L : Int) ≤ 286 := by omega
  simp [h1, h2]
 have e2 : inB (D : Int) 1 30 = true := by
  unfold inB
  have h1 : (1 : Int) ≤ (D : Int) := by omega
  have h2 : (D : Int) ≤ 30 := by omega
  simp [h1, h2]
 rw [e1] at HWI1
 rw [e2] at HWI2
 obtain ⟨b1, o1, rfl⟩ : ∃ b o, al = some ⟨b, o, none⟩ := by
  obtain ⟨b1, o1, _, e3, _⟩ := hA.get 0 (by omega)
  simp only [Value.slice.injEq] at e3
  exact ⟨b1, o1, e3.1⟩
 obtain ⟨b2, o2, rfl⟩ : ∃ b o, ad = some ⟨b, o, none⟩ := by
  obtain ⟨b2, o2, _, e4, _⟩ := hB.get 0 (by omega)
  simp only [Value.slice.injEq] at e4
  exact ⟨b2, o2, e4.1⟩
 obtain ⟨W, hW⟩ : ∃ W, W = w.alloc (.cells #[.slice (some ⟨b1, o1, none⟩) L cl, .slice (some ⟨b2, o2, none⟩) D cd] 117) := ⟨_, rfl⟩
 have hk0 : Same w W := by rw [hW]; exact (Kept.refl _ w).alloc _
 have HCC := lconcat_any W w.heap.size L cl D cd ⟨b1, o1, none⟩ ⟨b2, o2, none⟩ I J zl zd (by rw [hW]; simp) (by rw [hW]; simp) (hA.same hk0) (hB.same hk0) (by omega) (by omega) (by omega)
 have HK0 : Hid (Same w W) := hk0
 have HPA : Hid (packA (zl ++ zd) = .ok (packM ns)) := hid (by rw [packA_good (by rw [List.length_append]; omega) (by rw [lensOk_append, hokl, hokd]; rfl), ← hns])
 have HLN : Hid ((zl ++ zd).length ≤ 10000000) := hid (by rw [List.length_append]; omega)
 have HIS : Hid (∀ t ∈ packM ns, 0 ≤ t.1 ∧ t.1 ≤ 18) := hid (fun t ht => ⟨(his t ht).1, (his t ht).2.1⟩)
 have HPL : Hid ((packM ns).length ≤ 1000) := hid (by have := packM_len ns; omega)
 have HPN : Hid ((packN ns).length ≤ L + D) := hid (by omega)
 have HCAST : Hid ((packN ns).map (fun x => ((x.1 : Int), (x.2 : Int))) = packM ns) := hcast
 have HCS : Hid (cs = chosen (packM ns)) := hcs
 have HNS : Hid (ns = zl.map Int.toNat ++ zd.map Int.toNat) := hid (by rw [hns, List.map_append])
 have HCO : Hid (come = comeN cs 19) := hcome
 have HXY : Hid ((zl.map Int.toNat).length = L ∧ (zd.map Int.toNat).length = D) := hid ⟨hxl, hyl⟩
 have HWS : Hid (WS w w p s s X) := hws
 have HT : Hid (Tab w) := hT
 have HPG : Hid (¬ Fp p s 0) := hpg
 have HFP : Hid (∀ k, Fp p s k → k < w.heap.size) := hid (fun k h => hws.wr.fp_lt h)
 obtain ⟨l1, hl1⟩ : ∃ x, x = L - 257 := ⟨_, rfl⟩
 obtain ⟨d1, hd1⟩ : ∃ x, x = D - 1 := ⟨_, rfl⟩
 obtain ⟨c1, hc1⟩ : ∃ x, x = come - 4 := ⟨_, rfl⟩
 have HVAL : Hid (l1 = L - 257 ∧ d1 = D - 1 ∧ c1 = come - 4) := hid ⟨hl1, hd1, hc1⟩
 have hl1I : (L : Int) - 257 = (l1 : Int) := by omega
 have hd1I : (D : Int) - 1 = (d1 : Int) := by omega
 have hc1I : (come : Int) - 4 = (c1 : Int) := by omega
 have hl1b : l1 < 2 ^ 5 := by omega
 have hd1b : d1 < 2 ^ 5 := by omega
 have hc1b : c1 < 2 ^ 4 := by omega
 have hl1w : IntKind.u32.wrap (l1 : Int) = (l1 : Int) := by rw [IntKind.wrap_u32]; omega
 have hd1w : IntKind.u32.wrap (d1 : Int) = (d1 : Int) := by rw [IntKind.wrap_u32]; omega
 have hc1w : IntKind.u32.wrap (c1 : Int) = (c1 : Int) := by rw [IntKind.wrap_u32]; omega
 clear hA hB hm hk0 hokl hokd hll hdl HHD hpn h15 hcast his hns hcs hcome hws hT hpg hnl hxl hyl hl1 hd1 hc1 e1 e2 h3 h4
 go_enter Tryz.func88, Tryz.ntmps88
 go_wp2_with fail
 refine (HWI1 _).mono ?_
 rintro e wx ⟨rfl, hwx⟩
 subst hwx
 go_wp2_with fail
 refine (HWI2 _).mono ?_
 rintro e w0 ⟨rfl, hw0⟩
 subst hw0
 clear HWI1 HWI2
 go_wp2_with fail
 rw [← hW]
 clear hW
 refine HCC.mono ?_
 rintro e w3 ⟨v3, rfl, hr3, hk3⟩
 have HK3 : Hid (Same w0 w3) := hid (Same.trans HK0.out hk3)
 have HPK := lpack_any w3 _ _ _ (SrcE.ofRow hr3) HLN.out
 rw [HPA.out] at HPK
 clear hr3 hk3 HCC
 go_wp2_with fail
 refine HPK.mono ?_
 rintro e w4 ⟨v4, rfl, hr4, hk4⟩
 have HR4 : Hid (StRow w3.heap.size w4 v4 (packM ns)) := hr4
 have HK4 : Hid (Same w0 w4) := hid (Same.trans HK3.out hk4)
 have HCL := codeLengths_any w4 _ _ (packM ns) (SrcC.ofRow stC_ok hr4) HIS.out HPL.out
 rw [← HCS.out] at HCL
 clear hr4 hk4 HPK
 go_wp2_with fail
 refine HCL.mono ?_
 rintro e w5 ⟨⟨g, ng, capg, rfl, hrg, hgg⟩, hk5⟩
 have hng := hrg.len
 rw [HCS.out, chosen_length] at hng
 subst hng
 have HRG : Hid (NRow 0 w5 (.slice (some ⟨g, 0, none⟩) 19 capg) cs) := hrg
 have HK5 : Hid (Same w0 w5) := hid (Same.trans HK4.out hk5)
 have HR5 : Hid (StRow w3.heap.size w5 v4 (packM ns)) := hid (RowC.kept HR4.out hk5 (fun _ _ f => f))
 have HT5 : Hid (Tab w5) := hid (HT.out.kept HK5.out (fun f => f))
 have HCM := coming_any w5 g capg cs hrg HT5.out
 rw [← HCO.out] at HCM
 have HG5 : Hid (w4.heap.size ≤ g ∧ g < w5.heap.size) := hid ⟨hgg, hrg.lt (k := g) rfl⟩
 have hsz3 := HK3.out.size
 have hsz4 := HK4.out.size
 have hsz5 := HK5.out.size
 have HV4 : Hid (∀ k, v4.ownBlock = some k → w3.heap.size ≤ k ∧ k < w5.heap.size) := hid (fun k e => ⟨HR5.out.ge e, HR5.out.lt e⟩)
 have HWS5 : Hid (WS w5 w5 p s s X) := hid (WS.start (HWS.out.wr.kept HK5.out (fun _ _ f => f)) HWS.out.bit)
 clear hrg hk5 hgg HCL
 go_wp2_with fail
 refine HCM.mono ?_
 rintro e w6 ⟨rfl, hw6⟩
 subst hw6
 have HP1 := ws_put w6 w6 p s s X l1 5 HWS5.out (by decide) hl1b (by omega)
 clear HCM
 go_wp2_with fail
 refine HP1.mono ?_
 rintro e w7 ⟨rfl, ⟨s7, hws7⟩, _⟩
 have HP2 := ws_put w6 w7 p s s7 _ d1 5 hws7 (by decide) hd1b (by rw [List.length_append, bitsOf_length]; omega)
 clear HP1
 go_wp2_with fail
 refine HP2.mono ?_
 rintro e w8 ⟨rfl, ⟨s8, hws8⟩, _⟩
 have HP3 := ws_put w6 w8 p s s8 _ c1 4 hws8 (by decide) hc1b (by rw [List.length_append, List.length_append, bitsOf_length, bitsOf_length]; omega)
 clear HP2 hws7
 go_wp2_with fail
 refine HP3.mono ?_
 rintro e w9 ⟨rfl, ⟨s9, hws9⟩, _⟩
 obtain ⟨X3, hX3⟩ : ∃ X3, X3 = X ++ bitsOf l1 5 ++ bitsOf d1 5 ++ bitsOf c1 4 := ⟨_, rfl⟩
 rw [← hX3] at hws9
 have HX3 : Hid (X3 = X ++ bitsOf l1 5 ++ bitsOf d1 5 ++ bitsOf c1 4 ∧ X3.length ≤ 100014) := hid ⟨hX3, by rw [hX3]; simp only [List.length_append, bitsOf_length]; omega⟩
 have HWS9 : Hid (WS w6 w9 p s s9 X3) := hws9
 clear HP3 hws8 hws9 hX3
 go_wp2_with fail
 go_loopg [11, 57] come (fun q _ zi wr => ∃ (i : Nat) (si : Value), come - i ≤ q ∧ i ≤ come ∧ zi = .int .i64 (i : Nat) ∧ Hid (WS w6 wr p s si (X3 ++ codeBits cs i)))
 case atStart => exact ⟨0, s9, by omega, by omega, rfl, hid (by simpa [codeBits] using HWS9.out)⟩
 case round =>
  clear HWS9
  obtain ⟨i, si, hq, hi, rfl, HWI⟩ := hrel
  have hkw := HWI.out.kept
  by_cases hlt : i < come
  ·have ct := (HT5.out.kept hkw HPG.out) i (by omega)
   have ho18 := ord_le i (by omega)
   obtain ⟨oi, hoi⟩ : ∃ x, x = ord.getD i 0 := ⟨_, rfl⟩
   rw [← hoi] at ct ho18
   have HRW : Hid (NRow 0 wr (.slice (some ⟨g, 0, none⟩) 19 capg) cs) := hid (HRG.out.kept hkw (fun k e f => by simp [Value.ownBlock] at e; subst e; have h1 := HFP.out _ f; have h2 := HG5.out; omega))
   have hcl := HRG.out.len
   obtain ⟨x, hx⟩ : ∃ x, x = cs.getD oi 0 := ⟨_, rfl⟩
   have hxe : x = cs[oi]'(by omega) := by rw [hx, List.getD_eq_getElem?_getD, List.getElem?_eq_getElem (by omega)]; rfl
   have hx7 : x ≤ 7 := by rw [hxe]; exact HHO.out.c7 _ (List.getElem_mem _)
   have cg : wr.cell? ⟨g, oi, none⟩ = some (.int .i64 (x : Nat)) := by rw [HRW.out.cell oi (by omega), hxe]; rfl
   have hxw : IntKind.u32.wrap (x : Int) = (x : Int) := by rw [IntKind.wrap_u32]; omega
   have HPT := ws_put w6 wr p s si _ x 3 HWI.out (by decide) (by omega) (by rw [List.length_append, codeBits_length]; have := HX3.out.2; omega)
   have HBT : Hid (X3 ++ codeBits cs (i + 1) = X3 ++ codeBits cs i ++ bitsOf x 3) := hid (by rw [codeBits, ← hoi, ← hx, List.append_assoc])
   clear hx hxe hoi hkw HRW
   go_wp2_with fail
   refine HPT.mono ?_
   rintro e wy ⟨rfl, ⟨sy, hwsy⟩, _⟩
   have HWY : Hid (WS w6 wy p s sy (X3 ++ codeBits cs (i + 1))) := hid (by rw [HBT.out]; exact hwsy)
   clear hwsy HPT ct cg
   go_wp2_with fail
   go_roundg (gk - 1)
   case measure => omega
   case rel => exact ⟨i + 1, sy, by omega, by omega, by go_num, HWY⟩
  ·have hic : i = come := by omega
   subst hic
   clear hq hlt
   have HFS : Hid (∀ k, Fp p si k → k < w0.heap.size ∨ w6.heap.size ≤ k) := hid (fun k hf => by
    rcases hf with e | e
    ·exact .inl (HFP.out k (.inl e))
    ·rcases HWI.out.own k e with h | h
     ·exact .inl (HFP.out k (.inr h))
     ·exact .inr h)
   have hrow : StRow w3.heap.size wr v4 (packM ns) := RowC.kept HR5.out hkw (fun k e f => by have h1 := HFP.out k f; have h2 := (HV4.out k e).1; omega)
   have hcsr : NRow 0 wr (.slice (some ⟨g, 0, none⟩) 19 capg) cs := HRG.out.kept hkw (fun k e f => by simp [Value.ownBlock] at e; subst e; have h1 := HFP.out _ f; have h2 := HG5.out; omega)
   have hsrc : StSrc wr (fun k => v4.ownBlock = some k) v4 ((packN ns).map (fun x => ((x.1 : Int), (x.2 : Int)))) := by rw [HCAST.out]; exact SrcC.ofRow stC_ok hrow
   have HWT := writeSteps_any wr p g capg si (X3 ++ codeBits cs i) v4 _ cs (packN ns) (WS.start HWI.out.wr HWI.out.bit) (by rw [List.length_append, codeBits_length]; have := HX3.out.2; omega) hsrc
    (fun k e f => by have h1 := HV4.out k e; have h2 := HFS.out k f; omega) hcsr (fun f => by have h1 := HG5.out; have h2 := HFS.out g f; omega) HHO.out.c7 HHO.out.ok HHO.out.st (by have := HPN.out; omega)
   clear hrow hcsr hsrc hkw
   go_wp2_with fail
   refine HWT.mono ?_
   rintro e wz ⟨⟨u, rfl⟩, sz, hwz⟩
   have HWZ : Hid (WS w0 wz p s sz (X ++ headBits L D i cs (packN ns))) := hid (by
    have h := (WS.trans HWI.out (Kept.refl _ wr) hwz).base HK5.out
    have e : X ++ headBits L D i cs (packN ns) = X3 ++ codeBits cs i ++ (packN ns).flatMap (stepBits cs) := by
     rw [HX3.out.1, HVAL.out.1, HVAL.out.2.1, HVAL.out.2.2]
     unfold headBits
     simp only [List.append_assoc]
    rw [e]
    exact h)
   clear hwz HWT
   go_wp2_with fail
   go_ret
   refine ⟨rfl, sz, i, cs, packN ns, ⟨by rw [← HNS.out]; exact HCS.out, HCO.out, by rw [← HNS.out]⟩, HHO.out, ?_, ?_⟩
   ·rw [HXY.out.1, HXY.out.2]; exact HPN.out
   ·rw [HXY.out.1, HXY.out.2]; exact HWZ.out

end Go.Proofs.YtljlmfnbeofmmaaGreatDoor
