import Derived.Test.YtljlmfnbeofmmaaGreatDoorLnWs
import Derived.Deep.RegionHeld3
namespace Go.Proofs.YtljlmfnbeofmmaaGreatDoor
open Go.RowKit

set_option maxRecDepth 100000 in
set_option maxHeartbeats 2000000 in
theorem coming_any (w : World) (g cap : Nat) (cs : List Nat) (hr : NRow 0 w (.slice (some ⟨g, 0, none⟩) 19 cap) cs) (hT : Tab w) :
  Calls Tryz.prog 130 #[.slice (some ⟨g, 0, none⟩) 19 cap] w fun e w' => e = .returned (.int .i64 (comeN cs 19 : Nat)) ∧ w' = w := by
 have hcl := hr.len
 have HR : Hid (NRow 0 w (.slice (some ⟨g, 0, none⟩) 19 cap) cs) := hr
 have HT : Hid (Tab w) := hT
 clear hr hT
 go_enter Tryz.func130, Tryz.ntmps130
 go_wp2_with fail
 go_loopg [3] 19 (fun q z wr => ∃ (k : Nat), k ≤ q ∧ 4 ≤ k ∧ k ≤ 19 ∧ z = .int .i64 (k : Nat) ∧ Hid (comeN cs 19 = comeN cs k) ∧ wr = w)
 case atStart => exact ⟨19, by omega, by omega, by omega, rfl, rfl, rfl⟩
 case round =>
  obtain ⟨k, hq, hk4, hk19, rfl, HC, hw⟩ := hrel
  subst hw
  by_cases hgt : 4 < k
  ·obtain ⟨j, rfl⟩ : ∃ j, k = j + 1 := ⟨k - 1, by omega⟩
   have ct := HT.out j (by omega)
   have ho18 := ord_le j (by omega)
   obtain ⟨oi, hoi⟩ : ∃ x, x = ord.getD j 0 := ⟨_, rfl⟩
   rw [← hoi] at ct ho18
   obtain ⟨x, hx⟩ : ∃ x, x = cs.getD oi 0 := ⟨_, rfl⟩
   have cl : wr.cell? ⟨g, oi, none⟩ = some (.int .i64 (x : Nat)) := by
    have h := HR.out.cell oi (by omega)
    rw [h, hx, List.getD_eq_getElem?_getD, List.getElem?_eq_getElem (by omega)]
    rfl
   have HCJ : Hid (comeN cs (j + 1) = if x = 0 then comeN cs j else j + 1) := hid (by
    rw [comeN, ← hoi, ← hx]
    by_cases h0 : x = 0
    ·rw [if_pos ⟨hgt, h0⟩, if_pos h0]
    ·rw [if_neg (fun h => h0 h.2), if_neg h0])
   obtain ⟨j1, hj1⟩ : ∃ j1, j1 = j + 1 := ⟨_, rfl⟩
   rw [← hj1] at HC HCJ hq hk4 hk19 hgt ⊢
   have hjI : (j1 : Int) - 1 = (j : Int) := by omega
   have hjw : IntKind.i64.wrap (j : Int) = (j : Int) := by rw [IntKind.wrap_i64]; omega
   have hj19 : j < 19 := by omega
   have HJ : Hid (j1 = j + 1) := hj1
   clear hx hoi hj1
   by_cases h0 : x = 0
   ·have HC2 : Hid (comeN cs 19 = comeN cs j) := hid (by rw [HC.out, HCJ.out, if_pos h0])
    subst h0
    go_wp2_with fail
    go_roundg (gk - 1)
    case measure => omega
    case rel => exact ⟨j, by have := HJ.out; omega, by have := HJ.out; omega, by omega, rfl, HC2, rfl⟩
   ·have HC2 : Hid (comeN cs 19 = j1) := hid (by rw [HC.out, HCJ.out, if_neg h0, HJ.out])
    have hx0 : ((x : Int) == 0) = false := by simp; omega
    clear h0
    go_wp2_with fail
    go_ret
    exact ⟨by rw [HC2.out]; rfl, rfl⟩
  ·have hk : k = 4 := by omega
   subst hk
   have HC2 : Hid (comeN cs 19 = 4) := hid (by rw [HC.out]; rfl)
   go_wp2_with fail
   go_ret
   exact ⟨by rw [HC2.out]; rfl, rfl⟩

theorem WS.trans {wb w w1 w' : World} {p : Nat} {s0 s s' : Value} {X Y : List Nat} (h : WS wb w p s0 s X) (hk : Same w w1) (h2 : WS w1 w' p s s' Y) : WS wb w' p s0 s' Y := by
 have hf : ∀ k, k < wb.heap.size → Fp p s k → Fp p s0 k := fun k hk hf => by
  rcases hf with e | e
  ·exact .inl e
  ·rcases h.own k e with h1 | h1
   ·exact .inr h1
   ·omega
 refine ⟨h2.wr, h2.bit, Kept.trans (Kept.trans h.kept hk (fun _ _ x => x) (fun _ _ f => f.elim)) h2.kept (fun _ _ x => x) (fun k hk2 x => hf k hk2 x), fun k e => ?_⟩
 rcases h2.own k e with h1 | h1
 ·exact h.own k h1
 ·exact .inr (by have := h.kept.size; have := hk.size; omega)

theorem row_bits (cs : List Nat) (s : Nat) (hk : key cs s ≠ 0) : bitsOf (cdOf cs s) (key cs s) = rowOf cs s := by
 have e : cdOf cs s = n2 (rowOf cs s) := by unfold cdOf; rw [if_neg hk, rowOf_n2]
 refine n2_inj _ _ (by rw [bitsOf_length, rowOf_length]) (bitsOf_lt _ _) (rowOf_bit cs s) ?_
 rw [bitsOf_n2, e, Nat.mod_eq_of_lt]
 have := n2_lt (rowOf cs s) (rowOf_bit cs s)
 rw [rowOf_length] at this
 exact this

theorem cd_lt (cs : List Nat) (s : Nat) (hk : key cs s ≠ 0) : cdOf cs s < 2 ^ key cs s := by
 have e : cdOf cs s = n2 (rowOf cs s) := by unfold cdOf; rw [if_neg hk, rowOf_n2]
 rw [e]
 have := n2_lt (rowOf cs s) (rowOf_bit cs s)
 rw [rowOf_length] at this
 exact this

theorem codesL_get (cs : List Nat) (s : Nat) (h : s < (codesL cs).length) : (codesL cs)[s] = cdOf cs s := by simp [codesL]

set_option maxRecDepth 100000 in
set_option maxHeartbeats 4000000 in
theorem writeSteps_any (w : World) (p g cap : Nat) (s : Value) (X : List Nat) (v : Value) (I : Nat → Prop) (cs : List Nat) (sn : List (Nat × Nat)) (hw : WS w w p s s X) (hX : X.length ≤ 1000000) (hs : StSrc w I v (sn.map (fun x => ((x.1 : Int), (x.2 : Int))))) (hI : ∀ k, I k → ¬ Fp p s k)
  (hr : NRow 0 w (.slice (some ⟨g, 0, none⟩) 19 cap) cs) (hg : ¬ Fp p s g) (h7 : ∀ x ∈ cs, x ≤ 7) (hok : chkN cs = 0) (hst : StepsOk cs sn) (hsn : sn.length ≤ 1000) :
  Calls Tryz.prog 131 #[.pointer (some ⟨p, 0, none⟩), v, .slice (some ⟨g, 0, none⟩) 19 cap] w fun e w' => (∃ u, e = .returned u) ∧ ∃ s', WS w w' p s s' (X ++ sn.flatMap (stepBits cs)) := by
 have hcl := hr.len
 obtain ⟨ao, cv, rfl, hx1, hx2⟩ := id hs
 clear hx1 hx2
 rw [List.length_map] at hs ⊢
 have HC := codes_good w _ _ (cs.map (fun (n : Nat) => (n : Int))) cs ((SrcE.ofRow hr).recode (by rw [List.map_map]; rfl)) (chk_good cs hcl h7 hok) (by rw [chk_codes cs hcl h7]; exact hok)
 have HW : Hid (WS w w p s s X) := hw
 have HS : Hid (StSrc w I (.slice ao sn.length cv) (sn.map (fun x => ((x.1 : Int), (x.2 : Int))))) := hs
 have HI : Hid (∀ k, I k → ¬ Fp p s k) := hI
 have HR : Hid (NRow 0 w (.slice (some ⟨g, 0, none⟩) 19 cap) cs) := hr
 have HG : Hid (¬ Fp p s g) := hg
 have HST : Hid (StepsOk cs sn) := hst
 have H7 : Hid (∀ x ∈ cs, x ≤ 7) := h7
 have HFP : Hid (∀ k, Fp p s k → k < w.heap.size) := hid (fun k h => hw.wr.fp_lt h)
 clear hw hs hI hr hg h7 hok hst
 go_enter Tryz.func131, Tryz.ntmps131
 go_wp2_with fail
 refine HC.mono ?_
 rintro e w1 ⟨⟨gc, nc, capc, rfl, hrc⟩, hk1⟩
 have hnc := hrc.len
 rw [codesL_length, hcl] at hnc
 subst hnc
 have HRC : Hid (WRow w.heap.size w1 (.slice (some ⟨gc, 0, none⟩) 19 capc) (codesL cs)) := hrc
 have HK1 : Hid (Same w w1) := hk1
 have HW1 : Hid (WS w1 w1 p s s X) := hid (WS.start (HW.out.wr.kept hk1 (fun _ _ f => f)) HW.out.bit)
 have hsz1 := hk1.size
 have HGC : Hid (w.heap.size ≤ gc) := hid (hrc.ge (k := gc) rfl)
 clear hrc hk1 HC
 go_wp2_with fail
 go_loopg [9, 10, 11, 19] sn.length (fun q _ _ _ zi wr => ∃ (i : Nat) (si : Value), sn.length - i ≤ q ∧ i ≤ sn.length ∧ zi = .int .i64 (i : Nat) ∧ Hid (WS w1 wr p s si (X ++ (sn.take i).flatMap (stepBits cs)) ∧ (X ++ (sn.take i).flatMap (stepBits cs)).length ≤ 1000000 + 14 * i))
 case atStart => exact ⟨0, s, by omega, by omega, rfl, hid ⟨by simpa using HW1.out, by simpa using hX⟩⟩
 case round =>
  clear HW1
  obtain ⟨i, si, hq, hi, rfl, HWI⟩ := hrel
  by_cases hlt : i < sn.length
  ·have hkw := HWI.out.1.kept
   obtain ⟨b, o, rfl, _, c1, c2⟩ := StSrc.get (n := sn.length) (cap := cv) (SrcC.kept stC_ok (SrcC.kept stC_ok HS.out HK1.out (fun _ _ _ f => f)) hkw (fun k h _ => HI.out k h)) i (by simpa using hlt)
   have hsti := HST.out _ (List.getElem_mem hlt)
   simp only [List.getElem_map] at c1 c2
   obtain ⟨x, hx⟩ : ∃ x, x = sn[i].1 := ⟨_, rfl⟩
   obtain ⟨y, hy⟩ : ∃ y, y = sn[i].2 := ⟨_, rfl⟩
   rw [← hx] at c1 hsti
   rw [← hy] at c2 hsti
   obtain ⟨hx19, hkey, hy2⟩ := hsti
   rw [hcl] at hx19
   have hk7 : key cs x ≤ 7 := by rw [key_get (by omega)]; exact H7.out _ (List.getElem_mem _)
   have hcd := cd_lt cs x hkey
   have hxb7 := xbits_le x
   have HBITS : Hid (X ++ (sn.take (i + 1)).flatMap (stepBits cs) = X ++ (sn.take i).flatMap (stepBits cs) ++ bitsOf (cdOf cs x) (key cs x) ++ bitsOf y (xbits x)) := hid (by
    rw [List.take_succ_eq_append_getElem hlt, List.flatMap_append, row_bits cs x hkey]
    simp [stepBits, hx, hy])
   have cg : wr.cell? ⟨g, x, none⟩ = some (.int .i64 (key cs x : Nat)) := by
    have h := (HR.out.same HK1.out).kept hkw (fun k e f => by simp [Value.ownBlock] at e; subst e; exact HG.out f)
    rw [h.cell x (by omega), key_get (by omega)]
    rfl
   have cc : wr.cell? ⟨gc, x, none⟩ = some (.int .u32 (cdOf cs x : Nat)) := by
    have h := HRC.out.kept hkw (fun k e f => by simp [Value.ownBlock] at e; subst e; have := HFP.out gc f; have := HGC.out; omega)
    rw [h.cell x (by rw [codesL_length]; omega), codesL_get]
    rfl
   obtain ⟨kx, hkx⟩ : ∃ kx, kx = key cs x := ⟨_, rfl⟩
   obtain ⟨cx, hcx⟩ : ∃ cx, cx = cdOf cs x := ⟨_, rfl⟩
   obtain ⟨xb, hxb⟩ : ∃ xb, xb = xbits x := ⟨_, rfl⟩
   have HSH := fun W2 => shape_any W2 (x : Int)
   rw [widthM_nat] at HSH
   rw [← hkx] at cg hk7 hcd HBITS
   rw [← hcx] at cc hcd HBITS
   rw [← hxb] at HSH hy2 hxb7 HBITS
   have hyw : y < 2 ^ 7 := Nat.lt_of_lt_of_le hy2 (Nat.pow_le_pow_right (by decide) hxb7)
   have hyc : IntKind.u32.wrap (y : Int) = (y : Int) := by rw [IntKind.wrap_u32]; omega
   have HP1 : Hid (∀ W, Same wr W → Calls Tryz.prog 81 #[.pointer (some ⟨p, 0, none⟩), .int .u32 (cx : Nat), .int .i64 (kx : Nat)] W fun e w' => e = .returned (.int .i64 0) ∧ (∃ s', WS w1 w' p s s' (X ++ (sn.take i).flatMap (stepBits cs) ++ bitsOf cx kx)) ∧ Kept (Fp p si) W w') := hid (fun W hk => ws_put w1 W p s si _ cx kx (HWI.out.1.same hk) (by omega) hcd (by have := HWI.out.2; omega))
   have HFI : Hid (∀ k, Fp p si k → k < wr.heap.size) := hid (fun k h => HWI.out.1.wr.fp_lt h)
   have HLN : Hid ((X ++ (sn.take i).flatMap (stepBits cs)).length ≤ 1000000 + 14 * i) := HWI.out.2
   have hgr : g < wr.heap.size := World.block_lt_of_cell? wr _ cg
   have hgcr : gc < wr.heap.size := World.block_lt_of_cell? wr _ cc
   have HFW : Hid (∀ k, k = g ∨ k = gc ∨ k = wr.heap.size → ¬ Fp p si k) := hid (fun k hk hf => by
    rcases hk with rfl | rfl | rfl
    ·rcases hf with e | e
     ·exact HG.out (.inl e)
     ·rcases HWI.out.1.own _ e with h1 | h1
      ·exact HG.out (.inr h1)
      ·have := HR.out.lt (k := k) rfl; omega
    ·rcases hf with e | e
     ·have := HFP.out k (.inl e); have := HGC.out; omega
     ·rcases HWI.out.1.own _ e with h1 | h1
      ·have := HFP.out k (.inr h1); have := HGC.out; omega
      ·have := HRC.out.lt (k := k) rfl; omega
    ·have := HFI.out _ hf; omega)
   have i1 : (0 : Int) ≤ (x : Int) := by omega
   have i2 : (x : Int) < 19 := by omega
   have HY : Hid (y < 2 ^ xb) := hy2
   clear hkx hcx hxb hx hy hkey hkw hcd hy2
   go_wp2_with fail
   refine (HSH _).mono ?_
   rintro e w2 ⟨rfl, hw2⟩
   have HK2 : Hid (Same wr w2) := hid (by rw [hw2]; exact (Kept.refl _ wr).alloc _)
   have d1 : w2.cell? ⟨wr.heap.size, 0, none⟩ = some (.int .i64 (x : Nat)) := by rw [hw2]; simp
   have d2 : w2.cell? ⟨wr.heap.size, 1, none⟩ = some (.int .i64 (y : Nat)) := by rw [hw2]; simp
   have d3 : w2.cell? ⟨g, x, none⟩ = some (.int .i64 (kx : Nat)) := HK2.out.cell cg (fun f => f)
   have d4 : w2.cell? ⟨gc, x, none⟩ = some (.int .u32 (cx : Nat)) := HK2.out.cell cc (fun f => f)
   clear hw2 HSH cg cc c1 c2
   go_wp2_with fail
   go_region_held3 (fun w' => w'.cell? ⟨wr.heap.size, 0, none⟩ = some (.int .i64 (x : Nat)) ∧ w'.cell? ⟨wr.heap.size, 1, none⟩ = some (.int .i64 (y : Nat)) ∧ w'.cell? ⟨g, x, none⟩ = some (.int .i64 (kx : Nat)) ∧ w'.cell? ⟨gc, x, none⟩ = some (.int .u32 (cx : Nat)))
    (first
     | (go_split_ands; exact ⟨hk5.cell (by assumption) (HFW.out _ (.inr (.inr rfl))), hk5.cell (by assumption) (HFW.out _ (.inr (.inr rfl))), hk5.cell (by assumption) (HFW.out _ (.inl rfl)), hk5.cell (by assumption) (HFW.out _ (.inr (.inl rfl)))⟩)
     | go_keep)
    (first
     | (go_at_call 81; refine (HP1.out _ (Same.trans HK2.out ((Kept.refl _ w2).drew))).mono ?_; rintro e w5 ⟨rfl, ⟨s5, hws5⟩, hk5⟩))
   all_goals
    have f2 : w5.cell? ⟨wr.heap.size, 1, none⟩ = some (.int .i64 (y : Nat)) := hk5.cell (show w2.drew.cell? ⟨wr.heap.size, 1, none⟩ = some (.int .i64 (y : Nat)) from d2) (HFW.out _ (.inr (.inr rfl)))
    have HP2 := ws_put w1 w5 p s s5 _ y xb hws5 (by omega) HY.out (by have := HLN.out; rw [List.length_append, bitsOf_length]; omega)
    clear hws5 hk5 d1 d2 d3 d4
    go_wp2_with fail
    refine HP2.mono ?_
    rintro e w6 ⟨rfl, ⟨s6, hws6⟩, hk6⟩
    have HW6 : Hid (WS w1 w6 p s s6 (X ++ (sn.take (i + 1)).flatMap (stepBits cs)) ∧ (X ++ (sn.take (i + 1)).flatMap (stepBits cs)).length ≤ 1000000 + 14 * (i + 1)) := hid ⟨by rw [HBITS.out]; exact hws6, by rw [HBITS.out, List.length_append, List.length_append, bitsOf_length, bitsOf_length]; have := HLN.out; omega⟩
    clear hws6 hk6 HP2
    go_wp2_with fail
    go_roundg (gk - 1)
    case measure => omega
    case rel => exact ⟨i + 1, s6, by omega, by omega, by go_num, HW6⟩
  ·have e1 : sn.take i = sn := List.take_of_length_le (by omega)
   rw [e1] at HWI
   clear e1
   go_wp2_with fail
   go_end0
   exact ⟨⟨_, rfl⟩, si, WS.trans HW.out HK1.out HWI.out.1⟩

end Go.Proofs.YtljlmfnbeofmmaaGreatDoor
