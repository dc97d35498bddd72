import Derived.Test.YtljlmfnbeofmmaaGreatDoorZpXc
namespace Go.Proofs.YtljlmfnbeofmmaaGreatDoor
open Go.RowKit

def ItsOf (E : Nat → En) (len : Nat) (L : List It) : Prop := L.length = len ∧ ∀ j x, L[j]? = some x → ∃ bs, PDef (sb (E j).d) bs ∧ x = ⟨labZ (E j) bs, bodZ (E j) bs⟩

set_option maxRecDepth 100000 in
set_option maxHeartbeats 400000 in
theorem zwrite_good (w : World) (a : Option Addr) (len cap : Nat) (E : Nat → En) (hs : Ents w (fun _ => True) a len E) (hcap : len ≤ cap) (hx : Mxl w) (hT : Tab w) (hc : chkE E len = 0) :
  Calls Tryz.prog 13 #[.slice a len cap] w fun e w' => ∃ v' L, e = .returned (.tuple #[v', .int .i64 0]) ∧ Fresh w w' v' (filB L) ∧ ItsOf E len L := by
 obtain ⟨h64, hok⟩ := chkE_ok hc
 have HC := checkw_any w a len cap E hs (by omega) hcap hx
 rw [hc] at HC
 have HS : Hid (Ents w (fun _ => True) a len E) := hs
 have HT : Hid (Tab w) := hT
 have HOK : Hid (∀ j, j < len → nam8 (sb (E j).n) = true ∧ (E j).d.size ≤ 8192) := hok
 clear hs hx hT hc hok
 go_enter Tryz.func13, Tryz.ntmps13
 go_wp2_with fail
 refine HC.mono ?_
 rintro e w1 ⟨rfl, hk1⟩
 have HK1 : Hid (Same w w1) := hk1
 clear hk1 HC
 go_wp2_with fail
 go_loopg [5, 6, 18] len (fun qq z5 z6 z18 wr => ∃ (i : Nat) (L : List It), z18 = .int .i64 (i : Nat) ∧ i ≤ len ∧ len - i ≤ qq ∧ Hid (WrI w wr E i L z5 z6))
 case atStart => exact ⟨0, [], rfl, by omega, by omega, hid (WrI.zero w w1 E HK1.out)⟩
 case round =>
  clear HK1
  obtain ⟨i, L, rfl, hi1, hiq, HI⟩ := hrel
  obtain ⟨vp, hvp⟩ : ∃ v, v = u5 := ⟨_, rfl⟩
  obtain ⟨vr, hvr⟩ : ∃ v, v = u6 := ⟨_, rfl⟩
  rw [← hvp, ← hvr] at HI
  rw [← hvp, ← hvr]
  clear hvp hvr
  obtain ⟨np, hnp⟩ : ∃ n, n = (piesB L).length := ⟨_, rfl⟩
  obtain ⟨nr, hnr⟩ : ∃ n, n = (recsB 0 L).length := ⟨_, rfl⟩
  obtain ⟨ap, cp, hvp, _⟩ := HI.out.pie.shape
  obtain ⟨ar, cr, hvr, _⟩ := HI.out.recs.shape
  rw [← hnp] at hvp
  rw [← hnr] at hvr
  subst hvp
  subst hvr
  have HNN : Hid (np = (piesB L).length ∧ nr = (recsB 0 L).length) := hid ⟨hnp, hnr⟩
  have hnpb : np ≤ 600000 := by have := HI.out.lenp; omega
  have hnrb : nr ≤ 8000 := by have := HI.out.lenr; omega
  clear hnp hnr
  by_cases hi : i < len
  ·have hli : decide (i < len) = true := by simp; omega
   obtain ⟨b, o, ha, _, k0, k1⟩ := HS.out i hi
   subst ha
   have k0 := HI.out.same.cell k0 (fun f => f)
   have k1 := HI.out.same.cell k1 (fun f => f)
   obtain ⟨y, hy⟩ : ∃ y, y = E i := ⟨_, rfl⟩
   rw [← hy] at k0 k1
   have HY : Hid (y = E i) := hy
   have hyo := HOK.out i hi
   rw [← hy] at hyo
   have hiw : IntKind.i64.wrap ((i : Int) + 1) = ((i + 1 : Nat) : Int) := by rw [IntKind.wrap_i64]; omega
   have HYO : Hid (nam8 (sb y.n) = true ∧ y.d.size ≤ 8192) := hyo
   obtain ⟨wA, hwA⟩ : ∃ W, W = wr.alloc (.cells #[.string y.n, .string y.d] 34) := ⟨_, rfl⟩
   have hkA : Same wr wA := by rw [hwA]; exact (Kept.refl _ wr).alloc _
   have HKA : Hid (Same wr wA) := hkA
   have HP := zpack_any wA y hyo.2 (HT.out.kept (Same.trans HI.out.same hkA) (fun f => f))
   clear hy hyo hkA
   go_wp2_with fail
   rw [← hwA]
   clear hwA
   refine HP.mono ?_
   rintro e w2 ⟨bs, v2, J, hpd, rfl, hsJ, hJ, hnil, hk2⟩
   have hlz := labZ_ok y bs HYO.out.1 HYO.out.2
   obtain ⟨m, hm⟩ : ∃ m, m = labZ y bs := ⟨_, rfl⟩
   obtain ⟨bd, hbd⟩ : ∃ d, d = bodZ y bs := ⟨_, rfl⟩
   rw [← hm, ← hbd] at hlz
   rw [← hbd] at hsJ
   rw [← hm]
   have HX : Hid (PDef (sb y.d) bs ∧ m = labZ y bs ∧ bd = bodZ y bs) := hid ⟨hpd, hm, hbd⟩
   have HLZ : Hid (MkOk m ∧ (∀ b ∈ m.name, b < 256) ∧ m.name.length ≤ 64 ∧ bd.length ≤ 8192) := hlz
   have HK2 : Hid (Same wr w2) := hid (Same.trans HKA.out hk2)
   have HJ : Hid (∀ k, J k → wr.heap.size ≤ k) := hid (fun k h => Nat.le_trans HKA.out.size (hJ k h))
   have HNI : Hid (∀ n c, v2 = .slice none n c → n = 0 ∧ c = 0) := hnil
   have HS2 : Hid (Src w2 J v2 bd) := hsJ
   obtain ⟨wB, hwB⟩ : ∃ W, W = w2.alloc (.cells #[.int .u16 (m.way : Nat), .int .u32 (m.sum : Nat), .int .u32 (m.packed : Nat), .int .u32 (m.size : Nat), .string (txt m.name)] 60) := ⟨_, rfl⟩
   obtain ⟨lb, hlb⟩ : ∃ b, b = w2.heap.size := ⟨_, rfl⟩
   have HLBK : Hid (LabBk wB lb m) := hid (by rw [hwB, hlb]; exact Blk.new w2 _ _)
   have HKB : Hid (Same w2 wB) := hid (by rw [hwB]; exact (Kept.refl _ w2).alloc _)
   have HLB : Hid (wr.heap.size ≤ lb) := hid (by rw [hlb]; exact HK2.out.size)
   obtain ⟨c0, c1, c2, c3, c4⟩ := HLBK.out.cells
   have H3 := record_any wB m np hlz.1 hlz.2.1 (by omega)
   unfold mkZ at H3 ⊢
   clear hpd hm hbd hsJ hJ hnil hk2 hlz HP
   go_wp2_with fail
   rw [← hwB, ← hlb]
   clear hwB hlb
   refine H3.mono ?_
   rintro e w3 ⟨v3, rfl, hf3⟩
   have HF3 : Hid (Fresh wB w3 v3 (recB m np)) := hf3
   have HK3 : Hid (Same wr w3) := hid (Same.trans HK2.out (Same.trans HKB.out hf3.kept))
   have HRr : Hid (Row w3 (.slice ar nr cr) (recsB 0 L)) := hid (HI.out.recs.kept HK3.out (fun _ _ f => f))
   clear hf3 H3 c0 c1 c2 c3 c4
   go_wp2_with (at_builtin; refine wpList_append_any _ rfl (.tmp 27) (.tmp 31) rfl _ (recsB 0 L) rfl HRr.out _ _ (recB m np) rfl (nil8 HF3.out.row) (Src.ofRow HF3.out.row) (by rw [recB_len]; have := HNN.out; have := HLZ.out.2.2.1; omega) ?_)
   intro v4 w4 hr4 hg4 ho4
   have HK4 : Hid (Kept (fun k => (Value.slice ar nr cr).ownBlock = some k) w3 w4) := hid ((Kept.refl _ w3).grown hg4 (fun k e => .inl e))
   have HR4 : Hid (Row w4 v4 (recsB 0 L ++ recB m np)) := hr4
   have HO4 : Hid (v4.ownBlock = (Value.slice ar nr cr).ownBlock ∨ v4.ownBlock = some w3.heap.size) := ho4
   have HLR : Hid (∀ k, (Value.slice ar nr cr).ownBlock = some k → k < wr.heap.size) := hid (fun k e => (World.ownsRow.lt HI.out.recs k e).2)
   have HLP : Hid (∀ k, (Value.slice ap np cp).ownBlock = some k → k < wr.heap.size) := hid (fun k e => (World.ownsRow.lt HI.out.pie k e).2)
   have HL4 : Hid (LabBk w4 lb m) := hid (Blk.kept (HLBK.out.kept HF3.out.kept) HK4.out (fun e => by have := HLR.out lb e; have := HLB.out; omega))
   have HP4 : Hid (Row w4 (.slice ap np cp) (piesB L)) := hid ((HI.out.pie.kept HK3.out (fun _ _ f => f)).kept HK4.out (fun k e f => HI.out.apart k e f))
   have HS4 : Hid (Src w4 J v2 bd) := hid ((HS2.out.kept (Same.trans HKB.out HF3.out.kept) (fun _ _ _ f => f)).kept HK4.out (fun k hk _ e => by have := HJ.out k hk; have := HLR.out k e; omega))
   obtain ⟨c0, c1, c2, c3, c4⟩ := HL4.out.cells
   have H5 := head_any w4 m HLZ.out.1 HLZ.out.2.1
   unfold mkZ at H5
   clear hr4 hg4 ho4
   go_wp2_with fail
   refine H5.mono ?_
   rintro e w5 ⟨v5, rfl, hf5⟩
   have HF5 : Hid (Fresh w4 w5 v5 (hedB m)) := hf5
   have HP5 : Hid (Row w5 (.slice ap np cp) (piesB L)) := hid (HP4.out.kept hf5.kept (fun _ _ f => f))
   clear hf5 H5 c0 c1 c2 c3 c4
   go_wp2_with (first | (at_builtin; refine wpList_append_any _ rfl (.tmp 33) (.tmp 35) rfl _ (piesB L) rfl HP5.out _ _ (hedB m) rfl (nil8 HF5.out.row) (Src.ofRow HF5.out.row) (by have := HNN.out; have := HLZ.out.2.2.1; simp [hedB, labB_len, leOf_length]; omega) ?_; intro v6 w6 hr6 hg6 ho6; have HR6 : Hid (Row w6 v6 (piesB L ++ hedB m)) := hr6; have HK6 : Hid (Kept (fun k => (Value.slice ap np cp).ownBlock = some k) w5 w6) := hid ((Kept.refl _ w5).grown hg6 (fun k e => .inl e)); have HO6 : Hid (v6.ownBlock = (Value.slice ap np cp).ownBlock ∨ v6.ownBlock = some w5.heap.size) := ho6; have HS6 : Hid (Src w6 J v2 bd) := hid ((HS4.out.kept HF5.out.kept (fun _ _ _ f => f)).kept HK6.out (fun k hk _ e => by have := HJ.out k hk; have := HLP.out k e; omega)); clear hr6 hg6 ho6) | (at_builtin; refine wpList_append_any _ rfl (.tmp 36) (.tmp 37) rfl _ (piesB L ++ hedB m) rfl HR6.out J _ bd rfl HNI.out HS6.out (by have := HNN.out; have := HLZ.out.2.2; simp [hedB, labB_len, leOf_length]; omega) ?_; intro v7 w7 hr7 hg7 ho7))
   have ho7' : v7.ownBlock = v6.ownBlock ∨ v7.ownBlock = some w6.heap.size := ho7
   have HK7 : Hid (Kept (fun k => v6.ownBlock = some k) w6 w7) := hid ((Kept.refl _ w6).grown hg7 (fun k e => .inl e))
   have HW : Hid (WrI w w7 E (i + 1) (L ++ [⟨m, bd⟩]) v7 v4) := hid (by
    have hszA := HK3.out.size
    have hsz4 := HK4.out.size
    have hsz5 := HF5.out.kept.size
    have hsz6 := HK6.out.size
    have hszw := HI.out.same.size
    have hv4 : ∀ k, v4.ownBlock = some k → k < w4.heap.size := fun k e => (World.ownsRow.lt HR4.out k e).2
    have hn4 : ∀ k, v4.ownBlock = some k → w.heap.size ≤ k := by
     intro k e
     rcases HO4.out with h | h
     ·exact HI.out.newr k (by rw [← h]; exact e)
     ·rw [h] at e; simp only [Option.some.injEq] at e; omega
    have hn6 : ∀ k, v6.ownBlock = some k → w.heap.size ≤ k := by
     intro k e
     rcases HO6.out with h | h
     ·exact HI.out.newp k (by rw [← h]; exact e)
     ·rw [h] at e; simp only [Option.some.injEq] at e; omega
    have hap : ∀ k, (Value.slice ap np cp).ownBlock = some k → v4.ownBlock ≠ some k := by
     intro k e e4
     rcases HO4.out with h | h
     ·exact HI.out.apart k e (by rw [← h]; exact e4)
     ·rw [h] at e4; simp only [Option.some.injEq] at e4; have := HLP.out k e; omega
    have hap6 : ∀ k, v6.ownBlock = some k → v4.ownBlock ≠ some k := by
     intro k e e4
     rcases HO6.out with h | h
     ·exact hap k (by rw [← h]; exact e) e4
     ·rw [h] at e; simp only [Option.some.injEq] at e; have := hv4 k e4; omega
    have hx : (pieB ⟨m, bd⟩).length ≤ 8400 := by rw [pieB_len]; have := HLZ.out.2.2; show 30 + m.name.length + bd.length ≤ 8400; omega
    refine ⟨by rw [List.length_append, HI.out.len]; rfl, ?_, ?_, ?_, ?_, hn4, ?_, ?_, ?_, ?_⟩
    ·intro j x hj
     by_cases e : j < i
     ·rw [List.getElem?_append_left (by rw [HI.out.len]; exact e)] at hj
      exact HI.out.its j x hj
     ·have hlt := (List.getElem?_eq_some_iff.1 hj).1
      rw [List.length_append, HI.out.len] at hlt
      simp only [List.length_cons, List.length_nil] at hlt
      obtain rfl : j = i := by omega
      rw [List.getElem?_append_right (by rw [HI.out.len]; exact Nat.le_refl _), HI.out.len, Nat.sub_self] at hj
      simp only [List.getElem?_cons_zero, Option.some.injEq] at hj
      subst hj
      refine ⟨bs, ?_, ?_⟩
      ·rw [← HY.out]; exact HX.out.1
      ·rw [← HY.out, ← HX.out.2.1, ← HX.out.2.2]
    ·rw [piesB_app]
     have : pieB ⟨m, bd⟩ = hedB m ++ bd := rfl
     rw [this, ← List.append_assoc]
     exact hr7
    ·rw [recsB_app, Nat.zero_add, ← HNN.out.1]
     exact (((HR4.out.kept HF5.out.kept (fun _ _ f => f)).kept HK6.out (fun k e f => hap k f e)).kept HK7.out (fun k e f => hap6 k f e))
    ·intro k e
     rcases ho7' with h | h
     ·exact hn6 k (by rw [← h]; exact e)
     ·rw [h] at e; simp only [Option.some.injEq] at e; omega
    ·intro k e e4
     rcases ho7' with h | h
     ·exact hap6 k (by rw [← h]; exact e) e4
     ·rw [h] at e; simp only [Option.some.injEq] at e; have := hv4 k e4; omega
    ·exact Same.then (Same.then (Same.trans (Same.then (Same.trans HI.out.same HK3.out) HK4.out (fun k hk f => by have := HI.out.newr k f; omega)) HF5.out.kept) HK6.out (fun k hk f => by have := HI.out.newp k f; omega)) HK7.out (fun k hk f => by have := hn6 k f; omega)
    ·rw [piesB_app, List.length_append]; have := HI.out.lenp; rw [Nat.succ_mul]; omega
    ·rw [recsB_app, List.length_append, recB_len]; have := HI.out.lenr; have := HLZ.out.2.2.1; rw [Nat.succ_mul]; show (recsB 0 L).length + (46 + m.name.length) ≤ _; omega)
   clear hr7 hg7 ho7 ho7'
   go_wp2_with fail
   go_roundg (gk - 1)
   case measure => omega
   case rel => exact ⟨i + 1, _, by go_num, by omega, by omega, HW⟩
  ·have hli : decide (i < len) = false := by simp; omega
   obtain rfl : i = len := by omega
   have HE := endw_any wr i nr np (by omega) (by omega) (by omega)
   go_wp2_with fail
   refine HE.mono ?_
   rintro e w2 ⟨v2, rfl, hf2⟩
   have hlen2 : (endB i nr np).length = 22 := by simp [endB, leOf_length]
   obtain ⟨a2, c2, hv2, _⟩ := hf2.row.shape
   rw [hlen2] at hv2
   subst hv2
   have HF2 : Hid (Fresh wr w2 (.slice a2 22 c2) (endB i nr np)) := hf2
   obtain ⟨wB, hwB⟩ : ∃ W, W = w2.alloc (.cells #[.slice ap np cp, .slice ar nr cr, .slice a2 22 c2] 26) := ⟨_, rfl⟩
   have hb := Blk.new w2 #[.slice ap np cp, .slice ar nr cr, .slice a2 22 c2] 26
   rw [← hwB] at hb
   have hkB : Same w2 wB := by rw [hwB]; exact (Kept.refl _ w2).alloc _
   have hkW : Same wr wB := Same.trans hf2.kept hkB
   have HCC := bconcat_any wB w2.heap.size ap ar a2 np nr 22 cp cr c2 _ _ _ (piesB L) (recsB 0 L) (endB i nr np) (hb.cell 0) (hb.cell 1) (hb.cell 2) ((Src.ofRow HI.out.pie).kept hkW (fun _ _ _ f => f)) ((Src.ofRow HI.out.recs).kept hkW (fun _ _ _ f => f)) ((Src.ofRow hf2.row).kept hkB (fun _ _ _ f => f)) (nil8 HI.out.pie) (nil8 HI.out.recs) (nil8 hf2.row) (by decide) (by omega) (by omega) (by decide)
   have HKW : Hid (Same w wB) := hid (Same.trans HI.out.same hkW)
   clear hf2 hb hkB hkW HE hlen2
   go_wp2_with fail
   rw [← hwB]
   clear hwB
   refine HCC.mono ?_
   rintro e w3 ⟨v3, rfl, hf3⟩
   have HF3 : Hid (Fresh w w3 v3 (filB L)) := hid (by
    have h9 := Fresh.base8 HKW.out hf3
    unfold filB
    rw [HI.out.len, ← HNN.out.1, ← HNN.out.2, ← List.append_assoc]
    exact h9)
   clear hf3 HCC
   go_wp2_with fail
   refine bodyPost_ret (v := .tuple #[v3, .int .i64 0]) (by simp [results, Tryz.results13, go_sem]) rfl ?_
   exact ⟨v3, L, rfl, HF3.out, HI.out.len, HI.out.its⟩

end Go.Proofs.YtljlmfnbeofmmaaGreatDoor
