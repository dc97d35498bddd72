/-
  Of the proof: parts ZsWrLaw.
-/
import Derived.Test.YtljlmfnbeofmmaaGreatDoorJ44
import Derived.Test.YtljlmfnbeofmmaaGreatDoorJ45
import Derived.Test.YtljlmfnbeofmmaaGreatDoorJ46
import Derived.Test.YtljlmfnbeofmmaaGreatDoorJ9

namespace Go.Proofs.YtljlmfnbeofmmaaGreatDoor
open Go.RowKit

def plE (x : Pt) : List Value := [.slice x.a x.n x.c]
theorem plE_ok : EncOk plE 1 := ⟨fun _ => rfl, fun x u hu => by simp [plE] at hu; subst hu; rfl, by decide⟩
theorem Tryz.infoBs : (Tryz.prog.info? 26).map (fun i => (i.zero, i.size, i.bytes)) = some (some (.slice none 0 0), 1, 24) := by kernel_rfl

theorem cellsAt_pl (w : World) (x : Pt) : CellsAt (w.alloc (.cells #[.slice x.a x.n x.c] 26)) ⟨w.heap.size, 0, none⟩ ([x].flatMap plE) := by
 intro j u hj
 match j, hj with
 | 0, hj => simp [plE] at hj; subst hj; simp [addAt]
 | j + 1, hj => simp [plE] at hj

theorem rows_off {α : Type} {N t k : Nat} {enc : α → List Value} {w : World} {z v : Value} {xs : List α} {bs : List Nat} (h : RowC N t k enc w z xs) (hr : Row w v bs) (ht : t ≠ 5) {q : Nat} (hz : z.ownBlock = some q) : v.ownBlock ≠ some q := by
 intro e
 rcases h.2 with ⟨rfl, _⟩ | ⟨g, cap, cur, rfl, _, hg, _⟩
 ·cases hz
 ·rcases hr.2 with ⟨rfl, _⟩ | ⟨g', cap', cur', rfl, _, hg', _⟩
  ·cases e
  ·simp only [Value.ownBlock, Option.some.injEq] at hz e
   subst hz
   subst e
   rw [hg] at hg'
   simp only [Option.some.injEq, Obj.cells.injEq] at hg'
   exact ht hg'.2.1

structure PkI (N : Nat) (w : World) (E : Nat → En) (z : Value) (xs : List Pt) : Prop where
 row : RowC N 26 1 plE w z xs
 its : ∀ (j : Nat) (x : Pt), xs[j]? = some x → PDef (sb (E j).d) x.bs ∧ Row w (.slice x.a x.n x.c) x.bs ∧ (∀ k, (Value.slice x.a x.n x.c).ownBlock = some k → N ≤ k) ∧ x.n = x.bs.length

theorem PkI.kept {N : Nat} {F : Nat → Prop} {w w' : World} {E : Nat → En} {z : Value} {xs : List Pt} (h : PkI N w E z xs) (hk : Kept F w w') (hF : ∀ k, N ≤ k → ¬ F k) : PkI N w' E z xs :=
 ⟨h.row.kept hk (fun j e => hF j (h.row.ge e)), fun j x hx => ⟨(h.its j x hx).1, (h.its j x hx).2.1.kept hk (fun k e => hF k ((h.its j x hx).2.2.1 k e)), (h.its j x hx).2.2⟩⟩

theorem PkI.pks {N : Nat} {w : World} {E : Nat → En} {a : Option Addr} {n c : Nat} {xs : List Pt} (h : PkI N w E (.slice a n c) xs) (hn : n = xs.length) : Pks w a n (fun j => (xs.getD j default).bs) := by
 subst hn
 intro j hj
 obtain ⟨g, cap, hv, _, hc⟩ := h.row.at8 plE_ok j hj
 simp only [Value.slice.injEq] at hv
 have e : xs.getD j default = xs[j] := by rw [List.getD_eq_getElem?_getD, List.getElem?_eq_getElem hj]; rfl
 obtain ⟨_, h2, _, h3⟩ := h.its j xs[j] (List.getElem?_eq_getElem hj)
 have h5 := hc 0 (by decide)
 simp only [Nat.mul_one, Nat.add_zero, plE, List.getElem?_cons_zero] at h5
 show ∃ b o, a = some ⟨b, o, none⟩ ∧ ∃ av cv, ∃ J : Nat → Prop, w.cell? ⟨b, o + j, none⟩ = some (.slice av (xs.getD j default).bs.length cv) ∧ Src w J (.slice av (xs.getD j default).bs.length cv) (xs.getD j default).bs ∧ ∀ n c, Value.slice av (xs.getD j default).bs.length cv = .slice none n c → n = 0 ∧ c = 0
 rw [e, ← h3]
 exact ⟨g, 0, hv.1, xs[j].a, xs[j].c, _, by rw [Nat.zero_add]; exact h5, Src.ofRow h2, nil8 h2⟩

theorem its_same {E : Nat → En} {len : Nat} {L : List It} {B : Nat → List Nat} (h : ItsOf E len L) (hB : ∀ j, j < len → PDef (sb (E j).d) (B j)) : L = itsL E B len := by
 refine List.ext_getElem? (fun j => ?_)
 by_cases hj : j < len
 ·have hl : j < L.length := by rw [h.1]; exact hj
  obtain ⟨bs, hp, e⟩ := h.2 j L[j] (List.getElem?_eq_getElem hl)
  rw [List.getElem?_eq_getElem hl, e, PDef.same hp (hB j hj)]
  unfold itsL
  rw [List.getElem?_map, List.getElem?_range hj]
  rfl
 ·rw [List.getElem?_eq_none (by rw [h.1]; omega), List.getElem?_eq_none (by simp [itsL]; omega)]

set_option maxRecDepth 100000 in
set_option maxHeartbeats 1000000 in
theorem zwrites_any (a : Option Addr) (len cap : Nat) (E : Nat → En) (W : World) (he : Ents W (fun _ => True) a len E) (hc : len ≤ cap) (hr : len ≤ reachBytes) (hz : ∀ j, j < len → (E j).n.size ≤ reachBytes ∧ (E j).d.size ≤ reachBytes) (hT : Tab W) (hx : Mxl W) :
  Calls Tryz.prog 4 #[.slice a len cap] W fun e w' => e = .returned (.bool true) ∧ Same W w' := by
 have HL := zlarge_any W a len cap E he hr hz
 have HS : Hid (Ents W (fun _ => True) a len E) := he
 have HX : Hid (Mxl W) := hx
 have HT : Hid (Tab W) := hT
 have HC : Hid (len ≤ cap) := hc
 clear he hz hx hT hr hc
 go_enter Tryz.func4, Tryz.ntmps4
 go_wp2_with fail
 refine HL.mono ?_
 rintro e w1 ⟨⟨b, rfl, hlg⟩, hk1⟩
 have HK1 : Hid (Same W w1) := hk1
 have HLG : Hid (LgA E len b) := hlg
 clear hk1 HL hlg
 cases b with
 | true =>
  have HA := zawake_any w1 (HX.out.kept HK1.out (fun f => f)) (HT.out.kept HK1.out (fun f => f))
  go_wp2_with fail
  refine HA.mono ?_
  rintro e w2 ⟨rfl, hk2⟩
  have HK2 : Hid (Same W w2) := hid (Same.trans HK1.out hk2)
  clear hk2 HA
  go_wp2_with fail
  go_ret
  exact ⟨rfl, HK2.out⟩
 | false =>
  have hlen : len ≤ 16777216 := (HLG.out rfl).1
  have HZ : Hid (∀ j, j < len → (E j).n.size ≤ 16777216 ∧ (E j).d.size ≤ 16777216) := hid (HLG.out rfl).2
  clear HLG
  by_cases hck : chkE E len = 0
  ·have HCK : Hid (chkE E len = 0) := hck
   have HOK : Hid (∀ j, j < len → nam8 (sb (E j).n) = true ∧ (E j).d.size ≤ 8192) := hid (chkE_ok hck).2
   have hl64 : len ≤ 64 := (chkE_ok hck).1
   have HWr := zwrite_good w1 a len cap E (HS.out.kept HK1.out (fun _ _ f => f)) HC.out (HX.out.kept HK1.out (fun f => f)) (HT.out.kept HK1.out (fun f => f)) hck
   clear hck
   go_wp2_with fail
   refine HWr.mono ?_
   rintro e w2 ⟨v2, L, rfl, hf2, hi2⟩
   have HI2 : Hid (ItsOf E len L) := hi2
   have hsm := its_small hi2 HCK.out
   obtain ⟨a2, c2, hv2, hcap2, hcl2⟩ := hf2.row.shape8
   have h22 : 22 ≤ (filB L).length := by rw [filB_length]; omega
   obtain ⟨g2, ha2, _⟩ := hcl2 (fun e => by rw [e] at h22; simp at h22)
   subst ha2
   obtain ⟨n, hn⟩ : ∃ n, n = (filB L).length := ⟨_, rfl⟩
   rw [← hn] at hv2 hcap2 hsm
   subst hv2
   have HR2 : Hid (Row w2 (.slice (some ⟨g2, 0, none⟩) n c2) (filB L)) := hid hf2.row
   have HN : Hid (n = (filB L).length) := hn
   have HK2 : Hid (Same W w2) := hid (Same.trans HK1.out hf2.kept)
   have HG2 : Hid (W.heap.size ≤ g2 ∧ g2 < w2.heap.size) := hid ⟨Nat.le_trans HK1.out.size (hf2.new g2 rfl), (World.ownsRow.lt hf2.row g2 rfl).2⟩
   have HCH := rcheck8_any w2 a len cap E (HS.out.kept HK2.out (fun _ _ f => f)) (by omega) HZ.out
   rw [HCK.out] at HCH
   clear hf2 hi2 hn HWr hcl2 h22
   go_wp2_with fail
   refine HCH.mono ?_
   rintro e w3 ⟨rfl, hk3⟩
   have HK3 : Hid (Same w2 w3) := hk3
   clear hk3 HCH
   go_wp2_with fail
   go_loopg [6, 7] len (fun qq z6 z7 wr => ∃ (i : Nat) (xs : List Pt), z7 = .int .i64 (i : Nat) ∧ i ≤ len ∧ len - i ≤ qq ∧ Hid (xs.length = i) ∧ Hid (PkI w2.heap.size wr E z6 xs) ∧ Hid (Same w2 wr))
   case atStart => exact ⟨0, [], rfl, by omega, by omega, hid rfl, hid ⟨RowC.nil, fun j x h => (by simp at h)⟩, HK3⟩
   case round =>
    obtain ⟨i, xs, rfl, hi1, hiq, HXL, HPK, HSW⟩ := hrel
    obtain ⟨v0, hv0⟩ : ∃ v, v = u6 := ⟨_, rfl⟩
    rw [← hv0] at HPK
    rw [← hv0]
    clear hv0
    obtain ⟨a0, c0, hv0, _⟩ := HPK.out.row.shape
    rw [HXL.out] at hv0
    subst hv0
    by_cases hi : i < len
    ·have hli : decide (i < len) = true := by simp; omega
     obtain ⟨b, o, ha, _, k0, k1⟩ := HS.out i hi
     subst ha
     obtain ⟨y, hy⟩ : ∃ y, y = E i := ⟨_, rfl⟩
     have hyo := HOK.out i hi
     rw [← hy] at k0 k1 hyo
     have HY : Hid (y = E i) := hy
     have k1 := HSW.out.cell (HK2.out.cell k1 (fun f => f)) (fun f => f)
     obtain ⟨sz, hsz⟩ : ∃ n, n = y.d.size := ⟨_, rfl⟩
     obtain ⟨G, W1, hcv0, hkb, hsb, hzb⟩ := bytes8 wr y.d
     rw [← hsz] at hcv0 hsb
     have HKB : Hid (Same wr W1) := hkb
     have HDF := deflate_any W1 _ _ (sb y.d) hsb (sb_lt _) (fun n c e => by cases e) (by rw [sb_size]; omega) (HT.out.kept (Same.trans HK2.out (Same.trans HSW.out hkb)) (fun f => f))
     have hiw : IntKind.i64.wrap ((i : Int) + 1) = ((i + 1 : Nat) : Int) := by rw [IntKind.wrap_i64]; omega
     have i1 : (0 : Int) ≤ (i : Int) := by omega
     have i2 : (i : Int) < (len : Int) := by omega
     clear hy hkb hsb hzb hsz k0 hyo
     go_wp2_with fail
     refine HDF.mono ?_
     rintro e w5 ⟨v5, bs, rfl, hnb, hpd⟩
     obtain ⟨a5, c5, hv5, _⟩ := hnb.row.shape
     obtain ⟨l5, hl5⟩ : ∃ n, n = bs.length := ⟨_, rfl⟩
     rw [← hl5] at hv5
     subst hv5
     have HK5 : Hid (Same wr w5) := hid (Same.trans HKB.out hnb.same)
     have HSZ : Hid (w2.heap.size ≤ W1.heap.size) := hid (Nat.le_trans HSW.out.size HKB.out.size)
     have HX5 : Hid (PDef (sb (E i).d) bs ∧ Row w5 (.slice a5 l5 c5) bs ∧ (∀ k, (Value.slice a5 l5 c5).ownBlock = some k → w2.heap.size ≤ k) ∧ l5 = bs.length) := hid ⟨by rw [← HY.out]; exact hpd, hnb.row, fun k e => Nat.le_trans HSZ.out (hnb.new k e), hl5⟩
     have HR5 : Hid (PkI w2.heap.size w5 E (.slice a0 i c0) xs) := hid (HPK.out.kept HK5.out (fun _ _ f => f))
     clear hnb hpd HDF hl5
     go_wp2_with (at_builtin; refine wpList_append_c _ plE 1 plE_ok (by decide) w2.heap.size 31 26 (.slice none 0 0) 24 Tryz.underlying31 Tryz.infoBs rfl (by decide) rfl (.tmp 60) (.tmp 62) rfl (.slice a0 i c0) xs rfl (HR5.out.row.kept (show Same _ _ from (Kept.refl _ _).alloc _) (fun _ _ f => f)) ⟨w5.heap.size, 0, none⟩ 1 1 [⟨a5, l5, c5, bs⟩] rfl rfl (cellsAt_pl w5 ⟨a5, l5, c5, bs⟩) (by have := HXL.out; simp; omega) (by have := HSW.out.size; have := HK5.out.size; simp; omega) ?_; intro v8 w8 hr8 hg8)
     obtain ⟨wB, hwB⟩ : ∃ W, W = w5.alloc (.cells #[.slice a5 l5 c5] 26) := ⟨_, rfl⟩
     have hg8' : wB.grownBy w8 (Value.slice a0 i c0).ownBlock := by rw [hwB]; exact hg8
     have hkB : Same w5 wB := by rw [hwB]; exact (Kept.refl _ w5).alloc _
     have hk8 : Kept (fun k => (Value.slice a0 i c0).ownBlock = some k) wB w8 := (Kept.refl _ wB).grown hg8' (fun k e => .inl e)
     have HN : Hid (PkI w2.heap.size w8 E v8 (xs ++ [⟨a5, l5, c5, bs⟩])) := hid (by
      refine ⟨hr8, fun j x hx => ?_⟩
      have hoff : ∀ q v bs', Row wB v bs' → (Value.slice a0 i c0).ownBlock = some q → v.ownBlock ≠ some q := fun q v bs' h1 h2 => rows_off (HR5.out.row.kept hkB (fun _ _ f => f)) h1 (by decide) h2
      by_cases hj : j < i
      ·rw [List.getElem?_append_left (by rw [HXL.out]; exact hj)] at hx
       obtain ⟨h1, h2, h3⟩ := HR5.out.its j x hx
       have h4 := h2.kept hkB (fun _ _ f => f)
       exact ⟨h1, h4.kept hk8 (fun k e f => hoff k _ _ h4 f e), h3⟩
      ·have hlt := (List.getElem?_eq_some_iff.1 hx).1
       rw [List.length_append, HXL.out] at hlt
       simp only [List.length_cons, List.length_nil] at hlt
       obtain rfl : j = i := by omega
       rw [List.getElem?_append_right (by rw [HXL.out]; exact Nat.le_refl _), HXL.out, Nat.sub_self] at hx
       simp only [List.getElem?_cons_zero, Option.some.injEq] at hx
       subst hx
       have h4 := HX5.out.2.1.kept hkB (fun _ _ f => f)
       exact ⟨HX5.out.1, h4.kept hk8 (fun k e f => hoff k _ _ h4 f e), HX5.out.2.2⟩)
     have HS8 : Hid (Same w2 w8) := hid ((Same.trans HSW.out (Same.trans HK5.out hkB)).then hk8 (fun k hk e => by have := HR5.out.row.ge e; omega))
     have HXL2 : Hid ((xs ++ [(⟨a5, l5, c5, bs⟩ : Pt)]).length = i + 1) := hid (by rw [List.length_append, HXL.out]; rfl)
     clear hr8 hg8 hwB hg8' hkB hk8
     go_wp2_with fail
     go_roundg (gk - 1)
     case measure => omega
     case rel => exact ⟨i + 1, _, by go_num, by omega, by omega, HXL2, HN, HS8⟩
    ·have hli : decide (i < len) = false := by simp; omega
     obtain rfl : i = len := by omega
     have HBJ : Hid (∀ j, j < i → PDef (sb (E j).d) (xs.getD j default).bs) := hid (fun j hj => by
      have hjx : j < xs.length := by rw [HXL.out]; exact hj
      have e : xs.getD j default = xs[j] := by rw [List.getD_eq_getElem?_getD, List.getElem?_eq_getElem hjx]; rfl
      rw [e]
      exact (HPK.out.its j xs[j] (List.getElem?_eq_getElem hjx)).1)
     have HSA : Hid (filB L = filB (itsL E (fun j => (xs.getD j default).bs) i)) := hid (by rw [its_same HI2.out HBJ.out])
     obtain ⟨T, hTT⟩ : ∃ T, T = filB (itsL E (fun j => (xs.getD j default).bs) i) := ⟨_, rfl⟩
     have HFI := rfile_any wr a i cap E a0 c0 (fun j => (xs.getD j default).bs) (HS.out.kept (Same.trans HK2.out HSW.out) (fun _ _ f => f)) (HPK.out.pks HXL.out.symm) hl64 HOK.out
     rw [← hTT] at HFI HSA
     have HTT : Hid (T = filB (itsL E (fun j => (xs.getD j default).bs) i) ∧ T.length = n) := hid ⟨hTT, by rw [← HSA.out]; exact HN.out.symm⟩
     clear hTT
     go_wp2_with fail
     refine HFI.mono ?_
     rintro e w5 ⟨v5, rfl, hf5⟩
     have HK5 : Hid (Same w2 w5) := hid (Same.trans HSW.out hf5.kept)
     have HKR5 : Hid (Same wr w5) := hid hf5.kept
     have HSS := lsame_any (.slice (some ⟨g2, 0, none⟩) n c2) v5 _ _ (filB L) T w5 (Src.ofRow (HR2.out.kept HK5.out (fun _ _ f => f))) (Src.ofRow hf5.row) (by rw [← HN.out]; omega) (by rw [HTT.out.2]; omega)
     rw [HSA.out, decide_eq_true rfl] at HSS
     clear HFI hf5
     go_wp2_with fail
     refine HSS.mono ?_
     rintro e w6 ⟨rfl, q6, hq6⟩
     have HK6 : Hid (Same w2 w6) := hid (Same.trans HK5.out (by rw [hq6]; exact (Kept.refl _ w5).drewN q6))
     have HPK6 : Hid (PkI w2.heap.size w6 E (.slice a0 i c0) xs) := hid (HPK.out.kept (show Same wr w6 from Same.trans HKR5.out (by rw [hq6]; exact (Kept.refl _ w5).drewN q6)) (fun _ _ f => f))
     clear HSS hq6 HPK
     go_wp2_with fail
     go_loopg [11] n (fun k x wx => ∃ (t : Nat) (es : List Nat), t ≤ n ∧ n - t ≤ k ∧ x = .int .i64 (t : Nat) ∧ Hid (Row wx (.slice (some ⟨g2, 0, none⟩) n c2) es ∧ es.length = n) ∧ Hid (Kept (· = g2) w6 wx))
     case atStart => exact ⟨0, filB L, by omega, by omega, rfl, hid ⟨HR2.out.kept HK6.out (fun _ _ f => f), HN.out.symm⟩, hid (Kept.refl _ _)⟩
     case round =>
      obtain ⟨t, es, ht, htk, rfl, HRW, HKG⟩ := hrel
      by_cases hlt : t < n
      ·have hlb : decide (t < n) = true := by simp; omega
       have ht1 : (0 : Int) ≤ (t : Int) := by omega
       have ht2 : (t : Int) < (n : Int) := by omega
       have c1 := Row.cell' HRW.out.1 t (by rw [HRW.out.2]; exact hlt)
       have f1 := Row.frozen' HRW.out.1 t
       have htw : IntKind.i64.wrap ((t : Int) + 1) = ((t + 1 : Nat) : Int) := by rw [IntKind.wrap_i64]; omega
       have HNX : Hid (Row (wr.setCell ⟨g2, t, none⟩ (.int .u8 7)) (.slice (some ⟨g2, 0, none⟩) n c2) (es.set t 7) ∧ (es.set t 7).length = n) := hid ⟨Row.lay HRW.out.1 t 7, by rw [List.length_set]; exact HRW.out.2⟩
       have HKX : Hid (Kept (· = g2) w6 (wr.setCell ⟨g2, t, none⟩ (.int .u8 7))) := hid (HKG.out.setCell _ _ (.inl rfl))
       go_wp2_with fail
       go_roundg (gk - 1)
       case measure => omega
       case rel => exact ⟨t + 1, es.set t 7, by omega, by omega, by go_num, HNX, HKX⟩
      ·have hlb : decide (t < n) = false := by simp; omega
       have HKW : Hid (Same W wr) := hid ((Same.trans HK2.out HK6.out).then HKG.out (fun k hk e => by have := HG2.out.1; omega))
       have HPW : Hid (PkI w2.heap.size wr E (.slice a0 i c0) xs) := hid (HPK6.out.kept HKG.out (fun k hk e => by have := HG2.out.2; omega))
       have HWr := zwrite_good wr a i cap E (HS.out.kept HKW.out (fun _ _ f => f)) HC.out (HX.out.kept HKW.out (fun f => f)) (HT.out.kept HKW.out (fun f => f)) HCK.out
       clear hlt
       go_wp2_with fail
       refine HWr.mono ?_
       rintro e w7 ⟨v7, L7, rfl, hf7, hi7⟩
       have HS7 : Hid (filB L7 = T) := hid (by rw [its_same hi7 HBJ.out, HTT.out.1])
       have HF7 : Hid (Fresh wr w7 v7 T) := hid (by rw [← HS7.out]; exact hf7)
       obtain ⟨a7, c7, hv7, _⟩ := HF7.out.row.shape
       rw [HTT.out.2] at hv7
       subst hv7
       have HK7 : Hid (Same W w7) := hid (Same.trans HKW.out hf7.kept)
       have HA := zawake_any w7 (HX.out.kept HK7.out (fun f => f)) (HT.out.kept HK7.out (fun f => f))
       clear hf7 hi7 HWr
       go_wp2_with fail
       refine HA.mono ?_
       rintro e w8 ⟨rfl, hk8⟩
       have HK8 : Hid (Same W w8) := hid (Same.trans HK7.out hk8)
       have HK78 : Hid (Same w7 w8) := hk8
       have HFI := rfile_any w8 a i cap E a0 c0 (fun j => (xs.getD j default).bs) (HS.out.kept HK8.out (fun _ _ f => f)) ((HPW.out.kept (Same.trans HF7.out.kept hk8) (fun _ _ f => f)).pks HXL.out.symm) hl64 HOK.out
       rw [← HTT.out.1] at HFI
       clear hk8 HA
       go_wp2_with fail
       refine HFI.mono ?_
       rintro e w9 ⟨v9, rfl, hf9⟩
       have HK9 : Hid (Same W w9) := hid (Same.trans HK8.out hf9.kept)
       have HSS := lsame_any (.slice a7 n c7) v9 _ _ T T w9 (Src.ofRow (HF7.out.row.kept (Same.trans HK78.out hf9.kept) (fun _ _ f => f))) (Src.ofRow hf9.row) (by rw [HTT.out.2]; omega) (by rw [HTT.out.2]; omega)
       rw [decide_eq_true rfl] at HSS
       clear hf9 HFI
       go_wp2_with fail
       refine HSS.mono ?_
       rintro e w10 ⟨rfl, q10, hq10⟩
       have HK10 : Hid (Same W w10) := hid (Same.trans HK9.out (by rw [hq10]; exact (Kept.refl _ w9).drewN q10))
       clear HSS hq10
       go_wp2_with fail
       go_ret
       exact ⟨rfl, HK10.out⟩
  ·have HWr := zwrite_bad w1 a len cap E (HS.out.kept HK1.out (fun _ _ f => f)) (by omega) HC.out (HX.out.kept HK1.out (fun f => f)) hck
   obtain ⟨x, hx⟩ : ∃ x, x = chkE E len := ⟨_, rfl⟩
   have HXE : Hid (chkE E len = x) := hid hx.symm
   rw [← hx] at HWr hck
   have hxn : ((x : Int) != 0) = true := by simp; omega
   have hxx : ((x : Int) != (x : Int)) = false := by simp
   have hxy : ((x : Int) == (x : Int)) = true := by simp
   clear hx hck
   go_wp2_with fail
   refine HWr.mono ?_
   rintro e w2 ⟨rfl, hk2⟩
   have HK2 : Hid (Same W w2) := hid (Same.trans HK1.out hk2)
   have HCH := rcheck8_any w2 a len cap E (HS.out.kept HK2.out (fun _ _ f => f)) (by omega) HZ.out
   rw [HXE.out] at HCH
   clear hk2 HWr
   go_wp2_with fail
   refine HCH.mono ?_
   rintro e w3 ⟨rfl, hk3⟩
   have HK3 : Hid (Same W w3) := hid (Same.trans HK2.out hk3)
   have HA := zawake_any w3 (HX.out.kept HK3.out (fun f => f)) (HT.out.kept HK3.out (fun f => f))
   clear hk3 HCH
   go_wp2_with fail
   refine HA.mono ?_
   rintro e w4 ⟨rfl, hk4⟩
   have HK4 : Hid (Same W w4) := hid (Same.trans HK3.out hk4)
   clear hk4 HA
   go_wp2_with fail
   go_ret
   exact ⟨rfl, HK4.out⟩

theorem zipWrites_all (a : Option Addr) (len cap : Nat) (E : Nat → En) (W : World) (he : Ents W (fun _ => True) a len E) (hc : len ≤ cap) (hr : len ≤ reachBytes) (hz : ∀ j, j < len → (E j).n.size ≤ reachBytes ∧ (E j).d.size ≤ reachBytes) (hT : Tab W) (hx : Mxl W) :
  Calls Tryz.prog 4 #[.slice a len cap] W fun e w' => e = .returned (.bool true) ∧ Below W.heap.size W w' :=
 (zwrites_any a len cap E W he hc hr hz hT hx).mono (fun _ _ h => ⟨h.1, h.2.bel⟩)

end Go.Proofs.YtljlmfnbeofmmaaGreatDoor
