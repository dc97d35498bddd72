/-
  The law's begins and awake.
-/
import Derived.Test.YtgbfhpilhnbnjaaDoorHmL
import Derived.Lib.SlBytesConst
namespace Go.Proofs.YtgbfhpilhnbnjaaDoor
open Go.RowKit

set_option maxRecDepth 100000 in
set_option maxHeartbeats 400000 in
theorem begins_true (w : World) (d : List Nat) (a b c e : Nat) (hl : d.length = 32) (h : d.take 4 = [a, b, c, e]) :
    Calls Tryd.prog 20 #[.agg (d.map byteV).toArray, .int .u8 (a : Nat), .int .u8 (b : Nat), .int .u8 (c : Nat), .int .u8 (e : Nat)] w fun r w' => r = .returned (.bool true) ∧ Same w w' := by
  have hg : ∀ i, i < 4 → d.getD i 0 = [a, b, c, e].getD i 0 := by
    intro i hi
    rw [← h, List.getD_eq_getElem?_getD, List.getD_eq_getElem?_getD, List.getElem?_take_of_lt hi]
  have HG := hid hg
  have HL := hid hl
  clear h hg hl
  go_enter Tryd.func20, Tryd.ntmps20
  go_wp2_with (first
    | (with_reducible refine at_box 24 ?_; refine wpl_box 24 (d.map byteV).toArray rfl ?_; intro w1 g1 hB1 hk1 hg1 hl1; have HK1 := hid hk1; have c0 := hB1.bcell 0 (by rw [HL.out]; omega); have c1 := hB1.bcell 1 (by rw [HL.out]; omega); have c2 := hB1.bcell 2 (by rw [HL.out]; omega); have c3 := hB1.bcell 3 (by rw [HL.out]; omega); rw [HG.out 0 (by omega)] at c0; rw [HG.out 1 (by omega)] at c1; rw [HG.out 2 (by omega)] at c2; rw [HG.out 3 (by omega)] at c3; simp only [List.getD_cons_zero, List.getD_cons_succ] at c0 c1 c2 c3; clear hB1 hk1))
  go_ret
  exact ⟨rfl, HK1.out⟩

theorem wanted15 {P : Program} {ops : Array Oper} {Q : Exit → Act → World → Prop} {a : Act} {w : World} {rest : List Oper} {o : Oper}
    (hw : Region.wanted o (yielded ops a.tmps) = true) (h : wpList P ops Q ({ o with guard := none } :: rest) a w) : wpList P ops Q (o :: rest) a w := by
  have hw' : Region.wanted { o with guard := none } (yielded ops a.tmps) = true := by simp [Region.wanted]
  unfold wpList at h ⊢
  rw [if_pos hw'] at h
  rw [if_pos hw]
  exact h

theorem at_boxD {P : Program} (ty : TypeId) (d : Tmp) {ops : Array Oper} {rest : List Oper} {x : Operand} {tp : TypeId} {pos : String} {af : Array Edge} {a : Act} {w : World} {Q : Exit → Act → World → Prop}
    (h : wpList P ops Q ({ dst := some d, op := .box ty x, type := tp, pos := pos, after := af, guard := none } :: rest) a w) : wpList P ops Q ({ dst := some d, op := .box ty x, type := tp, pos := pos, after := af, guard := none } :: rest) a w := h

theorem at_loadG {P : Program} (ty : TypeId) (d : Tmp) {gd : Nat × Bool} {ops : Array Oper} {rest : List Oper} {x : Operand} {tp : TypeId} {pos : String} {af : Array Edge} {a : Act} {w : World} {Q : Exit → Act → World → Prop}
    (h : wpList P ops Q ({ dst := some d, op := .load ty x, type := tp, pos := pos, after := af, guard := some gd } :: rest) a w) : wpList P ops Q ({ dst := some d, op := .load ty x, type := tp, pos := pos, after := af, guard := some gd } :: rest) a w := h

theorem cell_mark15 (w : World) (C : Array Value) (t : TypeId) (fr : Nat × Nat) (j : Nat) : (w.alloc (.cells C t fr)).cell? ⟨w.heap.size, j, none⟩ = C[j]? := by
  have : (w.alloc (.cells C t fr)).heap[w.heap.size]? = some (.cells C t fr) := by
    show (w.heap.push _)[w.heap.size]? = _
    simp
  simp only [World.cell?, this]
  simp

/-- A constant text's bytes. -/
theorem src_mark15 (w : World) (cs : List Nat) (n : Nat) (fr : Nat × Nat) (hn : cs.length = n) : Src (w.alloc (.cells (cs.map byteV).toArray 5 fr)) (fun k => k = w.heap.size) (.slice (some ⟨w.heap.size, 0, none⟩) n n) cs := by
  subst hn
  refine ⟨_, _, rfl, fun _ => ⟨_, _, rfl, rfl, fun j hj => ?_⟩⟩
  rw [Nat.zero_add, cell_mark15]
  simp [byteV, hj]

theorem slice_same_cap (a : Option Addr) (m : Nat) : ∀ a' n c, Value.slice a m m = .slice a' n c → n ≤ c := by
  intro a' n c e
  injection e with _ e1 e2
  omega

theorem src_none15 (w : World) : Src w (fun _ => False) (.slice none 0 0) [] := ⟨_, _, rfl, fun h => absurd rfl h⟩

set_option maxRecDepth 100000 in
set_option maxHeartbeats 400000 in
theorem awake15 (w : World) (hT : Tab15 w) : Calls Tryd.prog 11 #[] w fun r w' => r = .returned (.bool true) ∧ Same w w' := by
  have HT := hid hT
  clear hT
  have kc := fun (w : World) (C : Array Value) (n c : Nat) => Lib.run_convert_bytes_const (P := Tryd.prog) w 22 5 C n c Tryd.underlying22 Tryd.underlying5
  go_enter Tryd.func11, Tryd.ntmps11
  go_wp2_with fail
  refine (hnew_any w).mono ?_
  rintro e w1 ⟨p, rfl, hH1, hk1, hp1⟩
  have HK1 := hid hk1
  have HT1 := hid (HT.out.kept hk1 (fun f => f))
  have HPN : Hid (p ≠ 0) := hid (by have := HT.out.lt; omega)
  obtain ⟨wa, hwa⟩ : ∃ W, W = w1.alloc (.cells #[.int .u8 97] 5 (1, 2)) := ⟨_, rfl⟩
  have hka : Same w1 wa := by rw [hwa]; exact (Kept.refl _ w1).alloc _
  have hplt := hH1.lt
  have HSa : Hid (Src wa (· = w1.heap.size) (.slice (some ⟨w1.heap.size, 0, none⟩) 1 1) [97]) := hid (by rw [hwa]; exact src_mark15 w1 [97] 1 (1, 2) rfl)
  have HW1 := hwrite_any wa p [] _ _ [97] (hH1.kept hka (fun f => f)) HSa.out (fun k hk e => by omega) (fun a n c e => by injection e; omega) (by decide) (HT1.out.kept hka (fun f => f)) HPN.out (by simp)
  have HKa := hid hka
  clear hH1 hk1 hka HSa
  go_wp2_with fail
  rw [← hwa]
  clear hwa
  refine HW1.mono ?_
  rintro e w2 ⟨⟨u, rfl⟩, hH2, hk2⟩
  have H2 := hid hH2
  have HK2 := hid hk2
  have HT2 := hid ((HT1.out.kept HKa.out (fun f => f)).kept hk2 (fun e => HPN.out e.symm))
  have HU1 := hsum_any w2 p _ hH2 HT2.out (by simp)
  clear hH2 hk2 HW1
  go_wp2_with fail
  refine HU1.mono ?_
  rintro e w3 ⟨rfl, hk3⟩
  have HK3 := hid hk3
  clear hk3 HU1
  have hsz3 := HK3.out.size
  have hszp := H2.out.lt
  go_wp2_with (first
    | (with_reducible refine at_alloc 24 2 ?_; refine wpl_alloc 24 _ Tryd.zero32 ?_; intro w4 g4 hB4 hk4 hg4 hl4; have HB4 := hid hB4; have HK4 := hid hk4; clear hB4 hk4)
    | (with_reducible refine at_store 24 2 ?_; refine wpl_store 24 32 Tryd.size32 rfl (cells := (shaF ([] ++ [97])).map byteV) rfl HB4.out (by simp) (by simp [shaF_length]) (byteV_one _) ?_; intro w5 hB5 hk5 hs5; have HB5 := hid hB5; have HK5 : Hid (Same w2 w5) := hid ((HK3.out.trans HK4.out).then hk5 (fun x hx e => by omega)); clear hB5 hk5 hs5 HB4 HK4))
  rw [List.nil_append] at HB5
  have H5 := hid (H2.out.kept HK5.out (fun f => f))
  have HT5 := hid (HT2.out.kept HK5.out (fun f => f))
  obtain ⟨wb, hwb⟩ : ∃ W, W = w5.alloc (.cells #[.int .u8 98, .int .u8 99] 5 (2, 3)) := ⟨_, rfl⟩
  have hkb : Same w5 wb := by rw [hwb]; exact (Kept.refl _ w5).alloc _
  have hplt5 := H5.out.lt
  have HSb : Hid (Src wb (· = w5.heap.size) (.slice (some ⟨w5.heap.size, 0, none⟩) 2 2) [98, 99]) := hid (by rw [hwb]; exact src_mark15 w5 [98, 99] 2 (2, 3) rfl)
  have HW2 := hwrite_any wb p _ _ _ [98, 99] (H5.out.kept hkb (fun f => f)) HSb.out (fun k hk e => by omega) (slice_same_cap _ _) (by decide) (HT5.out.kept hkb (fun f => f)) HPN.out (by simp)
  have HKb := hid hkb
  clear hkb HSb hl4 hg4 hsz3 hszp
  go_wp2_with fail
  rw [← hwb]
  clear hwb
  refine HW2.mono ?_
  rintro e w6 ⟨⟨u6, rfl⟩, hH6, hk6⟩
  have HK6 := hid hk6
  have HT6 := hid ((HT5.out.kept HKb.out (fun f => f)).kept hk6 (fun e => HPN.out e.symm))
  have HU2 := hsum_any w6 p _ hH6 HT6.out (by simp)
  clear hH6 hk6 HW2
  go_wp2_with fail
  refine HU2.mono ?_
  rintro e w7 ⟨rfl, hk7⟩
  have HK7 := hid hk7
  clear hk7 HU2
  have HK57 : Hid (Kept (· = p) w5 w7) := hid (Kept.trans (Kept.trans HKb.out HK6.out (fun _ _ f => f.elim) (fun _ _ e => e)) HK7.out (fun _ _ e => e) (fun _ _ f => f.elim))
  have hsz7 := HK57.out.size
  have hs25 := HK5.out.size
  obtain ⟨g4p, hg4p⟩ : ∃ h : g4 ≠ p, h = h := ⟨by
    have h1 := HB5.out
    intro e
    subst e
    obtain ⟨⟨bk, hb, _⟩, _⟩ := H5.out
    have h2 := hb.blk
    unfold Blk at h1 h2
    rw [h1] at h2
    injection h2 with h3
    injection h3 with h4 h5
    exact absurd h5 (by decide), rfl⟩
  have HGP := hid g4p
  clear hg4p g4p
  go_wp2_with (first
    | (with_reducible refine at_alloc 24 3 ?_; refine wpl_alloc 24 _ Tryd.zero32 ?_; intro w8 g8 hB8 hk8 hg8 hl8; have HB8 := hid hB8; have HK8 := hid hk8; clear hB8 hk8)
    | (with_reducible refine at_store 24 3 ?_; refine wpl_store 24 32 Tryd.size32 rfl (cells := (shaF ([] ++ [97] ++ [98, 99])).map byteV) rfl HB8.out (by simp) (by simp [shaF_length]) (byteV_one _) ?_; intro w9 hB9 hk9 hs9; have HB9 := hid hB9; have HK9 : Hid (Same w7 w9) := hid (HK8.out.then hk9 (fun x hx e => by omega)); clear hB9 hk9 hs9 HB8 HK8))
  have HT9 := hid ((HT6.out.kept HK7.out (fun f => f)).kept HK9.out (fun f => f))
  refine (psum_any w9 (.slice none 0 0) (fun _ => False) [] (src_none15 w9) (fun k f => f.elim) (slice_same_cap _ _) (by simp) HT9.out (by simp)).mono ?_
  rintro e w10 ⟨rfl, hk10⟩
  have HK10 := hid hk10
  clear hk10
  go_wp2_with fail
  refine (begins_true w10 (shaF []) 227 176 196 66 (shaF_length _) sha_nil).mono ?_
  rintro e w11 ⟨rfl, hk11⟩
  have HK11 := hid (HK10.out.trans hk11)
  clear hk11 HK10
  have HB4b : Hid (Blk w11 g4 ((shaF [97]).map byteV).toArray 24) := hid (((HB5.out.kept HK57.out HGP.out).kept HK9.out (fun f => f)).kept HK11.out (fun f => f))
  have HB8b : Hid (Blk w11 g8 ((shaF [97, 98, 99]).map byteV).toArray 24) := hid (HB9.out.kept HK11.out (fun f => f))
  have HT11 := hid (HT9.out.kept HK11.out (fun f => f))
  go_wp2_with (first
    | (with_reducible refine at_loadG 24 22 ?_; refine wanted15 rfl ?_; refine wpl_load 24 32 _ Tryd.underlying24 rfl Tryd.size32 rfl HB4b.out ((shaF [97]).map byteV) (by simp [shaF_length]) (take_all15 (by simp [shaF_length])) ?_))
  refine (begins_true w11 (shaF [97]) 202 151 129 18 (shaF_length _) sha_a).mono ?_
  rintro e w12 ⟨rfl, hk12⟩
  have HK12 := hid hk12
  clear hk12
  go_wp2_with (first
    | (with_reducible refine at_loadG 24 26 ?_; refine wanted15 rfl ?_; refine wpl_load 24 32 _ Tryd.underlying24 rfl Tryd.size32 rfl (HB8b.out.kept HK12.out (fun f => f)) ((shaF [97, 98, 99]).map byteV) (by simp [shaF_length]) (take_all15 (by simp [shaF_length])) ?_))
  refine (begins_true w12 (shaF [97, 98, 99]) 186 120 22 191 (shaF_length _) sha_abc).mono ?_
  rintro e w13 ⟨rfl, hk13⟩
  have HK13 := hid (HK12.out.trans hk13)
  clear hk13
  go_wp2_with fail
  refine (pmac_any w13 (.slice none 0 0) (.slice none 0 0) (fun _ => False) (fun _ => False) [] [] (src_none15 _) (fun k f => f.elim) (slice_same_cap _ _) (by simp) (by simp) (src_none15 _) (fun k f => f.elim) (slice_same_cap _ _) (by simp) (by simp) (HT11.out.kept HK13.out (fun f => f))).mono ?_
  rintro e w14 ⟨rfl, hk14⟩
  have HK14 := hid (HK13.out.trans hk14)
  clear hk14
  go_wp2_with fail
  refine (begins_true w14 (macF [] []) 182 19 103 154 (shaF_length _) mac_nil).mono ?_
  rintro e w15 ⟨rfl, hk15⟩
  have HK15 := hid (HK14.out.trans hk15)
  clear hk15
  go_wp2_with fail
  go_ret
  refine ⟨rfl, ?_⟩
  have h1 := (HK1.out.trans HKa.out).then HK2.out (fun x hx e => by omega)
  have h2 := (h1.trans HK5.out).then HK57.out (fun x hx e => by omega)
  exact ((h2.trans HK9.out).trans HK11.out).trans HK15.out

end Go.Proofs.YtgbfhpilhnbnjaaDoor
