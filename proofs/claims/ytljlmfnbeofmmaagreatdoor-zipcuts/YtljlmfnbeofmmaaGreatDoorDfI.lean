import Derived.Test.YtljlmfnbeofmmaaGreatDoorDfH
namespace Go.Proofs.YtljlmfnbeofmmaaGreatDoor
open Go.RowKit

theorem mk_ints (n : Nat) (hn : n ≤ 1000000) : ∃ M : World → World, (∀ w, (Instr.makeSlice 117 (.int .i64 (n : Int)) (.int .i64 (n : Int))).run Tryz.prog w = .ok (.slice (some ⟨w.heap.size, 0, none⟩) n n) (M w)) ∧ (∀ w, NRow w.heap.size (M w) (.slice (some ⟨w.heap.size, 0, none⟩) n n) (List.replicate n 0) ∧ Same w (M w)) := by
 have h : ∀ w : World, ∃ w', (Instr.makeSlice 117 (.int .i64 (n : Int)) (.int .i64 (n : Int))).run Tryz.prog w = .ok (.slice (some ⟨w.heap.size, 0, none⟩) n n) w' ∧ NRow w.heap.size w' (.slice (some ⟨w.heap.size, 0, none⟩) n n) (List.replicate n 0) ∧ Same w w' := fun w => by
  obtain ⟨i0, hi, hz0, hz1, hz2⟩ := info_parts Tryz.infoN
  obtain ⟨w', h1, h2, h3⟩ := run_make_full (P := Tryz.prog) w w.heap.size 117 3 i0 (natV 0) 1 Tryz.underlying117 hi hz0 hz1 .i64 .i64 n (by rw [hz2]; omega) (by simp only [maxLen]; omega) (Nat.le_refl _)
  refine ⟨w', h1, ?_, (Kept.refl _ w).grown h3 (fun k e => by cases e)⟩
  have hz : (natV 0).cells = #[natV 0] := rfl
  rw [hz, Nat.mul_one, toList_madeCells_one] at h2
  unfold NRow RowE
  simpa using h2
 obtain ⟨M, hM⟩ := Classical.axiomOfChoice h
 exact ⟨M, fun w => (hM w).1, fun w => (hM w).2⟩

theorem Tryz.markSym (w : World) (y : Int) (b c : Value) : (Instr.field 164 (.agg #[.int .i64 y, b, c]) 0).run Tryz.prog w = .ok (.int .i64 y) w := by kernel_rfl

theorem NRow.bumped {B : Nat} {w : World} {g n cap : Nat} {l : List Nat} (h : NRow B w (.slice (some ⟨g, 0, none⟩) n cap) l) (y x : Nat) (hy : y < l.length) (hx : x = key l y) : w.cell? ⟨g, y, none⟩ = some (.int .i64 (x : Nat)) ∧ w.frozen? ⟨g, y, none⟩ = false ∧ NRow B (w.setCell ⟨g, y, none⟩ (.int .i64 ((x : Int) + 1))) (.slice (some ⟨g, 0, none⟩) n cap) (bump l y) := by
 subst hx
 refine ⟨by rw [RowE.cell h y hy, key_get hy]; rfl, RowE.frozen h y, ?_⟩
 have h9 := RowE.lay h y (key l y + 1)
 unfold bump
 exact h9

set_option maxRecDepth 100000 in
set_option maxHeartbeats 400000 in
theorem count_any (w : World) (v : Value) (I : Nat → Prop) (ts : List TK) (n : Nat) (hs : TkSrc w I v ts) (hm : measT 16384 ts 0 = .ok n) (hb : ∀ t ∈ ts, t.lit < 256) :
  Calls Tryz.prog 86 #[v] w fun e w' => ∃ vl vd, e = .returned (.tuple #[vl, vd]) ∧ NRow w.heap.size w' vl (bump (ctsL ts (List.replicate 286 0)) 256) ∧ NRow w.heap.size w' vd (ctsD ts (List.replicate 30 0)) ∧ Same w w' := by
 have htk := fix_toks hm hb
 have HTI : Hid (∀ t ∈ ts, TokIn fixL fixD t) := hid (fun t ht => tokIn hm htk t ht)
 have HSY : Hid (∀ t ∈ ts, (litMk t).sym < 286 ∧ (t.len ≠ 0 → (distMk t).sym < 30)) := hid (fun t ht => by
  obtain ⟨said, h1, h2⟩ := measT_may7 hm (by decide) t ht
  have h3 := syms_of h2 h1 (hb t ht)
  exact ⟨by omega, fun h => by have := (h3.2.2.2.2 h).2.1; omega⟩)
 have htl := measT_count hm
 obtain ⟨ao, cap, rfl, hx1, hx2⟩ := id hs
 have HS : Hid (TkSrc w (fun k => I k ∧ k < w.heap.size) (.slice ao ts.length cap) ts) := hid (SrcC.low tkC_ok hs)
 obtain ⟨MA, hMA, HMA⟩ := mk_ints 286 (by decide)
 obtain ⟨MB, hMB, HMB⟩ := mk_ints 30 (by decide)
 have HA : Hid (∀ w, NRow w.heap.size (MA w) (.slice (some ⟨w.heap.size, 0, none⟩) 286 286) (List.replicate 286 0) ∧ Same w (MA w)) := HMA
 have HB : Hid (∀ w, NRow w.heap.size (MB w) (.slice (some ⟨w.heap.size, 0, none⟩) 30 30) (List.replicate 30 0) ∧ Same w (MB w)) := HMB
 replace hMA : ∀ w, (Instr.makeSlice 117 (.int .i64 286) (.int .i64 286)).run Tryz.prog w = .ok (.slice (some ⟨w.heap.size, 0, none⟩) 286 286) (MA w) := hMA
 replace hMB : ∀ w, (Instr.makeSlice 117 (.int .i64 30) (.int .i64 30)).run Tryz.prog w = .ok (.slice (some ⟨w.heap.size, 0, none⟩) 30 30) (MB w) := hMB
 have hsd : w.drew.heap.size = w.heap.size := rfl
 obtain ⟨g0, hg0⟩ : ∃ g, g = w.heap.size := ⟨_, rfl⟩
 obtain ⟨gA, hgA⟩ : ∃ g, g = (MA w.drew).heap.size := ⟨_, rfl⟩
 obtain ⟨gB, hgB⟩ : ∃ g, g = (MB w.drew).heap.size := ⟨_, rfl⟩
 obtain ⟨W1, hW1⟩ : ∃ W, W = MB (MA w.drew) := ⟨_, rfl⟩
 obtain ⟨W2, hW2⟩ : ∃ W, W = MA (MB w.drew) := ⟨_, rfl⟩
 have hA0 := HMA w.drew
 have hB0 := HMB w.drew
 have hA1 := HMA (MB w.drew)
 have hB1 := HMB (MA w.drew)
 have hlA := hA0.1.lt (k := w.drew.heap.size) rfl
 have hlB := hB0.1.lt (k := w.drew.heap.size) rfl
 rw [← hW2, ← hgB] at hA1
 rw [← hW1, ← hgA] at hB1
 rw [← hgA] at hlA
 rw [← hgB] at hlB
 have HX1 : Hid (NRow w.heap.size W1 (.slice (some ⟨g0, 0, none⟩) 286 286) (List.replicate 286 0) ∧ NRow w.heap.size W1 (.slice (some ⟨gA, 0, none⟩) 30 30) (List.replicate 30 0) ∧ Same w W1 ∧ g0 ≠ gA) := hid ⟨by rw [hg0]; exact hA0.1.same hB1.2, RowE.base hB1.1 (by omega), Same.trans ((Kept.refl _ w).drew) (Same.trans hA0.2 hB1.2), by omega⟩
 have HX2 : Hid (NRow w.heap.size W2 (.slice (some ⟨gB, 0, none⟩) 286 286) (List.replicate 286 0) ∧ NRow w.heap.size W2 (.slice (some ⟨g0, 0, none⟩) 30 30) (List.replicate 30 0) ∧ Same w W2 ∧ gB ≠ g0) := hid ⟨RowE.base hA1.1 (by omega), by rw [hg0]; exact hB0.1.same hA1.2, Same.trans ((Kept.refl _ w).drew) (Same.trans hB0.2 hA1.2), by omega⟩
 clear hs hx1 hx2 hm hb htk HMA HMB hsd hA0 hB0 hA1 hB1 hlA hlB HA HB
 go_enter Tryz.func86, Tryz.ntmps86
 go_wp2_with fail
 go_region
 all_goals first
  | (rw [← hgA, ← hW1, ← hg0]; clear hMA hMB hW2 hW1 hg0 hgA hgB HX2; generalize g0 = gl at HX1 ⊢; generalize gA = gd at HX1 ⊢; generalize W1 = WW at HX1 ⊢; have HX := HX1; clear HX1)
  | (rw [← hgB, ← hW2, ← hg0]; clear hMA hMB hW2 hW1 hg0 hgA hgB HX1; generalize gB = gl at HX2 ⊢; generalize g0 = gd at HX2 ⊢; generalize W2 = WW at HX2 ⊢; have HX := HX2; clear HX2)
 all_goals
  have hne : gl ≠ gd := HX.out.2.2.2
  go_wp2_with fail
  go_loopg [10] ts.length (fun q zi wr => ∃ (i : Nat), ts.length - i ≤ q ∧ i ≤ ts.length ∧ zi = .int .i64 (i : Nat) ∧ Hid (NRow w.heap.size wr (.slice (some ⟨gl, 0, none⟩) 286 286) (ctsL (ts.take i) (List.replicate 286 0)) ∧ NRow w.heap.size wr (.slice (some ⟨gd, 0, none⟩) 30 30) (ctsD (ts.take i) (List.replicate 30 0)) ∧ Same w wr))
  case atStart => exact ⟨0, by omega, by omega, rfl, hid ⟨HX.out.1, HX.out.2.1, HX.out.2.2.1⟩⟩
  case round =>
   clear HX
   obtain ⟨i, hq, hi, rfl, HR⟩ := hrel
   have HGE : Hid (w.heap.size ≤ gl ∧ w.heap.size ≤ gd ∧ gl < wr.heap.size ∧ gd < wr.heap.size) := hid ⟨HR.out.1.ge rfl, HR.out.2.1.ge rfl, HR.out.1.lt rfl, HR.out.2.1.lt rfl⟩
   by_cases hlt : i < ts.length
   ·obtain ⟨b, o, e1, k1, k2, k3⟩ := TkSrc.at (SrcC.kept tkC_ok HS.out HR.out.2.2 (fun _ _ _ f => f)) (Kept.refl _ wr) i hlt
    subst e1
    obtain ⟨t, ht⟩ : ∃ t, t = ts[i] := ⟨_, rfl⟩
    rw [← ht] at k1 k2 k3
    have htI := HTI.out t (by rw [ht]; exact List.getElem_mem _)
    have hsy := HSY.out t (by rw [ht]; exact List.getElem_mem _)
    obtain ⟨LA, hLA⟩ : ∃ l, l = ctsL (ts.take i) (List.replicate 286 0) := ⟨_, rfl⟩
    obtain ⟨LB, hLB⟩ : ∃ l, l = ctsD (ts.take i) (List.replicate 30 0) := ⟨_, rfl⟩
    have hkA := ctsL_key (ts.take i) (List.replicate 286 0) (fun t ht => by rw [List.length_replicate]; exact (HSY.out t (List.mem_of_mem_take ht)).1) (litMk t).sym
    have hkB := ctsD_key (ts.take i) (List.replicate 30 0) (fun t ht h => by rw [List.length_replicate]; exact (HSY.out t (List.mem_of_mem_take ht)).2 h) (distMk t).sym
    have hz : ∀ n j, key (List.replicate n 0) j = 0 := fun n j => by simp only [key, List.getD_eq_getElem?_getD, List.getElem?_replicate]; split <;> rfl
    rw [hz, List.length_take, ← hLA] at hkA
    rw [hz, List.length_take, ← hLB] at hkB
    have HSA : Hid (ctsL (ts.take (i + 1)) (List.replicate 286 0) = bump LA (litMk t).sym) := hid (by rw [ctsL_snoc ts i hlt, ← hLA, ht])
    have HSB : Hid (ctsD (ts.take (i + 1)) (List.replicate 30 0) = if t.len = 0 then LB else bump LB (distMk t).sym) := hid (by rw [ctsD_snoc ts i hlt, ← hLB, ht])
    have hlA : LA.length = 286 := by rw [hLA, ctsL_length, List.length_replicate]
    have hlB : LB.length = 30 := by rw [hLB, ctsD_length, List.length_replicate]
    rw [← hLA, ← hLB] at HR
    obtain ⟨y, hy⟩ : ∃ y, y = (litMk t).sym := ⟨_, rfl⟩
    obtain ⟨x, hx⟩ : ∃ x, x = key LA y := ⟨_, rfl⟩
    have hy286 : y < 286 := by rw [hy]; exact hsy.1
    rw [← hy, ← hx] at hkA
    rw [← hy] at HSA
    obtain ⟨W4, hW4⟩ : ∃ W4, W4 = wr.alloc (.cells #[.int .u8 (t.lit : Nat), .int .i64 t.len, .int .i64 t.dist] 111) := ⟨_, rfl⟩
    have HK4 : Hid (Same wr W4) := hid (by rw [hW4]; exact (Kept.refl _ wr).alloc _)
    have HT4 : Hid (Blk W4 wr.heap.size #[.int .u8 (t.lit : Nat), .int .i64 t.len, .int .i64 t.dist] 111) := hid (by rw [hW4]; exact Blk.new wr _ _)
    have HLM := litMark_any W4 t htI.len htI.byte
    have HIC : Hid (∀ W2, Calls Tryz.prog 121 #[tokV t] W2 fun e w' => e = .returned (.bool (decide (0 < t.len))) ∧ Same W2 w') := hid (fun W2 => isCopy_any W2 t)
    unfold mkV at HLM
    unfold tokV at HLM HIC
    rw [← hy] at HLM
    have HTN : Hid (TokIn fixL fixD t) := htI
    have HHS : Hid (t.len ≠ 0 → (distMk t).sym < 30) := hid hsy.2
    have hx1 : x ≤ 20000 := by omega
    have HKX : Hid (x = key LA y ∧ y < LA.length) := hid ⟨hx, by omega⟩
    have HKB : Hid (key LB (distMk t).sym ≤ 20000) := hid (by omega)
    have yI1 : (0 : Int) ≤ (y : Int) := by omega
    have yI2 : (y : Int) < 286 := by omega
    clear hkA hkB hz hLA hLB hsy htI ht hx hy hlB
    go_wp2_with fail
    rw [← hW4]
    clear hW4 k1 k2 k3
    refine HLM.mono ?_
    rintro e w5 ⟨rfl, hk5⟩
    have HR5 : Hid (NRow w.heap.size w5 (.slice (some ⟨gl, 0, none⟩) 286 286) LA ∧ NRow w.heap.size w5 (.slice (some ⟨gd, 0, none⟩) 30 30) LB ∧ Same w w5) := hid (by
     have h := Same.trans HK4.out hk5
     exact ⟨HR.out.1.same h, HR.out.2.1.same h, Same.trans HR.out.2.2 h⟩)
    have HT5 : Hid (Blk w5 wr.heap.size #[.int .u8 (t.lit : Nat), .int .i64 t.len, .int .i64 t.dist] 111) := hid (HT4.out.kept hk5 (fun f => f))
    obtain ⟨cg, fg, hrg⟩ := NRow.bumped HR5.out.1 y x HKX.out.2 HKX.out.1
    have HRG : Hid (NRow w.heap.size (w5.setCell ⟨gl, y, none⟩ (.int .i64 ((x : Int) + 1))) (.slice (some ⟨gl, 0, none⟩) 286 286) (bump LA y)) := hrg
    have t0 := HT5.out.cell 0
    have t1 := HT5.out.cell 1
    have t2 := HT5.out.cell 2
    simp at t0 t1 t2
    have hfd := fun w (y : Int) b c => Tryz.markSym w y b c
    have hT1 : wr.heap.size ≠ gl := by have := HGE.out; omega
    clear hk5 HLM HR HT4 HK4 hrg
    go_wp2_with fail
    obtain ⟨W6, hW6⟩ : ∃ W, W = w5.setCell ⟨gl, y, none⟩ (.int .i64 ((x : Int) + 1)) := ⟨_, rfl⟩
    have hk6 : Kept (· = gl) w5 W6 := by rw [hW6]; exact (Kept.refl (· = gl) w5).setCell _ _ (.inl rfl)
    have HR6 : Hid (NRow w.heap.size W6 (.slice (some ⟨gl, 0, none⟩) 286 286) (bump LA y) ∧ NRow w.heap.size W6 (.slice (some ⟨gd, 0, none⟩) 30 30) LB ∧ Same w W6) := hid ⟨by rw [hW6]; exact HRG.out, RowE.kept HR5.out.2.1 hk6 (fun k e f => by simp [Value.ownBlock] at e; omega), Same.then HR5.out.2.2 hk6 (fun k hk f => by have := HGE.out; omega)⟩
    have HT6 : Hid (Blk W6 wr.heap.size #[.int .u8 (t.lit : Nat), .int .i64 t.len, .int .i64 t.dist] 111) := hid (HT5.out.kept hk6 hT1)
    rw [← hW6]
    clear hW6 hk6 HRG HR5 HT5 cg fg t0 t1 t2 hfd hT1
    refine (HIC.out _).mono ?_
    rintro e w7 ⟨rfl, hk7⟩
    have HR7 : Hid (NRow w.heap.size w7 (.slice (some ⟨gl, 0, none⟩) 286 286) (bump LA y) ∧ NRow w.heap.size w7 (.slice (some ⟨gd, 0, none⟩) 30 30) LB ∧ Same w w7) := hid ⟨HR6.out.1.same hk7, HR6.out.2.1.same hk7, Same.trans HR6.out.2.2 hk7⟩
    have HT7 : Hid (Blk w7 wr.heap.size #[.int .u8 (t.lit : Nat), .int .i64 t.len, .int .i64 t.dist] 111) := hid (HT6.out.kept hk7 (fun f => f))
    clear hk7 HR6 HT6 HIC
    by_cases h0 : t.len = 0
    ·have hdz : decide (0 < t.len) = false := by simp; omega
     rw [hdz]
     have HR8 : Hid (NRow w.heap.size w7 (.slice (some ⟨gl, 0, none⟩) 286 286) (ctsL (ts.take (i + 1)) (List.replicate 286 0)) ∧ NRow w.heap.size w7 (.slice (some ⟨gd, 0, none⟩) 30 30) (ctsD (ts.take (i + 1)) (List.replicate 30 0)) ∧ Same w w7) := hid (by rw [HSA.out, HSB.out, if_pos h0]; exact HR7.out)
     clear h0 hdz HR7
     go_wp2_with fail
     go_roundg (gk - 1)
     case measure => omega
     case rel => exact ⟨i + 1, by omega, by omega, by go_num, HR8⟩
    ·have hdz : decide (0 < t.len) = true := by have := HTN.out.len; simp; omega
     rw [hdz]
     have hfar := HTN.out.far h0
     have HDM := distMark_any w7 t hfar.1 hfar.2
     obtain ⟨z, hz⟩ : ∃ z, z = (distMk t).sym := ⟨_, rfl⟩
     have hz30 : z < 30 := by rw [hz]; exact HHS.out h0
     obtain ⟨x2, hx2⟩ : ∃ x, x = key LB z := ⟨_, rfl⟩
     have hx20 : x2 ≤ 20000 := by rw [hx2, hz]; exact HKB.out
     have HKZ : Hid (x2 = key LB z ∧ z < LB.length) := hid ⟨hx2, by have := HR7.out.2.1.len; omega⟩
     have HSB2 : Hid (ctsD (ts.take (i + 1)) (List.replicate 30 0) = bump LB z) := hid (by rw [HSB.out, if_neg h0, hz])
     unfold mkV at HDM
     unfold tokV at HDM
     rw [← hz] at HDM
     have zI1 : (0 : Int) ≤ (z : Int) := by omega
     have zI2 : (z : Int) < 30 := by omega
     have hfd := fun w (y : Int) b c => Tryz.markSym w y b c
     have t0 := HT7.out.cell 0
     have t1 := HT7.out.cell 1
     have t2 := HT7.out.cell 2
     simp at t0 t1 t2
     clear hz hx2 h0 hdz hfar
     go_wp2_with fail
     refine HDM.mono ?_
     rintro e w8 ⟨rfl, hk8⟩
     have HR8 : Hid (NRow w.heap.size w8 (.slice (some ⟨gl, 0, none⟩) 286 286) (bump LA y) ∧ NRow w.heap.size w8 (.slice (some ⟨gd, 0, none⟩) 30 30) LB ∧ Same w w8) := hid ⟨HR7.out.1.same hk8, HR7.out.2.1.same hk8, Same.trans HR7.out.2.2 hk8⟩
     obtain ⟨cg, fg, hrg⟩ := NRow.bumped HR8.out.2.1 z x2 HKZ.out.2 HKZ.out.1
     have HR9 : Hid (NRow w.heap.size (w8.setCell ⟨gd, z, none⟩ (.int .i64 ((x2 : Int) + 1))) (.slice (some ⟨gl, 0, none⟩) 286 286) (ctsL (ts.take (i + 1)) (List.replicate 286 0)) ∧ NRow w.heap.size (w8.setCell ⟨gd, z, none⟩ (.int .i64 ((x2 : Int) + 1))) (.slice (some ⟨gd, 0, none⟩) 30 30) (ctsD (ts.take (i + 1)) (List.replicate 30 0)) ∧ Same w (w8.setCell ⟨gd, z, none⟩ (.int .i64 ((x2 : Int) + 1)))) := hid (by
      have hk9 : Kept (· = gd) w8 (w8.setCell ⟨gd, z, none⟩ (.int .i64 ((x2 : Int) + 1))) := (Kept.refl (· = gd) w8).setCell _ _ (.inl rfl)
      rw [HSA.out, HSB2.out]
      exact ⟨RowE.kept HR8.out.1 hk9 (fun k e f => by simp [Value.ownBlock] at e; omega), hrg, Same.then HR8.out.2.2 hk9 (fun k hk f => by have := HGE.out; omega)⟩)
     clear hk8 HDM HR7 HT7 hrg t0 t1 t2
     go_wp2_with fail
     go_roundg (gk - 1)
     case measure => omega
     case rel => exact ⟨i + 1, by omega, by omega, by go_num, HR9⟩
   ·have hin : i = ts.length := by omega
    obtain ⟨LA, hLA⟩ : ∃ l, l = ctsL ts (List.replicate 286 0) := ⟨_, rfl⟩
    have hkA := ctsL_key ts (List.replicate 286 0) (fun t ht => by rw [List.length_replicate]; exact (HSY.out t ht).1) 256
    have hz : key (List.replicate 286 0) 256 = 0 := by decide +kernel
    rw [hz, ← hLA] at hkA
    have HR2 : Hid (NRow w.heap.size wr (.slice (some ⟨gl, 0, none⟩) 286 286) LA ∧ NRow w.heap.size wr (.slice (some ⟨gd, 0, none⟩) 30 30) (ctsD ts (List.replicate 30 0)) ∧ Same w wr) := hid (by have h := HR.out; rw [hin, List.take_length, ← hLA] at h; exact h)
    obtain ⟨x, hx⟩ : ∃ x, x = key LA 256 := ⟨_, rfl⟩
    have hx1 : x ≤ 20000 := by omega
    obtain ⟨cg, fg, hrg⟩ := NRow.bumped HR2.out.1 256 x (by rw [hLA, ctsL_length, List.length_replicate]; decide) hx
    have HR9 : Hid (NRow w.heap.size (wr.setCell ⟨gl, 256, none⟩ (.int .i64 ((x : Int) + 1))) (.slice (some ⟨gl, 0, none⟩) 286 286) (bump (ctsL ts (List.replicate 286 0)) 256) ∧ NRow w.heap.size (wr.setCell ⟨gl, 256, none⟩ (.int .i64 ((x : Int) + 1))) (.slice (some ⟨gd, 0, none⟩) 30 30) (ctsD ts (List.replicate 30 0)) ∧ Same w (wr.setCell ⟨gl, 256, none⟩ (.int .i64 ((x : Int) + 1)))) := hid (by
     have hk9 : Kept (· = gl) wr (wr.setCell ⟨gl, 256, none⟩ (.int .i64 ((x : Int) + 1))) := (Kept.refl (· = gl) wr).setCell _ _ (.inl rfl)
     exact ⟨by rw [← hLA]; exact hrg, RowE.kept HR2.out.2.1 hk9 (fun k e f => by simp [Value.ownBlock] at e; omega), Same.then HR2.out.2.2 hk9 (fun k hk f => by have := HGE.out; omega)⟩)
    clear hin hkA hz hx hrg HR2 HR hLA
    go_wp2_with fail
    go_ret2
    exact ⟨_, _, rfl, HR9.out.1, HR9.out.2.1, HR9.out.2.2⟩

end Go.Proofs.YtljlmfnbeofmmaaGreatDoor
