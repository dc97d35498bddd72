/-
  Layer 17: Reserve, where there is room.
-/
import Derived.Test.YtjlkchjcmiljjaaDoorQtD
namespace Go.Proofs.YtjlkchjcmiljjaaDoor
open Go.RowKit Go.Maps

section
variable {w : World} {p ma mr : Nat} {bl : List Nat} {xs : List Tn} {S : Sq}

theorem Blk.c3' {w : World} {g : Nat} {a b c : Value} {t : TypeId} (hb : Blk w g #[a, b, c] t) : w.cell? ⟨g, 0, none⟩ = some a ∧ w.cell? ⟨g, 1, none⟩ = some b ∧ w.cell? ⟨g, 2, none⟩ = some c ∧ w.frozen? ⟨g, 0, none⟩ = false ∧ w.frozen? ⟨g, 1, none⟩ = false ∧ w.frozen? ⟨g, 2, none⟩ = false :=
  ⟨hb.cell 0, hb.cell 1, hb.cell 2, hb.frozen 0, hb.frozen 1, hb.frozen 2⟩

theorem MpR.put1 {w : World} {b : Nat} {R : List (Nb × Rv)} (h : MpR w b R) (s : Nb) (r : Rv) (hL : R.length ≤ 1000000000) :
    ∃ w', (Instr.mapUpdate 53 (.map (some b)) (.int .i64 s.v) (.agg #[.pointer (some ⟨r.bl, 0, none⟩), .int .i64 r.m.b, .int .i64 r.m.e])).run Tryd.prog w = .ok () w' ∧ MpR w' b (putG kI s r R) ∧ Kept (· = b) w w' :=
  MpG.put h klI rdRe intKey14 53 70 Tryd.underlying53 s (.int .i64 s.v) (keyI s) hL r

theorem wrap64_n17 {n : Nat} (h : n ≤ 2000000) : wrap64 (n : Int) = (n : Int) := by unfold wrap64; omega

theorem nb17 {n : Nat} (h : n ≤ 2000000) : ∃ b : Nb, b.v = (n : Int) := ⟨⟨(n : Int), by simp [Lit.wf, IntKind.min, IntKind.max, IntKind.signed, IntKind.bits]; omega⟩, rfl⟩

set_option maxRecDepth 100000 in
set_option maxHeartbeats 1000000 in
theorem qres_ok (h : Qb w p ma mr bl xs S) (s : Nm) (m : Us) {k : Nat} (hk : idxT xs s.s = some k) (hin : m.inn (-1000000000) 1000000000) (hle : m.le (leftQ xs S k)) (hL : S.last ≤ 1000000) : Calls Tryd.prog 16 #[.pointer (some ⟨p, 0, none⟩), .string s.s, usV m] w fun e w' => e = .returned (.tuple #[.int .i64 ((S.last + 1 : Nat) : Int), .int .i64 0]) ∧ Qb w' p ma mr bl xs (S.res k m) ∧ Kept (FQ p ma mr bl) w w' := by
  obtain ⟨W1, hW1⟩ : ∃ W, W = w.alloc (.cells #[.int .i64 m.b, .int .i64 m.e] 31) := ⟨_, rfl⟩
  obtain ⟨xb, hxb⟩ : ∃ b, b = w.heap.size := ⟨_, rfl⟩
  have HK1 : Hid (Same w W1) := hid (by rw [hW1]; exact (Kept.refl _ w).alloc _)
  have HB : Hid (Blk W1 xb #[.int .i64 m.b, .int .i64 m.e] 31) := hid (by rw [hW1, hxb]; exact Blk.new w _ _)
  have HF := qfind_some (h.same HK1.out) s hk
  have hR : ∀ W, Same w W → _ := fun W hW => hasRoom_any (h.same hW) (idxT_lt hk) m true (decide_eq_true hle)
  have HXB : Hid (∀ x, FQ p ma mr bl x → x ≠ xb) := hid (fun x hx e => by have := h.fp_lt hx; omega)
  have HKL := hid (idxT_lt hk)
  have HLL := hid hL
  have H := hid h
  obtain ⟨a, ha⟩ : ∃ a, a = bl.getD k 0 := ⟨_, rfl⟩
  have HA := hid ha
  have HAM : Hid (FQ p ma mr bl a) := hid (.inr (.inr (.inr (by rw [ha]; exact getD_mem (by rw [h.len]; exact HKL.out)))))
  have HNP : Hid (a ≠ p ∧ a ≠ mr) := hid (by rw [ha]; exact ⟨(h.acc_ne HKL.out).1, (h.acc_ne HKL.out).2.2.1⟩)
  rw [← ha] at HF hR
  have HR := hid hR
  have HW : Hid (∀ W, Calls Tryd.prog 30 #[.agg #[.int .i64 m.b, .int .i64 m.e], .int .i64 (-1000000000), .int .i64 1000000000] W fun e w' => e = .returned (.bool true) ∧ Same W w') := hid (fun W => within_any W m (-1000000000) 1000000000 true (decide_eq_true hin))
  obtain ⟨hd, hhd⟩ : ∃ d, d = S.held k := ⟨_, rfl⟩
  obtain ⟨mu, hmu⟩ : ∃ d, d = m.up := ⟨_, rfl⟩
  obtain ⟨nh, hnh⟩ : ∃ d, d = hd.add mu := ⟨_, rfl⟩
  have HUP : Hid (∀ W, Calls Tryd.prog 33 #[.agg #[.int .i64 m.b, .int .i64 m.e]] W fun e w' => e = .returned (.agg #[.int .i64 mu.b, .int .i64 mu.e]) ∧ Same W w') := hid (fun W => by rw [hmu]; exact uraised_any W m)
  have HPL : Hid (∀ W, Calls Tryd.prog 32 #[.agg #[.int .i64 hd.b, .int .i64 hd.e], .agg #[.int .i64 mu.b, .int .i64 mu.e]] W fun e w' => e = .returned (.agg #[.int .i64 nh.b, .int .i64 nh.e]) ∧ Same W w') := hid (fun W => by
    rw [hnh]
    have h8 := h.inv.num HKL.out
    rw [← hhd] at h8
    refine uplus_any W hd mu (by unfold Us.inn at *; omega) ?_
    rw [hmu]
    unfold Us.inn Us.up at *
    simp only
    omega)
  have HIN := hid hin
  have HLE := hid hle
  have HHD := hid hhd
  have HNH : Hid (nh = (S.held k).add m.up) := hid (by rw [hnh, hhd, hmu])
  obtain ⟨l1, hl1⟩ : ∃ l : Nat, l = S.last + 1 := ⟨_, rfl⟩
  have HL1 := hid hl1
  unfold usV
  clear ha h hk hin hle hR hL hhd hmu hnh hl1
  go_enter Tryd.func16, Tryd.ntmps16
  go_upto_region 1 with fail
  rw [← hW1, ← hxb]
  clear hW1 hxb
  go_wp2_with fail
  refine HF.mono ?_
  rintro e w2 ⟨rfl, hk2⟩
  have HK2 := hid (Same.trans HK1.out hk2)
  have HB2 := hid (HB.out.kept hk2 (fun f => f))
  obtain ⟨y0, y1, _, _⟩ := HB2.out.c2
  clear hk2 HF
  go_wp2_with fail
  refine (HW.out _).mono ?_
  rintro e w3 ⟨rfl, hk3⟩
  have HK3 := hid (Same.trans HK2.out hk3)
  have HB3 := hid (HB2.out.kept hk3 (fun f => f))
  clear y0 y1
  obtain ⟨y0, y1, _, _⟩ := HB3.out.c2
  clear hk3
  go_wp2_with fail
  refine (HR.out _ HK3.out).mono ?_
  rintro e w4 ⟨rfl, hk4⟩
  have HK4 := hid (Same.trans HK3.out hk4)
  have HB4 := hid (HB3.out.kept hk4 (fun f => f))
  have HQ4 := hid (H.out.same HK4.out)
  have HA4 : Hid (Blk w4 a (acE (mayT xs k) (S.use k) hd) 58) := hid (by rw [HA.out, HHD.out]; exact HQ4.out.acc k HKL.out)
  clear y0 y1
  obtain ⟨y0, y1, _, _⟩ := HB4.out.c2
  have hA4 := HA4.out
  unfold acE at hA4
  obtain ⟨_, _, _, _, c4, c5⟩ := hA4.c6
  have HKW : Hid (Same w4 w4) := hid (Kept.refl _ _)
  clear hk4 hA4
  go_upto_region 8 with fail
  go_region_with (first
    | (go_at_call 33; refine (HUP.out _).mono ?_; rintro e w5 ⟨rfl, hk5⟩; have HKX : Hid (Same w4 w5) := hid (by first | exact Same.trans HKW.out hk5 | exact Same.trans HKW.out.drew hk5); clear HKW; have HKW := HKX; clear HKX; clear hk5 c4 c5 y0 y1; obtain ⟨y0, y1, _, _⟩ := (HB4.out.kept HKW.out (fun f => f)).c2; have hA5 := HA4.out.kept HKW.out (fun f => f); unfold acE at hA5; obtain ⟨_, _, _, _, c4, c5⟩ := hA5.c6; clear hA5)
    | (go_at_call 32; refine (HPL.out _).mono ?_; rintro e w6 ⟨rfl, hk6⟩; have HKX : Hid (Same w4 w6) := hid (by first | exact Same.trans HKW.out hk6 | exact Same.trans HKW.out.drew hk6); clear HKW; have HKW := HKX; clear HKX; clear hk6 c4 c5 y0 y1; have hA6 := HA4.out.kept HKW.out (fun f => f); unfold acE at hA6; obtain ⟨_, _, _, _, c4, c5⟩ := hA6.c6; have f4 := hA6.frozen 4; have f5 := hA6.frozen 5; clear hA6))
  all_goals
    obtain ⟨W7, hW7⟩ : ∃ W, W = (w6.setCell ⟨a, 4, none⟩ (.int .i64 nh.b)).setCell ⟨a, 5, none⟩ (.int .i64 nh.e) := ⟨_, rfl⟩
    have HA6 := hid (HA4.out.kept HKW.out (fun f => f))
    have HA7 : Hid (Blk W7 a (acE (mayT xs k) (S.use k) nh) 58 ∧ Kept (· = a) w6 W7) := hid (by rw [hW7]; exact set6h HA6.out nh)
    have HQ6 := hid (HQ4.out.same HKW.out)
    have HP7 := hid (HQ6.out.blk.kept HA7.out.2 HNP.out.1.symm)
    have HB7 := hid ((HB4.out.kept HKW.out (fun f => f)).kept HA7.out.2 (fun e => HXB.out a HAM.out e.symm))
    obtain ⟨_, x1, _, _, g1, _⟩ := HP7.out.c3'
    have hw1 : IntKind.i64.wrap ((S.last : Int) + 1) = (l1 : Int) := by rw [IntKind.wrap_i64]; have := HLL.out; have := HL1.out; omega
    have hw2 : (S.last : Int) + 1 = (l1 : Int) := by have := HL1.out; omega
    have hw3 : wrap64 (l1 : Int) = (l1 : Int) := wrap64_n17 (by have := HL1.out; have := HLL.out; omega)
    obtain ⟨nb, hnb⟩ : ∃ n : Nb, n.v = (l1 : Int) := nb17 (by have := HL1.out; have := HLL.out; omega)
    clear c4 c5 f4 f5
    rw [← hW7]
    clear hW7
    go_upto_region 10 with fail
    obtain ⟨W8, hW8⟩ : ∃ W, W = W7.setCell ⟨p, 1, none⟩ (.int .i64 (l1 : Int)) := ⟨_, rfl⟩
    have HP8 : Hid (Blk W8 p #[.map (some ma), .int .i64 (l1 : Int), .map (some mr)] 55 ∧ Kept (· = p) W7 W8) := hid (by rw [hW8]; exact setBk HP7.out)
    have HB8 := hid (HB7.out.kept HP8.out.2 (fun e => HXB.out p (.inl rfl) e.symm))
    obtain ⟨R, hR1, hR2, hR3⟩ := HQ6.out.res
    have hpr : p ≠ mr := hR1.ne HQ6.out.blk
    have hkd : Same W8 W8.drew := (Kept.refl _ _).drew
    obtain ⟨w9, hp9, hm9, hk9⟩ := MpR.put1 (((hR1.kept HA7.out.2 HNP.out.2.symm).kept HP8.out.2 hpr.symm).kept hkd (fun f => f)) nb ⟨a, m⟩ (by have := HQ6.out.inv.cnt; have := HLL.out; omega)
    rw [hnb] at hp9
    simp only at hp9
    have hk89 : Kept (· = mr) W8 w9 := Kept.trans (show Same W8 W8.drew from hkd) hk9 (fun _ _ f => f.elim) (fun _ _ e => e)
    have HFIN := hid (HQ6.out.res1 HKL.out m HIN.out HLE.out HLL.out hR2 hR3 (w1 := W7) (w2 := W8) (w3 := w9) (by rw [← HNH.out, ← HA.out]; exact HA7.out.1) (by rw [← HA.out]; exact HA7.out.2) (by rw [← HL1.out]; exact HP8.out.1) HP8.out.2 nb (by rw [← HL1.out]; exact hnb) (by rw [← HA.out]; exact hm9) hk89)
    have x9 := (HP8.out.1.kept hk89 hpr).c3'.2.1
    obtain ⟨_, x1', x2', _, _, _⟩ := HP8.out.1.c3'
    obtain ⟨y0, y1, _, _⟩ := HB8.out.c2
    rw [← hW8]
    clear hW8 hkd hm9 hk9 hk89 hR1 hR2 hR3 hpr x1 g1 hw1 hw2 hnb
    go_region
    all_goals
      go_wp2_with fail
      go_ret2
      exact ⟨by rw [HL1.out]; first | rfl | simp, HFIN.out.1, Kept.trans (Same.trans HK4.out HKW.out) HFIN.out.2 (fun _ _ f => f.elim) (fun _ _ e => e)⟩

end

end Go.Proofs.YtjlkchjcmiljjaaDoor
