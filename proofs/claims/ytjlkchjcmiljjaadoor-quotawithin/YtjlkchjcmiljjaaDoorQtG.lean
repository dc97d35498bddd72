/-
  Layer 17: a reservation that is there ends; Take, Free.
-/
import Derived.Test.YtjlkchjcmiljjaaDoorQtF
namespace Go.Proofs.YtjlkchjcmiljjaaDoor
open Go.RowKit Go.Maps

section
variable {w : World} {p ma mr : Nat} {bl : List Nat} {xs : List Tn} {S : Sq}

set_option maxRecDepth 100000 in
set_option maxHeartbeats 8000000 in
theorem qend_ok (h : Qb w p ma mr bl xs S) (n : Nb) {x : Hd} (hx : S.find n.v = some x) : Calls Tryd.prog 34 #[.pointer (some ⟨p, 0, none⟩), .int .i64 n.v] w fun e w' => e = .returned (.tuple #[.agg #[.pointer (some ⟨bl.getD x.ten 0, 0, none⟩), .int .i64 x.m.b, .int .i64 x.m.e], .int .i64 0]) ∧ Qb w' p ma mr bl xs (S.gone n.v) ∧ Kept (FQ p ma mr bl) w w' := by
  obtain ⟨W1, hW1⟩ : ∃ W, W = w.alloc (.cells #[.pointer none, .int .i64 0, .int .i64 0] 70) := ⟨_, rfl⟩
  obtain ⟨xb, hxb⟩ : ∃ b, b = w.heap.size := ⟨_, rfl⟩
  have HK1 : Hid (Same w W1 ∧ w.heap.size ≤ xb) := hid ⟨by rw [hW1]; exact (Kept.refl _ w).alloc _, by omega⟩
  have HB : Hid (Blk W1 xb #[.pointer none, .int .i64 0, .int .i64 0] 70) := hid (by rw [hW1, hxb]; exact Blk.new w _ _)
  obtain ⟨hxm, hxid⟩ := Sq.find_mem hx
  have hkl := (h.inv.ids x hxm).2.2.1
  have hin := (h.inv.ids x hxm).2.2.2
  have hl := (h.same HK1.out.1).lookR n
  rw [hx] at hl
  simp only [Option.map, Option.elim, Option.isSome, reV] at hl
  obtain ⟨_, _, x2, _, _, _⟩ := (h.same HK1.out.1).blk.c3'
  obtain ⟨a, ha⟩ : ∃ a, a = bl.getD x.ten 0 := ⟨_, rfl⟩
  have HA := hid ha
  have HX := hid hx
  have HKL := hid hkl
  have HNP : Hid (a ≠ p ∧ a ≠ mr ∧ a < w.heap.size) := hid (by rw [ha]; exact ⟨(h.acc_ne hkl).1, (h.acc_ne hkl).2.2.1, (h.acc x.ten hkl).lt⟩)
  have H := hid h
  rw [← ha] at hl ⊢
  obtain ⟨m, hm⟩ : ∃ m, m = x.m := ⟨_, rfl⟩
  obtain ⟨hd, hhd⟩ : ∃ d, d = S.held x.ten := ⟨_, rfl⟩
  obtain ⟨mu, hmu⟩ : ∃ d, d = m.up := ⟨_, rfl⟩
  obtain ⟨nh, hnh⟩ : ∃ d, d = hd.sub mu := ⟨_, rfl⟩
  have HUP : Hid (∀ W, Calls Tryd.prog 33 #[.agg #[.int .i64 m.b, .int .i64 m.e]] W fun e w' => e = .returned (.agg #[.int .i64 mu.b, .int .i64 mu.e]) ∧ Same W w') := hid (fun W => by rw [hmu]; exact uraised_any W m)
  have HMI : Hid (∀ W, Calls Tryd.prog 37 #[.agg #[.int .i64 hd.b, .int .i64 hd.e], .agg #[.int .i64 mu.b, .int .i64 mu.e]] W fun e w' => e = .returned (.agg #[.int .i64 nh.b, .int .i64 nh.e]) ∧ Same W w') := hid (fun W => by
    rw [hnh]
    have h8 := h.inv.num hkl
    rw [← hhd] at h8
    rw [← hm] at hin
    refine uminus_any W hd mu (by unfold Us.inn at *; omega) ?_
    rw [hmu]
    unfold Us.inn Us.up at *
    simp only
    omega)
  have HHD := hid hhd
  have HNH : Hid (nh = (S.held x.ten).sub x.m.up) := hid (by rw [hnh, hhd, hmu, hm])
  rw [← hm] at hl ⊢
  clear ha h hx hm hhd hmu hnh hin hkl hxm hxid
  go_enter Tryd.func34, Tryd.ntmps34
  go_upto_region 1 with fail
  rw [← hW1, ← hxb]
  clear hW1 hxb
  go_upto_region 4 with fail
  obtain ⟨W2, hW2⟩ : ∃ W, W = W1.alloc (.cells #[.pointer (some ⟨a, 0, none⟩), .int .i64 m.b, .int .i64 m.e] 70) := ⟨_, rfl⟩
  obtain ⟨rb, hrb⟩ : ∃ b, b = W1.heap.size := ⟨_, rfl⟩
  have hk2 : Same W1 W2 := by rw [hW2]; exact (Kept.refl _ _).alloc _
  have HB2 := hid (HB.out.kept hk2 (fun f => f))
  have HR2 : Hid (Blk W2 rb #[.pointer (some ⟨a, 0, none⟩), .int .i64 m.b, .int .i64 m.e] 70) := hid (by rw [hW2, hrb]; exact Blk.new W1 _ _)
  have HK2 := hid (Same.trans HK1.out.1 hk2)
  have HXR : Hid (xb < rb ∧ W1.heap.size = rb) := hid ⟨by rw [hrb]; exact HB.out.lt, hrb.symm⟩
  have HQ2 := hid (H.out.same HK2.out)
  obtain ⟨_, _, x2', _, _, _⟩ := HQ2.out.blk.c3'
  obtain ⟨R, hR1, hR2, hR3⟩ := HQ2.out.res
  obtain ⟨w3, hd3, hm3, hk3⟩ := MpR.del1 hR1 n 0
  have HM3 := hid hm3
  have HK3 := hid hk3
  have HRR : Hid (R.length ≤ S.hs.length ∧ ∀ q : Nb × Rv, q ∈ R ↔ ∃ h ∈ S.hs, q.1.v = (h.id : Int) ∧ q.2 = ⟨bl.getD h.ten 0, h.m⟩) := hid ⟨hR2, hR3⟩
  have hmrl := hR1.lt
  have HB3 := hid (HB2.out.kept hk3 (hR1.ne HB2.out))
  have HR3 := hid (HR2.out.kept hk3 (hR1.ne HR2.out))
  have HA3 : Hid (Blk w3 a (acE (mayT xs x.ten) (S.use x.ten) hd) 58) := hid ((show Blk W2 a (acE (mayT xs x.ten) (S.use x.ten) hd) 58 by rw [HA.out, HHD.out]; exact HQ2.out.acc x.ten HKL.out).kept hk3 HNP.out.2.1)
  rw [← hW2, ← hrb]
  clear hW2 hrb hk2 hl x2 hR1 hR2 hR3 hm3 hk3 hmrl
  go_wp2_with fail
  try rw [hd3]
  go_upto_region 7 with fail
  obtain ⟨r0, r1, r2, _, _, _⟩ := HR3.out.c3'
  have hA3 := HA3.out
  unfold acE at hA3
  obtain ⟨_, _, _, _, c4, c5⟩ := hA3.c6
  have HKW : Hid (Same w3 w3) := hid (Kept.refl _ _)
  clear hA3 hd3 x2'
  go_region_with (first
    | (go_at_call 33; refine (HUP.out _).mono ?_; rintro e w5 ⟨rfl, hk5⟩; have HKX : Hid (Same w3 w5) := hid (by first | exact Same.trans HKW.out hk5 | exact Same.trans HKW.out.drew hk5); clear HKW; have HKW := HKX; clear HKX; clear hk5 c4 c5 r0 r1 r2; obtain ⟨r0, r1, r2, _, _, _⟩ := (HR3.out.kept HKW.out (fun f => f)).c3'; have hA5 := HA3.out.kept HKW.out (fun f => f); unfold acE at hA5; obtain ⟨_, _, _, _, c4, c5⟩ := hA5.c6; clear hA5)
    | (go_at_call 37; refine (HMI.out _).mono ?_; rintro e w6 ⟨rfl, hk6⟩; have HKX : Hid (Same w3 w6) := hid (by first | exact Same.trans HKW.out hk6 | exact Same.trans HKW.out.drew hk6); clear HKW; have HKW := HKX; clear HKX; clear hk6 c4 c5 r0 r1 r2; obtain ⟨r0, r1, r2, _, _, _⟩ := (HR3.out.kept HKW.out (fun f => f)).c3'; have hA6 := HA3.out.kept HKW.out (fun f => f); unfold acE at hA6; obtain ⟨_, _, _, _, c4, c5⟩ := hA6.c6; have f4 := hA6.frozen 4; have f5 := hA6.frozen 5; clear hA6))
  all_goals
    obtain ⟨W7, hW7⟩ : ∃ W, W = (w6.setCell ⟨a, 4, none⟩ (.int .i64 nh.b)).setCell ⟨a, 5, none⟩ (.int .i64 nh.e) := ⟨_, rfl⟩
    have HA6 := hid (HA3.out.kept HKW.out (fun f => f))
    have HA7 : Hid (Blk W7 a (acE (mayT xs x.ten) (S.use x.ten) nh) 58 ∧ Kept (· = a) w6 W7) := hid (by rw [hW7]; exact set6h HA6.out nh)
    have HB7 := hid ((HB3.out.kept HKW.out (fun f => f)).kept HA7.out.2 (fun e => by have := HNP.out; have := HK1.out.2; omega))
    have HR7 := hid ((HR3.out.kept HKW.out (fun f => f)).kept HA7.out.2 (fun e => by have := HNP.out; have := HK1.out.2; have := HXR.out; omega))
    have HFIN := hid (HQ2.out.gone1 n HX.out HRR.out.1 HRR.out.2 (w1 := w6) (w2 := W7) (HM3.out.kept HKW.out (fun f => f)) (Kept.trans HK3.out HKW.out (fun _ _ e => e) (fun _ _ f => f.elim)) (by rw [← HNH.out, ← HA.out]; exact HA7.out.1) (by rw [← HA.out]; exact HA7.out.2))
    rw [← hW7]
    obtain ⟨r0, r1, r2, _, _, _⟩ := HR7.out.c3'
    obtain ⟨y0, y1, y2, g0, g1, g2⟩ := HB7.out.c3'
    clear hW7 c4 c5 f4 f5
    go_wp2_with fail
    refine bodyPost_ret (v := .tuple #[.agg #[.pointer (some ⟨a, 0, none⟩), .int .i64 m.b, .int .i64 m.e], .int .i64 0]) (by rw [results_17b (p := 4) (b := 5) (ty := 70) rfl _ _ _ _ _ ⟨xb, 0, none⟩ _ rfl (loadRe (set17r HB7.out).1)]; rfl) rfl ?_
    exact ⟨rfl, HFIN.out.1.kept (set17r HB7.out).2 (fun k hk e => by have := H.out.fp_lt hk; have := HK1.out.2; omega), Kept.trans (Kept.trans HK2.out HFIN.out.2 (fun _ _ f => f.elim) (fun _ _ e => e)) (set17r HB7.out).2 (fun _ _ e => e) (fun k hk e => by have := HK1.out.2; omega)⟩

end

end Go.Proofs.YtjlkchjcmiljjaaDoor
