/-
  Layer 17: Take, Free.
-/
import Derived.Test.YtjlkchjcmiljjaaDoorQtG
namespace Go.Proofs.YtjlkchjcmiljjaaDoor
open Go.RowKit Go.Maps

def takeZ (S : Sq) (id : Int) : Int := match S.find id with | none => 172 | some _ => 0
def takeS (S : Sq) (id : Int) : Sq := match S.find id with | none => S | some x => S.take id x
def freeS (S : Sq) (id : Int) : Sq := match S.find id with | none => S | some _ => S.gone id

section
variable {w : World} {p ma mr : Nat} {bl : List Nat} {xs : List Tn} {S : Sq}

set_option maxRecDepth 100000 in
set_option maxHeartbeats 400000 in
theorem qtake_err (w : World) (p : Value) (n z : Int) (hz : (z == 0) = false) (hf : Calls Tryd.prog 34 #[p, .int .i64 n] w fun e w' => e = .returned (noH z) ∧ Same w w') : Calls Tryd.prog 17 #[p, .int .i64 n] w fun e w' => e = .returned (.int .i64 z) ∧ Same w w' := by
  have hz2 : (z != 0) = true := by simp [bne, hz]
  unfold noH at hf
  go_enter Tryd.func17, Tryd.ntmps17
  go_wp2_with fail
  refine hf.mono ?_
  rintro e w2 ⟨rfl, hk2⟩
  obtain ⟨W3, hW3⟩ : ∃ W, W = w2.alloc (.cells #[.pointer none, .int .i64 0, .int .i64 0] 70) := ⟨_, rfl⟩
  have HK3 : Hid (Same w W3) := hid (by rw [hW3]; exact hk2.alloc _)
  clear hk2 hf
  go_upto_region 2 with fail
  rw [← hW3]
  clear hW3
  go_wp2_with fail
  go_ret
  exact ⟨rfl, HK3.out⟩

set_option maxRecDepth 100000 in
set_option maxHeartbeats 400000 in
theorem qfree_any (w : World) (p : Value) (n z : Int) (x y t : Value) (Q : World → Prop) (hQ : ∀ w1 w2, Same w1 w2 → Q w1 → Q w2) (hf : Calls Tryd.prog 34 #[p, .int .i64 n] w fun e w' => e = .returned (.tuple #[.agg #[x, y, t], .int .i64 z]) ∧ Q w') (hx : (∃ a, x = .pointer a) ∧ (∃ i, y = .int .i64 i) ∧ ∃ i, t = .int .i64 i) : Calls Tryd.prog 18 #[p, .int .i64 n] w fun e w' => e = .returned (.int .i64 z) ∧ Q w' := by
  obtain ⟨⟨x, rfl⟩, ⟨y, rfl⟩, ⟨t, rfl⟩⟩ := hx
  have HQ := hid hQ
  clear hQ
  go_enter Tryd.func18, Tryd.ntmps18
  go_wp2_with fail
  refine hf.mono ?_
  rintro e w2 ⟨rfl, hk2⟩
  obtain ⟨W3, hW3⟩ : ∃ W, W = w2.alloc (.cells #[.pointer x, .int .i64 y, .int .i64 t] 70) := ⟨_, rfl⟩
  have HK3 : Hid (Q W3) := hid (HQ.out w2 W3 (by rw [hW3]; exact (Kept.refl _ _).alloc _) hk2)
  clear hk2 hf
  go_upto_region 2 with fail
  rw [← hW3]
  clear hW3
  go_wp2_with fail
  go_ret
  exact ⟨rfl, HK3.out⟩

theorem qfree_nil (w : World) (n : Int) : Calls Tryd.prog 18 #[.pointer none, .int .i64 n] w fun e w' => e = .returned (.int .i64 3) ∧ Same w w' :=
  qfree_any w _ n 3 _ _ _ (Same w) (fun _ _ h h1 => Same.trans h1 h) (qend_nil w n) ⟨⟨_, rfl⟩, ⟨_, rfl⟩, ⟨_, rfl⟩⟩

theorem qtake_nil (w : World) (n : Int) : Calls Tryd.prog 17 #[.pointer none, .int .i64 n] w fun e w' => e = .returned (.int .i64 3) ∧ Same w w' := qtake_err w _ n 3 rfl (qend_nil w n)

theorem qfree_is (h : Qb w p ma mr bl xs S) (n : Nb) : Calls Tryd.prog 18 #[.pointer (some ⟨p, 0, none⟩), .int .i64 n.v] w fun e w' => e = .returned (.int .i64 (takeZ S n.v)) ∧ Qb w' p ma mr bl xs (freeS S n.v) ∧ Kept (FQ p ma mr bl) w w' := by
  unfold takeZ freeS
  cases hi : S.find n.v with
  | none => exact (qfree_any w _ n.v 172 _ _ _ (Same w) (fun _ _ h h1 => Same.trans h1 h) (qend_none h n hi) ⟨⟨_, rfl⟩, ⟨_, rfl⟩, ⟨_, rfl⟩⟩).mono fun e w' ⟨he, hk⟩ => ⟨he, h.same hk, hk.mono (fun _ _ f => f.elim)⟩
  | some x => exact qfree_any w _ n.v 0 _ _ _ (fun w' => Qb w' p ma mr bl xs (S.gone n.v) ∧ Kept (FQ p ma mr bl) w w') (fun _ _ h h1 => ⟨h1.1.same h, Kept.trans h1.2 h (fun _ _ e => e) (fun _ _ f => f.elim)⟩) (qend_ok h n hi) ⟨⟨_, rfl⟩, ⟨_, rfl⟩, ⟨_, rfl⟩⟩

theorem take_num1 (h : Qv xs S) {n : Int} {x : Hd} (hx : S.find n = some x) {nu : Us} (hnu : nu = ((S.use x.ten).add x.m).up) : nu.inn 0 2000000000 := by
  obtain ⟨hm, _⟩ := Sq.find_mem hx
  obtain ⟨_, _, ht, hi⟩ := h.ids x hm
  have h1 := h.num ht
  have h2 := (h.gone hx).num ht
  have hH := Sq.held_gone hx x.ten
  rw [if_pos rfl] at hH
  have hb : (S.held x.ten).b = ((S.gone n).held x.ten).b + x.m.up.b := by rw [hH]; rfl
  have he : (S.held x.ten).e = ((S.gone n).held x.ten).e + x.m.up.e := by rw [hH]; rfl
  subst hnu
  unfold Us.inn at h1 h2 hi
  simp only [Us.up, Us.add, Us.inn] at *
  omega

theorem take_num2 (h : Qv xs S) {n : Int} {x : Hd} (hx : S.find n = some x) {nu : Us} (hnu : nu = ((S.use x.ten).add x.m).up) : (nu.add ((S.gone n).held x.ten)).le ⟨2000000000, 2000000000⟩ := by
  obtain ⟨hm, _⟩ := Sq.find_mem hx
  obtain ⟨_, _, ht, hi⟩ := h.ids x hm
  have h1 := h.num ht
  have h2 := (h.gone hx).num ht
  have hH := Sq.held_gone hx x.ten
  rw [if_pos rfl] at hH
  have hb : (S.held x.ten).b = ((S.gone n).held x.ten).b + x.m.up.b := by rw [hH]; rfl
  have he : (S.held x.ten).e = ((S.gone n).held x.ten).e + x.m.up.e := by rw [hH]; rfl
  subst hnu
  unfold Us.inn at h1 h2 hi
  simp only [Us.up, Us.add, Us.le] at *
  omega

set_option maxRecDepth 100000 in
set_option maxHeartbeats 2000000 in
theorem qtake_ok (h : Qb w p ma mr bl xs S) (n : Nb) {x : Hd} (hx : S.find n.v = some x) : Calls Tryd.prog 17 #[.pointer (some ⟨p, 0, none⟩), .int .i64 n.v] w fun e w' => e = .returned (.int .i64 0) ∧ Qb w' p ma mr bl xs (S.take n.v x) ∧ Kept (FQ p ma mr bl) w w' := by
  have HE := qend_ok h n hx
  obtain ⟨hxm, _⟩ := Sq.find_mem hx
  have hkl := (h.inv.ids x hxm).2.2.1
  have hin := (h.inv.ids x hxm).2.2.2
  have HKL := hid hkl
  have HX := hid hx
  have HIV := hid h.inv
  obtain ⟨a, ha⟩ : ∃ a, a = bl.getD x.ten 0 := ⟨_, rfl⟩
  have HA := hid ha
  have HAM : Hid (bl.getD x.ten 0 ∈ bl) := hid (getD_mem (by rw [h.len]; exact hkl))
  have HAL : Hid (a < w.heap.size) := hid (by rw [ha]; exact (h.acc x.ten hkl).lt)
  obtain ⟨m, hm⟩ : ∃ m, m = x.m := ⟨_, rfl⟩
  obtain ⟨us, hus⟩ : ∃ d, d = S.use x.ten := ⟨_, rfl⟩
  obtain ⟨sm, hsm⟩ : ∃ d, d = us.add m := ⟨_, rfl⟩
  obtain ⟨nu, hnu⟩ : ∃ d, d = sm.up := ⟨_, rfl⟩
  have HPL : Hid (∀ W, Calls Tryd.prog 32 #[.agg #[.int .i64 us.b, .int .i64 us.e], .agg #[.int .i64 m.b, .int .i64 m.e]] W fun e w' => e = .returned (.agg #[.int .i64 sm.b, .int .i64 sm.e]) ∧ Same W w') := hid (fun W => by
    rw [hsm]
    have h8 := h.inv.num hkl
    rw [← hus] at h8
    rw [← hm] at hin
    refine uplus_any W us m ?_ ?_
    · unfold Us.inn at *; omega
    · unfold Us.inn at *; omega)
  have HUP : Hid (∀ W, Calls Tryd.prog 33 #[.agg #[.int .i64 sm.b, .int .i64 sm.e]] W fun e w' => e = .returned (.agg #[.int .i64 nu.b, .int .i64 nu.e]) ∧ Same W w') := hid (fun W => by rw [hnu]; exact uraised_any W sm)
  have HUS := hid hus
  have HNU : Hid (nu = ((S.use x.ten).add x.m).up) := hid (by rw [hnu, hsm, hus, hm])
  rw [← ha, ← hm] at HE
  clear ha hm hus hsm hnu h hx hkl hin hxm
  go_enter Tryd.func17, Tryd.ntmps17
  go_wp2_with fail
  refine HE.mono ?_
  rintro e w2 ⟨rfl, hq2, hk2⟩
  obtain ⟨W3, hW3⟩ : ∃ W, W = w2.alloc (.cells #[.pointer (some ⟨a, 0, none⟩), .int .i64 m.b, .int .i64 m.e] 70) := ⟨_, rfl⟩
  obtain ⟨rb, hrb⟩ : ∃ b, b = w2.heap.size := ⟨_, rfl⟩
  have hk3 : Same w2 W3 := by rw [hW3]; exact (Kept.refl _ _).alloc _
  have HR3 : Hid (Blk W3 rb #[.pointer (some ⟨a, 0, none⟩), .int .i64 m.b, .int .i64 m.e] 70) := hid (by rw [hW3, hrb]; exact Blk.new w2 _ _)
  have HK3 : Hid (Kept (FQ p ma mr bl) w W3) := hid (Kept.trans hk2 hk3 (fun _ _ e => e) (fun _ _ f => f.elim))
  have HQ3 := hid (hq2.same hk3)
  have HA3 : Hid (Blk W3 a (acE (mayT xs x.ten) us ((S.gone n.v).held x.ten)) 58) := hid (by rw [HA.out, HUS.out]; exact HQ3.out.acc x.ten HKL.out)
  clear hk2 hk3 hq2 HE
  go_upto_region 4 with fail
  rw [← hW3, ← hrb]
  clear hW3 hrb
  obtain ⟨r0, r1, r2, _, _, _⟩ := HR3.out.c3'
  have hA3 := HA3.out
  unfold acE at hA3
  obtain ⟨_, _, c2, c3, _, _⟩ := hA3.c6
  have HKW : Hid (Same W3 W3) := hid (Kept.refl _ _)
  clear hA3
  go_region_with (first
    | (go_at_call 32; refine (HPL.out _).mono ?_; rintro e w5 ⟨rfl, hk5⟩; have HKX : Hid (Same W3 w5) := hid (by first | exact Same.trans HKW.out hk5 | exact Same.trans HKW.out.drew hk5); clear HKW; have HKW := HKX; clear HKX; clear hk5 c2 c3 r0 r1 r2; obtain ⟨r0, r1, r2, _, _, _⟩ := (HR3.out.kept HKW.out (fun f => f)).c3')
    | (go_at_call 33; refine (HUP.out _).mono ?_; rintro e w6 ⟨rfl, hk6⟩; have HKX : Hid (Same W3 w6) := hid (by first | exact Same.trans HKW.out hk6 | exact Same.trans HKW.out.drew hk6); clear HKW; have HKW := HKX; clear HKX; clear hk6 r0 r1 r2; obtain ⟨r0, r1, r2, _, _, _⟩ := (HR3.out.kept HKW.out (fun f => f)).c3'; have hA6 := HA3.out.kept HKW.out (fun f => f); unfold acE at hA6; obtain ⟨_, _, c2, c3, _, _⟩ := hA6.c6; have f2 := hA6.frozen 2; have f3 := hA6.frozen 3; clear hA6))
  all_goals
    obtain ⟨W7, hW7⟩ : ∃ W, W = (w6.setCell ⟨a, 2, none⟩ (.int .i64 nu.b)).setCell ⟨a, 3, none⟩ (.int .i64 nu.e) := ⟨_, rfl⟩
    have HA6 := hid (HA3.out.kept HKW.out (fun f => f))
    have HA7 : Hid (Blk W7 a (acE (mayT xs x.ten) nu ((S.gone n.v).held x.ten)) 58 ∧ Kept (· = a) w6 W7) := hid (by rw [hW7]; exact set6u HA6.out nu)
    rw [← hW7]
    clear hW7 c2 c3 f2 f3
    go_wp2_with fail
    go_ret
    refine ⟨rfl, ?_, Kept.trans (Kept.trans HK3.out HKW.out (fun _ _ e => e) (fun _ _ f => f.elim)) HA7.out.2 (fun _ _ e => e) (fun k _ e => .inr (.inr (.inr (by rw [e, HA.out]; exact HAM.out))))⟩
    have h9 := (HQ3.out.same HKW.out).setUse HKL.out nu (w' := W7) ?_ ?_ (by rw [← HA.out]; exact HA7.out.1) (by rw [← HA.out]; exact HA7.out.2)
    · rw [HNU.out] at h9
      exact h9
    · exact take_num1 HIV.out HX.out HNU.out
    · exact take_num2 HIV.out HX.out HNU.out

theorem qtake_any (h : Qb w p ma mr bl xs S) (n : Nb) : Calls Tryd.prog 17 #[.pointer (some ⟨p, 0, none⟩), .int .i64 n.v] w fun e w' => e = .returned (.int .i64 (takeZ S n.v)) ∧ Qb w' p ma mr bl xs (takeS S n.v) ∧ Kept (FQ p ma mr bl) w w' := by
  unfold takeZ takeS
  cases hi : S.find n.v with
  | none => exact (qtake_err w _ n.v 172 rfl (qend_none h n hi)).mono fun e w' ⟨he, hk⟩ => ⟨he, h.same hk, hk.mono (fun _ _ f => f.elim)⟩
  | some x => exact qtake_ok h n hi

theorem qres_any (h : Qb w p ma mr bl xs S) (s : Nm) (m : Us) (hL : S.last ≤ 1000000) : Calls Tryd.prog 16 #[.pointer (some ⟨p, 0, none⟩), .string s.s, usV m] w fun e w' => e = .returned (.tuple #[.int .i64 (resZ xs S s.s m).1, .int .i64 (resZ xs S s.s m).2]) ∧ Qb w' p ma mr bl xs (resS xs S s.s m) ∧ Kept (FQ p ma mr bl) w w' := by
  unfold resZ resS
  cases hi : idxT xs s.s with
  | none => exact (qres_err w _ s.s m 170 rfl (fun W hW => qfind_none (h.same hW) s hi)).mono (fun e w' ⟨he, hk⟩ => ⟨he, h.same hk, hk.mono (fun _ _ f => f.elim)⟩)
  | some k =>
    simp only
    by_cases hin : m.inn (-1000000000) 1000000000
    · by_cases hle : m.le (leftQ xs S k)
      · rw [if_pos hin, if_pos hle, if_pos ⟨hin, hle⟩]
        exact qres_ok h s m hi hin hle hL
      · rw [if_pos hin, if_neg hle, if_neg (fun e => hle e.2)]
        exact (qres_full h s m hi hin hle).mono (fun e w' ⟨he, hk⟩ => ⟨he, h.same hk, hk.mono (fun _ _ f => f.elim)⟩)
    · rw [if_neg hin, if_neg (fun e => hin e.1)]
      exact (qres_arg h s m hi hin).mono (fun e w' ⟨he, hk⟩ => ⟨he, h.same hk, hk.mono (fun _ _ f => f.elim)⟩)

end

end Go.Proofs.YtjlkchjcmiljjaaDoor
