/-
  Layer 17: Use, Left, Set.
-/
import Derived.Test.YtjlkchjcmiljjaaDoorQtB
namespace Go.Proofs.YtjlkchjcmiljjaaDoor
open Go.RowKit Go.Maps

def noU (e : Int) : Value := .tuple #[.agg #[.int .i64 0, .int .i64 0], .int .i64 e]
/-- What Use and Left say. -/
def useV (xs : List Tn) (S : Sq) (s : ByteArray) : Value := match idxT xs s with | none => noU 170 | some k => .tuple #[usV (S.use k), .int .i64 0]
def leftV (xs : List Tn) (S : Sq) (s : ByteArray) : Value := match idxT xs s with | none => noU 170 | some k => .tuple #[usV (leftQ xs S k), .int .i64 0]

theorem load2 {W : World} {a i : Nat} {x y : Value} (h0 : W.cell? ⟨a, i, none⟩ = some x) (h1 : W.cell? ⟨a, i + 1, none⟩ = some y) : W.cell? ⟨a, i, none⟩ = some x ∧ W.cell? ⟨a, i + 1, none⟩ = some y := ⟨h0, h1⟩

section
variable {w : World} {p ma mr : Nat} {bl : List Nat} {xs : List Tn} {S : Sq}

set_option maxRecDepth 100000 in
set_option maxHeartbeats 400000 in
theorem quse_err (w : World) (p : Value) (s : ByteArray) (z : Int) (hz : (z == 0) = false) (hf : ∀ W, Same w W → Calls Tryd.prog 22 #[p, .string s] W fun e w' => e = .returned (.tuple #[.pointer none, .int .i64 z]) ∧ Same W w') : Calls Tryd.prog 11 #[p, .string s] w fun e w' => e = .returned (noU z) ∧ Same w w' := by
  obtain ⟨W1, hW1⟩ : ∃ W, W = w.alloc (.cells #[.int .i64 0, .int .i64 0] 31) := ⟨_, rfl⟩
  obtain ⟨xb, hxb⟩ : ∃ b, b = w.heap.size := ⟨_, rfl⟩
  have HK1 : Hid (Same w W1 ∧ w.heap.size ≤ xb) := hid ⟨by rw [hW1]; exact (Kept.refl _ w).alloc _, by omega⟩
  have HB : Hid (Blk W1 xb #[.int .i64 0, .int .i64 0] 31) := hid (by rw [hW1, hxb]; exact Blk.new w _ _)
  have HF := hf W1 HK1.out.1
  have hz2 : (z != 0) = true := by simp [bne, hz]
  clear hf
  go_enter Tryd.func11, Tryd.ntmps11
  go_upto_region 1 with fail
  rw [← hW1, ← hxb]
  clear hW1 hxb
  go_wp2_with fail
  refine HF.mono ?_
  rintro e w2 ⟨rfl, hk2⟩
  have HB2 := hid (HB.out.kept hk2 (fun f => f))
  have HK2 := hid (Same.trans HK1.out.1 hk2)
  obtain ⟨z0, z1, z2, z3⟩ := HB2.out.c2
  clear hk2 HF
  go_wp2_with fail
  refine bodyPost_ret (v := noU z) (by rw [results_17b (p := 4) (b := 5) (ty := 31) rfl _ _ _ _ _ ⟨xb, 0, none⟩ _ rfl (loadU (set17 HB2.out).1)]; rfl) rfl ?_
  exact ⟨rfl, HK2.out.then (set17 HB2.out).2 (fun k hk e => by have := HK1.out.2; omega)⟩

set_option maxRecDepth 100000 in
set_option maxHeartbeats 400000 in
theorem quse_ok (h : Qb w p ma mr bl xs S) (s : Nm) {k : Nat} (hk : idxT xs s.s = some k) : Calls Tryd.prog 11 #[.pointer (some ⟨p, 0, none⟩), .string s.s] w fun e w' => e = .returned (.tuple #[usV (S.use k), .int .i64 0]) ∧ Same w w' := by
  obtain ⟨W1, hW1⟩ : ∃ W, W = w.alloc (.cells #[.int .i64 0, .int .i64 0] 31) := ⟨_, rfl⟩
  obtain ⟨xb, hxb⟩ : ∃ b, b = w.heap.size := ⟨_, rfl⟩
  have HK1 : Hid (Same w W1 ∧ w.heap.size ≤ xb) := hid ⟨by rw [hW1]; exact (Kept.refl _ w).alloc _, by omega⟩
  have HB : Hid (Blk W1 xb #[.int .i64 0, .int .i64 0] 31) := hid (by rw [hW1, hxb]; exact Blk.new w _ _)
  have HF := qfind_some (h.same HK1.out.1) s hk
  have hac := h.acc k (idxT_lt hk)
  obtain ⟨a, ha⟩ : ∃ a, a = bl.getD k 0 := ⟨_, rfl⟩
  rw [← ha] at HF hac
  have HA := hid hac
  clear ha hac h hk
  go_enter Tryd.func11, Tryd.ntmps11
  go_upto_region 1 with fail
  rw [← hW1, ← hxb]
  clear hW1 hxb
  go_wp2_with fail
  refine HF.mono ?_
  rintro e w2 ⟨rfl, hk2⟩
  have HB2 := hid (HB.out.kept hk2 (fun f => f))
  have HK2 := hid (Same.trans HK1.out.1 hk2)
  obtain ⟨z0, z1, z2, z3⟩ := HB2.out.c2
  have hA2 := HA.out.kept HK2.out (fun f => f)
  unfold acE at hA2
  obtain ⟨_, _, c2, c3, _, _⟩ := hA2.c6
  clear hk2 HF hA2
  go_wp2_with fail
  refine bodyPost_ret (v := .tuple #[usV (S.use k), .int .i64 0]) (by rw [results_17b (p := 4) (b := 5) (ty := 31) rfl _ _ _ _ _ ⟨xb, 0, none⟩ _ rfl (loadU (set17 HB2.out).1)]; rfl) rfl ?_
  exact ⟨rfl, HK2.out.then (set17 HB2.out).2 (fun k hk e => by have := HK1.out.2; omega)⟩

theorem quse_any (h : Qb w p ma mr bl xs S) (s : Nm) : Calls Tryd.prog 11 #[.pointer (some ⟨p, 0, none⟩), .string s.s] w fun e w' => e = .returned (useV xs S s.s) ∧ Same w w' := by
  unfold useV
  cases hi : idxT xs s.s with
  | none => exact quse_err w _ s.s 170 rfl (fun W hW => qfind_none (h.same hW) s hi)
  | some k => exact quse_ok h s hi

set_option maxRecDepth 100000 in
set_option maxHeartbeats 400000 in
theorem qleft_err (w : World) (p : Value) (s : ByteArray) (z : Int) (hz : (z == 0) = false) (hf : ∀ W, Same w W → Calls Tryd.prog 22 #[p, .string s] W fun e w' => e = .returned (.tuple #[.pointer none, .int .i64 z]) ∧ Same W w') : Calls Tryd.prog 12 #[p, .string s] w fun e w' => e = .returned (noU z) ∧ Same w w' := by
  obtain ⟨W1, hW1⟩ : ∃ W, W = w.alloc (.cells #[.int .i64 0, .int .i64 0] 31) := ⟨_, rfl⟩
  obtain ⟨xb, hxb⟩ : ∃ b, b = w.heap.size := ⟨_, rfl⟩
  have HK1 : Hid (Same w W1 ∧ w.heap.size ≤ xb) := hid ⟨by rw [hW1]; exact (Kept.refl _ w).alloc _, by omega⟩
  have HB : Hid (Blk W1 xb #[.int .i64 0, .int .i64 0] 31) := hid (by rw [hW1, hxb]; exact Blk.new w _ _)
  have HF := hf W1 HK1.out.1
  have hz2 : (z != 0) = true := by simp [bne, hz]
  clear hf
  go_enter Tryd.func12, Tryd.ntmps12
  go_upto_region 1 with fail
  rw [← hW1, ← hxb]
  clear hW1 hxb
  go_wp2_with fail
  refine HF.mono ?_
  rintro e w2 ⟨rfl, hk2⟩
  have HB2 := hid (HB.out.kept hk2 (fun f => f))
  have HK2 := hid (Same.trans HK1.out.1 hk2)
  obtain ⟨z0, z1, z2, z3⟩ := HB2.out.c2
  clear hk2 HF
  go_wp2_with fail
  refine bodyPost_ret (v := noU z) (by rw [results_17b (p := 4) (b := 5) (ty := 31) rfl _ _ _ _ _ ⟨xb, 0, none⟩ _ rfl (loadU (set17 HB2.out).1)]; rfl) rfl ?_
  exact ⟨rfl, HK2.out.then (set17 HB2.out).2 (fun k hk e => by have := HK1.out.2; omega)⟩

theorem Qb.left (h : Qb w p ma mr bl xs S) {k : Nat} (hk : k < xs.length) : Calls Tryd.prog 23 #[.pointer (some ⟨bl.getD k 0, 0, none⟩)] w fun e w' => e = .returned (usV (leftQ xs S k)) ∧ Same w w' := by
  have h1 := h.inv.num hk
  refine aleft_any w _ _ _ _ (h.acc k hk) h1.1 ?_ ?_
  · unfold Us.inn at *; omega
  · unfold Us.inn at *; omega

set_option maxRecDepth 100000 in
set_option maxHeartbeats 400000 in
theorem qleft_ok (h : Qb w p ma mr bl xs S) (s : Nm) {k : Nat} (hk : idxT xs s.s = some k) : Calls Tryd.prog 12 #[.pointer (some ⟨p, 0, none⟩), .string s.s] w fun e w' => e = .returned (.tuple #[usV (leftQ xs S k), .int .i64 0]) ∧ Same w w' := by
  obtain ⟨W1, hW1⟩ : ∃ W, W = w.alloc (.cells #[.int .i64 0, .int .i64 0] 31) := ⟨_, rfl⟩
  obtain ⟨xb, hxb⟩ : ∃ b, b = w.heap.size := ⟨_, rfl⟩
  have HK1 : Hid (Same w W1 ∧ w.heap.size ≤ xb) := hid ⟨by rw [hW1]; exact (Kept.refl _ w).alloc _, by omega⟩
  have HB : Hid (Blk W1 xb #[.int .i64 0, .int .i64 0] 31) := hid (by rw [hW1, hxb]; exact Blk.new w _ _)
  have HF := qfind_some (h.same HK1.out.1) s hk
  have hL : ∀ W, Same w W → _ := fun W hW => (h.same hW).left (idxT_lt hk)
  obtain ⟨a, ha⟩ : ∃ a, a = bl.getD k 0 := ⟨_, rfl⟩
  obtain ⟨q, hq⟩ : ∃ q, q = leftQ xs S k := ⟨_, rfl⟩
  rw [← ha] at HF hL
  rw [← hq] at hL ⊢
  unfold usV at hL
  have HL := hid hL
  clear ha hL h hk hq
  go_enter Tryd.func12, Tryd.ntmps12
  go_upto_region 1 with fail
  rw [← hW1, ← hxb]
  clear hW1 hxb
  go_wp2_with fail
  refine HF.mono ?_
  rintro e w2 ⟨rfl, hk2⟩
  have HB2 := hid (HB.out.kept hk2 (fun f => f))
  have HK2 := hid (Same.trans HK1.out.1 hk2)
  clear hk2 HF
  go_wp2_with fail
  refine (HL.out _ HK2.out).mono ?_
  rintro e w3 ⟨rfl, hk3⟩
  have HB3 := hid (HB2.out.kept hk3 (fun f => f))
  have HK3 := hid (Same.trans HK2.out hk3)
  obtain ⟨z0, z1, z2, z3⟩ := HB3.out.c2
  clear hk3
  go_wp2_with fail
  refine bodyPost_ret (v := .tuple #[usV q, .int .i64 0]) (by rw [results_17b (p := 4) (b := 5) (ty := 31) rfl _ _ _ _ _ ⟨xb, 0, none⟩ _ rfl (loadU (set17 HB3.out).1)]; rfl) rfl ?_
  exact ⟨rfl, HK3.out.then (set17 HB3.out).2 (fun k hk e => by have := HK1.out.2; omega)⟩

theorem qleft_any (h : Qb w p ma mr bl xs S) (s : Nm) : Calls Tryd.prog 12 #[.pointer (some ⟨p, 0, none⟩), .string s.s] w fun e w' => e = .returned (leftV xs S s.s) ∧ Same w w' := by
  unfold leftV
  cases hi : idxT xs s.s with
  | none => exact qleft_err w _ s.s 170 rfl (fun W hW => qfind_none (h.same hW) s hi)
  | some k => exact qleft_ok h s hi

/-- What Set says, and makes of a state. -/
def setZ (xs : List Tn) (s : ByteArray) (u : Us) : Int := match idxT xs s with | none => 170 | some _ => if u.inn 0 1000000000 then 0 else 1
def setS (xs : List Tn) (S : Sq) (s : ByteArray) (u : Us) : Sq := match idxT xs s with | none => S | some k => if u.inn 0 1000000000 then S.set k u else S

/-- An account's use or what it holds is another one. -/
theorem Qb.acc_ne (h : Qb w p ma mr bl xs S) {k : Nat} (hk : k < xs.length) : bl.getD k 0 ≠ p ∧ bl.getD k 0 ≠ ma ∧ bl.getD k 0 ≠ mr ∧ ∀ j, j < xs.length → j ≠ k → bl.getD j 0 ≠ bl.getD k 0 := by
  obtain ⟨A, h1, _⟩ := h.ten
  obtain ⟨R, h3, _⟩ := h.res
  refine ⟨(h.acc k hk).ne h.blk (by decide), h1.ne (h.acc k hk), h3.ne (h.acc k hk), fun j hj hjk e => ?_⟩
  have hkl : k < bl.length := by rw [h.len]; exact hk
  have hjl : j < bl.length := by rw [h.len]; exact hj
  rw [List.getD_eq_getElem?_getD, List.getD_eq_getElem?_getD, List.getElem?_eq_getElem hkl, List.getElem?_eq_getElem hjl] at e
  simp only [Option.getD_some] at e
  rcases Nat.lt_or_gt_of_ne hjk with hlt | hlt
  · exact List.pairwise_iff_getElem.1 h.nd j k hjl hkl hlt e
  · exact List.pairwise_iff_getElem.1 h.nd k j hkl hjl hlt e.symm

theorem Qb.setUse (h : Qb w p ma mr bl xs S) {k : Nat} (hk : k < xs.length) (u : Us) (hu : u.inn 0 2000000000) (hs : (u.add (S.held k)).le ⟨2000000000, 2000000000⟩) {w' : World} (hB : Blk w' (bl.getD k 0) (acE (mayT xs k) u (S.held k)) 58) (hK : Kept (· = bl.getD k 0) w w') : Qb w' p ma mr bl xs (S.set k u) := by
  obtain ⟨n1, n2, n3, n4⟩ := h.acc_ne hk
  obtain ⟨A, h1, h2⟩ := h.ten
  obtain ⟨R, h3, h4, h5⟩ := h.res
  refine ⟨h.inv.set hk hu hs, h.blk.kept hK n1.symm, h.len, h.nd, fun j hj => ?_, ⟨A, h1.kept hK n2.symm, h2⟩, ⟨R, h3.kept hK n3.symm, h4, h5⟩, h.mm⟩
  rw [S.use_set k j u (by rw [h.inv.len]; exact hk), show (S.set k u).held j = S.held j from rfl]
  split
  · rename_i e; subst e; exact hB
  · rename_i e; exact (h.acc j hj).kept hK (n4 j hj (fun e2 => e e2.symm))

theorem set6u {w : World} {a : Nat} {m u h : Us} {t : TypeId} (hb : Blk w a (acE m u h) t) (u' : Us) : Blk ((w.setCell ⟨a, 2, none⟩ (.int .i64 u'.b)).setCell ⟨a, 3, none⟩ (.int .i64 u'.e)) a (acE m u' h) t ∧ Kept (· = a) w ((w.setCell ⟨a, 2, none⟩ (.int .i64 u'.b)).setCell ⟨a, 3, none⟩ (.int .i64 u'.e)) := by
  refine ⟨?_, ((Kept.refl (· = a) w).setCell _ _ (.inl rfl)).setCell _ _ (.inl rfl)⟩
  have h9 := (hb.set 2 (.int .i64 u'.b)).set 3 (.int .i64 u'.e)
  simpa [acE] using h9

theorem set6h {w : World} {a : Nat} {m u h : Us} {t : TypeId} (hb : Blk w a (acE m u h) t) (h' : Us) : Blk ((w.setCell ⟨a, 4, none⟩ (.int .i64 h'.b)).setCell ⟨a, 5, none⟩ (.int .i64 h'.e)) a (acE m u h') t ∧ Kept (· = a) w ((w.setCell ⟨a, 4, none⟩ (.int .i64 h'.b)).setCell ⟨a, 5, none⟩ (.int .i64 h'.e)) := by
  refine ⟨?_, ((Kept.refl (· = a) w).setCell _ _ (.inl rfl)).setCell _ _ (.inl rfl)⟩
  have h9 := (hb.set 4 (.int .i64 h'.b)).set 5 (.int .i64 h'.e)
  simpa [acE] using h9

set_option maxRecDepth 100000 in
set_option maxHeartbeats 400000 in
theorem qset_err (w : World) (p : Value) (s : ByteArray) (u : Us) (z : Int) (hz : (z == 0) = false) (hf : ∀ W, Same w W → Calls Tryd.prog 22 #[p, .string s] W fun e w' => e = .returned (.tuple #[.pointer none, .int .i64 z]) ∧ Same W w') : Calls Tryd.prog 19 #[p, .string s, usV u] w fun e w' => e = .returned (.int .i64 z) ∧ Same w w' := by
  obtain ⟨u0, u1⟩ := u
  obtain ⟨W1, hW1⟩ : ∃ W, W = w.alloc (.cells #[.int .i64 u0, .int .i64 u1] 31) := ⟨_, rfl⟩
  obtain ⟨xb, hxb⟩ : ∃ b, b = w.heap.size := ⟨_, rfl⟩
  have HK1 : Hid (Same w W1) := hid (by rw [hW1]; exact (Kept.refl _ w).alloc _)
  have HF := hf W1 HK1.out
  have hz2 : (z != 0) = true := by simp [bne, hz]
  unfold usV
  simp only
  clear hf
  go_enter Tryd.func19, Tryd.ntmps19
  go_upto_region 1 with fail
  rw [← hW1, ← hxb]
  clear hW1 hxb
  go_wp2_with fail
  refine HF.mono ?_
  rintro e w2 ⟨rfl, hk2⟩
  have HK2 := hid (Same.trans HK1.out hk2)
  clear hk2 HF
  go_wp2_with fail
  go_ret
  exact ⟨rfl, HK2.out⟩

set_option maxRecDepth 100000 in
set_option maxHeartbeats 400000 in
theorem qset_in (h : Qb w p ma mr bl xs S) (s : Nm) (u : Us) {k : Nat} (hk : idxT xs s.s = some k) (hin : u.inn 0 1000000000) : Calls Tryd.prog 19 #[.pointer (some ⟨p, 0, none⟩), .string s.s, usV u] w fun e w' => e = .returned (.int .i64 0) ∧ Qb w' p ma mr bl xs (S.set k u) ∧ Kept (FQ p ma mr bl) w w' := by
  obtain ⟨W1, hW1⟩ : ∃ W, W = w.alloc (.cells #[.int .i64 u.b, .int .i64 u.e] 31) := ⟨_, rfl⟩
  obtain ⟨xb, hxb⟩ : ∃ b, b = w.heap.size := ⟨_, rfl⟩
  have HK1 : Hid (Same w W1 ∧ w.heap.size ≤ xb) := hid ⟨by rw [hW1]; exact (Kept.refl _ w).alloc _, by omega⟩
  have HB : Hid (Blk W1 xb #[.int .i64 u.b, .int .i64 u.e] 31) := hid (by rw [hW1, hxb]; exact Blk.new w _ _)
  have HF := qfind_some (h.same HK1.out.1) s hk
  have HKL := hid (idxT_lt hk)
  have H := hid h
  have HAM : Hid (bl.getD k 0 ∈ bl) := hid (getD_mem (by rw [h.len]; exact HKL.out))
  obtain ⟨a, ha⟩ : ∃ a, a = bl.getD k 0 := ⟨_, rfl⟩
  rw [← ha] at HF
  have HA := hid ha
  have HW : Hid (∀ W b, decide (u.inn 0 1000000000) = b → Calls Tryd.prog 30 #[.agg #[.int .i64 u.b, .int .i64 u.e], .int .i64 0, .int .i64 1000000000] W fun e w' => e = .returned (.bool b) ∧ Same W w') := hid (fun W b hb => within_any W u 0 1000000000 b hb)
  have HI := hid hin
  have HWT0 : Hid (decide (u.inn 0 1000000000) = true) := hid (decide_eq_true hin)
  unfold usV
  clear ha h hk hin
  go_enter Tryd.func19, Tryd.ntmps19
  go_upto_region 1 with fail
  rw [← hW1, ← hxb]
  clear hW1 hxb
  go_wp2_with fail
  refine HF.mono ?_
  rintro e w2 ⟨rfl, hk2⟩
  have HB2 := hid (HB.out.kept hk2 (fun f => f))
  have HK2 := hid (Same.trans HK1.out.1 hk2)
  obtain ⟨y0, y1, _, _⟩ := HB2.out.c2
  clear hk2 HF
  have HWT := HW.out w2 true HWT0.out
  go_wp2_with fail
  refine HWT.mono ?_
  rintro e w3 ⟨rfl, hk3⟩
  have HB3 := hid (HB2.out.kept hk3 (fun f => f))
  have HK3 := hid (Same.trans HK2.out hk3)
  have H3 := hid (H.out.same HK3.out)
  clear y0 y1
  obtain ⟨y0, y1, _, _⟩ := HB3.out.c2
  have HA3 : Hid (Blk w3 a (acE (mayT xs k) (S.use k) (S.held k)) 58) := hid (by rw [HA.out]; exact H3.out.acc k HKL.out)
  have hA3 := HA3.out
  unfold acE at hA3
  obtain ⟨_, _, c2, c3, _, _⟩ := hA3.c6
  have f2 := hA3.frozen 2
  have f3 := hA3.frozen 3
  clear hk3 HWT hA3
  go_wp2_with fail
  go_ret
  refine ⟨rfl, H3.out.setUse HKL.out u (by have := HI.out; unfold Us.inn at *; omega) ?_ (by rw [← HA.out]; exact (set6u HA3.out u).1) (by rw [← HA.out]; exact (set6u HA3.out u).2), Kept.trans HK3.out (set6u HA3.out u).2 (fun _ _ f => f.elim) (fun x _ e => .inr (.inr (.inr (by rw [e, HA.out]; exact HAM.out))))⟩
  have h8 := H.out.inv.num HKL.out
  have h9 := HI.out
  unfold Us.inn at h8 h9
  unfold Us.le Us.add
  simp only
  omega
set_option maxRecDepth 100000 in
set_option maxHeartbeats 400000 in
theorem qset_out (h : Qb w p ma mr bl xs S) (s : Nm) (u : Us) {k : Nat} (hk : idxT xs s.s = some k) (hin : ¬ u.inn 0 1000000000) : Calls Tryd.prog 19 #[.pointer (some ⟨p, 0, none⟩), .string s.s, usV u] w fun e w' => e = .returned (.int .i64 1) ∧ Qb w' p ma mr bl xs S ∧ Kept (FQ p ma mr bl) w w' := by
  obtain ⟨W1, hW1⟩ : ∃ W, W = w.alloc (.cells #[.int .i64 u.b, .int .i64 u.e] 31) := ⟨_, rfl⟩
  obtain ⟨xb, hxb⟩ : ∃ b, b = w.heap.size := ⟨_, rfl⟩
  have HK1 : Hid (Same w W1 ∧ w.heap.size ≤ xb) := hid ⟨by rw [hW1]; exact (Kept.refl _ w).alloc _, by omega⟩
  have HB : Hid (Blk W1 xb #[.int .i64 u.b, .int .i64 u.e] 31) := hid (by rw [hW1, hxb]; exact Blk.new w _ _)
  have HF := qfind_some (h.same HK1.out.1) s hk
  have HKL := hid (idxT_lt hk)
  have H := hid h
  have HAM : Hid (bl.getD k 0 ∈ bl) := hid (getD_mem (by rw [h.len]; exact HKL.out))
  obtain ⟨a, ha⟩ : ∃ a, a = bl.getD k 0 := ⟨_, rfl⟩
  rw [← ha] at HF
  have HA := hid ha
  have HW : Hid (∀ W b, decide (u.inn 0 1000000000) = b → Calls Tryd.prog 30 #[.agg #[.int .i64 u.b, .int .i64 u.e], .int .i64 0, .int .i64 1000000000] W fun e w' => e = .returned (.bool b) ∧ Same W w') := hid (fun W b hb => within_any W u 0 1000000000 b hb)
  have HWT0 : Hid (decide (u.inn 0 1000000000) = false) := hid (decide_eq_false hin)
  unfold usV
  clear ha h hk hin
  go_enter Tryd.func19, Tryd.ntmps19
  go_upto_region 1 with fail
  rw [← hW1, ← hxb]
  clear hW1 hxb
  go_wp2_with fail
  refine HF.mono ?_
  rintro e w2 ⟨rfl, hk2⟩
  have HB2 := hid (HB.out.kept hk2 (fun f => f))
  have HK2 := hid (Same.trans HK1.out.1 hk2)
  obtain ⟨y0, y1, _, _⟩ := HB2.out.c2
  clear hk2 HF
  have HWT := HW.out w2 false HWT0.out
  go_wp2_with fail
  refine HWT.mono ?_
  rintro e w3 ⟨rfl, hk3⟩
  have HK3 := hid (Same.trans HK2.out hk3)
  clear hk3 HWT
  go_wp2_with fail
  go_ret
  exact ⟨rfl, H.out.same HK3.out, HK3.out.mono (fun _ _ f => f.elim)⟩

theorem qset_any (h : Qb w p ma mr bl xs S) (s : Nm) (u : Us) : Calls Tryd.prog 19 #[.pointer (some ⟨p, 0, none⟩), .string s.s, usV u] w fun e w' => e = .returned (.int .i64 (setZ xs s.s u)) ∧ Qb w' p ma mr bl xs (setS xs S s.s u) ∧ Kept (FQ p ma mr bl) w w' := by
  unfold setZ setS
  cases hi : idxT xs s.s with
  | none => exact (qset_err w _ s.s u 170 rfl (fun W hW => qfind_none (h.same hW) s hi)).mono (fun e w' ⟨he, hk⟩ => ⟨he, h.same hk, hk.mono (fun _ _ f => f.elim)⟩)
  | some k =>
    simp only
    by_cases hin : u.inn 0 1000000000
    · rw [if_pos hin, if_pos hin]; exact qset_in h s u hi hin
    · rw [if_neg hin, if_neg hin]; exact qset_out h s u hi hin

end

end Go.Proofs.YtjlkchjcmiljjaaDoor
