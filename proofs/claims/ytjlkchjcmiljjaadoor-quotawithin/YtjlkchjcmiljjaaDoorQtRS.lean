/-
  Layer 17, the reference: Set, New.
-/
import Derived.Test.YtjlkchjcmiljjaaDoorQtR
import Derived.Test.YtjlkchjcmiljjaaDoorCopyK
namespace Go.Proofs.YtjlkchjcmiljjaaDoor
open Go.RowKit Go.Maps

theorem flat_setU : ∀ (xs : List Us) (i : Nat) (u : Us) (_ : i < xs.length), ((xs.flatMap usE).set (i * 2) (.int .i64 u.b)).set (i * 2 + 1) (.int .i64 u.e) = (xs.set i u).flatMap usE
  | [], i, k, hi => by simp at hi
  | x :: xs, 0, k, _ => by simp [usE]
  | x :: xs, i + 1, k, hi => by
    have h1 := flat_setU xs i k (by simp at hi; omega)
    rw [List.flatMap_cons, List.set_cons_succ, List.flatMap_cons, ← h1]
    have e : (i + 1) * 2 = i * 2 + 1 + 1 := by omega
    rw [e, show i * 2 + 1 + 1 + 1 = (i * 2 + 1) + 1 + 1 by omega]
    rfl

theorem RowC.setU {B : Nat} {w : World} {g n cap : Nat} {xs : List Us} (h : RowC B 31 2 usE w (.slice (some ⟨g, 0, none⟩) n cap) xs) (i : Nat) (u : Us) (hi : i < xs.length) :
    RowC B 31 2 usE ((w.setCell ⟨g, i * 2, none⟩ (.int .i64 u.b)).setCell ⟨g, i * 2 + 1, none⟩ (.int .i64 u.e)) (.slice (some ⟨g, 0, none⟩) n cap) (xs.set i u) := by
  have hl := h.len
  subst hl
  have h1 := (World.ownsRow.stored h (i * 2) (.int .i64 u.b)).1
  have h2 := (World.ownsRow.stored h1 (i * 2 + 1) (.int .i64 u.e)).1
  rw [flat_setU xs i u hi] at h2
  unfold RowC
  rw [List.length_set]
  exact h2

theorem out_ways {u : Us} {l h : Int} (hn : ¬ u.inn l h) : decide (u.b < l) = true ∨ (decide (u.b < l) = false ∧ decide (h < u.b) = true) ∨ (decide (u.b < l) = false ∧ decide (h < u.b) = false ∧ decide (u.e < l) = true) ∨ (decide (u.b < l) = false ∧ decide (h < u.b) = false ∧ decide (u.e < l) = false ∧ decide (h < u.e) = true) := by
  unfold Us.inn at hn
  simp only [decide_eq_true_eq, decide_eq_false_iff_not]
  by_cases g1 : u.b < l
  · exact .inl g1
  by_cases g2 : h < u.b
  · exact .inr (.inl ⟨g1, g2⟩)
  by_cases g3 : u.e < l
  · exact .inr (.inr (.inl ⟨g1, g2, g3⟩))
  by_cases g4 : h < u.e
  · exact .inr (.inr (.inr ⟨g1, g2, g3, g4⟩))
  exact absurd ⟨by omega, by omega, by omega, by omega⟩ hn

theorem in_ways {u : Us} {l h : Int} (hn : u.inn l h) : decide (u.b < l) = false ∧ decide (h < u.b) = false ∧ decide (u.e < l) = false ∧ decide (h < u.e) = false := by
  unfold Us.inn at hn
  simp only [decide_eq_false_iff_not]
  omega

section
variable {N : Nat} {w : World} {q : Nat} {lv uv hv : Value} {xs : List Tn} {S : Sq}

/-- A use set anew. -/
theorem Rq.setU (h : Rq N w q lv uv hv xs S) (hi : Qv xs S) {k : Nat} (hk : k < xs.length) (u : Us) {g n cap : Nat} (e : uv = .slice (some ⟨g, 0, none⟩) n cap) : Rq N ((w.setCell ⟨g, k * 2, none⟩ (.int .i64 u.b)).setCell ⟨g, k * 2 + 1, none⟩ (.int .i64 u.e)) q lv uv hv xs (S.set k u) ∧ Kept (FR q uv hv) w ((w.setCell ⟨g, k * 2, none⟩ (.int .i64 u.b)).setCell ⟨g, k * 2 + 1, none⟩ (.int .i64 u.e)) := by
  subst e
  have hkp : Kept (fun j => (Value.slice (some ⟨g, 0, none⟩) n cap).ownBlock = some j) w ((w.setCell ⟨g, k * 2, none⟩ (.int .i64 u.b)).setCell ⟨g, k * 2 + 1, none⟩ (.int .i64 u.e)) := ((Kept.refl (fun j => (Value.slice (some ⟨g, 0, none⟩) n cap).ownBlock = some j) w).setCell ⟨g, k * 2, none⟩ _ (.inl rfl)).setCell ⟨g, k * 2 + 1, none⟩ _ (.inl rfl)
  refine ⟨⟨h.blk.kept hkp (fun f => h.use.offB h.blk (by decide) f), h.ten.kept tnE_ok hkp (fun j hj _ f => by have := h.use.ge f; omega), h.use.setU k u (by rw [hi.len]; exact hk), h.hel.kept hkp (fun j e f => h.hel.offR h.use (by decide) j e f), h.ge⟩, hkp.mono (fun k _ e => .inr (.inl e))⟩

set_option maxRecDepth 100000 in
set_option maxHeartbeats 1000000 in
theorem rqset_err (h : Rq N w q lv uv hv xs S) (hi : Qv xs S) (t : ByteArray) (u : Us) (hx : idxT xs t = none) : Calls Tryd.prog 24 #[.pointer (some ⟨q, 0, none⟩), .string t, usV u] w fun e w' => e = .returned (.int .i64 170) ∧ Same w w' := by
  obtain ⟨W1, hW1⟩ : ∃ W, W = w.alloc (.cells #[.int .i64 u.b, .int .i64 u.e] 31) := ⟨_, rfl⟩
  obtain ⟨xb, hxb⟩ : ∃ b, b = w.heap.size := ⟨_, rfl⟩
  have HK1 : Hid (Same w W1 ∧ w.heap.size ≤ xb) := hid ⟨by rw [hW1]; exact (Kept.refl _ w).alloc _, by omega⟩
  have HF := rqfind_any (h.same HK1.out.1) hi.n8 t
  rw [fdZ_none hx] at HF
  unfold usV
  clear h hi hx
  go_enter Tryd.func24, Tryd.ntmps24
  go_upto_region 1 with fail
  rw [← hW1, ← hxb]
  clear hW1 hxb
  go_wp2_with fail
  refine HF.mono ?_
  rintro e w2 ⟨rfl, rfl⟩
  clear HF
  go_wp2_with fail
  go_ret
  exact ⟨rfl, HK1.out.1⟩

set_option maxRecDepth 100000 in
set_option maxHeartbeats 1000000 in
theorem rqset_out (h : Rq N w q lv uv hv xs S) (hi : Qv xs S) (t : ByteArray) (u : Us) {k : Nat} (hx : idxT xs t = some k) (hin : ¬ u.inn 0 1000000000) : Calls Tryd.prog 24 #[.pointer (some ⟨q, 0, none⟩), .string t, usV u] w fun e w' => e = .returned (.int .i64 1) ∧ Same w w' := by
  obtain ⟨W1, hW1⟩ : ∃ W, W = w.alloc (.cells #[.int .i64 u.b, .int .i64 u.e] 31) := ⟨_, rfl⟩
  obtain ⟨xb, hxb⟩ : ∃ b, b = w.heap.size := ⟨_, rfl⟩
  have HK1 : Hid (Same w W1 ∧ w.heap.size ≤ xb) := hid ⟨by rw [hW1]; exact (Kept.refl _ w).alloc _, by omega⟩
  have HB : Blk W1 xb #[.int .i64 u.b, .int .i64 u.e] 31 := by rw [hW1, hxb]; exact Blk.new w _ _
  obtain ⟨y0, y1, _, _⟩ := HB.c2
  have HF := rqfind_any (h.same HK1.out.1) hi.n8 t
  rw [fdZ_some hx] at HF
  have c3 : decide ((k : Int) < 0) = false := by simp
  have hd := out_ways hin
  unfold usV
  clear h hi hx HB hin
  go_enter Tryd.func24, Tryd.ntmps24
  go_upto_region 1 with fail
  rw [← hW1, ← hxb]
  clear hW1 hxb
  go_wp2_with fail
  refine HF.mono ?_
  rintro e w2 ⟨rfl, rfl⟩
  clear HF
  go_upto_region 4 with fail
  rcases hd with d0 | ⟨d0, d1⟩ | ⟨d0, d1, d2⟩ | ⟨d0, d1, d2, d3⟩
  all_goals
    go_wp2_with fail
    go_ret
    exact ⟨rfl, HK1.out.1⟩

set_option maxRecDepth 100000 in
set_option maxHeartbeats 1000000 in
theorem rqset_in (h : Rq N w q lv uv hv xs S) (hi : Qv xs S) (t : ByteArray) (u : Us) {k : Nat} (hx : idxT xs t = some k) (hin : u.inn 0 1000000000) : Calls Tryd.prog 24 #[.pointer (some ⟨q, 0, none⟩), .string t, usV u] w fun e w' => e = .returned (.int .i64 0) ∧ Rq N w' q lv uv hv xs (S.set k u) ∧ Kept (FR q uv hv) w w' := by
  obtain ⟨W1, hW1⟩ : ∃ W, W = w.alloc (.cells #[.int .i64 u.b, .int .i64 u.e] 31) := ⟨_, rfl⟩
  obtain ⟨xb, hxb⟩ : ∃ b, b = w.heap.size := ⟨_, rfl⟩
  have HK1 : Hid (Same w W1 ∧ w.heap.size ≤ xb) := hid ⟨by rw [hW1]; exact (Kept.refl _ w).alloc _, by omega⟩
  have HB : Blk W1 xb #[.int .i64 u.b, .int .i64 u.e] 31 := by rw [hW1, hxb]; exact Blk.new w _ _
  obtain ⟨y0, y1, _, _⟩ := HB.c2
  obtain ⟨y0d, y1d, _, _⟩ := (HB.kept (show Same W1 W1.drew from (Kept.refl _ _).drew) (fun f => f)).c2
  have H1 := h.same HK1.out.1
  have HF := rqfind_any H1 hi.n8 t
  rw [fdZ_some hx] at HF
  have hkl := idxT_lt hx
  obtain ⟨g, cap, eu, u0, u1, f0, f1⟩ := H1.useAt hi hkl
  have x1 := H1.blk.cell 1
  simp only [List.getElem?_toArray, List.getElem?_cons_succ, List.getElem?_cons_zero] at x1
  rw [eu] at x1
  have x1d := (show Same W1 W1.drew from (Kept.refl _ _).drew).cell x1 (fun f => f)
  have HFIN := hid (H1.setU hi hkl u eu)
  have c1 : (0 : Int) ≤ (k : Int) := by omega
  have c2 : (k : Int) < (xs.length : Int) := by omega
  have c3 : decide ((k : Int) < 0) = false := by simp
  obtain ⟨d0, d1, d2, d3⟩ := in_ways hin
  unfold usV
  clear h hi hx HB hin H1 eu hkl
  go_enter Tryd.func24, Tryd.ntmps24
  go_upto_region 1 with fail
  rw [← hW1, ← hxb]
  clear hW1 hxb
  go_wp2_with fail
  refine HF.mono ?_
  rintro e w2 ⟨rfl, rfl⟩
  clear HF
  go_upto_region 6 with fail
  go_region
  all_goals
    go_wp2_with fail
    go_ret
    exact ⟨rfl, HFIN.out.1.same ((Kept.refl _ _).drew), Kept.trans HK1.out.1 HFIN.out.2.drew (fun _ _ f => f.elim) (fun _ _ e => e)⟩

theorem rqset_any (h : Rq N w q lv uv hv xs S) (hi : Qv xs S) (t : ByteArray) (u : Us) : Calls Tryd.prog 24 #[.pointer (some ⟨q, 0, none⟩), .string t, usV u] w fun e w' => e = .returned (.int .i64 (setZ xs t u)) ∧ Rq N w' q lv uv hv xs (setS xs S t u) ∧ Kept (FR q uv hv) w w' := by
  unfold setZ setS
  cases hx : idxT xs t with
  | none => exact (rqset_err h hi t u hx).mono fun e w' ⟨he, hk⟩ => ⟨he, h.same hk, hk.mono (fun _ _ f => f.elim)⟩
  | some k =>
    simp only
    by_cases hin : u.inn 0 1000000000
    · rw [if_pos hin, if_pos hin]; exact rqset_in h hi t u hx hin
    · rw [if_neg hin, if_neg hin]; exact (rqset_out h hi t u hx hin).mono fun e w' ⟨he, hk⟩ => ⟨he, h.same hk, hk.mono (fun _ _ f => f.elim)⟩

end

theorem Tryd.infoUse17 : (Tryd.prog.info? 31).map (fun i => (i.zero, i.size, i.bytes)) = some (some (.agg #[.int .i64 0, .int .i64 0]), 2, 16) := by kernel_rfl

set_option maxRecDepth 100000 in
set_option maxHeartbeats 1000000 in
theorem rqnew_any (w : World) (ao : Option Addr) (n c : Nat) (xs : List Tn) (h : SrcC 4 tnE w (fun k => k < w.heap.size) (.slice ao n c) xs) (h8 : n ≤ 1000) : Calls Tryd.prog 14 #[.slice ao n c] w fun e w' => ∃ q uv, e = .returned (.pointer (some ⟨q, 0, none⟩)) ∧ Rq w.heap.size w' q (.slice ao n c) uv (.slice none 0 0) xs (newS xs.length) ∧ Same w w' := by
  have HS := hid h
  have HN := hid h.len4
  clear h
  go_enter Tryd.func14, Tryd.ntmps14
  go_wp2_with (at_make; refine wpList_make_c _ usE 2 usE_ok (default : Us) w.heap.size 44 31 (.agg #[.int .i64 0, .int .i64 0]) 16 Tryd.underlying44 Tryd.infoUse17 rfl (by decide) rfl _ _ rfl _ _ _ _ n rfl rfl rfl rfl (by omega) (Nat.le_refl _) ?_; intro w2 hr2 hg2 hs2; have HR2 := hid hr2; have HK2 : Hid (Same w w2) := hid ((Kept.refl _ w).grown hg2 (fun j e => by cases e)); clear hr2 hg2 hs2)
  go_ret
  refine ⟨w2.heap.size, .slice (some ⟨w.heap.size, 0, none⟩) n n, rfl, ⟨?_, ?_, ?_, RowC.nil, ?_⟩, HK2.out.alloc _⟩
  · exact Blk.new w2 _ _
  · exact HS.out.kept tnE_ok (HK2.out.alloc _) (fun _ _ _ f => f)
  · rw [show (newS xs.length).us = List.replicate n (default : Us) by rw [HN.out.1]; rfl]
    exact HR2.out.kept (show Same w2 _ from (Kept.refl _ w2).alloc _) (fun _ _ f => f)
  · exact HK2.out.size

end Go.Proofs.YtjlkchjcmiljjaaDoor
