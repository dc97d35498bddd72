/-
  Layer 17, the reference: Take, Free.
-/
import Derived.Test.YtjlkchjcmiljjaaDoorQtRG
import Derived.Test.YtjlkchjcmiljjaaDoorQtRS
import Derived.StillTailTactics
namespace Go.Proofs.YtjlkchjcmiljjaaDoor
open Go.RowKit Go.Maps

section
variable {N : Nat} {w : World} {q : Nat} {lv uv hv : Value} {xs : List Tn} {S : Sq}

set_option maxRecDepth 100000 in
set_option maxHeartbeats 1000000 in
theorem rqfree_any (h : Rq N w q lv uv hv xs S) (hNw : N ≤ w.heap.size) (hL : S.hs.length ≤ 1000000) (n : Int) : Calls Tryd.prog 29 #[.pointer (some ⟨q, 0, none⟩), .int .i64 n] w fun e w' => e = .returned (.int .i64 (takeZ S n)) ∧ (∃ hv', Rq N w' q lv uv hv' xs (freeS S n)) ∧ Kept (FR q uv hv) w w' := by
  have HG := rqgone_any h hNw hL n
  unfold takeZ
  cases hx : S.find n with
  | none =>
    rw [hx] at HG
    unfold hdV at HG
    clear h hNw hL hx
    simp only at HG
    go_enter Tryd.func29, Tryd.ntmps29
    go_wp2_with fail
    refine HG.mono ?_
    rintro e w2 ⟨rfl, ⟨hv', hq2⟩, hk2⟩
    obtain ⟨W3, hW3⟩ : ∃ W, W = w2.alloc (.cells #[.int .i64 0, .int .i64 0, .int .i64 0, .int .i64 0] 78) := ⟨_, rfl⟩
    have hk3 : Same w2 W3 := by rw [hW3]; exact (Kept.refl _ _).alloc _
    have HF : Hid (Rq N W3 q lv uv hv' xs (freeS S n) ∧ Kept (FR q uv hv) w W3) := hid ⟨hq2.same hk3, Kept.trans hk2 hk3 (fun _ _ e => .inl e) (fun _ _ f => f.elim)⟩
    clear hq2 hk2 hk3 HG
    go_upto_region 2 with fail
    rw [← hW3]
    clear hW3
    go_wp2_with fail
    go_ret
    exact ⟨rfl, ⟨hv', HF.out.1⟩, HF.out.2⟩
  | some x =>
    rw [hx] at HG
    unfold hdV at HG
    clear h hNw hL hx
    simp only at HG
    go_enter Tryd.func29, Tryd.ntmps29
    go_wp2_with fail
    refine HG.mono ?_
    rintro e w2 ⟨rfl, ⟨hv', hq2⟩, hk2⟩
    obtain ⟨W3, hW3⟩ : ∃ W, W = w2.alloc (.cells #[.int .i64 (x.id : Nat), .int .i64 (x.ten : Nat), .int .i64 x.m.b, .int .i64 x.m.e] 78) := ⟨_, rfl⟩
    have hk3 : Same w2 W3 := by rw [hW3]; exact (Kept.refl _ _).alloc _
    have HF : Hid (Rq N W3 q lv uv hv' xs (freeS S n) ∧ Kept (FR q uv hv) w W3) := hid ⟨hq2.same hk3, Kept.trans hk2 hk3 (fun _ _ e => .inl e) (fun _ _ f => f.elim)⟩
    clear hq2 hk2 hk3 HG
    go_upto_region 2 with fail
    rw [← hW3]
    clear hW3
    go_wp2_with fail
    go_ret
    exact ⟨rfl, ⟨hv', HF.out.1⟩, HF.out.2⟩

set_option maxRecDepth 100000 in
set_option maxHeartbeats 1000000 in
theorem rqtake_none (h : Rq N w q lv uv hv xs S) (hNw : N ≤ w.heap.size) (hL : S.hs.length ≤ 1000000) (n : Int) (hx : S.find n = none) : Calls Tryd.prog 28 #[.pointer (some ⟨q, 0, none⟩), .int .i64 n] w fun e w' => e = .returned (.int .i64 172) ∧ (∃ hv', Rq N w' q lv uv hv' xs S) ∧ Kept (FR q uv hv) w w' := by
  have HG := rqgone_any h hNw hL n
  have hS : freeS S n = S := by unfold freeS; rw [hx]
  rw [hx, hS] at HG
  unfold hdV at HG
  clear h hNw hL hx hS
  simp only at HG
  go_enter Tryd.func28, Tryd.ntmps28
  go_wp2_with fail
  refine HG.mono ?_
  rintro e w2 ⟨rfl, ⟨hv', hq2⟩, hk2⟩
  obtain ⟨W3, hW3⟩ : ∃ W, W = w2.alloc (.cells #[.int .i64 0, .int .i64 0, .int .i64 0, .int .i64 0] 78) := ⟨_, rfl⟩
  have hk3 : Same w2 W3 := by rw [hW3]; exact (Kept.refl _ _).alloc _
  have HF : Hid (Rq N W3 q lv uv hv' xs S ∧ Kept (FR q uv hv) w W3) := hid ⟨hq2.same hk3, Kept.trans hk2 hk3 (fun _ _ e => .inl e) (fun _ _ f => f.elim)⟩
  clear hq2 hk2 hk3 HG
  go_upto_region 2 with fail
  rw [← hW3]
  clear hW3
  go_wp2_with fail
  go_ret
  exact ⟨rfl, ⟨hv', HF.out.1⟩, HF.out.2⟩

set_option maxRecDepth 100000 in
set_option maxHeartbeats 2000000 in
theorem rqtake_some (h : Rq N w q lv uv hv xs S) (hi : Qv xs S) (hNw : N ≤ w.heap.size) (hL : S.hs.length ≤ 1000000) (n : Int) {x : Hd} (hx : S.find n = some x) : Calls Tryd.prog 28 #[.pointer (some ⟨q, 0, none⟩), .int .i64 n] w fun e w' => e = .returned (.int .i64 0) ∧ (∃ hv', Rq N w' q lv uv hv' xs (S.take n x)) ∧ Kept (FR q uv hv) w w' := by
  have HG := rqgone_any h hNw hL n
  have hS : freeS S n = S.gone n := by unfold freeS; rw [hx]
  rw [hx, hS] at HG
  unfold hdV at HG
  have hxm := (Sq.find_mem hx).1
  have hkl := (hi.ids x hxm).2.2.1
  have hin := (hi.ids x hxm).2.2.2
  have hnum := hi.num hkl
  have HIV := hid (hi.gone hx)
  have HKL := hid hkl
  obtain ⟨k, hk⟩ : ∃ k, k = x.ten := ⟨_, rfl⟩
  obtain ⟨us, hus⟩ : ∃ d, d = S.use x.ten := ⟨_, rfl⟩
  obtain ⟨nt, hnt⟩ : ∃ d, d = xs.length := ⟨_, rfl⟩
  have hw1 : IntKind.i64.wrap (us.b + x.m.b) = us.b + x.m.b := by rw [hus]; unfold Us.inn at hin; exact wrap_in (by omega) (by omega)
  have hw2 : IntKind.i64.wrap (us.e + x.m.e) = us.e + x.m.e := by rw [hus]; unfold Us.inn at hin; exact wrap_in (by omega) (by omega)
  obtain ⟨v0, hv0⟩ : ∃ d : Int, d = max 0 (us.b + x.m.b) := ⟨_, rfl⟩
  obtain ⟨v1, hv1⟩ : ∃ d : Int, d = max 0 (us.e + x.m.e) := ⟨_, rfl⟩
  have HNU : Hid ((⟨v0, v1⟩ : Us) = ((S.use x.ten).add x.m).up) := hid (by rw [← hus, hv0, hv1]; rfl)
  have c1 : (0 : Int) ≤ (k : Int) := by omega
  have c2 : (k : Int) < (nt : Int) := by omega
  have HUS : Hid (us = (S.gone n).use k) := hid (by rw [hk]; exact hus)
  have HK := hid hk
  have HNT := hid hnt
  simp only at HG
  rw [← hk] at HG
  clear h hi hNw hL hx hS hin hnum hkl hxm hus hk hnt
  go_enter Tryd.func28, Tryd.ntmps28
  go_wp2_with fail
  refine HG.mono ?_
  rintro e w2 ⟨rfl, ⟨hv', hq2⟩, hk2⟩
  obtain ⟨W3, hW3⟩ : ∃ W, W = w2.alloc (.cells #[.int .i64 (x.id : Nat), .int .i64 (k : Nat), .int .i64 x.m.b, .int .i64 x.m.e] 78) := ⟨_, rfl⟩
  obtain ⟨g3, hg3⟩ : ∃ b, b = w2.heap.size := ⟨_, rfl⟩
  have hk3 : Same w2 W3 := by rw [hW3]; exact (Kept.refl _ _).alloc _
  have HB3 : Hid (Blk W3 g3 #[.int .i64 (x.id : Nat), .int .i64 (k : Nat), .int .i64 x.m.b, .int .i64 x.m.e] 78) := hid (by rw [hW3, hg3]; exact Blk.new w2 _ _)
  have HF : Hid (Rq N W3 q lv uv hv' xs (S.gone n) ∧ Kept (FR q uv hv) w W3) := hid ⟨hq2.same hk3, Kept.trans hk2 hk3 (fun _ _ e => .inl e) (fun _ _ f => f.elim)⟩
  obtain ⟨g, cap, eu, u0, u1, _, _⟩ := HF.out.1.useAt HIV.out (k := k) (by rw [HK.out]; exact HKL.out)
  rw [← HUS.out] at u0 u1
  rw [← HNT.out] at eu
  have HEU := hid eu
  have x1 := HF.out.1.blk.cell 1
  simp only [List.getElem?_toArray, List.getElem?_cons_succ, List.getElem?_cons_zero] at x1
  rw [eu] at x1
  obtain ⟨y0, y1, y2, y3⟩ := HB3.out.c4
  clear hq2 hk2 hk3 HG eu
  go_upto_region 2 with fail
  rw [← hW3, ← hg3]
  clear hW3 hg3
  go_upto_region 4 with fail
  go_region_held3 (fun w' => w'.cell? ⟨q, 1, none⟩ = some (.slice (some ⟨g, 0, none⟩) nt cap) ∧ w'.cell? ⟨g3, 1, none⟩ = some (.int .i64 (k : Nat)) ∧ w'.cell? ⟨g, k * 2, none⟩ = some (.int .i64 us.b) ∧ w'.cell? ⟨g, k * 2 + 1, none⟩ = some (.int .i64 us.e)) (go_keep) (fail)
  obtain ⟨W5, hW5⟩ : ∃ W, W = (W3.alloc (.cells #[.int .i64 us.b, .int .i64 us.e] 31)).drew := ⟨_, rfl⟩
  obtain ⟨g5, hg5⟩ : ∃ b, b = W3.heap.size := ⟨_, rfl⟩
  have hk5 : Same W3 W5 := by rw [hW5]; exact ((Kept.refl _ _).alloc _).drew
  have HB5 : Hid (Blk W5 g5 #[.int .i64 us.b, .int .i64 us.e] 31) := hid (by rw [hW5, hg5]; exact (Blk.new W3 _ _).kept (show Same _ (World.drew _) from (Kept.refl _ _).drew) (fun f => f))
  have HF5 : Hid (Rq N W5 q lv uv hv' xs (S.gone n) ∧ Kept (FR q uv hv) w W5) := hid ⟨HF.out.1.same hk5, Kept.trans HF.out.2 hk5 (fun _ _ e => e) (fun _ _ f => f.elim)⟩
  rw [← hW5, ← hg5]
  clear hW5 hg5 u0 u1 y0 y1 y2 y3 x1
  obtain ⟨y0, y1, y2, y3⟩ := (HB3.out.kept hk5 (fun f => f)).c4
  obtain ⟨z0, z1, _, _⟩ := HB5.out.c2
  obtain ⟨g', cap', eu', u0, u1, f0, f1⟩ := HF5.out.1.useAt HIV.out (k := k) (by rw [HK.out]; exact HKL.out)
  rw [HEU.out] at eu'
  injection eu' with e1 e2 e3
  injection e1 with e1
  injection e1 with e1 _
  subst e1 e3
  have x1 := HF5.out.1.blk.cell 1
  simp only [List.getElem?_toArray, List.getElem?_cons_succ, List.getElem?_cons_zero] at x1
  rw [HEU.out] at x1
  clear e2 hk5
  go_upto_region 5 with fail
  go_still_tail 22, (by kernel_rfl)
  rw [← hv0, ← hv1]
  clear hv0 hv1
  go_wp2_with fail
  go_ret
  have hfin := HF5.out.1.setU HIV.out (k := k) (by rw [HK.out]; exact HKL.out) ⟨v0, v1⟩ (g := g) (n := nt) (cap := cap) HEU.out
  refine ⟨rfl, ⟨hv', ?_⟩, ?_⟩
  · rw [show S.take n x = (S.gone n).set x.ten ⟨v0, v1⟩ by unfold Sq.take; rw [HNU.out], ← HK.out]
    exact hfin.1.same ((Kept.refl _ _).drew)
  · exact Kept.trans HF5.out.2 (show Kept (· = g) W5 _ from (((Kept.refl (· = g) W5).setCell ⟨g, k * 2, none⟩ _ (.inl rfl)).setCell ⟨g, k * 2 + 1, none⟩ _ (.inl rfl)).drew) (fun _ _ e => e) (fun j _ e => .inr (.inl (by rw [HEU.out, e]; rfl)))

theorem rqtake_any (h : Rq N w q lv uv hv xs S) (hi : Qv xs S) (hNw : N ≤ w.heap.size) (hL : S.hs.length ≤ 1000000) (n : Int) : Calls Tryd.prog 28 #[.pointer (some ⟨q, 0, none⟩), .int .i64 n] w fun e w' => e = .returned (.int .i64 (takeZ S n)) ∧ (∃ hv', Rq N w' q lv uv hv' xs (takeS S n)) ∧ Kept (FR q uv hv) w w' := by
  unfold takeZ takeS
  cases hx : S.find n with
  | none => exact rqtake_none h hNw hL n hx
  | some x => exact rqtake_some h hi hNw hL n hx

end

end Go.Proofs.YtjlkchjcmiljjaaDoor
