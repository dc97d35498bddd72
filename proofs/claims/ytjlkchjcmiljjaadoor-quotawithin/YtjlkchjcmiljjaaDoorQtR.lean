/-
  Layer 17, the reference: a book in memory; find, Use, Set.
-/
import Derived.Test.YtjlkchjcmiljjaaDoorQtA
import Derived.Test.YtjlkchjcmiljjaaDoorApt
import Derived.Test.YtjlkchjcmiljjaaDoorQtI
namespace Go.Proofs.YtjlkchjcmiljjaaDoor
open Go.RowKit Go.Maps

def hdE (h : Hd) : List Value := [.int .i64 (h.id : Nat), .int .i64 (h.ten : Nat), .int .i64 h.m.b, .int .i64 h.m.e]
theorem hdE_ok : EncOk hdE 4 := ⟨fun _ => rfl, fun x u hu => by simp [hdE] at hu; rcases hu with rfl | rfl | rfl | rfl <;> rfl, by decide⟩

/-- The reference's book in memory. -/
structure Rq (N : Nat) (w : World) (q : Nat) (lv uv hv : Value) (xs : List Tn) (S : Sq) : Prop where
  blk : Blk w q #[lv, uv, hv, .int .i64 (S.last : Nat)] 64
  ten : SrcC 4 tnE w (fun k => k < N) lv xs
  use : RowC N 31 2 usE w uv S.us
  hel : RowC N 78 4 hdE w hv S.hs
  ge : N ≤ q

/-- Its blocks. -/
def FR (q : Nat) (uv hv : Value) (k : Nat) : Prop := k = q ∨ uv.ownBlock = some k ∨ hv.ownBlock = some k

section
variable {N : Nat} {w : World} {q : Nat} {lv uv hv : Value} {xs : List Tn} {S : Sq}

theorem Rq.kept {F : Nat → Prop} {w' : World} (h : Rq N w q lv uv hv xs S) (hk : Kept F w w') (h0 : ∀ k, k < N → ¬ F k) (h1 : ¬ F q) (h2 : ∀ j, uv.ownBlock = some j → ¬ F j) (h3 : ∀ j, hv.ownBlock = some j → ¬ F j) : Rq N w' q lv uv hv xs S :=
  ⟨h.blk.kept hk h1, h.ten.kept tnE_ok hk (fun j hj _ => h0 j hj), h.use.kept hk h2, h.hel.kept hk h3, h.ge⟩

theorem Rq.same {w' : World} (h : Rq N w q lv uv hv xs S) (hk : Same w w') : Rq N w' q lv uv hv xs S := h.kept hk (fun _ _ f => f) (fun f => f) (fun _ _ f => f) (fun _ _ f => f)

theorem Rq.fp_ge (h : Rq N w q lv uv hv xs S) {k : Nat} (hk : FR q uv hv k) : N ≤ k := by
  rcases hk with rfl | hk | hk
  · exact h.ge
  · exact h.use.ge hk
  · exact h.hel.ge hk

theorem idxT_take {xs : List Tn} {s : ByteArray} {i : Nat} {x : Tn} (hx : xs[i]? = some x) (hn : ∀ y ∈ xs.take i, y.n ≠ s) (he : x.n = s) : idxT xs s = some i := by
  unfold idxT
  obtain ⟨hi, hx2⟩ := List.getElem?_eq_some_iff.1 hx
  rw [List.findIdx?_eq_some_iff_getElem]
  refine ⟨hi, by rw [hx2]; simpa using he, fun j hj => ?_⟩
  have h9 := hn xs[j] (by rw [List.mem_take_iff_getElem]; exact ⟨j, by omega, rfl⟩)
  simpa using h9

theorem idxT_no {xs : List Tn} {s : ByteArray} (hn : ∀ y ∈ xs, y.n ≠ s) : idxT xs s = none := by
  unfold idxT
  rw [List.findIdx?_eq_none_iff]
  intro t ht
  simpa using hn t ht

/-- What find says. -/
def fdZ (xs : List Tn) (s : ByteArray) : Int := match idxT xs s with | some k => (k : Nat) | none => -1

set_option maxRecDepth 100000 in
set_option maxHeartbeats 1000000 in
theorem rqfind_any (h : Rq N w q lv uv hv xs S) (hl : xs.length ≤ 8) (t : ByteArray) : Calls Tryd.prog 38 #[.pointer (some ⟨q, 0, none⟩), .string t] w fun e w' => e = .returned (.int .i64 (fdZ xs t)) ∧ w' = w := by
  obtain ⟨ao, cap, ev, hlen, _⟩ := h.ten
  have h0 := h.blk.cell 0
  have HS := hid h.ten
  rw [ev] at h0 HS
  simp only [List.getElem?_toArray, List.getElem?_cons_zero] at h0
  have HL := hid hl
  obtain ⟨m, hm⟩ : ∃ m, m = xs.length := ⟨_, rfl⟩
  rw [← hm] at h0 HS
  have HM := hid hm
  clear h hl ev hm hlen
  go_enter Tryd.func38, Tryd.ntmps38
  go_wp2_with fail
  go_loopg [5] m (fun qq z6 wr => ∃ i : Nat, z6 = .int .i64 (i : Nat) ∧ i ≤ m ∧ m - i ≤ qq ∧ wr = w ∧ Hid (∀ y ∈ xs.take i, y.n ≠ t))
  case atStart => exact ⟨0, rfl, by omega, by omega, rfl, hid (fun y hy => (by cases hy))⟩
  case round =>
    obtain ⟨i, rfl, hi, hiq, rfl, HI⟩ := hrel
    by_cases hlt : i < m
    · have e1 : decide ((i : Int) < (m : Int)) = true := by simp; omega
      have e2 : decide (i < m) = true := by simp; omega
      obtain ⟨b, o, x, rfl, _, hx, k0, k1, _, _⟩ := HS.out.at4 i hlt
      have c1 : (0 : Int) ≤ (i : Int) := by omega
      have c2 : (i : Int) < (m : Int) := by omega
      have hiw : IntKind.i64.wrap ((i : Int) + 1) = ((i + 1 : Nat) : Int) := by rw [IntKind.wrap_i64]; have := HL.out; have := HM.out; omega
      have HX := hid hx
      have HLT := hid hlt
      have HTK : Hid (xs.take (i + 1) = xs.take i ++ [x]) := hid (by rw [List.take_add_one, hx]; rfl)
      have heq := str_eqT x.n t
      clear hx hlt
      by_cases he : x.n = t
      · rw [decide_eq_true he] at heq
        have HSE := hid (idxT_take HX.out HI.out he)
        clear he
        go_wp2_with fail
        go_ret
        exact ⟨by unfold fdZ; rw [HSE.out]; rfl, rfl⟩
      · rw [decide_eq_false he] at heq
        have HNX : Hid (∀ y ∈ xs.take (i + 1), y.n ≠ t) := hid (fun y hy => by
          rw [HTK.out] at hy
          rcases List.mem_append.1 hy with hy | hy
          · exact HI.out y hy
          · rw [List.mem_singleton] at hy; rw [hy]; exact he)
        clear he
        go_wp2_with fail
        go_roundg (gk - 1)
        case measure => have := HLT.out; omega
        case rel => exact ⟨i + 1, by go_num, HLT.out, by omega, rfl, HNX⟩
    · have e1 : decide ((i : Int) < (m : Int)) = false := by simp; omega
      have e2 : decide (i < m) = false := by simp; omega
      have HSE : Hid (idxT xs t = none) := hid (idxT_no (fun y hy => HI.out y (by rw [List.take_of_length_le (by have := HM.out; omega)]; exact hy)))
      clear hlt
      go_wp2_with fail
      go_ret
      exact ⟨by unfold fdZ; rw [HSE.out]; rfl, rfl⟩

theorem fdZ_some {xs : List Tn} {s : ByteArray} {k : Nat} (h : idxT xs s = some k) : fdZ xs s = (k : Nat) := by unfold fdZ; rw [h]
theorem fdZ_none {xs : List Tn} {s : ByteArray} (h : idxT xs s = none) : fdZ xs s = -1 := by unfold fdZ; rw [h]

/-- The uses' row, where there is one. -/
theorem Rq.useAt (h : Rq N w q lv uv hv xs S) (hv' : Qv xs S) {k : Nat} (hk : k < xs.length) : ∃ g cap, uv = .slice (some ⟨g, 0, none⟩) xs.length cap ∧ w.cell? ⟨g, k * 2, none⟩ = some (.int .i64 (S.use k).b) ∧ w.cell? ⟨g, k * 2 + 1, none⟩ = some (.int .i64 (S.use k).e) ∧ w.frozen? ⟨g, k * 2, none⟩ = false ∧ w.frozen? ⟨g, k * 2 + 1, none⟩ = false := by
  obtain ⟨ao, cap, e, hne, _⟩ := h.use.shape
  have hl := hv'.len
  obtain ⟨g, rfl⟩ := hne (fun e => by rw [e] at hl; simp at hl; omega)
  rw [hl] at e
  have hr := h.use
  rw [e] at hr
  have hk2 : k < S.us.length := by omega
  have e9 : S.use k = S.us[k] := by unfold Sq.use; rw [List.getD_eq_getElem?_getD, List.getElem?_eq_getElem hk2]; rfl
  refine ⟨g, cap, e, ?_, ?_, hr.frozen _, hr.frozen _⟩
  · have h9 := hr.cell usE_ok k 0 hk2 (by decide)
    rw [e9]
    simpa [usE] using h9
  · have h9 := hr.cell usE_ok k 1 hk2 (by decide)
    rw [e9]
    simpa [usE] using h9

set_option maxRecDepth 100000 in
set_option maxHeartbeats 1000000 in
theorem rquse_any (h : Rq N w q lv uv hv xs S) (hi : Qv xs S) (t : ByteArray) : Calls Tryd.prog 25 #[.pointer (some ⟨q, 0, none⟩), .string t] w fun e w' => e = .returned (useV xs S t) ∧ Same w w' := by
  obtain ⟨W1, hW1⟩ : ∃ W, W = w.alloc (.cells #[.int .i64 0, .int .i64 0] 31) := ⟨_, rfl⟩
  obtain ⟨xb, hxb⟩ : ∃ b, b = w.heap.size := ⟨_, rfl⟩
  have HK1 : Hid (Same w W1 ∧ w.heap.size ≤ xb) := hid ⟨by rw [hW1]; exact (Kept.refl _ w).alloc _, by omega⟩
  have HB : Hid (Blk W1 xb #[.int .i64 0, .int .i64 0] 31) := hid (by rw [hW1, hxb]; exact Blk.new w _ _)
  have H1 := h.same HK1.out.1
  have HF := rqfind_any H1 hi.n8 t
  obtain ⟨z0, z1, z2, z3⟩ := HB.out.c2
  cases hx : idxT xs t with
  | none =>
    rw [fdZ_none hx] at HF
    rw [show useV xs S t = noU 170 by unfold useV; rw [hx]]
    clear h hi H1 hx
    go_enter Tryd.func25, Tryd.ntmps25
    go_upto_region 1 with fail
    rw [← hW1, ← hxb]
    clear hW1 hxb
    go_wp2_with fail
    refine HF.mono ?_
    rintro e w2 ⟨rfl, rfl⟩
    clear HF
    go_wp2_with fail
    refine bodyPost_ret (v := noU 170) (by rw [results_17b (p := 4) (b := 5) (ty := 31) rfl _ _ _ _ _ ⟨xb, 0, none⟩ _ rfl (loadU (set17 HB.out).1)]; rfl) rfl ?_
    exact ⟨rfl, HK1.out.1.then (set17 HB.out).2 (fun k hk e => by have := HK1.out.2; omega)⟩
  | some k =>
    rw [fdZ_some hx] at HF
    have hkl := idxT_lt hx
    obtain ⟨g, cap, e, u0, u1, _, _⟩ := H1.useAt hi hkl
    have x1 := H1.blk.cell 1
    simp only [List.getElem?_toArray, List.getElem?_cons_succ, List.getElem?_cons_zero] at x1
    rw [e] at x1
    obtain ⟨us, hus⟩ : ∃ d, d = S.use k := ⟨_, rfl⟩
    rw [show useV xs S t = .tuple #[usV us, .int .i64 0] by unfold useV; rw [hx, hus]]
    rw [← hus] at u0 u1
    have c1 : (0 : Int) ≤ (k : Int) := by omega
    have c2 : (k : Int) < (xs.length : Int) := by omega
    have c3 : decide ((k : Int) < 0) = false := by simp
    clear h hi H1 hx e hus hkl
    unfold usV
    go_enter Tryd.func25, Tryd.ntmps25
    go_upto_region 1 with fail
    rw [← hW1, ← hxb]
    clear hW1 hxb
    go_wp2_with fail
    refine HF.mono ?_
    rintro e w2 ⟨rfl, rfl⟩
    clear HF
    go_wp2_with fail
    refine bodyPost_ret (v := .tuple #[.agg #[.int .i64 us.b, .int .i64 us.e], .int .i64 0]) (by rw [results_17b (p := 4) (b := 5) (ty := 31) rfl _ _ _ _ _ ⟨xb, 0, none⟩ _ rfl (loadU (set17 HB.out).1)]; rfl) rfl ?_
    exact ⟨rfl, HK1.out.1.then (set17 HB.out).2 (fun k hk e => by have := HK1.out.2; omega)⟩

theorem SrcC.atH {w : World} {I : Nat → Prop} {ao : Option Addr} {n c : Nat} {hs : List Hd} (h : SrcC 4 hdE w I (.slice ao n c) hs) (j : Nat) (hj : j < n) : ∃ b o t, ao = some ⟨b, o, none⟩ ∧ I b ∧ hs[j]? = some t ∧ w.cell? ⟨b, o + j * 4, none⟩ = some (.int .i64 (t.id : Nat)) ∧ w.cell? ⟨b, o + j * 4 + 1, none⟩ = some (.int .i64 (t.ten : Nat)) ∧ w.cell? ⟨b, o + j * 4 + 2, none⟩ = some (.int .i64 t.m.b) ∧ w.cell? ⟨b, o + j * 4 + 3, none⟩ = some (.int .i64 t.m.e) := by
  obtain ⟨a', c', e, hl, hc⟩ := h
  injection e with e1 e2 e3
  have hjx : j < hs.length := by omega
  obtain ⟨b, o, h1, h2, h3⟩ := hc (fun e => by rw [e] at hjx; simp at hjx)
  exact ⟨b, o, hs[j], e1.trans h1, h2, List.getElem?_eq_getElem hjx, h3 j hjx 0 (by omega), h3 j hjx 1 (by omega), h3 j hjx 2 (by omega), h3 j hjx 3 (by omega)⟩

end

end Go.Proofs.YtjlkchjcmiljjaaDoor
