/-
  Layer 17, the reference: Reserve.
-/
import Derived.Test.YtjlkchjcmiljjaaDoorQtRG
import Derived.Test.YtjlkchjcmiljjaaDoorQtRL
import Derived.Test.YtjlkchjcmiljjaaDoorQtRS
import Derived.Deep.RegionLaw
import Derived.Test.YtjlkchjcmiljjaaDoorStepC
import Derived.Test.YtjlkchjcmiljjaaDoorHeldT
namespace Go.Proofs.YtjlkchjcmiljjaaDoor
open Go.RowKit Go.Maps

theorem room_ways {m l : Us} (_h0 : 0 ≤ l.b ∧ 0 ≤ l.e) (h : m.le l) : (decide (0 < m.b) = false ∧ decide (0 < m.e) = false) ∨ (decide (0 < m.b) = false ∧ decide (0 < m.e) = true ∧ decide (l.e < m.e) = false) ∨ (decide (0 < m.b) = true ∧ decide (l.b < m.b) = false ∧ decide (0 < m.e) = false) ∨ (decide (0 < m.b) = true ∧ decide (l.b < m.b) = false ∧ decide (0 < m.e) = true ∧ decide (l.e < m.e) = false) := by
  unfold Us.le at h
  simp only [decide_eq_true_eq, decide_eq_false_iff_not]
  by_cases g1 : 0 < m.b <;> by_cases g2 : 0 < m.e
  · exact .inr (.inr (.inr ⟨g1, by omega, g2, by omega⟩))
  · exact .inr (.inr (.inl ⟨g1, by omega, g2⟩))
  · exact .inr (.inl ⟨g1, g2, by omega⟩)
  · exact .inl ⟨g1, g2⟩

theorem full_ways {m l : Us} (h0 : 0 ≤ l.b ∧ 0 ≤ l.e) (h : ¬ m.le l) : (decide (0 < m.b) = true ∧ decide (l.b < m.b) = true) ∨ (decide (0 < m.b) = false ∧ decide (0 < m.e) = true ∧ decide (l.e < m.e) = true) ∨ (decide (0 < m.b) = true ∧ decide (l.b < m.b) = false ∧ decide (0 < m.e) = true ∧ decide (l.e < m.e) = true) := by
  unfold Us.le at h
  simp only [decide_eq_true_eq, decide_eq_false_iff_not]
  by_cases g1 : 0 < m.b
  · by_cases g2 : l.b < m.b
    · exact .inl ⟨g1, g2⟩
    · exact .inr (.inr ⟨g1, g2, by omega, by omega⟩)
  · exact .inr (.inl ⟨g1, by omega, by omega⟩)

section
variable {N : Nat} {w : World} {q : Nat} {lv uv hv : Value} {xs : List Tn} {S : Sq}

set_option maxRecDepth 100000 in
set_option maxHeartbeats 1000000 in
theorem rqres_none (h : Rq N w q lv uv hv xs S) (hi : Qv xs S) (_hL : S.hs.length ≤ 1000000) (t : ByteArray) (m : Us) (hx : idxT xs t = none) : Calls Tryd.prog 27 #[.pointer (some ⟨q, 0, none⟩), .string t, usV m] w fun e w' => e = .returned (.tuple #[.int .i64 0, .int .i64 170]) ∧ Same w w' := by
  obtain ⟨W1, hW1⟩ : ∃ W, W = w.alloc (.cells #[.int .i64 m.b, .int .i64 m.e] 31) := ⟨_, rfl⟩
  obtain ⟨xb, hxb⟩ : ∃ b, b = w.heap.size := ⟨_, rfl⟩
  have HK1 : Hid (Same w W1 ∧ w.heap.size ≤ xb) := hid ⟨by rw [hW1]; exact (Kept.refl _ w).alloc _, by omega⟩
  have HF := rqleft_none (h.same HK1.out.1) hi t hx
  unfold noU at HF
  unfold usV
  clear h hi hx
  go_enter Tryd.func27, Tryd.ntmps27
  go_upto_region 1 with fail
  rw [← hW1, ← hxb]
  clear hW1 hxb
  go_wp2_with fail
  refine HF.mono ?_
  rintro e w2 ⟨rfl, hk2⟩
  obtain ⟨W3, hW3⟩ : ∃ W, W = w2.alloc (.cells #[.int .i64 0, .int .i64 0] 31) := ⟨_, rfl⟩
  have HK3 : Hid (Same w W3) := hid (by rw [hW3]; exact (Same.trans HK1.out.1 hk2).alloc _)
  clear hk2 HF
  go_upto_region 2 with fail
  rw [← hW3]
  clear hW3
  go_wp2_with fail
  go_ret2
  exact ⟨rfl, HK3.out⟩

set_option maxRecDepth 100000 in
set_option maxHeartbeats 1000000 in
theorem rqres_out (h : Rq N w q lv uv hv xs S) (hi : Qv xs S) (hL : S.hs.length ≤ 1000000) (t : ByteArray) (m : Us) {k : Nat} (hx : idxT xs t = some k) (hin : ¬ m.inn (-1000000000) 1000000000) : Calls Tryd.prog 27 #[.pointer (some ⟨q, 0, none⟩), .string t, usV m] w fun e w' => e = .returned (.tuple #[.int .i64 0, .int .i64 1]) ∧ Same w w' := by
  obtain ⟨W1, hW1⟩ : ∃ W, W = w.alloc (.cells #[.int .i64 m.b, .int .i64 m.e] 31) := ⟨_, rfl⟩
  obtain ⟨xb, hxb⟩ : ∃ b, b = w.heap.size := ⟨_, rfl⟩
  have HK1 : Hid (Same w W1 ∧ w.heap.size ≤ xb) := hid ⟨by rw [hW1]; exact (Kept.refl _ w).alloc _, by omega⟩
  have HB : Hid (Blk W1 xb #[.int .i64 m.b, .int .i64 m.e] 31) := hid (by rw [hW1, hxb]; exact Blk.new w _ _)
  have HF := rqleft_some (h.same HK1.out.1) hi hL t hx
  obtain ⟨lf, hlf⟩ : ∃ d, d = leftQ xs S k := ⟨_, rfl⟩
  rw [← hlf] at HF
  have hd := out_ways hin
  unfold usV at HF
  unfold usV
  clear h hi hx hL hin hlf
  go_enter Tryd.func27, Tryd.ntmps27
  go_upto_region 1 with fail
  rw [← hW1, ← hxb]
  clear hW1 hxb
  go_wp2_with fail
  refine HF.mono ?_
  rintro e w2 ⟨rfl, hk2⟩
  obtain ⟨W3, hW3⟩ : ∃ W, W = w2.alloc (.cells #[.int .i64 lf.b, .int .i64 lf.e] 31) := ⟨_, rfl⟩
  have hk3 : Same W1 W3 := by rw [hW3]; exact hk2.alloc _
  have HK3 : Hid (Same w W3) := hid (Same.trans HK1.out.1 hk3)
  obtain ⟨y0, y1, _, _⟩ := (HB.out.kept hk3 (fun f => f)).c2
  clear hk2 hk3 HF
  go_upto_region 2 with fail
  rw [← hW3]
  clear hW3
  go_upto_region 4 with fail
  rcases hd with d0 | ⟨d0, d1⟩ | ⟨d0, d1, d2⟩ | ⟨d0, d1, d2, d3⟩
  all_goals
    go_wp2_with fail
    go_ret2
    exact ⟨rfl, HK3.out⟩

set_option maxRecDepth 100000 in
set_option maxHeartbeats 1000000 in
theorem rqres_full (h : Rq N w q lv uv hv xs S) (hi : Qv xs S) (hL : S.hs.length ≤ 1000000) (t : ByteArray) (m : Us) {k : Nat} (hx : idxT xs t = some k) (hin : m.inn (-1000000000) 1000000000) (hle : ¬ m.le (leftQ xs S k)) : Calls Tryd.prog 27 #[.pointer (some ⟨q, 0, none⟩), .string t, usV m] w fun e w' => e = .returned (.tuple #[.int .i64 0, .int .i64 171]) ∧ Same w w' := by
  obtain ⟨W1, hW1⟩ : ∃ W, W = w.alloc (.cells #[.int .i64 m.b, .int .i64 m.e] 31) := ⟨_, rfl⟩
  obtain ⟨xb, hxb⟩ : ∃ b, b = w.heap.size := ⟨_, rfl⟩
  have HK1 : Hid (Same w W1 ∧ w.heap.size ≤ xb) := hid ⟨by rw [hW1]; exact (Kept.refl _ w).alloc _, by omega⟩
  have HB : Hid (Blk W1 xb #[.int .i64 m.b, .int .i64 m.e] 31) := hid (by rw [hW1, hxb]; exact Blk.new w _ _)
  have HF := rqleft_some (h.same HK1.out.1) hi hL t hx
  obtain ⟨lf, hlf⟩ : ∃ d, d = leftQ xs S k := ⟨_, rfl⟩
  rw [← hlf] at HF hle
  have hd := full_ways (m := m) (l := lf) (by rw [hlf]; unfold leftQ Us.up; simp only; omega) hle
  obtain ⟨f0, f1, f2, f3⟩ := in_ways hin
  unfold usV at HF
  unfold usV
  clear h hi hx hL hin hlf hle
  go_enter Tryd.func27, Tryd.ntmps27
  go_upto_region 1 with fail
  rw [← hW1, ← hxb]
  clear hW1 hxb
  go_wp2_with fail
  refine HF.mono ?_
  rintro e w2 ⟨rfl, hk2⟩
  obtain ⟨W3, hW3⟩ : ∃ W, W = w2.alloc (.cells #[.int .i64 lf.b, .int .i64 lf.e] 31) := ⟨_, rfl⟩
  obtain ⟨g3, hg3⟩ : ∃ b, b = w2.heap.size := ⟨_, rfl⟩
  have hk3 : Same W1 W3 := by rw [hW3]; exact hk2.alloc _
  have HK3 : Hid (Same w W3) := hid (Same.trans HK1.out.1 hk3)
  obtain ⟨y0, y1, _, _⟩ := (HB.out.kept hk3 (fun f => f)).c2
  obtain ⟨z0, z1, _, _⟩ := (show Blk W3 g3 #[.int .i64 lf.b, .int .i64 lf.e] 31 from by rw [hW3, hg3]; exact Blk.new w2 _ _).c2
  clear hk2 hk3 HF
  go_upto_region 2 with fail
  rw [← hW3, ← hg3]
  clear hW3 hg3
  go_upto_region 6 with fail
  rcases hd with ⟨d0, d1⟩ | ⟨d0, d1, d2⟩ | ⟨d0, d1, d2, d3⟩
  all_goals
    go_wp2_with fail
    go_ret2
    exact ⟨rfl, HK3.out⟩

theorem Rq.resv (h : Rq N w q lv uv hv xs ⟨S.us, S.hs, S.last + 1⟩) {k : Nat} (m : Us) {w9 w10 : World} {v9 : Value} (hk9 : Kept (fun j => j = q ∨ hv.ownBlock = some j) w w9) (hr : RowC N 78 4 hdE w9 v9 (S.hs ++ [⟨S.last + 1, k, m⟩])) (hb : Blk w10 q #[lv, uv, v9, .int .i64 ((S.last + 1 : Nat) : Int)] 64) (hk10 : Kept (· = q) w9 w10) (hb9 : Blk w9 q #[lv, uv, hv, .int .i64 ((S.last + 1 : Nat) : Int)] 64) : Rq N w10 q lv uv v9 xs (S.res k m) ∧ Kept (FR q uv hv) w w10 := by
  have hlow : ∀ j, j < N → ¬ (j = q ∨ hv.ownBlock = some j) := fun j hj f => by
    rcases f with f | f
    · have := h.ge; omega
    · have := h.hel.ge f; omega
  have hu9 : RowC N 31 2 usE w9 uv S.us := h.use.kept hk9 (fun j e f => by
    rcases f with f | f
    · exact h.use.offB h.blk (by decide) (by rw [e, f])
    · exact h.use.offR h.hel (by decide) j e f)
  refine ⟨⟨hb, (h.ten.kept tnE_ok hk9 (fun j hj _ => hlow j hj)).kept tnE_ok hk10 (fun j hj _ e => by have := h.ge; omega), hu9.kept hk10 (fun j e f => hu9.offB hb9 (by decide) (by rw [e, f])), hr.kept hk10 (fun j e f => hr.offB hb9 (by decide) (by rw [e, f])), h.ge⟩, Kept.trans hk9 hk10 (fun j _ e => ?_) (fun j _ e => .inl e)⟩
  rcases e with e | e
  · exact .inl e
  · exact .inr (.inr e)

end

theorem load_use {W : World} {b : Nat} {x y : Value} (h0 : W.cell? ⟨b, 0, none⟩ = some x) (h1 : W.cell? ⟨b, 1, none⟩ = some y) : (loadVar 31 ⟨b, 0, none⟩).run Tryd.prog W = .ok (.agg #[x, y]) W := by
  have hld : (loadCells ⟨b, 0, none⟩ 2).run Tryd.prog W = .ok #[x, y] W :=
    run_loadCells_list (P := Tryd.prog) W ⟨b, 0, none⟩ [x, y] (fun j v hv => by
      rw [addAt, Nat.zero_add]
      match j, hv with
      | 0, hv => exact h0.trans hv
      | 1, hv => exact h1.trans hv
      | j + 2, hv => simp at hv)
  have hagg : (isAgg 31).run Tryd.prog W = .ok true W := by
    unfold isAgg
    rw [Sem.run_bind, run_underlying Tryd.underlying31 W]
    rfl
  cases hq : Tryd.prog.info? 31 with
  | none => have h9 := Tryd.sizeUs; simp [hq] at h9
  | some i =>
    have hs : i.size = 2 := by have h9 := Tryd.sizeUs; simpa [hq] using h9
    simp [loadVar, Sem.run_bind, hagg, sizeOf, typeInfo, hq, hs, hld]

theorem cellsAt_hd (W : World) (h : Hd) : CellsAt (W.alloc (.cells #[.int .i64 (h.id : Nat), .int .i64 (h.ten : Nat), .int .i64 h.m.b, .int .i64 h.m.e] 78)) ⟨W.heap.size, 0, none⟩ ([h].flatMap hdE) := by
  have hb := Blk.new W #[.int .i64 (h.id : Nat), .int .i64 (h.ten : Nat), .int .i64 h.m.b, .int .i64 h.m.e] 78
  intro j u hu
  rw [addAt, Nat.zero_add]
  simp only [List.flatMap_cons, List.flatMap_nil, List.append_nil, hdE] at hu
  match j, hu with
  | 0, hu => exact (hb.cell 0).trans hu
  | 1, hu => exact (hb.cell 1).trans hu
  | 2, hu => exact (hb.cell 2).trans hu
  | 3, hu => exact (hb.cell 3).trans hu
  | j + 4, hu => simp at hu

section
variable {N : Nat} {w : World} {q : Nat} {lv uv hv : Value} {xs : List Tn} {S : Sq}

set_option maxRecDepth 100000 in
set_option maxHeartbeats 4000000 in
theorem rqres_ok (h : Rq N w q lv uv hv xs S) (hi : Qv xs S) (hNw : N ≤ w.heap.size) (hL : S.hs.length ≤ 1000000) (hLa : S.last ≤ 1000000) (t : ByteArray) (m : Us) {k : Nat} (hx : idxT xs t = some k) (hin : m.inn (-1000000000) 1000000000) (hle : m.le (leftQ xs S k)) : Calls Tryd.prog 27 #[.pointer (some ⟨q, 0, none⟩), .string t, usV m] w fun e w' => e = .returned (.tuple #[.int .i64 ((S.last + 1 : Nat) : Int), .int .i64 0]) ∧ (∃ hv', Rq N w' q lv uv hv' xs (S.res k m)) ∧ Kept (FR q uv hv) w w' := by
  obtain ⟨W1, hW1⟩ : ∃ W, W = w.alloc (.cells #[.int .i64 m.b, .int .i64 m.e] 31) := ⟨_, rfl⟩
  obtain ⟨xb, hxb⟩ : ∃ b, b = w.heap.size := ⟨_, rfl⟩
  have HK1 : Hid (Same w W1 ∧ w.heap.size ≤ xb) := hid ⟨by rw [hW1]; exact (Kept.refl _ w).alloc _, by omega⟩
  have HB : Hid (Blk W1 xb #[.int .i64 m.b, .int .i64 m.e] 31) := hid (by rw [hW1, hxb]; exact Blk.new w _ _)
  have H1 := hid (h.same HK1.out.1)
  have HF := rqleft_some H1.out hi hL t hx
  obtain ⟨lf, hlf⟩ : ∃ d, d = leftQ xs S k := ⟨_, rfl⟩
  rw [← hlf] at HF hle
  have hd := room_ways (m := m) (l := lf) (by rw [hlf]; unfold leftQ Us.up; simp only; omega) hle
  obtain ⟨f0, f1, f2, f3⟩ := in_ways hin
  have HX := hid hx
  have H8l := hid hi.n8
  have HL := hid (And.intro hL (And.intro hLa hNw))
  obtain ⟨l1, hl1⟩ : ∃ l : Nat, l = S.last + 1 := ⟨_, rfl⟩
  have HL1 := hid hl1
  obtain ⟨ha, hc, eh, _⟩ := h.hel.shape
  obtain ⟨nh, hnh⟩ : ∃ n, n = S.hs.length := ⟨_, rfl⟩
  rw [← hnh] at eh
  have HNH := hid hnh
  have HEH := hid eh
  unfold usV at HF
  unfold usV
  rw [← hl1]
  clear h hi hx hL hin hlf hle hLa hNw hl1 eh hnh
  go_enter Tryd.func27, Tryd.ntmps27
  go_upto_region 1 with fail
  rw [← hW1, ← hxb]
  clear hW1 hxb
  go_wp2_with fail
  refine HF.mono ?_
  rintro e w2 ⟨rfl, hk2⟩
  obtain ⟨W3, hW3⟩ : ∃ W, W = w2.alloc (.cells #[.int .i64 lf.b, .int .i64 lf.e] 31) := ⟨_, rfl⟩
  obtain ⟨g3, hg3⟩ : ∃ b, b = w2.heap.size := ⟨_, rfl⟩
  have hk3 : Same W1 W3 := by rw [hW3]; exact hk2.alloc _
  have HK3 : Hid (Same W1 W3) := hid hk3
  have HB3 := hid (HB.out.kept hk3 (fun f => f))
  obtain ⟨y0, y1, _, _⟩ := HB3.out.c2
  obtain ⟨z0, z1, _, _⟩ := (show Blk W3 g3 #[.int .i64 lf.b, .int .i64 lf.e] 31 from by rw [hW3, hg3]; exact Blk.new w2 _ _).c2
  have H3 := hid (H1.out.same hk3)
  have x3 := H3.out.blk.cell 3
  have x3f := H3.out.blk.frozen 3
  simp only [List.getElem?_toArray, List.getElem?_cons_succ, List.getElem?_cons_zero] at x3
  have hw1 : IntKind.i64.wrap ((S.last : Int) + 1) = (l1 : Int) := by rw [IntKind.wrap_i64]; have := HL.out.2.1; have := HL1.out; omega
  have hw2 : (S.last : Int) + 1 = (l1 : Int) := by have := HL1.out; omega
  have hw3 : IntKind.i64.wrap (l1 : Int) = (l1 : Int) := by rw [IntKind.wrap_i64]; have := HL.out.2.1; have := HL1.out; omega
  clear hk2 hk3 HF
  go_upto_region 2 with fail
  rw [← hW3, ← hg3]
  clear hW3 hg3
  go_upto_region 6 with fail
  go_cut [58] from 37 to 58 (fun z wx => z = .bool false ∧ W3 = wx)
  case first =>
    rcases hd with ⟨d0, d1⟩ | ⟨d0, d1, d2⟩ | ⟨d0, d1, d2⟩ | ⟨d0, d1, d2, d3⟩
    all_goals
      go_wp2_with fail
      go_meet
      exact ⟨rfl, rfl⟩
  case rest =>
    obtain ⟨rfl, rfl⟩ := hcut
    clear hd f0 f1 f2 f3 z0 z1
    obtain ⟨W8, hW8⟩ : ∃ W, W = W3.setCell ⟨q, 3, none⟩ (.int .i64 (l1 : Int)) := ⟨_, rfl⟩
    have hk8 : Kept (· = q) W3 W8 := by rw [hW8]; exact (Kept.refl (· = q) W3).setCell ⟨q, 3, none⟩ _ (.inl rfl)
    have hb8 : Blk W8 q #[lv, uv, hv, .int .i64 (l1 : Nat)] 64 := by
      rw [hW8]
      have h9 := H3.out.blk.set 3 (.int .i64 (l1 : Nat))
      simpa using h9
    have H8 : Hid (Rq N W8 q lv uv hv xs ⟨S.us, S.hs, l1⟩) := hid ⟨hb8, H3.out.ten.kept tnE_ok hk8 (fun j hj _ e => by have := H3.out.ge; omega), H3.out.use.kept hk8 (fun j e f => H3.out.use.offB H3.out.blk (by decide) (by rw [e, f])), H3.out.hel.kept hk8 (fun j e f => H3.out.hel.offB H3.out.blk (by decide) (by rw [e, f])), H3.out.ge⟩
    have HK8 := hid hk8
    have HB8 := hid (HB3.out.kept hk8 (fun e => Blk.ne HB3.out H3.out.blk (by decide) e))
    have HF8 : Hid (∀ W, Same W8 W → Calls Tryd.prog 38 #[.pointer (some ⟨q, 0, none⟩), .string t] W fun e w' => e = .returned (.int .i64 (k : Nat)) ∧ w' = W) := hid (fun W hW => by have h9 := rqfind_any (H8.out.same hW) H8l.out t; rw [fdZ_some HX.out] at h9; exact h9)
    have HRW : Hid (RowC N 78 4 hdE W8 (.slice ha nh hc) S.hs) := hid (by have h9 := H8.out.hel; rw [HEH.out] at h9; exact h9)
    have HFL : Hid (∀ (w9 : World) (a9 : Option Addr) (n9 c9 : Nat), RowC N 78 4 hdE w9 (.slice a9 n9 c9) (S.hs ++ [⟨l1, k, m⟩]) → Kept (fun k => (Value.slice ha nh hc).ownBlock = some k) W8 w9 → ∃ v9, Rq N (w9.setCell ⟨q, 2, none⟩ (.slice a9 n9 c9)) q lv uv v9 xs (S.res k m) ∧ Kept (FR q uv hv) W8 (w9.setCell ⟨q, 2, none⟩ (.slice a9 n9 c9))) := hid (fun w9 a9 n9 c9 hr9 hk9 => by
      have h8 : Rq N W8 q lv uv hv xs ⟨S.us, S.hs, S.last + 1⟩ := by have h9 := H8.out; rw [HL1.out] at h9; exact h9
      have hb9 : Blk w9 q #[lv, uv, hv, .int .i64 ((S.last + 1 : Nat) : Int)] 64 := h8.blk.kept hk9 (fun e => HRW.out.offB H8.out.blk (by decide) e)
      have hb10 : Blk (w9.setCell ⟨q, 2, none⟩ (.slice a9 n9 c9)) q #[lv, uv, .slice a9 n9 c9, .int .i64 ((S.last + 1 : Nat) : Int)] 64 := by
        have h9 := hb9.set 2 (.slice a9 n9 c9)
        simpa using h9
      have hr9' : RowC N 78 4 hdE w9 (.slice a9 n9 c9) (S.hs ++ [⟨S.last + 1, k, m⟩]) := by rw [HL1.out] at hr9; exact hr9
      exact ⟨_, h8.resv (k := k) m (hk9.mono (fun _ _ e => .inr (by rw [HEH.out]; exact e))) hr9' hb10 ((Kept.refl (· = q) w9).setCell ⟨q, 2, none⟩ _ (.inl rfl)) hb9⟩)
    go_upto_region 9 with fail
    rw [← hW8]
    clear hW8 hk8 hb8 y0 y1 x3 x3f hw1 hw2 hw3
    have HSd : Hid (W8.drew.cell? ⟨q, 2, none⟩ = some (.slice ha nh hc) ∧ W8.drew.cell? ⟨q, 3, none⟩ = some (.int .i64 (l1 : Nat)) ∧ W8.drew.cell? ⟨xb, 0, none⟩ = some (.int .i64 m.b) ∧ W8.drew.cell? ⟨xb, 1, none⟩ = some (.int .i64 m.e)) := hid (by
      have h9 := H8.out.blk.kept (show Same W8 W8.drew from (Kept.refl _ _).drew) (fun f => f)
      have h8 := HB8.out.kept (show Same W8 W8.drew from (Kept.refl _ _).drew) (fun f => f)
      refine ⟨?_, h9.cell 3, h8.cell 0, h8.cell 1⟩
      have h7 := h9.cell 2
      rw [HEH.out] at h7
      exact h7)
    refine wp_region_T (fun W' => W'.cell? ⟨q, 2, none⟩ = some (.slice ha nh hc) ∧ W'.cell? ⟨q, 3, none⟩ = some (.int .i64 (l1 : Nat)) ∧ W'.cell? ⟨xb, 0, none⟩ = some (.int .i64 m.b) ∧ W'.cell? ⟨xb, 1, none⟩ = some (.int .i64 m.e)) 18 19 (by kernel_rfl) rfl ?_
    refine AnyT.take (i := 0) (.pointer (some ⟨q, 0, none⟩)) rfl (by kernel_rfl) (by kernel_rfl) (by kernel_rfl) (by decide) (by kernel_rfl) (fun _ _ _ h => h) rfl (fun _ _ => rfl) HSd.out ?_
    simp only [List.getElem_toArray, List.getElem_cons_zero, Act.put, List.setIfInBounds_toArray, List.set_cons_zero, List.set_cons_succ]
    refine AnyT.take (i := 1) (.pointer (some ⟨q, 0, none⟩)) rfl (by kernel_rfl) (by kernel_rfl) (by kernel_rfl) (by decide) (by kernel_rfl) (fun _ _ _ h => h) rfl (fun _ _ => rfl) HSd.out ?_
    simp only [List.getElem_toArray, List.getElem_cons_succ, List.getElem_cons_zero, Act.put, List.setIfInBounds_toArray, List.set_cons_zero, List.set_cons_succ]
    refine AnyT.take (i := 2) (.pointer (some ⟨q, 0, none⟩)) rfl (by kernel_rfl) (by kernel_rfl) (by kernel_rfl) (by decide) (by kernel_rfl) (fun _ _ _ h => h) rfl (fun _ _ => rfl) HSd.out ?_
    simp only [List.getElem_toArray, List.getElem_cons_succ, List.getElem_cons_zero, Act.put, List.setIfInBounds_toArray, List.set_cons_zero, List.set_cons_succ]
    refine AnyT.take (i := 3) (.pointer (some ⟨q, 2, none⟩)) rfl (by kernel_rfl) (by kernel_rfl) (by kernel_rfl) (by decide) (by kernel_rfl) (fun _ _ _ h => h) rfl (fun _ _ => by go_simp) HSd.out ?_
    simp only [List.getElem_toArray, List.getElem_cons_succ, List.getElem_cons_zero, Act.put, List.setIfInBounds_toArray, List.set_cons_zero, List.set_cons_succ]
    refine AnyT.take (i := 4) (.slice ha nh hc) rfl (by kernel_rfl) (by kernel_rfl) (by kernel_rfl) (by decide) (by kernel_rfl) (fun _ _ _ h => h) rfl (fun _ hSw => run_load_op _ rfl (load_cellT Tryd.underlying62 rfl hSw.1)) HSd.out ?_
    simp only [List.getElem_toArray, List.getElem_cons_succ, List.getElem_cons_zero, Act.put, List.setIfInBounds_toArray, List.set_cons_zero, List.set_cons_succ]
    refine AnyT.take (i := 5) (.pointer (some ⟨q, 0, none⟩)) rfl (by kernel_rfl) (by kernel_rfl) (by kernel_rfl) (by decide) (by kernel_rfl) (fun _ _ _ h => h) rfl (fun _ _ => rfl) HSd.out ?_
    simp only [List.getElem_toArray, List.getElem_cons_succ, List.getElem_cons_zero, Act.put, List.setIfInBounds_toArray, List.set_cons_zero, List.set_cons_succ]
    refine AnyT.take (i := 6) (.pointer (some ⟨q, 0, none⟩)) rfl (by kernel_rfl) (by kernel_rfl) (by kernel_rfl) (by decide) (by kernel_rfl) (fun _ _ _ h => h) rfl (fun _ _ => rfl) HSd.out ?_
    simp only [List.getElem_toArray, List.getElem_cons_succ, List.getElem_cons_zero, Act.put, List.setIfInBounds_toArray, List.set_cons_zero, List.set_cons_succ]
    refine AnyT.take (i := 7) (.pointer (some ⟨q, 3, none⟩)) rfl (by kernel_rfl) (by kernel_rfl) (by kernel_rfl) (by decide) (by kernel_rfl) (fun _ _ _ h => h) rfl (fun _ _ => by go_simp) HSd.out ?_
    simp only [List.getElem_toArray, List.getElem_cons_succ, List.getElem_cons_zero, Act.put, List.setIfInBounds_toArray, List.set_cons_zero, List.set_cons_succ]
    refine AnyT.take (i := 8) (.int .i64 (l1 : Nat)) rfl (by kernel_rfl) (by kernel_rfl) (by kernel_rfl) (by decide) (by kernel_rfl) (fun _ _ _ h => h) rfl (fun _ hSw => run_load_op _ rfl (load_cellT Tryd.underlying3 rfl hSw.2.1)) HSd.out ?_
    simp only [List.getElem_toArray, List.getElem_cons_succ, List.getElem_cons_zero, Act.put, List.setIfInBounds_toArray, List.set_cons_zero, List.set_cons_succ]
    refine AnyT.take (i := 9) (.pointer (some ⟨q, 0, none⟩)) rfl (by kernel_rfl) (by kernel_rfl) (by kernel_rfl) (by decide) (by kernel_rfl) (fun _ _ _ h => h) rfl (fun _ _ => rfl) HSd.out ?_
    simp only [List.getElem_toArray, List.getElem_cons_succ, List.getElem_cons_zero, Act.put, List.setIfInBounds_toArray, List.set_cons_zero, List.set_cons_succ]
    refine AnyT.take (i := 10) (.string t) rfl (by kernel_rfl) (by kernel_rfl) (by kernel_rfl) (by decide) (by kernel_rfl) (fun _ _ _ h => h) rfl (fun _ _ => rfl) HSd.out ?_
    simp only [List.getElem_toArray, List.getElem_cons_succ, List.getElem_cons_zero, Act.put, List.setIfInBounds_toArray, List.set_cons_zero, List.set_cons_succ]
    refine AnyT.take (i := 12) (.agg #[.int .i64 m.b, .int .i64 m.e]) rfl (by kernel_rfl) (by kernel_rfl) (by kernel_rfl) (by decide) (by kernel_rfl) (fun _ _ _ h => h) rfl (fun _ hSw => run_load_op _ rfl (load_use hSw.2.2.1 hSw.2.2.2)) HSd.out ?_
    simp only [List.getElem_toArray, List.getElem_cons_succ, List.getElem_cons_zero, Act.put, List.setIfInBounds_toArray, List.set_cons_zero, List.set_cons_succ]
    refine AnyT.one 11 rfl (by kernel_rfl) ?_
    refine step_callC rfl 38 #[.pointer (some ⟨q, 0, none⟩), .string t] (by simp [go_sem]) _ (HF8.out _ ((Kept.refl _ _).drew)) ?_
    rintro e w2 ⟨rfl, rfl⟩
    refine ⟨_, rfl, fun _ => HSd.out, ?_⟩
    simp only [List.getElem_toArray, List.getElem_cons_succ, List.getElem_cons_zero, Act.put, List.setIfInBounds_toArray, List.set_cons_zero, List.set_cons_succ]
    refine AnyT.take (i := 13) (.agg #[.int .i64 (l1 : Nat), .int .i64 (k : Nat), .int .i64 m.b, .int .i64 m.e]) rfl (by kernel_rfl) (by kernel_rfl) (by kernel_rfl) (by decide) (by kernel_rfl) (fun _ _ _ h => h) rfl (fun _ _ => by go_simp) HSd.out ?_
    simp only [List.getElem_toArray, List.getElem_cons_succ, List.getElem_cons_zero, Act.put, List.setIfInBounds_toArray, List.set_cons_zero, List.set_cons_succ]
    obtain ⟨WA, hWA⟩ : ∃ W, W = W8.drew.alloc (.cells #[.int .i64 (l1 : Nat), .int .i64 (k : Nat), .int .i64 m.b, .int .i64 m.e] 78) := ⟨_, rfl⟩
    have HKA : Hid (Same W8 WA ∧ Same W8.drew WA) := hid (by rw [hWA]; exact ⟨(show Same W8 W8.drew from (Kept.refl _ _).drew).alloc _, (Kept.refl _ _).alloc _⟩)
    have HCA : Hid (CellsAt WA ⟨W8.drew.heap.size, 0, none⟩ ([(⟨l1, k, m⟩ : Hd)].flatMap hdE)) := hid (by rw [hWA]; exact cellsAt_hd W8.drew ⟨l1, k, m⟩)
    have HSA : Hid (WA.cell? ⟨q, 2, none⟩ = some (.slice ha nh hc) ∧ WA.cell? ⟨q, 3, none⟩ = some (.int .i64 (l1 : Nat)) ∧ WA.cell? ⟨xb, 0, none⟩ = some (.int .i64 m.b) ∧ WA.cell? ⟨xb, 1, none⟩ = some (.int .i64 m.e)) := hid ⟨HKA.out.2.cell HSd.out.1 (fun f => f), HKA.out.2.cell HSd.out.2.1 (fun f => f), HKA.out.2.cell HSd.out.2.2.1 (fun f => f), HKA.out.2.cell HSd.out.2.2.2 (fun f => f)⟩
    refine AnyT.one 14 rfl (by kernel_rfl) ?_
    refine step_value rfl (.slice (some ⟨W8.drew.heap.size, 0, none⟩) 1 1) (w' := WA) (by rw [hWA]; go_simp) ⟨fun _ => HSA.out, ?_⟩
    simp only [List.getElem_toArray, List.getElem_cons_succ, List.getElem_cons_zero, Act.put, List.setIfInBounds_toArray, List.set_cons_zero, List.set_cons_succ]
    refine AnyT.one 15 rfl (by kernel_rfl) ?_
    refine step_appendC hdE 4 hdE_ok N 62 78 (.agg #[.int .i64 0, .int .i64 0, .int .i64 0, .int .i64 0]) 32 Tryd.underlying62 Tryd.infoHd17 rfl (by decide) rfl (.tmp 70) (.tmp 80) rfl (.slice ha nh hc) S.hs rfl (HRW.out.kept HKA.out.1 (fun _ _ f => f)) ⟨W8.drew.heap.size, 0, none⟩ 1 1 [(⟨l1, k, m⟩ : Hd)] rfl rfl HCA.out (by have := HL.out; have := HNH.out; simp; omega) (by have := HL.out.2.2; have := HK1.out.1.size; have := HK3.out.size; have := HK8.out.size; have := HKA.out.1.size; omega) ?_
    intro v9 w9 hr9 hg9 _
    have hk9 : Kept (fun k => (Value.slice ha nh hc).ownBlock = some k) W8 w9 := Kept.trans HKA.out.1 ((Kept.refl _ _).grown hg9 (fun k e => .inl e)) (fun _ _ f => f.elim) (fun _ _ e => e)
    have HK9 := hid hk9
    have HR9 := hid hr9
    have hb9 := H8.out.blk.kept hk9 (fun e => HRW.out.offB H8.out.blk (by decide) e)
    have hx9 := HB8.out.kept hk9 (fun e => HRW.out.offB HB8.out (by decide) e)
    have z9 := hb9.frozen 2
    have d9 := hb9.cell 2
    simp only [List.getElem?_toArray, List.getElem?_cons_succ, List.getElem?_cons_zero] at d9
    rw [HEH.out] at d9
    have HS9 : Hid (w9.cell? ⟨q, 2, none⟩ = some (.slice ha nh hc) ∧ w9.cell? ⟨q, 3, none⟩ = some (.int .i64 (l1 : Nat)) ∧ w9.cell? ⟨xb, 0, none⟩ = some (.int .i64 m.b) ∧ w9.cell? ⟨xb, 1, none⟩ = some (.int .i64 m.e)) := hid ⟨d9, hb9.cell 3, hx9.cell 0, hx9.cell 1⟩
    obtain ⟨a9, n9, c9, e9⟩ : ∃ a n q, v9 = Value.slice a n q := by obtain ⟨a, q, e, _⟩ := HR9.out.shape; exact ⟨a, _, q, e⟩
    subst e9
    clear hr9 hg9 hk9 hb9 hx9 hWA
    refine ⟨fun _ => HS9.out, ?_⟩
    simp only [List.getElem_toArray, List.getElem_cons_succ, List.getElem_cons_zero, Act.put, List.setIfInBounds_toArray, List.set_cons_zero, List.set_cons_succ]
    refine AnyT.one 16 rfl (by kernel_rfl) ?_
    refine step_value rfl (.pointer (some ⟨q, 0, none⟩)) (w' := w9) (by go_simp) ⟨fun _ => HS9.out, ?_⟩
    simp only [List.getElem_toArray, List.getElem_cons_succ, List.getElem_cons_zero, Act.put, List.setIfInBounds_toArray, List.set_cons_zero, List.set_cons_succ]
    refine AnyT.one 17 rfl (by kernel_rfl) ?_
    refine step_value rfl (.pointer (some ⟨q, 2, none⟩)) (w' := w9) (by go_simp) ⟨fun _ => HS9.out, ?_⟩
    simp only [List.getElem_toArray, List.getElem_cons_succ, List.getElem_cons_zero, Act.put, List.setIfInBounds_toArray, List.set_cons_zero, List.set_cons_succ]
    refine AnyT.one 18 rfl (by kernel_rfl) ?_
    refine step_skip (w' := w9.setCell ⟨q, 2, none⟩ (.slice a9 n9 c9)) rfl (by go_simp) ⟨fun h => absurd rfl h, ?_⟩
    simp only [List.getElem_toArray, List.getElem_cons_succ, List.getElem_cons_zero, Act.put]
    refine AnyT.done (by kernel_rfl) ?_
    obtain ⟨v9, hrq, hkq⟩ := HFL.out w9 a9 n9 c9 HR9.out HK9.out
    obtain ⟨WB, hWB⟩ : ∃ W, W = w9.setCell ⟨q, 2, none⟩ (.slice a9 n9 c9) := ⟨_, rfl⟩
    rw [← hWB] at hrq hkq ⊢
    have HFIN : Hid (Rq N WB q lv uv v9 xs (S.res k m) ∧ Kept (FR q uv hv) w WB) := hid ⟨hrq, Kept.trans (Kept.trans (Same.trans HK1.out.1 HK3.out) HK8.out (H := FR q uv hv) (fun _ _ f => f.elim) (fun _ _ e => .inl e)) hkq (fun _ _ e => e) (fun _ _ e => e)⟩
    have b3 := hrq.blk.cell 3
    simp only [List.getElem?_toArray, List.getElem?_cons_succ, List.getElem?_cons_zero] at b3
    rw [show ((S.res k m).last : Nat) = l1 from HL1.out.symm] at b3
    clear hrq hkq hWB z9 d9
    go_wp2_with fail
    go_ret2
    exact ⟨rfl, ⟨v9, HFIN.out.1⟩, HFIN.out.2⟩

end

end Go.Proofs.YtjlkchjcmiljjaaDoor
