/-
  Layer 17: a reservation ends: end, Take, Free.
-/
import Derived.Test.YtjlkchjcmiljjaaDoorQtE
namespace Go.Proofs.YtjlkchjcmiljjaaDoor
open Go.RowKit Go.Maps

section
variable {w : World} {p ma mr : Nat} {bl : List Nat} {xs : List Tn} {S : Sq}

theorem delG_mem {κ β : Type} [DecidableEq κ] {s : κ} {L : List (κ × β)} {q : κ × β} : q ∈ delG s L ↔ q ∈ L ∧ q.1 ≠ s := by
  unfold delG
  rw [List.mem_filter]
  simp

/-- m[id], ok. -/
theorem Qb.lookR (h : Qb w p ma mr bl xs S) (n : Nb) : (Instr.lookup 53 (.map (some mr)) (.int .i64 n.v) true).run Tryd.prog w = .ok (.tuple #[((S.find n.v).map (fun x => (⟨bl.getD x.ten 0, x.m⟩ : Rv))).elim (.agg #[.pointer none, .int .i64 0, .int .i64 0]) reV, .bool (S.find n.v).isSome]) w := by
  obtain ⟨R, h1, _, h2⟩ := h.res
  have h3 := MpG.look h1 klI rdRe intKey14 53 70 Tryd.underlying53 (zeroRe w) n (.int .i64 n.v) (keyI n)
  rw [h3]
  cases hi : S.find n.v with
  | none =>
    rw [getG_eq_none (fun q hq e => by
      obtain ⟨x, hx, e1, _⟩ := (h2 q).1 hq
      unfold Sq.find at hi
      rw [List.find?_eq_none] at hi
      exact hi x hx (by simp [← e1, e]))]
    rfl
  | some x =>
    obtain ⟨hx, e⟩ := Sq.find_mem hi
    rw [getG_of_mem (h1.apart intKey14) ((h2 (n, ⟨bl.getD x.ten 0, x.m⟩)).2 ⟨x, hx, e.symm, rfl⟩)]
    rfl

theorem MpR.del1 {w : World} {b : Nat} {R : List (Nb × Rv)} (h : MpR w b R) (s : Nb) (ty : TypeId) :
    ∃ w', (Builtin.delete_ #[53, 3] ty #[.map (some b), .int .i64 s.v]).run Tryd.prog w = .ok (.tuple #[]) w' ∧ MpR w' b (delG s R) ∧ Kept (· = b) w w' :=
  MpG.del h klI intKey14 53 70 Tryd.underlying53 s (.int .i64 s.v) (keyI s) ty

theorem Us.add_sub {a b c : Us} (h : a = b.add c) : a.sub c = b := by
  subst h
  cases b
  cases c
  simp [Us.add, Us.sub]

/-- A reservation less, in memory. -/
theorem Qb.gone1 (h : Qb w p ma mr bl xs S) (n : Nb) {x : Hd} (hx : S.find n.v = some x) {R : List (Nb × Rv)} (hR2 : R.length ≤ S.hs.length) (hR3 : ∀ q : Nb × Rv, q ∈ R ↔ ∃ h ∈ S.hs, q.1.v = (h.id : Int) ∧ q.2 = ⟨bl.getD h.ten 0, h.m⟩) {w1 w2 : World}
    (hM : MpR w1 mr (delG n R)) (hK1 : Kept (· = mr) w w1)
    (hB2 : Blk w2 (bl.getD x.ten 0) (acE (mayT xs x.ten) (S.use x.ten) ((S.held x.ten).sub x.m.up)) 58) (hK2 : Kept (· = bl.getD x.ten 0) w1 w2) :
    Qb w2 p ma mr bl xs (S.gone n.v) ∧ Kept (FQ p ma mr bl) w w2 := by
  obtain ⟨hxm, hxid⟩ := Sq.find_mem hx
  have hk := (h.inv.ids x hxm).2.2.1
  obtain ⟨n1, n2, n3, n4⟩ := h.acc_ne hk
  obtain ⟨A, h1, h2⟩ := h.ten
  obtain ⟨_, hR, _⟩ := h.res
  have hpr : p ≠ mr := hR.ne h.blk
  have hra : ∀ j, j < xs.length → bl.getD j 0 ≠ mr := fun j hj => (h.acc_ne hj).2.2.1
  have hH := Sq.held_gone hx
  obtain ⟨l, r, hs1, hs2, hl⟩ := Sq.find_at hx
  have hap := h.inv.ap
  rw [hs1] at hap
  refine ⟨⟨h.inv.gone hx, (h.blk.kept hK1 hpr).kept hK2 n1.symm, h.len, h.nd, fun j hj => ?_, ⟨A, (h1.kept hK1 h.mm).kept hK2 n2.symm, h2⟩, ⟨_, hM.kept hK2 n3.symm, ?_, fun q => ?_⟩, h.mm⟩, ?_⟩
  · rw [show (S.gone n.v).use j = S.use j from rfl]
    by_cases e : x.ten = j
    · subst e
      have h9 := hH x.ten
      rw [if_pos rfl] at h9
      rw [Us.add_sub h9] at hB2
      exact hB2
    · have h9 := hH j
      rw [if_neg e] at h9
      rw [← h9]
      exact ((h.acc j hj).kept hK1 (hra j hj)).kept hK2 (n4 j hj (fun e2 => e e2.symm))
  · have hmem : (n, (⟨bl.getD x.ten 0, x.m⟩ : Rv)) ∈ R := (hR3 _).2 ⟨x, hxm, hxid.symm, rfl⟩
    have h8 : (delG n R).length < R.length := by
      unfold delG
      refine Nat.lt_of_le_of_ne (List.length_filter_le _ _) (fun e => ?_)
      have h9 := List.length_filter_eq_length_iff.1 e _ hmem
      simp at h9
    rw [hs2]
    rw [hs1] at hR2
    simp only [List.length_append, List.length_cons] at hR2 ⊢
    omega
  · rw [delG_mem, hR3 q, hs1, hs2]
    constructor
    · rintro ⟨⟨y, hy, e1, e2⟩, hne⟩
      refine ⟨y, ?_, e1, e2⟩
      simp only [List.mem_append, List.mem_cons] at hy ⊢
      rcases hy with hy | rfl | hy
      · exact .inl hy
      · exact absurd (Nb.ext' (by rw [e1, hxid])) hne
      · exact .inr hy
    · rintro ⟨y, hy, e1, e2⟩
      refine ⟨⟨y, ?_, e1, e2⟩, fun e => ?_⟩
      · simp only [List.mem_append, List.mem_cons] at hy ⊢
        rcases hy with hy | hy
        · exact .inl hy
        · exact .inr (.inr hy)
      · rw [e] at e1
        rw [List.pairwise_append, List.pairwise_cons] at hap
        rcases List.mem_append.1 hy with hy | hy
        · exact hl y hy e1.symm
        · exact hap.2.1.1 y hy (by omega)
  · exact Kept.trans hK1 hK2 (fun y _ e => .inr (.inr (.inl e))) (fun y _ e => .inr (.inr (.inr (by rw [e]; exact getD_mem (by rw [h.len]; exact hk)))))

def noH (e : Int) : Value := .tuple #[.agg #[.pointer none, .int .i64 0, .int .i64 0], .int .i64 e]

theorem Tryd.sizeRe : (Tryd.prog.info? 70).map (·.size) = some 3 := by kernel_rfl

theorem loadRe {W : World} {g : Nat} {x y z : Value} {ty : TypeId} (hb : Blk W g #[x, y, z] ty) : (loadVar 70 ⟨g, 0, none⟩).run Tryd.prog W = .ok (.agg #[x, y, z]) W :=
  run_load15 70 3 _ Tryd.underlying70 rfl Tryd.sizeRe hb [x, y, z] rfl rfl

theorem set17r {w : World} {g : Nat} {a0 a1 a2 x0 x1 x2 : Value} {t : TypeId} (hb : Blk w g #[a0, a1, a2] t) : Blk (((w.setCell ⟨g, 0, none⟩ x0).setCell ⟨g, 1, none⟩ x1).setCell ⟨g, 2, none⟩ x2) g #[x0, x1, x2] t ∧ Kept (· = g) w (((w.setCell ⟨g, 0, none⟩ x0).setCell ⟨g, 1, none⟩ x1).setCell ⟨g, 2, none⟩ x2) := by
  refine ⟨?_, (((Kept.refl (· = g) w).setCell _ _ (.inl rfl)).setCell _ _ (.inl rfl)).setCell _ _ (.inl rfl)⟩
  have h9 := ((hb.set 0 x0).set 1 x1).set 2 x2
  simpa using h9

set_option maxRecDepth 100000 in
set_option maxHeartbeats 400000 in
theorem qend_nil (w : World) (z : Int) : Calls Tryd.prog 34 #[.pointer none, .int .i64 z] w fun e w' => e = .returned (noH 3) ∧ Same w w' := by
  obtain ⟨W1, hW1⟩ : ∃ W, W = w.alloc (.cells #[.pointer none, .int .i64 0, .int .i64 0] 70) := ⟨_, rfl⟩
  obtain ⟨xb, hxb⟩ : ∃ b, b = w.heap.size := ⟨_, rfl⟩
  have HK1 : Hid (Same w W1 ∧ w.heap.size ≤ xb) := hid ⟨by rw [hW1]; exact (Kept.refl _ w).alloc _, by omega⟩
  have HB : Hid (Blk W1 xb #[.pointer none, .int .i64 0, .int .i64 0] 70) := hid (by rw [hW1, hxb]; exact Blk.new w _ _)
  obtain ⟨y0, y1, y2, g0, g1, g2⟩ := HB.out.c3'
  go_enter Tryd.func34, Tryd.ntmps34
  go_upto_region 1 with fail
  rw [← hW1, ← hxb]
  clear hW1 hxb
  go_wp2_with fail
  refine bodyPost_ret (v := noH 3) (by rw [results_17b (p := 4) (b := 5) (ty := 70) rfl _ _ _ _ _ ⟨xb, 0, none⟩ _ rfl (loadRe (set17r HB.out).1)]; rfl) rfl ?_
  exact ⟨rfl, HK1.out.1.then (set17r HB.out).2 (fun k hk e => by have := HK1.out.2; omega)⟩

set_option maxRecDepth 100000 in
set_option maxHeartbeats 400000 in
theorem qend_none (h : Qb w p ma mr bl xs S) (n : Nb) (hn : S.find n.v = none) : Calls Tryd.prog 34 #[.pointer (some ⟨p, 0, none⟩), .int .i64 n.v] w fun e w' => e = .returned (noH 172) ∧ Same w w' := by
  obtain ⟨W1, hW1⟩ : ∃ W, W = w.alloc (.cells #[.pointer none, .int .i64 0, .int .i64 0] 70) := ⟨_, rfl⟩
  obtain ⟨xb, hxb⟩ : ∃ b, b = w.heap.size := ⟨_, rfl⟩
  have HK1 : Hid (Same w W1 ∧ w.heap.size ≤ xb) := hid ⟨by rw [hW1]; exact (Kept.refl _ w).alloc _, by omega⟩
  have HB : Hid (Blk W1 xb #[.pointer none, .int .i64 0, .int .i64 0] 70) := hid (by rw [hW1, hxb]; exact Blk.new w _ _)
  have hl := (h.same HK1.out.1).lookR n
  rw [hn] at hl
  simp only [Option.map, Option.elim, Option.isSome] at hl
  obtain ⟨_, _, x2, _, _, _⟩ := (h.same HK1.out.1).blk.c3'
  clear h hn
  go_enter Tryd.func34, Tryd.ntmps34
  go_upto_region 1 with fail
  rw [← hW1, ← hxb]
  clear hW1 hxb
  go_upto_region 4 with fail
  obtain ⟨W2, hW2⟩ : ∃ W, W = W1.alloc (.cells #[.pointer none, .int .i64 0, .int .i64 0] 70) := ⟨_, rfl⟩
  have hk2 : Same W1 W2 := by rw [hW2]; exact (Kept.refl _ _).alloc _
  have HB2 := hid (HB.out.kept hk2 (fun f => f))
  have HK2 := hid (Same.trans HK1.out.1 hk2)
  obtain ⟨y0, y1, y2, g0, g1, g2⟩ := HB2.out.c3'
  rw [← hW2]
  clear hW2 hk2
  go_wp2_with fail
  refine bodyPost_ret (v := noH 172) (by rw [results_17b (p := 4) (b := 5) (ty := 70) rfl _ _ _ _ _ ⟨xb, 0, none⟩ _ rfl (loadRe (set17r HB2.out).1)]; rfl) rfl ?_
  exact ⟨rfl, HK2.out.then (set17r HB2.out).2 (fun k hk e => by have := HK1.out.2; omega)⟩

end

end Go.Proofs.YtjlkchjcmiljjaaDoor
