/-
  Of the proof: parts TkArg, TkArg7.
-/
import Derived.Deep.Strs
import Derived.Deep.Slices
import Derived.Test.YtggcbnhckcenmabGreatDoorJ12
import Derived.Test.YtggcbnhckcenmabGreatDoorJ5

namespace Go.Proofs.YtggcbnhckcenmabGreatDoor
open Go.ChangeShapes Go.WideShapes Go.ChangeAt Go.RowKit Go.Deep

instance : Inhabited TK := ⟨⟨0, 0, 0⟩⟩

theorem Tryz.cellsTok : Tryz.prog.cellsOf 64 = 3 := by kernel_rfl
theorem Tryz.cellsInt6 : Tryz.prog.cellsOf 3 = 1 := by kernel_rfl
theorem Tryz.cellsByte6 : Tryz.prog.cellsOf 5 = 1 := by kernel_rfl

theorem three_cells {w : World} {base : Nat} {x : Addr} {cs : List Value} (h : w.cells? base x 3 = some cs) : ∃ u0 u1 u2, cs = [u0, u1, u2] ∧ w.cell? (x.add 0) = some u0 ∧ w.cell? (x.add 1) = some u1 ∧ w.cell? (x.add 2) = some u2 := by
 obtain ⟨_, hl, hc⟩ := World.cells?_some h
 match cs, hl with
 | [u0, u1, u2], _ => exact ⟨u0, u1, u2, rfl, by simpa using hc 0 (by omega), by simpa using hc 1 (by omega), by simpa using hc 2 (by omega)⟩

theorem add_zero6 (x : Addr) : x.add 0 = x := by unfold Addr.add; simp

theorem u8_bounds {z : Int} (h : (Lit.int .u8 z).wf = true) : 0 ≤ z ∧ z ≤ 255 := by
 simp [Lit.wf, IntKind.min, IntKind.max, IntKind.signed, IntKind.bits] at h
 omega

end Go.Proofs.YtggcbnhckcenmabGreatDoor

namespace Go.Proofs.YtggcbnhckcenmabGreatDoor
open Go.ChangeShapes Go.WideShapes Go.ChangeAt Go.RowKit Go.Deep

theorem toks_of7 {H : Type} {enc : TypeId × Value → H} {W : World} {a : Option Addr} {len cap fuel : Nat} {x : DataW H × List MemPlace} (h : DataW.trod enc Tryz.prog W 0 (fun _ => true) true fuel 39 [.slice a len cap] = some x) :
  ∃ ts : List TK, TkSrc W (fun k => k < W.heap.size) (.slice a len cap) ts ∧ ts.length = len ∧ (a = none → cap = 0) ∧ ∀ t ∈ ts, t.lit < 256 := by
 rcases open_slice Tryz.underlying39 h with ⟨hcs, _⟩ | ⟨x0, l, c, m, n, D, Pl, hcs, _, hl, _, hm, _, hx⟩
 ·simp only [List.cons.injEq, Value.slice.injEq, and_true] at hcs
  obtain ⟨rfl, rfl, rfl⟩ := hcs
  exact ⟨[], ⟨none, 0, rfl, Nat.le_refl _, fun h => absurd rfl h⟩, rfl, fun _ => rfl, fun t ht => nomatch ht⟩
 ·simp only [List.cons.injEq, Value.slice.injEq, and_true] at hcs
  obtain ⟨rfl, rfl, rfl⟩ := hcs
  simp only [if_true] at hm
  subst hm
  rw [Tryz.cellsTok] at hx
  have hone : ∀ j, j < len → ∃ t : TK, ∃ b o, x0 = ⟨b, o, none⟩ ∧ W.cell? ⟨b, o + j * 3, none⟩ = some (.int .u8 (t.lit : Nat)) ∧ W.cell? ⟨b, o + j * 3 + 1, none⟩ = some (.int .i64 t.len) ∧ W.cell? ⟨b, o + j * 3 + 2, none⟩ = some (.int .i64 t.dist) ∧ t.lit < 256 := by
   intro j hj
   obtain ⟨cs0, hc0, _⟩ := hx 0 (by omega)
   obtain ⟨u0, _, _, _, hu0, _⟩ := three_cells hc0
   rw [Nat.zero_mul, add_zero6] at hu0
   obtain ⟨b, o, rfl⟩ : ∃ b o, x0 = ⟨b, o, none⟩ := ⟨x0.block, x0.off, spot_none hu0⟩
   obtain ⟨cs, hc, ht⟩ := hx j (by omega)
   obtain ⟨k0, k1, k2, rfl, h0, h1, h2⟩ := three_cells hc
   obtain ⟨y0, y1, y2, n', _, _, t0, t1, t2⟩ := trod_struct3 Tryz.underlying64 ht
   simp only [Tryz.cellsInt6, Tryz.cellsByte6, List.drop_zero, List.drop_succ_cons, List.take_succ_cons, List.take_zero] at t0 t1 t2
   obtain ⟨q0, e0, _, wf0⟩ := DataW.trod_int Tryz.underlying5 t0
   obtain ⟨q1, e1, _, _⟩ := DataW.trod_int Tryz.underlying3 t1
   obtain ⟨q2, e2, _, _⟩ := DataW.trod_int Tryz.underlying3 t2
   simp only [List.cons.injEq, and_true] at e0 e1 e2
   subst e0 e1 e2
   have hb := u8_bounds wf0
   refine ⟨⟨q0.toNat, q1, q2⟩, b, o, rfl, ?_, ?_, ?_, by simp only; omega⟩
   ·rw [add_zero6, addAt] at h0; rw [h0]; simp only [Option.some.injEq, Value.int.injEq, true_and]; omega
   ·rw [addAt, addAt] at h1; exact h1
   ·rw [addAt, addAt] at h2; exact h2
  obtain ⟨f, hf⟩ := choose_lt hone
  refine ⟨(List.range len).map f, ⟨some x0, _, by rw [List.length_map, List.length_range], by simpa using hl, fun hne => ?_⟩, by simp, fun e => (by cases e), fun t ht => ?_⟩
  rotate_left
  ·obtain ⟨j, hj, rfl⟩ := List.mem_map.1 ht
   obtain ⟨_, _, _, _, _, _, h9⟩ := hf j (List.mem_range.1 hj)
   exact h9
  have hlen : 0 < len := by
   rcases Nat.eq_zero_or_pos len with e | e
   ·subst e; simp at hne
   ·exact e
  obtain ⟨b, o, rfl, c0, _⟩ := hf 0 hlen
  refine ⟨b, o, rfl, World.block_lt_of_cell? W _ c0, fun j hj i hi => ?_⟩
  simp only [List.length_map, List.length_range] at hj
  obtain ⟨b', o', e, c1, c2, c3, _⟩ := hf j hj
  simp only [Addr.mk.injEq, and_true] at e
  obtain ⟨rfl, rfl⟩ := e
  simp only [List.getElem_map, List.getElem_range]
  match i, hi with
  | 0, _ => rw [Nat.add_zero, c1]; rfl
  | 1, _ => rw [← Nat.add_assoc, c2]; rfl
  | 2, _ => rw [← Nat.add_assoc, c3]; rfl

end Go.Proofs.YtggcbnhckcenmabGreatDoor
