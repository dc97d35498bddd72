/-
  A slice of steps that came in.
-/
import Derived.Test.YtofhlnpbflkdlaaDoorLnRef
import Derived.Test.YtofhlnpbflkdlaaDoorArgs
import Derived.Deep.Strs
import Derived.Deep.Slices
namespace Go.Proofs.YtofhlnpbflkdlaaDoor
open Go.ChangeShapes Go.WideShapes Go.ChangeAt Go.RowKit Go.Deep

theorem Tryd.cellsStep : Tryd.prog.cellsOf 31 = 2 := by kernel_rfl
theorem Tryd.cellsInt2 : Tryd.prog.cellsOf 3 = 1 := by kernel_rfl

/-- Two cells behind an address. -/
theorem two_cells {w : World} {base : Nat} {x : Addr} {cs : List Value} (h : w.cells? base x 2 = some cs) : ∃ u0 u1, cs = [u0, u1] ∧ w.cell? (x.add 0) = some u0 ∧ w.cell? (x.add 1) = some u1 := by
  obtain ⟨_, hl, hc⟩ := World.cells?_some h
  match cs, hl with
  | [u0, u1], _ => exact ⟨u0, u1, rfl, by simpa using hc 0 (by omega), by simpa using hc 1 (by omega)⟩

theorem add_zero2 (x : Addr) : x.add 0 = x := by unfold Addr.add; simp

theorem steps_of {H : Type} {enc : TypeId × Value → H} {W : World} {a : Option Addr} {len cap fuel : Nat} {x : DataW H × List MemPlace} (h : DataW.trod enc Tryd.prog W 0 (fun _ => true) true fuel 25 [.slice a len cap] = some x) :
    ∃ ss : List (Int × Int), StSrc W (fun k => k < W.heap.size) (.slice a len cap) ss ∧ ss.length = len := by
  rcases open_slice Tryd.underlying25 h with ⟨hcs, _⟩ | ⟨x0, l, c, m, n, D, Pl, hcs, _, hl, _, hm, _, hx⟩
  · simp only [List.cons.injEq, Value.slice.injEq, and_true] at hcs
    obtain ⟨rfl, rfl, rfl⟩ := hcs
    exact ⟨[], ⟨none, 0, rfl, Nat.le_refl _, fun h => absurd rfl h⟩, rfl⟩
  · simp only [List.cons.injEq, Value.slice.injEq, and_true] at hcs
    obtain ⟨rfl, rfl, rfl⟩ := hcs
    simp only [if_true] at hm
    subst hm
    rw [Tryd.cellsStep] at hx
    have hone : ∀ j, j < len → ∃ kv : Int × Int, ∃ b o, x0 = ⟨b, o, none⟩ ∧ W.cell? ⟨b, o + j * 2, none⟩ = some (.int .i64 kv.1) ∧ W.cell? ⟨b, o + j * 2 + 1, none⟩ = some (.int .i64 kv.2) := by
      intro j hj
      obtain ⟨cs0, hc0, _⟩ := hx 0 (by omega)
      obtain ⟨u0, _, _, hu0, _⟩ := two_cells hc0
      rw [Nat.zero_mul, add_zero2] at hu0
      obtain ⟨b, o, rfl⟩ : ∃ b o, x0 = ⟨b, o, none⟩ := ⟨x0.block, x0.off, spot_none hu0⟩
      obtain ⟨cs, hc, ht⟩ := hx j (by omega)
      obtain ⟨k0, k1, rfl, h0, h1⟩ := two_cells hc
      obtain ⟨y0, y1, n', _, _, t0, t1⟩ := trod_struct2 Tryd.underlying31 ht
      simp only [Tryd.cellsInt2, List.drop_zero, List.drop_succ_cons, List.take_succ_cons, List.take_zero] at t0 t1
      obtain ⟨q0, e0, _, _⟩ := DataW.trod_int Tryd.underlying3 t0
      obtain ⟨q1, e1, _, _⟩ := DataW.trod_int Tryd.underlying3 t1
      simp only [List.cons.injEq, and_true] at e0 e1
      subst e0 e1
      refine ⟨(q0, q1), b, o, rfl, ?_, ?_⟩
      · rw [add_zero2, addAt] at h0; exact h0
      · rw [addAt, addAt] at h1; exact h1
    obtain ⟨f, hf⟩ := choose_lt hone
    refine ⟨(List.range len).map f, ⟨some x0, _, by rw [List.length_map, List.length_range], by simpa using hl, fun hne => ?_⟩, by simp⟩
    have hlen : 0 < len := by
      rcases Nat.eq_zero_or_pos len with e | e
      · subst e; simp at hne
      · exact e
    obtain ⟨b, o, rfl, c0, _⟩ := hf 0 hlen
    refine ⟨b, o, rfl, World.block_lt_of_cell? W _ c0, fun j hj i hi => ?_⟩
    simp only [List.length_map, List.length_range] at hj
    obtain ⟨b', o', e, c1, c2⟩ := hf j hj
    simp only [Addr.mk.injEq, and_true] at e
    obtain ⟨rfl, rfl⟩ := e
    simp only [List.getElem_map, List.getElem_range]
    match i, hi with
    | 0, _ => rw [Nat.add_zero, c1]; rfl
    | 1, _ => rw [← Nat.add_assoc, c2]; rfl

end Go.Proofs.YtofhlnpbflkdlaaDoor
