/-
  A slice of calls on a writer that came in.
-/
import Derived.Test.YtlbolkifdghhnaaRoundWalk
import Derived.Test.YtlbolkifdghhnaaArgs
import Derived.Deep.Strs
import Derived.Deep.Slices
namespace Go.Proofs.Ytlbolkifdghhnaa
open Go.ChangeShapes Go.WideShapes Go.ChangeAt Go.RowKit Go.Deep

theorem Try.cellsWOp : Try.prog.cellsOf 28 = 3 := by kernel_rfl
theorem Try.cellsInt : Try.prog.cellsOf 3 = 1 := by kernel_rfl
theorem Try.cellsU32 : Try.prog.cellsOf 26 = 1 := by kernel_rfl

/-- Three cells behind an address. -/
theorem three {w : World} {base : Nat} {x : Addr} {cs : List Value} (h : w.cells? base x 3 = some cs) : ∃ u0 u1 u2, cs = [u0, u1, u2] ∧ w.cell? (x.add 0) = some u0 ∧ w.cell? (x.add 1) = some u1 ∧ w.cell? (x.add 2) = some u2 := by
  obtain ⟨_, hl, hc⟩ := World.cells?_some h
  match cs, hl with
  | [u0, u1, u2], _ => exact ⟨u0, u1, u2, rfl, by simpa using hc 0 (by omega), by simpa using hc 1 (by omega), by simpa using hc 2 (by omega)⟩

theorem spot_of_cell {w : World} {x : Addr} {v : Value} (h : w.cell? (x.add 0) = some v) : ∃ b o, x = ⟨b, o, none⟩ := ⟨x.block, x.off, spot_none h⟩

theorem add_zero (x : Addr) : x.add 0 = x := by unfold Addr.add; simp

theorem ops_of {H : Type} {enc : TypeId × Value → H} {W : World} {a : Option Addr} {len cap fuel : Nat} {x : DataW H × List MemPlace} (h : DataW.trod enc Try.prog W 0 (fun _ => true) true fuel 22 [.slice a len cap] = some x) :
    ∃ K V N, OpsAt W a len K V N := by
  rcases open_slice Try.underlying22 h with ⟨hcs, _⟩ | ⟨x0, l, c, m, n, D, Pl, hcs, _, hl, _, hm, _, hx⟩
  · simp only [List.cons.injEq, Value.slice.injEq, and_true] at hcs
    obtain ⟨rfl, rfl, rfl⟩ := hcs
    exact ⟨fun _ => 0, fun _ => 0, fun _ => 0, fun j hj => by omega⟩
  · simp only [List.cons.injEq, Value.slice.injEq, and_true] at hcs
    obtain ⟨rfl, rfl, rfl⟩ := hcs
    simp only [if_true] at hm
    subst hm
    rw [Try.cellsWOp] at hx
    have hone : ∀ j, j < len → ∃ kvn : Int × Nat × Int, kvn.2.1 < 4294967296 ∧ ∃ b o, x0 = ⟨b, o, none⟩ ∧ W.cell? ⟨b, o + j * 3, none⟩ = some (.int .i64 kvn.1) ∧ W.cell? ⟨b, o + j * 3 + 1, none⟩ = some (.int .u32 (kvn.2.1 : Nat)) ∧ W.cell? ⟨b, o + j * 3 + 2, none⟩ = some (.int .i64 kvn.2.2) := by
      intro j hj
      obtain ⟨cs0, hc0, _⟩ := hx 0 (by omega)
      obtain ⟨u0, _, _, _, hu0, _, _⟩ := three hc0
      rw [Nat.zero_mul, add_zero] at hu0
      obtain ⟨b, o, rfl⟩ := spot_of_cell hu0
      obtain ⟨cs, hc, ht⟩ := hx j (by omega)
      obtain ⟨k0, k1, k2, rfl, h0, h1, h2⟩ := three hc
      obtain ⟨y0, y1, y2, n', _, _, t0, t1, t2⟩ := trod_struct3 Try.underlying28 ht
      simp only [Try.cellsInt, Try.cellsU32, List.drop_zero, List.drop_succ_cons, List.take_succ_cons, List.take_zero] at t0 t1 t2
      obtain ⟨q0, e0, _, _⟩ := DataW.trod_int Try.underlying3 t0
      obtain ⟨q1, e1, _, w1⟩ := DataW.trod_int Try.underlying26 t1
      obtain ⟨q2, e2, _, _⟩ := DataW.trod_int Try.underlying3 t2
      simp only [List.cons.injEq, and_true] at e0 e1 e2
      subst e0 e1 e2
      have hb := bounds_u32 w1
      refine ⟨(q0, q1.toNat, q2), by simp only; omega, b, o, rfl, ?_, ?_, ?_⟩
      · rw [add_zero, addAt] at h0; exact h0
      · rw [addAt, addAt] at h1; rw [h1]; congr 2; simp only; omega
      · rw [addAt, addAt] at h2; exact h2
    obtain ⟨f, hf⟩ := choose_lt hone
    refine ⟨fun j => (f j).1, fun j => (f j).2.1, fun j => (f j).2.2, fun j hj => ?_⟩
    obtain ⟨h1, b, o, rfl, h2⟩ := hf j hj
    exact ⟨h1, b, o, rfl, h2⟩

end Go.Proofs.Ytlbolkifdghhnaa
