/-
  A slice of calls on a reader that came in.
-/
import Derived.Test.YtlbolkifdghhnaaReadsWalk
import Derived.Test.YtlbolkifdghhnaaOpsArg
namespace Go.Proofs.Ytlbolkifdghhnaa
open Go.ChangeShapes Go.WideShapes Go.ChangeAt Go.RowKit Go.Deep

theorem Try.cellsROp : Try.prog.cellsOf 43 = 3 := by kernel_rfl
theorem Try.cellsBytes : Try.prog.cellsOf 25 = 1 := by kernel_rfl

/-- A cell that holds a slice of bytes. -/
theorem bytes_of {H : Type} {enc : TypeId × Value → H} {W : World} {fuel : Nat} {v : Value} {x : DataW H × List MemPlace} (h : DataW.trod enc Try.prog W 0 (fun _ => true) true fuel 25 [v] = some x) :
    ∃ a cap bs, v = .slice a bs.length cap ∧ Src W (fun k => k < W.heap.size) (.slice a bs.length cap) bs ∧ (∀ b ∈ bs, b < 256) ∧ bs.length ≤ maxLen := by
  obtain ⟨a, len, cap, zs, rfl, w0⟩ : ∃ a len cap zs, v = .slice a len cap ∧ IsRow .u8 W a len cap zs := by
    rcases open_ints Try.underlying25 Try.underlying5 (by kernel_rfl) h with ⟨hcs, _⟩ | ⟨x, l, c, zs, hcs, _, hl, hm, hz, _, hcell, hwz⟩
    · simp only [List.cons.injEq, and_true] at hcs
      exact ⟨none, 0, 0, [], hcs, .inl ⟨rfl, rfl, rfl, rfl⟩⟩
    · simp only [List.cons.injEq, and_true] at hcs
      exact ⟨_, _, _, zs, hcs, .inr ⟨_, rfl, hl, hm, by simpa using hz, hcell, hwz⟩⟩
  obtain ⟨bs, hs, hl, hb⟩ := w0.src
  have hm := w0.max
  subst hl
  exact ⟨a, cap, bs, rfl, hs, hb, hm⟩

theorem rops_of {H : Type} {enc : TypeId × Value → H} {W : World} {a : Option Addr} {len cap fuel : Nat} {x : DataW H × List MemPlace} (h : DataW.trod enc Try.prog W 0 (fun _ => true) true fuel 41 [.slice a len cap] = some x) :
    ∃ K N A C BS, ROpsAt W W.heap.size a len K N A C BS ∧ ∀ j, j < len → (BS j).length ≤ maxLen := by
  rcases open_slice Try.underlying41 h with ⟨hcs, _⟩ | ⟨x0, l, c, m, n, D, Pl, hcs, _, hl, _, hm, _, hx⟩
  · simp only [List.cons.injEq, Value.slice.injEq, and_true] at hcs
    obtain ⟨rfl, rfl, rfl⟩ := hcs
    exact ⟨fun _ => 0, fun _ => 0, fun _ => none, fun _ => 0, fun _ => [], fun j hj => by omega, fun j hj => by omega⟩
  · simp only [List.cons.injEq, Value.slice.injEq, and_true] at hcs
    obtain ⟨rfl, rfl, rfl⟩ := hcs
    simp only [if_true] at hm
    subst hm
    rw [Try.cellsROp] at hx
    have hone : ∀ j, j < len → ∃ z : Int × Int × Option Addr × Nat × List Nat, (z.2.2.2.2.length ≤ maxLen ∧ (∀ x ∈ z.2.2.2.2, x < 256) ∧ Src W (fun k => k < W.heap.size) (.slice z.2.2.1 z.2.2.2.2.length z.2.2.2.1) z.2.2.2.2 ∧
        ∃ b o, x0 = ⟨b, o, none⟩ ∧ b < W.heap.size ∧ W.cell? ⟨b, o + j * 3, none⟩ = some (.int .i64 z.1) ∧ W.cell? ⟨b, o + j * 3 + 1, none⟩ = some (.int .i64 z.2.1) ∧ W.cell? ⟨b, o + j * 3 + 2, none⟩ = some (.slice z.2.2.1 z.2.2.2.2.length z.2.2.2.1)) := by
      intro j hj
      obtain ⟨cs0, hc0, _⟩ := hx 0 (by omega)
      obtain ⟨u0, _, _, _, hu0, _, _⟩ := three hc0
      rw [Nat.zero_mul, add_zero] at hu0
      obtain ⟨b, o, rfl⟩ := spot_of_cell hu0
      obtain ⟨cs, hc, ht⟩ := hx j (by omega)
      obtain ⟨k0, k1, k2, rfl, h0, h1, h2⟩ := three hc
      obtain ⟨y0, y1, y2, n', _, _, t0, t1, t2⟩ := trod_struct3 Try.underlying43 ht
      simp only [Try.cellsInt, Try.cellsBytes, List.drop_zero, List.drop_succ_cons, List.take_succ_cons, List.take_zero] at t0 t1 t2
      obtain ⟨q0, e0, _, _⟩ := DataW.trod_int Try.underlying3 t0
      obtain ⟨q1, e1, _, _⟩ := DataW.trod_int Try.underlying3 t1
      obtain ⟨a2, c2, bs2, e2, s2, b2, m2⟩ := bytes_of t2
      simp only [List.cons.injEq, and_true] at e0 e1
      subst e0 e1 e2
      rw [add_zero, addAt] at h0
      rw [addAt, addAt] at h1 h2
      exact ⟨(q0, q1, a2, c2, bs2), m2, b2, s2, b, o, rfl, World.block_lt_of_cell? W _ h0, h0, h1, h2⟩
    obtain ⟨f, hf⟩ := choose_lt hone
    refine ⟨fun j => (f j).1, fun j => (f j).2.1, fun j => (f j).2.2.1, fun j => (f j).2.2.2.1, fun j => (f j).2.2.2.2, fun j hj => ?_, fun j hj => (hf j hj).1⟩
    obtain ⟨_, h1, h2, b, o, rfl, h3⟩ := hf j hj
    exact ⟨h1, h2, b, o, rfl, h3⟩

end Go.Proofs.Ytlbolkifdghhnaa
