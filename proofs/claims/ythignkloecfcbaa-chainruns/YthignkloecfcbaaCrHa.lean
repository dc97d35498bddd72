/-
  Layer 12, the reference: a version written anew; rows and blocks apart.
-/
import Derived.Test.YthignkloecfcbaaCrG
import Derived.Test.YthignkloecfcbaaChJ
namespace Go.Proofs.Ythignkloecfcbaa
open Go.RowKit Go.Maps Go.Sort

theorem Try.infoLv : (Try.prog.info? 93).map (fun i => (i.zero, i.size, i.bytes)) = some (some (.agg #[.string ⟨#[]⟩, .string ⟨#[]⟩, .string ⟨#[]⟩, .int .i64 0, .bool false, .string ⟨#[]⟩]), 6, 80) := by kernel_rfl

theorem RowC.off_blk {α : Type} {B t k : Nat} {enc : α → List Value} {w : World} {v : Value} {xs : List α} (h : RowC B t k enc w v xs) {j : Nat} {cs : Array Value} {t' : TypeId} (hb : Blk w j cs t') (ht : t' ≠ t) : ¬ v.ownBlock = some j := fun hj => by
  rcases h.2 with ⟨rfl, _⟩ | ⟨g, cap, cur, rfl, _, hg, _⟩
  · cases hj
  · simp only [Value.ownBlock, Option.some.injEq] at hj
    subst hj
    unfold Blk at hb
    rw [hg] at hb
    simp only [Option.some.injEq, Obj.cells.injEq] at hb
    exact ht hb.2.1.symm

theorem flat_setL : ∀ (xs : List Lv) (i : Nat) (x : Lv) (_ : i < xs.length), ((((((xs.flatMap lvE).set (i * 6) (.string x.b.tn)).set (i * 6 + 1) (.string x.b.ar)).set (i * 6 + 2) (.string x.n.s)).set (i * 6 + 3) (.int .i64 x.v.t)).set (i * 6 + 4) (.bool x.v.there)).set (i * 6 + 5) (.string x.v.data) = (xs.set i x).flatMap lvE
  | [], i, x, hi => by simp at hi
  | y :: xs, 0, x, _ => by simp [lvE]
  | y :: xs, i + 1, x, hi => by
    have h1 := flat_setL xs i x (by simp at hi; omega)
    rw [List.flatMap_cons, List.set_cons_succ, List.flatMap_cons, ← h1]
    have e : ∀ q, (i + 1) * 6 + q = (i * 6 + q) + 1 + 1 + 1 + 1 + 1 + 1 := fun q => by omega
    have e0 : (i + 1) * 6 = (i * 6) + 1 + 1 + 1 + 1 + 1 + 1 := by omega
    rw [e 1, e 2, e 3, e 4, e 5, e0]
    rfl

def setL (w : World) (g i : Nat) (x : Lv) : World := (((((w.setCell ⟨g, i * 6, none⟩ (.string x.b.tn)).setCell ⟨g, i * 6 + 1, none⟩ (.string x.b.ar)).setCell ⟨g, i * 6 + 2, none⟩ (.string x.n.s)).setCell ⟨g, i * 6 + 3, none⟩ (.int .i64 x.v.t)).setCell ⟨g, i * 6 + 4, none⟩ (.bool x.v.there)).setCell ⟨g, i * 6 + 5, none⟩ (.string x.v.data)

theorem setL_kept (w : World) (g i : Nat) (x : Lv) : Kept (fun j => j = g) w (setL w g i x) := ((((((Kept.refl (fun j => j = g) w).setCell _ _ (.inl rfl)).setCell _ _ (.inl rfl)).setCell _ _ (.inl rfl)).setCell _ _ (.inl rfl)).setCell _ _ (.inl rfl)).setCell _ _ (.inl rfl)

/-- A version written anew. -/
theorem RowC.setL {B : Nat} {w : World} {g n cap : Nat} {xs : List Lv} (h : RowC B 93 6 lvE w (.slice (some ⟨g, 0, none⟩) n cap) xs) (i : Nat) (x : Lv) (hi : i < xs.length) :
    RowC B 93 6 lvE (setL w g i x) (.slice (some ⟨g, 0, none⟩) n cap) (xs.set i x) := by
  have hl := h.len
  subst hl
  have h1 := (World.ownsRow.stored h (i * 6) (.string x.b.tn)).1
  have h2 := (World.ownsRow.stored h1 (i * 6 + 1) (.string x.b.ar)).1
  have h3 := (World.ownsRow.stored h2 (i * 6 + 2) (.string x.n.s)).1
  have h4 := (World.ownsRow.stored h3 (i * 6 + 3) (.int .i64 x.v.t)).1
  have h5 := (World.ownsRow.stored h4 (i * 6 + 4) (.bool x.v.there)).1
  have h6 := (World.ownsRow.stored h5 (i * 6 + 5) (.string x.v.data)).1
  rw [flat_setL xs i x hi] at h6
  unfold RowC
  rw [List.length_set]
  exact h6

theorem cellsAt_lv (w : World) (x : Lv) : CellsAt (w.alloc (.cells #[.string x.b.tn, .string x.b.ar, .string x.n.s, .int .i64 x.v.t, .bool x.v.there, .string x.v.data] 93)) ⟨w.heap.size, 0, none⟩ ([x].flatMap lvE) := by
  have hb := Blk.new w #[.string x.b.tn, .string x.b.ar, .string x.n.s, .int .i64 x.v.t, .bool x.v.there, .string x.v.data] 93
  intro j u hj
  match j, hj with
  | 0, hj => exact (hb.cell 0).trans hj
  | 1, hj => exact (hb.cell 1).trans hj
  | 2, hj => exact (hb.cell 2).trans hj
  | 3, hj => exact (hb.cell 3).trans hj
  | 4, hj => exact (hb.cell 4).trans hj
  | 5, hj => exact (hb.cell 5).trans hj
  | j + 6, hj => simp [lvE] at hj

end Go.Proofs.Ythignkloecfcbaa
