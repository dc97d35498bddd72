/-
  Blocks of two cells; results that stand in a block.
-/
import Derived.Test.YtaefgnakdadgeaaBlk
namespace Go.Proofs.Ytaefgnakdadgeaa
open Go.RowKit

theorem Blk.two {w : World} {g : Nat} {a b : Value} {t : TypeId} (hb : Blk w g #[a, b] t) : w.cell? ⟨g, 0, none⟩ = some a ∧ w.cell? ⟨g, 1, none⟩ = some b ∧ w.frozen? ⟨g, 0, none⟩ = false ∧ w.frozen? ⟨g, 1, none⟩ = false :=
  ⟨hb.cell 0, hb.cell 1, hb.frozen 0, hb.frozen 1⟩

theorem set2 {w : World} {g : Nat} {a0 a1 x0 x1 : Value} {t : TypeId} (hb : Blk w g #[a0, a1] t) : Blk ((w.setCell ⟨g, 0, none⟩ x0).setCell ⟨g, 1, none⟩ x1) g #[x0, x1] t ∧ Kept (· = g) w ((w.setCell ⟨g, 0, none⟩ x0).setCell ⟨g, 1, none⟩ x1) := by
  refine ⟨?_, ((Kept.refl (· = g) w).setCell _ _ (.inl rfl)).setCell _ _ (.inl rfl)⟩
  have h9 := (hb.set 0 x0).set 1 x1
  simpa using h9

theorem results_c1 {fn : Func} {p : Tmp} {ty : TypeId} (h : fn.results = #[.cell p ty]) (tmps : Array Value) (P : Program) (w w1 w2 : World) (x : Addr) (v : Value) (h1 : (asAddr (tmps.getD p undef)).run P w = .ok x w1) (h2 : (loadVar ty x).run P w1 = .ok v w2) :
    (results fn tmps).run P w = .ok v w2 := by
  simp only [results, h]
  simp only [Array.getD_eq_getD_getElem?] at h1 ⊢
  simp [Sem.run_bind, Result.andThen, h1, h2]

theorem results_c2 {fn : Func} {p b : Tmp} {ty : TypeId} (h : fn.results = #[.cell p ty, .tmp b]) (tmps : Array Value) (P : Program) (w w1 w2 : World) (x : Addr) (v : Value) (h1 : (asAddr (tmps.getD p undef)).run P w = .ok x w1) (h2 : (loadVar ty x).run P w1 = .ok v w2) :
    (results fn tmps).run P w = .ok (.tuple #[v, tmps.getD b undef]) w2 := by
  simp only [results, h]
  simp only [Array.getD_eq_getD_getElem?] at h1 ⊢
  simp [Sem.run_bind, Result.andThen, h1, h2]

end Go.Proofs.Ytaefgnakdadgeaa
