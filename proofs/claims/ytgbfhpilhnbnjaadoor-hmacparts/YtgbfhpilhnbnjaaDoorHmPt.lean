/-
  Rows of bytes and truths that came in.
-/
import Derived.Test.YtgbfhpilhnbnjaaDoorHmArg
namespace Go.Proofs.YtgbfhpilhnbnjaaDoor
open Go.ChangeShapes Go.WideShapes Go.ChangeAt Go.RowKit Go.Deep

/-- One part: a slice and its bytes. -/
structure Pt15 where
  a : Option Addr
  n : Nat
  c : Nat
  bs : List Nat

instance : Inhabited Pt15 := ⟨⟨none, 0, 0, []⟩⟩

/-- Parts: a row of slices. -/
def Pts15 (W : World) (a : Option Addr) (len : Nat) (P : Nat → Pt15) : Prop :=
  ∀ j, j < len → (Arg15 W (.slice (P j).a (P j).n (P j).c) (P j).bs ∧ (P j).bs.length = (P j).n) ∧ ∃ b o, a = some ⟨b, o, none⟩ ∧ W.cell? ⟨b, o + j, none⟩ = some (.slice (P j).a (P j).n (P j).c)

/-- Truths. -/
def Bls15 (W : World) (a : Option Addr) (len : Nat) (B : Nat → Bool) : Prop :=
  ∀ j, j < len → ∃ b o, a = some ⟨b, o, none⟩ ∧ W.cell? ⟨b, o + j, none⟩ = some (.bool (B j))

theorem Tryd.cellsBs15 : Tryd.prog.cellsOf 22 = 1 := by kernel_rfl
theorem Tryd.cellsBo15 : Tryd.prog.cellsOf 4 = 1 := by kernel_rfl

theorem parts15_of {H : Type} {enc : TypeId × Value → H} {W : World} {a : Option Addr} {len cap fuel : Nat} {x : DataW H × List MemPlace} (h : DataW.trod enc Tryd.prog W 0 (fun _ => true) true fuel 29 [.slice a len cap] = some x) :
    ∃ P : Nat → Pt15, Pts15 W a len P := by
  rcases open_slice1 Tryd.underlying29 Tryd.cellsBs15 h with ⟨hcs, _⟩ | ⟨x0, l, c, m, n, V, D, Pl, hcs, _, hl, _, hm, _, hx⟩
  · simp only [List.cons.injEq, Value.slice.injEq, and_true] at hcs
    obtain ⟨rfl, rfl, rfl⟩ := hcs
    exact ⟨fun _ => default, fun j hj => by omega⟩
  · simp only [List.cons.injEq, Value.slice.injEq, and_true] at hcs
    obtain ⟨rfl, rfl, rfl⟩ := hcs
    simp only [if_true] at hm
    subst hm
    refine choose_lt (α := Pt15) (p := fun j p => (Arg15 W (.slice p.a p.n p.c) p.bs ∧ p.bs.length = p.n) ∧ ∃ b o, some x0 = some ⟨b, o, none⟩ ∧ W.cell? ⟨b, o + j, none⟩ = some (.slice p.a p.n p.c)) (fun j hj => ?_)
    obtain ⟨hc, ht⟩ := hx j (by omega)
    have hc0 := (hx 0 (by omega)).1
    have hx0 := spot_none hc0
    obtain ⟨p, hp, hok⟩ : ∃ p : Pt15, Value.slice p.a p.n p.c = V j ∧ Arg15 W (.slice p.a p.n p.c) p.bs ∧ p.bs.length = p.n := by
      rcases open_ints Tryd.underlying22 Tryd.underlying5 Tryd.cellsU8 ht with ⟨hcs, _⟩ | ⟨y, l2, c2, zs, hcs, _, hl2, hm2, hz, _, hcell, hwz⟩
      · simp only [List.cons.injEq, and_true] at hcs
        obtain ⟨bs, hb, hl⟩ := IsRow.arg15 (w := W) (a := none) (len := 0) (cap := 0) (zs := []) (.inl ⟨rfl, rfl, rfl, rfl⟩)
        exact ⟨⟨none, 0, 0, bs⟩, hcs.symm, hb, hl⟩
      · simp only [List.cons.injEq, and_true] at hcs
        obtain ⟨bs, hb, hl⟩ := IsRow.arg15 (w := W) (zs := zs) (.inr ⟨_, rfl, hl2, hm2, by simpa using hz, hcell, hwz⟩)
        exact ⟨⟨some y, l2, c2, bs⟩, hcs.symm, hb, hl⟩
    refine ⟨p, hok, x0.block, x0.off, by rw [← hx0], ?_⟩
    rw [hx0, addAt] at hc
    rw [hc, ← hp]

theorem bools15_of {H : Type} {enc : TypeId × Value → H} {W : World} {a : Option Addr} {len cap fuel : Nat} {x : DataW H × List MemPlace} (h : DataW.trod enc Tryd.prog W 0 (fun _ => true) true fuel 30 [.slice a len cap] = some x) :
    ∃ B : Nat → Bool, Bls15 W a len B := by
  rcases open_bools Tryd.underlying30 Tryd.underlying4 Tryd.cellsBo15 h with ⟨hcs, _⟩ | ⟨x0, l, c, B, hcs, _, hl, _, _, hx⟩
  · simp only [List.cons.injEq, Value.slice.injEq, and_true] at hcs
    obtain ⟨rfl, rfl, rfl⟩ := hcs
    exact ⟨fun _ => false, fun j hj => by omega⟩
  · simp only [List.cons.injEq, Value.slice.injEq, and_true] at hcs
    obtain ⟨rfl, rfl, rfl⟩ := hcs
    refine ⟨B, fun j hj => ?_⟩
    have hc := hx j (by omega)
    have hx0 := spot_none (hx 0 (by omega))
    refine ⟨x0.block, x0.off, by rw [← hx0], ?_⟩
    rw [hx0, addAt] at hc
    exact hc

theorem Pts15.at {W w : World} {a : Option Addr} {len : Nat} {P : Nat → Pt15} (h : Pts15 W a len P) (hk : Same W w) (j : Nat) (hj : j < len) :
    Arg15 w (.slice (P j).a (P j).n (P j).c) (P j).bs ∧ (P j).bs.length = (P j).n ∧ ∃ b o, a = some ⟨b, o, none⟩ ∧ w.cell? ⟨b, o + j, none⟩ = some (.slice (P j).a (P j).n (P j).c) := by
  obtain ⟨⟨h1, h2⟩, b, o, h3, h4⟩ := h j hj
  exact ⟨h1.same hk, h2, b, o, h3, hk.cell h4 (fun f => f)⟩

/-- All that the first i parts say. -/
def allP (P : Nat → Pt15) : Nat → List Nat
  | 0 => []
  | i + 1 => allP P i ++ (P i).bs

end Go.Proofs.YtgbfhpilhnbnjaaDoor
