/-
  Of the proof: parts PtArg.
-/
import Derived.Deep.Slices
import Derived.Test.YtggcbnhckcenmaaGreatDoorJ5
import Derived.Test.YtggcbnhckcenmaaGreatDoorJ34

/-
  A slice of slices of bytes that came in.
-/
namespace Go.Proofs.YtggcbnhckcenmaaGreatDoor
open Go.ChangeShapes Go.WideShapes Go.ChangeAt Go.RowKit Go.Deep

/-- One part: a slice and its bytes. -/
structure Pt where
  a : Option Addr
  n : Nat
  c : Nat
  bs : List Nat

instance : Inhabited Pt := ⟨⟨none, 0, 0, []⟩⟩

def Pt.v (p : Pt) : Value := .slice p.a p.n p.c

structure PtOk (W : World) (p : Pt) : Prop where
  src : Src W (fun k => k < W.heap.size) (.slice p.a p.n p.c) p.bs
  len : p.bs.length = p.n
  byte : ∀ x ∈ p.bs, x < 256
  nil : ∀ n c, Value.slice p.a p.n p.c = .slice none n c → n = 0 ∧ c = 0

/-- Parts: a row of slices. -/
def Pts (W : World) (a : Option Addr) (len : Nat) (P : Nat → Pt) : Prop :=
  ∀ j, j < len → PtOk W (P j) ∧ ∃ b o, a = some ⟨b, o, none⟩ ∧ b < W.heap.size ∧ W.cell? ⟨b, o + j, none⟩ = some (.slice (P j).a (P j).n (P j).c)

theorem PtOk.of {W : World} {a : Option Addr} {n c : Nat} {zs : List Int} (h : IsRow .u8 W a n c zs) : ∃ p : Pt, p.v = .slice a n c ∧ PtOk W p := by
  obtain ⟨bs, hs, hl, hb⟩ := h.src
  exact ⟨⟨a, n, c, bs⟩, rfl, hs, hl, hb, h.nil5⟩

theorem Tryz.cellsBs : Tryz.prog.cellsOf 22 = 1 := by kernel_rfl
theorem Tryz.cellsB1 : Tryz.prog.cellsOf 5 = 1 := by kernel_rfl

theorem parts_of {H : Type} {enc : TypeId × Value → H} {W : World} {a : Option Addr} {len cap fuel : Nat} {x : DataW H × List MemPlace} (h : DataW.trod enc Tryz.prog W 0 (fun _ => true) true fuel 39 [.slice a len cap] = some x) :
    ∃ P : Nat → Pt, Pts W a len P := by
  rcases open_slice1 Tryz.underlying39 Tryz.cellsBs h with ⟨hcs, _⟩ | ⟨x0, l, c, m, n, V, D, Pl, hcs, _, hl, _, hm, _, hx⟩
  · simp only [List.cons.injEq, Value.slice.injEq, and_true] at hcs
    obtain ⟨rfl, rfl, rfl⟩ := hcs
    exact ⟨fun _ => default, fun j hj => by omega⟩
  · simp only [List.cons.injEq, Value.slice.injEq, and_true] at hcs
    obtain ⟨rfl, rfl, rfl⟩ := hcs
    simp only [if_true] at hm
    subst hm
    refine choose_lt (α := Pt) (p := fun j p => PtOk W p ∧ ∃ b o, some x0 = some ⟨b, o, none⟩ ∧ b < W.heap.size ∧ W.cell? ⟨b, o + j, none⟩ = some (.slice p.a p.n p.c)) (fun j hj => ?_)
    obtain ⟨hc, ht⟩ := hx j (by omega)
    have hc0 := (hx 0 (by omega)).1
    have hx0 := spot_none hc0
    obtain ⟨p, hp, hok⟩ : ∃ p : Pt, p.v = V j ∧ PtOk W p := by
      rcases open_ints Tryz.underlying22 Tryz.underlying5 Tryz.cellsB1 ht with ⟨hcs, _⟩ | ⟨y, l2, c2, zs, hcs, _, hl2, hm2, hz, _, hcell, hwz⟩
      · simp only [List.cons.injEq, and_true] at hcs
        rw [hcs]
        exact PtOk.of (zs := []) (.inl ⟨rfl, rfl, rfl, rfl⟩)
      · simp only [List.cons.injEq, and_true] at hcs
        rw [hcs]
        exact PtOk.of (zs := zs) (.inr ⟨_, rfl, hl2, hm2, by simpa using hz, hcell, hwz⟩)
    refine ⟨p, hok, x0.block, x0.off, by rw [← hx0], ?_, ?_⟩
    · have h9 := World.block_lt_of_cell? W _ hc0
      simpa [Addr.add] using h9
    · rw [hx0, addAt] at hc
      rw [hc, ← hp]
      rfl

theorem Pts.kept {W w : World} {a : Option Addr} {len : Nat} {P : Nat → Pt} (h : Pts W a len P) (hk : Same W w) (j : Nat) (hj : j < len) : Src w (fun k => k < W.heap.size) (.slice (P j).a (P j).n (P j).c) (P j).bs ∧ (P j).bs.length = (P j).n ∧ (∀ x ∈ (P j).bs, x < 256) ∧ (∀ n c, Value.slice (P j).a (P j).n (P j).c = .slice none n c → n = 0 ∧ c = 0) ∧ ∃ b o, a = some ⟨b, o, none⟩ ∧ w.cell? ⟨b, o + j, none⟩ = some (.slice (P j).a (P j).n (P j).c) := by
  obtain ⟨h1, b, o, h2, h3, h4⟩ := h j hj
  exact ⟨h1.src.kept hk (fun _ _ _ f => f), h1.len, h1.byte, h1.nil, b, o, h2, hk.cell h4 (fun f => f)⟩

end Go.Proofs.YtggcbnhckcenmaaGreatDoor
