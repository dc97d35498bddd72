/-
  Slices of integers that came in, as the walks want them.
-/
import Derived.Test.YtaefgnakdadgeaaOwn2
import Derived.ProofKit
import Derived.OpenShut
namespace Go.Proofs.Ytaefgnakdadgeaa
open Go.ChangeShapes Go.WideShapes Go.ChangeAt Go.RowKit

/-- A slice of integers that came in: nil, or a row of 'cap' cells. -/
def IsRow (k : IntKind) (w : World) (a : Option Addr) (len cap : Nat) (zs : List Int) : Prop :=
  (a = none ∧ len = 0 ∧ cap = 0 ∧ zs = []) ∨
  ∃ x, a = some x ∧ len ≤ cap ∧ cap ≤ maxLen ∧ zs.length = cap ∧ (∀ i, i < zs.length → w.cell? (x.add i) = some (.int k (zs.getD i 0))) ∧ ∀ n ∈ zs, (Lit.int k n).wf = true

theorem spot_none {w : World} {x : Addr} {v : Value} (h : w.cell? (x.add 0) = some v) : x = ⟨x.block, x.off, none⟩ := by
  have e : x.add 0 = x := by unfold Addr.add; simp
  rw [e] at h
  cases hx : x.spot with
  | none => cases x; simp_all
  | some n =>
    exfalso
    simp only [World.cell?] at h
    split at h
    · rw [if_pos (by simp [hx])] at h; cases h
    · cases h

theorem IsRow.len_le {k : IntKind} {w : World} {a : Option Addr} {len cap : Nat} {zs : List Int} (h : IsRow k w a len cap zs) : len ≤ zs.length := by
  rcases h with ⟨_, rfl, _, rfl⟩ | ⟨x, _, h1, _, h2, _⟩
  · simp
  · omega

theorem IsRow.max {k : IntKind} {w : World} {a : Option Addr} {len cap : Nat} {zs : List Int} (h : IsRow k w a len cap zs) : len ≤ maxLen := by
  rcases h with ⟨_, rfl, _, rfl⟩ | ⟨x, _, h1, h3, h2, _⟩
  · exact Nat.zero_le _
  · omega

/-- Its cells, one by one. -/
theorem IsRow.at {k : IntKind} {w : World} {a : Option Addr} {len cap : Nat} {zs : List Int} (h : IsRow k w a len cap zs) (j : Nat) (hj : j < len) : ∃ b o, a = some ⟨b, o, none⟩ ∧ w.cell? ⟨b, o + j, none⟩ = some (.int k (zs.getD j 0)) := by
  have hl := h.len_le
  rcases h with ⟨_, rfl, _, rfl⟩ | ⟨x, rfl, h1, h3, h2, h4, _⟩
  · omega
  · have hc := h4 j (by omega)
    have hx := spot_none (h4 0 (by omega))
    refine ⟨x.block, x.off, by rw [← hx], ?_⟩
    rw [hx, addAt] at hc
    exact hc

theorem IsRow.src {w : World} {a : Option Addr} {len cap : Nat} {zs : List Int} (h : IsRow .u8 w a len cap zs) : ∃ bs, Src w (fun k => k < w.heap.size) (.slice a len cap) bs ∧ bs.length = len ∧ ∀ b ∈ bs, b < 256 := by
  have hl := h.len_le
  have hwf : ∀ n ∈ zs, 0 ≤ n ∧ n < 256 := by
    intro n hn
    rcases h with ⟨_, rfl, _, rfl⟩ | ⟨x, rfl, h1, h3, h2, h4, h5⟩
    · cases hn
    · have := bounds_u8 (h5 n hn); omega
  refine ⟨(zs.take len).map Int.toNat, ⟨a, cap, by simp; omega, fun hne => ?_⟩, by simp; omega, ?_⟩
  · have hlen : 0 < len := by
      rcases Nat.eq_zero_or_pos len with e | e
      · subst e; simp at hne
      · exact e
    obtain ⟨b, o, rfl, hc⟩ := h.at 0 hlen
    refine ⟨b, o, rfl, World.block_lt_of_cell? w _ hc, fun j hj => ?_⟩
    have hj' : j < len := by simp at hj; omega
    obtain ⟨b', o', e, hc'⟩ := h.at j hj'
    simp only [Option.some.injEq, Addr.mk.injEq, and_true] at e
    obtain ⟨rfl, rfl⟩ := e
    rw [hc']
    have hz : j < zs.length := by omega
    have hb := hwf _ (List.getElem_mem hz)
    simp only [List.getElem_map, List.getElem_take]
    simp only [List.getD_eq_getElem?_getD, List.getElem?_eq_getElem hz, Option.getD_some]
    congr 2
    omega
  · intro b hb
    obtain ⟨n, hn, rfl⟩ := List.mem_map.1 hb
    have := hwf n (List.mem_of_mem_take hn)
    omega

end Go.Proofs.Ytaefgnakdadgeaa
