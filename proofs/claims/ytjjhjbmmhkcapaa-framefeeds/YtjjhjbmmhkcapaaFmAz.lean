/-
  Layer 18's laws: how large the parts are.
-/
import Derived.Test.YtjjhjbmmhkcapaaFmAr
import Derived.SizedLaws
namespace Go.Proofs.Ytjjhjbmmhkcapaa
open Go.ChangeShapes Go.WideShapes Go.ChangeAt Go.RowKit Go.Deep

theorem Try.bytes18u : 1 ≤ Try.prog.bytesOf 5 := of_decide_eq_true (by kernel_rfl)
theorem Try.bytes18s : 1 ≤ Try.prog.bytesOf 25 := of_decide_eq_true (by kernel_rfl)

theorem mem_all18 {H : Type} {P : Program} {e : TypeId} {d : DataW H} : ∀ {ds : List (DataW H)}, d ∈ ds → ∀ n ∈ d.weights P e, n ∈ DataW.weightsAll P e ds
  | [], h, _, _ => by simp at h
  | d0 :: ds, h, n, hn => by
    rw [DataW.weightsAll, List.mem_append]
    rcases List.mem_cons.1 h with e | e
    · exact .inl (by rw [← e]; exact hn)
    · exact .inr (mem_all18 e n hn)

section
variable {H : Type} {enc : TypeId × Value → H} {W : World} {fuel : Nat} {x : DataW H × List MemPlace}

set_option maxRecDepth 100000 in
theorem bytes18_sz {a : Option Addr} {n c : Nat} (h : DataW.trod enc Try.prog W 0 (fun _ => true) true fuel 25 [.slice a n c] = some x) (hz : ∀ m ∈ x.1.weights Try.prog 25, m ≤ reachBytes) : n ≤ 140737488351232 := by
  rcases open_slice Try.underlying25 h with ⟨hcs, _⟩ | ⟨x0, l, c, m, n', D, Pl, hcs, _, hl, _, hm, rfl, hx⟩
  · simp only [List.cons.injEq, Value.slice.injEq, and_true] at hcs
    rw [hcs.2.1]; exact Nat.zero_le _
  · simp only [List.cons.injEq, Value.slice.injEq, and_true] at hcs
    obtain ⟨rfl, rfl, rfl⟩ := hcs
    have h1 := hz (((List.range n).map D).length + ((List.range (m - n)).map fun j => D (n + j)).length |> (· * Try.prog.bytesOf 5)) (by simp [DataW.weights, Try.underlying25])
    simp only [List.length_map, List.length_range] at h1
    exact Nat.le_trans (Nat.le_add_right _ _) (Nat.le_trans (Nat.le_mul_of_pos_right _ Try.bytes18u) h1)

/-- No part is too large for a machine. -/
def SzP (n : Nat) (P : Nat → Pt18) : Prop := n ≤ 140737488351232 ∧ ∀ j, j < n → (P j).n ≤ 140737488351232

set_option maxRecDepth 100000 in
theorem parts18_sz {a : Option Addr} {len cap : Nat} {P : Nat → Pt18} (h : DataW.trod enc Try.prog W 0 (fun _ => true) true fuel 31 [.slice a len cap] = some x) (hz : ∀ m ∈ x.1.weights Try.prog 31, m ≤ reachBytes) (hP : Pts18 W a len P) : SzP len P := by
  rcases open_slice1 Try.underlying31 Try.cellsBs18 h with ⟨hcs, _⟩ | ⟨x0, l, c, m, n', V, D, Pl, hcs, _, hl, _, hm, rfl, hx⟩
  · simp only [List.cons.injEq, Value.slice.injEq, and_true] at hcs
    rw [hcs.2.1]
    exact ⟨Nat.zero_le _, fun j hj => absurd hj (Nat.not_lt_zero _)⟩
  · simp only [List.cons.injEq, Value.slice.injEq, and_true] at hcs
    obtain ⟨rfl, rfl, rfl⟩ := hcs
    have h1 := hz (((List.range len).map D).length + ((List.range (m - len)).map fun j => D (len + j)).length |> (· * Try.prog.bytesOf 25)) (by simp [DataW.weights, Try.underlying31])
    simp only [List.length_map, List.length_range] at h1
    refine ⟨Nat.le_trans (Nat.le_add_right _ _) (Nat.le_trans (Nat.le_mul_of_pos_right _ Try.bytes18s) h1), fun j hj => ?_⟩
    simp only [if_true] at hm
    obtain ⟨hc, ht⟩ := hx j (by omega)
    obtain ⟨_, b, o, hb, k2⟩ := hP j hj
    have hb' : x0 = ⟨b, o, none⟩ := Option.some.inj hb
    subst hb'
    rw [addAt] at hc
    rw [hc] at k2
    have e2 : V j = .slice (P j).a (P j).n (P j).c := Option.some.inj k2
    rw [e2] at ht
    refine bytes18_sz ht (fun m' hm' => hz m' ?_)
    rw [DataW.weights, Try.underlying31]
    exact List.mem_cons_of_mem _ (List.mem_append.2 (.inl (mem_all18 (List.mem_map.2 ⟨j, List.mem_range.2 hj, rfl⟩) m' hm')))
end

end Go.Proofs.Ytjjhjbmmhkcapaa
