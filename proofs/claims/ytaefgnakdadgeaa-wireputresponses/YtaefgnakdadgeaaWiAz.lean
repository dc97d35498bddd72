/-
  Layer 19's laws: responses that came in, and how large they are.
-/
import Derived.Test.YtaefgnakdadgeaaArgX
import Derived.SizedLaws
namespace Go.Proofs.Ytaefgnakdadgeaa
open Go.ChangeShapes Go.WideShapes Go.ChangeAt Go.RowKit Go.Deep Go.Maps

theorem Try.bytes19s : 1 ≤ Try.prog.bytesOf 9 := of_decide_eq_true (by kernel_rfl)

section
variable {H : Type} {enc : TypeId × Value → H} {W : World} {x : DataW H × List MemPlace}

set_option maxRecDepth 100000 in
theorem names_sz {fuel : Nat} {a : Option Addr} {n c : Nat} (h : DataW.trod enc Try.prog W 0 (fun _ => true) true fuel 36 [.slice a n c] = some x) (hz : ∀ m ∈ x.1.weights Try.prog 36, m ≤ reachBytes) : n ≤ 140737488351232 := by
  rcases open_slice Try.underlying36 h with ⟨hcs, _⟩ | ⟨x0, l, c, m, n', D, Pl, hcs, _, hl, _, hm, rfl, hx⟩
  · simp only [List.cons.injEq, Value.slice.injEq, and_true] at hcs
    rw [hcs.2.1]; exact Nat.zero_le _
  · simp only [List.cons.injEq, Value.slice.injEq, and_true] at hcs
    obtain ⟨rfl, rfl, rfl⟩ := hcs
    have h1 := hz (((List.range n).map D).length + ((List.range (m - n)).map fun j => D (n + j)).length |> (· * Try.prog.bytesOf 9)) (by simp [DataW.weights, Try.underlying36])
    simp only [List.length_map, List.length_range] at h1
    exact Nat.le_trans (Nat.le_add_right _ _) (Nat.le_trans (Nat.le_mul_of_pos_right _ Try.bytes19s) h1)

set_option maxRecDepth 100000 in
theorem res_ofz {fuel : Nat} {k0 k1 k2 k3 k4 k5 k6 k7 : Value} (h : DataW.trod enc Try.prog W 0 (fun _ => true) true fuel 40 [k0, k1, k2, k3, k4, k5, k6, k7] = some x) : ∃ (r : Rs) (a : Option Addr) (n c : Nat) (L : List ByteArray), [k0, k1, k2, k3, k4, k5, k6, k7] = (rsV r (.slice a n c)).toList ∧ SrcC 1 nsE W (fun j => j < W.heap.size) (.slice a n c) L ∧ n ≤ 9223372036854775807 ∧ ((∀ m ∈ x.1.weights Try.prog 40, m ≤ reachBytes) → r.d.size ≤ 140737488351232 ∧ n ≤ 140737488351232) := by
  obtain ⟨xs, n', _, rfl, _, hlen, hf⟩ := DataW.trod_struct Try.underlying40 h
  match xs, hlen with
  | [y0, y1, y2, y3, y4, y5, y6], _ =>
    have c1 := Try.cells19e
    have c2 := Try.cells19s
    have c3 := Try.cells19i
    have c4 := Try.cells19n
    have c5 := Try.cells19u
    have t0 : DataW.trod enc Try.prog W 0 (fun _ => true) true n' 27 [k0] = some y0 := by simpa [c1, c2, c3, c4, c5] using hf 0 _ rfl
    have t1 : DataW.trod enc Try.prog W 0 (fun _ => true) true n' 3 [k1] = some y1 := by simpa [c1, c2, c3, c4, c5] using hf 1 _ rfl
    have t2 : DataW.trod enc Try.prog W 0 (fun _ => true) true n' 3 [k2] = some y2 := by simpa [c1, c2, c3, c4, c5] using hf 2 _ rfl
    have t3 : DataW.trod enc Try.prog W 0 (fun _ => true) true n' 3 [k3] = some y3 := by simpa [c1, c2, c3, c4, c5] using hf 3 _ rfl
    have t4 : DataW.trod enc Try.prog W 0 (fun _ => true) true n' 9 [k4] = some y4 := by simpa [c1, c2, c3, c4, c5] using hf 4 _ rfl
    have t5 : DataW.trod enc Try.prog W 0 (fun _ => true) true n' 36 [k5] = some y5 := by simpa [c1, c2, c3, c4, c5] using hf 5 _ rfl
    have t6 : DataW.trod enc Try.prog W 0 (fun _ => true) true n' 38 [k6, k7] = some y6 := by simpa [c1, c2, c3, c4, c5] using hf 6 _ rfl
    obtain ⟨q0, e0, _, _⟩ := DataW.trod_int Try.underlying27 t0
    obtain ⟨q1, e1, _, _⟩ := DataW.trod_int Try.underlying3 t1
    obtain ⟨q2, e2, _, _⟩ := DataW.trod_int Try.underlying3 t2
    obtain ⟨q3, e3, _, _⟩ := DataW.trod_int Try.underlying3 t3
    obtain ⟨q4, e4, g4, s4⟩ := DataW.trod_string Try.underlying9 t4
    obtain ⟨a, n, c, L, e5, hL, hn⟩ := names_of t5
    obtain ⟨q6, q7, e6, e7⟩ := use19_of t6
    simp only [List.cons.injEq, and_true] at e0 e1 e2 e3 e4
    subst e0 e1 e2 e3 e4 e5 e6 e7
    refine ⟨⟨q0, q1, q2, q3, q4, q6, q7⟩, a, n, c, L, rfl, hL, hn, fun hz => ⟨?_, ?_⟩⟩
    · refine hz _ ?_
      rw [DataW.weights, Try.underlying40]
      refine DataW.weights_mem_each (j := 4) (t := 9) (by rfl) (by rfl) _ ?_
      rw [g4]
      simp [DataW.weights]
    · refine names_sz t5 (fun m hm => hz m ?_)
      rw [DataW.weights, Try.underlying40]
      exact DataW.weights_mem_each (j := 5) (by rfl) (by rfl) m hm

theorem res_argz {fuel : Nat} {cs : Array Value} (hs : cs.size = Try.prog.cellsOf 40) (h : DataW.trod enc Try.prog W 0 (fun _ => true) true fuel 40 (Value.agg cs).cells.toList = some x) : ∃ (r : Rs) (a : Option Addr) (n c : Nat) (L : List ByteArray), cs = rsV r (.slice a n c) ∧ SrcC 1 nsE W (fun j => j < W.heap.size) (.slice a n c) L ∧ n ≤ 9223372036854775807 ∧ ((∀ m ∈ x.1.weights Try.prog 40, m ≤ reachBytes) → r.d.size ≤ 140737488351232 ∧ n ≤ 140737488351232) := by
  rw [Try.cells19r] at hs
  obtain ⟨l⟩ := cs
  simp only [List.size_toArray] at hs
  match l, hs with
  | [k0, k1, k2, k3, k4, k5, k6, k7], _ =>
    obtain ⟨r, a, n, c, L, e, hL⟩ := res_ofz (k0 := k0) (k1 := k1) (k2 := k2) (k3 := k3) (k4 := k4) (k5 := k5) (k6 := k6) (k7 := k7) h
    exact ⟨r, a, n, c, L, by rw [e], hL⟩

end

end Go.Proofs.Ytaefgnakdadgeaa
