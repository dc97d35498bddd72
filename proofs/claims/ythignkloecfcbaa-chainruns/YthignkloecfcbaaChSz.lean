/-
  Layer 12's law: how large the arguments' slices are.
-/
import Derived.Test.YthignkloecfcbaaChLa
import Derived.SizedLaws
namespace Go.Proofs.Ythignkloecfcbaa
open Go.ChangeShapes Go.WideShapes Go.ChangeAt Go.RowKit Go.Deep Go.Maps

theorem Try.bytes12w : 1 ≤ Try.prog.bytesOf 49 := of_decide_eq_true (by kernel_rfl)
theorem Try.bytes12o : 1 ≤ Try.prog.bytesOf 38 := of_decide_eq_true (by kernel_rfl)

theorem mem_all12 {H : Type} {P : Program} {e : TypeId} {d : DataW H} : ∀ {ds : List (DataW H)}, d ∈ ds → ∀ n ∈ d.weights P e, n ∈ DataW.weightsAll P e ds
  | [], h, _, _ => by simp at h
  | d0 :: ds, h, n, hn => by
    rw [DataW.weightsAll, List.mem_append]
    rcases List.mem_cons.1 h with e | e
    · exact .inl (by rw [← e]; exact hn)
    · exact .inr (mem_all12 e n hn)

section
variable {H : Type} {enc : TypeId × Value → H} {W : World} {fuel : Nat} {x : DataW H × List MemPlace}

set_option maxRecDepth 100000 in
theorem writes_sz {a : Option Addr} {n c : Nat} (h : DataW.trod enc Try.prog W 0 (fun _ => true) true fuel 32 [.slice a n c] = some x) (hz : ∀ m ∈ x.1.weights Try.prog 32, m ≤ reachBytes) : n ≤ 140737488351232 := by
  rcases open_slice Try.underlying32 h with ⟨hcs, _⟩ | ⟨x0, l, c, m, n', D, Pl, hcs, _, hl, _, hm, rfl, hx⟩
  · simp only [List.cons.injEq, Value.slice.injEq, and_true] at hcs
    rw [hcs.2.1]; exact Nat.zero_le _
  · simp only [List.cons.injEq, Value.slice.injEq, and_true] at hcs
    obtain ⟨rfl, rfl, rfl⟩ := hcs
    have h1 := hz (((List.range n).map D).length + ((List.range (m - n)).map fun j => D (n + j)).length |> (· * Try.prog.bytesOf 49)) (by simp [DataW.weights, Try.underlying32])
    simp only [List.length_map, List.length_range] at h1
    exact Nat.le_trans (Nat.le_add_right _ _) (Nat.le_trans (Nat.le_mul_of_pos_right _ Try.bytes12w) h1)

set_option maxRecDepth 100000 in
theorem commit_sz {k0 : Value} {a : Option Addr} {n c : Nat} (h : DataW.trod enc Try.prog W 0 (fun _ => true) true fuel 34 [k0, .slice a n c] = some x) (hz : ∀ m ∈ x.1.weights Try.prog 34, m ≤ reachBytes) : n ≤ 140737488351232 := by
  obtain ⟨xs, n', _, rfl, _, hlen, hf⟩ := DataW.trod_struct Try.underlying34 h
  match xs, hlen with
  | [y0, y1], _ =>
    have c1 := Try.cells12i
    have c2 := Try.cells12ws
    have t1 : DataW.trod enc Try.prog W 0 (fun _ => true) true n' 32 [.slice a n c] = some y1 := by simpa [c1, c2] using hf 1 _ rfl
    refine writes_sz t1 (fun m hm => hz m ?_)
    rw [DataW.weights, Try.underlying34]
    exact DataW.weights_mem_each (j := 1) (by rfl) (by rfl) m hm

set_option maxRecDepth 100000 in
theorem op_sz {k0 k1 k3 k4 k5 k6 : Value} {a : Option Addr} {n c : Nat} (h : DataW.trod enc Try.prog W 0 (fun _ => true) true fuel 38 [k0, k1, .slice a n c, k3, k4, k5, k6] = some x) (hz : ∀ m ∈ x.1.weights Try.prog 38, m ≤ reachBytes) : n ≤ 140737488351232 := by
  obtain ⟨xs, n', _, rfl, _, hlen, hf⟩ := DataW.trod_struct Try.underlying38 h
  match xs, hlen with
  | [y0, y1, y2, y3], _ =>
    have c1 := Try.cells12i
    have c2 := Try.cells12c
    have c3 := Try.cells12k
    have t1 : DataW.trod enc Try.prog W 0 (fun _ => true) true n' 34 [k1, .slice a n c] = some y1 := by simpa [c1, c2, c3] using hf 1 _ rfl
    refine commit_sz t1 (fun m hm => hz m ?_)
    rw [DataW.weights, Try.underlying38]
    exact DataW.weights_mem_each (j := 1) (by rfl) (by rfl) m hm

set_option maxRecDepth 100000 in
theorem ops12_sz {I : Nat → Prop} {a : Option Addr} {len cap : Nat} {O : Nat → Oc} (h : DataW.trod enc Try.prog W 0 (fun _ => true) true fuel 22 [.slice a len cap] = some x) (hz : ∀ m ∈ x.1.weights Try.prog 22, m ≤ reachBytes) (hO : Ops12 W I a len O) : SzOps len O := by
  rcases open_slice Try.underlying22 h with ⟨hcs, _⟩ | ⟨x0, l, c, m, n', D, Pl, hcs, _, hl, _, hm, rfl, hx⟩
  · simp only [List.cons.injEq, Value.slice.injEq, and_true] at hcs
    rw [hcs.2.1]
    exact ⟨Nat.zero_le _, fun j hj => absurd hj (Nat.not_lt_zero _)⟩
  · simp only [List.cons.injEq, Value.slice.injEq, and_true] at hcs
    obtain ⟨rfl, rfl, rfl⟩ := hcs
    have h1 := hz (((List.range len).map D).length + ((List.range (m - len)).map fun j => D (len + j)).length |> (· * Try.prog.bytesOf 38)) (by simp [DataW.weights, Try.underlying22])
    simp only [List.length_map, List.length_range] at h1
    refine ⟨Nat.le_trans (Nat.le_add_right _ _) (Nat.le_trans (Nat.le_mul_of_pos_right _ Try.bytes12o) h1), fun j hj => ?_⟩
    simp only [if_true] at hm
    obtain ⟨cs, hc, ht⟩ := hx j (by omega)
    rw [Try.cells12o] at hc
    obtain ⟨u0, u1, u2, u3, u4, u5, u6, rfl, hcell⟩ := seven12 hc
    obtain ⟨_, b, o, hb, _⟩ := hO j hj
    have hb' : x0 = ⟨b, o, none⟩ := Option.some.inj hb
    subst hb'
    have k2 := (hO.cells hj).2.2
    have h9 := hcell 2 u2 rfl
    rw [addAt, addAt] at h9
    rw [h9] at k2
    have e2 : u2 = .slice (O j).cm.a (O j).cm.n (O j).cm.c := Option.some.inj k2
    rw [e2] at ht
    refine op_sz ht (fun m' hm' => hz m' ?_)
    rw [DataW.weights, Try.underlying22]
    refine List.mem_cons_of_mem _ (List.mem_append.2 (.inl (mem_all12 (List.mem_map.2 ⟨j, List.mem_range.2 hj, rfl⟩) m' hm')))

end

end Go.Proofs.Ythignkloecfcbaa
