/-
  Of the proof: parts ZrE.
-/
import Derived.Deep.Strs
import Derived.Deep.Slices
import Derived.SizedLaws
import Derived.Test.YtljlmfnbeofmmaaGreatDoorJ34
import Derived.Test.YtljlmfnbeofmmaaGreatDoorJ8
import Derived.Test.YtljlmfnbeofmmaaGreatDoorJ46

namespace Go.Proofs.YtljlmfnbeofmmaaGreatDoor
open Go.ChangeShapes Go.WideShapes Go.ChangeAt Go.RowKit Go.Deep

theorem Tryz.cellsEn : Tryz.prog.cellsOf 34 = 2 := by kernel_rfl
theorem Tryz.cellsStr8 : Tryz.prog.cellsOf 9 = 1 := by kernel_rfl

theorem wAll_mem8 {H : Type} {P : Program} {e : TypeId} : ∀ {l : List (DataW H)} {d : DataW H}, d ∈ l → ∀ n ∈ d.weights P e, n ∈ DataW.weightsAll P e l
 | d' :: r, d, hd, n, hn => by
  simp only [DataW.weightsAll, List.mem_append]
  rcases List.mem_cons.1 hd with rfl | h
  ·exact Or.inl hn
  ·exact Or.inr (wAll_mem8 h n hn)

theorem two_cells8 {w : World} {base : Nat} {x : Addr} {cs : List Value} (h : w.cells? base x 2 = some cs) : ∃ u0 u1, cs = [u0, u1] ∧ w.cell? (x.add 0) = some u0 ∧ w.cell? (x.add 1) = some u1 := by
 obtain ⟨_, hl, hc⟩ := World.cells?_some h
 match cs, hl with
 | [u0, u1], _ => exact ⟨u0, u1, rfl, by simpa using hc 0 (by omega), by simpa using hc 1 (by omega)⟩

theorem add_zero8 (x : Addr) : x.add 0 = x := by unfold Addr.add; simp

theorem entries_of {H : Type} {enc : TypeId × Value → H} {W : World} {a : Option Addr} {len cap fuel : Nat} {x : DataW H × List MemPlace} (h : DataW.trod enc Tryz.prog W 0 (fun _ => true) true fuel 24 [.slice a len cap] = some x) (hw : ∀ n ∈ x.1.weights Tryz.prog 24, n ≤ reachBytes) :
  ∃ E : Nat → En, Ents W (fun _ => True) a len E ∧ len ≤ cap ∧ len ≤ reachBytes ∧ ∀ j, j < len → (E j).n.size ≤ reachBytes ∧ (E j).d.size ≤ reachBytes := by
 rcases open_slice Tryz.underlying24 h with ⟨hcs, _⟩ | ⟨x0, l, c, m, n, D, Pl, hcs, _, hl, _, hm, hxx, hx⟩
 ·simp only [List.cons.injEq, Value.slice.injEq, and_true] at hcs
  obtain ⟨rfl, rfl, rfl⟩ := hcs
  exact ⟨fun _ => default, fun j hj => by omega, Nat.le_refl _, Nat.zero_le _, fun j hj => by omega⟩
 ·simp only [List.cons.injEq, Value.slice.injEq, and_true] at hcs
  obtain ⟨rfl, rfl, rfl⟩ := hcs
  simp only [if_true] at hm
  subst hm
  rw [hxx] at hw
  simp only [DataW.weights, Tryz.underlying24] at hw
  rw [Tryz.cellsEn] at hx
  have hone : ∀ j, j < len → ∃ y : En, (∃ b o, some x0 = some ⟨b, o, none⟩ ∧ True ∧ W.cell? ⟨b, o + j * 2, none⟩ = some (.string y.n) ∧ W.cell? ⟨b, o + j * 2 + 1, none⟩ = some (.string y.d)) ∧ y.n.size ≤ reachBytes ∧ y.d.size ≤ reachBytes := by
   intro j hj
   obtain ⟨cs0, hc0, _⟩ := hx 0 (by omega)
   obtain ⟨u0, _, _, hu0, _⟩ := two_cells8 hc0
   rw [Nat.zero_mul, add_zero8] at hu0
   obtain ⟨b, o, rfl⟩ : ∃ b o, x0 = ⟨b, o, none⟩ := ⟨x0.block, x0.off, spot_none hu0⟩
   obtain ⟨cs, hc, ht⟩ := hx j (by omega)
   obtain ⟨k0, k1, rfl, h0, h1⟩ := two_cells8 hc
   obtain ⟨y0, y1, n', hD, _, t0, t1⟩ := trod_struct2 Tryz.underlying34 ht
   simp only [Tryz.cellsStr8, List.drop_zero, List.drop_succ_cons, List.take_succ_cons, List.take_zero] at t0 t1
   obtain ⟨q0, e0, f0, _⟩ := DataW.trod_string Tryz.underlying9 t0
   obtain ⟨q1, e1, f1, _⟩ := DataW.trod_string Tryz.underlying9 t1
   simp only [List.cons.injEq, and_true] at e0 e1
   subst e0 e1
   have hDj : D j = .agg [.lit (.string q0.data.toList), .lit (.string q1.data.toList)] := by
    have h9 := congrArg Prod.fst hD
    simp only at h9
    rw [h9, f0, f1]
   have hmem : ∀ n ∈ (D j).weights Tryz.prog 34, n ≤ reachBytes := by
    intro n hn
    refine hw n (List.mem_cons_of_mem _ (List.mem_append_left _ (wAll_mem8 (List.mem_map.2 ⟨j, List.mem_range.2 hj, rfl⟩) n hn)))
   rw [hDj] at hmem
   simp only [DataW.weights, Tryz.underlying34] at hmem
   refine ⟨⟨q0, q1⟩, ⟨b, o, rfl, trivial, ?_, ?_⟩, ?_, ?_⟩
   ·rw [add_zero8, addAt] at h0; exact h0
   ·rw [addAt, addAt] at h1; exact h1
   ·have := hmem q0.data.toList.length (by simp [DataW.weightsEach, DataW.weights])
    simpa using this
   ·have := hmem q1.data.toList.length (by simp [DataW.weightsEach, DataW.weights])
    simpa using this
  have hbytes : Tryz.prog.bytesOf 34 = 32 := by kernel_rfl
  have hlr : len ≤ reachBytes := by
   have := hw _ List.mem_cons_self
   rw [hbytes] at this
   simp only [List.length_map, List.length_range] at this
   have h3 : len * 32 ≤ (len + (m - len)) * 32 := Nat.mul_le_mul_right _ (by omega)
   omega
  obtain ⟨f, hf⟩ := choose_lt hone
  exact ⟨f, fun j hj => (hf j hj).1, hl, hlr, fun j hj => (hf j hj).2⟩

end Go.Proofs.YtljlmfnbeofmmaaGreatDoor
