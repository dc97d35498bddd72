/-
  Slices of structs that came in.
-/
import Derived.Test.YtaefgnakdadgeaaRec
import Derived.Test.YtaefgnakdadgeaaArgs
import Derived.Deep.Slices
import Derived.Deep.Strs
namespace Go.Proofs.Ytaefgnakdadgeaa
open Go.ChangeShapes Go.WideShapes Go.ChangeAt Go.RowKit Go.Deep

theorem add_zero12 (x : Addr) : x.add 0 = x := by unfold Addr.add; simp

section
variable {H : Type} {enc : TypeId × Value → H} {W : World} {x : DataW H × List MemPlace}

theorem rows_of {α : Type} [Inhabited α] {en : α → List Value} {k : Nat} (ok : EncOk en k) {t e : TypeId} (ht : Try.prog.underlying t = some (.slice e)) (hc : Try.prog.cellsOf e = k) (P : α → Prop)
    (hone : ∀ (m : Nat) (cs : List Value) (y : DataW H × List MemPlace), cs.length = k → DataW.trod enc Try.prog W 0 (fun _ => true) true m e cs = some y → ∃ r : α, cs = en r ∧ P r)
    {fuel : Nat} {v : Value} (h : DataW.trod enc Try.prog W 0 (fun _ => true) true fuel t [v] = some x) :
    ∃ a n c xs, v = .slice a n c ∧ SrcC k en W (fun j => j < W.heap.size) (.slice a n c) xs ∧ xs.length = n ∧ n ≤ 9223372036854775807 ∧ ∀ r ∈ xs, P r := by
  rcases open_slice ht h with ⟨hcs, _⟩ | ⟨x0, l, c, m, n, D, Pl, hcs, _, hl, hmx, hm, hxx, hx⟩
  · simp only [List.cons.injEq, and_true] at hcs
    exact ⟨none, 0, 0, [], hcs, ⟨none, 0, rfl, Nat.le_refl _, fun e => absurd rfl e⟩, rfl, by decide, fun r hr => (by cases hr)⟩
  · simp only [List.cons.injEq, and_true] at hcs
    simp only [if_true] at hm
    subst hm
    rw [hc] at hx
    have key : ∀ j, j < l → ∃ r : α, P r ∧ ∀ i u, (en r)[i]? = some u → W.cell? ((x0.add (j * k)).add i) = some u := fun j hj => by
      obtain ⟨cs, hcc, htr⟩ := hx j (by omega)
      obtain ⟨_, hlen, hcell⟩ := World.cells?_some hcc
      obtain ⟨r, hr, hp⟩ := hone _ cs _ hlen htr
      refine ⟨r, hp, fun i u e => ?_⟩
      rw [← hr] at e
      have hi : i < k := by rw [← hlen]; exact (List.getElem?_eq_some_iff.1 e).1
      rw [← e]
      exact hcell i hi
    obtain ⟨R, hR⟩ := choose_lt (α := α) (p := fun j r => P r ∧ ∀ i u, (en r)[i]? = some u → W.cell? ((x0.add (j * k)).add i) = some u) key
    refine ⟨some x0, l, m, (List.range l).map R, hcs, ⟨some x0, m, by simp, by simpa using hl, fun hne => ?_⟩, by simp, by unfold maxLen at hmx; omega, fun r hr => ?_⟩
    · have hl0 : 0 < l := by
        rcases Nat.eq_zero_or_pos l with e | e
        · subst e; simp at hne
        · exact e
      have hlr := ok.len (R 0)
      have hk0 := ok.pos
      have h00 := (hR 0 hl0).2 0 _ (List.getElem?_eq_getElem (by omega))
      rw [Nat.zero_mul, add_zero12, add_zero12] at h00
      obtain ⟨b, o, rfl⟩ : ∃ b o, x0 = ⟨b, o, none⟩ := ⟨x0.block, x0.off, spot_none h00⟩
      refine ⟨b, o, rfl, World.block_lt_of_cell? W _ h00, fun j hj i hi => ?_⟩
      have hjl : j < l := by simpa using hj
      have e1 : ((List.range l).map R)[j] = R j := by simp
      rw [e1]
      have hli := ok.len (R j)
      rw [List.getElem?_eq_getElem (by omega)]
      have h9 := (hR j hjl).2 i _ (List.getElem?_eq_getElem (by omega))
      rw [addAt, addAt, Nat.add_assoc] at h9
      exact h9
    · obtain ⟨j, hj, rfl⟩ := List.mem_map.1 hr
      exact (hR j (List.mem_range.1 hj)).1

end

end Go.Proofs.Ytaefgnakdadgeaa
