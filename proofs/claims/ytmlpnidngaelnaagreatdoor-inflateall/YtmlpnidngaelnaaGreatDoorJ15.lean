/-
  Of the proof: parts LnMany, LnPk.
-/
import Derived.Deep.RegionHeld3
import Derived.Test.YtmlpnidngaelnaaGreatDoorJ12
import Derived.Test.YtmlpnidngaelnaaGreatDoorJ14
import Derived.Test.YtmlpnidngaelnaaGreatDoorJ3
import Derived.Test.YtmlpnidngaelnaaGreatDoorJ9

/-
  The program's rows of like lengths in steps: the closure that lays steps of one kind.
-/
namespace Go.Proofs.YtmlpnidngaelnaaGreatDoor
open Go.RowKit

/-- What the closure may write. -/
abbrev ManyF (pn po B : Nat) (k : Nat) : Prop := k = pn ∨ k = po ∨ B ≤ k

theorem RowC.slice {α : Type} {B t k : Nat} {enc : α → List Value} {w : World} {v : Value} {xs : List α} (h : RowC B t k enc w v xs) : ∃ ao n cap, v = .slice ao n cap := by
  obtain ⟨ao, cap, hv, _⟩ := h.shape
  exact ⟨ao, _, cap, hv⟩





theorem many18 (sym : Int) (h : sym = 18) : leastM sym = 11 ∧ leastM sym + 2 ^ widthM sym - 1 = 138 := by subst h; decide
theorem many17 (sym : Int) (h : sym = 17) : leastM sym = 3 ∧ leastM sym + 2 ^ widthM sym - 1 = 10 := by subst h; decide
theorem many16 (sym : Int) (h : sym = 16) : leastM sym = 3 ∧ leastM sym + 2 ^ widthM sym - 1 = 6 := by subst h; decide



end Go.Proofs.YtmlpnidngaelnaaGreatDoor

/-
  The program's Pack.
-/
namespace Go.Proofs.YtmlpnidngaelnaaGreatDoor
open Go.RowKit

theorem sayM_ne (v n : Nat) (h : 1 ≤ n) : sayM v n ≠ [] := by
  unfold sayM
  split
  · by_cases h11 : 11 ≤ n
    · rw [zerosM_big n h11]; simp
    · by_cases h3 : 3 ≤ n
      · rw [zerosM_mid n (by omega) h3]; simp
      · rw [zerosM_few n (by omega)]
        cases n with
        | zero => omega
        | succ n => simp [List.replicate_succ]
  · simp

theorem SrcE.tail2 {w : World} {I : Nat → Prop} {b o cap : Nat} {l : List Nat} (h : SrcE natV w I (.slice (some ⟨b, o, none⟩) l.length cap) l) (k : Nat) (hk : k ≤ l.length) :
    SrcE natV w I (.slice (if cap = k then some ⟨b, o, none⟩ else some ⟨b, o + k, none⟩) (l.length - k) (cap - k)) (l.drop k) := by
  obtain ⟨ao, cap', e, hc, _⟩ := id h
  simp only [Value.slice.injEq] at e
  obtain ⟨_, _, rfl⟩ := e
  split
  · exact h.tail k o hk (fun h2 => by omega)
  · exact h.tail k (o + k) hk (fun _ => rfl)

theorem RowC.at {α : Type} {B t k : Nat} {enc : α → List Value} (ok : EncOk enc k) {w : World} {g n cap : Nat} {xs : List α} (h : RowC B t k enc w (.slice (some ⟨g, 0, none⟩) n cap) xs) : CellsAt w ⟨g, 0, none⟩ (xs.flatMap enc) := by
  have hl := h.len
  subst hl
  intro j u hu
  have hj : j < (xs.flatMap enc).length := (List.getElem?_eq_some_iff.1 hu).1
  rw [flat_length ok] at hj
  have e : (⟨g, 0, none⟩ : Addr).add j = ⟨g, j, none⟩ := by unfold Addr.add; split <;> simp_all
  rw [e, h.cellAt j hj, hu]







end Go.Proofs.YtmlpnidngaelnaaGreatDoor
