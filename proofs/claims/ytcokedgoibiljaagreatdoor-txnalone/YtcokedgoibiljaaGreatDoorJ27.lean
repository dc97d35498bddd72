/-
  Of the proof: parts ShoM.
-/
import Derived.Lib.SplitLaws
import Derived.Lib.SlTrimSet

/-
  Short names, mathematics.
-/
namespace Go.Proofs.YtcokedgoibiljaaGreatDoor

def lets14 : List UInt8 := [97, 98, 99, 100, 101, 102, 103, 104, 105, 106, 107, 108, 109, 110, 111, 112, 113, 114, 115, 116, 117, 118, 119, 120, 121, 122, 48, 49, 50, 51, 52, 53, 54, 55, 56, 57, 45]

theorem trim14 (L l : List UInt8) : Lib.trimS l L = [] ↔ l.all (L.contains ·) = true := by
  unfold Lib.trimS Lib.trimLeftS Lib.trimRightS
  constructor
  · intro h
    have hd : ∀ (q : UInt8 → Bool) (m : List UInt8), m.dropWhile q = [] → m.all q = true := by
      intro q m hm
      induction m with
      | nil => rfl
      | cons x r ih =>
        rw [List.dropWhile_cons] at hm
        split at hm
        · rename_i hx; simp [hx, ih hm]
        · cases hm
    have h1 := hd _ _ h
    cases hr : l.reverse.dropWhile (L.contains ·) with
    | nil =>
      have := hd _ _ hr
      rw [List.all_reverse] at this
      exact this
    | cons x r =>
      exfalso
      have hx := List.head_dropWhile_not (p := (L.contains ·)) (l := l.reverse) (by rw [hr]; simp)
      have e : (l.reverse.dropWhile (L.contains ·)).head (by rw [hr]; simp) = x := by simp only [hr, List.head_cons]
      rw [e] at hx
      rw [hr] at h1
      have h2 : L.contains x = true := by
        rw [List.all_eq_true] at h1
        exact h1 x (by simp)
      rw [h2] at hx
      cases hx
  · intro h
    have hr : l.reverse.dropWhile (L.contains ·) = [] := by
      have h2 : l.reverse.all (L.contains ·) = true := by rw [List.all_reverse]; exact h
      generalize l.reverse = m at h2
      induction m with
      | nil => rfl
      | cons x r ih =>
        simp only [List.all_cons, Bool.and_eq_true] at h2
        rw [List.dropWhile_cons, if_pos h2.1]
        exact ih h2.2
    rw [hr]
    rfl

/-- Is a text a short name? -/
def sho (s : ByteArray) : Bool := !s.toList.isEmpty && (decide (s.size ≤ 16) && s.data.toList.all (lets14.contains ·))

theorem empty14 (l : List UInt8) : (⟨l.toArray⟩ : ByteArray).toList.isEmpty = true ↔ l = [] := by
  rw [Lib.toList_data, List.isEmpty_iff]

end Go.Proofs.YtcokedgoibiljaaGreatDoor
