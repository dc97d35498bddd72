/-
  Of the proof: parts Sho.
-/
import Derived.Test.YtcokedgoibiljaaGreatDoorJ3
import Derived.Test.YtcokedgoibiljaaGreatDoorJ26
import Derived.Test.YtcokedgoibiljaaGreatDoorJ27

/-
  Which names are short; what strings.Index looks at.
-/
namespace Go.Proofs.YtcokedgoibiljaaGreatDoor
open Go.RowKit Go.Shelf

/-- The library's variable that strings.Index looks at. -/
def Mxl (w : World) : Prop := ∃ m : Int, w.cell? ⟨0, 0, none⟩ = some (.int .i64 m)

theorem Mxl.kept {F : Nat → Prop} {w w' : World} (h : Mxl w) (hk : Kept F w w') (hF : ¬ F 0) : Mxl w' := by
  obtain ⟨m, hm⟩ := h
  exact ⟨m, hk.cell hm hF⟩

set_option maxRecDepth 100000 in
set_option maxHeartbeats 1000000 in
theorem short_any (w : World) (s : ByteArray) : Calls Tryz.prog 57 #[.string s] w fun e w' => e = .returned (.bool (sho s)) ∧ Same w w' := by
  unfold sho
  cases B1 : s.toList.isEmpty with
  | true =>
    go_enter Tryz.func57, Tryz.ntmps57
    go_wp2_with fail
    go_ret
    exact ⟨rfl, Kept.refl _ _⟩
  | false =>
    by_cases hl : s.size ≤ 16
    · have b2 : (s.size : Int) ≤ 16 := by omega
      have b3 : decide (s.size ≤ 16) = true := decide_eq_true hl
      have HTR := Any.strings_Trim_laid Tryz.lays160 (by kernel_rfl) s ⟨#[97, 98, 99, 100, 101, 102, 103, 104, 105, 106, 107, 108, 109, 110, 111, 112, 113, 114, 115, 116, 117, 118, 119, 120, 121, 122, 48, 49, 50, 51, 52, 53, 54, 55, 56, 57, 45]⟩ w (by omega) (by decide) (ascii_of_all (by decide))
      obtain ⟨tr, htr⟩ : ∃ tr : ByteArray, tr = ⟨(Lib.trimS s.data.toList lets14).toArray⟩ := ⟨_, rfl⟩
      have HTE : Hid (tr.toList.isEmpty = s.data.toList.all (lets14.contains ·)) := hid (by
        rw [htr]
        have h1 := empty14 (Lib.trimS s.data.toList lets14)
        have h2 := trim14 lets14 s.data.toList
        cases h3 : s.data.toList.all (lets14.contains ·) with
        | true => exact h1.2 (h2.2 h3)
        | false =>
          cases h4 : (⟨(Lib.trimS s.data.toList lets14).toArray⟩ : ByteArray).toList.isEmpty with
          | false => rfl
          | true => rw [h2.1 (h1.1 h4)] at h3; cases h3)
      rw [b3, Bool.not_false, Bool.true_and, Bool.true_and, ← HTE.out]
      clear hl HTE
      go_enter Tryz.func57, Tryz.ntmps57
      go_wp2_with fail
      refine HTR.mono ?_
      rintro x w2 ⟨rfl, hb2⟩
      have HK2 : Hid (Same w w2) := hid (Kept.ofBelow hb2)
      rw [show (⟨(Lib.trimS s.data.toList (ByteArray.mk #[97, 98, 99, 100, 101, 102, 103, 104, 105, 106, 107, 108, 109, 110, 111, 112, 113, 114, 115, 116, 117, 118, 119, 120, 121, 122, 48, 49, 50, 51, 52, 53, 54, 55, 56, 57, 45]).data.toList).toArray⟩ : ByteArray) = tr from htr.symm]
      clear htr hb2 HTR
      cases B4 : tr.toList.isEmpty with
      | false =>
        go_wp2_with fail
        go_ret
        exact ⟨by rw [B4]; rfl, HK2.out⟩
      | true =>
        go_wp2_with fail
        go_ret
        exact ⟨by rw [B4]; rfl, HK2.out⟩
    · have b2 : ¬ (s.size : Int) ≤ 16 := by omega
      have b3 : decide (s.size ≤ 16) = false := decide_eq_false hl
      have b4 : decide ((s.size : Int) ≤ 16) = false := decide_eq_false b2
      rw [b3]
      clear hl
      go_enter Tryz.func57, Tryz.ntmps57
      go_wp2_with fail
      go_ret
      exact ⟨rfl, Kept.refl _ _⟩

end Go.Proofs.YtcokedgoibiljaaGreatDoor
