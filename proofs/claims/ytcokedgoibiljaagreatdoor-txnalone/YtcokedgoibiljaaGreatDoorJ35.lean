/-
  Of the proof: parts TxJ.
-/
import Derived.Test.YtcokedgoibiljaaGreatDoorJ24
import Derived.Test.YtcokedgoibiljaaGreatDoorJ32

/-
  Layer 14: Dump.
-/
namespace Go.Proofs.YtcokedgoibiljaaGreatDoor
open Go.RowKit Go.Maps Go.Sort Go.Shelf
set_option maxRecDepth 100000 in
set_option maxHeartbeats 1000000 in
theorem tdump_any {K N : Nat} {w : World} {p : Nat} {M : Mst} {bg : Int} {c : Tc} {τ : Nat → Nat} (h : Tk K N w p M bg c τ) : Calls Tryz.prog 22 #[.pointer (some ⟨p, 0, none⟩)] w fun e w' => DumA w (visF M.V M.now) e w' := by
  have p0 : w.cell? ⟨p, 0, none⟩ = some (.pointer (some ⟨c.ps, 0, none⟩)) := h.blk.cell 0
  obtain ⟨ps, hps⟩ : ∃ x, x = c.ps := ⟨_, rfl⟩
  obtain ⟨t, ht⟩ : ∃ x, x = M.now := ⟨_, rfl⟩
  have HS := hid h.sto
  rw [← hps] at p0 HS
  have HNW : Hid (∀ w', Same w w' → Calls Tryz.prog 59 #[.pointer (some ⟨ps, 0, none⟩)] w' fun e w2 => e = .returned (.int .i64 t) ∧ Same w' w2) := hid (fun w' hk => (xnow (HS.out.same hk)).mono (fun e w2 h9 => ⟨by rw [ht]; exact h9.1, by rw [h9.2]; exact Kept.refl _ _⟩))
  have HDM : Hid (∀ w', Same w w' → Calls Tryz.prog 62 #[.pointer (some ⟨ps, 0, none⟩), .int .i64 t] w' fun e w2 => ∃ aa nn cc, e = .returned (.slice aa nn cc) ∧ Same w' w2 ∧ DumA w (visF M.V M.now) (.returned (.slice aa nn cc)) w2) := hid (fun w' hk => by
    obtain ⟨s, mb, hck, hM⟩ := HS.out.same hk
    refine (dump_any hck t).mono (fun e w2 h9 => ?_)
    obtain ⟨v, As, rfl, h1, h2, h3, h4, h5⟩ := h9
    obtain ⟨aa, cc, hv, _⟩ := h1.row.shape
    have e1 : max t s.floor = M.now := by
      have h7 := hck.nums
      rw [ht, hM]
      show max s.now s.floor = s.now
      omega
    have e2 : vers s = M.V := by rw [hM]
    rw [e1, e2] at h2
    exact ⟨aa, _, cc, by rw [hv], h5, v, As, by rw [hv], h1.base hk.size, h2, h3, h4, hk.trans h5⟩)
  have HKK : Hid (Same w w) := hid (Kept.refl _ _)
  clear h hps ht
  go_enter Tryz.func22, Tryz.ntmps22
  go_wp2_with fail
  go_region_held3 (fun w' => w'.cell? ⟨p, 0, none⟩ = some (.pointer (some ⟨ps, 0, none⟩)))
    (first
      | exact hkc.cell (by assumption) (fun f => f)
      | go_keep)
    (first
      | (go_at_call 59; refine (HNW.out _ (by first | exact HKK.out | exact HKK.out.drew)).mono ?_; rintro e wk ⟨rfl, hkc⟩; have HKK : Hid (Same w wk) := hid (by first | exact HKK.out.trans hkc | exact HKK.out.trans (Kept.undrewC hkc)))
      | (go_at_call 62; refine (HDM.out _ (by first | exact HKK.out | exact HKK.out.drew)).mono ?_; rintro e wk ⟨aa, nn, cq, rfl, hkc, hD⟩; have HD := hid hD; clear hD))
  go_wp2_with fail
  go_ret
  exact HD.out

end Go.Proofs.YtcokedgoibiljaaGreatDoor
