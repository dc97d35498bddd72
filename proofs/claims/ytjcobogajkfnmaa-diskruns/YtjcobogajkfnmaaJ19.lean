/-
  Of the proof: parts Spl.
-/
import Derived.Test.YtjcobogajkfnmaaJ10
import Derived.Test.YtjcobogajkfnmaaJ15

/-
  What was told is spoilt: a row and the room behind it.
-/
namespace Go.Proofs.Ytjcobogajkfnmaa
open Go.RowKit

set_option maxHeartbeats 1000000 in
theorem spoil_none (w : World) : Calls Try.prog 36 #[.slice none 0 0] w fun e w' => e = .returned (.tuple #[]) ∧ Same w w' := by
  go_enter Try.func36, Try.ntmps36
  go_wp2
  go_loopg [2] 1 (fun k x wr => x = .int .i64 0 ∧ wr = w)
  case atStart => exact ⟨rfl, rfl⟩
  case round =>
    obtain ⟨rfl, rfl⟩ := hrel
    go_wp2
    go_end0
    exact ⟨rfl, Kept.refl _ _⟩

set_option maxHeartbeats 1000000 in
theorem spoil_room (w : World) (g len n : Nat) (ds : List Nat) (hrow : Row w (.slice (some ⟨g, 0, none⟩) n n) ds) :
    Calls Try.prog 36 #[.slice (some ⟨g, 0, none⟩) len n] w fun e w' => e = .returned (.tuple #[]) ∧ Kept (· = g) w w' := by
  have HR : Hid (Row w (.slice (some ⟨g, 0, none⟩) n n) ds) := hrow
  have hnm : n ≤ 9223372036854775807 := by
    rcases hrow.2 with ⟨e, _⟩ | ⟨_, _, _, e, _, _, h1, h2, _⟩
    · simp at e
    · simp only [Value.slice.injEq] at e; simp only [maxLen] at h2; omega
  clear hrow
  go_enter Try.func36, Try.ntmps36
  go_wp2
  go_loopg [2] n (fun k x wr => ∃ (j : Nat) (es : List Nat), j ≤ n ∧ n - j ≤ k ∧ x = .int .i64 (j : Nat) ∧ es.length = n ∧ Row wr (.slice (some ⟨g, 0, none⟩) n n) es ∧ Kept (· = g) w wr)
  case atStart =>
    have hl : ds.length = n := by
      rcases HR.out.2 with ⟨e, _⟩ | ⟨_, _, _, e, _⟩
      · simp at e
      · injection e with _ e _; exact e.symm
    exact ⟨0, ds, by omega, by omega, rfl, hl, HR.out, Kept.refl _ _⟩
  case round =>
    obtain ⟨j, es, hj, hjk, rfl, hl, hr, hk⟩ := hrel
    have HR2 : Hid (Row wr (.slice (some ⟨g, 0, none⟩) n n) es) := hr
    have HK2 : Hid (Kept (· = g) w wr) := hk
    have HL2 : Hid (es.length = n) := hl
    by_cases hlt : j < n
    · have hje : j < es.length := by omega
      have hc : wr.cell? ⟨g, j, none⟩ = some (.int .u8 (es[j] : Nat)) := by
        have h2 := hr
        rw [← hl] at h2
        exact Row.cell h2 j hje
      have hf : wr.frozen? ⟨g, j, none⟩ = false := by
        have h2 := hr
        rw [← hl] at h2
        exact World.ownsRow.frozenAt h2 j
      obtain ⟨x, hx⟩ : ∃ x, x = es[j] := ⟨_, rfl⟩
      rw [← hx] at hc
      clear hr hk hl hje hx
      go_wp2
      go_roundg (gk - 1)
      case measure => omega
      case rel =>
        refine ⟨j + 1, es.set j ((x + 99) % 256), by omega, by omega, by go_num, by rw [List.length_set]; exact HL2.out, ?_, HK2.out.setCell _ _ (.inl rfl)⟩
        have h := Row.set HR2.out j ((x + 99) % 256)
        rw [show (((x + 99) % 256 : Nat) : Int) = ((x : Int) + 99) % 256 by omega] at h
        exact h
    · clear hr hk hl
      go_wp2
      go_end0
      exact ⟨rfl, HK2.out⟩

theorem spoil_row (w : World) (v : Value) (bs : List Nat) (hr : Row w v bs) (hw : Whole w v) : Calls Try.prog 36 #[v] w fun e w' => e = .returned (.tuple #[]) ∧ Kept (fun k => v.ownBlock = some k) w w' := by
  rcases hr.2 with ⟨rfl, _⟩ | ⟨g, cap, cur, rfl, _⟩
  · refine (spoil_none w).mono ?_
    rintro e w' ⟨rfl, hk⟩
    exact ⟨rfl, hk.mono (fun _ _ f => f.elim)⟩
  · obtain ⟨ds, hd⟩ := hw g _ cap rfl
    refine (spoil_room w g _ cap ds hd).mono ?_
    rintro e w' ⟨rfl, hk⟩
    exact ⟨rfl, hk.mono (fun k _ e => by rw [e]; rfl)⟩

end Go.Proofs.Ytjcobogajkfnmaa
