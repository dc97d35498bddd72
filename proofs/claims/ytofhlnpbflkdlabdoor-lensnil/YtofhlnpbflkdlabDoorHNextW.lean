/-
  The reference's Next, walked.
-/
import Derived.Test.YtofhlnpbflkdlabDoorHNextM
namespace Go.Proofs.YtofhlnpbflkdlabDoor
open Go.RowKit

theorem fit_step (r ls : List Nat) (c n : Nat) (hn : n < r.length) (hq : c + n < ls.length) (h : r.take n = (ls.drop c).take n) (he : r[n] = ls[c + n]) : r.take (n + 1) = (ls.drop c).take (n + 1) := by
  have hd : n < (ls.drop c).length := by rw [List.length_drop]; omega
  rw [List.take_succ_eq_append_getElem hn, List.take_succ_eq_append_getElem hd, h, List.getElem_drop, he]

theorem fit_no (r ls : List Nat) (c n : Nat) (hn : n < r.length) (h : ¬ c + n < ls.length ∨ ∃ hq : c + n < ls.length, r[n] ≠ ls[c + n]) : ¬ r <+: ls.drop c := by
  intro hp
  have hl := hp.length_le
  rw [List.length_drop] at hl
  rcases h with h | ⟨hq, hne⟩
  · omega
  · have := List.IsPrefix.getElem hp hn
    rw [List.getElem_drop] at this
    exact hne this

theorem beg_yes (r ls : List Nat) (c n : Nat) (_hn : n < r.length) (h : r.take n = (ls.drop c).take n) (he : c + n = ls.length) : ls.drop c <+: r := by
  rw [List.take_of_length_le (l := ls.drop c) (by rw [List.length_drop]; omega)] at h
  rw [← h]
  exact List.take_prefix _ _

theorem beg_no (r ls : List Nat) (c n : Nat) (hn : n < r.length) (hq : c + n < ls.length) (hne : r[n] ≠ ls[c + n]) : ¬ ls.drop c <+: r := by
  intro hp
  have hd : n < (ls.drop c).length := by rw [List.length_drop]; omega
  have := List.IsPrefix.getElem hp hd
  rw [List.getElem_drop] at this
  exact hne this.symm

/-- A flag that tells whether. -/
def Tells (B : Bool) (P : Prop) : Prop := (B = true ↔ P)



end Go.Proofs.YtofhlnpbflkdlabDoor
