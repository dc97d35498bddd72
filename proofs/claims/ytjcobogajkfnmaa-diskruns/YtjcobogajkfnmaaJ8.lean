/-
  Of the proof: parts DkL.
-/
import Derived.Maps.Ext
import Derived.Test.YtjcobogajkfnmaaJ7

/-
  Layer 9: a disk's names stand by rising names, each once; a sum over them.
-/
namespace Go.Proofs.Ytjcobogajkfnmaa
open Go.RowKit Go.Maps

theorem Mp.rising {w : World} {b : Nat} {L : Nms} (h : Mp w b L) : L.Pairwise (fun p q => (litN p.1).before (litN q.1) = true) := by
  obtain ⟨es, e, h1, _⟩ := World.ownsMap.canon h Try.strKey
  unfold nmD at e
  simp only [DataW.map.injEq] at e
  rw [← e] at h1
  exact List.pairwise_map.1 h1

theorem Mp.apart {w : World} {b : Nat} {L : Nms} (h : Mp w b L) : L.Pairwise (fun p q => p.1 ≠ q.1) := by
  obtain ⟨es, e, h1, _⟩ := World.ownsMap.canon h Try.strKey
  unfold nmD at e
  simp only [DataW.map.injEq] at e
  rw [← e] at h1
  have h2 := List.pairwise_map.1 (apart_of_rising h1)
  exact h2.imp (fun h e => h (by show litN _ = litN _; rw [e]))

/-- The bytes of the names that are still to come. -/
def sumL (F : Nat → Nat) (left : Lit → Bool) (L : Nms) : Nat := ((L.filter (fun p => left (litN p.1))).map (fun p => F p.2)).sum

theorem sumL_none (F : Nat → Nat) {left : Lit → Bool} {L : Nms} (h : ∀ p ∈ L, left (litN p.1) = false) : sumL F left L = 0 := by
  unfold sumL
  rw [List.filter_eq_nil_iff.2 (fun p hp => by rw [h p hp]; decide)]
  rfl

theorem sumL_step (F : Nat → Nat) {left : Lit → Bool} {L : Nms} (ha : L.Pairwise (fun p q => p.1 ≠ q.1)) {s : ByteArray} {f : Nat} (hm : (s, f) ∈ L) (hl : left (litN s) = true) :
    sumL F left L = F f + sumL F (fun z => left z && !z.sameKey (litN s)) L := by
  induction L with
  | nil => cases hm
  | cons p L ih =>
    rw [List.pairwise_cons] at ha
    have hs : ∀ q : ByteArray × Nat, (litN q.1).sameKey (litN s) = decide (q.1 = s) := fun q => sameN q.1 s
    by_cases e : p.1 = s
    · have hp : p = (s, f) := by
        rcases List.mem_cons.1 hm with h | h
        · exact h.symm
        · exact absurd e (ha.1 _ h)
      subst hp
      have hrest : ∀ q ∈ L, (left (litN q.1) && !(litN q.1).sameKey (litN s)) = left (litN q.1) := fun q hq => by
        rw [hs q, decide_eq_false (fun e2 => ha.1 q hq e2.symm)]; simp
      unfold sumL
      rw [List.filter_cons_of_pos (by exact hl), List.filter_cons_of_neg (by show ¬ (left (litN s) && !(litN s).sameKey (litN s)) = true; rw [sameN, decide_eq_true rfl]; simp), List.map_cons, List.sum_cons]
      congr 2
      congr 1
      exact (List.filter_congr (fun q hq => hrest q hq)).symm
    · have hm2 : (s, f) ∈ L := by
        rcases List.mem_cons.1 hm with h | h
        · exact absurd (by rw [← h]) e
        · exact h
      have := ih ha.2 hm2
      unfold sumL at this ⊢
      by_cases hlp : left (litN p.1) = true
      · rw [List.filter_cons_of_pos (by exact hlp), List.filter_cons_of_pos (by show (left (litN p.1) && !(litN p.1).sameKey (litN s)) = true; rw [hlp, hs, decide_eq_false e]; rfl), List.map_cons, List.map_cons, List.sum_cons, List.sum_cons, this]
        omega
      · rw [List.filter_cons_of_neg (by exact hlp), List.filter_cons_of_neg (by intro h; exact hlp (Bool.and_eq_true_iff.1 h).1), this]

end Go.Proofs.Ytjcobogajkfnmaa
