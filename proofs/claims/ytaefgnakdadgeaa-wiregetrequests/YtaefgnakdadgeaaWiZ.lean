/-
  Layer 19, the reference: what PutRequest refuses (mathematics).
-/
import Derived.Test.YtaefgnakdadgeaaWiY
namespace Go.Proofs.Ytaefgnakdadgeaa
open Go.RowKit

theorem flags_cases (k : Int) : (hasQ k 1 = false ∧ hasQ k 2 = false ∧ hasQ k 3 = false ∧ hasQ k 4 = false ∧ hasQ k 5 = false ∧ hasQ k 6 = false ∧ hasQ k 7 = true) ∨ (hasQ k 1 = true ∧ hasQ k 2 = true ∧ hasQ k 3 = true ∧ hasQ k 4 = false ∧ hasQ k 5 = true ∧ hasQ k 6 = true ∧ hasQ k 7 = false) ∨ (hasQ k 1 = true ∧ hasQ k 2 = true ∧ hasQ k 3 = false ∧ hasQ k 4 = false ∧ hasQ k 5 = false ∧ hasQ k 6 = false ∧ hasQ k 7 = false) ∨ (hasQ k 1 = true ∧ hasQ k 2 = true ∧ hasQ k 3 = true ∧ hasQ k 4 = true ∧ hasQ k 5 = false ∧ hasQ k 6 = false ∧ hasQ k 7 = false) ∨ (hasQ k 1 = true ∧ hasQ k 2 = true ∧ hasQ k 3 = true ∧ hasQ k 4 = false ∧ hasQ k 5 = false ∧ hasQ k 6 = false ∧ hasQ k 7 = false) ∨ (hasQ k 1 = true ∧ hasQ k 2 = false ∧ hasQ k 3 = false ∧ hasQ k 4 = false ∧ hasQ k 5 = false ∧ hasQ k 6 = false ∧ hasQ k 7 = false) ∨ (hasQ k 1 = true ∧ hasQ k 2 = true ∧ hasQ k 3 = false ∧ hasQ k 4 = false ∧ hasQ k 5 = true ∧ hasQ k 6 = true ∧ hasQ k 7 = false) ∨ (hasQ k 1 = true ∧ hasQ k 2 = true ∧ hasQ k 3 = false ∧ hasQ k 4 = true ∧ hasQ k 5 = false ∧ hasQ k 6 = false ∧ hasQ k 7 = false) ∨ (hasQ k 1 = false ∧ hasQ k 2 = false ∧ hasQ k 3 = false ∧ hasQ k 4 = false ∧ hasQ k 5 = false ∧ hasQ k 6 = false ∧ hasQ k 7 = false) := by
  unfold hasQ
  rcases fdQ_cases k with h | h | h | h | h | h | h | h | h
  all_goals
    rw [h]
    simp

theorem win_false {x : Int} : win x = false ↔ (x < 0 ∨ 1000000000 < x) := by
  unfold win
  rw [decide_eq_false_iff_not]
  omega

theorem numA_win (x : Int) : numA x = if win x = false then 1 else 0 := by
  unfold numA
  by_cases h : win x = false
  · rw [if_pos h, if_pos (win_false.1 h)]
  · rw [if_neg h, if_neg (fun e => h (win_false.2 e))]

theorem win_zero : win 0 = true := by decide

def bigQ (q : Rq) : Prop := 255 < q.a.size ∨ 255 < q.e.size ∨ 256 < q.o.size ∨ 16384 < q.d.size
def badQ (q : Rq) : Prop := win q.x = false ∨ win q.f = false ∨ win q.m = false

theorem size_nil : (ByteArray.mk #[]).size = 0 := rfl

theorem wrongL_num {cs : List Cel} {l : List Fd} : wrongL cs l = 1 ↔ ∃ f ∈ l, wrongF cs f = 1 := by
  unfold wrongL
  by_cases h : (l.any fun f => decide (wrongF cs f = 1)) = true
  · rw [if_pos h]
    simp only [List.any_eq_true, decide_eq_true_eq] at h
    exact ⟨fun _ => h, fun _ => rfl⟩
  · rw [if_neg h]
    simp only [List.any_eq_true, decide_eq_true_eq] at h
    constructor
    · intro h2; split at h2 <;> cases h2
    · intro h2; exact absurd h2 h

theorem wrongL_big {cs : List Cel} {l : List Fd} (h1 : ¬ ∃ f ∈ l, wrongF cs f = 1) : wrongL cs l = if (∃ f ∈ l, wrongF cs f = 2) then 2 else 0 := by
  unfold wrongL
  rw [if_neg (by simp only [List.any_eq_true, decide_eq_true_eq]; exact h1)]
  by_cases h : ∃ f ∈ l, wrongF cs f = 2
  · rw [if_pos h, if_pos (by simp only [List.any_eq_true, decide_eq_true_eq]; exact h)]
  · rw [if_neg h, if_neg (by simp only [List.any_eq_true, decide_eq_true_eq]; exact h)]

theorem numA_one {x : Int} : numA x = 1 ↔ win x = false := by
  rw [numA_win]
  by_cases h : win x = false
  · rw [if_pos h]; simp [h]
  · rw [if_neg h]; simp [h]

theorem numA_two {x : Int} : ¬ numA x = 2 := by
  rw [numA_win]
  split <;> decide

theorem txt_one {n m : Nat} : ¬ (if m < n then 2 else 0) = 1 := by split <;> decide
theorem txt_two {n m : Nat} : (if m < n then 2 else 0) = 2 ↔ m < n := by
  constructor
  · intro h; split at h
    · assumption
    · cases h
  · intro h; rw [if_pos h]

set_option maxRecDepth 100000 in
theorem wrong_is {q : Rq} (h : othQ q = false) : (wrongL q.cs (fdQ q.k) = 1 ↔ badQ q) ∧ (¬ badQ q → (wrongL q.cs (fdQ q.k) = 2 ↔ bigQ q)) := by
  have key : ((∃ f ∈ fdQ q.k, wrongF q.cs f = 1) ↔ badQ q) ∧ ((∃ f ∈ fdQ q.k, wrongF q.cs f = 2) ↔ bigQ q) := by
    unfold othQ clrQ at h
    simp only [Bool.not_eq_false', Bool.and_eq_true, decide_eq_true_eq] at h
    unfold badQ bigQ
    obtain ⟨k, x, a, e, d, f, m, o⟩ := q
    simp only at h ⊢
    unfold hasQ at h
    rcases fdQ_cases k with e1 | e1 | e1 | e1 | e1 | e1 | e1 | e1 | e1
    all_goals
      rw [e1] at h ⊢
      simp at h
      simp [wrongF, Rq.cs, numA_one, numA_two, txt_one, h, win_zero, size_nil]
    all_goals
      first
        | done
        | (simp [or_comm, or_left_comm, or_assoc]; done)
        | skip
  refine ⟨wrongL_num.trans key.1, fun hb => ?_⟩
  rw [wrongL_big (fun h9 => hb (key.1.1 h9))]
  by_cases h2 : bigQ q
  · rw [if_pos (key.2.2 h2)]; simp [h2]
  · rw [if_neg (fun h9 => h2 (key.2.1 h9))]; simp [h2]

theorem perr_is (q : Rq) : (okK q.k = false → perr q = 191) ∧ (okK q.k = true → othQ q = true → perr q = 1) ∧ (okK q.k = true → othQ q = false → badQ q → perr q = 1) ∧ (okK q.k = true → othQ q = false → ¬ badQ q → bigQ q → perr q = 2) ∧ (okK q.k = true → othQ q = false → ¬ badQ q → ¬ bigQ q → perr q = 0) := by
  unfold perr
  refine ⟨fun h => by rw [if_pos h], fun h h2 => by rw [if_neg (by rw [h]; decide), if_pos h2], fun h h2 h3 => ?_, fun h h2 h3 h4 => ?_, fun h h2 h3 h4 => ?_⟩
  all_goals rw [if_neg (by rw [h]; decide), if_neg (by rw [h2]; decide)]
  · exact (wrong_is h2).1.2 h3
  · exact ((wrong_is h2).2 h3).2 h4
  · rcases wrongL_two q.cs (fdQ q.k) with h5 | h5 | h5
    · exact h5
    · exact absurd ((wrong_is h2).1.1 h5) h3
    · exact absurd (((wrong_is h2).2 h3).1 h5) h4

end Go.Proofs.Ytaefgnakdadgeaa
