/-
  The reference's Read.
-/
import Derived.Test.YtofhlnpbflkdlabDoorLnStep
import Derived.Test.YtofhlnpbflkdlabDoorHRowsW
namespace Go.Proofs.YtofhlnpbflkdlabDoor
open Go.RowKit

/-- A literal row of numbers. -/
theorem src_nats (w : World) (zs : List Nat) (n : Nat) (hn : zs.length = n) : SrcE natV (w.alloc (.cells (zs.map natV).toArray 3)) (fun k => k = w.heap.size) (.slice (some ⟨w.heap.size, 0, none⟩) n n) zs := by
  subst hn
  refine ⟨_, _, rfl, Nat.le_refl _, fun _ => ⟨_, _, rfl, rfl, fun j hj => ?_⟩⟩
  simp [hj]

theorem RW.down {w w0 w' : World} {go n : Nat} {ns : List Nat} {p : Nat → Prop} {rs : List (Option Addr × Nat × Nat)} (h : RW w0 w' go n ns p rs) (hk : Same w w0) : RW w w' go n ns p rs :=
  ⟨RowE.base h.row hk.size, fun s hs hp => ⟨(h.have' s hs hp).1, fun k e => Nat.le_trans hk.size ((h.have' s hs hp).2 k e)⟩, h.none', Same.trans hk h.same⟩

theorem chk_codes (l : List Nat) (hl : l.length = 19) (h7 : ∀ x ∈ l, x ≤ 7) : chk (l.map (fun (n : Nat) => (n : Int))) = chkN l := by
  have hok : okAll (l.map (fun (n : Nat) => (n : Int))) 0 15 = true := by
    simp only [okAll, List.length_map, Bool.and_eq_true, decide_eq_true_eq, Bool.not_eq_true', List.any_eq_false]
    refine ⟨⟨by omega, by omega⟩, fun z hz => ?_⟩
    obtain ⟨n, hn, rfl⟩ := List.mem_map.1 hz
    have := h7 n hn
    simp [badI]; omega
  unfold chk
  rw [if_pos hok, List.map_map]
  have e : l.map (Int.toNat ∘ fun (n : Nat) => (n : Int)) = l := by
    conv => rhs; rw [← List.map_id l]
    exact List.map_congr_left (fun n _ => by simp)
  rw [e]

theorem stepF_le {ns ls : List Nat} {c s x c' : Nat} (h : stepF ns ls c = .ok ((s, x), c')) : c' ≤ ls.length := by
  unfold stepF at h
  split at h
  · cases h
  · split at h
    · cases h
    · simp only [Except.ok.injEq, Prod.mk.injEq] at h
      omega

theorem bodyF_step {ns ls : List Nat} {N f c s x c' : Nat} {l : List Nat} (hl : l.length < N) (hs : stepF ns ls c = .ok ((s, x), c')) : bodyF ns ls N (f + 1) l c = match withM l ((s : Int), (x : Int)) N with | none => .error 41 | some m => bodyF ns ls N f m c' := by
  simp only [bodyF]
  rw [if_neg (by omega), hs]
  rfl

theorem bodyF_err {ns ls : List Nat} {N f c e : Nat} {l : List Nat} (hl : l.length < N) (hs : stepF ns ls c = .error e) : bodyF ns ls N (f + 1) l c = .error e := by
  simp only [bodyF]
  rw [if_neg (by omega), hs]

theorem bodyF_end {ns ls : List Nat} {N f c : Nat} {l : List Nat} (hl : N ≤ l.length) : bodyF ns ls N f l c = .ok (l, c) := by
  cases f with
  | zero => rfl
  | succ f => simp only [bodyF]; rw [if_pos hl]

/-- An answer of Read. -/
def ReadA (w w' : World) (r : Ending) : Except Nat ((List Nat × List Nat) × Nat) → Prop
  | .error e => r = .returned (.tuple #[.slice none 0 0, .slice none 0 0, .int .i64 0, .int .i64 (e : Nat)]) ∧ Same w w'
  | .ok ((a, b), n) => (∃ va vb, r = .returned (.tuple #[va, vb, .int .i64 (n : Nat), .int .i64 0]) ∧ SrcE natV w' (fun k => w.heap.size ≤ k) va a ∧ SrcE natV w' (fun k => w.heap.size ≤ k) vb b) ∧ Same w w'

theorem hTake_ok {ls : List Nat} {c n : Nat} (h : c + n ≤ ls.length) : hTake ls c 0 n = (numAt ls c n, c + n, 0) := by
  unfold hTake
  rw [if_neg (by simp), if_neg (by omega)]
theorem hTake_le (ls : List Nat) (c e n : Nat) (hc : c ≤ ls.length) : (hTake ls c e n).2.1 ≤ ls.length := by
  unfold hTake
  split
  · exact hc
  · split
    · exact hc
    · simp only; omega
theorem hTake_stuck {ls : List Nat} {c e n : Nat} (h : e ≠ 0) : hTake ls c e n = (0, c, e) := by unfold hTake; rw [if_pos h]
theorem hTake_end {ls : List Nat} {c n : Nat} (h : ls.length < c + n) : hTake ls c 0 n = (0, c, 10) := by
  unfold hTake
  rw [if_neg (by simp), if_pos h]

/-- Three numbers that are not there. -/
theorem hTake_three (ls : List Nat) (a : Nat) (h : ls.length < a + 14) (t1 t2 t3 : Nat × Nat × Nat) (h1 : hTake ls a 0 5 = t1) (h2 : hTake ls t1.2.1 t1.2.2 5 = t2) (h3 : hTake ls t2.2.1 t2.2.2 4 = t3) : t3.2.2 = 10 := by
  by_cases k1 : ls.length < a + 5
  · rw [hTake_end k1] at h1
    subst h1
    rw [hTake_stuck (by simp)] at h2
    subst h2
    rw [hTake_stuck (by simp)] at h3
    subst h3
    rfl
  · rw [hTake_ok (by omega)] at h1
    subst h1
    simp only at h2
    by_cases k2 : ls.length < a + 5 + 5
    · rw [hTake_end k2] at h2
      subst h2
      rw [hTake_stuck (by simp)] at h3
      subst h3
      rfl
    · rw [hTake_ok (by omega)] at h2
      subst h2
      simp only at h3
      rw [hTake_end (by omega)] at h3
      subst h3
      rfl

theorem stepF_ge {ns ls : List Nat} {c s x c' : Nat} (h : stepF ns ls c = .ok ((s, x), c')) : c ≤ c' := by
  unfold stepF at h
  split at h
  · cases h
  · split at h
    · cases h
    · simp only [Except.ok.injEq, Prod.mk.injEq] at h
      omega

/-- The lengths of the steps' codes, as they are read: all is well, or the bits have ended. -/
def CodesAt (ls : List Nat) (a i c e : Nat) (xs : List Nat) : Prop := (a + 14 + 3 * i ≤ ls.length ∧ c = a + 14 + 3 * i ∧ e = 0 ∧ xs = codesF ls (a + 14) i) ∨ (ls.length < a + 14 + 3 * i ∧ e = 10)

theorem CodesAt.next {ls : List Nat} {a i c e : Nat} {xs : List Nat} (h : CodesAt ls a i c e xs) {x c' e' : Nat} (ht : hTake ls c e 3 = (x, c', e')) : CodesAt ls a (i + 1) c' e' (xs.set (ord.getD i 0) x) := by
  rcases h with ⟨h1, rfl, rfl, rfl⟩ | ⟨h1, rfl⟩
  · by_cases hf : a + 14 + 3 * i + 3 ≤ ls.length
    · rw [hTake_ok hf] at ht
      simp only [Prod.mk.injEq] at ht
      obtain ⟨rfl, rfl, rfl⟩ := ht
      exact .inl ⟨by omega, by omega, rfl, rfl⟩
    · rw [hTake_end (by omega)] at ht
      simp only [Prod.mk.injEq] at ht
      obtain ⟨rfl, rfl, rfl⟩ := ht
      exact .inr ⟨by omega, rfl⟩
  · rw [hTake_stuck (by decide)] at ht
    simp only [Prod.mk.injEq] at ht
    obtain ⟨rfl, rfl, rfl⟩ := ht
    exact .inr ⟨by omega, rfl⟩

theorem ord_le : ∀ i, i < 19 → ord.getD i 0 ≤ 18 := by decide

theorem numAt3 (ls : List Nat) (h : ∀ b ∈ ls, b < 2) (c e : Nat) : (hTake ls c e 3).1 ≤ 7 := by
  have := numAt_lt ls h c 3
  unfold hTake
  split
  · simp
  · split
    · simp
    · simp only; omega

end Go.Proofs.YtofhlnpbflkdlabDoor
