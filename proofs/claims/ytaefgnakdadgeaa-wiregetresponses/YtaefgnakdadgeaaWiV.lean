/-
  Layer 19: there and back (mathematics).
-/
import Derived.Test.YtaefgnakdadgeaaWiU
namespace Go.Proofs.Ytaefgnakdadgeaa
open Go.RowKit

theorem readK_more (k : Nat) {r y : List Nat} {L : List ByteArray} (h : readK k r = some (L, y)) (z : List Nat) : readK k (r ++ z) = some (L, y ++ z) := by
  induction k generalizing r L with
  | zero => simp only [readK, Option.some.injEq, Prod.mk.injEq] at h ⊢; exact ⟨h.1, by rw [h.2]⟩
  | succ k ih =>
    simp only [readK] at h ⊢
    cases h1 : nm8 1 r with
    | none => rw [h1] at h; cases h
    | some q =>
      rw [h1] at h
      rw [nm8_more h1 z]
      simp only [bnd8] at h ⊢
      cases h2 : tk8 q.1 q.2 with
      | none => rw [h2] at h; cases h
      | some s =>
        rw [h2] at h
        rw [tk8_more h2 z]
        simp only at h ⊢
        cases h3 : readK k s.2 with
        | none => rw [h3] at h; cases h
        | some t =>
          rw [h3] at h
          simp only [Option.some.injEq, Prod.mk.injEq] at h
          rw [ih (L := t.1) (by rw [h3, ← h.2])]
          simp only [Option.some.injEq, Prod.mk.injEq]
          exact ⟨h.1, trivial⟩

theorem readK_lay (L : List ByteArray) (h : ∀ s ∈ L, s.size ≤ 255) (z : List Nat) : readK L.length (nmL L ++ z) = some (L, z) := by
  induction L with
  | nil => rfl
  | cons s t ih =>
    have e : nmL (s :: t) ++ z = s.size :: (sb s ++ (nmL t ++ z)) := by simp [nmL]
    rw [e]
    show readK (t.length + 1) _ = _
    simp only [readK]
    rw [nm8_one]
    simp only [bnd8]
    rw [tk8_app (sb s) _ (sb_size s)]
    simp only
    rw [ih (fun g hg => h g (List.mem_cons_of_mem _ hg))]
    simp [txt_sb]

theorem nm8_head {v : Nat} {r y : List Nat} (h : nm8 1 r = some (v, y)) : r = v :: y := by
  cases r with
  | nil => simp [nm8, tk8] at h
  | cons b t => rw [nm8_one] at h; simp only [Option.some.injEq, Prod.mk.injEq] at h; rw [h.1, h.2]

theorem readK_join (k : Nat) {r y : List Nat} {L : List ByteArray} (h : readK k r = some (L, y)) (hb : ∀ b ∈ r, b < 256) : r = nmL L ++ y ∧ L.length = k ∧ ∀ s ∈ L, s.size ≤ 255 := by
  induction k generalizing r L with
  | zero => simp only [readK, Option.some.injEq, Prod.mk.injEq] at h; obtain ⟨rfl, rfl⟩ := h; exact ⟨rfl, rfl, fun s hs => (by cases hs)⟩
  | succ k ih =>
    simp only [readK] at h
    cases h1 : nm8 1 r with
    | none => rw [h1] at h; cases h
    | some q =>
      rw [h1] at h
      simp only [bnd8] at h
      cases h2 : tk8 q.1 q.2 with
      | none => rw [h2] at h; cases h
      | some s =>
        rw [h2] at h
        simp only at h
        cases h3 : readK k s.2 with
        | none => rw [h3] at h; cases h
        | some t =>
          rw [h3] at h
          simp only [Option.some.injEq, Prod.mk.injEq] at h
          obtain ⟨rfl, rfl⟩ := h
          have e1 := nm8_head h1
          obtain ⟨e2, e3⟩ := tk8_join h2
          have hs : ∀ b ∈ s.1, b < 256 := fun b hm => hb b (by rw [e1, e2]; simp [hm])
          have h256 : q.1 < 256 := hb q.1 (by rw [e1]; simp)
          obtain ⟨e4, e5, e6⟩ := ih h3 (fun b hm => hb b (by rw [e1, e2]; simp [hm]))
          refine ⟨?_, by simp [e5], fun g hg => ?_⟩
          · rw [e1, e2, e4]; simp [nmL, txt_size, e3, sb_txt s.1 hs]
          · rcases List.mem_cons.1 hg with rfl | hg
            · rw [txt_size, e3]; omega
            · exact e6 g hg

theorem wrongL_of {cs : List Cel} {l : List Fd} (h : ∀ f ∈ l, wrongF cs f = 0) : wrongL cs l = 0 := by
  unfold wrongL
  rw [if_neg, if_neg]
  all_goals
    simp only [List.any_eq_true, decide_eq_true_eq, not_exists, not_and]
    intro f hf
    rw [h f hf]
    decide

theorem perr_zero {q : Rq} (h : perr q = 0) : okK q.k = true ∧ othQ q = false ∧ wrongL q.cs (fdQ q.k) = 0 := by
  unfold perr at h
  split at h
  · cases h
  next h1 =>
    split at h
    · cases h
    next h2 => exact ⟨by simpa using h1, by simpa using h2, h⟩

theorem othQ_mov {q : Rq} (h : othQ q = false) : (fdQ q.k).foldl (movF q.cs) (zeroQ q.k).cs = q.cs := by
  unfold othQ clrQ hasQ at h
  simp only [Bool.not_eq_false', Bool.and_eq_true, decide_eq_true_eq] at h
  obtain ⟨k, x, a, e, d, f, m, o⟩ := q
  simp only at h ⊢
  rcases fdQ_cases k with e1 | e1 | e1 | e1 | e1 | e1 | e1 | e1 | e1
  all_goals
    rw [e1] at h ⊢
    simp [Rq.cs, zeroQ, movF, Fd.at] at h ⊢
    simp_all

theorem okK_nat {k : Int} (h : okK k = true) : ((k.toNat : Nat) : Int) = k ∧ k.toNat ≤ 13 := by
  unfold okK at h
  simp only [decide_eq_true_eq] at h
  omega

theorem gotQ_cons {b : Nat} {y : List Nat} (h : okK (b : Nat) = true) : gotQ (b :: y) = bnd8 (readL (fdQ (b : Nat)) (zeroQ (b : Nat)).cs y) (fun p => if p.2 = [] then some (rqOf p.1) else none) := by
  show (if okK (b : Nat) = true then _ else _) = _
  rw [if_pos h]

/-- What is put is got. -/
theorem gotQ_put {q : Rq} (h : perr q = 0) : gotQ (pbyt q) = some q := by
  obtain ⟨h1, h2, h3⟩ := perr_zero h
  obtain ⟨h4, _⟩ := okK_nat h1
  unfold pbyt
  rw [gotQ_cons (by rw [h4]; exact h1), h4]
  have h5 := readL_lay (fdQ q.k) (cs := (zeroQ q.k).cs) (fdQ_fits q _) (wrongL_zero h3) []
  rw [List.append_nil] at h5
  rw [h5, othQ_mov h2]
  rfl

theorem gotQ_some {r : List Nat} {q : Rq} (h : gotQ r = some q) : ∃ (b : Nat) (y : List Nat) (cs : List Cel), r = b :: y ∧ okK (b : Nat) = true ∧ readL (fdQ (b : Nat)) (zeroQ (b : Nat)).cs y = some (cs, []) ∧ q = rqOf cs := by
  cases r with
  | nil => cases h
  | cons b y =>
    by_cases hk : okK (b : Nat) = true
    · rw [gotQ_cons hk] at h
      cases h1 : readL (fdQ (b : Nat)) (zeroQ (b : Nat)).cs y with
      | none => rw [h1] at h; cases h
      | some p =>
        rw [h1] at h
        simp only [bnd8] at h
        split at h
        · next h2 =>
          simp only [Option.some.injEq] at h
          exact ⟨b, y, p.1, rfl, hk, by rw [h1, ← h2], h.symm⟩
        · cases h
    · have : gotQ (b :: y) = none := by show (if okK (b : Nat) = true then _ else _) = _; rw [if_neg hk]
      rw [this] at h
      cases h

theorem gotQ_more {r : List Nat} {q : Rq} (h : gotQ r = some q) (x : Nat) : gotQ (r ++ [x]) = none ∧ gerrN (r ++ [x]) = 190 := by
  obtain ⟨b, y, cs, rfl, hk, h1, _⟩ := gotQ_some h
  refine ⟨?_, ?_⟩
  · show gotQ (b :: (y ++ [x])) = none
    rw [gotQ_cons hk, readL_more _ h1 [x]]
    rfl
  · show (if okK (b : Nat) = true then _ else _) = _
    rw [if_pos hk]

theorem gotQ_less {r : List Nat} {x : Nat} {q : Rq} (h : gotQ (r ++ [x]) = some q) : gotQ r = none ∧ gerrN r = 190 := by
  have h1 : gotQ r = none := by
    cases h2 : gotQ r with
    | none => rfl
    | some q2 => rw [(gotQ_more h2 x).1] at h; cases h
  refine ⟨h1, ?_⟩
  obtain ⟨b, y, cs, e, hk, _, _⟩ := gotQ_some h
  cases r with
  | nil => rfl
  | cons b2 y2 =>
    simp only [List.cons_append, List.cons.injEq] at e
    show (if okK (b2 : Nat) = true then _ else _) = _
    rw [e.1, if_pos hk]

theorem fdQ_nodup (k : Int) : ((fdQ k).map Fd.at).Nodup ∧ 0 ∉ (fdQ k).map Fd.at := by
  rcases fdQ_cases k with h | h | h | h | h | h | h | h | h
  all_goals
    rw [h]
    decide

theorem hasQ_mem {k : Int} {i : Nat} : hasQ k i = true ↔ i ∈ (fdQ k).map Fd.at := by
  unfold hasQ
  rw [List.any_eq_true, List.mem_map]
  constructor
  · rintro ⟨f, hf, h⟩
    refine ⟨f, hf, ?_⟩
    cases f <;> simpa [Fd.at] using h
  · rintro ⟨f, hf, h⟩
    refine ⟨f, hf, ?_⟩
    cases f <;> simpa [Fd.at] using h

/-- What is got is put. -/
theorem gotQ_join {r : List Nat} {q : Rq} (h : gotQ r = some q) (hb : ∀ b ∈ r, b < 256) : perr q = 0 ∧ pbyt q = r := by
  obtain ⟨b, y, cs, rfl, hk, h1, rfl⟩ := gotQ_some h
  have hal := readL_alike _ (fdQ_fits _ _) h1
  have hcs := alike_rq hal
  obtain ⟨hd, h0⟩ := fdQ_nodup (b : Nat)
  obtain ⟨e1, e2⟩ := readL_join _ hd (fdQ_fits _ _) h1 (fun z hz => hb z (List.mem_cons_of_mem _ hz))
  have hoth : ∀ j, j ∉ (fdQ (b : Nat)).map Fd.at → cs[j]? = (zeroQ (b : Nat)).cs[j]? := fun j hj => readL_other _ h1 hj
  have hk0 : (rqOf cs).k = (b : Nat) := by
    have h9 := hoth 0 h0
    rw [hcs] at h9
    simpa [Rq.cs, zeroQ] using h9
  rw [List.append_nil] at e1
  have ho : othQ (rqOf cs) = false := by
    rw [hcs] at hoth
    obtain ⟨q, hq⟩ : ∃ q, q = rqOf cs := ⟨_, rfl⟩
    rw [← hq] at hoth hk0 ⊢
    rw [← hk0] at hoth
    have hn : ∀ j, hasQ q.k j = false → q.cs[j]? = (zeroQ q.k).cs[j]? := fun j hj => hoth j (fun hm => by rw [hasQ_mem.2 hm] at hj; cases hj)
    have g1 : hasQ q.k 1 = false → q.x = 0 := fun h => by have h9 := hn 1 h; simpa [Rq.cs, zeroQ] using h9
    have g2 : hasQ q.k 2 = false → q.a = ⟨#[]⟩ := fun h => by have h9 := hn 2 h; simpa [Rq.cs, zeroQ] using h9
    have g3 : hasQ q.k 3 = false → q.e = ⟨#[]⟩ := fun h => by have h9 := hn 3 h; simpa [Rq.cs, zeroQ] using h9
    have g4 : hasQ q.k 4 = false → q.d = ⟨#[]⟩ := fun h => by have h9 := hn 4 h; simpa [Rq.cs, zeroQ] using h9
    have g5 : hasQ q.k 5 = false → q.f = 0 := fun h => by have h9 := hn 5 h; simpa [Rq.cs, zeroQ] using h9
    have g6 : hasQ q.k 6 = false → q.m = 0 := fun h => by have h9 := hn 6 h; simpa [Rq.cs, zeroQ] using h9
    have g7 : hasQ q.k 7 = false → q.o = ⟨#[]⟩ := fun h => by have h9 := hn 7 h; simpa [Rq.cs, zeroQ] using h9
    unfold othQ clrQ
    have hz : ∀ {α : Type} (b : Bool) (x z : α), (b = false → x = z) → (if b = true then z else x) = z := fun b x z h => by cases b; simpa using h rfl; rfl
    simp only [hz _ _ _ g1, hz _ _ _ g2, hz _ _ _ g3, hz _ _ _ g4, hz _ _ _ g5, hz _ _ _ g6, hz _ _ _ g7, decide_true, Bool.and_true, Bool.not_true]
  refine ⟨?_, ?_⟩
  · unfold perr
    rw [hk0, if_neg (by rw [hk]; decide), if_neg (by rw [ho]; decide)]
    rw [← hcs]
    exact wrongL_of e2
  · unfold pbyt
    rw [hk0, ← hcs, e1]
    rfl

theorem gqE_some {r : List Nat} {q : Rq} (h : gotQ r = some q) : gqE r = 0 ∧ gqV r = q := by
  unfold gqE gqV
  rw [h]
  exact ⟨rfl, rfl⟩

theorem gqE_none {r : List Nat} (h : gotQ r = none) : gqE r = gerrN r ∧ gqV r = zeroQ 0 := by
  unfold gqE gqV
  rw [h]
  exact ⟨rfl, rfl⟩

theorem gqE_zero {r : List Nat} (h : gqE r = 0) : ∃ q, gotQ r = some q := by
  cases h1 : gotQ r with
  | some q => exact ⟨q, rfl⟩
  | none =>
    rw [(gqE_none h1).1] at h
    cases r with
    | nil => cases h
    | cons b y =>
      change (if okK (b : Nat) = true then 190 else 191) = 0 at h
      split at h <;> cases h

end Go.Proofs.Ytaefgnakdadgeaa
