/-
  Layer 19: responses there and back (mathematics).
-/
import Derived.Test.YtaefgnakdadgeaaWiV
namespace Go.Proofs.Ytaefgnakdadgeaa
open Go.RowKit

theorem rerr_zero {s : Rs} {L : List ByteArray} (h : rerr s L = 0) : 0 ≤ s.c ∧ s.c ≤ 65535 ∧ wrongR s = 0 ∧ tooL L = false ∧ (rsB s L).length ≤ 20000 := by
  unfold rerr at h
  split at h
  · cases h
  next h1 =>
    split at h
    · next h2 => exact absurd h h2
    next h2 =>
      split at h
      · cases h
      next h3 =>
        split at h
        · cases h
        next h4 => exact ⟨by omega, by omega, by omega, by simpa using h3, by omega⟩

theorem gotR_short {r : List Nat} (h : r.length ≤ 20000) : gotR r = bnd8 (nm8 2 r) fun q => bnd8 (readL fdR ((zeroR (q.1 : Nat)).cs nilV) q.2) fun p => bnd8 (readNm p.2) fun t => if t.2 = [] then some (rsOf p.1, t.1) else none := by
  unfold gotR
  rw [if_pos h]

theorem fdR_mov (s : Rs) (c : Int) (h : s.c = c) (v : Value) : fdR.foldl (movF (s.cs v)) ((zeroR c).cs nilV) = s.cs nilV := by
  subst h
  rfl

/-- What is put is got. -/
theorem gotR_put {s : Rs} {L : List ByteArray} (h : rerr s L = 0) : gotR (rsB s L) = some (s, L) := by
  obtain ⟨h1, h2, h3, h4, h5⟩ := rerr_zero h
  obtain ⟨h6, h7⟩ := tooL_false h4
  have hc : ((s.c.toNat : Nat) : Int) = s.c := by omega
  rw [gotR_short h5]
  unfold rsB
  rw [List.append_assoc, nm8_app s.c.toNat 2 _ (by omega)]
  simp only [bnd8]
  rw [← layR_is s nilV, readL_lay fdR (fdR_fits s nilV) (wrongL_zero h3), fdR_mov s _ hc.symm]
  simp only
  have h8 : readNm (L.length :: nmL L) = some (L, []) := by
    unfold readNm
    rw [nm8_one]
    simp only [bnd8]
    rw [if_pos h6]
    have := readK_lay L h7 []
    rwa [List.append_nil] at this
  rw [h8]
  rfl

theorem readNm_more {r y : List Nat} {L : List ByteArray} (h : readNm r = some (L, y)) (z : List Nat) : readNm (r ++ z) = some (L, y ++ z) := by
  unfold readNm at h ⊢
  cases h1 : nm8 1 r with
  | none => rw [h1] at h; cases h
  | some q =>
    rw [h1] at h
    rw [nm8_more h1 z]
    simp only [bnd8] at h ⊢
    split at h
    · next h2 => rw [if_pos h2]; exact readK_more _ h z
    · cases h

theorem gotR_some {r : List Nat} {s : Rs} {L : List ByteArray} (h : gotR r = some (s, L)) : r.length ≤ 20000 ∧ ∃ (n : Nat) (y : List Nat) (cs : List Cel) (y2 : List Nat), nm8 2 r = some (n, y) ∧ readL fdR ((zeroR (n : Nat)).cs nilV) y = some (cs, y2) ∧ readNm y2 = some (L, []) ∧ s = rsOf cs := by
  by_cases hl : r.length ≤ 20000
  · refine ⟨hl, ?_⟩
    rw [gotR_short hl] at h
    cases h1 : nm8 2 r with
    | none => rw [h1] at h; cases h
    | some q =>
      rw [h1] at h
      simp only [bnd8] at h
      cases h2 : readL fdR ((zeroR (q.1 : Nat)).cs nilV) q.2 with
      | none => rw [h2] at h; cases h
      | some p =>
        rw [h2] at h
        simp only at h
        cases h3 : readNm p.2 with
        | none => rw [h3] at h; cases h
        | some t =>
          rw [h3] at h
          simp only at h
          split at h
          · next h4 =>
            simp only [Option.some.injEq, Prod.mk.injEq] at h
            obtain ⟨rfl, rfl⟩ := h
            exact ⟨q.1, q.2, p.1, p.2, rfl, h2, by rw [h3, ← h4], rfl⟩
          · cases h
  · unfold gotR at h
    rw [if_neg hl] at h
    cases h

theorem gotR_more {r : List Nat} {s : Rs} {L : List ByteArray} (h : gotR r = some (s, L)) (x : Nat) : gotR (r ++ [x]) = none := by
  obtain ⟨_, n, y, cs, y2, h1, h2, h3, _⟩ := gotR_some h
  by_cases hl : (r ++ [x]).length ≤ 20000
  · rw [gotR_short hl, nm8_more h1 [x]]
    simp only [bnd8]
    rw [readL_more _ h2 [x]]
    simp only
    rw [readNm_more h3 [x]]
    rfl
  · unfold gotR
    rw [if_neg hl]

theorem gotR_less {r : List Nat} {x : Nat} {s : Rs} {L : List ByteArray} (h : gotR (r ++ [x]) = some (s, L)) : gotR r = none := by
  cases h2 : gotR r with
  | none => rfl
  | some q => rw [gotR_more (s := q.1) (L := q.2) h2 x] at h; cases h

/-- What is got is put. -/
theorem gotR_join {r : List Nat} {s : Rs} {L : List ByteArray} (h : gotR r = some (s, L)) (hb : ∀ b ∈ r, b < 256) : rerr s L = 0 ∧ rsB s L = r := by
  obtain ⟨hl, n, y, cs, y2, h1, h2, h3, rfl⟩ := gotR_some h
  obtain ⟨e1, e2⟩ := nm8_join h1 hb
  have hcs := alike_rs (readL_alike _ (fdR_fits _ _) h2) (readL_okeep _ (fdR_fits _ _) h2)
  have hby : ∀ b ∈ y, b < 256 := fun b hm => hb b (by rw [e1]; exact List.mem_append_right _ hm)
  obtain ⟨e3, e4⟩ := readL_join fdR (by decide) (fdR_fits _ _) h2 hby
  have hby2 : ∀ b ∈ y2, b < 256 := fun b hm => hby b (by rw [e3]; exact List.mem_append_right _ hm)
  have h0 := readL_other fdR h2 (j := 0) (by decide)
  obtain ⟨s, hs⟩ : ∃ s, s = rsOf cs := ⟨_, rfl⟩
  rw [← hs] at hcs ⊢
  clear hs
  subst hcs
  have hc : s.c = (n : Nat) := by simpa [Rs.cs, zeroR] using h0
  rw [layR_is] at e3
  unfold readNm at h3
  cases h5 : nm8 1 y2 with
  | none => rw [h5] at h3; cases h3
  | some q =>
    rw [h5] at h3
    simp only [bnd8] at h3
    split at h3
    · next h6 =>
      have e5 := nm8_head h5
      obtain ⟨e6, e7, e8⟩ := readK_join _ h3 (fun b hm => hby2 b (by rw [e5]; exact List.mem_cons_of_mem _ hm))
      rw [List.append_nil] at e6
      have hr : rsB s L = r := by
        unfold rsB
        rw [e1, e3, e5, e6, hc, e7]
        simp
      have ht : tooL L = false := by
        unfold tooL
        rw [Bool.or_eq_false_iff]
        refine ⟨by simp; omega, ?_⟩
        rw [List.any_eq_false]
        intro g hg
        have := e8 g hg
        simp; omega
      refine ⟨?_, hr⟩
      unfold rerr
      have hw : wrongR s = 0 := wrongL_of e4
      rw [if_neg (by omega), if_neg (by omega), if_neg (by rw [ht]; decide), if_neg (by rw [hr]; omega)]
    · cases h3

theorem grE_some {r : List Nat} {s : Rs} {L : List ByteArray} (h : gotR r = some (s, L)) : grE r = 0 ∧ grS r = s ∧ grL r = L := by
  unfold grE grS grL
  rw [h]
  exact ⟨rfl, rfl, rfl⟩

theorem grE_none {r : List Nat} (h : gotR r = none) : grE r = 190 ∧ grS r = zeroR 0 ∧ grL r = [] := by
  unfold grE grS grL
  rw [h]
  exact ⟨rfl, rfl, rfl⟩

theorem rsB_lt (s : Rs) (L : List ByteArray) (hL : L.length ≤ 255) (h : ∀ t ∈ L, t.size ≤ 255) : ∀ b ∈ rsB s L, b < 256 := by
  intro b hb
  unfold rsB layR nmL at hb
  simp only [List.mem_append, List.mem_cons, List.mem_flatMap] at hb
  rcases hb with (h1 | h1 | h1 | h1 | h1 | h1 | h1 | h1) | h1 | ⟨t, ht, h1 | h1⟩
  all_goals first
    | exact leOf_lt _ _ b h1
    | exact sb_lt _ b h1
    | (have := h t ht; omega)
    | omega

theorem layL_lt (cs : List Cel) (l : List Fd) : ∀ b ∈ layL cs l, b < 256 := by
  intro b hb
  unfold layL at hb
  rw [List.mem_flatMap] at hb
  obtain ⟨f, _, hb⟩ := hb
  cases f with
  | num i =>
    simp only [layF] at hb
    split at hb
    · exact leOf_lt _ _ b hb
    · cases hb
  | txt i m =>
    simp only [layF] at hb
    split at hb
    · rcases List.mem_append.1 hb with h | h
      · exact leOf_lt _ _ b h
      · exact sb_lt _ b h
    · cases hb

theorem pqB_ok (q : Rq) : (∀ b ∈ pqB q, b < 256) ∧ (pqB q).length ≤ 100001 := by
  unfold pqB
  split
  next h =>
    obtain ⟨h1, h2, h3⟩ := perr_zero h
    obtain ⟨h4, h5⟩ := okK_nat h1
    unfold pbyt
    refine ⟨fun b hb => ?_, ?_⟩
    · rcases List.mem_cons.1 hb with rfl | hb
      · omega
      · exact layL_lt _ _ b hb
    · have := layL_len (fdQ q.k) (fun f hf => ⟨fdQ_fits q _ f hf, wrongL_zero h3 f hf⟩)
      have := fdQ_len q.k
      rw [List.length_cons]
      omega
  · exact ⟨fun b hb => (by cases hb), by simp⟩

theorem prB_ok (s : Rs) (L : List ByteArray) : (∀ b ∈ prB s L, b < 256) ∧ (prB s L).length ≤ 20000 := by
  unfold prB
  split
  next h =>
    obtain ⟨_, _, _, h4, h5⟩ := rerr_zero h
    obtain ⟨h6, h7⟩ := tooL_false h4
    exact ⟨rsB_lt s L (by omega) h7, h5⟩
  · exact ⟨fun b hb => (by cases hb), by simp⟩

end Go.Proofs.Ytaefgnakdadgeaa
