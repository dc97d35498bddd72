/-
  Layers 12 and 14, the reference: what a dump says, one key more.
-/
import Derived.Test.YthignkloecfcbaaCrC
namespace Go.Proofs.Ythignkloecfcbaa
open Go.RowKit Go.Maps Go.Sort

theorem ltK12_split {a b : Ky} (h : ltK12 a b) : ltB a.1 b.1 ∨ (a.1 = b.1 ∧ bysN a.2 < bysN b.2) := by
  rcases h with h | ⟨h, h' | ⟨h', h''⟩⟩
  · exact .inl (.inl h)
  · exact .inl (.inr ⟨h, h'⟩)
  · exact .inr ⟨Bx.ext' (bytesC_inj h) (bytesC_inj h'), h''⟩

/-- What is seen, with one entry more. -/
def vis1 (vis : Bx → Nm → Option ByteArray) (b : Bx) (n : Nm) (d : ByteArray) : Bx → Nm → Option ByteArray := fun b' n' => if b' = b ∧ n' = n then some d else vis b' n'

section
variable {vis : Bx → Nm → Option ByteArray} {b : Bx} {n : Nm} {d : ByteArray}

theorem vis1_hit : vis1 vis b n d b n = some d := if_pos ⟨rfl, rfl⟩
theorem vis1_miss {b' : Bx} {n' : Nm} (h : ¬ (b' = b ∧ n' = n)) : vis1 vis b n d b' n' = vis b' n' := if_neg h

theorem IsDm.seen {D : List (Bx × List Ent)} (h : IsDm vis D) {x : Bx × List Ent} (hx : x ∈ D) : ∃ n', vis x.1 n' ≠ none := by
  obtain ⟨⟨n', d'⟩, hm⟩ := List.exists_mem_of_ne_nil x.2 (h.ne x hx)
  exact ⟨n', by rw [((h.ent x hx).2 n' d').1 hm]; simp⟩

/-- One of the last archive. -/
theorem IsDm.old {D : List (Bx × List Ent)} {es : List Ent} (h : IsDm vis (D ++ [(b, es)])) (hlt : ∀ b' n', vis b' n' ≠ none → ltB b' b ∨ (b' = b ∧ bysN n' < bysN n)) : IsDm (vis1 vis b n d) (D ++ [(b, es ++ [(n, d)])]) := by
  have hr := h.ris
  rw [List.pairwise_append] at hr
  have hD : ∀ x ∈ D, ltB x.1 b := fun x hx => hr.2.2 x hx _ (List.mem_singleton.2 rfl)
  have hne : ∀ x ∈ D, ¬ x.1 = b := fun x hx e => by have := hD x hx; rw [e] at this; exact ltB_irr _ this
  have hl : (b, es) ∈ D ++ [(b, es)] := List.mem_append.2 (.inr (List.mem_singleton.2 rfl))
  have hme := h.ent (b, es) hl
  have hnb : vis b n = none := by
    cases hv : vis b n with
    | none => rfl
    | some q =>
      rcases hlt b n (by rw [hv]; simp) with e | ⟨_, e⟩
      · exact absurd e (ltB_irr _)
      · exact absurd e (List.lt_irrefl _)
  refine ⟨?_, fun x hx => ?_, fun x hx => ?_, fun b' n' hv => ?_⟩
  · rw [List.pairwise_append]
    refine ⟨hr.1, List.pairwise_singleton _ _, fun x hx y hy => ?_⟩
    rw [List.mem_singleton.1 hy]
    exact hD x hx
  · rcases List.mem_append.1 hx with e | e
    · exact h.ne x (List.mem_append.2 (.inl e))
    · rw [List.mem_singleton.1 e]; simp
  · rcases List.mem_append.1 hx with e | e
    · have := h.ent x (List.mem_append.2 (.inl e))
      refine ⟨this.1, fun n' d' => ?_⟩
      rw [this.2, vis1_miss (fun e2 => hne x e e2.1)]
    · rw [List.mem_singleton.1 e]
      refine ⟨List.pairwise_append.2 ⟨hme.1, List.pairwise_singleton _ _, fun p hp q hq => ?_⟩, fun n' d' => ?_⟩
      · rw [List.mem_singleton.1 hq]
        obtain ⟨pn, pd⟩ := p
        rcases hlt b pn (by rw [(hme.2 pn pd).1 hp]; simp) with e | ⟨_, e⟩
        · exact absurd e (ltB_irr _)
        · exact e
      · show (n', d') ∈ es ++ [(n, d)] ↔ vis1 vis b n d b n' = some d'
        rw [List.mem_append, List.mem_singleton, Prod.mk.injEq]
        by_cases e2 : n' = n
        · subst e2
          rw [vis1_hit]
          constructor
          · rintro (e3 | ⟨_, rfl⟩)
            · have := (hme.2 n' d').1 e3
              simp only at this
              rw [hnb] at this
              cases this
            · rfl
          · intro e3
            injection e3 with e3
            exact .inr ⟨rfl, e3.symm⟩
        · rw [vis1_miss (fun e3 => e2 e3.2)]
          constructor
          · rintro (e3 | ⟨e3, _⟩)
            · exact (hme.2 n' d').1 e3
            · exact absurd e3 e2
          · intro e3
            exact .inl ((hme.2 n' d').2 e3)
  · by_cases e : b' = b ∧ n' = n
    · exact ⟨_, List.mem_append.2 (.inr (List.mem_singleton.2 rfl)), e.1.symm⟩
    · rw [vis1_miss e] at hv
      obtain ⟨x, hx, e2⟩ := h.all b' n' hv
      rcases List.mem_append.1 hx with e3 | e3
      · exact ⟨x, List.mem_append.2 (.inl e3), e2⟩
      · rw [List.mem_singleton.1 e3] at e2
        exact ⟨_, List.mem_append.2 (.inr (List.mem_singleton.2 rfl)), e2⟩

/-- One of a new archive. -/
theorem IsDm.fresh {D : List (Bx × List Ent)} (h : IsDm vis D) (hlt : ∀ b' n', vis b' n' ≠ none → ltB b' b ∨ (b' = b ∧ bysN n' < bysN n)) (hl : ∀ D0 x, D = D0 ++ [x] → ¬ x.1 = b) : IsDm (vis1 vis b n d) (D ++ [(b, [(n, d)])]) := by
  have hD : ∀ x ∈ D, ltB x.1 b := fun x hx => by
    obtain ⟨n', hv⟩ := h.seen hx
    rcases hlt x.1 n' hv with e | ⟨e, _⟩
    · exact e
    · exfalso
      have hne : D ≠ [] := fun e2 => by rw [e2] at hx; cases hx
      obtain ⟨D0, y, hy⟩ : ∃ D0 y, D = D0 ++ [y] := ⟨_, _, (List.dropLast_concat_getLast hne).symm⟩
      have hyb := hl D0 y hy
      have hym : y ∈ D := by rw [hy]; exact List.mem_append.2 (.inr (List.mem_singleton.2 rfl))
      obtain ⟨n2, hv2⟩ := h.seen hym
      rcases hlt y.1 n2 hv2 with e2 | ⟨e2, _⟩
      · have hr := h.ris
        rw [hy] at hx hr
        rcases List.mem_append.1 hx with e3 | e3
        · have g := (List.pairwise_append.1 hr).2.2 x e3 y (List.mem_singleton.2 rfl)
          rw [e] at g
          exact ltB_irr _ (ltB_trans g e2)
        · rw [List.mem_singleton.1 e3] at e
          exact hyb e
      · exact hyb e2
  have hne : ∀ x ∈ D, ¬ x.1 = b := fun x hx e => by have := hD x hx; rw [e] at this; exact ltB_irr _ this
  have hno : ∀ n', vis b n' = none := fun n' => by
    cases hv : vis b n' with
    | none => rfl
    | some q =>
      obtain ⟨x, hx, e⟩ := h.all b n' (by rw [hv]; simp)
      exact absurd e (hne x hx)
  refine ⟨?_, fun x hx => ?_, fun x hx => ?_, fun b' n' hv => ?_⟩
  · rw [List.pairwise_append]
    refine ⟨h.ris, List.pairwise_singleton _ _, fun x hx y hy => ?_⟩
    rw [List.mem_singleton.1 hy]
    exact hD x hx
  · rcases List.mem_append.1 hx with e | e
    · exact h.ne x e
    · rw [List.mem_singleton.1 e]; simp
  · rcases List.mem_append.1 hx with e | e
    · have := h.ent x e
      refine ⟨this.1, fun n' d' => ?_⟩
      rw [this.2, vis1_miss (fun e2 => hne x e e2.1)]
    · rw [List.mem_singleton.1 e]
      refine ⟨List.pairwise_singleton _ _, fun n' d' => ?_⟩
      show (n', d') ∈ [(n, d)] ↔ vis1 vis b n d b n' = some d'
      rw [List.mem_singleton, Prod.mk.injEq]
      by_cases e2 : n' = n
      · subst e2
        rw [vis1_hit]
        constructor
        · rintro ⟨_, rfl⟩; rfl
        · intro e3; injection e3 with e3; exact ⟨rfl, e3.symm⟩
      · rw [vis1_miss (fun e3 => e2 e3.2), hno]
        constructor
        · rintro ⟨e3, _⟩; exact absurd e3 e2
        · intro e3; cases e3
  · by_cases e : b' = b ∧ n' = n
    · exact ⟨_, List.mem_append.2 (.inr (List.mem_singleton.2 rfl)), e.1.symm⟩
    · rw [vis1_miss e] at hv
      obtain ⟨x, hx, e2⟩ := h.all b' n' hv
      exact ⟨x, List.mem_append.2 (.inl hx), e2⟩

theorem IsDm.nil : IsDm (fun _ _ => none) [] := ⟨List.Pairwise.nil, fun _ h => (by cases h), fun _ h => (by cases h), fun _ _ h => absurd rfl h⟩

end

/-- A cell of the row of a dump written anew: its entries' slice. -/
theorem flat_setAd : ∀ (xs : List Ad) (i : Nat) (x : Ad) (_ : i < xs.length) (_ : (xs[i]?.map (·.b)) = some x.b), (xs.flatMap adE).set (i * 3 + 2) (.slice x.a x.n x.c) = (xs.set i x).flatMap adE
  | [], i, x, hi, _ => by simp at hi
  | y :: xs, 0, x, _, hb => by
    simp at hb
    simp [adE, hb]
  | y :: xs, i + 1, x, hi, hb => by
    have h1 := flat_setAd xs i x (by simp at hi; omega) (by simpa using hb)
    rw [List.flatMap_cons, List.set_cons_succ, List.flatMap_cons, ← h1]
    have e2 : (i + 1) * 3 + 2 = (i * 3 + 2) + 1 + 1 + 1 := by omega
    rw [e2]
    rfl

theorem RowC.setAd {B : Nat} {w : World} {g n cap : Nat} {xs : List Ad} (h : RowC B 55 3 adE w (.slice (some ⟨g, 0, none⟩) n cap) xs) (i : Nat) (x : Ad) (hi : i < xs.length) (hb : xs[i].b = x.b) :
    RowC B 55 3 adE (w.setCell ⟨g, i * 3 + 2, none⟩ (.slice x.a x.n x.c)) (.slice (some ⟨g, 0, none⟩) n cap) (xs.set i x) := by
  have hl := h.len
  subst hl
  have h1 := (World.ownsRow.stored h (i * 3 + 2) (.slice x.a x.n x.c)).1
  rw [flat_setAd xs i x hi (by rw [List.getElem?_eq_getElem hi, ← hb]; rfl)] at h1
  unfold RowC
  rw [List.length_set]
  exact h1

end Go.Proofs.Ythignkloecfcbaa
