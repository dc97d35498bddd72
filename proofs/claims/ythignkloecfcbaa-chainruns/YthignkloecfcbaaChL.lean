/-
  Layer 12: how many versions there are.
-/
import Derived.Test.YthignkloecfcbaaChI
namespace Go.Proofs.Ythignkloecfcbaa
open Go.RowKit Go.Maps Go.Sort

abbrev Ky := Bx × Nm

/-- There are so many versions. -/
def TotIs (V : Vs) (n : Nat) : Prop := ∃ ks : List Ky, ks.Nodup ∧ (∀ b m, V b m ≠ [] → (b, m) ∈ ks) ∧ n = (ks.map (fun k => (V k.1 k.2).length)).sum

theorem sum_filter {α : Type} (f : α → Nat) (l : List α) : ((l.filter (fun x => f x != 0)).map f).sum = (l.map f).sum := by
  induction l with
  | nil => rfl
  | cons a r ih =>
    rw [List.filter_cons]
    by_cases h : f a = 0
    · rw [if_neg (by simp [h]), ih, List.map_cons, List.sum_cons, h, Nat.zero_add]
    · rw [if_pos (by simp [h]), List.map_cons, List.sum_cons, List.map_cons, List.sum_cons, ih]

theorem TotIs.det {V : Vs} {n m : Nat} (h : TotIs V n) (h' : TotIs V m) : n = m := by
  obtain ⟨ks, h1, h2, rfl⟩ := h
  obtain ⟨ls, g1, g2, rfl⟩ := h'
  rw [← sum_filter, ← sum_filter (fun k : Ky => (V k.1 k.2).length) ls]
  have hne : ∀ k : Ky, ((V k.1 k.2).length != 0) = true ↔ V k.1 k.2 ≠ [] := fun k => by simp
  have hp : (ks.filter (fun k => (V k.1 k.2).length != 0)).Perm (ls.filter (fun k => (V k.1 k.2).length != 0)) := by
    rw [List.perm_ext_iff_of_nodup (h1.filter _) (g1.filter _)]
    intro k
    rw [List.mem_filter, List.mem_filter, hne]
    exact ⟨fun e => ⟨g2 _ _ e.2, e.2⟩, fun e => ⟨h2 _ _ e.2, e.2⟩⟩
  exact (hp.map _).sum_nat

theorem sum_upd {α : Type} [DecidableEq α] (f g : α → Nat) (a : α) (hg : ∀ x, x ≠ a → g x = f x) : ∀ l : List α, l.Nodup → a ∈ l → (l.map g).sum + f a = (l.map f).sum + g a
  | [], _, h => by cases h
  | x :: r, hn, h => by
    rw [List.nodup_cons] at hn
    rw [List.map_cons, List.sum_cons, List.map_cons, List.sum_cons]
    by_cases e : x = a
    · subst e
      have : r.map g = r.map f := List.map_congr_left (fun y hy => hg y (fun e2 => hn.1 (by rw [← e2]; exact hy)))
      rw [this]
      omega
    · have := sum_upd f g a hg r hn.2 (by rcases List.mem_cons.1 h with h | h; exact absurd h.symm e; exact h)
      rw [hg x e]
      omega

/-- The versions of one entry changed. -/
theorem TotIs.upd {V V' : Vs} {n : Nat} (h : TotIs V n) (b : Bx) (m : Nm) (l' : List Ver) (hV : ∀ b' m', V' b' m' = if b' = b ∧ m' = m then l' else V b' m') : ∃ n', TotIs V' n' ∧ n' + (V b m).length = n + l'.length := by
  obtain ⟨ks, h1, h2, rfl⟩ := h
  have hg : ∀ k : Ky, k ≠ (b, m) → (V' k.1 k.2).length = (V k.1 k.2).length := fun k e => by
    rw [hV, if_neg (fun e2 => e (Prod.ext e2.1 e2.2))]
  have hl : V' b m = l' := by rw [hV, if_pos ⟨rfl, rfl⟩]
  have hcov : ∀ (qs : List Ky), (∀ k ∈ ks, k ∈ qs) → (b, m) ∈ qs → ∀ b' m', V' b' m' ≠ [] → (b', m') ∈ qs := fun qs hq hb b' m' e => by
    by_cases e2 : b' = b ∧ m' = m
    · rw [e2.1, e2.2]; exact hb
    · rw [hV, if_neg e2] at e; exact hq _ (h2 _ _ e)
  by_cases hb : (b, m) ∈ ks
  · refine ⟨_, ⟨ks, h1, hcov ks (fun _ h => h) hb, rfl⟩, ?_⟩
    have := sum_upd (fun k : Ky => (V k.1 k.2).length) (fun k : Ky => (V' k.1 k.2).length) (b, m) hg ks h1 hb
    simp only [hl] at this
    exact this
  · have h0 : V b m = [] := by
      by_cases e : V b m = []
      · exact e
      · exact absurd (h2 b m e) hb
    refine ⟨_, ⟨(b, m) :: ks, List.nodup_cons.2 ⟨hb, h1⟩, hcov _ (fun _ h => List.mem_cons_of_mem _ h) (List.mem_cons_self ..), rfl⟩, ?_⟩
    have e : ks.map (fun k : Ky => (V' k.1 k.2).length) = ks.map (fun k : Ky => (V k.1 k.2).length) := List.map_congr_left (fun k hk => hg k (fun e => hb (by rw [← e]; exact hk)))
    rw [List.map_cons, List.sum_cons, e, h0, hl]
    simp
    omega

theorem TotIs.same {V V' : Vs} {n : Nat} (h : TotIs V n) (hV : ∀ b m, V' b m = V b m) : TotIs V' n := by
  have : V' = V := by funext b m; exact hV b m
  rw [this]; exact h

/-- The entries of a store, archive by archive. -/
def keysC (s : Cs) : List Ky := s.bx.flatMap (fun x => (s.ar x.2).map (fun y => (x.1, y.1)))

def sizA (s : Cs) (a : Nat) : Nat := ((s.ar a).map (fun y => (s.vr y.2).length)).sum

theorem sum_flatMap {α β : Type} (f : β → Nat) (g : α → List β) (l : List α) : ((l.flatMap g).map f).sum = (l.map (fun x => ((g x).map f).sum)).sum := by
  induction l with
  | nil => rfl
  | cons a r ih => rw [List.flatMap_cons, List.map_append, List.sum_append, ih, List.map_cons, List.sum_cons]

theorem sum_bound {α : Type} (f : α → Nat) (B : Nat) : ∀ l : List α, (∀ x ∈ l, f x ≤ B) → (l.map f).sum ≤ l.length * B
  | [], _ => by simp
  | a :: r, h => by
    rw [List.map_cons, List.sum_cons, List.length_cons, Nat.succ_mul]
    have := sum_bound f B r (fun x hx => h x (List.mem_cons_of_mem _ hx))
    have := h a (List.mem_cons_self ..)
    omega

section
variable {K N : Nat} {w : World} {p : Nat} {s : Cs} {ρ : Nat → Nat} {mb : Nat}

theorem vers_at (h : Ck K N w p s ρ mb) {x : Bx × Nat} (hx : x ∈ s.bx) {y : Nm × Nat} (hy : y ∈ s.ar x.2) : vers s x.1 y.1 = s.vr y.2 := by
  have h1 : getK x.1 s.bx = some x.2 := getK_of_mem h.apb hx
  have h2 : getK y.1 (s.ar x.2) = some y.2 := getK_of_mem (h.apa (h.ba x hx)) hy
  unfold vers fndC
  rw [h1]
  show ((getK y.1 (s.ar x.2)).map s.vr).getD [] = _
  rw [h2]
  rfl

theorem keysC_nodup (h : Ck K N w p s ρ mb) : (keysC s).Nodup := by
  unfold keysC List.Nodup
  rw [List.pairwise_flatMap]
  refine ⟨fun x hx => ?_, ?_⟩
  · have := h.apa (h.ba x hx)
    rw [List.pairwise_map]
    exact this.imp (fun h e => h (by simpa using e))
  · refine h.apb.imp (fun {x y} hxy => ?_)
    intro k hk k' hk' e
    rw [List.mem_map] at hk hk'
    obtain ⟨_, _, rfl⟩ := hk
    obtain ⟨_, _, rfl⟩ := hk'
    exact hxy (by simp at e; exact e.1)

theorem Ck.tot (h : Ck K N w p s ρ mb) : TotIs (vers s) ((s.bx.map (fun x => sizA s x.2)).sum) := by
  refine ⟨keysC s, keysC_nodup h, fun b n e => ?_, ?_⟩
  · unfold keysC
    rw [List.mem_flatMap]
    unfold vers fndC at e
    cases hg : getK b s.bx with
    | none => rw [hg] at e; exact absurd rfl e
    | some a =>
      rw [hg] at e
      change ((getK n (s.ar a)).map s.vr).getD [] ≠ [] at e
      cases hn : getK n (s.ar a) with
      | none => rw [hn] at e; exact absurd rfl e
      | some c => exact ⟨(b, a), getK_mem hg, List.mem_map.2 ⟨(n, c), getK_mem hn, rfl⟩⟩
  · unfold keysC
    rw [sum_flatMap]
    congr 1
    refine List.map_congr_left (fun x hx => ?_)
    unfold sizA
    rw [List.map_map]
    congr 1
    refine List.map_congr_left (fun y hy => ?_)
    show (s.vr y.2).length = (vers s x.1 y.1).length
    rw [vers_at h hx hy]

theorem sizA_le (h : Ck K N w p s ρ mb) {a : Nat} (ha : ρ a = 3) : sizA s a ≤ 10000000000 := by
  unfold sizA
  have h1 := sum_bound (fun y : Nm × Nat => (s.vr y.2).length) 100000 (s.ar a) (fun y hy => Nat.le_trans (h.lens.2.2 y.2 (h.ac a ha y hy)) h.big)
  have h2 := h.lens.2.1 a ha
  have h3 := h.big
  have h4 : (s.ar a).length * 100000 ≤ 100000 * 100000 := Nat.mul_le_mul_right _ (by omega)
  omega

theorem tot_le (h : Ck K N w p s ρ mb) : (s.bx.map (fun x => sizA s x.2)).sum ≤ 1000000000000000 := by
  have h1 := sum_bound (fun x : Bx × Nat => sizA s x.2) 10000000000 s.bx (fun x hx => sizA_le h (h.ba x hx))
  have h2 := h.lens.1
  have h3 := h.big
  have h4 : s.bx.length * 10000000000 ≤ 100000 * 10000000000 := Nat.mul_le_mul_right _ (by omega)
  omega

end

end Go.Proofs.Ythignkloecfcbaa
