/-
  Layer 19: what is laid is read, and what is read is laid (mathematics).
-/
import Derived.Test.YtaefgnakdadgeaaWiS
namespace Go.Proofs.Ytaefgnakdadgeaa
open Go.RowKit

theorem tk8_more {n : Nat} {r x y : List Nat} (h : tk8 n r = some (x, y)) (z : List Nat) : tk8 n (r ++ z) = some (x, y ++ z) := by
  obtain ⟨h1, rfl, rfl⟩ := tk19_some h
  unfold tk8
  rw [if_pos (by rw [List.length_append]; omega), List.take_append_of_le_length h1, List.drop_append_of_le_length h1]

theorem tk8_join {n : Nat} {r x y : List Nat} (h : tk8 n r = some (x, y)) : r = x ++ y ∧ x.length = n := by
  obtain ⟨h1, rfl, rfl⟩ := tk19_some h
  exact ⟨(List.take_append_drop n r).symm, by rw [List.length_take]; omega⟩

theorem nm8_some {n v : Nat} {r y : List Nat} (h : nm8 n r = some (v, y)) : ∃ x, tk8 n r = some (x, y) ∧ v = n256 x := by
  unfold nm8 at h
  cases h1 : tk8 n r with
  | none => rw [h1] at h; cases h
  | some p => rw [h1] at h; simp only [Option.some.injEq, Prod.mk.injEq] at h; exact ⟨p.1, by rw [← h.2], h.1.symm⟩

theorem nm8_more {n v : Nat} {r y : List Nat} (h : nm8 n r = some (v, y)) (z : List Nat) : nm8 n (r ++ z) = some (v, y ++ z) := by
  obtain ⟨x, h1, rfl⟩ := nm8_some h
  exact nm19_of (tk8_more h1 z)

theorem leOf_of (x : List Nat) (n : Nat) (hn : x.length = n) (hb : ∀ b ∈ x, b < 256) : leOf (n256 x) n = x := by
  refine n256_inj _ _ (by rw [leOf_length, hn]) (leOf_lt _ _) hb ?_
  rw [leOf_n256, ← hn]
  exact Nat.mod_eq_of_lt (n256_lt x hb)

theorem nm8_join {n v : Nat} {r y : List Nat} (h : nm8 n r = some (v, y)) (hb : ∀ b ∈ r, b < 256) : r = leOf v n ++ y ∧ v < 256 ^ n := by
  obtain ⟨x, h1, rfl⟩ := nm8_some h
  obtain ⟨rfl, h3⟩ := tk8_join h1
  have hx : ∀ b ∈ x, b < 256 := fun b h => hb b (List.mem_append_left _ h)
  exact ⟨by rw [leOf_of x n h3 hx], by rw [← h3]; exact n256_lt x hx⟩

/-- The cell of a field. -/
def Fd.at : Fd → Nat
  | .num i => i
  | .txt i _ => i

theorem readF_more {cs cs' : List Cel} {f : Fd} {r y : List Nat} (h : readF cs f r = some (cs', y)) (z : List Nat) : readF cs f (r ++ z) = some (cs', y ++ z) := by
  cases f with
  | num i =>
    simp only [readF] at h ⊢
    cases h1 : nm8 4 r with
    | none => rw [h1] at h; cases h
    | some q =>
      rw [h1] at h
      rw [nm8_more h1 z]
      simp only [bnd8] at h ⊢
      split at h
      · next hle => rw [if_pos hle]; simp only [Option.some.injEq, Prod.mk.injEq] at h ⊢; exact ⟨h.1, by rw [h.2]⟩
      · cases h
  | txt i m =>
    simp only [readF] at h ⊢
    cases h1 : nm8 2 r with
    | none => rw [h1] at h; cases h
    | some q =>
      rw [h1] at h
      rw [nm8_more h1 z]
      simp only [bnd8] at h ⊢
      split at h
      · next hle =>
        rw [if_pos hle]
        cases h2 : tk8 q.1 q.2 with
        | none => rw [h2] at h; cases h
        | some s => rw [h2] at h; rw [tk8_more h2 z]; simp only [Option.some.injEq, Prod.mk.injEq] at h ⊢; exact ⟨h.1, by rw [h.2]⟩
      · cases h

theorem readL_more (l : List Fd) {cs cs' : List Cel} {r y : List Nat} (h : readL l cs r = some (cs', y)) (z : List Nat) : readL l cs (r ++ z) = some (cs', y ++ z) := by
  induction l generalizing cs r with
  | nil => simp only [readL, Option.some.injEq, Prod.mk.injEq] at h ⊢; exact ⟨h.1, by rw [h.2]⟩
  | cons f t ih =>
    simp only [readL] at h ⊢
    cases h1 : readF cs f r with
    | none => rw [h1] at h; cases h
    | some q =>
      rw [h1] at h
      rw [readF_more h1 z]
      exact ih h

/-- What a field is set to. -/
def movF (cs2 : List Cel) (cs : List Cel) (f : Fd) : List Cel := match cs2[f.at]? with
  | some c => cs.set f.at c
  | none => cs

theorem readF_lay {cs cs2 : List Cel} {f : Fd} (hf : f.fits cs2) (hw : wrongF cs2 f = 0) (z : List Nat) : readF cs f (layF cs2 f ++ z) = some (movF cs2 cs f, z) := by
  cases f with
  | num i =>
    obtain ⟨x, hx⟩ := hf
    simp only [wrongF, hx, numA] at hw
    split at hw
    · cases hw
    next hr =>
      simp only [readF, layF, hx, movF, Fd.at]
      rw [nm8_app x.toNat 4 z (by omega)]
      simp only [bnd8]
      rw [if_pos (by omega)]
      have : ((x.toNat : Nat) : Int) = x := by omega
      rw [this]
  | txt i m =>
    obtain ⟨⟨T, hx⟩, hm⟩ := hf
    simp only [wrongF, hx] at hw
    split at hw
    · cases hw
    next hr =>
      simp only [readF, layF, hx, movF, Fd.at, List.append_assoc]
      rw [nm8_app T.size 2 _ (by omega)]
      simp only [bnd8]
      rw [if_pos (by omega), tk8_app (sb T) z (sb_size T)]
      simp only [txt_sb]

theorem readL_lay (l : List Fd) {cs cs2 : List Cel} (hf : ∀ f ∈ l, f.fits cs2) (hw : ∀ f ∈ l, wrongF cs2 f = 0) (z : List Nat) : readL l cs (layL cs2 l ++ z) = some (l.foldl (movF cs2) cs, z) := by
  induction l generalizing cs with
  | nil => rfl
  | cons f t ih =>
    have h1 := readF_lay (cs := cs) (hf f (List.mem_cons_self ..)) (hw f (List.mem_cons_self ..)) (layL cs2 t ++ z)
    simp only [readL]
    have e : layL cs2 (f :: t) ++ z = layF cs2 f ++ (layL cs2 t ++ z) := by simp [layL]
    rw [e, h1]
    exact ih (fun g hg => hf g (List.mem_cons_of_mem _ hg)) (fun g hg => hw g (List.mem_cons_of_mem _ hg))

theorem readF_join {cs cs' : List Cel} {f : Fd} {r y : List Nat} (hf : f.fits cs) (h : readF cs f r = some (cs', y)) (hb : ∀ b ∈ r, b < 256) : r = layF cs' f ++ y ∧ wrongF cs' f = 0 := by
  cases f with
  | num i =>
    obtain ⟨x, hx⟩ := hf
    have hlt : i < cs.length := by rcases Nat.lt_or_ge i cs.length with h1 | h1; exact h1; rw [List.getElem?_eq_none h1] at hx; cases hx
    simp only [readF] at h
    cases h1 : nm8 4 r with
    | none => rw [h1] at h; cases h
    | some q =>
      rw [h1] at h
      simp only [bnd8] at h
      split at h
      · next hle =>
        simp only [Option.some.injEq, Prod.mk.injEq] at h
        obtain ⟨rfl, rfl⟩ := h
        obtain ⟨e, _⟩ := nm8_join h1 hb
        simp only [layF, wrongF, List.getElem?_set_self hlt, numA]
        refine ⟨by simpa using e, ?_⟩
        rw [if_neg (by omega)]
      · cases h
  | txt i m =>
    obtain ⟨⟨x, hx⟩, _⟩ := hf
    have hlt : i < cs.length := by rcases Nat.lt_or_ge i cs.length with h1 | h1; exact h1; rw [List.getElem?_eq_none h1] at hx; cases hx
    simp only [readF] at h
    cases h1 : nm8 2 r with
    | none => rw [h1] at h; cases h
    | some q =>
      rw [h1] at h
      simp only [bnd8] at h
      split at h
      · next hle =>
        cases h2 : tk8 q.1 q.2 with
        | none => rw [h2] at h; cases h
        | some s =>
          rw [h2] at h
          simp only [Option.some.injEq, Prod.mk.injEq] at h
          obtain ⟨rfl, rfl⟩ := h
          obtain ⟨e, _⟩ := nm8_join h1 hb
          obtain ⟨e2, e3⟩ := tk8_join h2
          have hs : ∀ b ∈ s.1, b < 256 := fun b hm => hb b (by rw [e, e2]; simp [hm])
          simp only [layF, wrongF, List.getElem?_set_self hlt, txt_size, e3, sb_txt s.1 hs]
          refine ⟨by rw [List.append_assoc, ← e2, ← e], ?_⟩
          rw [if_neg (by omega)]
      · cases h

theorem readF_other {cs cs' : List Cel} {f : Fd} {r y : List Nat} (h : readF cs f r = some (cs', y)) {j : Nat} (hj : j ≠ f.at) : cs'[j]? = cs[j]? := by
  cases f with
  | num i =>
    simp only [readF] at h
    cases h1 : nm8 4 r with
    | none => rw [h1] at h; cases h
    | some q =>
      rw [h1] at h
      simp only [bnd8] at h
      split at h
      · simp only [Option.some.injEq, Prod.mk.injEq] at h; rw [← h.1]; exact List.getElem?_set_ne (fun e => hj e.symm)
      · cases h
  | txt i m =>
    simp only [readF] at h
    cases h1 : nm8 2 r with
    | none => rw [h1] at h; cases h
    | some q =>
      rw [h1] at h
      simp only [bnd8] at h
      split at h
      · cases h2 : tk8 q.1 q.2 with
        | none => rw [h2] at h; cases h
        | some s => rw [h2] at h; simp only [Option.some.injEq, Prod.mk.injEq] at h; rw [← h.1]; exact List.getElem?_set_ne (fun e => hj e.symm)
      · cases h

theorem readL_other (l : List Fd) {cs cs' : List Cel} {r y : List Nat} (h : readL l cs r = some (cs', y)) {j : Nat} (hj : j ∉ l.map Fd.at) : cs'[j]? = cs[j]? := by
  induction l generalizing cs r with
  | nil => simp only [readL, Option.some.injEq, Prod.mk.injEq] at h; rw [h.1]
  | cons f t ih =>
    simp only [readL] at h
    simp only [List.map_cons, List.mem_cons, not_or] at hj
    cases h1 : readF cs f r with
    | none => rw [h1] at h; cases h
    | some q =>
      rw [h1] at h
      rw [ih h hj.2, readF_other h1 hj.1]

theorem layF_eq {a b : List Cel} {f : Fd} (h : a[f.at]? = b[f.at]?) : layF a f = layF b f ∧ wrongF a f = wrongF b f := by
  cases f with
  | num i => simp only [Fd.at] at h; simp only [layF, wrongF, h, and_self]
  | txt i m => simp only [Fd.at] at h; simp only [layF, wrongF, h, and_self]

theorem readL_join (l : List Fd) (hd : (l.map Fd.at).Nodup) {cs cs' : List Cel} {r y : List Nat} (hf : ∀ f ∈ l, f.fits cs) (h : readL l cs r = some (cs', y)) (hb : ∀ b ∈ r, b < 256) : r = layL cs' l ++ y ∧ ∀ f ∈ l, wrongF cs' f = 0 := by
  induction l generalizing cs r with
  | nil => simp only [readL, Option.some.injEq, Prod.mk.injEq] at h; exact ⟨h.2, fun f hf => (by cases hf)⟩
  | cons f t ih =>
    simp only [readL] at h
    simp only [List.map_cons, List.nodup_cons] at hd
    cases h1 : readF cs f r with
    | none => rw [h1] at h; cases h
    | some q =>
      rw [h1] at h
      obtain ⟨e1, e2⟩ := readF_join (hf f (List.mem_cons_self ..)) h1 hb
      have ha := readF_alike (hf f (List.mem_cons_self ..)) h1
      obtain ⟨e3, e4⟩ := ih hd.2 (fun g hg => (hf g (List.mem_cons_of_mem _ hg)).alike ha) h (fun b hm => hb b (by rw [e1]; exact List.mem_append_right _ hm))
      have ho : cs'[f.at]? = q.1[f.at]? := readL_other t h hd.1
      obtain ⟨e5, e6⟩ := layF_eq ho
      refine ⟨?_, fun g hg => ?_⟩
      · rw [e1, e3, ← e5]; simp [layL]
      · rcases List.mem_cons.1 hg with rfl | hg
        · rw [e6, e2]
        · exact e4 g hg

end Go.Proofs.Ytaefgnakdadgeaa
