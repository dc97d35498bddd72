/-
  Layer 12, the reference: what Put and Prune make of a list of versions.
-/
import Derived.Test.YthignkloecfcbaaCrE
namespace Go.Proofs.Ythignkloecfcbaa
open Go.RowKit Go.Maps Go.Sort

theorem ofK_append (A B : List Lv) (b : Bx) (n : Nm) : ofK (A ++ B) b n = ofK A b n ++ ofK B b n := by
  unfold ofK
  rw [List.filter_append, List.map_append]

theorem ofK_one (y : Lv) (b : Bx) (n : Nm) : ofK [y] b n = if b = y.b ∧ n = y.n then [y.v] else [] := by
  unfold ofK isK
  by_cases h : b = y.b ∧ n = y.n
  · rw [if_pos h, List.filter_cons, if_pos (decide_eq_true ⟨h.1.symm, h.2.symm⟩)]; rfl
  · rw [if_neg h, List.filter_cons, if_neg (fun e => h (by have := of_decide_eq_true e; exact ⟨this.1.symm, this.2.symm⟩))]; rfl

/-- How many versions there are. -/
theorem ofK_tot : ∀ L : List Lv, TotIs (ofK L) L.length
  | [] => ⟨[], List.nodup_nil, fun _ _ h => absurd rfl h, rfl⟩
  | y :: L => by
    obtain ⟨n', h1, h2⟩ := (ofK_tot L).upd (V' := ofK (y :: L)) y.b y.n (y.v :: ofK L y.b y.n) (fun b m => by
      have h := ofK_append [y] L b m
      rw [List.singleton_append] at h
      rw [h, ofK_one]
      by_cases e : b = y.b ∧ m = y.n
      · rw [if_pos e, if_pos e, e.1, e.2]; rfl
      · rw [if_neg e, if_neg e]; rfl)
    rw [List.length_cons] at h2
    obtain rfl : n' = (y :: L).length := by rw [List.length_cons]; omega
    exact h1

/-- What the search for a version of this time tells. -/
def SeI (L : List Lv) (b : Bx) (n : Nm) (t : Int) (i k : Nat) : Prop :=
  (k = L.length ∧ ∀ j (_ : j < i) (hj : j < L.length), ¬ (isK b n L[j] = true ∧ L[j].v.t = t)) ∨ (∃ hk : k < L.length, isK b n L[k] = true ∧ L[k].v.t = t)

theorem SeI.skip {L : List Lv} {b : Bx} {n : Nm} {t : Int} {i k : Nat} (h : SeI L b n t i k) (hi : i < L.length) (hn : ¬ (isK b n L[i] = true ∧ L[i].v.t = t)) : SeI L b n t (i + 1) k := by
  rcases h with ⟨h1, h2⟩ | h
  · refine .inl ⟨h1, fun j hj hj2 => ?_⟩
    rcases Nat.lt_or_ge j i with e | e
    · exact h2 j e hj2
    · obtain rfl : j = i := by omega
      exact hn
  · exact .inr h

theorem SeI.hit {L : List Lv} {b : Bx} {n : Nm} {t : Int} {i : Nat} (hi : i < L.length) (h1 : isK b n L[i] = true) (h2 : L[i].v.t = t) : SeI L b n t (i + 1) i := .inr ⟨hi, h1, h2⟩

theorem SeI.le {L : List Lv} {b : Bx} {n : Nm} {t : Int} {i k : Nat} (h : SeI L b n t i k) : k ≤ L.length := by
  rcases h with ⟨h, _⟩ | ⟨h, _⟩ <;> omega

def lvOf (x : Wr) (t : Int) : Lv := ⟨x.b, x.n, verOf x t⟩

/-- What one write makes of the versions. -/
def putL (L : List Lv) (x : Wr) (t : Int) (k : Nat) : List Lv := if k = L.length then L ++ [lvOf x t] else L.set k (lvOf x t)

theorem putL_len (L : List Lv) (x : Wr) (t : Int) (k : Nat) : (putL L x t k).length ≤ L.length + 1 := by
  unfold putL
  split
  · rw [List.length_append]; exact Nat.le_refl _
  · rw [List.length_set]; exact Nat.le_succ _

theorem putL_is {L : List Lv} {x : Wr} {t : Int} {k : Nat} (hu : UpTo (ofK L) t) (hs : SeI L x.b x.n t L.length k) : ofK (putL L x t k) = putF (ofK L) x t := by
  funext b n
  unfold putF putL
  rcases hs with ⟨rfl, h2⟩ | ⟨hk, h1, h2⟩
  · rw [if_pos rfl, ofK_append, ofK_one]
    show _ ++ (if b = x.b ∧ n = x.n then [verOf x t] else []) = _
    by_cases e : b = x.b ∧ n = x.n
    · rw [if_pos e, if_pos e]
      unfold putV
      congr 1
      refine (List.filter_eq_self.2 (fun v hv => decide_eq_true ?_)).symm
      rw [verOf_t]
      have h3 := (hu b n).2 v hv
      rw [e.1, e.2] at hv
      obtain ⟨j, hj, e1, e2⟩ := mem_ofK.1 hv
      have h4 := h2 j hj hj
      rw [e2] at h4
      have : v.t ≠ t := fun e3 => h4 ⟨e1, e3⟩
      omega
    · rw [if_neg e, if_neg e, List.append_nil]
  · rw [if_neg (by omega)]
    obtain ⟨A, hA⟩ : ∃ A, A = L.take k := ⟨_, rfl⟩
    obtain ⟨B, hB⟩ : ∃ B, B = L.drop (k + 1) := ⟨_, rfl⟩
    obtain ⟨z, hz⟩ : ∃ z, z = L[k] := ⟨_, rfl⟩
    have hL : L = A ++ z :: B := by rw [hA, hB, hz, ← List.drop_eq_getElem_cons hk, List.take_append_drop]
    have hlA : A.length = k := by rw [hA, List.length_take]; omega
    have hS : L.set k (lvOf x t) = A ++ lvOf x t :: B := by
      rw [hL, List.set_append_right _ _ (by omega), hlA, Nat.sub_self, List.set_cons_zero]
    rw [← hz] at h1 h2
    have sp : ∀ y : Lv, ofK (A ++ y :: B) b n = ofK A b n ++ ((if b = y.b ∧ n = y.n then [y.v] else []) ++ ofK B b n) := fun y => by
      rw [ofK_append, show y :: B = [y] ++ B from rfl, ofK_append, ofK_one]
    obtain ⟨zb, zn⟩ := of_decide_eq_true h1
    have hu2 := hu b n
    rw [hL] at hu2
    rw [hS, hL, sp, sp]
    rw [sp] at hu2
    show _ ++ ((if b = x.b ∧ n = x.n then [verOf x t] else []) ++ _) = _
    rw [zb, zn] at hu2 ⊢
    by_cases e : b = x.b ∧ n = x.n
    · rw [if_pos e] at hu2
      rw [if_pos e, if_pos e, if_pos e]
      obtain ⟨hr, hm⟩ := hu2
      unfold RisV at hr
      obtain ⟨_, r2, r3⟩ := List.pairwise_append.1 hr
      have hB0 : ofK B b n = [] := by
        cases hq : ofK B b n with
        | nil => rfl
        | cons u l =>
          rw [hq] at r2 hm
          have g1 := (List.pairwise_cons.1 r2).1 u (by simp)
          have g2 := hm u (by simp)
          omega
      rw [hB0] at r3 ⊢
      unfold putV
      rw [List.append_nil, List.filter_append, verOf_t, List.filter_eq_self.2 (fun v hv => decide_eq_true (by have := r3 v hv z.v (by simp); omega)), List.append_nil, List.filter_cons, if_neg (fun e9 => by have := of_decide_eq_true e9; omega), List.filter_nil, List.append_nil]
    · rw [if_neg e, if_neg e, if_neg e]

/-- Is a version kept by Prune? -/
def kpP (L : List Lv) (f : Int) (x : Lv) : Bool := decide (f < x.v.t) || (decide (x.v.t = (newV (ofK L x.b x.n) f).t) && x.v.there)

theorem pruV_filter {l : List Ver} (h : RisV l) (f : Int) : pruV l f = l.filter (fun v => decide (f < v.t) || (decide (v.t = (newV l f).t) && v.there)) := by
  obtain ⟨u, hu⟩ : ∃ u, u = upV l f := ⟨_, rfl⟩
  have hul := upV_le l f
  have hlt := upV_lt h f
  rw [← hu] at hul hlt
  have hd : (l.drop u).filter (fun v => decide (f < v.t) || (decide (v.t = (newV l f).t) && v.there)) = l.drop u := List.filter_eq_self.2 (fun v hv => by
    obtain ⟨j, hj, rfl⟩ := List.getElem_of_mem hv
    rw [List.length_drop] at hj
    rw [List.getElem_drop]
    have := hlt (u + j) (by omega)
    have h2 : ¬ l[u + j].t ≤ f := fun e => by have := this.2 e; omega
    rw [decide_eq_true (by omega), Bool.true_or])
  unfold pruV
  rw [← hu]
  cases u with
  | zero =>
    have hn : newV l f = ver0 := by unfold newV; rw [← hu, if_pos rfl]
    rw [hn] at hd ⊢
    rw [List.drop_zero] at hd
    rw [hd]
    rfl
  | succ q =>
    have hq : q < l.length := by omega
    have hn : newV l f = l[q] := by
      unfold newV
      rw [← hu, if_neg (by omega), Nat.add_sub_cancel, List.getD_eq_getElem?_getD, List.getElem?_eq_getElem hq]; rfl
    obtain ⟨z, hz⟩ : ∃ z, z = l[q] := ⟨_, rfl⟩
    rw [hn, ← hz] at hd ⊢
    have hs : l = l.take q ++ (z :: l.drop (q + 1)) := by rw [hz, ← List.drop_eq_getElem_cons hq, List.take_append_drop]
    have hzf : z.t ≤ f := by rw [hz]; exact (hlt q hq).1 (by omega)
    have ha : (l.take q).filter (fun v => decide (f < v.t) || (decide (v.t = z.t) && v.there)) = [] := List.filter_eq_nil_iff.2 (fun v hv e => by
      obtain ⟨j, hj, rfl⟩ := List.getElem_of_mem hv
      rw [List.length_take] at hj
      rw [List.getElem_take] at e
      have g1 := List.pairwise_iff_getElem.1 h j q (by omega) hq (by omega)
      rw [← hz] at g1
      rw [decide_eq_false (show ¬ f < (l[j]'(by omega)).t by omega), decide_eq_false (show ¬ (l[j]'(by omega)).t = z.t by omega)] at e
      cases e)
    have hfl : l.filter (fun v => decide (f < v.t) || (decide (v.t = z.t) && v.there)) = (if z.there = true then [z] else []) ++ l.drop (q + 1) := by
      rw [congrArg (List.filter _) hs, List.filter_append, ha, List.nil_append, List.filter_cons, hd, decide_eq_false (show ¬ f < z.t by omega), decide_eq_true rfl, Bool.false_or, Bool.true_and]
      cases z.there <;> rfl
    rw [hfl, Nat.add_sub_cancel]
    cases z.there with
    | false => rfl
    | true =>
      rw [if_pos rfl, if_pos rfl, List.drop_eq_getElem_cons hq, ← hz]; rfl

theorem ofK_filter (L : List Lv) (P : Lv → Bool) (b : Bx) (n : Nm) (Q : Ver → Bool) (h : ∀ x ∈ L, x.b = b → x.n = n → P x = Q x.v) : ofK (L.filter P) b n = (ofK L b n).filter Q := by
  unfold ofK
  rw [List.filter_map, List.filter_filter, List.filter_filter]
  congr 1
  refine List.filter_congr (fun x hx => ?_)
  cases hk : isK b n x with
  | false => simp
  | true =>
    obtain ⟨e1, e2⟩ := of_decide_eq_true hk
    simp [h x hx e1 e2]

theorem prL_is (L : List Lv) (f : Int) (hr : ∀ b n, RisV (ofK L b n)) : ofK (L.filter (kpP L f)) = fun b n => pruV (ofK L b n) f := by
  funext b n
  rw [pruV_filter (hr b n)]
  refine ofK_filter L _ b n _ (fun x _ e1 e2 => ?_)
  unfold kpP
  rw [e1, e2]

theorem ofK_pair {L : List Lv} {b : Bx} {n : Nm} (h : RisV (ofK L b n)) {i j : Nat} (hi : i < L.length) (hj : j < L.length) (e1 : isK b n L[i] = true) (e2 : isK b n L[j] = true) (he : L[i].v.t = L[j].v.t) : i = j := by
  unfold RisV ofK at h
  rw [List.pairwise_map, List.pairwise_filter] at h
  rcases Nat.lt_trichotomy i j with e | e | e
  · have := List.pairwise_iff_getElem.1 h i j hi hj e e1 e2
    omega
  · exact e
  · have := List.pairwise_iff_getElem.1 h j i hj hi e e2 e1
    omega

/-- Is it the newest one? -/
theorem NwR.at_ {L : List Lv} {f r : Int} {i : Nat} (hi : i < L.length) (hr : RisV (ofK L L[i].b L[i].n)) (h : NwR L L[i].b L[i].n f r) (hf : ¬ f < L[i].v.t) : decide (r = (i : Int)) = decide (L[i].v.t = (newV (ofK L L[i].b L[i].n) f).t) := by
  have hk : isK L[i].b L[i].n L[i] = true := decide_eq_true ⟨rfl, rfl⟩
  rcases h with ⟨_, h2⟩ | ⟨k, hkl, _, h1, h2, h3, h4⟩
  · exact absurd (by omega) (h2 i hi hi hk)
  · have hn : newV (ofK L L[i].b L[i].n) f = L[k].v := newV_max hr (mem_ofK.2 ⟨k, hkl, h2, rfl⟩) h3 (fun x hx e => by
      obtain ⟨j, hj, e1, rfl⟩ := mem_ofK.1 hx
      exact h4 j hj hj e1 e)
    rw [hn]
    refine decide_eq_decide.2 ⟨fun e => ?_, fun e => ?_⟩
    · obtain rfl : k = i := by omega
      rfl
    · rw [h1, ofK_pair hr hi hkl hk h2 e]

end Go.Proofs.Ythignkloecfcbaa
