/-
  Layer 12: versions, and what of them counts at a time.
-/
import Derived.Test.YthignkloecfcbaaRec
namespace Go.Proofs.Ythignkloecfcbaa
open Go.RowKit

/-- A version: from when on, whether it is there, its data. -/
structure Ver where
  t : Int
  there : Bool
  data : ByteArray
  deriving DecidableEq

instance : Inhabited Ver := ⟨⟨0, false, ⟨#[]⟩⟩⟩

def ver0 : Ver := ⟨0, false, ⟨#[]⟩⟩

def verE (v : Ver) : List Value := [.int .i64 v.t, .bool v.there, .string v.data]
theorem verE_ok : EncOk verE 3 := ⟨fun _ => rfl, fun x u hu => by simp [verE] at hu; rcases hu with rfl | rfl | rfl <;> rfl, by decide⟩

/-- How many versions have at most this time. -/
def upV (l : List Ver) (t : Int) : Nat := l.countP (fun v => decide (v.t ≤ t))

/-- The version that counts. -/
def newV (l : List Ver) (t : Int) : Ver := if upV l t = 0 then ver0 else l.getD (upV l t - 1) ver0

theorem upV_le (l : List Ver) (t : Int) : upV l t ≤ l.length := List.countP_le_length

def RisV (l : List Ver) : Prop := l.Pairwise (fun a b => a.t < b.t)

/-- In a rising row the first ones have at most this time. -/
theorem upV_take {l : List Ver} (h : RisV l) (t : Int) : l.take (upV l t) = l.filter (fun v => decide (v.t ≤ t)) := by
  induction l with
  | nil => rfl
  | cons a r ih =>
    have h2 := List.pairwise_cons.1 h
    unfold upV
    by_cases e : a.t ≤ t
    · rw [List.countP_cons_of_pos (by simpa using e), List.take_succ_cons, List.filter_cons_of_pos (by simpa using e)]
      congr 1
      exact ih h2.2
    · have hn : ∀ v ∈ r, ¬ (decide (v.t ≤ t) = true) := fun v hv => by have := h2.1 v hv; simp; omega
      rw [List.countP_cons_of_neg (by simpa using e), List.filter_cons_of_neg (by simpa using e), List.countP_eq_zero.2 hn, List.filter_eq_nil_iff.2 hn]
      rfl

theorem upV_lt {l : List Ver} (h : RisV l) (t : Int) (i : Nat) (hi : i < l.length) : i < upV l t ↔ l[i].t ≤ t := by
  induction l generalizing i with
  | nil => simp at hi
  | cons a r ih =>
    have h2 := List.pairwise_cons.1 h
    unfold upV
    by_cases e : a.t ≤ t
    · rw [List.countP_cons_of_pos (by simpa using e)]
      cases i with
      | zero => simp [e]
      | succ i =>
        have := ih h2.2 i (by simpa using hi)
        unfold upV at this
        simp only [List.getElem_cons_succ]
        omega
    · have hn : ∀ v ∈ r, ¬ (decide (v.t ≤ t) = true) := fun v hv => by have := h2.1 v hv; simp; omega
      rw [List.countP_cons_of_neg (by simpa using e), List.countP_eq_zero.2 hn]
      cases i with
      | zero => simp; omega
      | succ i =>
        simp only [List.getElem_cons_succ]
        have hi2 : i < r.length := by simpa using hi
        have := h2.1 r[i] (List.getElem_mem _)
        omega

/-- What sort.Search counts. -/
theorem upV_range {l : List Ver} (h : RisV l) (t : Int) : (List.range l.length).countP (fun i => !decide (t < (l.getD i ver0).t)) = upV l t := by
  have e : ∀ m, m ≤ l.length → (List.range m).countP (fun i => !decide (t < (l.getD i ver0).t)) = min m (upV l t) := by
    intro m
    induction m with
    | zero => intro _; simp
    | succ m ih =>
      intro hm
      have hg : l.getD m ver0 = l[m] := by simp [List.getD, show m < l.length by omega]
      have hl := upV_lt h t m (by omega)
      rw [List.range_succ, List.countP_append, ih (by omega), List.countP_singleton, hg]
      by_cases e : l[m].t ≤ t
      · have := hl.2 e
        rw [if_pos (by simp; omega)]
        omega
      · have : ¬ m < upV l t := fun e2 => e (hl.1 e2)
        rw [if_neg (by simp; omega)]
        omega
  rw [e l.length (Nat.le_refl _)]
  have := upV_le l t
  omega

/-- The last one that has at most this time. -/
theorem newV_filter {l : List Ver} (h : RisV l) (t : Int) : newV l t = ((l.filter (fun v => decide (v.t ≤ t))).getLast?).getD ver0 := by
  rw [← upV_take h t]
  unfold newV
  have hle := upV_le l t
  split
  · rename_i e
    rw [e]
    simp
  · rw [List.getLast?_take]
    rw [if_neg (by assumption), List.getD]
    cases hg : l[upV l t - 1]? with
    | some v => simp
    | none => rw [List.getElem?_eq_none_iff] at hg; omega

/-- A version laid: an earlier one of the same time goes. -/
def putV (l : List Ver) (v : Ver) : List Ver := l.filter (fun x => decide (x.t ≤ v.t - 1)) ++ [v]

/-- What pruning leaves. -/
def pruV (l : List Ver) (f : Int) : List Ver := l.drop (if (newV l f).there then upV l f - 1 else upV l f)

theorem filter_ris {l : List Ver} (h : RisV l) (p : Ver → Bool) : RisV (l.filter p) := List.Pairwise.filter _ h

theorem putV_ris {l : List Ver} (h : RisV l) (v : Ver) : RisV (putV l v) := by
  unfold putV RisV
  rw [List.pairwise_append]
  refine ⟨filter_ris h _, List.pairwise_singleton _ _, fun a ha b hb => ?_⟩
  rw [List.mem_singleton] at hb
  subst hb
  have := (List.mem_filter.1 ha).2
  simp at this
  omega

theorem pruV_ris {l : List Ver} (h : RisV l) (f : Int) : RisV (pruV l f) := List.Pairwise.drop h

theorem putV_len (l : List Ver) (v : Ver) : (putV l v).length ≤ l.length + 1 := by
  unfold putV
  rw [List.length_append]
  have := List.length_filter_le (fun x => decide (x.t ≤ v.t - 1)) l
  simp only [List.length_singleton]
  omega

theorem pruV_len (l : List Ver) (f : Int) : (pruV l f).length ≤ l.length := by
  unfold pruV
  rw [List.length_drop]
  omega

/-- In a row all of whose times are below, a version is laid behind it. -/
theorem putV_mem {l : List Ver} {v x : Ver} (h : x ∈ putV l v) : x = v ∨ (x ∈ l ∧ x.t ≤ v.t - 1) := by
  unfold putV at h
  rcases List.mem_append.1 h with h | h
  · have := List.mem_filter.1 h
    exact .inr ⟨this.1, by simpa using this.2⟩
  · exact .inl (by simpa using h)

theorem pruV_mem {l : List Ver} {f : Int} {x : Ver} (h : x ∈ pruV l f) : x ∈ l := List.mem_of_mem_drop h

/-- What is seen of an entry at a time. -/
def visV (l : List Ver) (t : Int) : Option ByteArray := if (newV l t).there then some (newV l t).data else none

/-- What was laid from v on does not change earlier times. -/
theorem newV_put_old {l : List Ver} (h : RisV l) (v : Ver) (hl : ∀ x ∈ l, x.t ≤ v.t) {t : Int} (ht : t < v.t) : newV (putV l v) t = newV l t := by
  rw [newV_filter (putV_ris h v), newV_filter h]
  congr 2
  unfold putV
  rw [List.filter_append, List.filter_filter, show List.filter (fun v => decide (v.t ≤ t)) [v] = [] from List.filter_eq_nil_iff.2 (fun x hx => by rw [List.mem_singleton] at hx; subst hx; simp; omega), List.append_nil]
  refine List.filter_congr (fun x _ => ?_)
  by_cases e : x.t ≤ t
  · simp [e]; omega
  · simp [e]

theorem newV_put_new {l : List Ver} (h : RisV l) (v : Ver) {t : Int} (ht : v.t ≤ t) : newV (putV l v) t = v := by
  rw [newV_filter (putV_ris h v)]
  unfold putV
  rw [List.filter_append, List.filter_cons_of_pos (by simpa using ht), List.filter_nil, List.getLast?_concat]
  rfl

/-- Pruning changes nothing from the floor on. -/
theorem visV_prune {l : List Ver} (h : RisV l) {f t : Int} (ht : f ≤ t) : visV (pruV l f) t = visV l t := by
  have hle := upV_le l f
  have hmono : upV l f ≤ upV l t := by
    unfold upV
    exact List.countP_mono_left (fun v _ hv => by simp at hv ⊢; omega)
  have hle2 := upV_le l t
  obtain ⟨k, hk⟩ : ∃ k, k = if (newV l f).there then upV l f - 1 else upV l f := ⟨_, rfl⟩
  have hkle : k ≤ upV l f := by rw [hk]; split <;> omega
  have e0 : pruV l f = l.drop k := by unfold pruV; rw [hk]
  have eu : upV (l.drop k) t = upV l t - k := by
    have h1 : (l.take k ++ l.drop k).countP (fun v => decide (v.t ≤ t)) = upV l t := by rw [List.take_append_drop]; rfl
    rw [List.countP_append] at h1
    have h2 : (l.take k).countP (fun v => decide (v.t ≤ t)) = (l.take k).length := by
      rw [List.countP_eq_length]
      intro v hv
      obtain ⟨i, hi, rfl⟩ := List.mem_iff_getElem.1 hv
      rw [List.length_take] at hi
      have := (upV_lt h t i (by omega)).1 (by omega)
      simpa using this
    rw [List.length_take] at h2
    unfold upV at *
    omega
  rw [e0]
  by_cases hkt : k < upV l t
  · have : newV (l.drop k) t = newV l t := by
      unfold newV
      rw [eu, if_neg (by omega), if_neg (by omega)]
      rw [List.getD, List.getD, List.getElem?_drop]
      congr 2
      omega
    unfold visV
    rw [this]
  · have e1 : upV l t = k := by omega
    have e2 : newV (l.drop k) t = ver0 := by unfold newV; rw [eu, if_pos (by omega)]
    have e3 : upV l t = upV l f := by omega
    have e4 : newV l t = newV l f := by unfold newV; rw [e3]
    have e5 : (newV l f).there = false := by
      cases hth : (newV l f).there with
      | false => rfl
      | true =>
        rw [hth] at hk
        simp only [if_true] at hk
        have : upV l f ≠ 0 := by
          intro e
          unfold newV at hth
          rw [if_pos e] at hth
          cases hth
        omega
    unfold visV
    rw [e2, e4, e5]
    rfl

/-- The last one's time. -/
theorem newV_all {l : List Ver} (h : RisV l) {t : Int} (hl : ∀ x ∈ l, x.t ≤ t) : newV l t = l.getLast?.getD ver0 := by
  rw [newV_filter h, List.filter_eq_self.2 (fun x hx => by simpa using hl x hx)]

end Go.Proofs.Ythignkloecfcbaa
