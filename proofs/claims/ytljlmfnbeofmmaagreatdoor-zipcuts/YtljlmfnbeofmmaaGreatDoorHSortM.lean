import Derived.Test.YtljlmfnbeofmmaaGreatDoorHRow
namespace Go.Proofs.YtljlmfnbeofmmaaGreatDoor

def key (ns : List Nat) (s : Nat) : Nat := ns.getD s 0

def Lt (ns : List Nat) (a b : Nat) : Prop := key ns a < key ns b ∨ key ns a = key ns b ∧ a < b

instance (ns : List Nat) (a b : Nat) : Decidable (Lt ns a b) := inferInstanceAs (Decidable (_ ∨ _))

theorem Lt.trans {ns : List Nat} {a b c : Nat} (h : Lt ns a b) (k : Lt ns b c) : Lt ns a c := by
 unfold Lt at *; omega
theorem Lt.irrefl (ns : List Nat) (a : Nat) : ¬ Lt ns a a := by unfold Lt; omega
theorem Lt.asymm {ns : List Nat} {a b : Nat} (h : Lt ns a b) : ¬ Lt ns b a := by unfold Lt at *; omega
theorem Lt.total (ns : List Nat) (a b : Nat) (h : a ≠ b) : Lt ns a b ∨ Lt ns b a := by unfold Lt; omega

theorem Lt.iff_of_gt {ns : List Nat} {x y : Nat} (h : x < y) : Lt ns y x ↔ key ns y < key ns x := by unfold Lt; omega
theorem Lt.of_not {ns : List Nat} {x y : Nat} (h : x < y) (hn : ¬ key ns y < key ns x) : Lt ns x y := by unfold Lt; omega

abbrev Sorted (ns : List Nat) (l : List Nat) : Prop := l.Pairwise (Lt ns)
def Ahead (l r : List Nat) : Prop := ∀ x ∈ l, ∀ y ∈ r, x < y
def AllLt (ns : List Nat) (l r : List Nat) : Prop := ∀ x ∈ l, ∀ y ∈ r, Lt ns x y

theorem Sorted.append {ns l r : List Nat} (hl : Sorted ns l) (hr : Sorted ns r) (h : AllLt ns l r) : Sorted ns (l ++ r) := List.pairwise_append.2 ⟨hl, hr, h⟩
theorem Sorted.left {ns l r : List Nat} (h : Sorted ns (l ++ r)) : Sorted ns l := (List.pairwise_append.1 h).1
theorem Sorted.right {ns l r : List Nat} (h : Sorted ns (l ++ r)) : Sorted ns r := (List.pairwise_append.1 h).2.1
theorem Sorted.cross {ns l r : List Nat} (h : Sorted ns (l ++ r)) : AllLt ns l r := (List.pairwise_append.1 h).2.2

theorem Sorted.eq {ns l r : List Nat} (hl : Sorted ns l) (hr : Sorted ns r) (hp : l.Perm r) : l = r :=
 hp.eq_of_pairwise (fun _ _ _ _ h k => absurd k h.asymm) hl hr

theorem AllLt.perm {ns l l' r r' : List Nat} (h : AllLt ns l r) (hl : l'.Perm l) (hr : r'.Perm r) : AllLt ns l' r' :=
 fun x hx y hy => h x (hl.mem_iff.1 hx) y (hr.mem_iff.1 hy)
theorem Ahead.perm {l l' r r' : List Nat} (h : Ahead l r) (hl : l'.Perm l) (hr : r'.Perm r) : Ahead l' r' :=
 fun x hx y hy => h x (hl.mem_iff.1 hx) y (hr.mem_iff.1 hy)

theorem Ahead.sub {l l' r r' : List Nat} (h : Ahead l r) (hl : ∀ x ∈ l', x ∈ l) (hr : ∀ x ∈ r', x ∈ r) : Ahead l' r' :=
 fun x hx y hy => h x (hl x hx) y (hr y hy)

theorem Sorted.at {ns l : List Nat} (h : Sorted ns l) {i j : Nat} (hij : i < j) (hj : j < l.length) : Lt ns (l[i]'(by omega)) l[j] :=
 List.pairwise_iff_getElem.1 h i j (by omega) hj hij

theorem cross_of {ns A B : List Nat} (i j : Nat) (hA : Sorted ns A) (hB : Sorted ns B) (h1 : i = 0 ∨ B.length ≤ j ∨ ∃ (x : 0 < i ∧ i ≤ A.length ∧ j < B.length), Lt ns (A[i - 1]'(by omega)) (B[j]'(by omega)))
  (h2 : j = 0 ∨ A.length ≤ i ∨ ∃ (x : 0 < j ∧ j ≤ B.length ∧ i < A.length), Lt ns (B[j - 1]'(by omega)) (A[i]'(by omega))) :
  AllLt ns (A.take i ++ B.take j) (A.drop i ++ B.drop j) := by
 have hAA : AllLt ns (A.take i) (A.drop i) := Sorted.cross (by rw [List.take_append_drop]; exact hA)
 have hBB : AllLt ns (B.take j) (B.drop j) := Sorted.cross (by rw [List.take_append_drop]; exact hB)
 have le_last : ∀ (L : List Nat) (n : Nat) (h : Sorted ns L) (hn : 0 < n) (hl : n ≤ L.length) (x : Nat), x ∈ L.take n → x = L[n - 1]'(by omega) ∨ Lt ns x (L[n - 1]'(by omega)) := by
  intro L n h hn hl x hx
  obtain ⟨k, hk, rfl⟩ := List.getElem_of_mem hx
  simp at hk
  rw [List.getElem_take]
  by_cases e : k = n - 1
  ·left; subst e; rfl
  ·right; exact h.at (by omega) (by omega)
 have ge_first : ∀ (L : List Nat) (n : Nat) (h : Sorted ns L) (hn : n < L.length) (x : Nat), x ∈ L.drop n → x = L[n] ∨ Lt ns L[n] x := by
  intro L n h hn x hx
  obtain ⟨k, hk, rfl⟩ := List.getElem_of_mem hx
  simp at hk
  rw [List.getElem_drop]
  by_cases e : k = 0
  ·left; subst e; rfl
  ·right; exact h.at (by omega) (by omega)
 have hAB : AllLt ns (A.take i) (B.drop j) := by
  intro x hx y hy
  rcases h1 with rfl | h | ⟨⟨ha, hb, hc⟩, hlt⟩
  ·simp at hx
  ·rw [List.drop_eq_nil_of_le h] at hy; simp at hy
  ·rcases le_last A i hA ha hb x hx with rfl | h3
   ·rcases ge_first B j hB hc y hy with rfl | h4
    ·exact hlt
    ·exact hlt.trans h4
   ·rcases ge_first B j hB hc y hy with rfl | h4
    ·exact h3.trans hlt
    ·exact (h3.trans hlt).trans h4
 have hBA : AllLt ns (B.take j) (A.drop i) := by
  intro x hx y hy
  rcases h2 with rfl | h | ⟨⟨ha, hb, hc⟩, hlt⟩
  ·simp at hx
  ·rw [List.drop_eq_nil_of_le h] at hy; simp at hy
  ·rcases le_last B j hB ha hb x hx with rfl | h3
   ·rcases ge_first A i hA hc y hy with rfl | h4
    ·exact hlt
    ·exact hlt.trans h4
   ·rcases ge_first A i hA hc y hy with rfl | h4
    ·exact h3.trans hlt
    ·exact (h3.trans hlt).trans h4
 intro x hx y hy
 rcases List.mem_append.1 hx with hx | hx <;> rcases List.mem_append.1 hy with hy | hy
 ·exact hAA x hx y hy
 ·exact hAB x hx y hy
 ·exact hBA x hx y hy
 ·exact hBB x hx y hy

def insS (ns : List Nat) (x : Nat) : List Nat → List Nat
 | [] => [x]
 | y :: r => if Lt ns x y then x :: y :: r else y :: insS ns x r

theorem insS_perm (ns : List Nat) (x : Nat) (l : List Nat) : (insS ns x l).Perm (x :: l) := by
 induction l with
 | nil => exact List.Perm.refl _
 | cons y r ih =>
  unfold insS
  split
  ·exact List.Perm.refl _
  ·exact (ih.cons y).trans (List.Perm.swap x y r)

theorem insS_sorted (ns : List Nat) (x : Nat) (l : List Nat) (h : Sorted ns l) (hx : x ∉ l) : Sorted ns (insS ns x l) := by
 induction l with
 | nil => simp [insS, Sorted]
 | cons y r ih =>
  have hy := List.pairwise_cons.1 h
  unfold insS
  split
  ·rename_i hlt
   refine List.pairwise_cons.2 ⟨fun z hz => ?_, h⟩
   rcases List.mem_cons.1 hz with rfl | hz
   ·exact hlt
   ·exact hlt.trans (hy.1 z hz)
  ·rename_i hlt
   have hne : x ≠ y := fun e => hx (by simp [e])
   have hyx : Lt ns y x := (Lt.total ns x y hne).resolve_left hlt
   refine List.pairwise_cons.2 ⟨fun z hz => ?_, ih hy.2 (fun e => hx (List.mem_cons_of_mem _ e))⟩
   rcases List.mem_cons.1 ((insS_perm ns x r).mem_iff.1 hz) with rfl | hz
   ·exact hyx
   ·exact hy.1 z hz

def usedL (ns : List Nat) : List Nat := (List.range ns.length).filter (fun s => key ns s != 0)

def sortS (ns : List Nat) : List Nat → List Nat
 | [] => []
 | x :: r => insS ns x (sortS ns r)

def ris (ns : List Nat) : List Nat := sortS ns (usedL ns)

theorem sortS_perm (ns l : List Nat) : (sortS ns l).Perm l := by
 induction l with
 | nil => exact List.Perm.refl _
 | cons x r ih => exact (insS_perm ns x _).trans (ih.cons x)

theorem sortS_sorted (ns l : List Nat) (h : l.Nodup) : Sorted ns (sortS ns l) := by
 induction l with
 | nil => exact List.Pairwise.nil
 | cons x r ih =>
  have := List.nodup_cons.1 h
  exact insS_sorted ns x _ (ih this.2) (fun e => this.1 ((sortS_perm ns r).mem_iff.1 e))

theorem usedL_lt (ns : List Nat) : (usedL ns).Pairwise (· < ·) := List.Pairwise.filter _ List.pairwise_lt_range
theorem usedL_nodup (ns : List Nat) : (usedL ns).Nodup := (usedL_lt ns).imp (fun h => Nat.ne_of_lt h)

theorem ris_perm (ns : List Nat) : (ris ns).Perm (usedL ns) := sortS_perm ns _
theorem ris_sorted (ns : List Nat) : Sorted ns (ris ns) := sortS_sorted ns _ (usedL_nodup ns)

theorem ris_eq {ns l : List Nat} (h : Sorted ns l) (hp : l.Perm (usedL ns)) : l = ris ns := h.eq (ris_sorted ns) (hp.trans (ris_perm ns).symm)

theorem mem_usedL {ns : List Nat} {s : Nat} : s ∈ usedL ns ↔ s < ns.length ∧ key ns s ≠ 0 := by simp [usedL]
theorem mem_ris {ns : List Nat} {s : Nat} : s ∈ ris ns ↔ s < ns.length ∧ key ns s ≠ 0 := by rw [(ris_perm ns).mem_iff, mem_usedL]
theorem usedL_length (ns : List Nat) : (usedL ns).length ≤ ns.length := by
 have := List.length_filter_le (fun s => key ns s != 0) (List.range ns.length)
 simpa [usedL] using this
theorem ris_length (ns : List Nat) : (ris ns).length ≤ ns.length := by rw [(ris_perm ns).length_eq]; exact usedL_length ns
theorem ris_nodup (ns : List Nat) : (ris ns).Nodup := (ris_perm ns).nodup_iff.2 (usedL_nodup ns)

theorem key_get {ns : List Nat} {s : Nat} (h : s < ns.length) : key ns s = ns[s] := by simp [key, h]

example : ris [2, 1, 3, 3] = [1, 0, 2, 3] := by decide
example : ris [5, 1, 1, 1] = [1, 2, 3, 0] := by decide

end Go.Proofs.YtljlmfnbeofmmaaGreatDoor
