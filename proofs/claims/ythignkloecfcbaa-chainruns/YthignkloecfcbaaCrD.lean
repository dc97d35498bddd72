/-
  Layer 12, the reference: a row of keys, of which one is written anew; one that sinks.
-/
import Derived.Test.YthignkloecfcbaaCrC
namespace Go.Proofs.Ythignkloecfcbaa
open Go.RowKit Go.Maps Go.Sort

def kyE (k : Ky) : List Value := [.string k.1.tn, .string k.1.ar, .string k.2.s]
theorem kyE_ok : EncOk kyE 3 := ⟨fun _ => rfl, fun x u hu => by simp [kyE] at hu; rcases hu with rfl | rfl | rfl <;> rfl, by decide⟩
theorem Try.infoKy : (Try.prog.info? 36).map (fun i => (i.zero, i.size, i.bytes)) = some (some (.agg #[.string ⟨#[]⟩, .string ⟨#[]⟩, .string ⟨#[]⟩]), 3, 48) := by kernel_rfl

theorem cellsAt_ky (w : World) (k : Ky) : CellsAt (w.alloc (.cells #[.string k.1.tn, .string k.1.ar, .string k.2.s] 36)) ⟨w.heap.size, 0, none⟩ ([k].flatMap kyE) := by
  have hb := Blk.new w #[.string k.1.tn, .string k.1.ar, .string k.2.s] 36
  intro j u hj
  match j, hj with
  | 0, hj => exact (hb.cell 0).trans hj
  | 1, hj => exact (hb.cell 1).trans hj
  | 2, hj => exact (hb.cell 2).trans hj
  | j + 3, hj => simp [kyE] at hj

theorem flat_setK : ∀ (xs : List Ky) (i : Nat) (k : Ky) (_ : i < xs.length), (((xs.flatMap kyE).set (i * 3) (.string k.1.tn)).set (i * 3 + 1) (.string k.1.ar)).set (i * 3 + 2) (.string k.2.s) = (xs.set i k).flatMap kyE
  | [], i, k, hi => by simp at hi
  | x :: xs, 0, k, _ => by simp [kyE]
  | x :: xs, i + 1, k, hi => by
    have h1 := flat_setK xs i k (by simp at hi; omega)
    rw [List.flatMap_cons, List.set_cons_succ, List.flatMap_cons, ← h1]
    have e : (i + 1) * 3 = i * 3 + 1 + 1 + 1 := by omega
    have e1 : (i + 1) * 3 + 1 = (i * 3 + 1) + 1 + 1 + 1 := by omega
    have e2 : (i + 1) * 3 + 2 = (i * 3 + 2) + 1 + 1 + 1 := by omega
    rw [e, show i * 3 + 1 + 1 + 1 + 1 = (i * 3 + 1) + 1 + 1 + 1 by omega, show i * 3 + 1 + 1 + 1 + 2 = (i * 3 + 2) + 1 + 1 + 1 by omega]
    rfl

def setK (w : World) (g i : Nat) (k : Ky) : World := ((w.setCell ⟨g, i * 3, none⟩ (.string k.1.tn)).setCell ⟨g, i * 3 + 1, none⟩ (.string k.1.ar)).setCell ⟨g, i * 3 + 2, none⟩ (.string k.2.s)

theorem setK_kept (w : World) (g i : Nat) (k : Ky) : Kept (fun j => j = g) w (setK w g i k) := (((Kept.refl (fun j => j = g) w).setCell _ _ (.inl rfl)).setCell _ _ (.inl rfl)).setCell _ _ (.inl rfl)

/-- A key written anew. -/
theorem RowC.setK {B : Nat} {w : World} {g n cap : Nat} {xs : List Ky} (h : RowC B 36 3 kyE w (.slice (some ⟨g, 0, none⟩) n cap) xs) (i : Nat) (k : Ky) (hi : i < xs.length) :
    RowC B 36 3 kyE (setK w g i k) (.slice (some ⟨g, 0, none⟩) n cap) (xs.set i k) := by
  have hl := h.len
  subst hl
  have h1 := (World.ownsRow.stored h (i * 3) (.string k.1.tn)).1
  have h2 := (World.ownsRow.stored h1 (i * 3 + 1) (.string k.1.ar)).1
  have h3 := (World.ownsRow.stored h2 (i * 3 + 2) (.string k.2.s)).1
  rw [flat_setK xs i k hi] at h3
  unfold RowC
  rw [List.length_set]
  exact h3

/-- A list in which one sinks. -/
def snk (A : List Ky) (k : Ky) (n : Nat) : List Ky := A.take n ++ k :: A.drop n

theorem snk_len (A : List Ky) (k : Ky) (n : Nat) (h : n ≤ A.length) : (snk A k n).length = A.length + 1 := by
  unfold snk
  rw [List.length_append, List.length_cons, List.length_take, List.length_drop]
  omega

theorem snk_all (A : List Ky) (k : Ky) : snk A k A.length = A ++ [k] := by
  unfold snk
  rw [List.take_length, List.drop_length]

theorem snk_at (A : List Ky) (k : Ky) (n : Nat) (h : n ≤ A.length) : (snk A k n)[n]'(by rw [snk_len A k n h]; omega) = k := by
  unfold snk
  have hl : (A.take n).length = n := by rw [List.length_take]; omega
  rw [List.getElem_append_right (by omega)]
  simp [hl]

theorem snk_before (A : List Ky) (k : Ky) (m : Nat) (h : m < A.length) : (snk A k (m + 1))[m]'(by rw [snk_len A k (m + 1) (by omega)]; omega) = A[m] := by
  unfold snk
  have hl : (A.take (m + 1)).length = m + 1 := by rw [List.length_take]; omega
  rw [List.getElem_append_left (by omega), List.getElem_take]

theorem snk_swap (A : List Ky) (k : Ky) (m : Nat) (h : m < A.length) : ((snk A k (m + 1)).set (m + 1) A[m]).set m k = snk A k m := by
  unfold snk
  have hl : (A.take m).length = m := by rw [List.length_take]; omega
  have hl1 : (A.take (m + 1)).length = m + 1 := by rw [List.length_take]; omega
  rw [List.set_append_right _ _ (by omega), hl1, Nat.sub_self, List.set_cons_zero, List.take_succ_eq_append_getElem h, List.append_assoc, List.set_append_right _ _ (by omega), hl, Nat.sub_self, List.drop_eq_getElem_cons h]
  rfl

theorem snk_mem (A : List Ky) (k : Ky) (n : Nat) (x : Ky) : x ∈ snk A k n ↔ x = k ∨ x ∈ A := by
  unfold snk
  rw [List.mem_append, List.mem_cons]
  have h := List.take_append_drop n A
  constructor
  · rintro (e | e | e)
    · exact .inr (List.mem_of_mem_take e)
    · exact .inl e
    · exact .inr (List.mem_of_mem_drop e)
  · rintro (e | e)
    · exact .inr (.inl e)
    · rw [← h] at e
      rcases List.mem_append.1 e with e | e
      · exact .inl e
      · exact .inr (.inr e)

theorem snk_ris {A : List Ky} (hA : A.Pairwise ltK12) {k : Ky} (hk : k ∉ A) {n : Nat} (hn : n ≤ A.length) (hd : ∀ x ∈ A.drop n, ltK12 k x) (hs : ∀ m (e : n = m + 1), ¬ ltK12 k (A[m]'(by omega))) : (snk A k n).Pairwise ltK12 := by
  unfold snk
  have hsp := List.take_append_drop n A
  have hA2 := hA
  rw [← hsp] at hA2
  obtain ⟨p1, p2, p3⟩ := List.pairwise_append.1 hA2
  refine List.pairwise_append.2 ⟨p1, List.pairwise_cons.2 ⟨hd, p2⟩, fun x hx y hy => ?_⟩
  rcases List.mem_cons.1 hy with rfl | e
  · cases n with
    | zero => simp at hx
    | succ m =>
      have h0 := hs m rfl
      have h1 : ltK12 (A[m]'(by omega)) y := by
        rcases ltK12_tri y (A[m]'(by omega)) with q | q | q
        · exact absurd q h0
        · exact absurd (by rw [q]; exact List.getElem_mem _) hk
        · exact q
      rw [List.take_succ_eq_append_getElem (by omega)] at hx p1
      rcases List.mem_append.1 hx with e | e
      · exact ltK12_trans ((List.pairwise_append.1 p1).2.2 x e _ (List.mem_singleton.2 rfl)) h1
      · rw [List.mem_singleton.1 e]; exact h1
  · exact p3 x hx y e

/-- The keys of the first versions that are there. -/
structure KyI (L : List Lv) (T : Int) (i : Nat) (ks : List Ky) : Prop where
  ris : ks.Pairwise ltK12
  mem : ∀ k : Ky, k ∈ ks ↔ isTh (ofK L k.1 k.2) T = true ∧ ∃ j, ∃ hj : j < L.length, j < i ∧ (L[j].b, L[j].n) = k
  len : ks.length ≤ i

theorem KyI.skip {L : List Lv} {T : Int} {i : Nat} {ks : List Ky} (h : KyI L T i ks) (hi : i < L.length) (hn : isTh (ofK L L[i].b L[i].n) T = false ∨ (L[i].b, L[i].n) ∈ ks) : KyI L T (i + 1) ks := by
  refine ⟨h.ris, fun k => ?_, by have := h.len; omega⟩
  rw [h.mem k]
  constructor
  · rintro ⟨h1, j, hj, h2, h3⟩
    exact ⟨h1, j, hj, by omega, h3⟩
  · rintro ⟨h1, j, hj, h2, h3⟩
    rcases Nat.lt_or_ge j i with e | e
    · exact ⟨h1, j, hj, e, h3⟩
    · obtain rfl : j = i := by omega
      subst h3
      rcases hn with e2 | e2
      · rw [e2] at h1; cases h1
      · exact (h.mem _).1 e2

theorem KyI.add {L : List Lv} {T : Int} {i : Nat} {ks ks' : List Ky} (h : KyI L T i ks) (hi : i < L.length) (hn : isTh (ofK L L[i].b L[i].n) T = true) (hr : ks'.Pairwise ltK12) (hm : ∀ x, x ∈ ks' ↔ x = (L[i].b, L[i].n) ∨ x ∈ ks) (hl : ks'.length = ks.length + 1) : KyI L T (i + 1) ks' := by
  refine ⟨hr, fun k => ?_, by have := h.len; omega⟩
  rw [hm k, h.mem k]
  constructor
  · rintro (e | ⟨h1, j, hj, h2, h3⟩)
    · subst e
      exact ⟨hn, i, hi, by omega, rfl⟩
    · exact ⟨h1, j, hj, by omega, h3⟩
  · rintro ⟨h1, j, hj, h2, h3⟩
    rcases Nat.lt_or_ge j i with e | e
    · exact .inr ⟨h1, j, hj, e, h3⟩
    · obtain rfl : j = i := by omega
      exact .inl h3.symm

theorem KyI.all {L : List Lv} {T : Int} {ks : List Ky} (h : KyI L T L.length ks) (k : Ky) : k ∈ ks ↔ isTh (ofK L k.1 k.2) T = true := by
  rw [h.mem k]
  refine ⟨fun e => e.1, fun e => ⟨e, ?_⟩⟩
  have hne : ofK L k.1 k.2 ≠ [] := fun e2 => by rw [e2] at e; cases e
  obtain ⟨x, hx⟩ := List.exists_mem_of_ne_nil _ hne
  obtain ⟨j, hj, e1, _⟩ := mem_ofK.1 hx
  obtain ⟨e2, e3⟩ := of_decide_eq_true e1
  exact ⟨j, hj, hj, by rw [e2, e3]⟩

end Go.Proofs.Ythignkloecfcbaa
