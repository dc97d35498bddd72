/-
  Rows of some cells an element: read, written, appended to.
-/
import Derived.Test.YtaefgnakdadgeaaHRow
import Derived.Test.YtaefgnakdadgeaaOwn2
namespace Go.Proofs.Ytaefgnakdadgeaa
open Go.RowKit

/-- An element's cells: so many, each of one cell. -/
structure EncOk {α : Type} (enc : α → List Value) (k : Nat) : Prop where
  len : ∀ x, (enc x).length = k
  one : ∀ x, ∀ u ∈ enc x, u.oneCell' = true
  pos : 0 < k

theorem flat_length {α : Type} {enc : α → List Value} {k : Nat} (h : EncOk enc k) (xs : List α) : (xs.flatMap enc).length = xs.length * k := by
  induction xs with
  | nil => simp
  | cons a r ih => rw [List.flatMap_cons, List.length_append, ih, h.len, List.length_cons, Nat.succ_mul]; omega

theorem flat_get {α : Type} {enc : α → List Value} {k : Nat} (h : EncOk enc k) (xs : List α) (j i : Nat) (hj : j < xs.length) (hi : i < k) : (xs.flatMap enc)[j * k + i]? = (enc xs[j])[i]? := by
  induction xs generalizing j with
  | nil => simp at hj
  | cons a r ih =>
    rw [List.flatMap_cons]
    cases j with
    | zero =>
      rw [Nat.zero_mul, Nat.zero_add, List.getElem?_append_left (by rw [h.len]; exact hi)]
      rfl
    | succ j =>
      rw [List.getElem?_append_right (by rw [h.len, Nat.succ_mul]; omega), h.len, show (j + 1) * k + i - k = j * k + i by rw [Nat.succ_mul]; omega, ih j (by simpa using hj)]
      rfl

theorem flat_one {α : Type} {enc : α → List Value} {k : Nat} (h : EncOk enc k) (xs : List α) : ∀ u ∈ xs.flatMap enc, u.oneCell' = true := by
  intro u hu
  obtain ⟨x, _, hx⟩ := List.mem_flatMap.1 hu
  exact h.one x u hx

/-- A slice at the head of a row of its own, which lies at block B or beyond. -/
abbrev RowC {α : Type} (B : Nat) (t : TypeId) (k : Nat) (enc : α → List Value) (w : World) (v : Value) (xs : List α) : Prop := w.ownsRow B t k v xs.length (xs.flatMap enc)

/-- A slice that can be read; its block fits I. -/
def SrcC {α : Type} (k : Nat) (enc : α → List Value) (w : World) (I : Nat → Prop) (v : Value) (xs : List α) : Prop :=
  ∃ ao cap, v = .slice ao xs.length cap ∧ xs.length ≤ cap ∧ (xs ≠ [] → ∃ b o, ao = Option.some ⟨b, o, none⟩ ∧ I b ∧ ∀ j (_ : j < xs.length) i (_ : i < k), w.cell? ⟨b, o + (j * k + i), none⟩ = (enc xs[j])[i]?)

section
variable {α : Type} {B : Nat} {t k : Nat} {enc : α → List Value} {w : World} {v : Value} {xs : List α}

theorem RowC.kept {F : Nat → Prop} {w' : World} (h : RowC B t k enc w v xs) (hk : Kept F w w') (hn : ∀ j, v.ownBlock = some j → ¬ F j) : RowC B t k enc w' v xs := by
  refine ⟨h.1, ?_⟩
  rcases h.2 with hn' | ⟨g, cap, cur, rfl, hb, hgg, rest⟩
  · exact .inl hn'
  · refine .inr ⟨g, cap, cur, rfl, hb, ?_, rest⟩
    rw [hk.block g (Array.getElem?_eq_some_iff.1 hgg).1 (hn g rfl)]
    exact hgg

theorem RowC.base {B' : Nat} (h : RowC B t k enc w v xs) (hb : B' ≤ B) : RowC B' t k enc w v xs := by
  refine ⟨h.1, ?_⟩
  rcases h.2 with hn' | ⟨g, cap, cur, rfl, hb', rest⟩
  · exact .inl hn'
  · exact .inr ⟨g, cap, cur, rfl, Nat.le_trans hb hb', rest⟩

theorem RowC.nil : RowC B t k enc w (.slice none 0 0) ([] : List α) := World.ownsRow_nil w B t k

theorem RowC.lt (h : RowC B t k enc w v xs) {j : Nat} (hj : v.ownBlock = some j) : j < w.heap.size := (World.ownsRow.lt h j hj).2
theorem RowC.ge (h : RowC B t k enc w v xs) {j : Nat} (hj : v.ownBlock = some j) : B ≤ j := (World.ownsRow.lt h j hj).1

theorem RowC.shape (h : RowC B t k enc w v xs) : ∃ ao cap, v = .slice ao xs.length cap ∧ (xs ≠ [] → ∃ g, ao = some ⟨g, 0, none⟩) ∧ (ao = none → cap = 0) ∧ xs.length ≤ cap ∧ cap ≤ maxLen := by
  rcases h.2 with ⟨rfl, hn⟩ | ⟨g, cap, cur, rfl, _, _, h1, h2, _⟩
  · exact ⟨none, 0, by rw [hn], fun hb => absurd (List.eq_nil_of_length_eq_zero hn) hb, fun _ => rfl, by omega, by omega⟩
  · exact ⟨_, cap, rfl, fun _ => ⟨g, rfl⟩, (fun e => by cases e), h1, h2⟩

theorem RowC.len {g n cap : Nat} (h : RowC B t k enc w (.slice (Option.some ⟨g, 0, none⟩) n cap) xs) : xs.length = n := by
  rcases h.2 with ⟨e, _⟩ | ⟨_, _, _, e, _⟩
  · simp at e
  · injection e with _ e _; exact e.symm

theorem RowC.cell {g n cap : Nat} (ok : EncOk enc k) (h : RowC B t k enc w (.slice (Option.some ⟨g, 0, none⟩) n cap) xs) (j i : Nat) (hj : j < xs.length) (hi : i < k) : w.cell? ⟨g, j * k + i, none⟩ = (enc xs[j])[i]? := by
  have hl := h.len
  subst hl
  have hlt : j * k + i < xs.length * k := by
    have : (j + 1) * k ≤ xs.length * k := Nat.mul_le_mul_right k hj
    rw [Nat.succ_mul] at this
    omega
  rw [h.cellAt (j * k + i) hlt, flat_get ok xs j i hj hi]

theorem RowC.frozen {g n cap : Nat} (h : RowC B t k enc w (.slice (Option.some ⟨g, 0, none⟩) n cap) xs) (j : Nat) : w.frozen? ⟨g, j, none⟩ = false := by
  have hl := h.len
  subst hl
  exact World.ownsRow.frozenAt h j

theorem SrcC.ofRow (ok : EncOk enc k) (h : RowC B t k enc w v xs) : SrcC k enc w (fun j => v.ownBlock = Option.some j) v xs := by
  obtain ⟨ao, cap, hv, hg, _, hc, _⟩ := h.shape
  refine ⟨ao, cap, hv, hc, fun hne => ?_⟩
  obtain ⟨g, hg⟩ := hg hne
  subst hg hv
  refine ⟨g, 0, rfl, rfl, fun j hj i hi => ?_⟩
  rw [Nat.zero_add]
  exact RowC.cell ok h j i hj hi

theorem SrcC.mono {I J : Nat → Prop} (h : SrcC k enc w I v xs) (hJ : ∀ j, I j → J j) : SrcC k enc w J v xs := by
  obtain ⟨ao, cap, hv, hcap, hc⟩ := h
  refine ⟨ao, cap, hv, hcap, fun hne => ?_⟩
  obtain ⟨b, o, h1, h2, h3⟩ := hc hne
  exact ⟨b, o, h1, hJ b h2, h3⟩

theorem SrcC.block (ok : EncOk enc k) {I : Nat → Prop} (h : SrcC k enc w I v xs) (hne : xs ≠ []) : ∃ b o cap, v = .slice (Option.some ⟨b, o, none⟩) xs.length cap ∧ I b ∧ b < w.heap.size := by
  obtain ⟨ao, cap, hv, hcap, hc⟩ := h
  obtain ⟨b, o, rfl, h2, h3⟩ := hc hne
  have hlen : 0 < xs.length := List.length_pos_iff.2 hne
  have hc := h3 0 hlen 0 ok.pos
  have hl := ok.len xs[0]
  have hp := ok.pos
  rw [List.getElem?_eq_getElem (by omega)] at hc
  exact ⟨b, o, cap, hv, h2, World.block_lt_of_cell? w _ hc⟩

theorem SrcC.kept (ok : EncOk enc k) {F I : Nat → Prop} {w' : World} (h : SrcC k enc w I v xs) (hk : Kept F w w') (hn : ∀ j, I j → j < w.heap.size → ¬ F j) : SrcC k enc w' I v xs := by
  obtain ⟨ao, cap, hv, hcap, hc⟩ := h
  refine ⟨ao, cap, hv, hcap, fun hne => ?_⟩
  obtain ⟨b, o, h1, h2, h3⟩ := hc hne
  refine ⟨b, o, h1, h2, fun j hj i hi => ?_⟩
  have hc := h3 j hj i hi
  have hl := ok.len xs[j]
  rw [List.getElem?_eq_getElem (by omega)] at hc ⊢
  exact hk.cell hc (hn b h2 (World.block_lt_of_cell? w _ hc))

theorem SrcC.low (ok : EncOk enc k) {I : Nat → Prop} (h : SrcC k enc w I v xs) : SrcC k enc w (fun j => I j ∧ j < w.heap.size) v xs := by
  obtain ⟨ao, cap, hv, hcap, hc⟩ := h
  refine ⟨ao, cap, hv, hcap, fun hne => ?_⟩
  obtain ⟨b, o, h1, h2, h3⟩ := hc hne
  have hlen : 0 < xs.length := List.length_pos_iff.2 hne
  have hc0 := h3 0 hlen 0 ok.pos
  have hl := ok.len xs[0]
  have hp := ok.pos
  rw [List.getElem?_eq_getElem (by omega)] at hc0
  exact ⟨b, o, h1, ⟨h2, World.block_lt_of_cell? w _ hc0⟩, h3⟩

end

/-- append of such cells onto a row of one's own. -/
theorem wpList_append_c {α : Type} {ops : Array Oper} {rest : List Oper} {o : Oper} {a : Act} {Q : Exit → Act → World → Prop} (w : World) (enc : α → List Value) (k : Nat) (ok : EncOk enc k) (_hk : k ≤ 100) (B sT eT : Nat) (z : Value) (bytes : Nat)
    (hU : Try.prog.underlying sT = some (.slice eT)) (hI : (Try.prog.info? eT).map (fun i => (i.zero, i.size, i.bytes)) = some (some z, k, bytes)) (hz : z.cells.size = k) (hby : bytes ≤ 1000) (hgd : o.guard = none) (s x : Operand)
    (ho : o.op = .call { callee := .builtin .append, args := #[s, x], argTypes := #[sT, sT] })
    (v : Value) (xs : List α) (hs : a.eval s = v) (hrow : RowC B eT k enc w v xs) (ad : Addr) (m c : Nat) (cs : List α) (hx : a.eval x = .slice (some ad) m c) (hm : cs.length = m) (hcs : CellsAt w ad (cs.flatMap enc)) (hlen : xs.length + cs.length ≤ 1000000000) (hB : B ≤ w.heap.size)
    (h : ∀ v' w', RowC B eT k enc w' v' (xs ++ cs) → w.grownBy w' v.ownBlock → wpList Try.prog ops Q rest (a.put o.dst v') w') : wpList Try.prog ops Q (o :: rest) a w := by
  subst hm
  obtain ⟨i0, hi, hz0, hz1, hz2⟩ := info_parts hI
  have hmul : (xs.length + cs.length) * bytes ≤ 1000000000 * 1000 := Nat.mul_le_mul hlen hby
  refine wpList_append_own w hgd s x sT ho B eT i0 z k bytes hU hi hz0 hz1 hz2 hz ok.pos v xs.length (xs.flatMap enc) hs hrow ad cs.length c (cs.flatMap enc) hx (flat_length ok cs) hcs (flat_one ok cs) (by simp only [maxLen]; omega) (by omega) hB ?_
  intro v' w' h1 h2 _
  refine h v' w' ?_ h2
  unfold RowC
  rw [List.length_append, List.flatMap_append]
  exact h1

end Go.Proofs.Ytaefgnakdadgeaa
