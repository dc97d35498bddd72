/-
  Rows of one cell an element, whatever the element's type: read, written, appended to.
-/
import Derived.Test.YtaefgnakdadgeaaOwn2
namespace Go.Proofs.Ytaefgnakdadgeaa
open Go.RowKit

theorem hid {p : Prop} (h : p) : Hid p := h

/-- An int's cell, a natural number's, a uint32's. -/
def intV (z : Int) : Value := .int .i64 z
def natV (n : Nat) : Value := .int .i64 (n : Int)
def wordV (n : Nat) : Value := .int .u32 (n : Int)

theorem intV_one (l : List Int) : ∀ u ∈ l.map intV, u.oneCell' = true := by
  intro u hu; obtain ⟨b, _, rfl⟩ := List.mem_map.1 hu; rfl
theorem natV_one (l : List Nat) : ∀ u ∈ l.map natV, u.oneCell' = true := by
  intro u hu; obtain ⟨b, _, rfl⟩ := List.mem_map.1 hu; rfl
theorem wordV_one (l : List Nat) : ∀ u ∈ l.map wordV, u.oneCell' = true := by
  intro u hu; obtain ⟨b, _, rfl⟩ := List.mem_map.1 hu; rfl

/-- A slice's cell. -/
def slV (x : Option Addr × Nat × Nat) : Value := .slice x.1 x.2.1 x.2.2
theorem slV_one (l : List (Option Addr × Nat × Nat)) : ∀ u ∈ l.map slV, u.oneCell' = true := by
  intro u hu; obtain ⟨b, _, rfl⟩ := List.mem_map.1 hu; rfl

/-- A slice at the head of a row of its own, which lies at block B or beyond. -/
abbrev RowE {α : Type} (B : Nat) (t : TypeId) (enc : α → Value) (w : World) (v : Value) (xs : List α) : Prop := w.ownsRow B t 1 v xs.length (xs.map enc)

section
variable {α : Type} {B : Nat} {t : TypeId} {enc : α → Value} {w : World} {v : Value} {xs : List α}

theorem RowE.kept {F : Nat → Prop} {w' : World} (h : RowE B t enc w v xs) (hk : Kept F w w') (hn : ∀ k, v.ownBlock = some k → ¬ F k) : RowE B t enc w' v xs := by
  refine ⟨h.1, ?_⟩
  rcases h.2 with hn' | ⟨g, cap, cur, rfl, hb, hgg, rest⟩
  · exact .inl hn'
  · refine .inr ⟨g, cap, cur, rfl, hb, ?_, rest⟩
    rw [hk.block g (Array.getElem?_eq_some_iff.1 hgg).1 (hn g rfl)]
    exact hgg

theorem RowE.base {B' : Nat} (h : RowE B t enc w v xs) (hb : B' ≤ B) : RowE B' t enc w v xs := by
  refine ⟨h.1, ?_⟩
  rcases h.2 with hn' | ⟨g, cap, cur, rfl, hb', rest⟩
  · exact .inl hn'
  · exact .inr ⟨g, cap, cur, rfl, Nat.le_trans hb hb', rest⟩

theorem RowE.drewN (k : Nat) (h : RowE B t enc w v xs) : RowE B t enc (w.drewN k) v xs := h

theorem RowE.nil : RowE B t enc w (.slice none 0 0) ([] : List α) := World.ownsRow_nil w B t 1

theorem RowE.lt (h : RowE B t enc w v xs) {k : Nat} (hk : v.ownBlock = some k) : k < w.heap.size := (World.ownsRow.lt h k hk).2
theorem RowE.ge (h : RowE B t enc w v xs) {k : Nat} (hk : v.ownBlock = some k) : B ≤ k := (World.ownsRow.lt h k hk).1

theorem RowE.shape (h : RowE B t enc w v xs) : ∃ ao cap, v = .slice ao xs.length cap ∧ (xs ≠ [] → ∃ g, ao = some ⟨g, 0, none⟩) ∧ (ao = none → cap = 0) ∧ xs.length ≤ cap ∧ cap ≤ maxLen := by
  rcases h.2 with ⟨rfl, hn⟩ | ⟨g, cap, cur, rfl, _, _, h1, h2, _⟩
  · exact ⟨none, 0, by rw [hn], fun hb => absurd (List.eq_nil_of_length_eq_zero hn) hb, fun _ => rfl, by omega, by omega⟩
  · exact ⟨_, cap, rfl, fun _ => ⟨g, rfl⟩, (fun e => by cases e), h1, h2⟩

/-- A row with something in it. -/
theorem RowE.some (h : RowE B t enc w v xs) (hn : xs ≠ []) : ∃ g cap, v = .slice (some ⟨g, 0, none⟩) xs.length cap ∧ B ≤ g ∧ g < w.heap.size ∧ xs.length ≤ cap := by
  obtain ⟨ao, cap, rfl, h1, _, h2, _⟩ := h.shape
  obtain ⟨g, rfl⟩ := h1 hn
  exact ⟨g, cap, rfl, h.ge rfl, h.lt rfl, h2⟩

theorem RowE.len {g n cap : Nat} (h : RowE B t enc w (.slice (Option.some ⟨g, 0, none⟩) n cap) xs) : xs.length = n := by
  rcases h.2 with ⟨e, _⟩ | ⟨_, _, _, e, _⟩
  · simp at e
  · injection e with _ e _; exact e.symm

theorem RowE.cell {g n cap : Nat} (h : RowE B t enc w (.slice (Option.some ⟨g, 0, none⟩) n cap) xs) (j : Nat) (hj : j < xs.length) : w.cell? ⟨g, j, none⟩ = Option.some (enc xs[j]) := by
  have hl := h.len
  subst hl
  rw [h.cellAt j (by omega)]
  simp [hj]

theorem RowE.frozen {g n cap : Nat} (h : RowE B t enc w (.slice (Option.some ⟨g, 0, none⟩) n cap) xs) (j : Nat) : w.frozen? ⟨g, j, none⟩ = false := by
  have hl := h.len
  subst hl
  exact World.ownsRow.frozenAt h j

theorem RowE.lay {g n cap : Nat} (h : RowE B t enc w (.slice (Option.some ⟨g, 0, none⟩) n cap) xs) (j : Nat) (x : α) : RowE B t enc (w.setCell ⟨g, j, none⟩ (enc x)) (.slice (Option.some ⟨g, 0, none⟩) n cap) (xs.set j x) := by
  have hl := h.len
  subst hl
  have := (World.ownsRow.stored h j (enc x)).1
  rw [← List.map_set] at this
  unfold RowE
  rw [List.length_set]
  exact this

theorem RowE.cut {g n cap : Nat} {ys : List α} (h : RowE B t enc w (.slice (Option.some ⟨g, 0, none⟩) n cap) (xs ++ ys)) : RowE B t enc w (.slice (Option.some ⟨g, 0, none⟩) xs.length cap) xs := by
  rcases h.2 with ⟨h', _⟩ | ⟨g', cap', cur, h', hb, hgg, hnc, hcm, hcs, htake⟩
  · simp at h'
  · simp only [Value.slice.injEq, Option.some.injEq, Addr.mk.injEq, and_true] at h'
    obtain ⟨rfl, rfl, rfl⟩ := h'
    refine ⟨by simp, .inr ⟨g, cap, cur, rfl, hb, hgg, ?_, hcm, hcs, ?_⟩⟩
    · simp at hnc; omega
    · simp only [Nat.mul_one, List.length_append] at htake ⊢
      have e : List.take xs.length cur.toList = List.take xs.length (List.take (xs.length + ys.length) cur.toList) := by rw [List.take_take]; congr 1; omega
      rw [e, htake, List.map_append, List.take_append, List.take_of_length_le (by simp)]
      simp

theorem RowE.recode {β : Type} {enc' : β → Value} {ys : List β} (h : RowE B t enc w v xs) (e : ys.map enc' = xs.map enc) : RowE B t enc' w v ys := by
  have hl : ys.length = xs.length := by have := congrArg List.length e; simpa using this
  unfold RowE
  rw [hl, e]
  exact h

/-- A slice that can be read; its block fits I. -/
def SrcE (enc : α → Value) (w : World) (I : Nat → Prop) (v : Value) (xs : List α) : Prop :=
  ∃ ao cap, v = .slice ao xs.length cap ∧ xs.length ≤ cap ∧ (xs ≠ [] → ∃ b o, ao = Option.some ⟨b, o, none⟩ ∧ I b ∧ ∀ j (_ : j < xs.length), w.cell? ⟨b, o + j, none⟩ = Option.some (enc xs[j]))

theorem SrcE.ofRow (h : RowE B t enc w v xs) : SrcE enc w (fun k => v.ownBlock = Option.some k) v xs := by
  obtain ⟨ao, cap, hv, hg, _, hc, _⟩ := h.shape
  refine ⟨ao, cap, hv, hc, fun hne => ?_⟩
  obtain ⟨g, hg⟩ := hg hne
  subst hg hv
  refine ⟨g, 0, rfl, rfl, fun j hj => ?_⟩
  rw [Nat.zero_add]
  exact RowE.cell h j hj

theorem SrcE.mono {I J : Nat → Prop} (h : SrcE enc w I v xs) (hJ : ∀ k, I k → J k) : SrcE enc w J v xs := by
  obtain ⟨ao, cap, hv, hcap, hc⟩ := h
  refine ⟨ao, cap, hv, hcap, fun hne => ?_⟩
  obtain ⟨b, o, h1, h2, h3⟩ := hc hne
  exact ⟨b, o, h1, hJ b h2, h3⟩

theorem SrcE.kept {F I : Nat → Prop} {w' : World} (h : SrcE enc w I v xs) (hk : Kept F w w') (hn : ∀ k, I k → k < w.heap.size → ¬ F k) : SrcE enc w' I v xs := by
  obtain ⟨ao, cap, hv, hcap, hc⟩ := h
  refine ⟨ao, cap, hv, hcap, fun hne => ?_⟩
  obtain ⟨b, o, h1, h2, h3⟩ := hc hne
  have hlen : 0 < xs.length := List.length_pos_iff.2 hne
  have hb : b < w.heap.size := World.block_lt_of_cell? w _ (h3 0 hlen)
  exact ⟨b, o, h1, h2, fun j hj => hk.cell (h3 j hj) (hn b h2 hb)⟩

theorem SrcE.low {I : Nat → Prop} (h : SrcE enc w I v xs) : SrcE enc w (fun k => I k ∧ k < w.heap.size) v xs := by
  obtain ⟨ao, cap, hv, hcap, hc⟩ := h
  refine ⟨ao, cap, hv, hcap, fun hne => ?_⟩
  obtain ⟨b, o, h1, h2, h3⟩ := hc hne
  have hlen : 0 < xs.length := List.length_pos_iff.2 hne
  exact ⟨b, o, h1, ⟨h2, World.block_lt_of_cell? w _ (h3 0 hlen)⟩, h3⟩

theorem SrcE.recode {β : Type} {enc' : β → Value} {ys : List β} {I : Nat → Prop} (h : SrcE enc w I v xs) (e : ys.map enc' = xs.map enc) : SrcE enc' w I v ys := by
  have hl : ys.length = xs.length := by have := congrArg List.length e; simpa using this
  obtain ⟨ao, cap, hv, hcap, hc⟩ := h
  refine ⟨ao, cap, by rw [hl]; exact hv, by omega, fun hne => ?_⟩
  obtain ⟨b, o, h1, h2, h3⟩ := hc (by intro e0; subst e0; simp at hl; exact hne hl)
  refine ⟨b, o, h1, h2, fun j hj => ?_⟩
  rw [h3 j (by omega)]
  have e1 : (ys.map enc')[j]? = (xs.map enc)[j]? := by rw [e]
  rw [List.getElem?_map, List.getElem?_map, List.getElem?_eq_getElem hj, List.getElem?_eq_getElem (by omega)] at e1
  simpa using e1.symm

/-- One cell of a source. -/
theorem SrcE.get {I : Nat → Prop} (h : SrcE enc w I v xs) (j : Nat) (hj : j < xs.length) : ∃ b o cap, v = .slice (Option.some ⟨b, o, none⟩) xs.length cap ∧ I b ∧ b < w.heap.size ∧ w.cell? ⟨b, o + j, none⟩ = Option.some (enc xs[j]) := by
  obtain ⟨ao, cap, hv, hcap, hc⟩ := h
  obtain ⟨b, o, rfl, h2, h3⟩ := hc (by intro e; subst e; simp at hj)
  exact ⟨b, o, cap, hv, h2, World.block_lt_of_cell? w _ (h3 j hj), h3 j hj⟩

end

/-- The cells that lie behind a slice's address. -/
def CellsAt (w : World) (a : Addr) (cs : List Value) : Prop := ∀ j u, cs[j]? = some u → w.cell? (a.add j) = some u

theorem cellsAt_new (w : World) (t : TypeId) (u : Value) : CellsAt (w.alloc (.cells #[u] t)) ⟨w.heap.size, 0, none⟩ [u] := by
  intro j x hx
  match j, hx with
  | 0, hx => simp at hx; subst hx; simp [addAt]

theorem SrcE.at {α : Type} {enc : α → Value} {w : World} {I : Nat → Prop} {ao : Option Addr} {n cap : Nat} {cs : List α} (h : SrcE enc w I (.slice ao n cap) cs) : n = cs.length ∧ (cs ≠ [] → ∃ a, ao = some a ∧ CellsAt w a (cs.map enc)) := by
  obtain ⟨ao', cap', hv, _, hc⟩ := h
  injection hv with h1 h2 h3
  subst h1
  refine ⟨h2, fun hne => ?_⟩
  obtain ⟨b, o, h4, _, h6⟩ := hc hne
  refine ⟨_, h4, fun j u hu => ?_⟩
  obtain ⟨hj, hu⟩ := List.getElem?_eq_some_iff.1 hu
  rw [addAt, h6 j (by simpa using hj), ← hu]
  simp

/-- append onto a row of one's own. -/
theorem wpList_append_e {α : Type} {ops : Array Oper} {rest : List Oper} {o : Oper} {a : Act} {Q : Exit → Act → World → Prop} (w : World) (enc : α → Value) (hone : ∀ (l : List α), ∀ u ∈ l.map enc, u.oneCell' = true) (B sT eT : Nat) (z : Value) (bytes : Nat)
    (hU : Try.prog.underlying sT = some (.slice eT)) (hI : (Try.prog.info? eT).map (fun i => (i.zero, i.size, i.bytes)) = some (some z, 1, bytes)) (hz : z.cells.size = 1) (hby : bytes ≤ 24) (hgd : o.guard = none) (s x : Operand)
    (ho : o.op = .call { callee := .builtin .append, args := #[s, x], argTypes := #[sT, sT] })
    (v : Value) (xs : List α) (hs : a.eval s = v) (hrow : RowE B eT enc w v xs) (ad : Addr) (m c : Nat) (cs : List α) (hx : a.eval x = .slice (some ad) m c) (hm : cs.length = m) (hcs : CellsAt w ad (cs.map enc)) (hlen : xs.length + cs.length ≤ 1000000000) (hB : B ≤ w.heap.size)
    (h : ∀ v' w', RowE B eT enc w' v' (xs ++ cs) → w.grownBy w' v.ownBlock → wpList Try.prog ops Q rest (a.put o.dst v') w') : wpList Try.prog ops Q (o :: rest) a w := by
  subst hm
  obtain ⟨i0, hi, hz0, hz1, hz2⟩ := info_parts hI
  have hmul : (xs.length + cs.length) * bytes ≤ 1000000000 * 24 := Nat.mul_le_mul hlen hby
  refine wpList_append_own w hgd s x sT ho B eT i0 z 1 bytes hU hi hz0 hz1 hz2 hz (by decide) v xs.length (xs.map enc) hs hrow ad cs.length c (cs.map enc) hx (by simp) hcs (hone _) (by simp only [maxLen]; omega) (by omega) hB ?_
  intro v' w' h1 h2 _
  refine h v' w' ?_ h2
  unfold RowE
  rw [List.length_append, List.map_append]
  exact h1

/-- make of a row. -/
theorem wpList_make_e {α : Type} {ops : Array Oper} {rest : List Oper} {o : Oper} {a : Act} {Q : Exit → Act → World → Prop} (w : World) (enc : α → Value) (x0 : α) (B sT eT : Nat) (bytes : Nat)
    (hU : Try.prog.underlying sT = some (.slice eT)) (hI : (Try.prog.info? eT).map (fun i => (i.zero, i.size, i.bytes)) = some (some (enc x0), 1, bytes)) (hz : (enc x0).cells = #[enc x0]) (hby : bytes ≤ 24)
    (hg : o.guard = none) (l c : Operand) (hop : o.op = Op.makeSlice sT l c) (kl kc : IntKind) (L C : Int) (n : Nat)
    (hl : a.eval l = .int kl L) (hc : a.eval c = .int kc C) (hL : L = (n : Int)) (hC : C = (n : Int)) (hn : n ≤ 1000000000) (hB : B ≤ w.heap.size)
    (hK : ∀ w', RowE B eT enc w' (.slice (some ⟨w.heap.size, 0, none⟩) n n) (List.replicate n x0) → w.grownBy w' none → w.heap.size < w'.heap.size → wpList Try.prog ops Q rest (a.put o.dst (.slice (some ⟨w.heap.size, 0, none⟩) n n)) w') : wpList Try.prog ops Q (o :: rest) a w := by
  obtain ⟨i0, hi, hz0, hz1, hz2⟩ := info_parts hI
  have hmul : n * bytes ≤ 1000000000 * 24 := Nat.mul_le_mul hn hby
  refine wpList_make_full w hg l c sT hop B eT i0 (enc x0) 1 hU hi hz0 hz1 kl kc L C n hl hc hL hC (by rw [hz2]; have := Nat.mul_comm n bytes; omega) (by simp only [maxLen]; omega) hB ?_
  intro w' h1 h2
  refine hK w' ?_ h2 (World.ownsRow.lt h1 w.heap.size rfl).2
  rw [hz, Nat.mul_one, toList_madeCells_one] at h1
  unfold RowE
  simpa using h1

theorem Try.infoI : (Try.prog.info? 3).map (fun i => (i.zero, i.size, i.bytes)) = some (some (intV 0), 1, 8) := by kernel_rfl
theorem Try.infoN : (Try.prog.info? 3).map (fun i => (i.zero, i.size, i.bytes)) = some (some (natV 0), 1, 8) := by kernel_rfl
theorem Try.infoW : (Try.prog.info? 115).map (fun i => (i.zero, i.size, i.bytes)) = some (some (wordV 0), 1, 4) := by kernel_rfl

/-- Rows of ints: of numbers from 0 on, of whatever ints; rows of uint32. -/
abbrev NRow (B : Nat) := RowE B 3 natV
abbrev IRow (B : Nat) := RowE B 3 intV
abbrev WRow (B : Nat) := RowE B 115 wordV

end Go.Proofs.Ytaefgnakdadgeaa
