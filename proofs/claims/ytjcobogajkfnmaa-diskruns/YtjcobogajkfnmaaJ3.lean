/-
  Of the proof: parts Own, Own2, HRow, Sam, Blk, Rec, Fresh, LPut, LRef.
-/
import Derived.Test.YtjcobogajkfnmaaProg
import Derived.Test.YtjcobogajkfnmaaJ2
import Derived.Test.YtjcobogajkfnmaaJ1

/-
  append onto a row of bytes of one's own: where the row lies then.
-/
namespace Go.Proofs.Ytjcobogajkfnmaa
open Go.RowKit

theorem Try.info8 : (Try.prog.info? 5).map (fun i => (i.zero, i.size, i.bytes)) = some (some (.int .u8 0), 1, 1) := by kernel_rfl

theorem addAt (b o j : Nat) : (⟨b, o, none⟩ : Addr).add j = ⟨b, o + j, none⟩ := by unfold Addr.add; simp

/-- The bytes that lie behind a slice's address. -/
def BytesAt (w : World) (a : Addr) (cs : List Nat) : Prop := ∀ j u, (cs.map byteV)[j]? = some u → w.cell? (a.add j) = some u

theorem run_append_row (w : World) (ty : TypeId) (v : Value) (bs : List Nat) (hrow : Row w v bs) (a : Addr) (c : Nat) (cs : List Nat) (hcs : BytesAt w a cs) (hlen : bs.length + cs.length ≤ 1000000000000) :
    ∃ v' w', (Builtin.append_ #[33, 33] ty #[v, .slice (some a) cs.length c]).run Try.prog w = .ok v' w' ∧ Row w' v' (bs ++ cs) ∧ w.grownBy w' v.ownBlock ∧
      (v'.ownBlock = v.ownBlock ∨ v'.ownBlock = some w.heap.size) := by
  obtain ⟨i0, hi, hz0, hz1, hz2⟩ := info_parts Try.info8
  have hl : (cs.map byteV).length = cs.length * 1 := by simp
  have hmax : bs.length + cs.length ≤ maxLen := by simp only [maxLen]; omega
  obtain ⟨v', w', hr, ho, hg, _⟩ := run_append_own (P := Try.prog) w 0 33 ty 5 i0 (.int .u8 0) 1 1 Try.underlying33 hi hz0 hz1 hz2 rfl (by decide) v bs.length (bs.map byteV) hrow a cs.length c (cs.map byteV) hl hcs (byteV_one _) hmax (by omega) (Nat.zero_le _)
  refine ⟨v', w', hr, by simpa [Row] using ho, hg, ?_⟩
  have hsz : i0.size = 1 := hz1
  rcases hrow.2 with ⟨rfl, hn⟩ | ⟨g, cap, cur, rfl, _⟩
  · by_cases hm : cs.length = 0
    · have e0 : cs = [] := List.eq_nil_of_length_eq_zero hm
      have hb0 : bs = [] := List.eq_nil_of_length_eq_zero hn
      subst e0 hb0
      rcases ho.2 with ⟨e, _⟩ | ⟨g', cap', cur', e, _, hh, _⟩
      · exact .inl (by rw [e])
      · by_cases hlt : g' < w.heap.size
        · exfalso
          have hr2 : (Builtin.append_ #[33, 33] ty #[.slice none 0 0, .slice (some a) ([] : List Nat).length c]).run Try.prog w = .ok (.slice none 0 0) w := by
            simp [Builtin.append_, run_underlying Try.underlying33, sizeOf, typeInfo, hi, Builtin.lenOf, Builtin.firstCells, loadCells, loadCellsFrom]
          rw [hr] at hr2
          simp only [Result.ok.injEq] at hr2
          rw [e] at hr2
          simp at hr2
        · exfalso
          have hr2 : (Builtin.append_ #[33, 33] ty #[.slice none 0 0, .slice (some a) ([] : List Nat).length c]).run Try.prog w = .ok (.slice none 0 0) w := by
            simp [Builtin.append_, run_underlying Try.underlying33, sizeOf, typeInfo, hi, Builtin.lenOf, Builtin.firstCells, loadCells, loadCellsFrom]
          rw [hr] at hr2
          simp only [Result.ok.injEq] at hr2
          rw [e] at hr2
          simp at hr2
    · have hr2 := run_append_nil (P := Try.prog) w 33 ty 5 i0 (.int .u8 0) Try.underlying33 hi hz0 a cs.length c (cs.map byteV) (by rw [hsz]; simp) hcs (by omega) (by omega) (by rw [hz2]; omega)
      rw [hr] at hr2
      simp only [Result.ok.injEq] at hr2
      exact .inr (by rw [hr2.1]; rfl)
  · by_cases hroom : bs.length + cs.length ≤ cap
    · obtain ⟨w2, hr2, _⟩ := run_append_fits (P := Try.prog) w 0 33 ty 5 i0 1 Try.underlying33 hi hz1 g bs.length cap (bs.map byteV) hrow a cs.length c (cs.map byteV) hl hcs (byteV_one _) hroom
      rw [hr] at hr2
      simp only [Result.ok.injEq] at hr2
      exact .inl (by rw [hr2.1]; rfl)
    · have hr2 := run_append_grow (P := Try.prog) w 33 ty 5 i0 (.int .u8 0) Try.underlying33 hi hz0 ⟨g, 0, none⟩ bs.length cap (bs.map byteV) (by rw [hsz]; simp) (hrow.cells (g := g) rfl) a cs.length c (cs.map byteV) (by rw [hsz]; simp) hcs (by omega) (by omega) (growslice_fits (by omega) (by rw [hz2]; omega))
      rw [hr] at hr2
      simp only [Result.ok.injEq] at hr2
      exact .inr (by rw [hr2.1]; rfl)

/-- The same, as a step of a walk. -/
theorem wpList_append_row {ops : Array Oper} {rest : List Oper} {o : Oper} {a : Act} {Q : Exit → Act → World → Prop} (w : World) (hgd : o.guard = none) (s x : Operand)
    (ho : o.op = .call { callee := .builtin .append, args := #[s, x], argTypes := #[33, 33] })
    (v : Value) (bs : List Nat) (hs : a.eval s = v) (hrow : Row w v bs) (ad : Addr) (m c : Nat) (cs : List Nat) (hx : a.eval x = .slice (some ad) m c) (hm : cs.length = m) (hcs : BytesAt w ad cs) (hlen : bs.length + cs.length ≤ 1000000000000)
    (h : ∀ v' w', Row w' v' (bs ++ cs) → w.grownBy w' v.ownBlock → (v'.ownBlock = v.ownBlock ∨ v'.ownBlock = some w.heap.size) → wpList Try.prog ops Q rest (a.put o.dst v') w') : wpList Try.prog ops Q (o :: rest) a w := by
  subst hm
  refine wpList_plain hgd fun K hK => ?_
  obtain ⟨v', w', hr, h2, h3, h4⟩ := run_append_row w o.type v bs hrow ad c cs hcs hlen
  unfold Oper.wp execOp
  simp only [ho, resolve, invoke, builtin, Sem.run_bind, Sem.run_pure, Result.andThen_ok, List.map_toArray, List.map_cons, List.map_nil, hs, hx, hr]
  exact hK _ _ (h v' w' h2 h3 h4)

/-- One byte that was just laid. -/
theorem bytesAt_new (w : World) (n : Nat) : BytesAt (w.alloc (.cells #[.int .u8 n] 5)) ⟨w.heap.size, 0, none⟩ [n] := by
  intro j u hu
  match j, hu with
  | 0, hu => simp [byteV] at hu; subst hu; simp [addAt]

end Go.Proofs.Ytjcobogajkfnmaa

/-
  make and copy over rows of bytes; a slice of bytes that is read.
-/
namespace Go.Proofs.Ytjcobogajkfnmaa
open Go.RowKit

theorem Try.size8 : (Try.prog.info? 5).map (·.size) = some 1 := by kernel_rfl

/-- A slice of bytes that can be read; its block fits I. -/
def Src (w : World) (I : Nat → Prop) (v : Value) (cs : List Nat) : Prop :=
  ∃ ao cap, v = .slice ao cs.length cap ∧ (cs ≠ [] → ∃ b o, ao = some ⟨b, o, none⟩ ∧ I b ∧ ∀ j (_ : j < cs.length), w.cell? ⟨b, o + j, none⟩ = some (.int .u8 (cs[j] : Nat)))

theorem Src.ofRow {w : World} {v : Value} {bs : List Nat} (h : Row w v bs) : Src w (fun k => v.ownBlock = some k) v bs := by
  obtain ⟨ao, cap, hv, hg⟩ := h.shape
  refine ⟨ao, cap, hv, fun hne => ?_⟩
  obtain ⟨g, hg⟩ := hg hne
  subst hg hv
  refine ⟨g, 0, rfl, rfl, fun j hj => ?_⟩
  rw [Nat.zero_add]
  exact Row.cell h j hj

theorem Src.mono {w : World} {I J : Nat → Prop} {v : Value} {cs : List Nat} (h : Src w I v cs) (hJ : ∀ k, I k → J k) : Src w J v cs := by
  obtain ⟨ao, cap, hv, hc⟩ := h
  refine ⟨ao, cap, hv, fun hne => ?_⟩
  obtain ⟨b, o, h1, h2, h3⟩ := hc hne
  exact ⟨b, o, h1, hJ b h2, h3⟩

theorem Src.kept {F I : Nat → Prop} {w w' : World} {v : Value} {cs : List Nat} (h : Src w I v cs) (hk : Kept F w w') (hn : ∀ k, I k → k < w.heap.size → ¬ F k) : Src w' I v cs := by
  obtain ⟨ao, cap, hv, hc⟩ := h
  refine ⟨ao, cap, hv, fun hne => ?_⟩
  obtain ⟨b, o, h1, h2, h3⟩ := hc hne
  have hlen : 0 < cs.length := List.length_pos_iff.2 hne
  have hb : b < w.heap.size := World.block_lt_of_cell? w _ (h3 0 hlen)
  exact ⟨b, o, h1, h2, fun j hj => hk.cell (h3 j hj) (hn b h2 hb)⟩

/-- A source as append and copy ask for it. -/
theorem Src.at {w : World} {I : Nat → Prop} {ao : Option Addr} {n cap : Nat} {cs : List Nat} (h : Src w I (.slice ao n cap) cs) : n = cs.length ∧ (cs ≠ [] → ∃ a, ao = some a ∧ BytesAt w a cs) := by
  obtain ⟨ao', cap', hv, hc⟩ := h
  injection hv with h1 h2 h3
  subst h1
  refine ⟨h2, fun hne => ?_⟩
  obtain ⟨b, o, h4, _, h6⟩ := hc hne
  refine ⟨_, h4, fun j u hu => ?_⟩
  obtain ⟨hj, hu⟩ := List.getElem?_eq_some_iff.1 hu
  rw [addAt, h6 j (by simpa using hj), ← hu]
  simp [byteV]

theorem row_mk {w : World} {g n cap : Nat} {xs : List Value} {bs : List Nat} (h : w.ownsRow 0 5 1 (.slice (some ⟨g, 0, none⟩) n cap) n xs) (hx : xs = bs.map byteV) : Row w (.slice (some ⟨g, 0, none⟩) n cap) bs := by
  subst hx
  have := h.1
  simp at this
  unfold Row
  rw [this]
  exact h

/-- make([]byte, n). -/
theorem wpList_make_bytes {ops : Array Oper} {rest : List Oper} {o : Oper} {a : Act} {Q : Exit → Act → World → Prop} (w : World) (hg : o.guard = none) (l c : Operand) (hop : o.op = Op.makeSlice 33 l c) (kl kc : IntKind) (L C : Int) (n : Nat)
    (hl : a.eval l = .int kl L) (hc : a.eval c = .int kc C) (hL : L = (n : Int)) (hC : C = (n : Int)) (hn : n ≤ 1000000000000)
    (hK : ∀ w', Row w' (.slice (some ⟨w.heap.size, 0, none⟩) n n) (List.replicate n 0) → w.grownBy w' none → w.heap.size < w'.heap.size → wpList Try.prog ops Q rest (a.put o.dst (.slice (some ⟨w.heap.size, 0, none⟩) n n)) w') : wpList Try.prog ops Q (o :: rest) a w := by
  obtain ⟨i0, hi, hz0, hz1, hz2⟩ := info_parts Try.info8
  refine wpList_make_full w hg l c 33 hop 0 5 i0 (.int .u8 0) 1 Try.underlying33 hi hz0 hz1 kl kc L C n hl hc hL hC (by rw [hz2]; omega) (by simp only [maxLen]; omega) (Nat.zero_le _) ?_
  intro w' h1 h2
  refine hK w' (row_mk h1 ?_) h2 (World.ownsRow.lt h1 w.heap.size rfl).2
  have e : (Value.int .u8 0).cells = #[.int .u8 0] := rfl
  rw [e, Nat.mul_one, toList_madeCells_one]
  simp [byteV]

/-- copy(dst, src) into a row of one's own that is as long as src, or longer. -/
theorem wpList_copy_bytes {ops : Array Oper} {rest : List Oper} {o : Oper} {a : Act} {Q : Exit → Act → World → Prop} (w : World) (hgd : o.guard = none) (d s : Operand) (ho : o.op = .call { callee := .builtin .copy, args := #[d, s], argTypes := #[33, 33] })
    (g n cap : Nat) (sp : Option Addr) (m c : Nat) (ds cs : List Nat) (I : Nat → Prop) (hd : a.eval d = .slice (some ⟨g, 0, none⟩) n cap) (hs : a.eval s = .slice sp m c)
    (hrow : Row w (.slice (some ⟨g, 0, none⟩) n cap) ds) (hsrc : Src w I (.slice sp m c) cs) (hle : cs.length ≤ ds.length)
    (hK : ∀ w', Row w' (.slice (some ⟨g, 0, none⟩) n cap) (cs ++ ds.drop cs.length) → w.grownBy w' (some g) → w'.heap.size = w.heap.size → wpList Try.prog ops Q rest (a.put o.dst (goInt cs.length)) w') : wpList Try.prog ops Q (o :: rest) a w := by
  obtain ⟨rfl, hat⟩ := hsrc.at
  rcases hrow.2 with ⟨h', _⟩ | ⟨g', cap', cur, h', hb, hgg, hnc, hcm, hcs, htake⟩
  · simp at h'
  · simp only [Value.slice.injEq, Option.some.injEq, Addr.mk.injEq, and_true] at h'
    obtain ⟨rfl, rfl, rfl⟩ := h'
    by_cases h0 : cs = []
    · subst h0
      refine wpList_copy_nothing hgd d s _ _ ho 5 Try.underlying33 Try.size8 _ _ _ _ _ _ hd hs (by simp) ?_
      exact hK w (by simpa using hrow) (World.grownBy.refl _ _) rfl
    · obtain ⟨ad, rfl, hbytes⟩ := hat h0
      refine wpList_copy_own hgd d s _ _ ho 5 Try.underlying33 Try.size8 g 0 _ _ ad _ _ hd hs cur 5 hgg (cs.map byteV) (by rw [List.length_map]; exact (Nat.min_eq_left hle).symm) hbytes (by simp; omega) (byteV_one _) ?_
      rw [show (goInt (cs.map byteV).length) = goInt cs.length by simp]
      have e1 : (cs ++ ds.drop cs.length).length = ds.length := by simp; omega
      refine hK _ ?_ ⟨rfl, rfl, rfl, by simp, fun k _ hk => setRow_other w g k _ (fun e => hk (by simp [e]))⟩ (by simp)
      unfold Row
      rw [e1]
      refine ⟨by simp; omega, .inr ⟨g, cap, _, rfl, hb, setRow_heap w g cur _ 5 _ hgg, hnc, hcm, ?_, ?_⟩⟩
      · simp; omega
      · simp only [Nat.mul_one] at htake ⊢
        simp only [List.take_zero, List.nil_append, Nat.zero_add, List.length_map]
        rw [List.map_append, List.map_drop, ← htake, List.drop_take, List.take_append, List.take_of_length_le (by simpa using hle)]
        simp
/-- A mark for the walk: here a copy stands. -/
theorem atCopy {P : Program} {ops : Array Oper} {rest : List Oper} {a : Act} {Q : Exit → Act → World → Prop} {w : World} {dst : Option Tmp} {d s : Operand} {dT sT ty : TypeId} {pos : String} {after : Array Edge}
    (h : wpList P ops Q ({ dst := dst, op := .call { callee := .builtin .copy, args := #[d, s], argTypes := #[dT, sT] }, type := ty, pos := pos, after := after, guard := none } :: rest) a w) :
    wpList P ops Q ({ dst := dst, op := .call { callee := .builtin .copy, args := #[d, s], argTypes := #[dT, sT] }, type := ty, pos := pos, after := after, guard := none } :: rest) a w := h

/-- One byte that was just laid, as a number that was reckoned. -/
theorem bytesAt_int (w : World) (z : Int) (n : Nat) (h : z = (n : Nat)) : BytesAt (w.alloc (.cells #[.int .u8 z] 5)) ⟨w.heap.size, 0, none⟩ [n] := by
  subst h; exact bytesAt_new w n

end Go.Proofs.Ytjcobogajkfnmaa

/-
  Rows of one cell an element, whatever the element's type: read, written, appended to.
-/
namespace Go.Proofs.Ytjcobogajkfnmaa
open Go.RowKit

theorem hid {p : Prop} (h : p) : Hid p := h

/-- An int's cell, a natural number's, a uint32's. -/
def intV (z : Int) : Value := .int .i64 z
def natV (n : Nat) : Value := .int .i64 (n : Int)
def wordV (n : Nat) : Value := .int .u32 (n : Int)

theorem intV_one (l : List Int) : ∀ u ∈ l.map intV, u.oneCell' = true := by
  intro u hu; obtain ⟨b, _, rfl⟩ := List.mem_map.1 hu; rfl
theorem natV_one (l : List Nat) : ∀ u ∈ l.map natV, u.oneCell' = true := by
  intro u hu; obtain ⟨b, _, rfl⟩ := List.mem_map.1 hu; rfl
theorem wordV_one (l : List Nat) : ∀ u ∈ l.map wordV, u.oneCell' = true := by
  intro u hu; obtain ⟨b, _, rfl⟩ := List.mem_map.1 hu; rfl

/-- A slice's cell. -/
def slV (x : Option Addr × Nat × Nat) : Value := .slice x.1 x.2.1 x.2.2
theorem slV_one (l : List (Option Addr × Nat × Nat)) : ∀ u ∈ l.map slV, u.oneCell' = true := by
  intro u hu; obtain ⟨b, _, rfl⟩ := List.mem_map.1 hu; rfl

/-- A slice at the head of a row of its own, which lies at block B or beyond. -/
abbrev RowE {α : Type} (B : Nat) (t : TypeId) (enc : α → Value) (w : World) (v : Value) (xs : List α) : Prop := w.ownsRow B t 1 v xs.length (xs.map enc)

section
variable {α : Type} {B : Nat} {t : TypeId} {enc : α → Value} {w : World} {v : Value} {xs : List α}

theorem RowE.kept {F : Nat → Prop} {w' : World} (h : RowE B t enc w v xs) (hk : Kept F w w') (hn : ∀ k, v.ownBlock = some k → ¬ F k) : RowE B t enc w' v xs := by
  refine ⟨h.1, ?_⟩
  rcases h.2 with hn' | ⟨g, cap, cur, rfl, hb, hgg, rest⟩
  · exact .inl hn'
  · refine .inr ⟨g, cap, cur, rfl, hb, ?_, rest⟩
    rw [hk.block g (Array.getElem?_eq_some_iff.1 hgg).1 (hn g rfl)]
    exact hgg

theorem RowE.base {B' : Nat} (h : RowE B t enc w v xs) (hb : B' ≤ B) : RowE B' t enc w v xs := by
  refine ⟨h.1, ?_⟩
  rcases h.2 with hn' | ⟨g, cap, cur, rfl, hb', rest⟩
  · exact .inl hn'
  · exact .inr ⟨g, cap, cur, rfl, Nat.le_trans hb hb', rest⟩

theorem RowE.drewN (k : Nat) (h : RowE B t enc w v xs) : RowE B t enc (w.drewN k) v xs := h

theorem RowE.nil : RowE B t enc w (.slice none 0 0) ([] : List α) := World.ownsRow_nil w B t 1

theorem RowE.lt (h : RowE B t enc w v xs) {k : Nat} (hk : v.ownBlock = some k) : k < w.heap.size := (World.ownsRow.lt h k hk).2
theorem RowE.ge (h : RowE B t enc w v xs) {k : Nat} (hk : v.ownBlock = some k) : B ≤ k := (World.ownsRow.lt h k hk).1

theorem RowE.shape (h : RowE B t enc w v xs) : ∃ ao cap, v = .slice ao xs.length cap ∧ (xs ≠ [] → ∃ g, ao = some ⟨g, 0, none⟩) ∧ (ao = none → cap = 0) ∧ xs.length ≤ cap ∧ cap ≤ maxLen := by
  rcases h.2 with ⟨rfl, hn⟩ | ⟨g, cap, cur, rfl, _, _, h1, h2, _⟩
  · exact ⟨none, 0, by rw [hn], fun hb => absurd (List.eq_nil_of_length_eq_zero hn) hb, fun _ => rfl, by omega, by omega⟩
  · exact ⟨_, cap, rfl, fun _ => ⟨g, rfl⟩, (fun e => by cases e), h1, h2⟩

/-- A row with something in it. -/
theorem RowE.some (h : RowE B t enc w v xs) (hn : xs ≠ []) : ∃ g cap, v = .slice (some ⟨g, 0, none⟩) xs.length cap ∧ B ≤ g ∧ g < w.heap.size ∧ xs.length ≤ cap := by
  obtain ⟨ao, cap, rfl, h1, _, h2, _⟩ := h.shape
  obtain ⟨g, rfl⟩ := h1 hn
  exact ⟨g, cap, rfl, h.ge rfl, h.lt rfl, h2⟩

theorem RowE.len {g n cap : Nat} (h : RowE B t enc w (.slice (Option.some ⟨g, 0, none⟩) n cap) xs) : xs.length = n := by
  rcases h.2 with ⟨e, _⟩ | ⟨_, _, _, e, _⟩
  · simp at e
  · injection e with _ e _; exact e.symm

theorem RowE.cell {g n cap : Nat} (h : RowE B t enc w (.slice (Option.some ⟨g, 0, none⟩) n cap) xs) (j : Nat) (hj : j < xs.length) : w.cell? ⟨g, j, none⟩ = Option.some (enc xs[j]) := by
  have hl := h.len
  subst hl
  rw [h.cellAt j (by omega)]
  simp [hj]

theorem RowE.frozen {g n cap : Nat} (h : RowE B t enc w (.slice (Option.some ⟨g, 0, none⟩) n cap) xs) (j : Nat) : w.frozen? ⟨g, j, none⟩ = false := by
  have hl := h.len
  subst hl
  exact World.ownsRow.frozenAt h j

theorem RowE.lay {g n cap : Nat} (h : RowE B t enc w (.slice (Option.some ⟨g, 0, none⟩) n cap) xs) (j : Nat) (x : α) : RowE B t enc (w.setCell ⟨g, j, none⟩ (enc x)) (.slice (Option.some ⟨g, 0, none⟩) n cap) (xs.set j x) := by
  have hl := h.len
  subst hl
  have := (World.ownsRow.stored h j (enc x)).1
  rw [← List.map_set] at this
  unfold RowE
  rw [List.length_set]
  exact this

theorem RowE.cut {g n cap : Nat} {ys : List α} (h : RowE B t enc w (.slice (Option.some ⟨g, 0, none⟩) n cap) (xs ++ ys)) : RowE B t enc w (.slice (Option.some ⟨g, 0, none⟩) xs.length cap) xs := by
  rcases h.2 with ⟨h', _⟩ | ⟨g', cap', cur, h', hb, hgg, hnc, hcm, hcs, htake⟩
  · simp at h'
  · simp only [Value.slice.injEq, Option.some.injEq, Addr.mk.injEq, and_true] at h'
    obtain ⟨rfl, rfl, rfl⟩ := h'
    refine ⟨by simp, .inr ⟨g, cap, cur, rfl, hb, hgg, ?_, hcm, hcs, ?_⟩⟩
    · simp at hnc; omega
    · simp only [Nat.mul_one, List.length_append] at htake ⊢
      have e : List.take xs.length cur.toList = List.take xs.length (List.take (xs.length + ys.length) cur.toList) := by rw [List.take_take]; congr 1; omega
      rw [e, htake, List.map_append, List.take_append, List.take_of_length_le (by simp)]
      simp

theorem RowE.recode {β : Type} {enc' : β → Value} {ys : List β} (h : RowE B t enc w v xs) (e : ys.map enc' = xs.map enc) : RowE B t enc' w v ys := by
  have hl : ys.length = xs.length := by have := congrArg List.length e; simpa using this
  unfold RowE
  rw [hl, e]
  exact h

/-- A slice that can be read; its block fits I. -/
def SrcE (enc : α → Value) (w : World) (I : Nat → Prop) (v : Value) (xs : List α) : Prop :=
  ∃ ao cap, v = .slice ao xs.length cap ∧ xs.length ≤ cap ∧ (xs ≠ [] → ∃ b o, ao = Option.some ⟨b, o, none⟩ ∧ I b ∧ ∀ j (_ : j < xs.length), w.cell? ⟨b, o + j, none⟩ = Option.some (enc xs[j]))

theorem SrcE.ofRow (h : RowE B t enc w v xs) : SrcE enc w (fun k => v.ownBlock = Option.some k) v xs := by
  obtain ⟨ao, cap, hv, hg, _, hc, _⟩ := h.shape
  refine ⟨ao, cap, hv, hc, fun hne => ?_⟩
  obtain ⟨g, hg⟩ := hg hne
  subst hg hv
  refine ⟨g, 0, rfl, rfl, fun j hj => ?_⟩
  rw [Nat.zero_add]
  exact RowE.cell h j hj

theorem SrcE.mono {I J : Nat → Prop} (h : SrcE enc w I v xs) (hJ : ∀ k, I k → J k) : SrcE enc w J v xs := by
  obtain ⟨ao, cap, hv, hcap, hc⟩ := h
  refine ⟨ao, cap, hv, hcap, fun hne => ?_⟩
  obtain ⟨b, o, h1, h2, h3⟩ := hc hne
  exact ⟨b, o, h1, hJ b h2, h3⟩

theorem SrcE.kept {F I : Nat → Prop} {w' : World} (h : SrcE enc w I v xs) (hk : Kept F w w') (hn : ∀ k, I k → k < w.heap.size → ¬ F k) : SrcE enc w' I v xs := by
  obtain ⟨ao, cap, hv, hcap, hc⟩ := h
  refine ⟨ao, cap, hv, hcap, fun hne => ?_⟩
  obtain ⟨b, o, h1, h2, h3⟩ := hc hne
  have hlen : 0 < xs.length := List.length_pos_iff.2 hne
  have hb : b < w.heap.size := World.block_lt_of_cell? w _ (h3 0 hlen)
  exact ⟨b, o, h1, h2, fun j hj => hk.cell (h3 j hj) (hn b h2 hb)⟩

theorem SrcE.low {I : Nat → Prop} (h : SrcE enc w I v xs) : SrcE enc w (fun k => I k ∧ k < w.heap.size) v xs := by
  obtain ⟨ao, cap, hv, hcap, hc⟩ := h
  refine ⟨ao, cap, hv, hcap, fun hne => ?_⟩
  obtain ⟨b, o, h1, h2, h3⟩ := hc hne
  have hlen : 0 < xs.length := List.length_pos_iff.2 hne
  exact ⟨b, o, h1, ⟨h2, World.block_lt_of_cell? w _ (h3 0 hlen)⟩, h3⟩

theorem SrcE.recode {β : Type} {enc' : β → Value} {ys : List β} {I : Nat → Prop} (h : SrcE enc w I v xs) (e : ys.map enc' = xs.map enc) : SrcE enc' w I v ys := by
  have hl : ys.length = xs.length := by have := congrArg List.length e; simpa using this
  obtain ⟨ao, cap, hv, hcap, hc⟩ := h
  refine ⟨ao, cap, by rw [hl]; exact hv, by omega, fun hne => ?_⟩
  obtain ⟨b, o, h1, h2, h3⟩ := hc (by intro e0; subst e0; simp at hl; exact hne hl)
  refine ⟨b, o, h1, h2, fun j hj => ?_⟩
  rw [h3 j (by omega)]
  have e1 : (ys.map enc')[j]? = (xs.map enc)[j]? := by rw [e]
  rw [List.getElem?_map, List.getElem?_map, List.getElem?_eq_getElem hj, List.getElem?_eq_getElem (by omega)] at e1
  simpa using e1.symm

/-- One cell of a source. -/
theorem SrcE.get {I : Nat → Prop} (h : SrcE enc w I v xs) (j : Nat) (hj : j < xs.length) : ∃ b o cap, v = .slice (Option.some ⟨b, o, none⟩) xs.length cap ∧ I b ∧ b < w.heap.size ∧ w.cell? ⟨b, o + j, none⟩ = Option.some (enc xs[j]) := by
  obtain ⟨ao, cap, hv, hcap, hc⟩ := h
  obtain ⟨b, o, rfl, h2, h3⟩ := hc (by intro e; subst e; simp at hj)
  exact ⟨b, o, cap, hv, h2, World.block_lt_of_cell? w _ (h3 j hj), h3 j hj⟩

end

/-- The cells that lie behind a slice's address. -/
def CellsAt (w : World) (a : Addr) (cs : List Value) : Prop := ∀ j u, cs[j]? = some u → w.cell? (a.add j) = some u

theorem cellsAt_new (w : World) (t : TypeId) (u : Value) : CellsAt (w.alloc (.cells #[u] t)) ⟨w.heap.size, 0, none⟩ [u] := by
  intro j x hx
  match j, hx with
  | 0, hx => simp at hx; subst hx; simp [addAt]

theorem SrcE.at {α : Type} {enc : α → Value} {w : World} {I : Nat → Prop} {ao : Option Addr} {n cap : Nat} {cs : List α} (h : SrcE enc w I (.slice ao n cap) cs) : n = cs.length ∧ (cs ≠ [] → ∃ a, ao = some a ∧ CellsAt w a (cs.map enc)) := by
  obtain ⟨ao', cap', hv, _, hc⟩ := h
  injection hv with h1 h2 h3
  subst h1
  refine ⟨h2, fun hne => ?_⟩
  obtain ⟨b, o, h4, _, h6⟩ := hc hne
  refine ⟨_, h4, fun j u hu => ?_⟩
  obtain ⟨hj, hu⟩ := List.getElem?_eq_some_iff.1 hu
  rw [addAt, h6 j (by simpa using hj), ← hu]
  simp

/-- append onto a row of one's own. -/
theorem wpList_append_e {α : Type} {ops : Array Oper} {rest : List Oper} {o : Oper} {a : Act} {Q : Exit → Act → World → Prop} (w : World) (enc : α → Value) (hone : ∀ (l : List α), ∀ u ∈ l.map enc, u.oneCell' = true) (B sT eT : Nat) (z : Value) (bytes : Nat)
    (hU : Try.prog.underlying sT = some (.slice eT)) (hI : (Try.prog.info? eT).map (fun i => (i.zero, i.size, i.bytes)) = some (some z, 1, bytes)) (hz : z.cells.size = 1) (hby : bytes ≤ 24) (hgd : o.guard = none) (s x : Operand)
    (ho : o.op = .call { callee := .builtin .append, args := #[s, x], argTypes := #[sT, sT] })
    (v : Value) (xs : List α) (hs : a.eval s = v) (hrow : RowE B eT enc w v xs) (ad : Addr) (m c : Nat) (cs : List α) (hx : a.eval x = .slice (some ad) m c) (hm : cs.length = m) (hcs : CellsAt w ad (cs.map enc)) (hlen : xs.length + cs.length ≤ 1000000000) (hB : B ≤ w.heap.size)
    (h : ∀ v' w', RowE B eT enc w' v' (xs ++ cs) → w.grownBy w' v.ownBlock → wpList Try.prog ops Q rest (a.put o.dst v') w') : wpList Try.prog ops Q (o :: rest) a w := by
  subst hm
  obtain ⟨i0, hi, hz0, hz1, hz2⟩ := info_parts hI
  have hmul : (xs.length + cs.length) * bytes ≤ 1000000000 * 24 := Nat.mul_le_mul hlen hby
  refine wpList_append_own w hgd s x sT ho B eT i0 z 1 bytes hU hi hz0 hz1 hz2 hz (by decide) v xs.length (xs.map enc) hs hrow ad cs.length c (cs.map enc) hx (by simp) hcs (hone _) (by simp only [maxLen]; omega) (by omega) hB ?_
  intro v' w' h1 h2 _
  refine h v' w' ?_ h2
  unfold RowE
  rw [List.length_append, List.map_append]
  exact h1

/-- make of a row. -/
theorem wpList_make_e {α : Type} {ops : Array Oper} {rest : List Oper} {o : Oper} {a : Act} {Q : Exit → Act → World → Prop} (w : World) (enc : α → Value) (x0 : α) (B sT eT : Nat) (bytes : Nat)
    (hU : Try.prog.underlying sT = some (.slice eT)) (hI : (Try.prog.info? eT).map (fun i => (i.zero, i.size, i.bytes)) = some (some (enc x0), 1, bytes)) (hz : (enc x0).cells = #[enc x0]) (hby : bytes ≤ 24)
    (hg : o.guard = none) (l c : Operand) (hop : o.op = Op.makeSlice sT l c) (kl kc : IntKind) (L C : Int) (n : Nat)
    (hl : a.eval l = .int kl L) (hc : a.eval c = .int kc C) (hL : L = (n : Int)) (hC : C = (n : Int)) (hn : n ≤ 1000000000) (hB : B ≤ w.heap.size)
    (hK : ∀ w', RowE B eT enc w' (.slice (some ⟨w.heap.size, 0, none⟩) n n) (List.replicate n x0) → w.grownBy w' none → w.heap.size < w'.heap.size → wpList Try.prog ops Q rest (a.put o.dst (.slice (some ⟨w.heap.size, 0, none⟩) n n)) w') : wpList Try.prog ops Q (o :: rest) a w := by
  obtain ⟨i0, hi, hz0, hz1, hz2⟩ := info_parts hI
  have hmul : n * bytes ≤ 1000000000 * 24 := Nat.mul_le_mul hn hby
  refine wpList_make_full w hg l c sT hop B eT i0 (enc x0) 1 hU hi hz0 hz1 kl kc L C n hl hc hL hC (by rw [hz2]; have := Nat.mul_comm n bytes; omega) (by simp only [maxLen]; omega) hB ?_
  intro w' h1 h2
  refine hK w' ?_ h2 (World.ownsRow.lt h1 w.heap.size rfl).2
  rw [hz, Nat.mul_one, toList_madeCells_one] at h1
  unfold RowE
  simpa using h1

theorem Try.infoI : (Try.prog.info? 3).map (fun i => (i.zero, i.size, i.bytes)) = some (some (intV 0), 1, 8) := by kernel_rfl
theorem Try.infoN : (Try.prog.info? 3).map (fun i => (i.zero, i.size, i.bytes)) = some (some (natV 0), 1, 8) := by kernel_rfl
theorem Try.infoW : (Try.prog.info? 122).map (fun i => (i.zero, i.size, i.bytes)) = some (some (wordV 0), 1, 4) := by kernel_rfl

/-- Rows of ints: of numbers from 0 on, of whatever ints; rows of uint32. -/
abbrev NRow (B : Nat) := RowE B 3 natV
abbrev IRow (B : Nat) := RowE B 3 intV
abbrev WRow (B : Nat) := RowE B 122 wordV

end Go.Proofs.Ytjcobogajkfnmaa

/-
  Nothing old turned.
-/
namespace Go.Proofs.Ytjcobogajkfnmaa
open Go.RowKit

/-- Nothing of what was there has turned. -/
abbrev Same (w w' : World) : Prop := Kept (fun _ => False) w w'

theorem Same.of {F : Nat → Prop} {w w' : World} (h : Kept F w w') (hF : ∀ k, k < w.heap.size → ¬ F k) : Same w w' := h.mono (fun k hk f => hF k hk f)

theorem Same.trans {a b c : World} (h : Same a b) (k : Same b c) : Same a c := Kept.trans h k (fun _ _ h => h) (fun _ _ h => h)

/-- What is written in new memory alone. -/
theorem Same.then {a b c : World} {F : Nat → Prop} (h : Same a b) (k : Kept F b c) (hF : ∀ x, x < a.heap.size → ¬ F x) : Same a c := Kept.trans h k (fun _ _ h => h) (fun x hx f => hF x hx f)

theorem SrcE.same {α : Type} {enc : α → Value} {w w' : World} {I : Nat → Prop} {v : Value} {xs : List α} (h : SrcE enc w I v xs) (hk : Same w w') : SrcE enc w' I v xs := h.kept hk (fun _ _ _ f => f)

theorem RowE.same {α : Type} {enc : α → Value} {B t : Nat} {w w' : World} {v : Value} {xs : List α} (h : RowE B t enc w v xs) (hk : Same w w') : RowE B t enc w' v xs := h.kept hk (fun _ _ f => f)

end Go.Proofs.Ytjcobogajkfnmaa

/-
  A block of cells, whole: an object of some fields.
-/
namespace Go.Proofs.Ytjcobogajkfnmaa
open Go.RowKit

/-- The block h holds just these cells, none of them frozen. -/
def Blk (w : World) (h : Nat) (cs : Array Value) (t : TypeId) : Prop := w.heap[h]? = some (.cells cs t (0, 0))

theorem Blk.lt {w : World} {h : Nat} {cs : Array Value} {t : TypeId} (b : Blk w h cs t) : h < w.heap.size := (Array.getElem?_eq_some_iff.1 b).1

theorem Blk.cell {w : World} {h : Nat} {cs : Array Value} {t : TypeId} (b : Blk w h cs t) (i : Nat) : w.cell? ⟨h, i, none⟩ = cs[i]? := by
  unfold Blk at b
  simp [World.cell?, b]

theorem Blk.frozen {w : World} {h : Nat} {cs : Array Value} {t : TypeId} (b : Blk w h cs t) (i : Nat) : w.frozen? ⟨h, i, none⟩ = false := by
  unfold Blk at b
  simp [World.frozen?, b]

theorem Blk.kept {F : Nat → Prop} {w w' : World} {h : Nat} {cs : Array Value} {t : TypeId} (b : Blk w h cs t) (hk : Kept F w w') (hF : ¬ F h) : Blk w' h cs t := by
  unfold Blk
  rw [hk.block h b.lt hF]
  exact b

theorem Blk.set {w : World} {h : Nat} {cs : Array Value} {t : TypeId} (b : Blk w h cs t) (i : Nat) (u : Value) : Blk (w.setCell ⟨h, i, none⟩ u) h (cs.setIfInBounds i u) t := by
  unfold Blk at b ⊢
  simp [World.setCell, Array.getElem?_modify, b]

theorem Blk.new (w : World) (cs : Array Value) (t : TypeId) : Blk (w.alloc (.cells cs t)) w.heap.size cs t := by
  unfold Blk World.alloc
  simp

theorem Blk.drewN {w : World} {h : Nat} {cs : Array Value} {t : TypeId} (b : Blk w h cs t) (n : Nat) : Blk (w.drewN n) h cs t := b

end Go.Proofs.Ytjcobogajkfnmaa

/-
  Rows of some cells an element: read, written, appended to.
-/
namespace Go.Proofs.Ytjcobogajkfnmaa
open Go.RowKit

/-- An element's cells: so many, each of one cell. -/
structure EncOk {α : Type} (enc : α → List Value) (k : Nat) : Prop where
  len : ∀ x, (enc x).length = k
  one : ∀ x, ∀ u ∈ enc x, u.oneCell' = true
  pos : 0 < k

theorem flat_length {α : Type} {enc : α → List Value} {k : Nat} (h : EncOk enc k) (xs : List α) : (xs.flatMap enc).length = xs.length * k := by
  induction xs with
  | nil => simp
  | cons a r ih => rw [List.flatMap_cons, List.length_append, ih, h.len, List.length_cons, Nat.succ_mul]; omega

theorem flat_get {α : Type} {enc : α → List Value} {k : Nat} (h : EncOk enc k) (xs : List α) (j i : Nat) (hj : j < xs.length) (hi : i < k) : (xs.flatMap enc)[j * k + i]? = (enc xs[j])[i]? := by
  induction xs generalizing j with
  | nil => simp at hj
  | cons a r ih =>
    rw [List.flatMap_cons]
    cases j with
    | zero =>
      rw [Nat.zero_mul, Nat.zero_add, List.getElem?_append_left (by rw [h.len]; exact hi)]
      rfl
    | succ j =>
      rw [List.getElem?_append_right (by rw [h.len, Nat.succ_mul]; omega), h.len, show (j + 1) * k + i - k = j * k + i by rw [Nat.succ_mul]; omega, ih j (by simpa using hj)]
      rfl

theorem flat_one {α : Type} {enc : α → List Value} {k : Nat} (h : EncOk enc k) (xs : List α) : ∀ u ∈ xs.flatMap enc, u.oneCell' = true := by
  intro u hu
  obtain ⟨x, _, hx⟩ := List.mem_flatMap.1 hu
  exact h.one x u hx

/-- A slice at the head of a row of its own, which lies at block B or beyond. -/
abbrev RowC {α : Type} (B : Nat) (t : TypeId) (k : Nat) (enc : α → List Value) (w : World) (v : Value) (xs : List α) : Prop := w.ownsRow B t k v xs.length (xs.flatMap enc)

/-- A slice that can be read; its block fits I. -/
def SrcC {α : Type} (k : Nat) (enc : α → List Value) (w : World) (I : Nat → Prop) (v : Value) (xs : List α) : Prop :=
  ∃ ao cap, v = .slice ao xs.length cap ∧ xs.length ≤ cap ∧ (xs ≠ [] → ∃ b o, ao = Option.some ⟨b, o, none⟩ ∧ I b ∧ ∀ j (_ : j < xs.length) i (_ : i < k), w.cell? ⟨b, o + (j * k + i), none⟩ = (enc xs[j])[i]?)

section
variable {α : Type} {B : Nat} {t k : Nat} {enc : α → List Value} {w : World} {v : Value} {xs : List α}

theorem RowC.kept {F : Nat → Prop} {w' : World} (h : RowC B t k enc w v xs) (hk : Kept F w w') (hn : ∀ j, v.ownBlock = some j → ¬ F j) : RowC B t k enc w' v xs := by
  refine ⟨h.1, ?_⟩
  rcases h.2 with hn' | ⟨g, cap, cur, rfl, hb, hgg, rest⟩
  · exact .inl hn'
  · refine .inr ⟨g, cap, cur, rfl, hb, ?_, rest⟩
    rw [hk.block g (Array.getElem?_eq_some_iff.1 hgg).1 (hn g rfl)]
    exact hgg

theorem RowC.base {B' : Nat} (h : RowC B t k enc w v xs) (hb : B' ≤ B) : RowC B' t k enc w v xs := by
  refine ⟨h.1, ?_⟩
  rcases h.2 with hn' | ⟨g, cap, cur, rfl, hb', rest⟩
  · exact .inl hn'
  · exact .inr ⟨g, cap, cur, rfl, Nat.le_trans hb hb', rest⟩

theorem RowC.nil : RowC B t k enc w (.slice none 0 0) ([] : List α) := World.ownsRow_nil w B t k

theorem RowC.lt (h : RowC B t k enc w v xs) {j : Nat} (hj : v.ownBlock = some j) : j < w.heap.size := (World.ownsRow.lt h j hj).2
theorem RowC.ge (h : RowC B t k enc w v xs) {j : Nat} (hj : v.ownBlock = some j) : B ≤ j := (World.ownsRow.lt h j hj).1

theorem RowC.shape (h : RowC B t k enc w v xs) : ∃ ao cap, v = .slice ao xs.length cap ∧ (xs ≠ [] → ∃ g, ao = some ⟨g, 0, none⟩) ∧ (ao = none → cap = 0) ∧ xs.length ≤ cap ∧ cap ≤ maxLen := by
  rcases h.2 with ⟨rfl, hn⟩ | ⟨g, cap, cur, rfl, _, _, h1, h2, _⟩
  · exact ⟨none, 0, by rw [hn], fun hb => absurd (List.eq_nil_of_length_eq_zero hn) hb, fun _ => rfl, by omega, by omega⟩
  · exact ⟨_, cap, rfl, fun _ => ⟨g, rfl⟩, (fun e => by cases e), h1, h2⟩

theorem RowC.len {g n cap : Nat} (h : RowC B t k enc w (.slice (Option.some ⟨g, 0, none⟩) n cap) xs) : xs.length = n := by
  rcases h.2 with ⟨e, _⟩ | ⟨_, _, _, e, _⟩
  · simp at e
  · injection e with _ e _; exact e.symm

theorem RowC.cell {g n cap : Nat} (ok : EncOk enc k) (h : RowC B t k enc w (.slice (Option.some ⟨g, 0, none⟩) n cap) xs) (j i : Nat) (hj : j < xs.length) (hi : i < k) : w.cell? ⟨g, j * k + i, none⟩ = (enc xs[j])[i]? := by
  have hl := h.len
  subst hl
  have hlt : j * k + i < xs.length * k := by
    have : (j + 1) * k ≤ xs.length * k := Nat.mul_le_mul_right k hj
    rw [Nat.succ_mul] at this
    omega
  rw [h.cellAt (j * k + i) hlt, flat_get ok xs j i hj hi]

theorem RowC.frozen {g n cap : Nat} (h : RowC B t k enc w (.slice (Option.some ⟨g, 0, none⟩) n cap) xs) (j : Nat) : w.frozen? ⟨g, j, none⟩ = false := by
  have hl := h.len
  subst hl
  exact World.ownsRow.frozenAt h j

theorem SrcC.ofRow (ok : EncOk enc k) (h : RowC B t k enc w v xs) : SrcC k enc w (fun j => v.ownBlock = Option.some j) v xs := by
  obtain ⟨ao, cap, hv, hg, _, hc, _⟩ := h.shape
  refine ⟨ao, cap, hv, hc, fun hne => ?_⟩
  obtain ⟨g, hg⟩ := hg hne
  subst hg hv
  refine ⟨g, 0, rfl, rfl, fun j hj i hi => ?_⟩
  rw [Nat.zero_add]
  exact RowC.cell ok h j i hj hi

theorem SrcC.mono {I J : Nat → Prop} (h : SrcC k enc w I v xs) (hJ : ∀ j, I j → J j) : SrcC k enc w J v xs := by
  obtain ⟨ao, cap, hv, hcap, hc⟩ := h
  refine ⟨ao, cap, hv, hcap, fun hne => ?_⟩
  obtain ⟨b, o, h1, h2, h3⟩ := hc hne
  exact ⟨b, o, h1, hJ b h2, h3⟩

theorem SrcC.block (ok : EncOk enc k) {I : Nat → Prop} (h : SrcC k enc w I v xs) (hne : xs ≠ []) : ∃ b o cap, v = .slice (Option.some ⟨b, o, none⟩) xs.length cap ∧ I b ∧ b < w.heap.size := by
  obtain ⟨ao, cap, hv, hcap, hc⟩ := h
  obtain ⟨b, o, rfl, h2, h3⟩ := hc hne
  have hlen : 0 < xs.length := List.length_pos_iff.2 hne
  have hc := h3 0 hlen 0 ok.pos
  have hl := ok.len xs[0]
  have hp := ok.pos
  rw [List.getElem?_eq_getElem (by omega)] at hc
  exact ⟨b, o, cap, hv, h2, World.block_lt_of_cell? w _ hc⟩

theorem SrcC.kept (ok : EncOk enc k) {F I : Nat → Prop} {w' : World} (h : SrcC k enc w I v xs) (hk : Kept F w w') (hn : ∀ j, I j → j < w.heap.size → ¬ F j) : SrcC k enc w' I v xs := by
  obtain ⟨ao, cap, hv, hcap, hc⟩ := h
  refine ⟨ao, cap, hv, hcap, fun hne => ?_⟩
  obtain ⟨b, o, h1, h2, h3⟩ := hc hne
  refine ⟨b, o, h1, h2, fun j hj i hi => ?_⟩
  have hc := h3 j hj i hi
  have hl := ok.len xs[j]
  rw [List.getElem?_eq_getElem (by omega)] at hc ⊢
  exact hk.cell hc (hn b h2 (World.block_lt_of_cell? w _ hc))

theorem SrcC.low (ok : EncOk enc k) {I : Nat → Prop} (h : SrcC k enc w I v xs) : SrcC k enc w (fun j => I j ∧ j < w.heap.size) v xs := by
  obtain ⟨ao, cap, hv, hcap, hc⟩ := h
  refine ⟨ao, cap, hv, hcap, fun hne => ?_⟩
  obtain ⟨b, o, h1, h2, h3⟩ := hc hne
  have hlen : 0 < xs.length := List.length_pos_iff.2 hne
  have hc0 := h3 0 hlen 0 ok.pos
  have hl := ok.len xs[0]
  have hp := ok.pos
  rw [List.getElem?_eq_getElem (by omega)] at hc0
  exact ⟨b, o, h1, ⟨h2, World.block_lt_of_cell? w _ hc0⟩, h3⟩

end

/-- append of such cells onto a row of one's own. -/
theorem wpList_append_c {α : Type} {ops : Array Oper} {rest : List Oper} {o : Oper} {a : Act} {Q : Exit → Act → World → Prop} (w : World) (enc : α → List Value) (k : Nat) (ok : EncOk enc k) (_hk : k ≤ 100) (B sT eT : Nat) (z : Value) (bytes : Nat)
    (hU : Try.prog.underlying sT = some (.slice eT)) (hI : (Try.prog.info? eT).map (fun i => (i.zero, i.size, i.bytes)) = some (some z, k, bytes)) (hz : z.cells.size = k) (hby : bytes ≤ 1000) (hgd : o.guard = none) (s x : Operand)
    (ho : o.op = .call { callee := .builtin .append, args := #[s, x], argTypes := #[sT, sT] })
    (v : Value) (xs : List α) (hs : a.eval s = v) (hrow : RowC B eT k enc w v xs) (ad : Addr) (m c : Nat) (cs : List α) (hx : a.eval x = .slice (some ad) m c) (hm : cs.length = m) (hcs : CellsAt w ad (cs.flatMap enc)) (hlen : xs.length + cs.length ≤ 1000000000) (hB : B ≤ w.heap.size)
    (h : ∀ v' w', RowC B eT k enc w' v' (xs ++ cs) → w.grownBy w' v.ownBlock → wpList Try.prog ops Q rest (a.put o.dst v') w') : wpList Try.prog ops Q (o :: rest) a w := by
  subst hm
  obtain ⟨i0, hi, hz0, hz1, hz2⟩ := info_parts hI
  have hmul : (xs.length + cs.length) * bytes ≤ 1000000000 * 1000 := Nat.mul_le_mul hlen hby
  refine wpList_append_own w hgd s x sT ho B eT i0 z k bytes hU hi hz0 hz1 hz2 hz ok.pos v xs.length (xs.flatMap enc) hs hrow ad cs.length c (cs.flatMap enc) hx (flat_length ok cs) hcs (flat_one ok cs) (by simp only [maxLen]; omega) (by omega) hB ?_
  intro v' w' h1 h2 _
  refine h v' w' ?_ h2
  unfold RowC
  rw [List.length_append, List.flatMap_append]
  exact h1

end Go.Proofs.Ytjcobogajkfnmaa

/-
  Rows of bytes in new memory: made with room to spare, appended to.
-/
namespace Go.Proofs.Ytjcobogajkfnmaa
open Go.RowKit

/-- append of whatever source of bytes. -/
theorem wpList_append_any {ops : Array Oper} {rest : List Oper} {o : Oper} {a : Act} {Q : Exit → Act → World → Prop} (w : World) (hgd : o.guard = none) (s x : Operand)
    (ho : o.op = .call { callee := .builtin .append, args := #[s, x], argTypes := #[33, 33] })
    (v : Value) (bs : List Nat) (hs : a.eval s = v) (hrow : Row w v bs) (I : Nat → Prop) (xv : Value) (cs : List Nat) (hx : a.eval x = xv) (hnil : ∀ n c, xv = .slice none n c → n = 0 ∧ c = 0) (hsrc : Src w I xv cs) (hlen : bs.length + cs.length ≤ 1000000000000)
    (h : ∀ v' w', Row w' v' (bs ++ cs) → w.grownBy w' v.ownBlock → (v'.ownBlock = v.ownBlock ∨ v'.ownBlock = some w.heap.size) → wpList Try.prog ops Q rest (a.put o.dst v') w') : wpList Try.prog ops Q (o :: rest) a w := by
  obtain ⟨ao, cap, rfl, hc⟩ := id hsrc
  cases ao with
  | some ad =>
    refine wpList_append_row w hgd s x ho v bs hs hrow ad cs.length cap cs hx rfl ?_ hlen h
    by_cases h0 : cs = []
    · subst h0; intro j u hu; simp at hu
    · obtain ⟨a', e, hb⟩ := (Src.at hsrc).2 h0
      injection e with e
      subst e
      exact hb
  | none =>
    obtain ⟨h0, h1⟩ := hnil _ _ rfl
    have hcs : cs = [] := List.eq_nil_of_length_eq_zero h0
    subst hcs h1
    obtain ⟨i0, hi, hz0, hz1, hz2⟩ := info_parts Try.info8
    refine wpList_plain hgd fun K hK => ?_
    have hr := run_append_owned_none (P := Try.prog) w 0 33 o.type 5 i0 1 Try.underlying33 hi v bs.length (bs.map byteV) hrow
    unfold Oper.wp execOp
    simp only [ho, resolve, invoke, builtin, Sem.run_bind, Sem.run_pure, Result.andThen_ok, List.map_toArray, List.map_cons, List.map_nil, hs, hx, List.length_nil, hr]
    exact hK _ _ (h v w (by simpa using hrow) (World.grownBy.refl _ _) (.inl rfl))

/-- A row with fewer of its cells in sight. -/
theorem Row.cut {w : World} {g n cap : Nat} {bs cs : List Nat} (h : Row w (.slice (some ⟨g, 0, none⟩) n cap) (bs ++ cs)) : Row w (.slice (some ⟨g, 0, none⟩) bs.length cap) bs := by
  rcases h.2 with ⟨h', _⟩ | ⟨g', cap', cur, h', hb, hgg, hnc, hcm, hcs, htake⟩
  · simp at h'
  · simp only [Value.slice.injEq, Option.some.injEq, Addr.mk.injEq, and_true] at h'
    obtain ⟨rfl, rfl, rfl⟩ := h'
    refine ⟨by simp, .inr ⟨g, cap, cur, rfl, hb, hgg, ?_, hcm, hcs, ?_⟩⟩
    · simp at hnc; omega
    · simp only [Nat.mul_one, List.length_append] at htake ⊢
      have e : List.take bs.length cur.toList = List.take bs.length (List.take (bs.length + cs.length) cur.toList) := by rw [List.take_take]; congr 1; omega
      rw [e, htake, List.map_append, List.take_append, List.take_of_length_le (by simp)]
      simp

/-- make([]byte, n, c). -/
theorem wpList_make_room {ops : Array Oper} {rest : List Oper} {o : Oper} {a : Act} {Q : Exit → Act → World → Prop} (w : World) (hg : o.guard = none) (l c : Operand) (hop : o.op = Op.makeSlice 33 l c) (kl kc : IntKind) (L C : Int) (n m : Nat)
    (hl : a.eval l = .int kl L) (hc : a.eval c = .int kc C) (hL : L = (n : Int)) (hC : C = (m : Int)) (hnm : n ≤ m) (hn : m ≤ 1000000000000)
    (hK : ∀ w', Row w' (.slice (some ⟨w.heap.size, 0, none⟩) n m) (List.replicate n 0) → w.grownBy w' none → w.heap.size < w'.heap.size → wpList Try.prog ops Q rest (a.put o.dst (.slice (some ⟨w.heap.size, 0, none⟩) n m)) w') : wpList Try.prog ops Q (o :: rest) a w := by
  obtain ⟨i0, hi, hz0, hz1, hz2⟩ := info_parts Try.info8
  have hr := run_make (P := Try.prog) w 33 5 i0 (.int .u8 0) Try.underlying33 hi hz0 kl kc n m (by omega) (by omega) (by rw [hz2]; omega) (by omega)
  obtain ⟨w1, hr1, ho1, hg1⟩ := run_make_full (P := Try.prog) w 0 33 5 i0 (.int .u8 0) 1 Try.underlying33 hi hz0 hz1 kl kc m (by rw [hz2]; omega) (by simp only [maxLen]; omega) (Nat.zero_le _)
  have hr2 := run_make (P := Try.prog) w 33 5 i0 (.int .u8 0) Try.underlying33 hi hz0 kl kc m m (by omega) (Int.le_refl _) (by rw [hz2]; omega) (by omega)
  rw [hr1] at hr2
  simp only [Result.ok.injEq] at hr2
  simp only [Int.toNat_natCast] at hr hr2
  rw [← hr2.2] at hr
  have e : (Value.int .u8 0).cells = #[.int .u8 0] := rfl
  rw [e, Nat.mul_one, toList_madeCells_one] at ho1
  have ho2 : Row w1 (.slice (some ⟨w.heap.size, 0, none⟩) m m) (List.replicate n 0 ++ List.replicate (m - n) 0) := by
    refine row_mk ho1 ?_
    rw [List.replicate_append_replicate, show n + (m - n) = m by omega]
    simp [byteV]
  have ho3 := Row.cut ho2
  rw [List.length_replicate] at ho3
  refine wpList_plain hg fun K hK' => ?_
  unfold Oper.wp
  subst hL hC
  simp [execOp, hop, hl, hc, hr, Result.andThen]
  exact hK' _ _ (hK w1 ho3 hg1 (World.ownsRow.lt ho1 w.heap.size rfl).2)

/-- A row of bytes that lies in memory which was not there before. -/
structure Fresh (w w' : World) (v : Value) (bs : List Nat) : Prop where
  row : Row w' v bs
  kept : Kept (fun _ => False) w w'
  new : ∀ k, v.ownBlock = some k → w.heap.size ≤ k

theorem Fresh.app {w wr w1 : World} {v1 v' : Value} {bs cs : List Nat} {o : Obj} (h : Fresh w wr v1 bs) (hrow : Row w1 v' (bs ++ cs)) (hg : (wr.alloc o).grownBy w1 v1.ownBlock) (ho : v'.ownBlock = v1.ownBlock ∨ v'.ownBlock = some (wr.alloc o).heap.size) : Fresh w w1 v' (bs ++ cs) := by
  have hsz := h.kept.size
  refine ⟨hrow, Kept.grown (h.kept.alloc o) hg (fun k e => .inr (h.new k e)), ?_⟩
  rcases ho with e | e
  · intro k hk; exact h.new k (by rw [← e, hk])
  · intro k hk; rw [e] at hk; simp at hk; omega

theorem Fresh.app' {w wr w1 : World} {v1 v' : Value} {bs cs : List Nat} (h : Fresh w wr v1 bs) (hrow : Row w1 v' (bs ++ cs)) (hg : wr.grownBy w1 v1.ownBlock) (ho : v'.ownBlock = v1.ownBlock ∨ v'.ownBlock = some wr.heap.size) : Fresh w w1 v' (bs ++ cs) := by
  have hsz := h.kept.size
  refine ⟨hrow, Kept.grown h.kept hg (fun k e => .inr (h.new k e)), ?_⟩
  rcases ho with e | e
  · intro k hk; exact h.new k (by rw [← e, hk])
  · intro k hk; rw [e] at hk; simp at hk; omega

theorem Fresh.later {w w0 w1 : World} {v : Value} {bs : List Nat} {F : Nat → Prop} (h : Fresh w w0 v bs) (hk : Kept F w0 w1) (hF : ∀ k, F k → w0.heap.size ≤ k) : Fresh w w1 v bs := by
  refine ⟨h.row.kept hk (fun k e f => by have := h.row.lt e; have := hF k f; omega), ?_, h.new⟩
  have hsz := h.kept.size
  refine ⟨hk.os.trans h.kept.os, hk.tape.trans h.kept.tape, hk.output.trans h.kept.output, Nat.le_trans h.kept.size hk.size, fun k hlt _ => ?_⟩
  exact (hk.block k (Nat.lt_of_lt_of_le hlt hsz) (fun f => by have := hF k f; omega)).trans (h.kept.block k hlt (fun f => f))

end Go.Proofs.Ytjcobogajkfnmaa

/-
  The calls that lay numbers in bytes: little's and the reference's; what is the same.
-/
namespace Go.Proofs.Ytjcobogajkfnmaa
open Go.RowKit









end Go.Proofs.Ytjcobogajkfnmaa

/-
  The reference's Put and Same; what the law lends and gets back.
-/
namespace Go.Proofs.Ytjcobogajkfnmaa
open Go.RowKit

theorem Row.len {w : World} {g n cap : Nat} {ds : List Nat} (h : Row w (.slice (some ⟨g, 0, none⟩) n cap) ds) : ds.length = n := by
  rcases h.2 with ⟨e, _⟩ | ⟨_, _, _, e, _⟩
  · simp at e
  · injection e with _ e _; exact e.symm

theorem Row.lay {w : World} {g n cap : Nat} {ds : List Nat} (h : Row w (.slice (some ⟨g, 0, none⟩) n cap) ds) (j x : Nat) : Row (w.setCell ⟨g, j, none⟩ (.int .u8 x)) (.slice (some ⟨g, 0, none⟩) n cap) (ds.set j x) := by
  have hl := h.len
  subst hl
  have := (World.ownsRow.stored h j (.int .u8 x)).1
  rw [show (Value.int .u8 x) = byteV x from rfl, ← List.map_set] at this
  unfold Row
  rw [List.length_set]
  exact this

theorem Row.cell' {w : World} {g n cap : Nat} {bs : List Nat} (h : Row w (.slice (some ⟨g, 0, none⟩) n cap) bs) (j : Nat) (hj : j < bs.length) : w.cell? ⟨g, j, none⟩ = some (.int .u8 (bs[j] : Nat)) := by
  have hl := h.len
  subst hl
  exact Row.cell h j hj

theorem Row.frozen' {w : World} {g n cap : Nat} {bs : List Nat} (h : Row w (.slice (some ⟨g, 0, none⟩) n cap) bs) (j : Nat) : w.frozen? ⟨g, j, none⟩ = false := by
  have hl := h.len
  subst hl
  exact World.ownsRow.frozenAt h j

theorem set_at (cs ds : List Nat) (j x y : Nat) (h : cs.length = j) : (cs ++ y :: ds).set j x = cs ++ x :: ds := by
  subst h
  rw [List.set_append_right _ _ (by omega)]; simp









end Go.Proofs.Ytjcobogajkfnmaa
