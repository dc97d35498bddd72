/-
  make and copy over rows of bytes; a slice of bytes that is read.
-/
import Derived.Test.YtaefgnakdadgeaaOwn
namespace Go.Proofs.Ytaefgnakdadgeaa
open Go.RowKit

theorem Try.size8 : (Try.prog.info? 5).map (·.size) = some 1 := by kernel_rfl

/-- A slice of bytes that can be read; its block fits I. -/
def Src (w : World) (I : Nat → Prop) (v : Value) (cs : List Nat) : Prop :=
  ∃ ao cap, v = .slice ao cs.length cap ∧ (cs ≠ [] → ∃ b o, ao = some ⟨b, o, none⟩ ∧ I b ∧ ∀ j (_ : j < cs.length), w.cell? ⟨b, o + j, none⟩ = some (.int .u8 (cs[j] : Nat)))

theorem Src.ofRow {w : World} {v : Value} {bs : List Nat} (h : Row w v bs) : Src w (fun k => v.ownBlock = some k) v bs := by
  obtain ⟨ao, cap, hv, hg⟩ := h.shape
  refine ⟨ao, cap, hv, fun hne => ?_⟩
  obtain ⟨g, hg⟩ := hg hne
  subst hg hv
  refine ⟨g, 0, rfl, rfl, fun j hj => ?_⟩
  rw [Nat.zero_add]
  exact Row.cell h j hj

theorem Src.mono {w : World} {I J : Nat → Prop} {v : Value} {cs : List Nat} (h : Src w I v cs) (hJ : ∀ k, I k → J k) : Src w J v cs := by
  obtain ⟨ao, cap, hv, hc⟩ := h
  refine ⟨ao, cap, hv, fun hne => ?_⟩
  obtain ⟨b, o, h1, h2, h3⟩ := hc hne
  exact ⟨b, o, h1, hJ b h2, h3⟩

theorem Src.kept {F I : Nat → Prop} {w w' : World} {v : Value} {cs : List Nat} (h : Src w I v cs) (hk : Kept F w w') (hn : ∀ k, I k → k < w.heap.size → ¬ F k) : Src w' I v cs := by
  obtain ⟨ao, cap, hv, hc⟩ := h
  refine ⟨ao, cap, hv, fun hne => ?_⟩
  obtain ⟨b, o, h1, h2, h3⟩ := hc hne
  have hlen : 0 < cs.length := List.length_pos_iff.2 hne
  have hb : b < w.heap.size := World.block_lt_of_cell? w _ (h3 0 hlen)
  exact ⟨b, o, h1, h2, fun j hj => hk.cell (h3 j hj) (hn b h2 hb)⟩

/-- A source as append and copy ask for it. -/
theorem Src.at {w : World} {I : Nat → Prop} {ao : Option Addr} {n cap : Nat} {cs : List Nat} (h : Src w I (.slice ao n cap) cs) : n = cs.length ∧ (cs ≠ [] → ∃ a, ao = some a ∧ BytesAt w a cs) := by
  obtain ⟨ao', cap', hv, hc⟩ := h
  injection hv with h1 h2 h3
  subst h1
  refine ⟨h2, fun hne => ?_⟩
  obtain ⟨b, o, h4, _, h6⟩ := hc hne
  refine ⟨_, h4, fun j u hu => ?_⟩
  obtain ⟨hj, hu⟩ := List.getElem?_eq_some_iff.1 hu
  rw [addAt, h6 j (by simpa using hj), ← hu]
  simp [byteV]

theorem row_mk {w : World} {g n cap : Nat} {xs : List Value} {bs : List Nat} (h : w.ownsRow 0 5 1 (.slice (some ⟨g, 0, none⟩) n cap) n xs) (hx : xs = bs.map byteV) : Row w (.slice (some ⟨g, 0, none⟩) n cap) bs := by
  subst hx
  have := h.1
  simp at this
  unfold Row
  rw [this]
  exact h

/-- make([]byte, n). -/
theorem wpList_make_bytes {ops : Array Oper} {rest : List Oper} {o : Oper} {a : Act} {Q : Exit → Act → World → Prop} (w : World) (hg : o.guard = none) (l c : Operand) (hop : o.op = Op.makeSlice 26 l c) (kl kc : IntKind) (L C : Int) (n : Nat)
    (hl : a.eval l = .int kl L) (hc : a.eval c = .int kc C) (hL : L = (n : Int)) (hC : C = (n : Int)) (hn : n ≤ 1000000000000)
    (hK : ∀ w', Row w' (.slice (some ⟨w.heap.size, 0, none⟩) n n) (List.replicate n 0) → w.grownBy w' none → w.heap.size < w'.heap.size → wpList Try.prog ops Q rest (a.put o.dst (.slice (some ⟨w.heap.size, 0, none⟩) n n)) w') : wpList Try.prog ops Q (o :: rest) a w := by
  obtain ⟨i0, hi, hz0, hz1, hz2⟩ := info_parts Try.info8
  refine wpList_make_full w hg l c 26 hop 0 5 i0 (.int .u8 0) 1 Try.underlying26 hi hz0 hz1 kl kc L C n hl hc hL hC (by rw [hz2]; omega) (by simp only [maxLen]; omega) (Nat.zero_le _) ?_
  intro w' h1 h2
  refine hK w' (row_mk h1 ?_) h2 (World.ownsRow.lt h1 w.heap.size rfl).2
  have e : (Value.int .u8 0).cells = #[.int .u8 0] := rfl
  rw [e, Nat.mul_one, toList_madeCells_one]
  simp [byteV]

/-- copy(dst, src) into a row of one's own that is as long as src, or longer. -/
theorem wpList_copy_bytes {ops : Array Oper} {rest : List Oper} {o : Oper} {a : Act} {Q : Exit → Act → World → Prop} (w : World) (hgd : o.guard = none) (d s : Operand) (ho : o.op = .call { callee := .builtin .copy, args := #[d, s], argTypes := #[26, 26] })
    (g n cap : Nat) (sp : Option Addr) (m c : Nat) (ds cs : List Nat) (I : Nat → Prop) (hd : a.eval d = .slice (some ⟨g, 0, none⟩) n cap) (hs : a.eval s = .slice sp m c)
    (hrow : Row w (.slice (some ⟨g, 0, none⟩) n cap) ds) (hsrc : Src w I (.slice sp m c) cs) (hle : cs.length ≤ ds.length)
    (hK : ∀ w', Row w' (.slice (some ⟨g, 0, none⟩) n cap) (cs ++ ds.drop cs.length) → w.grownBy w' (some g) → w'.heap.size = w.heap.size → wpList Try.prog ops Q rest (a.put o.dst (goInt cs.length)) w') : wpList Try.prog ops Q (o :: rest) a w := by
  obtain ⟨rfl, hat⟩ := hsrc.at
  rcases hrow.2 with ⟨h', _⟩ | ⟨g', cap', cur, h', hb, hgg, hnc, hcm, hcs, htake⟩
  · simp at h'
  · simp only [Value.slice.injEq, Option.some.injEq, Addr.mk.injEq, and_true] at h'
    obtain ⟨rfl, rfl, rfl⟩ := h'
    by_cases h0 : cs = []
    · subst h0
      refine wpList_copy_nothing hgd d s _ _ ho 5 Try.underlying26 Try.size8 _ _ _ _ _ _ hd hs (by simp) ?_
      exact hK w (by simpa using hrow) (World.grownBy.refl _ _) rfl
    · obtain ⟨ad, rfl, hbytes⟩ := hat h0
      refine wpList_copy_own hgd d s _ _ ho 5 Try.underlying26 Try.size8 g 0 _ _ ad _ _ hd hs cur 5 hgg (cs.map byteV) (by rw [List.length_map]; exact (Nat.min_eq_left hle).symm) hbytes (by simp; omega) (byteV_one _) ?_
      rw [show (goInt (cs.map byteV).length) = goInt cs.length by simp]
      have e1 : (cs ++ ds.drop cs.length).length = ds.length := by simp; omega
      refine hK _ ?_ ⟨rfl, rfl, rfl, by simp, fun k _ hk => setRow_other w g k _ (fun e => hk (by simp [e]))⟩ (by simp)
      unfold Row
      rw [e1]
      refine ⟨by simp; omega, .inr ⟨g, cap, _, rfl, hb, setRow_heap w g cur _ 5 _ hgg, hnc, hcm, ?_, ?_⟩⟩
      · simp; omega
      · simp only [Nat.mul_one] at htake ⊢
        simp only [List.take_zero, List.nil_append, Nat.zero_add, List.length_map]
        rw [List.map_append, List.map_drop, ← htake, List.drop_take, List.take_append, List.take_of_length_le (by simpa using hle)]
        simp
/-- A mark for the walk: here a copy stands. -/
theorem atCopy {P : Program} {ops : Array Oper} {rest : List Oper} {a : Act} {Q : Exit → Act → World → Prop} {w : World} {dst : Option Tmp} {d s : Operand} {dT sT ty : TypeId} {pos : String} {after : Array Edge}
    (h : wpList P ops Q ({ dst := dst, op := .call { callee := .builtin .copy, args := #[d, s], argTypes := #[dT, sT] }, type := ty, pos := pos, after := after, guard := none } :: rest) a w) :
    wpList P ops Q ({ dst := dst, op := .call { callee := .builtin .copy, args := #[d, s], argTypes := #[dT, sT] }, type := ty, pos := pos, after := after, guard := none } :: rest) a w := h

/-- One byte that was just laid, as a number that was reckoned. -/
theorem bytesAt_int (w : World) (z : Int) (n : Nat) (h : z = (n : Nat)) : BytesAt (w.alloc (.cells #[.int .u8 z] 5)) ⟨w.heap.size, 0, none⟩ [n] := by
  subst h; exact bytesAt_new w n

end Go.Proofs.Ytaefgnakdadgeaa
