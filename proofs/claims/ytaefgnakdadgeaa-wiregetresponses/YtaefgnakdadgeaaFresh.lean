/-
  Rows of bytes in new memory: made with room to spare, appended to.
-/
import Derived.Test.YtaefgnakdadgeaaOwn2
namespace Go.Proofs.Ytaefgnakdadgeaa
open Go.RowKit

/-- append of whatever source of bytes. -/
theorem wpList_append_any {ops : Array Oper} {rest : List Oper} {o : Oper} {a : Act} {Q : Exit → Act → World → Prop} (w : World) (hgd : o.guard = none) (s x : Operand)
    (ho : o.op = .call { callee := .builtin .append, args := #[s, x], argTypes := #[26, 26] })
    (v : Value) (bs : List Nat) (hs : a.eval s = v) (hrow : Row w v bs) (I : Nat → Prop) (xv : Value) (cs : List Nat) (hx : a.eval x = xv) (hnil : ∀ n c, xv = .slice none n c → n = 0 ∧ c = 0) (hsrc : Src w I xv cs) (hlen : bs.length + cs.length ≤ 1000000000000)
    (h : ∀ v' w', Row w' v' (bs ++ cs) → w.grownBy w' v.ownBlock → (v'.ownBlock = v.ownBlock ∨ v'.ownBlock = some w.heap.size) → wpList Try.prog ops Q rest (a.put o.dst v') w') : wpList Try.prog ops Q (o :: rest) a w := by
  obtain ⟨ao, cap, rfl, hc⟩ := id hsrc
  cases ao with
  | some ad =>
    refine wpList_append_row w hgd s x ho v bs hs hrow ad cs.length cap cs hx rfl ?_ hlen h
    by_cases h0 : cs = []
    · subst h0; intro j u hu; simp at hu
    · obtain ⟨a', e, hb⟩ := (Src.at hsrc).2 h0
      injection e with e
      subst e
      exact hb
  | none =>
    obtain ⟨h0, h1⟩ := hnil _ _ rfl
    have hcs : cs = [] := List.eq_nil_of_length_eq_zero h0
    subst hcs h1
    obtain ⟨i0, hi, hz0, hz1, hz2⟩ := info_parts Try.info8
    refine wpList_plain hgd fun K hK => ?_
    have hr := run_append_owned_none (P := Try.prog) w 0 26 o.type 5 i0 1 Try.underlying26 hi v bs.length (bs.map byteV) hrow
    unfold Oper.wp execOp
    simp only [ho, resolve, invoke, builtin, Sem.run_bind, Sem.run_pure, Result.andThen_ok, List.map_toArray, List.map_cons, List.map_nil, hs, hx, List.length_nil, hr]
    exact hK _ _ (h v w (by simpa using hrow) (World.grownBy.refl _ _) (.inl rfl))

/-- A row with fewer of its cells in sight. -/
theorem Row.cut {w : World} {g n cap : Nat} {bs cs : List Nat} (h : Row w (.slice (some ⟨g, 0, none⟩) n cap) (bs ++ cs)) : Row w (.slice (some ⟨g, 0, none⟩) bs.length cap) bs := by
  rcases h.2 with ⟨h', _⟩ | ⟨g', cap', cur, h', hb, hgg, hnc, hcm, hcs, htake⟩
  · simp at h'
  · simp only [Value.slice.injEq, Option.some.injEq, Addr.mk.injEq, and_true] at h'
    obtain ⟨rfl, rfl, rfl⟩ := h'
    refine ⟨by simp, .inr ⟨g, cap, cur, rfl, hb, hgg, ?_, hcm, hcs, ?_⟩⟩
    · simp at hnc; omega
    · simp only [Nat.mul_one, List.length_append] at htake ⊢
      have e : List.take bs.length cur.toList = List.take bs.length (List.take (bs.length + cs.length) cur.toList) := by rw [List.take_take]; congr 1; omega
      rw [e, htake, List.map_append, List.take_append, List.take_of_length_le (by simp)]
      simp

/-- make([]byte, n, c). -/
theorem wpList_make_room {ops : Array Oper} {rest : List Oper} {o : Oper} {a : Act} {Q : Exit → Act → World → Prop} (w : World) (hg : o.guard = none) (l c : Operand) (hop : o.op = Op.makeSlice 26 l c) (kl kc : IntKind) (L C : Int) (n m : Nat)
    (hl : a.eval l = .int kl L) (hc : a.eval c = .int kc C) (hL : L = (n : Int)) (hC : C = (m : Int)) (hnm : n ≤ m) (hn : m ≤ 1000000000000)
    (hK : ∀ w', Row w' (.slice (some ⟨w.heap.size, 0, none⟩) n m) (List.replicate n 0) → w.grownBy w' none → w.heap.size < w'.heap.size → wpList Try.prog ops Q rest (a.put o.dst (.slice (some ⟨w.heap.size, 0, none⟩) n m)) w') : wpList Try.prog ops Q (o :: rest) a w := by
  obtain ⟨i0, hi, hz0, hz1, hz2⟩ := info_parts Try.info8
  have hr := run_make (P := Try.prog) w 26 5 i0 (.int .u8 0) Try.underlying26 hi hz0 kl kc n m (by omega) (by omega) (by rw [hz2]; omega) (by omega)
  obtain ⟨w1, hr1, ho1, hg1⟩ := run_make_full (P := Try.prog) w 0 26 5 i0 (.int .u8 0) 1 Try.underlying26 hi hz0 hz1 kl kc m (by rw [hz2]; omega) (by simp only [maxLen]; omega) (Nat.zero_le _)
  have hr2 := run_make (P := Try.prog) w 26 5 i0 (.int .u8 0) Try.underlying26 hi hz0 kl kc m m (by omega) (Int.le_refl _) (by rw [hz2]; omega) (by omega)
  rw [hr1] at hr2
  simp only [Result.ok.injEq] at hr2
  simp only [Int.toNat_natCast] at hr hr2
  rw [← hr2.2] at hr
  have e : (Value.int .u8 0).cells = #[.int .u8 0] := rfl
  rw [e, Nat.mul_one, toList_madeCells_one] at ho1
  have ho2 : Row w1 (.slice (some ⟨w.heap.size, 0, none⟩) m m) (List.replicate n 0 ++ List.replicate (m - n) 0) := by
    refine row_mk ho1 ?_
    rw [List.replicate_append_replicate, show n + (m - n) = m by omega]
    simp [byteV]
  have ho3 := Row.cut ho2
  rw [List.length_replicate] at ho3
  refine wpList_plain hg fun K hK' => ?_
  unfold Oper.wp
  subst hL hC
  simp [execOp, hop, hl, hc, hr, Result.andThen]
  exact hK' _ _ (hK w1 ho3 hg1 (World.ownsRow.lt ho1 w.heap.size rfl).2)

/-- A row of bytes that lies in memory which was not there before. -/
structure Fresh (w w' : World) (v : Value) (bs : List Nat) : Prop where
  row : Row w' v bs
  kept : Kept (fun _ => False) w w'
  new : ∀ k, v.ownBlock = some k → w.heap.size ≤ k

theorem Fresh.app {w wr w1 : World} {v1 v' : Value} {bs cs : List Nat} {o : Obj} (h : Fresh w wr v1 bs) (hrow : Row w1 v' (bs ++ cs)) (hg : (wr.alloc o).grownBy w1 v1.ownBlock) (ho : v'.ownBlock = v1.ownBlock ∨ v'.ownBlock = some (wr.alloc o).heap.size) : Fresh w w1 v' (bs ++ cs) := by
  have hsz := h.kept.size
  refine ⟨hrow, Kept.grown (h.kept.alloc o) hg (fun k e => .inr (h.new k e)), ?_⟩
  rcases ho with e | e
  · intro k hk; exact h.new k (by rw [← e, hk])
  · intro k hk; rw [e] at hk; simp at hk; omega

theorem Fresh.app' {w wr w1 : World} {v1 v' : Value} {bs cs : List Nat} (h : Fresh w wr v1 bs) (hrow : Row w1 v' (bs ++ cs)) (hg : wr.grownBy w1 v1.ownBlock) (ho : v'.ownBlock = v1.ownBlock ∨ v'.ownBlock = some wr.heap.size) : Fresh w w1 v' (bs ++ cs) := by
  have hsz := h.kept.size
  refine ⟨hrow, Kept.grown h.kept hg (fun k e => .inr (h.new k e)), ?_⟩
  rcases ho with e | e
  · intro k hk; exact h.new k (by rw [← e, hk])
  · intro k hk; rw [e] at hk; simp at hk; omega

theorem Fresh.later {w w0 w1 : World} {v : Value} {bs : List Nat} {F : Nat → Prop} (h : Fresh w w0 v bs) (hk : Kept F w0 w1) (hF : ∀ k, F k → w0.heap.size ≤ k) : Fresh w w1 v bs := by
  refine ⟨h.row.kept hk (fun k e f => by have := h.row.lt e; have := hF k f; omega), ?_, h.new⟩
  have hsz := h.kept.size
  refine ⟨hk.os.trans h.kept.os, hk.tape.trans h.kept.tape, hk.output.trans h.kept.output, Nat.le_trans h.kept.size hk.size, fun k hlt _ => ?_⟩
  exact (hk.block k (Nat.lt_of_lt_of_le hlt hsz) (fun f => by have := hF k f; omega)).trans (h.kept.block k hlt (fun f => f))

end Go.Proofs.Ytaefgnakdadgeaa
