/-
  append onto a row of bytes of one's own: where the row lies then.
-/
import Derived.Test.YtaefgnakdadgeaaProg
import Derived.Test.YtaefgnakdadgeaaBase
namespace Go.Proofs.Ytaefgnakdadgeaa
open Go.RowKit

theorem Try.info8 : (Try.prog.info? 5).map (fun i => (i.zero, i.size, i.bytes)) = some (some (.int .u8 0), 1, 1) := by kernel_rfl

theorem addAt (b o j : Nat) : (⟨b, o, none⟩ : Addr).add j = ⟨b, o + j, none⟩ := by unfold Addr.add; simp

/-- The bytes that lie behind a slice's address. -/
def BytesAt (w : World) (a : Addr) (cs : List Nat) : Prop := ∀ j u, (cs.map byteV)[j]? = some u → w.cell? (a.add j) = some u

theorem run_append_row (w : World) (ty : TypeId) (v : Value) (bs : List Nat) (hrow : Row w v bs) (a : Addr) (c : Nat) (cs : List Nat) (hcs : BytesAt w a cs) (hlen : bs.length + cs.length ≤ 1000000000000) :
    ∃ v' w', (Builtin.append_ #[26, 26] ty #[v, .slice (some a) cs.length c]).run Try.prog w = .ok v' w' ∧ Row w' v' (bs ++ cs) ∧ w.grownBy w' v.ownBlock ∧
      (v'.ownBlock = v.ownBlock ∨ v'.ownBlock = some w.heap.size) := by
  obtain ⟨i0, hi, hz0, hz1, hz2⟩ := info_parts Try.info8
  have hl : (cs.map byteV).length = cs.length * 1 := by simp
  have hmax : bs.length + cs.length ≤ maxLen := by simp only [maxLen]; omega
  obtain ⟨v', w', hr, ho, hg, _⟩ := run_append_own (P := Try.prog) w 0 26 ty 5 i0 (.int .u8 0) 1 1 Try.underlying26 hi hz0 hz1 hz2 rfl (by decide) v bs.length (bs.map byteV) hrow a cs.length c (cs.map byteV) hl hcs (byteV_one _) hmax (by omega) (Nat.zero_le _)
  refine ⟨v', w', hr, by simpa [Row] using ho, hg, ?_⟩
  have hsz : i0.size = 1 := hz1
  rcases hrow.2 with ⟨rfl, hn⟩ | ⟨g, cap, cur, rfl, _⟩
  · by_cases hm : cs.length = 0
    · have e0 : cs = [] := List.eq_nil_of_length_eq_zero hm
      have hb0 : bs = [] := List.eq_nil_of_length_eq_zero hn
      subst e0 hb0
      rcases ho.2 with ⟨e, _⟩ | ⟨g', cap', cur', e, _, hh, _⟩
      · exact .inl (by rw [e])
      · by_cases hlt : g' < w.heap.size
        · exfalso
          have hr2 : (Builtin.append_ #[26, 26] ty #[.slice none 0 0, .slice (some a) ([] : List Nat).length c]).run Try.prog w = .ok (.slice none 0 0) w := by
            simp [Builtin.append_, run_underlying Try.underlying26, sizeOf, typeInfo, hi, Builtin.lenOf, Builtin.firstCells, loadCells, loadCellsFrom]
          rw [hr] at hr2
          simp only [Result.ok.injEq] at hr2
          rw [e] at hr2
          simp at hr2
        · exfalso
          have hr2 : (Builtin.append_ #[26, 26] ty #[.slice none 0 0, .slice (some a) ([] : List Nat).length c]).run Try.prog w = .ok (.slice none 0 0) w := by
            simp [Builtin.append_, run_underlying Try.underlying26, sizeOf, typeInfo, hi, Builtin.lenOf, Builtin.firstCells, loadCells, loadCellsFrom]
          rw [hr] at hr2
          simp only [Result.ok.injEq] at hr2
          rw [e] at hr2
          simp at hr2
    · have hr2 := run_append_nil (P := Try.prog) w 26 ty 5 i0 (.int .u8 0) Try.underlying26 hi hz0 a cs.length c (cs.map byteV) (by rw [hsz]; simp) hcs (by omega) (by omega) (by rw [hz2]; omega)
      rw [hr] at hr2
      simp only [Result.ok.injEq] at hr2
      exact .inr (by rw [hr2.1]; rfl)
  · by_cases hroom : bs.length + cs.length ≤ cap
    · obtain ⟨w2, hr2, _⟩ := run_append_fits (P := Try.prog) w 0 26 ty 5 i0 1 Try.underlying26 hi hz1 g bs.length cap (bs.map byteV) hrow a cs.length c (cs.map byteV) hl hcs (byteV_one _) hroom
      rw [hr] at hr2
      simp only [Result.ok.injEq] at hr2
      exact .inl (by rw [hr2.1]; rfl)
    · have hr2 := run_append_grow (P := Try.prog) w 26 ty 5 i0 (.int .u8 0) Try.underlying26 hi hz0 ⟨g, 0, none⟩ bs.length cap (bs.map byteV) (by rw [hsz]; simp) (hrow.cells (g := g) rfl) a cs.length c (cs.map byteV) (by rw [hsz]; simp) hcs (by omega) (by omega) (growslice_fits (by omega) (by rw [hz2]; omega))
      rw [hr] at hr2
      simp only [Result.ok.injEq] at hr2
      exact .inr (by rw [hr2.1]; rfl)

/-- The same, as a step of a walk. -/
theorem wpList_append_row {ops : Array Oper} {rest : List Oper} {o : Oper} {a : Act} {Q : Exit → Act → World → Prop} (w : World) (hgd : o.guard = none) (s x : Operand)
    (ho : o.op = .call { callee := .builtin .append, args := #[s, x], argTypes := #[26, 26] })
    (v : Value) (bs : List Nat) (hs : a.eval s = v) (hrow : Row w v bs) (ad : Addr) (m c : Nat) (cs : List Nat) (hx : a.eval x = .slice (some ad) m c) (hm : cs.length = m) (hcs : BytesAt w ad cs) (hlen : bs.length + cs.length ≤ 1000000000000)
    (h : ∀ v' w', Row w' v' (bs ++ cs) → w.grownBy w' v.ownBlock → (v'.ownBlock = v.ownBlock ∨ v'.ownBlock = some w.heap.size) → wpList Try.prog ops Q rest (a.put o.dst v') w') : wpList Try.prog ops Q (o :: rest) a w := by
  subst hm
  refine wpList_plain hgd fun K hK => ?_
  obtain ⟨v', w', hr, h2, h3, h4⟩ := run_append_row w o.type v bs hrow ad c cs hcs hlen
  unfold Oper.wp execOp
  simp only [ho, resolve, invoke, builtin, Sem.run_bind, Sem.run_pure, Result.andThen_ok, List.map_toArray, List.map_cons, List.map_nil, hs, hx, hr]
  exact hK _ _ (h v' w' h2 h3 h4)

/-- One byte that was just laid. -/
theorem bytesAt_new (w : World) (n : Nat) : BytesAt (w.alloc (.cells #[.int .u8 n] 5)) ⟨w.heap.size, 0, none⟩ [n] := by
  intro j u hu
  match j, hu with
  | 0, hu => simp [byteV] at hu; subst hu; simp [addAt]

end Go.Proofs.Ytaefgnakdadgeaa
