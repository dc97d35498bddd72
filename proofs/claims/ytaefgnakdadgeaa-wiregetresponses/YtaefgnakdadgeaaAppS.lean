/-
  A text appended to bytes of one's own; a row that is written out.
-/
import Derived.Test.YtaefgnakdadgeaaFresh
import Derived.Test.YtaefgnakdadgeaaTxtW
import Derived.Lib.AppendStr
namespace Go.Proofs.Ytaefgnakdadgeaa
open Go.RowKit

theorem strCs (cs : List Nat) (h : ∀ b ∈ cs, b < 256) : Lib.strCells (txt cs) = cs.map byteV := by
  unfold Lib.strCells txt
  simp only [List.map_map]
  refine List.map_congr_left (fun b hb => ?_)
  have := h b hb
  simp only [Function.comp_apply, UInt8.toNat_ofNat', byteV]
  congr 1
  omega

/-- A text appended to what is one's own and new. -/
theorem wpList_append_txt {ops : Array Oper} {rest : List Oper} {o : Oper} {a : Act} {Q : Exit → Act → World → Prop} (w : World) (hgd : o.guard = none) (s x : Operand)
    (ho : o.op = .call { callee := .builtin .append, args := #[s, x], argTypes := #[26, 9] })
    (w0 : World) (v : Value) (bs : List Nat) (hs : a.eval s = v) (hf : Fresh w0 w v bs) (cs : List Nat) (hx : a.eval x = .string (txt cs)) (hc : ∀ b ∈ cs, b < 256) (hlen : bs.length + cs.length ≤ 1000000000000)
    (h : ∀ v' w', Fresh w0 w' v' (bs ++ cs) → wpList Try.prog ops Q rest (a.put o.dst v') w') : wpList Try.prog ops Q (o :: rest) a w := by
  obtain ⟨i0, hi, hz0, hz1, hz2⟩ := info_parts Try.info8
  have hsz := txt_size cs
  have hown : w.ownsRow w0.heap.size 5 1 v bs.length (bs.map byteV) := by
    refine ⟨hf.row.1, ?_⟩
    rcases hf.row.2 with h1 | ⟨g, cap, cur, rfl, h0, h2⟩
    · exact .inl h1
    · exact .inr ⟨g, cap, cur, rfl, hf.new g rfl, h2⟩
  refine Lib.wpList_append_own_string (P := Try.prog) w hgd s x 26 9 ho w0.heap.size 5 i0 Try.underlying26 Try.underlying9 hi hz0 hz1 hz2 v bs.length (bs.map byteV) hs hown (txt cs) hx (by simp only [maxLen]; omega) (by omega) hf.kept.size ?_
  intro v' w' h1 h2 _
  refine h v' w' ⟨?_, hf.kept.grown h2 (fun k e => .inr (hf.new k e)), fun k e => (World.ownsRow.lt h1 k e).1⟩
  rw [strCs cs hc, hsz, ← List.map_append] at h1
  have h3 : w'.ownsRow 0 5 1 v' (bs.length + cs.length) ((bs ++ cs).map byteV) := by
    refine ⟨h1.1, ?_⟩
    rcases h1.2 with h4 | ⟨g, cap, cur, h5, _, h6⟩
    · exact .inl h4
    · exact .inr ⟨g, cap, cur, h5, Nat.zero_le _, h6⟩
  show w'.ownsRow 0 5 1 v' (bs ++ cs).length ((bs ++ cs).map byteV)
  rw [List.length_append]
  exact h3

/-- A row that is written out. -/
theorem fresh_lit (w0 w : World) (hk : Same w0 w) (cs : List Nat) (n : Nat) (hn : cs.length = n) (hm : n ≤ 1000) : Fresh w0 (w.alloc (.cells (cs.map byteV).toArray 5)) (.slice (some ⟨w.heap.size, 0, none⟩) n n) cs := by
  refine ⟨?_, hk.alloc _, fun k e => by cases e; exact hk.size⟩
  subst hn
  refine ⟨by simp, .inr ⟨w.heap.size, cs.length, (cs.map byteV).toArray, rfl, Nat.zero_le _, Blk.new w _ _, Nat.le_refl _, by simp only [maxLen]; omega, by simp, ?_⟩⟩
  simp only [Nat.mul_one]
  exact List.take_of_length_le (by simp)

theorem fresh_nil (w : World) (n : Nat) (hn : n = 0) : Fresh w w (.slice none n 0) [] := by
  subst hn
  exact ⟨World.ownsRow_nil w 0 5 1, Kept.refl _ _, fun k e => by cases e⟩

end Go.Proofs.Ytaefgnakdadgeaa
