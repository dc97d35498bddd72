/-
  append of a text as a step of a region that draws its order.
-/
import Derived.Test.YtaefgnakdadgeaaAppS
import Derived.Deep.RegionLaw
namespace Go.Proofs.Ytaefgnakdadgeaa
open Go.RowKit

theorem step_append_txt {ops : Array Oper} {o : Oper} {a : Act} {w : World} {K : Act → World → Prop} {Q : Exit → Act → World → Prop} {E : Prop} (hgd : o.guard = none) (s x : Operand)
    (ho : o.op = .call { callee := .builtin .append, args := #[s, x], argTypes := #[26, 9] })
    (w0 : World) (v : Value) (bs : List Nat) (hs : a.eval s = v) (hf : Fresh w0 w v bs) (T : ByteArray) (hx : a.eval x = .string T) (hlen : bs.length + T.size ≤ 1000000000000)
    (h : ∀ v' w', Fresh w0 w' v' (bs ++ sb T) → K (a.put o.dst v') w') : if Region.wanted o (yielded ops a.tmps) = true then Oper.wp Try.prog o a w K Q else E := by
  have hw : Region.wanted o (yielded ops a.tmps) = true := by simp [Region.wanted, hgd]
  rw [if_pos hw]
  obtain ⟨i0, hi, hz0, hz1, hz2⟩ := info_parts Try.info8
  have hown : w.ownsRow w0.heap.size 5 1 v bs.length (bs.map byteV) := by
    refine ⟨hf.row.1, ?_⟩
    rcases hf.row.2 with h1 | ⟨g, cap, cur, rfl, h0, h2⟩
    · exact .inl h1
    · exact .inr ⟨g, cap, cur, rfl, hf.new g rfl, h2⟩
  obtain ⟨v', w', hr, h1, h2, _⟩ := Lib.run_append_own_string (P := Try.prog) w w0.heap.size 26 9 o.type 5 i0 Try.underlying26 Try.underlying9 hi hz0 hz1 hz2 v bs.length (bs.map byteV) hown T (by simp only [maxLen]; omega) (by omega) hf.kept.size
  unfold Oper.wp
  simp [execOp, ho, resolve, invoke, builtin, hs, hx, hr, Result.andThen]
  refine h v' w' ⟨?_, hf.kept.grown h2 (fun k e => .inr (hf.new k e)), fun k e => (World.ownsRow.lt h1 k e).1⟩
  have hst : Lib.strCells T = (sb T).map byteV := by
    have := strCs (sb T) (sb_lt T)
    rw [txt_sb] at this
    exact this
  rw [hst, ← List.map_append, ← sb_size] at h1
  have h3 : w'.ownsRow 0 5 1 v' (bs.length + (sb T).length) ((bs ++ sb T).map byteV) := by
    refine ⟨h1.1, ?_⟩
    rcases h1.2 with h4 | ⟨g, cap, cur, h5, _, h6⟩
    · exact .inl h4
    · exact .inr ⟨g, cap, cur, h5, Nat.zero_le _, h6⟩
  show w'.ownsRow 0 5 1 v' (bs ++ sb T).length ((bs ++ sb T).map byteV)
  rw [List.length_append]
  exact h3

end Go.Proofs.Ytaefgnakdadgeaa
