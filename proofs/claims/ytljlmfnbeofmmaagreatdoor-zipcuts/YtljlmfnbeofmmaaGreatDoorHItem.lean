import Derived.Test.YtljlmfnbeofmmaaGreatDoorHPack
import Derived.Test.YtljlmfnbeofmmaaGreatDoorHRis
import Derived.Deep.RegionLaw
namespace Go.Proofs.YtljlmfnbeofmmaaGreatDoor
open Go.RowKit

def itC (x : Nat × Bool) : List Value := [.int .i64 (x.1 : Int), .bool x.2]
def cellsOfI (its : List (Nat × Bool)) : List Value := its.flatMap itC

theorem cellsOfI_get (its : List (Nat × Bool)) (j : Nat) (h : j < its.length) : (cellsOfI its)[j * 2]? = some (.int .i64 (its[j].1 : Int)) ∧ (cellsOfI its)[j * 2 + 1]? = some (.bool its[j].2) := by
 induction its generalizing j with
 | nil => simp at h
 | cons a r ih =>
  cases j with
  | zero => simp [cellsOfI, itC]
  | succ j =>
   have := ih j (by simpa using h)
   have e : cellsOfI (a :: r) = .int .i64 (a.1 : Int) :: .bool a.2 :: cellsOfI r := rfl
   rw [e, show (j + 1) * 2 = j * 2 + 1 + 1 by omega]
   simpa using this

abbrev TRow (B : Nat) (w : World) (v : Value) (its : List (Nat × Bool)) : Prop := w.ownsRow B 248 2 v its.length (cellsOfI its)

theorem TRow.kept {F : Nat → Prop} {B : Nat} {w w' : World} {v : Value} {its : List (Nat × Bool)} (h : TRow B w v its) (hk : Kept F w w') (hn : ∀ k, v.ownBlock = some k → ¬ F k) : TRow B w' v its := by
 refine ⟨h.1, ?_⟩
 rcases h.2 with hn' | ⟨g, cap, cur, rfl, hb, hgg, rest⟩
 ·exact .inl hn'
 ·refine .inr ⟨g, cap, cur, rfl, hb, ?_, rest⟩
  rw [hk.block g (Array.getElem?_eq_some_iff.1 hgg).1 (hn g rfl)]
  exact hgg

theorem TRow.nil {B : Nat} {w : World} : TRow B w (.slice none 0 0) [] := World.ownsRow_nil w B _ 2
theorem TRow.lt {B : Nat} {w : World} {v : Value} {its : List (Nat × Bool)} (h : TRow B w v its) {k : Nat} (hk : v.ownBlock = some k) : k < w.heap.size := (World.ownsRow.lt h k hk).2
theorem TRow.ge {B : Nat} {w : World} {v : Value} {its : List (Nat × Bool)} (h : TRow B w v its) {k : Nat} (hk : v.ownBlock = some k) : B ≤ k := (World.ownsRow.lt h k hk).1

theorem TRow.shape {B : Nat} {w : World} {v : Value} {its : List (Nat × Bool)} (h : TRow B w v its) : ∃ ao cap, v = .slice ao its.length cap ∧ its.length ≤ cap ∧ (its ≠ [] → ∃ g, ao = some ⟨g, 0, none⟩ ∧ g < w.heap.size ∧ ∀ j (_ : j < its.length), w.cell? ⟨g, j * 2, none⟩ = some (.int .i64 (its[j].1 : Int)) ∧ w.cell? ⟨g, j * 2 + 1, none⟩ = some (.bool its[j].2)) := by
 rcases id h.2 with ⟨rfl, hn⟩ | ⟨g, cap, cur, rfl, _, _, h1, h2, _⟩
 ·exact ⟨none, 0, by rw [hn], by omega, fun hb => absurd (List.eq_nil_of_length_eq_zero hn) hb⟩
 ·refine ⟨_, cap, rfl, h1, fun _ => ⟨g, rfl, h.lt rfl, fun j hj => ?_⟩⟩
  have hc := cellsOfI_get its j hj
  exact ⟨by rw [World.ownsRow.cellAt h (j * 2) (by omega)]; exact hc.1, by rw [World.ownsRow.cellAt h (j * 2 + 1) (by omega)]; exact hc.2⟩

theorem Tryz.infoT : (Tryz.prog.info? 248).map (fun i => (i.zero, i.size, i.bytes)) = some (some (.agg #[.int .i64 0, .bool false]), 2, 16) := by kernel_rfl

theorem item_new (w : World) (x : Nat) (b : Bool) : CellsAt (w.alloc (.cells #[.int .i64 (x : Int), .bool b] 248)) ⟨w.heap.size, 0, none⟩ (itC (x, b)) := by
 intro j u hu
 match j, hu with
 | 0, hu => simp [itC] at hu; subst hu; simp [addAt]
 | 1, hu => simp [itC] at hu; subst hu; simp [addAt]
 | j + 2, hu => simp [itC] at hu

theorem wpList_append_item {ops : Array Oper} {rest : List Oper} {o : Oper} {a : Act} {Q : Exit → Act → World → Prop} (w : World) (B : Nat) (hgd : o.guard = none) (s x : Operand)
  (ho : o.op = .call { callee := .builtin .append, args := #[s, x], argTypes := #[246, 246] })
  (v : Value) (its : List (Nat × Bool)) (hs : a.eval s = v) (hrow : TRow B w v its) (ad : Addr) (y : Nat × Bool) (hx : a.eval x = .slice (some ad) 1 1) (hcs : CellsAt w ad (itC y)) (hlen : its.length + 1 ≤ 1000000000) (hB : B ≤ w.heap.size)
  (h : ∀ v' w', TRow B w' v' (its ++ [y]) → w.grownBy w' v.ownBlock → wpList Tryz.prog ops Q rest (a.put o.dst v') w') : wpList Tryz.prog ops Q (o :: rest) a w := by
 obtain ⟨i0, hi, hz0, hz1, hz2⟩ := info_parts Tryz.infoT
 refine wpList_append_own w hgd s x 246 ho B 248 i0 _ 2 16 Tryz.underlying246 hi hz0 hz1 hz2 rfl (by decide) v its.length (cellsOfI its) hs hrow ad 1 1 (itC y) hx rfl hcs (by intro u hu; simp [itC] at hu; rcases hu with rfl | rfl <;> rfl) (by simp only [maxLen]; omega) (by omega) hB ?_
 intro v' w' h1 h2 _
 refine h v' w' ?_ h2
 have e : cellsOfI (its ++ [y]) = cellsOfI its ++ itC y := by simp [cellsOfI]
 unfold TRow
 rw [List.length_append, e]
 exact h1

theorem step_append_item {ops : Array Oper} {o : Oper} {a : Act} {w : World} {K : Act → World → Prop} {Q : Exit → Act → World → Prop} {E : Prop} (B : Nat) (hgd : o.guard = none) (s x : Operand)
  (ho : o.op = .call { callee := .builtin .append, args := #[s, x], argTypes := #[246, 246] })
  (v : Value) (its : List (Nat × Bool)) (hs : a.eval s = v) (hrow : TRow B w v its) (ad : Addr) (y : Nat × Bool) (hx : a.eval x = .slice (some ad) 1 1) (hcs : CellsAt w ad (itC y)) (hlen : its.length + 1 ≤ 1000000000) (hB : B ≤ w.heap.size)
  (h : ∀ v' w', TRow B w' v' (its ++ [y]) → w.grownBy w' v.ownBlock → K (a.put o.dst v') w') : if Region.wanted o (yielded ops a.tmps) = true then Oper.wp Tryz.prog o a w K Q else E := by
 have hw : Region.wanted o (yielded ops a.tmps) = true := by simp [Region.wanted, hgd]
 rw [if_pos hw]
 obtain ⟨i0, hi, hz0, hz1, hz2⟩ := info_parts Tryz.infoT
 refine wp_append_own w s x 246 ho B 248 i0 _ 2 16 Tryz.underlying246 hi hz0 hz1 hz2 rfl (by decide) v its.length (cellsOfI its) hs hrow ad 1 1 (itC y) hx rfl hcs (by intro u hu; simp [itC] at hu; rcases hu with rfl | rfl <;> rfl) (by simp only [maxLen]; omega) (by omega) hB ?_
 intro v' w' h1 h2 _
 refine h v' w' ?_ h2
 have e : cellsOfI (its ++ [y]) = cellsOfI its ++ itC y := by simp [cellsOfI]
 unfold TRow
 rw [List.length_append, e]
 exact h1

end Go.Proofs.YtljlmfnbeofmmaaGreatDoor
