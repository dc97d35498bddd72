import Derived.Test.YtljlmfnbeofmmaaGreatDoorLnM
import Derived.Test.YtljlmfnbeofmmaaGreatDoorRec
namespace Go.Proofs.YtljlmfnbeofmmaaGreatDoor
open Go.RowKit

def stC (s : Int × Int) : List Value := [.int .i64 s.1, .int .i64 s.2]

theorem stC_ok : EncOk stC 2 := ⟨fun _ => rfl, fun x u hu => by simp [stC] at hu; rcases hu with rfl | rfl <;> rfl, by decide⟩

abbrev StRow (B : Nat) := RowC B 220 2 stC
abbrev StSrc := @SrcC (Int × Int) 2 stC

theorem Tryz.infoSt : (Tryz.prog.info? 220).map (fun i => (i.zero, i.size, i.bytes)) = some (some (.agg #[.int .i64 0, .int .i64 0]), 2, 16) := by kernel_rfl

theorem step_new (w : World) (x y : Int) : CellsAt (w.alloc (.cells #[.int .i64 x, .int .i64 y] 220)) ⟨w.heap.size, 0, none⟩ ([(x, y)].flatMap stC) := by
 intro j u hu
 match j, hu with
 | 0, hu => simp [stC] at hu; subst hu; simp [addAt]
 | 1, hu => simp [stC] at hu; subst hu; simp [addAt]
 | j + 2, hu => simp [stC] at hu

theorem wpList_append_step {ops : Array Oper} {rest : List Oper} {o : Oper} {a : Act} {Q : Exit → Act → World → Prop} (w : World) (B : Nat) (hgd : o.guard = none) (s x : Operand)
  (ho : o.op = .call { callee := .builtin .append, args := #[s, x], argTypes := #[172, 172] })
  (v : Value) (ss : List (Int × Int)) (hs : a.eval s = v) (hrow : StRow B w v ss) (ad : Addr) (y : Int × Int) (hx : a.eval x = .slice (some ad) 1 1) (hcs : CellsAt w ad ([y].flatMap stC)) (hlen : ss.length + 1 ≤ 1000000000) (hB : B ≤ w.heap.size)
  (h : ∀ v' w', StRow B w' v' (ss ++ [y]) → w.grownBy w' v.ownBlock → wpList Tryz.prog ops Q rest (a.put o.dst v') w') : wpList Tryz.prog ops Q (o :: rest) a w :=
 wpList_append_c w stC 2 stC_ok (by decide) B 172 220 (.agg #[.int .i64 0, .int .i64 0]) 16 Tryz.underlying172 Tryz.infoSt rfl (by decide) hgd s x ho v ss hs hrow ad 1 1 [y] hx rfl hcs hlen hB h

abbrev Over (B : Nat) (k : Nat) : Prop := B ≤ k

def lensOk (zs : List Int) : Bool := !(zs.any (badI 0 15))

theorem lensOk_iff (zs : List Int) : lensOk zs = true ↔ ∀ z ∈ zs, 0 ≤ z ∧ z ≤ 15 := by
 simp only [lensOk, Bool.not_eq_true', List.any_eq_false, badI]
 constructor
 ·intro h z hz; have := h z hz; simp at this; omega
 ·intro h z hz; have := h z hz; simp; omega

end Go.Proofs.YtljlmfnbeofmmaaGreatDoor
