/-
  Of the proof: parts MtZ.
-/
import Derived.Test.YtggcbnhckcenmaaGreatDoorJ21
import Derived.Test.YtggcbnhckcenmaaGreatDoorJ22
import Derived.Test.YtggcbnhckcenmaaGreatDoorJ5

/-
  The law MatchFinds.
-/
namespace Go.Proofs.YtggcbnhckcenmaaGreatDoor
open Go.RowKit Go.Shelf

attribute [local go_sem] Oper.semAt_some

/-- Ahead of round k of a range whose rounds count in block b. -/
structure NI (w : World) (b : Nat) (k : Nat) (W : World) : Prop where
  cell : W.cell? ⟨b, 0, none⟩ = some (.int .i64 (k : Nat))
  frozen : W.frozen? ⟨b, 0, none⟩ = false
  kept : Kept (fun j => j = b ∨ w.heap.size ≤ j) w W
  lt : b < w.heap.size

theorem NI.more {w W W' : World} {b k : Nat} {G : Nat → Prop} (h : NI w b k W) (hk : Kept G W W') (hG : ¬ G b) (hB : ∀ j, G j → w.heap.size ≤ j) : NI w b k W' :=
  ⟨hk.cell h.cell hG, (hk.frozen (p := ⟨b, 0, none⟩) (World.block_lt_of_cell? W _ h.cell) hG).trans h.frozen, Kept.trans h.kept hk (fun _ _ f => f) (fun j _ g => .inr (hB j g)), h.lt⟩

theorem NI.next {w W : World} {b k : Nat} (h : NI w b k W) (m : Nat) : Kf (fun _ j => j = b) W ((W.drewN m).setCell ⟨b, 0, none⟩ (.int .i64 ((k : Int) + 1))) ∧ NI w b (k + 1) ((W.drewN m).setCell ⟨b, 0, none⟩ (.int .i64 ((k : Int) + 1))) := by
  have hk : Kept (fun j => j = b) W ((W.drewN m).setCell ⟨b, 0, none⟩ (.int .i64 ((k : Int) + 1))) := ((Kept.refl (fun j => j = b) W).drewN m).setCell _ _ (.inl rfl)
  refine ⟨⟨hk, fun j e => .inl e⟩, ?_, ?_, Kept.trans h.kept hk (fun _ _ f => f) (fun j _ e => .inl e), h.lt⟩
  · rw [World.cell?_setCell_same' _ _ _ (by rw [show (W.drewN m).cell? ⟨b, 0, none⟩ = W.cell? ⟨b, 0, none⟩ from rfl, h.cell]; rfl), show (((k + 1 : Nat)) : Int) = (k : Int) + 1 from by omega]
  · rw [World.frozen?_setCell]; exact h.frozen

theorem inBlock_either {Q : Exit → Act → World → Prop} {id : Nat} {e : Exit} {a : Act} {w : World} (he : e = .normal ∨ e = .exit id) (h : Q .normal a w) : Exit.inBlock id Q e a w := by
  rcases he with rfl | rfl
  · simpa [Exit.inBlock] using h
  · simpa [Exit.inBlock] using h

theorem results_cell_one {fn : Func} {p : Tmp} {ty : TypeId} (h : fn.results = #[.cell p ty]) (tmps : Array Value) (P : Program) (w : World) :
    (results fn tmps).run P w = ((asAddr (tmps.getD p undef)).run P w).andThen fun a w1 => (loadVar ty a).run P w1 := by
  simp only [results, h]
  simp [Sem.run_bind, Result.andThen]

/-- A function that is there is not nil. -/
theorem run_equalIn_fnil {P : Program} (w : World) (d : Nat) (t : TypeId) (f : Fn) (l b : Array Value) {ps rs : Array TypeId} {vr : Bool} (h : P.underlying t = some (.func ps rs vr)) : (Op.equalIn (d + 1) t (.func f l b) .nilFunc).run P w = .ok false w := by
  simp [Op.equalIn, run_underlying h]
theorem run_eq_fnil {P : Program} (w : World) (t : TypeId) (f : Fn) (l b : Array Value) {ps rs : Array TypeId} {vr : Bool} (h : P.underlying t = some (.func ps rs vr)) : (binOp .eql t (.func f l b) .nilFunc).run P w = .ok (.bool false) w := by
  have h1 : (Op.equal t (.func f l b) .nilFunc).run P w = .ok false w := run_equalIn_fnil w 9999 t f l b h
  simp [binOp, h1]







end Go.Proofs.YtggcbnhckcenmaaGreatDoor
