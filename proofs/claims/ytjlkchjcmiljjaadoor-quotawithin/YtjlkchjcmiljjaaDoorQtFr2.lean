/-
  Layer 17: what is reserved and freed leaves what is left.
-/
import Derived.Test.YtjlkchjcmiljjaaDoorQtI
namespace Go.Proofs.YtjlkchjcmiljjaaDoor
open Go.RowKit Go.Maps

theorem leftQ_same {xs : List Tn} {S T : Sq} (h1 : T.us = S.us) (h2 : T.hs = S.hs) (k : Nat) : leftQ xs T k = leftQ xs S k := by
  unfold leftQ Sq.use Sq.held
  rw [h1, h2]

theorem leftV_at {xs : List Tn} {S : Sq} (hg : GoodT xs) {k : Nat} {t : Tn} (h : xs[k]? = some t) : leftV xs S t.n = .tuple #[.agg #[.int .i64 (leftQ xs S k).b, .int .i64 (leftQ xs S k).e], .int .i64 0] := by
  unfold leftV
  rw [hg.idx h]
  rfl

theorem useV_at {xs : List Tn} {S : Sq} (hg : GoodT xs) {k : Nat} {t : Tn} (h : xs[k]? = some t) : useV xs S t.n = .tuple #[.agg #[.int .i64 (S.use k).b, .int .i64 (S.use k).e], .int .i64 0] := by
  unfold useV
  rw [hg.idx h]
  rfl

/-- The number of a reservation is a number. -/
theorem nb_res (xs : List Tn) (S : Sq) (s : ByteArray) (m : Us) (z : Int) (hL : S.last ≤ 1000) (hz : z = (resZ xs S s m).1) : ∃ nb : Nb, nb.v = z := by
  have hb : 0 ≤ z ∧ z ≤ 1001 := by
    rw [hz]
    unfold resZ
    split
    · simp
    · split
      · split
        · simp only; omega
        · simp
      · simp
  exact ⟨⟨z, by simp [Lit.wf, IntKind.min, IntKind.max, IntKind.signed, IntKind.bits]; omega⟩, rfl⟩

/-- What Reserve makes of a book, and Free of its answer. -/
theorem res_free {xs : List Tn} {S : Sq} (h : Qv xs S) (s : ByteArray) (m : Us) : ((resZ xs S s m).2 ≠ 0 ∧ (resZ xs S s m).1 = 0 ∧ resS xs S s m = S ∧ S.find 0 = none) ∨ ((resZ xs S s m).2 = 0 ∧ ∃ id : Int, (resZ xs S s m).1 = id ∧ takeZ (resS xs S s m) id = 0 ∧ (freeS (resS xs S s m) id).us = S.us ∧ (freeS (resS xs S s m) id).hs = S.hs ∧ (freeS (resS xs S s m) id).find id = none) := by
  have h0 : S.find 0 = none := by
    unfold Sq.find
    rw [List.find?_eq_none]
    intro x hx
    have := (h.ids x hx).1
    simp
    omega
  unfold resZ resS
  cases hx : idxT xs s with
  | none => exact .inl ⟨(by decide : (170 : Int) ≠ 0), rfl, rfl, h0⟩
  | some k =>
    simp only
    by_cases hin : m.inn (-1000000000) 1000000000
    · by_cases hle : m.le (leftQ xs S k)
      · rw [if_pos hin, if_pos hle, if_pos ⟨hin, hle⟩]
        refine .inr ⟨rfl, ((S.last + 1 : Nat) : Int), rfl, ?_⟩
        have hno : ∀ y ∈ S.hs, (y.id : Int) ≠ ((S.last + 1 : Nat) : Int) := fun y hy e => by have := (h.ids y hy).2.1; omega
        have hf : (S.res k m).find ((S.last + 1 : Nat) : Int) = some ⟨S.last + 1, k, m⟩ := by
          unfold Sq.find Sq.res
          simp only
          rw [List.find?_append, List.find?_eq_none.2 (fun y hy => by simpa using hno y hy)]
          simp
        have hg : (S.res k m).gone ((S.last + 1 : Nat) : Int) = ⟨S.us, S.hs, S.last + 1⟩ := by
          unfold Sq.gone Sq.res
          simp only
          rw [List.eraseP_append_right _ (fun y hy => by simpa using hno y hy), List.eraseP_cons_of_pos (p := fun h : Hd => decide ((h.id : Int) = ((S.last + 1 : Nat) : Int))) (by simp), List.append_nil]
        unfold takeZ freeS
        rw [hf]
        simp only
        rw [hg]
        refine ⟨by trivial, by trivial, by trivial, ?_⟩
        unfold Sq.find
        exact List.find?_eq_none.2 (fun y hy => by simpa using hno y hy)
      · rw [if_pos hin, if_neg hle, if_neg (fun e => hle e.2)]
        exact .inl ⟨by decide, rfl, rfl, h0⟩
    · rw [if_neg hin, if_neg (fun e => hin e.1)]
      exact .inl ⟨by decide, rfl, rfl, h0⟩

end Go.Proofs.YtjlkchjcmiljjaaDoor
