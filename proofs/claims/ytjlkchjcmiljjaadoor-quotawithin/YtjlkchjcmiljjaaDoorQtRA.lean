/-
  Layer 17, the reference: Reserve, all ways.
-/
import Derived.Test.YtjlkchjcmiljjaaDoorQtRR
namespace Go.Proofs.YtjlkchjcmiljjaaDoor
open Go.RowKit Go.Maps

section
variable {N : Nat} {w : World} {q : Nat} {lv uv hv : Value} {xs : List Tn} {S : Sq}

theorem rqres_any (h : Rq N w q lv uv hv xs S) (hi : Qv xs S) (hNw : N ≤ w.heap.size) (hL : S.hs.length ≤ 1000000) (hLa : S.last ≤ 1000000) (t : ByteArray) (m : Us) : Calls Tryd.prog 27 #[.pointer (some ⟨q, 0, none⟩), .string t, usV m] w fun e w' => e = .returned (.tuple #[.int .i64 (resZ xs S t m).1, .int .i64 (resZ xs S t m).2]) ∧ (∃ hv', Rq N w' q lv uv hv' xs (resS xs S t m)) ∧ Kept (FR q uv hv) w w' := by
  unfold resZ resS
  cases hx : idxT xs t with
  | none => exact (rqres_none h hi hL t m hx).mono fun e w' ⟨he, hk⟩ => ⟨he, ⟨hv, h.same hk⟩, hk.mono (fun _ _ f => f.elim)⟩
  | some k =>
    simp only
    by_cases hin : m.inn (-1000000000) 1000000000
    · by_cases hle : m.le (leftQ xs S k)
      · rw [if_pos hin, if_pos hle, if_pos ⟨hin, hle⟩]
        exact rqres_ok h hi hNw hL hLa t m hx hin hle
      · rw [if_pos hin, if_neg hle, if_neg (fun e => hle e.2)]
        exact (rqres_full h hi hL t m hx hin hle).mono fun e w' ⟨he, hk⟩ => ⟨he, ⟨hv, h.same hk⟩, hk.mono (fun _ _ f => f.elim)⟩
    · rw [if_neg hin, if_neg (fun e => hin e.1)]
      exact (rqres_out h hi hL t m hx hin).mono fun e w' ⟨he, hk⟩ => ⟨he, ⟨hv, h.same hk⟩, hk.mono (fun _ _ f => f.elim)⟩

end

end Go.Proofs.YtjlkchjcmiljjaaDoor
