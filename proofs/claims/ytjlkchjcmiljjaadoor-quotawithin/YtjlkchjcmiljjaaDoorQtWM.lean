/-
  Layer 17, QuotaWithin: whose a reservation was; a use stays within.
-/
import Derived.Test.YtjlkchjcmiljjaaDoorQtI
namespace Go.Proofs.YtjlkchjcmiljjaaDoor
open Go.RowKit Go.Maps

theorem ba_inj17 {s t : ByteArray} (h : s.data.toList = t.data.toList) : s = t := by
  cases s; cases t
  simp only [ByteArray.mk.injEq]
  exact Array.toList_inj.1 h

def sgR (v : Value) : Option (DataW Unit × List MemPlace) := match v with | .string s => some (.lit (.string s.data.toList), []) | _ => none
def sgV (k : ByteArray) : Value := .string k
def sgD (k : ByteArray) : DataW Unit := .lit (.string k.data.toList)
theorem sgR_inv (v : Value) (k : ByteArray) (ps : List MemPlace) (h : sgR v = some (sgD k, ps)) : v = sgV k := by
  unfold sgR at h
  split at h
  · rename_i s
    simp only [sgD, Option.some.injEq, Prod.mk.injEq, DataW.lit.injEq, Lit.string.injEq] at h
    rw [ba_inj17 h.1]
    rfl
  · cases h
theorem rdSg : RdG sgR sgV sgD (sgV ⟨#[]⟩) (sgD ⟨#[]⟩) := ⟨fun _ => rfl, sgR_inv, rfl, fun v ps h => sgR_inv v _ ps h⟩
theorem zeroSg (w : World) : (zeroValue 9).run Tryd.prog w = .ok (sgV ⟨#[]⟩) w := by kernel_rfl

abbrev MpO (w : World) (b : Nat) (L : List (Nb × ByteArray)) : Prop := MpG 3 sgR kI sgD w b L

theorem MpO.look1 {w : World} {b : Nat} {L : List (Nb × ByteArray)} (h : MpO w b L) (s : Nb) : (Instr.lookup 43 (.map (some b)) (.int .i64 s.v) false).run Tryd.prog w = .ok (.string ((getG s L).getD ⟨#[]⟩)) w := by
  obtain ⟨v, ps, h1, h2⟩ := World.ownsMap.lookup (t := 43) h intKey14 Tryd.underlying43 (zeroSg w) (zd := sgD ⟨#[]⟩) (zp := []) rdSg.nmk (keyI s)
  rw [mpG_at klI] at h2
  have h1' : (Instr.lookup 43 (.map (some b)) (.int .i64 s.v) false).run Tryd.prog w = .ok v w := h1
  rw [h1']
  cases hg : getG s L with
  | none => rw [hg] at h2; rw [rdSg.ninv _ _ h2]; rfl
  | some f => rw [hg] at h2; rw [rdSg.inv _ _ _ h2]; rfl

theorem MpO.put1 {w : World} {b : Nat} {L : List (Nb × ByteArray)} (h : MpO w b L) (s : Nb) (t : ByteArray) (hL : L.length ≤ 1000000000) :
    ∃ w', (Instr.mapUpdate 43 (.map (some b)) (.int .i64 s.v) (.string t)).run Tryd.prog w = .ok () w' ∧ MpO w' b (putG kI s t L) ∧ Kept (· = b) w w' :=
  MpG.put h klI rdSg intKey14 43 9 Tryd.underlying43 s (.int .i64 s.v) (keyI s) hL t

/-- All uses are within, with all that is reserved. -/
def Win (xs : List Tn) (S : Sq) : Prop := ∀ k, k < xs.length → ((S.use k).add (S.held k)).le (mayT xs k)

/-- Whose each reservation is, is known. -/
def Own (xs : List Tn) (S : Sq) (O : List (Nb × ByteArray)) : Prop := ∀ h ∈ S.hs, ∀ nb : Nb, nb.v = (h.id : Int) → getG nb O = some (xs.getD h.ten default).n

theorem Win.new {xs : List Tn} (hg : GoodT xs) : Win xs (newS xs.length) := fun k hk => by
  rw [newS_use, show (newS xs.length).held k = ⟨0, 0⟩ from rfl]
  have := hg.may hk
  exact ⟨this.1, this.2.2.1⟩

theorem Win.res {xs : List Tn} {S : Sq} (h : Win xs S) (s : ByteArray) (m : Us) : Win xs (resS xs S s m) := by
  unfold resS
  cases hx : idxT xs s with
  | none => exact h
  | some k0 =>
    simp only
    split
    · rename_i hc
      intro k hk
      rw [S.held_res, show (S.res k0 m).use k = S.use k from rfl]
      have h1 := h k hk
      split
      · rename_i e
        subst e
        have h2 := hc.2
        unfold leftQ at h2
        simp only [Us.le, Us.add, Us.up, Us.sub] at h1 h2 ⊢
        omega
      · exact h1
    · exact h

theorem Win.gone {xs : List Tn} {S : Sq} (h : Win xs S) {id : Int} {x : Hd} (hx : S.find id = some x) : Win xs (S.gone id) := fun k hk => by
  have h1 := h k hk
  rw [Sq.held_gone hx k] at h1
  rw [show (S.gone id).use k = S.use k from rfl]
  split at h1
  · simp only [Us.le, Us.add, Us.up] at h1 ⊢; omega
  · exact h1

theorem Win.take {xs : List Tn} {S : Sq} (h : Win xs S) (hv : Qv xs S) {id : Int} {x : Hd} (hx : S.find id = some x) : Win xs (S.take id x) := fun k hk => by
  have h1 := h k hk
  have hkl := (hv.ids x (Sq.find_mem hx).1).2.2.1
  rw [Sq.held_gone hx k] at h1
  unfold Sq.take
  rw [Sq.use_set _ _ _ _ (by rw [show (S.gone id).us = S.us from rfl, hv.len]; exact hkl), show ((S.gone id).set x.ten ((S.use x.ten).add x.m).up).held k = (S.gone id).held k from rfl]
  have hp := heldL_pos k (S.gone id).hs
  have hu := hv.use k hk
  split at h1
  · rename_i e
    subst e
    rw [if_pos rfl]
    have hp2 : 0 ≤ ((S.gone id).held x.ten).b ∧ 0 ≤ ((S.gone id).held x.ten).e := hp
    simp only [Us.le, Us.add, Us.up] at h1 ⊢
    omega
  · rename_i e
    rw [if_neg e]
    exact h1

theorem Own.res {xs : List Tn} {S : Sq} {O : List (Nb × ByteArray)} (h : Own xs S O) (hv : Qv xs S) (ha : O.Pairwise (fun p q => p.1 ≠ q.1)) {s : ByteArray} {m : Us} {k : Nat} (hk : idxT xs s = some k) (hc : m.inn (-1000000000) 1000000000 ∧ m.le (leftQ xs S k)) (nb : Nb) (hnb : nb.v = ((S.last + 1 : Nat) : Int)) : Own xs (resS xs S s m) (putG kI nb s O) := by
  unfold resS
  rw [hk]
  simp only
  rw [if_pos hc]
  intro x hx nb' hnb'
  rw [getG_put ha]
  rcases List.mem_append.1 hx with hx | hx
  · have h1 := (hv.ids x hx).2.1
    rw [if_neg (fun e => by rw [← e, hnb] at hnb'; omega)]
    exact h x hx nb' hnb'
  · rw [List.mem_singleton] at hx
    subst hx
    rw [if_pos (Nb.ext' (by rw [hnb, hnb']))]
    obtain ⟨t, ht, e⟩ := idxT_some hk
    rw [List.getD_eq_getElem?_getD, ht]
    exact congrArg some e.symm

theorem Own.sub {xs : List Tn} {S T : Sq} {O : List (Nb × ByteArray)} (h : Own xs S O) (hs : ∀ x ∈ T.hs, x ∈ S.hs) : Own xs T O := fun x hx nb hnb => h x (hs x hx) nb hnb

theorem gone_sub {S : Sq} {id : Int} : ∀ x ∈ (S.gone id).hs, x ∈ S.hs := fun _ hx => List.mem_of_mem_eraseP hx

theorem take_use {xs : List Tn} {S : Sq} (hv : Qv xs S) {id : Int} {x : Hd} (hx : S.find id = some x) {k : Nat} (hk : x.ten ≠ k) : (S.take id x).use k = S.use k := by
  have hkl := (hv.ids x (Sq.find_mem hx).1).2.2.1
  unfold Sq.take
  rw [Sq.use_set _ _ _ _ (by rw [show (S.gone id).us = S.us from rfl, hv.len]; exact hkl), if_neg hk]
  rfl

end Go.Proofs.YtjlkchjcmiljjaaDoor
