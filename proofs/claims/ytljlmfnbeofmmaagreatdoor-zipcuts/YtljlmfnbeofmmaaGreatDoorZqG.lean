import Derived.Test.YtljlmfnbeofmmaaGreatDoorZqF
import Derived.Test.YtljlmfnbeofmmaaGreatDoorZpU
namespace Go.Proofs.YtljlmfnbeofmmaaGreatDoor
open Go.RowKit

structure ItAt (N : Nat) (w : World) (x : Itv) (y : It) : Prop where
 lab : x.m = y.lab
 src : Src w (fun k => k < N) (.slice x.a x.n x.c) y.bytes
 len : x.n = y.bytes.length
 byte : ∀ b ∈ y.bytes, b < 256
 nam : ∀ b ∈ y.lab.name, b < 256
 ok : MkOk y.lab
 pk : y.bytes.length = y.lab.packed
 ck : ∃ a, chk8 y.lab a = 0
 adr : x.a ≠ none

def Its (N : Nat) (w : World) (xs : List Itv) (L : List It) : Prop := xs.length = L.length ∧ ∀ (j : Nat) (x : Itv) (y : It), xs[j]? = some x → L[j]? = some y → ItAt N w x y

theorem Its.nil (N : Nat) (w : World) : Its N w [] [] := ⟨rfl, fun j x y h => (by simp at h)⟩

theorem ItAt.kept {F : Nat → Prop} {N : Nat} {w w' : World} {x : Itv} {y : It} (h : ItAt N w x y) (hk : Kept F w w') (hF : ∀ k, k < N → ¬ F k) : ItAt N w' x y :=
 ⟨h.lab, h.src.kept hk (fun k hk _ => hF k hk), h.len, h.byte, h.nam, h.ok, h.pk, h.ck, h.adr⟩

theorem Its.kept {F : Nat → Prop} {N : Nat} {w w' : World} {xs : List Itv} {L : List It} (h : Its N w xs L) (hk : Kept F w w') (hF : ∀ k, k < N → ¬ F k) : Its N w' xs L :=
 ⟨h.1, fun j x y h1 h2 => (h.2 j x y h1 h2).kept hk hF⟩

theorem Its.snoc {N : Nat} {w : World} {xs : List Itv} {L : List It} (h : Its N w xs L) {x : Itv} {y : It} (hx : ItAt N w x y) : Its N w (xs ++ [x]) (L ++ [y]) := by
 refine ⟨by simp [h.1], fun j x' y' h1 h2 => ?_⟩
 by_cases hj : j < xs.length
 ·rw [List.getElem?_append_left hj] at h1
  rw [List.getElem?_append_left (by rw [← h.1]; exact hj)] at h2
  exact h.2 j x' y' h1 h2
 ·rw [List.getElem?_append_right (by omega)] at h1
  rw [List.getElem?_append_right (by rw [← h.1]; omega), ← h.1] at h2
  have e : j - xs.length = 0 := by
   rcases Nat.eq_zero_or_pos (j - xs.length) with e | e
   ·exact e
   ·rw [List.getElem?_eq_none (by simp; omega)] at h1; cases h1
  rw [e] at h1 h2
  simp only [List.getElem?_cons_zero, Option.some.injEq] at h1 h2
  subst h1
  subst h2
  exact hx

theorem Its.names {N : Nat} {w : World} {xs : List Itv} {L : List It} (h : Its N w xs L) : nmsOf (fun j => (xs.getD j default).m) xs.length = names8 L := by
 unfold nmsOf names8
 refine List.ext_getElem (by simp [h.1]) (fun j h1 h2 => ?_)
 simp only [List.length_map, List.length_range] at h1 h2
 simp only [List.getElem_map, List.getElem_range]
 have e : xs.getD j default = xs[j] := by rw [List.getD_eq_getElem?_getD, List.getElem?_eq_getElem h1]; rfl
 rw [e, (h.2 j _ _ (List.getElem?_eq_getElem h1) (List.getElem?_eq_getElem h2)).lab]

theorem Its.nam {N : Nat} {w : World} {xs : List Itv} {L : List It} (h : Its N w xs L) : ∀ i, i < xs.length → ∀ b ∈ (xs.getD i default).m.name, b < 256 := by
 intro j hj
 have h2 : j < L.length := by rw [← h.1]; exact hj
 have e : xs.getD j default = xs[j] := by rw [List.getD_eq_getElem?_getD, List.getElem?_eq_getElem hj]; rfl
 have hi := h.2 j _ _ (List.getElem?_eq_getElem hj) (List.getElem?_eq_getElem h2)
 rw [e, hi.lab]
 exact hi.nam

def OpnA (w w' : World) (o : Except Nat (List It)) (e : Ending) : Prop :=
 (∀ k, o = .error k → e = pan8 k) ∧ (∀ L, o = .ok L → ∃ a n c xs, e = .returned (.slice a n c) ∧ RowC w.heap.size 78 6 itE w' (.slice a n c) xs ∧ Its w.heap.size w' xs L ∧ n = xs.length ∧ n ≤ c ∧ n ≤ 64) ∧ Same w w'

theorem OpnA.bad {w w' : World} {o : Except Nat (List It)} {e : Ending} {k : Nat} (h : o = .error k) (he : e = pan8 k) (hk : Same w w') : OpnA w w' o e :=
 ⟨fun k' h' => by rw [h] at h'; simp only [Except.error.injEq] at h'; subst h'; exact he, fun L h' => (by rw [h] at h'; cases h'), hk⟩

theorem OpnA.good {w w' : World} {o : Except Nat (List It)} {e : Ending} {L : List It} (h : o = .ok L) {a : Option Addr} {n c : Nat} {xs : List Itv} (he : e = .returned (.slice a n c)) (hr : RowC w.heap.size 78 6 itE w' (.slice a n c) xs) (hi : Its w.heap.size w' xs L) (hn : n = xs.length) (hc : n ≤ c) (h64 : n ≤ 64) (hk : Same w w') : OpnA w w' o e :=
 ⟨fun k' h' => (by rw [h] at h'; cases h'), fun L' h' => by rw [h] at h'; simp only [Except.ok.injEq] at h'; subst h'; exact ⟨a, n, c, xs, he, hr, hi, hn, hc, h64⟩, hk⟩

theorem pie8_len {m : Mk} {r b y : List Nat} (h : pie8 m r = some (b, y)) : y.length ≤ r.length ∧ b.length = m.packed := by
 unfold pie8 at h
 rw [hed8_is] at h
 split at h
 ·rw [bnd8_s] at h
  obtain ⟨h1, h2, h3⟩ := tk8_some h
  rw [h2, h3, List.length_drop, List.length_take, List.length_drop]
  rw [List.length_drop] at h1
  omega
 ·rw [bnd8_n] at h; cases h

theorem opn8_rec {fs n : Nat} {P R : List Nat} {l : List It} (h : rec8 R = none) : opn8 fs (n + 1) P R l = .error 81 := by rw [opn8, h]
theorem opn8_chk {fs n : Nat} {P R R' : List Nat} {l : List It} {m : Mk} {at' : Nat} (h : rec8 R = some ((m, at'), R')) (hc : chk8 m (names8 l) ≠ 0) : opn8 fs (n + 1) P R l = .error (chk8 m (names8 l)) := by rw [opn8, h]; simp only; rw [if_pos hc]
theorem opn8_at {fs n : Nat} {P R R' : List Nat} {l : List It} {m : Mk} {at' : Nat} (h : rec8 R = some ((m, at'), R')) (hc : chk8 m (names8 l) = 0) (ha : at' ≠ fs - P.length) : opn8 fs (n + 1) P R l = .error 81 := by rw [opn8, h]; simp only; rw [if_neg (by omega), if_pos ha]
theorem opn8_pie {fs n : Nat} {P R R' : List Nat} {l : List It} {m : Mk} {at' : Nat} (h : rec8 R = some ((m, at'), R')) (hc : chk8 m (names8 l) = 0) (ha : at' = fs - P.length) (hp : pie8 m P = none) : opn8 fs (n + 1) P R l = .error 81 := by rw [opn8, h]; simp only; rw [if_neg (by omega), if_neg (by omega), hp]
theorem opn8_next {fs n : Nat} {P R R' : List Nat} {l : List It} {m : Mk} {at' : Nat} (h : rec8 R = some ((m, at'), R')) (hc : chk8 m (names8 l) = 0) (ha : at' = fs - P.length) {b P' : List Nat} (hp : pie8 m P = some (b, P')) : opn8 fs (n + 1) P R l = opn8 fs n P' R' (l ++ [⟨m, b⟩]) := by rw [opn8, h]; simp only; rw [if_neg (by omega), if_neg (by omega), hp]

theorem RowC.off {α : Type} {B t k : Nat} {enc : α → List Value} {w : World} {v : Value} {xs : List α} (h : RowC B t k enc w v xs) {g : Nat} {cs : Array Value} {t' : Nat} (hb : Blk w g cs t') (ht : t' ≠ t) : v.ownBlock ≠ some g := by
 intro e
 rcases h.2 with ⟨rfl, _⟩ | ⟨g', cap, cur, rfl, _, hg, _⟩
 ·cases e
 ·simp only [Value.ownBlock, Option.some.injEq] at e
  subst e
  unfold Blk at hb
  rw [hb] at hg
  simp only [Option.some.injEq, Obj.cells.injEq] at hg
  exact ht hg.2.1

structure OpI (w wr : World) (fs : Nat) (o : Except Nat (List It)) (left : Nat) (pb rb : Nat) (i : Nat) (v : Value) (xs : List Itv) (L : List It) (P R : List Nat) (ap ar : Option Addr) (cp cr : Nat) : Prop where
 row : RowC w.heap.size 78 6 itE wr v xs
 its : Its w.heap.size wr xs L
 len : L.length = i
 pie : Cur w.heap.size wr pb P ap cp
 recs : Cur w.heap.size wr rb R ar cr
 same : Same w wr
 eq : o = opn8 fs left P R L
 two : pb ≠ rb
 fit : P.length ≤ fs

end Go.Proofs.YtljlmfnbeofmmaaGreatDoor
