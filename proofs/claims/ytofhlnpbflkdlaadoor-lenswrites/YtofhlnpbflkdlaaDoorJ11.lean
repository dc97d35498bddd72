/-
  Of the proof: parts HRange, HLen, HLen2, HLim, HFairM, LnSame, LnWs, LnWr, LnWrt, LnWrg.
-/
import Derived.RangeFuncBox
import Derived.RangeFuncLeaves
import Derived.Shelf.Abstract
import Derived.WalkKit
import Derived.OwnWalkIn
import Derived.TacticsInMore
import Derived.LoopNIn
import Derived.LoopIn
import Derived.Deep.RegionHeld3
import Derived.Test.YtofhlnpbflkdlaaDoorJ10
import Derived.Test.YtofhlnpbflkdlaaDoorJ4
import Derived.Test.YtofhlnpbflkdlaaDoorJ5
import Derived.Test.YtofhlnpbflkdlaaDoorJ1
import Derived.Test.YtofhlnpbflkdlaaDoorJ2
import Derived.Test.YtofhlnpbflkdlaaDoorJ3
import Derived.Test.YtofhlnpbflkdlaaDoorJ6
import Derived.Test.YtofhlnpbflkdlaaDoorJ7
import Derived.Test.YtofhlnpbflkdlaaDoorJ8
import Derived.Test.YtofhlnpbflkdlaaDoorJ9

/-
  A range over a function whose rounds come in a known order; slices.Backward over a row of levels.
-/
namespace Go.Proofs.YtofhlnpbflkdlaaDoor
open Go.RowKit Go.Shelf

attribute [local go_sem] Oper.semAt_some

/-- How a round ends: as it should, with the counter one further. -/
def roundEnds (B : Nat) (Kp : World → World → Prop) (I : Nat → World → Prop) (k : Nat) (W : World) (e : Exit) (_ : Act) (W' : World) : Prop :=
  e = .normal ∧ KeepsFrom B W W' ∧ Kp W W' ∧ I (k + 1) W'

/-- N rounds, each with values that are known ahead; none is left early. -/
theorem range_each {F : Fence} {n : Nat} {P : Program} {g : Operand} {ps : Array Tmp} {assign body : Code} {Q : Exit → Act → World → Prop} {a : Act} {w : World} (hro : F.round = none) (h1 : 1 ≤ n) {gf : Nat} {lb : Array Value}
    (hg : a.eval g = .func (.func gf) #[] lb) (hFg : F.fn gf) (eg : ∀ args w, (callFunc gf args).run P w = .ok (.enter gf args) w) (N : Nat) (vals : Nat → Array Value) (hps : ∀ k, (vals k).size = ps.size) (Kp : World → World → Prop)
    (hKt : ∀ {A B C : World}, Kp A B → Kp B C → Kp A C) (hKb : ∀ (W : World) (l : Nat) (o : Obj), w.heap.size ≤ l → Kp W (W.putObj l o)) (I : Nat → World → Prop) (hI : OwnFrom w.heap.size I) (h0 : I 0 w) (a₁ : Nat → Act)
    (hseq : ∀ (l : Nat) (J : Nat → World → Prop) (W : World), Below w.heap.size w W → (∀ k W1, k < N → J k W1 → YieldAt F (n - 1 - 1) P l (vals k) W1 fun e W' => e = .returned (.bool true) ∧ J (k + 1) W' ∧ Kp W1 W') → J 0 W →
      CallsIn F (n - 1) P gf (#[.func (.yield l) #[] #[]] ++ lb) W fun e W' => (∃ v, e = .returned v) ∧ J N W')
    (hassign : ∀ (l k : Nat) (W : World) (K : Act → World → Prop), k < N → K (a₁ k) W → assign.wpIn (F.inRound l) (n - 1 - 1) P (Exit.then K (fun _ _ _ => False)) { tmps := (ps.zip (vals k)).foldl (fun t (p, v) => t.setIfInBounds p v) a.tmps, defers := [] } W)
    (hbody : ∀ (l k : Nat) (W : World), k < N → I k W → body.wpIn (F.inRound l) (n - 1 - 1) P (roundEnds w.heap.size Kp I k W) (a₁ k) W)
    (hdone : ∀ (D : Nat) (W : World), w.heap.size ≤ D → I N W → W.heap[D]? = some (.deferred (some [])) → Q .normal { a with defers := { target := .collected D, args := #[] } :: a.defers } W) :
    (Code.rangeFunc g ps assign body).wpIn F n P Q a w := by
  refine wpIn_rangeFunc (fun fn hfn => ?_)
  rw [hro]
  -- the two objects that the statement lays: the deferred calls at D, the record at D + 1
  let R : LoopState → Loop := fun st => { state := st, pending := none, fn := fn, tmps := a.tmps, params := ps, assign := assign, body := body, defers := w.heap.size }
  let w1 : World := (w.alloc (.deferred (some []))).alloc (.loop (R .ready))
  let Book : World → Prop := fun W => W.heap[w.heap.size + 1]? = some (.loop (R .ready)) ∧ W.heap[w.heap.size]? = some (.deferred (some []))
  have hbook : Book w1 := by
    constructor
    · have := World.alloc_heap_new (w.alloc (.deferred (some []))) (.loop (R .ready))
      rw [World.size_alloc] at this
      exact this
    · exact (Below.heap_alloc (w.alloc (.deferred (some []))) _ _ (by simp)).trans (World.alloc_heap_new w _)
  have hbel : Below w.heap.size w w1 := ((Below.refl _ w).alloc (Nat.le_refl _) _).alloc (by simp) _
  refine ⟨w.heap.size + 1, [{ target := .collected w.heap.size, args := #[] }], w1, { target := .fn (.func gf) lb, args := #[.func (.yield (w.heap.size + 1)) #[] #[]] }, w1, gf, #[.func (.yield (w.heap.size + 1)) #[] #[]] ++ lb, w1,
    run_enterLoop_outer fn a.tmps ps assign body, ?_, ?_, ?_, fun _ => h1, ?_⟩
  · simp only [resolve, hg]; simp [go_sem]
  · intro f' hf'
    simp [Target.leads] at hf'
    subst hf'
    exact hFg
  · simp [invoke, go_sem, eg]
  refine (hseq (w.heap.size + 1) (fun k W => I k W ∧ Book W) w1 hbel ?_ ⟨hI.alloc _ (hI.alloc _ h0), hbook⟩).mono ?_
  · rintro k W hk ⟨hi, hl, hd⟩
    have hlt : w.heap.size + 1 < W.heap.size := (Array.getElem?_eq_some_iff.1 hl).1
    refine ⟨fn, _, assign, body, run_yield (P := P) (args := vals k) hl (hps k), roundIn_of_wpIn hfn (hassign _ k W _ hk ⟨_, run_beginRound hl rfl, ?_⟩)⟩
    have hl2 : (W.putObj (w.heap.size + 1) (.loop (R .busy))).heap[w.heap.size + 1]? = some (.loop (R .busy)) := World.putObj_heap_same hlt
    have hd2 : (W.putObj (w.heap.size + 1) (.loop (R .busy))).heap[w.heap.size]? = some (.deferred (some [])) := (World.putObj_heap_other (by omega)).trans hd
    refine wpIn_mono (hbody _ k _ hk (hI.putObj (.loop (R .busy)) hi (by omega) hl rfl)) ?_
    rintro e a3 w3 ⟨rfl, hkf, hkp, hi3⟩
    have hl3 := hkf.same _ _ (by omega) hl2 rfl
    have hd3 := hkf.same _ _ (Nat.le_refl _) hd2 rfl
    have hlt3 : w.heap.size + 1 < w3.heap.size := (Array.getElem?_eq_some_iff.1 hl3).1
    refine ⟨_, _, run_endRound (P := P) none hl3, rfl, ⟨hI.putObj _ hi3 (by omega) hl3 rfl, World.putObj_heap_same hlt3, (World.putObj_heap_other (by omega)).trans hd3⟩, ?_⟩
    exact hKt (hKt (hKb W _ _ (by omega)) hkp) (hKb w3 _ _ (by omega))
  · rintro e w2 ⟨⟨v, rfl⟩, hi, hl, hd⟩
    refine ⟨none, _, run_endLoop (P := P) hl (by simp [R]), ?_⟩
    exact hdone _ _ (Nat.le_refl _) (hI.putObj _ hi (by omega) hl rfl) ((World.putObj_heap_other (by omega)).trans hd)

/-- What the rounds keep: the box of the row of levels, and the row. -/
def Keep2 (b1 b2 : Nat) (W W' : World) : Prop := W'.heap[b1]? = W.heap[b1]? ∧ W'.heap[b2]? = W.heap[b2]?

theorem Keep2.trans {b1 b2 : Nat} {A B C : World} (h : Keep2 b1 b2 A B) (k : Keep2 b1 b2 B C) : Keep2 b1 b2 A C := ⟨k.1.trans h.1, k.2.trans h.2⟩

/-- The values of round k. -/
def levVals (vs : List (Option Addr × Nat × Nat)) (k : Nat) : Array Value := #[.int .i64 ((vs.length - 1 - k : Nat) : Int), slV (vs.getD (vs.length - 1 - k) (none, 0, 0))]

set_option maxRecDepth 100000 in
set_option maxHeartbeats 2000000 in
theorem lback1_in (F : Fence) (n : Nat) (h7 : F.fn 96) (hro : F.round = none) (hn : 1 ≤ n) (l Bs g cap : Nat) (vs : List (Option Addr × Nat × Nat)) (hlen : vs.length ≤ 1000) (J : Nat → World → Prop)
    (hY : ∀ k W1, k < vs.length → J k W1 → YieldAt F (n - 1) Tryd.prog l (levVals vs k) W1 fun e W' => e = .returned (.bool true) ∧ J (k + 1) W' ∧ Keep2 Bs g W1 W')
    (W : World) (hBs : W.cell? ⟨Bs, 0, none⟩ = some (.slice (some ⟨g, 0, none⟩) vs.length cap)) (hc : ∀ j (_ : j < vs.length), W.cell? ⟨g, j, none⟩ = some (slV vs[j])) (h0 : J 0 W) :
    CallsIn F n Tryd.prog 96 #[.func (.yield l) #[] #[], .pointer (some ⟨Bs, 0, none⟩)] W fun e W' => (∃ v, e = .returned v) ∧ J vs.length W' := by
  refine callsIn_of_wp Tryd.func96 rfl h7 ?_ hro
  simp only [Tryd.ntmps96, List.size_toArray, List.length_cons, List.length_nil, Nat.reduceAdd, Nat.reduceSub, Array.replicate_succ, Array.replicate_zero, List.push_toArray, List.append_toArray, List.nil_append, List.cons_append]
  gi_wp2
  gi_loopw [3] (fun i wr => ∃ k : Nat, k ≤ vs.length ∧ i = .int .i64 ((vs.length : Int) - 1 - k) ∧ J k wr ∧ Keep2 Bs g W wr)
    (fun i _ => (intOf i + 1).toNat)
  case atStart => exact ⟨0, Nat.zero_le _, by simp, h0, rfl, rfl⟩
  case round =>
    obtain ⟨k, hk, rfl, hJs, hnx⟩ := hrel
    have hbs := (World.cell?_of_block (a := ⟨Bs, 0, none⟩) hnx.1).trans hBs
    by_cases hlt : k < vs.length
    · obtain ⟨m, hm⟩ : ∃ m, m = vs.length - 1 - k := ⟨_, rfl⟩
      have hm2 : (vs.length : Int) - 1 - k = (m : Nat) := by omega
      have hml : m < vs.length := by omega
      obtain ⟨fn, tmps, assign, body, hy, hR⟩ := hY k wr hlt hJs
      obtain ⟨xa, xn, xc, hx⟩ : ∃ xa xn xc, vs[m] = (xa, xn, xc) := ⟨_, _, _, rfl⟩
      have hcx : wr.cell? ⟨g, m, none⟩ = some (.slice xa xn xc) := by
        have := (World.cell?_of_block (a := ⟨g, m, none⟩) hnx.2).trans (hc m hml)
        rw [hx] at this
        exact this
      have hval : levVals vs k = #[.int .i64 (m : Int), .slice xa xn xc] := by
        unfold levVals
        rw [← hm]
        simp [List.getD, hml, hx, slV]
      rw [hval] at hy
      rw [hm2]
      have HM : Hid (m = vs.length - 1 - k) := hm
      clear hm hm2 hval hx
      gi_wp2
      refine hR.mono ?_
      rintro e W3 ⟨rfl, hJ3, hk3⟩
      gi_wp2
      go_roundw
      case rel => exact ⟨k + 1, by omega, by have := HM.out; simp; omega, hJ3, hnx.trans hk3⟩
      case measure => simp [intOf]
    · obtain rfl : k = vs.length := by omega
      gi_wp2
      go_end0
      exact ⟨⟨_, rfl⟩, hJs⟩

set_option maxRecDepth 100000 in
set_option maxHeartbeats 1000000 in
theorem lbackward_in (F : Fence) (n : Nat) (h5 : F.fn 89) (hro : F.round = none) (a : Option Addr) (len cap : Nat) (w : World) :
    CallsIn F n Tryd.prog 89 #[.slice a len cap] w fun e w' => e = .returned (.func (.func 96) #[] #[.pointer (some ⟨w.heap.size, 0, none⟩)]) ∧ w' = w.alloc (.cells #[.slice a len cap] 112) := by
  refine callsIn_of_wp Tryd.func89 rfl h5 ?_ hro
  simp only [Tryd.ntmps89, List.size_toArray, List.length_cons, List.length_nil, Nat.reduceAdd, Nat.reduceSub, Array.replicate_succ, Array.replicate_zero, List.push_toArray, List.append_toArray, List.nil_append, List.cons_append]
  gi_wp2
  go_ret
  exact ⟨rfl, rfl⟩

end Go.Proofs.YtofhlnpbflkdlaaDoor

/-
  lengthen: a bit for each level where a symbol is taken.
-/
namespace Go.Proofs.YtofhlnpbflkdlaaDoor
open Go.RowKit Go.Shelf

attribute [local go_sem] Oper.semAt_some

/-- A list of numbers, one for each symbol, told by the places of the used ones. -/
def outP (ns : List Nat) (p : Nat → Nat) : List Nat := (List.range ns.length).map (fun s => if key ns s = 0 then 0 else p ((ris ns).idxOf s))

theorem outP_length (ns : List Nat) (p : Nat → Nat) : (outP ns p).length = ns.length := by simp [outP]

theorem idx_ris (ns : List Nat) (j : Nat) (h : j < (ris ns).length) : (ris ns).idxOf (ris ns)[j] = j := (ris_nodup ns).idxOf_getElem j h

theorem outP_get (ns : List Nat) (p : Nat → Nat) (j : Nat) (h : j < (ris ns).length) (hl : (ris ns)[j] < (outP ns p).length) : (outP ns p)[(ris ns)[j]] = p j := by
  have h0 := (mem_ris.1 (List.getElem_mem h)).2
  simp only [outP, List.getElem_map, List.getElem_range]
  rw [if_neg h0, idx_ris ns j h]

theorem outP_set (ns : List Nat) (p : Nat → Nat) (j v : Nat) (h : j < (ris ns).length) : (outP ns p).set (ris ns)[j] v = outP ns (fun i => if i = j then v else p i) := by
  unfold outP
  refine List.ext_getElem (by simp) (fun s h1 h2 => ?_)
  simp only [List.getElem_set, List.getElem_map, List.getElem_range]
  have h0 := (mem_ris.1 (List.getElem_mem h)).2
  by_cases e : (ris ns)[j] = s
  · subst e
    rw [if_pos rfl, if_neg h0, idx_ris ns j h, if_pos rfl]
  · rw [if_neg e]
    by_cases hk : key ns s = 0
    · rw [if_pos hk, if_pos hk]
    · rw [if_neg hk, if_neg hk]
      have hm : s ∈ ris ns := mem_ris.2 ⟨by simpa using h2, hk⟩
      rw [if_neg]
      intro hi
      apply e
      have hlt : (ris ns).idxOf s < (ris ns).length := List.idxOf_lt_length_of_mem hm
      have := List.getElem_idxOf hlt
      simp only [hi] at this
      exact this

theorem outP_congr (ns : List Nat) (p q : Nat → Nat) (h : ∀ i, i < (ris ns).length → p i = q i) : outP ns p = outP ns q := by
  unfold outP
  refine List.map_congr_left (fun s hs => ?_)
  by_cases hk : key ns s = 0
  · rw [if_pos hk, if_pos hk]
  · rw [if_neg hk, if_neg hk]
    have hm : s ∈ ris ns := mem_ris.2 ⟨by simpa using hs, hk⟩
    exact h _ (List.idxOf_lt_length_of_mem hm)

theorem outP_zero (ns : List Nat) : outP ns (fun _ => 0) = List.replicate ns.length 0 := by
  unfold outP
  simp [List.map_const']

/-- Rows of ints lie apart from rows of items and of levels. -/
theorem NRow.apartT {B B' : Nat} {w : World} {v v' : Value} {its : List (Nat × Bool)} {xs : List Nat} (h : TRow B w v its) (h' : NRow B' w v' xs) {j g : Nat} (hj : v.ownBlock = some j) (hg : v'.ownBlock = some g) : j ≠ g := by
  rintro rfl
  rcases h.2 with ⟨rfl, _⟩ | ⟨g1, c1, cur1, rfl, _, e1, _⟩
  · simp [Value.ownBlock] at hj
  · rcases h'.2 with ⟨rfl, _⟩ | ⟨g2, c2, cur2, rfl, _, e2, _⟩
    · simp [Value.ownBlock] at hg
    · simp [Value.ownBlock] at hj hg
      subst hj hg
      rw [e1] at e2
      simp at e2

theorem NRow.apartL {B B' : Nat} {w : World} {v v' : Value} {vs : List (Option Addr × Nat × Nat)} {xs : List Nat} (h : LRow B w v vs) (h' : NRow B' w v' xs) {j g : Nat} (hj : v.ownBlock = some j) (hg : v'.ownBlock = some g) : j ≠ g := by
  rintro rfl
  rcases h.2 with ⟨rfl, _⟩ | ⟨g1, c1, cur1, rfl, _, e1, _⟩
  · simp [Value.ownBlock] at hj
  · rcases h'.2 with ⟨rfl, _⟩ | ⟨g2, c2, cur2, rfl, _, e2, _⟩
    · simp [Value.ownBlock] at hg
    · simp [Value.ownBlock] at hj hg
      subst hj hg
      rw [e1] at e2
      simp at e2

/-- What holds ahead of round k. -/
structure LI (ns : List Nat) (most : Nat) (w3 : World) (go bt n cn : Nat) (k : Nat) (W : World) (T : Nat) (p : Nat → Nat) : Prop where
  ct : W.cell? ⟨bt, 0, none⟩ = some (.int .i64 (T : Nat))
  ft : W.frozen? ⟨bt, 0, none⟩ = false
  row : NRow 0 W (.slice (some ⟨go, 0, none⟩) n cn) (outP ns p)
  kept : Kept (fun j => j = go ∨ j = bt) w3 W
  hT : T ≤ 600
  hp : ∀ i, p i ≤ k
  more : k < most → T ≤ (lev (wsOf ns) (most - 1 - k)).length ∧ ∀ i, p i + gain (wsOf ns) (most - 1 - k) T i = gain (wsOf ns) (most - 1) (2 * (wsOf ns).length - 2) i
  done : k = most → ∀ i, p i = gain (wsOf ns) (most - 1) (2 * (wsOf ns).length - 2) i

theorem LI.own (ns : List Nat) (most : Nat) (w3 : World) (go bt n cn : Nat) : OwnFrom w3.heap.size (fun k W => ∃ T p, LI ns most w3 go bt n cn k W T p) := by
  rintro k W W' row ⟨T, p, h⟩ hg hr
  have hcells : ∀ b v, W.cell? ⟨b, 0, none⟩ = some v → some b ≠ row := by
    intro b v hc e
    obtain ⟨_, o, ho, hoc⟩ := hr b e.symm
    simp only [World.cell?, ho] at hc
    cases o <;> simp_all [Obj.isCells]
  have hgo : some go ≠ row := by
    intro e
    obtain ⟨_, o, ho, hoc⟩ := hr go e.symm
    rcases h.row.2 with ⟨e1, _⟩ | ⟨g2, c2, cur2, e1, _, e2, _⟩
    · simp at e1
    · simp only [Value.slice.injEq, Option.some.injEq, Addr.mk.injEq, and_true] at e1
      obtain ⟨rfl, _⟩ := e1
      rw [ho] at e2
      simp at e2
      subst e2
      simp [Obj.isCells] at hoc
  have hbt := hcells bt _ h.ct
  have hbl : bt < W.heap.size := World.block_lt_of_cell? W _ h.ct
  refine ⟨T, p, ?_, ?_, World.ownsRow.kept h.row hg (.inr hgo), h.kept.grown hg (fun j e => .inr (hr j e).1), h.hT, h.hp, h.more, h.done⟩
  · exact hg.cell h.ct hbt
  · exact (World.frozen?_of_block (hg.block bt hbl hbt)).trans h.ft

end Go.Proofs.YtofhlnpbflkdlaaDoor

/-
  lengthen: the walk.
-/
namespace Go.Proofs.YtofhlnpbflkdlaaDoor
open Go.RowKit Go.Shelf

attribute [local go_sem] Oper.semAt_some

theorem pk_succ (X : List (Nat × Bool)) (j : Nat) (h : j < X.length) : pk X (j + 1) = pk X j + (if X[j].2 then 1 else 0) := by
  unfold pk
  rw [List.take_succ_eq_append_getElem h, List.countP_append]
  cases hb : X[j].2 <;> simp [hb]

theorem pk_le_T (X : List (Nat × Bool)) (T : Nat) : pk X T ≤ T := Nat.le_trans List.countP_le_length (by simp; omega)

theorem lev_ge (ws : List Nat) (t : Nat) : ws.length ≤ (lev ws t).length := by
  cases t with
  | zero => rw [lev_length_zero]; exact Nat.le_refl _
  | succ t => rw [lev_length_succ]; omega

/-- One round more. -/
theorem LI.next {ns : List Nat} {most : Nat} {w3 : World} {go bt n cn k : Nat} {W W' : World} {T : Nat} {p : Nat → Nat} (h : LI ns most w3 go bt n cn k W T p) (hk : k < most) (hns : (wsOf ns).length ≤ 288)
    (ct : W'.cell? ⟨bt, 0, none⟩ = some (.int .i64 ((2 * pk (lev (wsOf ns) (most - 1 - k)) T : Nat) : Int))) (ft : W'.frozen? ⟨bt, 0, none⟩ = false)
    (row : NRow 0 W' (.slice (some ⟨go, 0, none⟩) n cn) (outP ns (fun i => p i + if i < lf (lev (wsOf ns) (most - 1 - k)) T then 1 else 0))) (kept : Kept (fun j => j = go ∨ j = bt) w3 W') :
    LI ns most w3 go bt n cn (k + 1) W' (2 * pk (lev (wsOf ns) (most - 1 - k)) T) (fun i => p i + if i < lf (lev (wsOf ns) (most - 1 - k)) T then 1 else 0) := by
  obtain ⟨h1, h2⟩ := h.more hk
  refine ⟨ct, ft, row, kept, ?_, ?_, ?_, ?_⟩
  · have h3 := pk_le_T (lev (wsOf ns) (most - 1 - k)) T
    by_cases e : most - 1 - k = 0
    · rw [e, pk_zero]; omega
    · have h4 := pk_le (wsOf ns) (most - 1 - k - 1) T
      rw [show most - 1 - k - 1 + 1 = most - 1 - k by omega] at h4
      have h5 := (lev_length (wsOf ns) (most - 1 - k - 1)).2
      omega
  · intro i
    have := h.hp i
    split <;> omega
  · intro hk2
    have e : most - 1 - k = (most - 1 - (k + 1)) + 1 := by omega
    rw [e] at h2 ⊢
    refine ⟨pk_le _ _ _, fun i => ?_⟩
    have h3 := h2 i
    have e3 : gain (wsOf ns) (most - 1 - (k + 1) + 1) T i = (if i < lf (lev (wsOf ns) (most - 1 - (k + 1) + 1)) T then 1 else 0) + gain (wsOf ns) (most - 1 - (k + 1)) (2 * pk (lev (wsOf ns) (most - 1 - (k + 1) + 1)) T) i := rfl
    rw [e3] at h3
    omega
  · intro hk2 i
    have e : most - 1 - k = 0 := by omega
    have h3 := h2 i
    rw [e] at h3 ⊢
    have e3 : gain (wsOf ns) 0 T i = if i < lf (lev (wsOf ns) 0) T then 1 else 0 := rfl
    rw [e3] at h3
    exact h3

set_option maxRecDepth 100000 in
set_option maxHeartbeats 4000000 in
theorem lengthen_in (F : Fence) (fm : Nat) (h34 : F.fn 76) (h5 : F.fn 89) (h7 : F.fn 96) (hro : F.round = none) (hfm : 3 ≤ fm)
    (w : World) (ns : List Nat) (most go n cn gl capl : Nat) (vu : Value) (I : Nat → Prop) (Bl Bo : Nat) (vs : List (Option Addr × Nat × Nat)) (hrow : NRow Bo w (.slice (some ⟨go, 0, none⟩) n cn) (List.replicate n 0)) (hn : n = ns.length) (hns : ns.length ≤ 288)
    (hu : SrcE natV w I vu (ris ns)) (hI : ∀ k, I k → k ≠ go) (hl : LRow Bl w (.slice (some ⟨gl, 0, none⟩) most capl) vs) (hlev : Levs Bl w ns vs) (hm2 : 2 ≤ (ris ns).length) (hm1 : 1 ≤ most) (hmost : most ≤ 15) (hfit : (ris ns).length ≤ 2 ^ most) :
    CallsIn F fm Tryd.prog 76 #[.slice (some ⟨go, 0, none⟩) n cn, vu, .slice (some ⟨gl, 0, none⟩) most capl] w fun e w' => (∃ v, e = .returned v) ∧ NRow 0 w' (.slice (some ⟨go, 0, none⟩) n cn) (outP ns (gain (wsOf ns) (most - 1) (2 * (wsOf ns).length - 2))) ∧ Kept (· = go) w w' := by
  have h1 : 1 ≤ fm := by omega
  obtain ⟨bu, ou, capu, hvu, _, _, _⟩ := hu.get 0 (by omega)
  subst hvu
  have hvl : vs.length = most := hl.len
  have hgo : go < w.heap.size := hrow.lt rfl
  have hgl : gl < w.heap.size := hl.lt rfl
  have hglgo : gl ≠ go := NRow.apartL hl hrow rfl rfl
  have hml : (ris ns).length ≤ 288 := Nat.le_trans (ris_length ns) hns
  have hcapu : (ris ns).length ≤ capu := by
    obtain ⟨_, _, e, h, _⟩ := hu
    simp only [Value.slice.injEq] at e
    omega
  have HU : Hid (SrcE natV w (fun k => I k ∧ k < w.heap.size) (.slice (some ⟨bu, ou, none⟩) (ris ns).length capu) (ris ns)) := hu.low
  have HLV : Hid (Levs Bl w ns vs) := hlev
  have HL : Hid (LRow Bl w (.slice (some ⟨gl, 0, none⟩) most capl) vs) := hl
  have HRW : Hid (NRow Bo w (.slice (some ⟨go, 0, none⟩) n cn) (List.replicate n 0)) := hrow
  obtain ⟨m, hm⟩ : ∃ m, m = (ris ns).length := ⟨_, rfl⟩
  have HM : Hid (m = (ris ns).length) := hm
  rw [← hm] at hm2 hml hcapu hfit HU ⊢
  have HFIT : Hid (m ≤ 2 ^ most) := hfit
  have HN : Hid (n = ns.length) := hn
  have HI : Hid (∀ k, I k → k ≠ go) := hI
  have HVL : Hid (vs.length = most) := hvl
  clear hu hlev hl hrow hm hfit hn hI hvl
  refine callsIn_of_wp_marks Tryd.func76 rfl h34 ?_ hro
  simp only [Tryd.ntmps76, List.size_toArray, List.length_cons, List.length_nil, Nat.reduceAdd, Nat.reduceSub, Array.replicate_succ, Array.replicate_zero, List.push_toArray, List.append_toArray, List.nil_append, List.cons_append]
  gi_wp2_with (gi_at_call 89; refine (lbackward_in F (fm - 1) h5 hro _ _ _ _).mono ?_; rintro e w' ⟨rfl, rfl⟩)
  obtain ⟨w3, hw3⟩ : ∃ w3, w3 = (((w.alloc (.cells #[.slice (some ⟨go, 0, none⟩) n cn] 22)).alloc (.cells #[.slice (some ⟨bu, ou, none⟩) m capu] 22)).alloc (.cells #[.int .i64 (2 * (m : Int) - 2)] 3)).alloc (.cells #[.slice (some ⟨gl, 0, none⟩) most capl] 112) := ⟨_, rfl⟩
  have hsa : ∀ (W : World) (o : Obj), (W.alloc o).heap.size = W.heap.size + 1 := fun W o => World.size_alloc W o
  have ka : ∀ (W : World) (o : Obj), Same W (W.alloc o) := fun W o => (Kept.refl _ W).alloc o
  have hnew : ∀ (W : World) (v : Value) (t : TypeId), (W.alloc (.cells #[v] t)).cell? ⟨W.heap.size, 0, none⟩ = some v := fun W v t => by simp
  have hfz : ∀ (W : World) (v : Value) (t : TypeId), (W.alloc (.cells #[v] t)).frozen? ⟨W.heap.size, 0, none⟩ = false := fun W v t => by simp
  have F3 : Same w w3 ∧ w3.heap.size = w.heap.size + 1 + 1 + 1 + 1 ∧ w3.cell? ⟨w.heap.size, 0, none⟩ = some (.slice (some ⟨go, 0, none⟩) n cn) ∧ w3.cell? ⟨w.heap.size + 1, 0, none⟩ = some (.slice (some ⟨bu, ou, none⟩) m capu) ∧
      w3.cell? ⟨w.heap.size + 1 + 1, 0, none⟩ = some (.int .i64 ((2 * m - 2 : Nat) : Int)) ∧ w3.frozen? ⟨w.heap.size + 1 + 1, 0, none⟩ = false ∧ w3.cell? ⟨w.heap.size + 1 + 1 + 1, 0, none⟩ = some (.slice (some ⟨gl, 0, none⟩) most capl) := by
    have e2 : (2 * (m : Int) - 2) = ((2 * m - 2 : Nat) : Int) := by omega
    rw [e2] at hw3
    generalize hA : w.alloc (.cells #[.slice (some ⟨go, 0, none⟩) n cn] 22) = wa at hw3
    generalize hB : wa.alloc (.cells #[.slice (some ⟨bu, ou, none⟩) m capu] 22) = wb at hw3
    generalize hC : wb.alloc (.cells #[.int .i64 ((2 * m - 2 : Nat) : Int)] 3) = wc at hw3
    have s1 : wa.heap.size = w.heap.size + 1 := by rw [← hA, hsa]
    have s2 : wb.heap.size = w.heap.size + 1 + 1 := by rw [← hB, hsa, s1]
    have s3 : wc.heap.size = w.heap.size + 1 + 1 + 1 := by rw [← hC, hsa, s2]
    have k1 : Same w wa := by rw [← hA]; exact ka _ _
    have k2 : Same wa wb := by rw [← hB]; exact ka _ _
    have k3 : Same wb wc := by rw [← hC]; exact ka _ _
    have k4 : Same wc w3 := by rw [hw3]; exact ka _ _
    have c1 : wa.cell? ⟨w.heap.size, 0, none⟩ = some (.slice (some ⟨go, 0, none⟩) n cn) := by rw [← hA]; exact hnew _ _ _
    have c2 : wb.cell? ⟨wa.heap.size, 0, none⟩ = some (.slice (some ⟨bu, ou, none⟩) m capu) := by rw [← hB]; exact hnew _ _ _
    have c3 : wc.cell? ⟨wb.heap.size, 0, none⟩ = some (.int .i64 ((2 * m - 2 : Nat) : Int)) := by rw [← hC]; exact hnew _ _ _
    have f3 : wc.frozen? ⟨wb.heap.size, 0, none⟩ = false := by rw [← hC]; exact hfz _ _ _
    have c4 : w3.cell? ⟨wc.heap.size, 0, none⟩ = some (.slice (some ⟨gl, 0, none⟩) most capl) := by rw [hw3]; exact hnew _ _ _
    rw [s1] at c2
    rw [s2] at c3 f3
    rw [s3] at c4
    refine ⟨Same.trans k1 (Same.trans k2 (Same.trans k3 k4)), by rw [hw3, hsa, s3], (Same.trans k2 (Same.trans k3 k4)).cell c1 (fun h => h), (Same.trans k3 k4).cell c2 (fun h => h), k4.cell c3 (fun h => h), ?_, c4⟩
    exact (k4.frozen (p := ⟨w.heap.size + 1 + 1, 0, none⟩) (by rw [s3]; simp) (fun h => h)).trans f3
  rw [← hw3]
  clear hw3 hsa ka hnew hfz
  generalize hb3 : w.heap.size + 1 + 1 + 1 = b3 at *
  generalize hb2 : w.heap.size + 1 + 1 = b2 at *
  generalize hb1 : w.heap.size + 1 = b1 at *
  have HF3 : Hid (Same w w3 ∧ w3.heap.size = b3 + 1) := ⟨F3.1, F3.2.1⟩
  obtain ⟨_, _, cb0, cb1, cb2, fb2, cb3⟩ := F3
  have hbb : w.heap.size < b1 ∧ b1 < b2 ∧ b2 < b3 ∧ b3 < w3.heap.size := by have := HF3.out.2; omega
  clear hb3 hb2 hb1
  have hwl : (wsOf ns).length = m := by rw [wsOf_length]; exact HM.out.symm
  refine range_each hro h1 (gf := 96) (lb := #[.pointer (some ⟨b3, 0, none⟩)]) rfl h7 (enters_of Tryd.func96 (by kernel_rfl) rfl) most (levVals vs) (fun _ => rfl) (Keep2 b3 gl) Keep2.trans
    (fun W l o hl => ⟨World.putObj_heap_other (by omega), World.putObj_heap_other (by omega)⟩) (fun k W => ∃ T p, LI ns most w3 go b2 n cn k W T p) (LI.own ns most w3 go b2 n cn)
    ⟨2 * m - 2, fun _ => 0, cb2, fb2, by rw [outP_zero, ← HN.out]; exact RowE.base (HRW.out.same HF3.out.1) (Nat.zero_le _), Kept.refl _ _, by omega, fun _ => by omega, fun _ => ⟨by
        have h := lev_top (wsOf ns) (most - 1) (by rw [hwl, show most - 1 + 1 = most by omega]; exact HFIT.out)
        rw [hwl] at h
        exact h, fun i => by rw [hwl]; simp⟩, fun h => by omega⟩
    (fun k => { tmps := #[.slice (some ⟨go, 0, none⟩) n cn, .slice (some ⟨bu, ou, none⟩) m capu, .slice (some ⟨gl, 0, none⟩) most capl, .pointer (some ⟨w.heap.size, 0, none⟩), .pointer (some ⟨b1, 0, none⟩), undef, .pointer (some ⟨b2, 0, none⟩), undef,
      .slice (vs.getD (vs.length - 1 - k) (none, 0, 0)).1 (vs.getD (vs.length - 1 - k) (none, 0, 0)).2.1 (vs.getD (vs.length - 1 - k) (none, 0, 0)).2.2, undef, undef, undef, undef, undef, .slice (some ⟨bu, ou, none⟩) m capu, .int .i64 (m : Nat), .int .i64 (2 * (m : Int)), .int .i64 (2 * (m : Int) - 2),
      .slice (some ⟨gl, 0, none⟩) most capl, .func (.func 96) #[] #[.pointer (some ⟨b3, 0, none⟩)], .int .i64 ((vs.length - 1 - k : Nat) : Int),
      .slice (vs.getD (vs.length - 1 - k) (none, 0, 0)).1 (vs.getD (vs.length - 1 - k) (none, 0, 0)).2.1 (vs.getD (vs.length - 1 - k) (none, 0, 0)).2.2, undef, undef, undef, undef, undef, undef, undef, undef, undef, undef, undef, undef, undef, undef, undef, undef, undef, undef, undef, undef, undef, undef, undef, undef, undef, undef, undef, undef, undef, undef, undef, undef], defers := [] }) ?seq ?assign ?body ?done
  case seq =>
    intro l J W hW hY hJ
    have hcl : W.cell? ⟨b3, 0, none⟩ = some (.slice (some ⟨gl, 0, none⟩) vs.length capl) := by rw [HVL.out]; exact (hW.cell (p := ⟨b3, 0, none⟩) hbb.2.2.2).trans cb3
    have := lback1_in F (fm - 1) h7 hro (by omega) l b3 gl capl vs (by have := HVL.out; omega) J (fun k W1 hk hj => hY k W1 (by rw [← HVL.out]; exact hk) hj) W hcl
      (fun j hj => (hW.cell (p := ⟨gl, j, none⟩) (by show gl < _; omega)).trans (HF3.out.1.cell (HL.out.cell j hj) (fun h => h))) hJ
    rw [HVL.out] at this
    exact this
  case assign =>
    intro l k W K hk hK
    unfold levVals slV
    gi_wp2
    exact hK
  case body =>
    rintro l k W hk ⟨T, p, hLI⟩
    have hlt : most - 1 - k < vs.length := by have := HVL.out; omega
    obtain ⟨la, ln, lc, hv⟩ : ∃ la ln lc, vs[most - 1 - k] = (la, ln, lc) := ⟨_, _, _, rfl⟩
    have hget : vs.getD (vs.length - 1 - k) (none, 0, 0) = (la, ln, lc) := by rw [HVL.out]; simp [List.getD, hlt, hv]
    have htr0 : TRow Bl w (.slice la ln lc) (lev (wsOf ns) (most - 1 - k)) := by have h := HLV.out _ hlt; rw [hv] at h; exact h
    have htr : TRow Bl W (.slice la ln lc) (lev (wsOf ns) (most - 1 - k)) := TRow.kept (TRow.kept htr0 HF3.out.1 (fun _ _ h => h)) hLI.kept (fun j hj e => by
      rcases e with rfl | rfl
      · exact NRow.apartT htr0 HRW.out hj rfl rfl
      · have := htr0.lt hj; omega)
    rw [hget]
    dsimp only
    have hXl : 0 < (lev (wsOf ns) (most - 1 - k)).length := by have := lev_ge (wsOf ns) (most - 1 - k); omega
    obtain ⟨hTl, _⟩ := hLI.more hk
    have HLI : Hid (LI ns most w3 go b2 n cn k W T p) := hLI
    generalize hX : lev (wsOf ns) (most - 1 - k) = X at htr hXl hTl
    have HX : Hid (lev (wsOf ns) (most - 1 - k) = X) := hX
    obtain ⟨ax, capx, hvx, hcapx, hcells⟩ := htr.shape
    obtain ⟨gx, hax, hgx, hcell⟩ := hcells (by intro e; rw [e] at hXl; simp at hXl)
    simp only [Value.slice.injEq] at hvx
    obtain ⟨rfl, rfl, rfl⟩ := hvx
    subst hax
    have HC : Hid (∀ j (_ : j < X.length), W.cell? ⟨gx, j * 2, none⟩ = some (.int .i64 (X[j].1 : Int)) ∧ W.cell? ⟨gx, j * 2 + 1, none⟩ = some (.bool X[j].2)) := hcell
    have ct := hLI.ct
    have hT6 := hLI.hT
    have hTc : T ≤ lc := by omega
    clear hcells hcell htr htr0 hX hv hget hLI hlt
    gi_wp2
    gi_loopw [9, 26] (fun z9 z26 wx => ∃ j : Nat, j ≤ T ∧ z9 = .int .i64 (pk X j : Nat) ∧ z26 = .int .i64 (j : Nat) ∧ Hid (Same W wx)) (fun _ z26 _ => T - (intOf z26).toNat)
    case atStart => exact ⟨0, by omega, by simp [pk], rfl, Kept.refl _ _⟩
    case round =>
      obtain ⟨j, hj, rfl, rfl, HS⟩ := hrel
      by_cases hjT : j < T
      · have hjX : j < X.length := by omega
        obtain ⟨c1, c2⟩ := HC.out j hjX
        have d1 := HS.out.cell c1 (fun h => h)
        have d2 := HS.out.cell c2 (fun h => h)
        have hpk := pk_succ X j hjX
        have hpl := pk_le_T X j
        obtain ⟨xw, hxw⟩ : ∃ x, x = X[j].1 := ⟨_, rfl⟩
        rw [← hxw] at d1
        clear c1 c2 hxw
        cases hb : X[j].2 with
        | true =>
          rw [hb] at d2 hpk
          have HPK : Hid (pk X (j + 1) = pk X j + 1) := hid (by simpa using hpk)
          clear hpk hb
          generalize pk X j = pj at *
          gi_wp2
          go_roundw
          case rel => exact ⟨j + 1, by omega, by rw [HPK.out]; go_num, by go_num, hid (by first | exact (HS.out.alloc _) | exact ((HS.out.alloc _).setCell _ _ (.inr HS.out.size)).setCell _ _ (.inr HS.out.size))⟩
          case measure => simp [intOf]; omega
        | false =>
          rw [hb] at d2 hpk
          have HPK : Hid (pk X (j + 1) = pk X j) := hid (by simpa using hpk)
          clear hpk hb
          generalize pk X j = pj at *
          gi_wp2
          go_roundw
          case rel => exact ⟨j + 1, by omega, by rw [HPK.out], by go_num, hid (by first | exact (HS.out.alloc _) | exact ((HS.out.alloc _).setCell _ _ (.inr HS.out.size)).setCell _ _ (.inr HS.out.size))⟩
          case measure => simp [intOf]; omega
      · have hjT2 : j = T := by omega
        subst hjT2
        have hpl := pk_le_T X j
        have hlf := pk_lf X j hTl
        obtain ⟨aa, haa⟩ : ∃ aa, aa = lf X j := ⟨_, rfl⟩
        obtain ⟨pp, hpp⟩ : ∃ pp, pp = pk X j := ⟨_, rfl⟩
        rw [← haa, ← hpp] at hlf
        rw [← hpp] at hpl ⊢
        have ham : aa ≤ m := by
          have h1 := lev_lf_le (wsOf ns) (most - 1 - k) j
          rw [HX.out, ← haa, hwl] at h1
          exact h1
        have HAA : Hid (aa = lf X j) := haa
        have HPP : Hid (pp = pk X j) := hpp
        have hsub : ((j : Int) - (pp : Int)) = (aa : Int) := by omega
        have hk0 := HLI.out.kept
        have ct2 : wr.cell? ⟨b2, 0, none⟩ = some (.int .i64 (j : Nat)) := HS.out.cell ct (fun h => h)
        have ft2 : wr.frozen? ⟨b2, 0, none⟩ = false := (HS.out.frozen (p := ⟨b2, 0, none⟩) (World.block_lt_of_cell? W _ ct) (fun h => h)).trans HLI.out.ft
        have du : wr.cell? ⟨b1, 0, none⟩ = some (.slice (some ⟨bu, ou, none⟩) m capu) := HS.out.cell (hk0.cell cb1 (by show ¬ (b1 = go ∨ b1 = b2); omega)) (fun h => h)
        have dv : wr.cell? ⟨w.heap.size, 0, none⟩ = some (.slice (some ⟨go, 0, none⟩) n cn) := HS.out.cell (hk0.cell cb0 (by show ¬ (w.heap.size = go ∨ w.heap.size = b2); omega)) (fun h => h)
        have HU2 : Hid (SrcE natV wr (fun k => I k ∧ k < w.heap.size) (.slice (some ⟨bu, ou, none⟩) m capu) (ris ns)) := hid (by
          refine SrcE.same (SrcE.kept (SrcE.same HU.out HF3.out.1) hk0 (fun x hx _ e => ?_)) HS.out
          rcases e with e | e
          · exact HI.out x hx.1 e
          · omega)
        have HR0 : Hid (NRow 0 wr (.slice (some ⟨go, 0, none⟩) n cn) (outP ns p)) := hid (HLI.out.row.same HS.out)
        have hcu : aa ≤ capu := by omega
        clear haa hpp hk0 ct
        gi_wp2
        gi_loopw [41] (fun z wy => ∃ q : Nat, q ≤ aa ∧ z = .int .i64 (q : Nat) ∧ Hid (NRow 0 wy (.slice (some ⟨go, 0, none⟩) n cn) (outP ns (fun i => p i + if i < q then 1 else 0))) ∧ Hid (Kept (· = go) wr wy)) (fun z _ => aa - (intOf z).toNat)
        case atStart => exact ⟨0, by omega, rfl, hid (by simpa using HR0.out), Kept.refl _ _⟩
        case round =>
          obtain ⟨q, hq, rfl, HR, HK⟩ := hrel
          have dv2 := HK.out.cell dv (by show ¬ w.heap.size = go; omega)
          by_cases hqa : q < aa
          · have hql : q < (ris ns).length := by have := HM.out; omega
            obtain ⟨bq, oq, cq, eq, _, _, cs⟩ := (SrcE.kept HU2.out HK.out (fun x hx _ e => HI.out x hx.1 e)).get q hql
            simp only [Value.slice.injEq, Option.some.injEq, Addr.mk.injEq, and_true] at eq
            obtain ⟨⟨rfl, rfl⟩, hxe, rfl⟩ := eq
            clear hxe
            obtain ⟨sy, hsy⟩ : ∃ sy, sy = (ris ns)[q] := ⟨_, rfl⟩
            rw [← hsy] at cs
            unfold natV at cs
            have hsr := mem_ris.1 (by rw [hsy]; exact List.getElem_mem _ : sy ∈ ris ns)
            have hsn : sy < n := by have := HN.out; omega
            have hso : sy < (outP ns (fun i => p i + if i < q then 1 else 0)).length := by rw [outP_length]; exact hsr.1
            obtain ⟨y, hy⟩ : ∃ y, y = p q := ⟨_, rfl⟩
            have hyk : y ≤ k := by rw [hy]; exact HLI.out.hp q
            have cy : wr.cell? ⟨go, sy, none⟩ = some (.int .i64 (y : Nat)) := by
              rw [HR.out.cell sy hso]
              unfold natV
              congr 3
              subst hsy
              rw [outP_get ns _ q hql hso, hy]
              simp
            have fy := HR.out.frozen sy
            have HR2 : Hid (NRow 0 (wr.setCell ⟨go, sy, none⟩ (.int .i64 ((y : Int) + 1))) (.slice (some ⟨go, 0, none⟩) n cn) (outP ns (fun i => p i + if i < q + 1 then 1 else 0))) := hid (by
              have h := HR.out.lay sy (y + 1)
              subst hsy
              rw [outP_set ns _ q (y + 1) hql] at h
              rw [outP_congr ns (fun i => p i + if i < q + 1 then 1 else 0) (fun i => if i = q then y + 1 else p i + if i < q then 1 else 0) (fun i _ => by
                by_cases e : i = q
                · subst e; simp [hy]
                · by_cases e2 : i < q
                  · simp [e, e2, show i < q + 1 by omega]
                  · simp [e, e2, show ¬ i < q + 1 by omega])]
              exact h)
            clear hsy hsr hso hy
            gi_wp2
            go_roundw
            case rel => exact ⟨q + 1, by omega, by go_num, HR2, HK.out.setCell _ _ (.inl rfl)⟩
            case measure => simp [intOf]; omega
          · have hqa2 : q = aa := by omega
            subst hqa2
            have ct3 := HK.out.cell ct2 (by show ¬ b2 = go; omega)
            have ft3 : wr.frozen? ⟨b2, 0, none⟩ = false := (HK.out.frozen (p := ⟨b2, 0, none⟩) (World.block_lt_of_cell? _ _ ct2) (by show ¬ b2 = go; omega)).trans ft2
            have HKW : Hid (Kept (· = go) W wr) := hid (Kept.trans HS.out HK.out (fun _ _ h => h.elim) (fun _ _ h => h))
            have HK3 : Hid (Kept (fun j => j = go ∨ j = b2) w3 wr) := hid (HLI.out.kept.trans HKW.out (fun _ _ h => h) (fun _ _ h => .inl h))
            have hgoW : go < w3.heap.size := by omega
            gi_wp2
            have h2p : ((2 : Int) * (pp : Int)) = ((2 * pp : Nat) : Int) := by omega
            rw [h2p]
            refine ⟨rfl, ?_, ?_, 2 * pp, fun i => p i + if i < q then 1 else 0, ?_⟩
            · have hkk : Kept (fun j => j = go ∨ j = b2) W (wr.setCell ⟨b2, 0, none⟩ (.int .i64 ((2 * pp : Nat) : Int))) := (HKW.out.mono (fun _ _ h => .inl h)).setCell _ _ (.inl (.inr rfl))
              refine ⟨hkk.size, fun x o hB hx _ => ?_⟩
              exact (hkk.block x (Array.getElem?_eq_some_iff.1 hx).1 (by omega)).trans hx
            · have hkk : Kept (fun j => j = go ∨ j = b2) W (wr.setCell ⟨b2, 0, none⟩ (.int .i64 ((2 * pp : Nat) : Int))) := (HKW.out.mono (fun _ _ h => .inl h)).setCell _ _ (.inl (.inr rfl))
              have hWs := HLI.out.kept.size
              exact ⟨hkk.block b3 (by omega) (by omega), hkk.block gl (by omega) (by omega)⟩
            · have hX := HX.out
              have h1 := HLI.out.next (W' := wr.setCell ⟨b2, 0, none⟩ (.int .i64 ((2 * pp : Nat) : Int))) hk (by omega) (by rw [hX, ← HPP.out]; exact World.cell?_setCell_same' _ _ _ (by rw [ct3]; rfl)) (by rw [World.frozen?_setCell]; exact ft3)
                (by rw [hX, ← HAA.out]; exact HR.out.kept ((Kept.refl (· = b2) wr).setCell ⟨b2, 0, none⟩ _ (.inl rfl)) (fun x hx e => by simp [Value.ownBlock] at hx; omega)) (HK3.out.setCell _ _ (.inl (.inr rfl)))
              rw [hX, ← HPP.out, ← HAA.out] at h1
              exact h1
  case done =>
    rintro D W hD ⟨T, p, hLI⟩ hK
    have HFIN : Hid (NRow 0 W (.slice (some ⟨go, 0, none⟩) n cn) (outP ns (gain (wsOf ns) (most - 1) (2 * (wsOf ns).length - 2))) ∧ Kept (fun j => j = go ∨ j = b2) w3 W) := hid ⟨by
      have h := hLI.row
      rw [outP_congr ns p _ (fun i _ => hLI.done rfl i)] at h
      exact h, hLI.kept⟩
    clear hLI
    gi_wp2
    refine ⟨by simp, .inl ⟨_, _, rfl, run_takeDeferred hK, ?_⟩⟩
    refine ⟨_, results_none rfl _ _ _, ⟨_, rfl⟩, ?_, ?_⟩
    · exact World.ownsRow.kept HFIN.out.1 (grownBy_putObj' W D _) (.inr (by simp [Value.ownBlock]; omega))
    · have hk1 : Kept (· = go) w W := Kept.trans HF3.out.1 HFIN.out.2 (fun _ _ h => h.elim) (fun x hx h => by rcases h with h | h; exact h; omega)
      exact hk1.grown (grownBy_putObj' W D _) (fun x e => .inr (by cases e; omega))

/-- lengthen: each used symbol has what it gains. -/
theorem lengthen_any (w : World) (ns : List Nat) (most go n cn gl capl : Nat) (vu : Value) (I : Nat → Prop) (Bl Bo : Nat) (vs : List (Option Addr × Nat × Nat)) (hrow : NRow Bo w (.slice (some ⟨go, 0, none⟩) n cn) (List.replicate n 0)) (hn : n = ns.length) (hns : ns.length ≤ 288)
    (hu : SrcE natV w I vu (ris ns)) (hI : ∀ k, I k → k ≠ go) (hl : LRow Bl w (.slice (some ⟨gl, 0, none⟩) most capl) vs) (hlev : Levs Bl w ns vs) (hm2 : 2 ≤ (ris ns).length) (hm1 : 1 ≤ most) (hmost : most ≤ 15) (hfit : (ris ns).length ≤ 2 ^ most) :
    Calls Tryd.prog 76 #[.slice (some ⟨go, 0, none⟩) n cn, vu, .slice (some ⟨gl, 0, none⟩) most capl] w fun e w' => (∃ v, e = .returned v) ∧ NRow 0 w' (.slice (some ⟨go, 0, none⟩) n cn) (outP ns (gain (wsOf ns) (most - 1) (2 * (wsOf ns).length - 2))) ∧ Kept (· = go) w w' := by
  refine (callsIn_wide (n := 3)).1 ?_
  exact lengthen_in Fence.wide 3 trivial trivial trivial rfl (by omega) w ns most go n cn gl capl vu I Bl Bo vs hrow hn hns hu hI hl hlev hm2 hm1 hmost hfit

end Go.Proofs.YtofhlnpbflkdlaaDoor

/-
  Limit.
-/
namespace Go.Proofs.YtofhlnpbflkdlaaDoor
open Go.RowKit

/-- Limit's lengths. -/
def limL (ns : List Nat) (most : Nat) : List Nat :=
  if (ris ns).length ≤ 1 then outP ns (fun _ => 1) else outP ns (gain (wsOf ns) (most - 1) (2 * (wsOf ns).length - 2))

theorem limL_length (ns : List Nat) (most : Nat) : (limL ns most).length = ns.length := by unfold limL; split <;> exact outP_length _ _

set_option maxRecDepth 100000 in
set_option maxHeartbeats 1000000 in
theorem limit_arg (w : World) (v : Value) (I : Nat → Prop) (zs : List Int) (mz : Int) (hs : SrcE intV w I v zs) (hn : zs.length ≤ 1000000) (hb : okAll zs 0 1000000000000 = false ∨ mz < 1 ∨ 15 < mz) :
    Calls Tryd.prog 62 #[v, .int .i64 mz] w fun e w' => e = .returned (.tuple #[.slice none 0 0, .int .i64 1]) ∧ Same w w' := by
  have HC := all_any w v I zs 0 1000000000000 hs hn
  clear hs
  go_enter Tryd.func62, Tryd.ntmps62
  go_wp2_with fail
  refine HC.mono ?_
  rintro e w2 ⟨rfl, hk⟩
  have HK : Hid (Same w w2) := hk
  clear hk HC
  cases hok : okAll zs 0 1000000000000 with
  | false =>
    go_wp2_with fail
    go_ret2
    exact ⟨rfl, HK.out⟩
  | true =>
    rw [hok] at hb
    have hb2 : mz < 1 ∨ 15 < mz := by simpa using hb
    clear hb hok
    by_cases h1 : mz < 1
    · go_wp2_with fail
      go_ret2
      exact ⟨rfl, HK.out⟩
    · have h2 : 15 < mz := by omega
      go_wp2_with fail
      go_ret2
      exact ⟨rfl, HK.out⟩

theorem wrap_pow (k : Nat) (h : k ≤ 15) : wrap64 ((2 : Int) ^ k) = ((2 ^ k : Nat) : Int) := by
  have h1 : (2 : Int) ^ k = ((2 ^ k : Nat) : Int) := by simp
  have h2 : 2 ^ k ≤ 2 ^ 15 := Nat.pow_le_pow_right (by omega) h
  have h3 : (2 : Nat) ^ 15 = 32768 := by decide
  rw [h1]
  generalize 2 ^ k = q at *
  unfold wrap64
  omega

set_option maxRecDepth 100000 in
set_option maxHeartbeats 2000000 in
theorem limit_over (w : World) (v : Value) (I : Nat → Prop) (zs : List Int) (most : Nat) (hs : SrcE intV w I v zs) (hok : okAll zs 0 1000000000000 = true) (h1 : 1 ≤ most) (h15 : most ≤ 15) (hover : 2 ^ most < (ris (zs.map Int.toNat)).length) :
    Calls Tryd.prog 62 #[v, .int .i64 (most : Nat)] w fun e w' => e = .returned (.tuple #[.slice none 0 0, .int .i64 30]) ∧ Same w w' := by
  obtain ⟨eN, h0, h288, hle⟩ := okAll_nat hok
  have HC := all_any w v I zs 0 1000000000000 hs (by omega)
  rw [hok] at HC
  have HS : Hid (SrcE natV w I v (zs.map Int.toNat)) := hid (hs.recode eN)
  have hnl : (zs.map Int.toNat).length = zs.length := by simp
  generalize zs.map Int.toNat = ns at *
  have hrl : (ris ns).length ≤ 288 := by have := ris_length ns; omega
  have g1 : decide ((most : Int) < 1) = false := by simp; omega
  have g2 : decide ((15 : Int) < (most : Int)) = false := by simp; omega
  clear hs hok eN hle
  go_enter Tryd.func62, Tryd.ntmps62
  go_wp2_with fail
  refine HC.mono ?_
  rintro e w2 ⟨rfl, hk⟩
  have HK : Hid (Same w w2) := hk
  clear hk HC
  have HRI := rising_any w2 v I ns (HS.out.same HK.out) (by omega)
  go_wp2_with fail
  refine HRI.mono ?_
  rintro e w3 ⟨v3, rfl, hn3⟩
  obtain ⟨a3, c3, hv3, _⟩ := hn3.row.shape
  subst hv3
  have HK3 : Hid (Same w w3) := hid (Same.trans HK.out hn3.same)
  clear hn3 HRI hnl
  generalize (ris ns).length = rl at *
  obtain ⟨pw, hpw⟩ : ∃ pw, pw = 2 ^ most := ⟨_, rfl⟩
  have hwr := wrap_pow most h15
  rw [← hpw] at hwr hover
  clear hpw
  go_wp2_with fail
  go_ret2
  exact ⟨rfl, HK3.out⟩

set_option maxRecDepth 100000 in
set_option maxHeartbeats 2000000 in
theorem limit_good (w : World) (v : Value) (I : Nat → Prop) (zs : List Int) (ns : List Nat) (most : Nat) (hs : SrcE intV w I v zs) (hok : okAll zs 0 1000000000000 = true) (hns : ns = zs.map Int.toNat) (h1 : 1 ≤ most) (h15 : most ≤ 15) (hfit : (ris ns).length ≤ 2 ^ most) :
    Calls Tryd.prog 62 #[v, .int .i64 (most : Nat)] w fun e w' => (∃ g n cap, e = .returned (.tuple #[.slice (some ⟨g, 0, none⟩) n cap, .int .i64 0]) ∧ NRow 0 w' (.slice (some ⟨g, 0, none⟩) n cap) (limL ns most) ∧ w.heap.size ≤ g) ∧ Same w w' := by
  obtain ⟨eN, h0, h288, hle⟩ := okAll_nat hok
  have HC := all_any w v I zs 0 1000000000000 hs (by omega)
  rw [hok] at HC
  rw [← hns] at eN hle
  obtain ⟨av, capv, hvv, hx1, hx2⟩ := id hs
  clear hx1 hx2
  subst hvv
  have HS : Hid (SrcE natV w (fun k => I k ∧ k < w.heap.size) (.slice av zs.length capv) ns) := hid (hs.recode eN).low
  have hnl : zs.length = ns.length := by rw [hns]; simp
  have hrl : (ris ns).length ≤ 288 := by have := ris_length ns; omega
  have HLE : Hid (∀ n ∈ ns, n ≤ 1000000000000) := hid (fun n hn => by have := hle n hn; omega)
  have g1 : decide ((most : Int) < 1) = false := by simp; omega
  have g2 : decide ((15 : Int) < (most : Int)) = false := by simp; omega
  clear hs hok eN hle hns
  generalize zs.length = n at *
  have HN : Hid (n = ns.length) := hnl
  clear hnl
  go_enter Tryd.func62, Tryd.ntmps62
  go_wp2_with fail
  refine HC.mono ?_
  rintro e w2 ⟨rfl, hk⟩
  have HK : Hid (Same w w2) := hk
  clear hk HC
  have HRI := rising_any w2 _ _ ns (HS.out.same HK.out) (by have := HN.out; omega)
  go_wp2_with fail
  refine HRI.mono ?_
  rintro e w3 ⟨v3, rfl, hn3⟩
  obtain ⟨a3, c3, hv3, _⟩ := hn3.row.shape
  subst hv3
  have HK3 : Hid (Same w w3) := hid (Same.trans HK.out hn3.same)
  have HN3 : Hid (NRow w2.heap.size w3 (.slice a3 (ris ns).length c3) (ris ns)) := hid hn3.row
  have hs2 := HK.out.size
  have hs3 := HK3.out.size
  clear hn3 HRI
  obtain ⟨rl, hrle⟩ : ∃ rl, rl = (ris ns).length := ⟨_, rfl⟩
  have HRL : Hid (rl = (ris ns).length) := hrle
  rw [← hrle] at HN3 hrl hfit ⊢
  clear hrle
  obtain ⟨pw, hpw⟩ : ∃ pw, pw = 2 ^ most := ⟨_, rfl⟩
  have hwr := wrap_pow most h15
  rw [← hpw] at hwr
  have HPW : Hid (pw = 2 ^ most) := hpw
  rw [← hpw] at hfit
  clear hpw
  have hfb : decide (pw < rl) = false := by simp; omega
  by_cases hr0 : rl = 0
  · have HF : Hid (limL ns most = List.replicate n 0) := hid (by
      unfold limL
      rw [← HRL.out, if_pos (by omega), HN.out, ← outP_zero]
      exact outP_congr ns _ _ (fun i hi => by rw [← HRL.out] at hi; omega))
    go_wp2_with (at_make; refine wpList_make_e _ natV 0 w3.heap.size 22 3 8 Tryd.underlying22 Tryd.infoN rfl (by decide) rfl _ _ rfl _ _ _ _ n rfl rfl rfl rfl (by omega) (Nat.le_refl _) ?_; intro w4 hr4 hg4 hs4; have HR4 : Hid (NRow w3.heap.size w4 (.slice (some ⟨w3.heap.size, 0, none⟩) n n) (List.replicate n 0)) := hr4; have HK4 : Hid (Same w3 w4) := hid ((Kept.refl _ w3).grown hg4 (by simp)); clear hr4 hg4)
    go_ret2
    exact ⟨⟨_, _, _, rfl, by rw [HF.out]; exact RowE.base HR4.out (Nat.zero_le _), by omega⟩, Same.trans HK3.out HK4.out⟩
  · have hd0 : ((rl : Int) == 0) = false := by simp; omega
    by_cases hr1 : rl = 1
    · have hd1 : ((rl : Int) == 1) = true := by simp; omega
      have hp0 : 0 < (ris ns).length := by have := HRL.out; omega
      obtain ⟨s, hs⟩ : ∃ s, s = (ris ns)[0] := ⟨_, rfl⟩
      have hsr := mem_ris.1 (by rw [hs]; exact List.getElem_mem _ : s ∈ ris ns)
      have hsn : s < n := by have := HN.out; omega
      obtain ⟨b, o, cap', e5, _, _, c5⟩ := (SrcE.ofRow HN3.out).get 0 hp0
      simp only [Value.slice.injEq] at e5
      obtain ⟨rfl, hxe, rfl⟩ := e5
      clear hxe
      rw [← hs] at c5
      unfold natV at c5
      rw [Nat.add_zero] at c5
      have HR5 : Hid (∀ w4, NRow w3.heap.size w4 (.slice (some ⟨w3.heap.size, 0, none⟩) n n) (List.replicate n 0) → NRow w3.heap.size (w4.setCell ⟨w3.heap.size, s, none⟩ (.int .i64 1)) (.slice (some ⟨w3.heap.size, 0, none⟩) n n) (limL ns most)) := hid (by
        intro w4 hr4
        have h := hr4.lay s 1
        rw [HN.out, ← outP_zero, hs, outP_set ns _ 0 1 hp0, ← hs, ← HN.out] at h
        unfold limL
        rw [← HRL.out, if_pos (by omega), outP_congr ns (fun _ => 1) (fun i => if i = 0 then 1 else 0) (fun i hi => by rw [← HRL.out] at hi; rw [if_pos (show i = 0 by omega)])]
        exact h)
      clear hs hsr hd0 hr0
      have hl1 : 0 < rl := by omega
      clear hr1
      go_wp2_with (at_make; refine wpList_make_e _ natV 0 w3.heap.size 22 3 8 Tryd.underlying22 Tryd.infoN rfl (by decide) rfl _ _ rfl _ _ _ _ n rfl rfl rfl rfl (by omega) (Nat.le_refl _) ?_; intro w4 hr4 hg4 hs4; have HR4 : Hid (NRow w3.heap.size w4 (.slice (some ⟨w3.heap.size, 0, none⟩) n n) (List.replicate n 0)) := hr4; have HK4 : Hid (Same w3 w4) := hid ((Kept.refl _ w3).grown hg4 (by simp)); have c6 := HK4.out.cell c5 (fun h => h); have cy : w4.cell? ⟨w3.heap.size, s, none⟩ = some (.int .i64 0) := (hr4.cell s (by simpa using hsn)).trans (by simp [natV]); have fy := hr4.frozen s; clear hr4 hg4)
      go_ret2
      exact ⟨⟨_, _, _, rfl, RowE.base (HR5.out w4 HR4.out) (Nat.zero_le _), by omega⟩, Same.then (Same.trans HK3.out HK4.out) ((Kept.refl (· = w3.heap.size) w4).setCell ⟨w3.heap.size, s, none⟩ _ (.inl rfl)) (fun x hx e => by omega)⟩
    · have hd1 : ((rl : Int) == 1) = false := by simp; omega
      have hm2 : 2 ≤ (ris ns).length := by have := HRL.out; omega
      have hns288 : ns.length ≤ 288 := by have := HN.out; omega
      go_wp2_with (at_make; refine wpList_make_e _ natV 0 w3.heap.size 22 3 8 Tryd.underlying22 Tryd.infoN rfl (by decide) rfl _ _ rfl _ _ _ _ n rfl rfl rfl rfl (by omega) (Nat.le_refl _) ?_; intro w4 hr4 hg4 hs4; have HR4 : Hid (NRow w3.heap.size w4 (.slice (some ⟨w3.heap.size, 0, none⟩) n n) (List.replicate n 0)) := hr4; have HK4 : Hid (Same w3 w4) := hid ((Kept.refl _ w3).grown hg4 (by simp)); clear hr4 hg4)
      have HLV := levels_any w4 (.slice a3 rl c3) (.slice av n capv) (fun k => (I k ∧ k < w.heap.size) ∨ (Value.slice a3 rl c3).ownBlock = some k) ns most (SrcE.mono (SrcE.ofRow (HN3.out.same HK4.out)) (fun k h => .inr h)) (SrcE.mono (HS.out.same (Same.trans HK3.out HK4.out)) (fun k h => .inl h))
        (by intro e; rw [e] at hm2; simp at hm2) hns288 HLE.out h1 h15
      refine HLV.mono ?_
      rintro e w5 ⟨⟨gl, capl, vs, rfl, hl5, hlev5, hcl⟩, hk5⟩
      have HLN := lengthen_any w5 ns most w3.heap.size n n gl capl (.slice a3 rl c3) (fun k => (Value.slice a3 rl c3).ownBlock = some k) w4.heap.size w3.heap.size vs (HR4.out.same hk5) HN.out hns288 (SrcE.ofRow ((HN3.out.same HK4.out).same hk5)) (fun k hk e => by
          have h1 := HN3.out.lt hk
          omega) hl5 hlev5 hm2 h1 h15 (by rw [← HRL.out, ← HPW.out]; exact hfit)
      have HK5 : Hid (Same w4 w5) := hk5
      clear hl5 hlev5 hk5 HLV
      go_wp2_with fail
      refine HLN.mono ?_
      rintro e w6 ⟨⟨v6, rfl⟩, hr6, hk6⟩
      have HR6 : Hid (NRow 0 w6 (.slice (some ⟨w3.heap.size, 0, none⟩) n n) (limL ns most)) := hid (by
        unfold limL
        rw [if_neg (by omega)]
        exact hr6)
      have HK6 : Hid (Same w w6) := hid (Same.then (Same.trans HK3.out (Same.trans HK4.out HK5.out)) hk6 (fun x hx e => by omega))
      clear hr6 hk6 HLN
      go_wp2_with fail
      go_ret2
      exact ⟨⟨_, _, _, rfl, HR6.out, by omega⟩, HK6.out⟩

end Go.Proofs.YtofhlnpbflkdlaaDoor

/-
  What Limit's lengths measure, cost, and how they rise.
-/
namespace Go.Proofs.YtofhlnpbflkdlaaDoor

theorem map_sum_get (l : List Nat) (f : Nat → Nat) : (l.map f).sum = sumI l.length (fun i => f (l.getD i 0)) := by
  unfold sumI
  congr 1
  refine List.ext_getElem (by simp) (fun i h1 h2 => ?_)
  simp at h1
  simp [List.getD, h1]

theorem sum_used (ns : List Nat) (f : Nat → Nat) (i : Nat) : ((List.range i).map (fun s => if key ns s = 0 then 0 else f s)).sum = ((usedTo ns i).map f).sum := by
  induction i with
  | zero => simp [usedTo]
  | succ i ih =>
    rw [List.range_succ, List.map_append, List.sum_append, ih, usedTo_succ, List.map_append, List.sum_append]
    congr 1
    by_cases h : key ns i = 0 <;> simp [h]

/-- A sum over all symbols is one over the used ones, in their order. -/
theorem sum_ris (ns : List Nat) (f : Nat → Nat) : ((List.range ns.length).map (fun s => if key ns s = 0 then 0 else f s)).sum = sumI (ris ns).length (fun i => f ((ris ns).getD i 0)) := by
  rw [sum_used ns f ns.length, ← map_sum_get (ris ns) f]
  exact (sum_perm f (ris_perm ns)).symm

theorem outP_sum (ns : List Nat) (p : Nat → Nat) (g : Nat → Nat) (hg : g 0 = 0) : ((outP ns p).map g).sum = sumI (ris ns).length (fun i => g (p i)) := by
  have e : (outP ns p).map g = (List.range ns.length).map (fun s => if key ns s = 0 then 0 else g (p ((ris ns).idxOf s))) := by
    unfold outP
    rw [List.map_map]
    refine List.map_congr_left (fun s _ => ?_)
    simp only [Function.comp]
    by_cases h : key ns s = 0
    · rw [if_pos h, if_pos h, hg]
    · rw [if_neg h, if_neg h]
  rw [e, sum_ris]
  refine sumI_congr _ _ _ (fun i hi => ?_)
  have : (ris ns).getD i 0 = (ris ns)[i] := by simp [List.getD, hi]
  rw [this, idx_ris ns i hi]

theorem measure_sum (l : List Nat) : measure l = (l.map unit).sum := rfl
theorem usedN_sum (l : List Nat) : usedN l = (l.map (fun n => if n = 0 then 0 else 1)).sum := by
  induction l with
  | nil => rfl
  | cons a r ih =>
    unfold usedN at *
    rw [List.countP_cons, ih, List.map_cons, List.sum_cons]
    by_cases h : a = 0 <;> simp [h] <;> omega

theorem outP_measure (ns : List Nat) (p : Nat → Nat) : measure (outP ns p) = sumI (ris ns).length (fun i => unit (p i)) := by
  rw [measure_sum, outP_sum ns p unit rfl]

theorem outP_used (ns : List Nat) (p : Nat → Nat) (hp : ∀ i, i < (ris ns).length → p i ≠ 0) : usedN (outP ns p) = (ris ns).length := by
  rw [usedN_sum, outP_sum ns p _ rfl, sumI_congr _ _ (fun _ => 1) (fun i hi => if_neg (hp i hi)), sumI_const, Nat.mul_one]

/-- The lengths of two symbols or more. -/
structure Many (ns : List Nat) (most : Nat) : Prop where
  two : 2 ≤ (ris ns).length
  fit : (ris ns).length ≤ 2 ^ most
  m1 : 1 ≤ most
  m15 : most ≤ 15

def gn (ns : List Nat) (most : Nat) : Nat → Nat := gain (wsOf ns) (most - 1) (2 * (wsOf ns).length - 2)

theorem many_limL {ns : List Nat} {most : Nat} (h : Many ns most) : limL ns most = outP ns (gn ns most) := by
  have := h.two
  unfold limL gn
  rw [if_neg (by omega)]

theorem Many.pos {ns : List Nat} {most : Nat} (h : Many ns most) (i : Nat) (hi : i < (ris ns).length) : 1 ≤ gn ns most i := by
  have h2 := h.two
  have h3 := h.m1
  refine gain_pos (wsOf ns) (wsOf_up ns) (most - 1) (by rw [wsOf_length]; exact h2) (by rw [wsOf_length, show most - 1 + 1 = most by omega]; exact h.fit) i (by rw [wsOf_length]; exact hi)

theorem Many.le {ns : List Nat} {most : Nat} (h : Many ns most) (i : Nat) : gn ns most i ≤ most := by
  have h1 := gain_le (wsOf ns) (most - 1) (2 * (wsOf ns).length - 2) i
  have h3 := h.m1
  unfold gn
  omega

theorem Many.kraft {ns : List Nat} {most : Nat} (h : Many ns most) : measure (limL ns most) = 32768 := by
  have h2 := h.two
  have h3 := h.m1
  have h4 := h.m15
  rw [many_limL h, outP_measure]
  have hk := gain_kraft (wsOf ns) (wsOf_up ns) (most - 1) (by rw [wsOf_length]; exact h2) (by rw [wsOf_length, show most - 1 + 1 = most by omega]; exact h.fit)
  rw [wsOf_length, show most - 1 + 1 = most by omega] at hk
  have e : sumI (ris ns).length (fun i => unit (gn ns most i)) = sumI (ris ns).length (fun i => 2 ^ (15 - most) * 2 ^ (most - gn ns most i)) := by
    refine sumI_congr _ _ _ (fun i hi => ?_)
    have p1 := h.pos i hi
    have p2 := h.le i
    rw [unit, if_neg (by omega), ← Nat.pow_add]
    congr 1
    omega
  have hmul : ∀ (m c : Nat) (f : Nat → Nat), sumI m (fun i => c * f i) = c * sumI m f := by
    intro m c f
    induction m with
    | zero => simp [sumI]
    | succ m ih => rw [sumI_succ, sumI_succ, ih, Nat.mul_add]
  have hk2 : sumI (ris ns).length (fun i => 2 ^ (most - gn ns most i)) = 2 ^ most := by
    unfold gn
    rw [wsOf_length]
    exact hk
  rw [e, hmul, hk2, ← Nat.pow_add, show 15 - most + most = 15 by omega]

theorem Many.cost {ns : List Nat} {most : Nat} (_h : Many ns most) : sumI (ris ns).length (fun i => (wsOf ns).getD i 0 * gn ns most i) = (((lev (wsOf ns) (most - 1)).take (2 * (wsOf ns).length - 2)).map (·.1)).sum := by
  have := gain_cost (wsOf ns) (most - 1) (2 * (wsOf ns).length - 2)
  rw [wsOf_length] at this
  unfold gn
  rw [wsOf_length]
  exact this

/-- A symbol's length. -/
theorem limL_get (ns : List Nat) (most s : Nat) (h : s < (limL ns most).length) : (limL ns most)[s] = if key ns s = 0 then 0 else if (ris ns).length ≤ 1 then 1 else gn ns most ((ris ns).idxOf s) := by
  unfold limL at *
  by_cases h1 : (ris ns).length ≤ 1
  · simp only [if_pos h1, outP, List.getElem_map, List.getElem_range]
  · simp only [if_neg h1, outP, List.getElem_map, List.getElem_range, gn]

theorem idx_lt {ns : List Nat} {s t : Nat} (hs : s ∈ ris ns) (ht : t ∈ ris ns) (h : Lt ns s t) : (ris ns).idxOf s < (ris ns).idxOf t := by
  obtain ⟨i, hi, rfl⟩ := List.getElem_of_mem hs
  obtain ⟨j, hj, rfl⟩ := List.getElem_of_mem ht
  rw [idx_ris ns i hi, idx_ris ns j hj]
  refine Classical.byContradiction (fun hc => ?_)
  by_cases e : i = j
  · subst e; exact Lt.irrefl _ _ h
  · exact h.asymm (Sorted.at (ris_sorted ns) (show j < i by omega) hi)

/-- Who comes more often has no longer code. -/
theorem fair (ns : List Nat) (most s t : Nat) (hs : s < (limL ns most).length) (ht : t < (limL ns most).length) (h0 : key ns s ≠ 0) (h : key ns s < key ns t) : (limL ns most)[t] ≤ (limL ns most)[s] := by
  have hl := limL_length ns most
  rw [limL_get, limL_get, if_neg h0, if_neg (by omega)]
  split
  · exact Nat.le_refl _
  · refine gain_mono _ _ _ _ _ (Nat.le_of_lt (idx_lt (mem_ris.2 ⟨by omega, h0⟩) (mem_ris.2 ⟨by omega, by omega⟩) (.inl h)))

/-- Limit's lengths pass Check. -/
theorem lim_check (ns : List Nat) (most : Nat) (hp : 0 < (ris ns).length) (hfit : (ris ns).length ≤ 2 ^ most) (h1 : 1 ≤ most) (h15 : most ≤ 15) : chkN (limL ns most) = 0 := by
  by_cases h : (ris ns).length ≤ 1
  · have e : (ris ns).length = 1 := by omega
    have el : limL ns most = outP ns (fun _ => 1) := by unfold limL; rw [if_pos h]
    have em : measure (limL ns most) = 16384 := by
      rw [el, outP_measure, e]
      decide
    have eu : usedN (limL ns most) = 1 := by rw [el, outP_used ns _ (fun _ _ => by omega), e]
    unfold chkN
    rw [em, eu]
    decide
  · have hm : Many ns most := ⟨by omega, hfit, h1, h15⟩
    have em := hm.kraft
    unfold chkN
    rw [em, if_neg (by omega), if_pos rfl]

theorem lim_le (ns : List Nat) (most : Nat) (hfit : (ris ns).length ≤ 2 ^ most) (h1 : 1 ≤ most) (h15 : most ≤ 15) : ∀ n ∈ limL ns most, n ≤ most := by
  intro n hn
  obtain ⟨s, hs, rfl⟩ := List.getElem_of_mem hn
  rw [limL_get]
  split
  · omega
  · split
    · omega
    · rename_i h2 h3
      exact Many.le ⟨by omega, hfit, h1, h15⟩ _

/-- The same, told of ints. -/
theorem lim_chk (ns : List Nat) (most : Nat) (hn : ns.length ≤ 288) (hp : 0 < (ris ns).length) (hfit : (ris ns).length ≤ 2 ^ most) (h1 : 1 ≤ most) (h15 : most ≤ 15) : chk ((limL ns most).map (fun (n : Nat) => (n : Int))) = 0 := by
  have hl := limL_length ns most
  have hr := ris_length ns
  have hok : okAll ((limL ns most).map (fun (n : Nat) => (n : Int))) 0 15 = true := by
    simp only [okAll, List.length_map, Bool.and_eq_true, decide_eq_true_eq, Bool.not_eq_true', List.any_eq_false]
    refine ⟨⟨by omega, by omega⟩, fun z hz => ?_⟩
    obtain ⟨n, hn, rfl⟩ := List.mem_map.1 hz
    have := lim_le ns most hfit h1 h15 n hn
    simp [badI]; omega
  unfold chk
  rw [if_pos hok, List.map_map]
  have e : (limL ns most).map (Int.toNat ∘ fun (n : Nat) => (n : Int)) = limL ns most := by
    conv => rhs; rw [← List.map_id (limL ns most)]
    exact List.map_congr_left (fun n _ => by simp)
  rw [e]
  exact lim_check ns most hp hfit h1 h15

end Go.Proofs.YtofhlnpbflkdlaaDoor

/-
  The reference's Same and May.
-/
namespace Go.Proofs.YtofhlnpbflkdlaaDoor
open Go.RowKit

/-- One step of a source. -/
theorem StSrc.get {w : World} {I : Nat → Prop} {ao : Option Addr} {n cap : Nat} {ss : List (Int × Int)} (h : StSrc w I (.slice ao n cap) ss) (i : Nat) (hi : i < ss.length) : ∃ b o, ao = some ⟨b, o, none⟩ ∧ I b ∧ w.cell? ⟨b, o + i * 2, none⟩ = some (.int .i64 ss[i].1) ∧ w.cell? ⟨b, o + i * 2 + 1, none⟩ = some (.int .i64 ss[i].2) := by
  obtain ⟨ao', cap', e1, _, e2⟩ := h
  injection e1 with e3 _ _
  subst e3
  obtain ⟨b, o, e4, hI, e5⟩ := e2 (by intro e; rw [e] at hi; simp at hi)
  exact ⟨b, o, e4, hI, e5 i hi 0 (by decide), e5 i hi 1 (by decide)⟩

set_option maxRecDepth 100000 in
set_option maxHeartbeats 2000000 in
theorem same_any (va vb : Value) (I J : Nat → Prop) (xs ys : List (Int × Int)) (w : World) (ha : StSrc w I va xs) (hb : StSrc w J vb ys) (hx : xs.length ≤ 10000000) (hy : ys.length ≤ 10000000) :
    Calls Tryd.prog 13 #[va, vb] w fun e w' => e = .returned (.bool (decide (xs = ys))) ∧ Same w w' := by
  obtain ⟨ao, ca, rfl, hxa, hsa⟩ := id ha
  obtain ⟨bo, cb, rfl, hxb, hsb⟩ := id hb
  clear hxa hxb hsa hsb
  have HA : Hid (StSrc w I (.slice ao xs.length ca) xs) := ha
  have HB : Hid (StSrc w J (.slice bo ys.length cb) ys) := hb
  clear ha hb
  by_cases hl : xs.length = ys.length
  · have HL : Hid (xs.length = ys.length) := hl
    have hd : ((xs.length : Int) != (ys.length : Int)) = false := by simp [hl]
    clear hl
    go_enter Tryd.func13, Tryd.ntmps13
    go_wp2
    clear hd
    go_loopg [5] xs.length (fun k i wr => ∃ j : Nat, j ≤ xs.length ∧ xs.length - j ≤ k ∧ i = .int .i64 (j : Nat) ∧ Hid (Same w wr) ∧ Hid (xs.take j = ys.take j))
    case atStart => exact ⟨0, by omega, by omega, rfl, Kept.refl _ _, hid (by simp)⟩
    case round =>
      obtain ⟨j, hj, hjk, rfl, HK, HT⟩ := hrel
      by_cases hlt : j < xs.length
      · have hlt2 : j < ys.length := by have := HL.out; omega
        obtain ⟨a, oa, rfl, _, c1, c2⟩ := StSrc.get (HA.out.kept stC_ok HK.out (fun _ _ _ f => f)) j hlt
        obtain ⟨b, ob, rfl, _, d1, d2⟩ := StSrc.get (HB.out.kept stC_ok HK.out (fun _ _ _ f => f)) j hlt2
        obtain ⟨x1, x2, hx1⟩ : ∃ x1 x2, xs[j] = (x1, x2) := ⟨_, _, rfl⟩
        obtain ⟨y1, y2, hy1⟩ : ∃ y1 y2, ys[j] = (y1, y2) := ⟨_, _, rfl⟩
        rw [hx1] at c1 c2
        rw [hy1] at d1 d2
        have HX : Hid (xs[j] = (x1, x2)) := hx1
        have HY : Hid (ys[j] = (y1, y2)) := hy1
        clear hx1 hy1
        by_cases he : x1 = y1 ∧ x2 = y2
        · obtain ⟨rfl, rfl⟩ := he
          go_wp2
          go_quiet (fail)
          go_wp2
          go_roundg (gk - 1)
          case measure => omega
          case rel => exact ⟨j + 1, by omega, by omega, by go_num, hid (HK.out.drewN _), hid (by rw [List.take_succ_eq_append_getElem hlt, List.take_succ_eq_append_getElem hlt2, HT.out, HX.out, HY.out])⟩
        · have HE : Hid (¬ (x1 = y1 ∧ x2 = y2)) := he
          have hne : ¬ xs = ys := by
            intro e
            subst e
            have h := HX.out.symm.trans HY.out
            simp only [Prod.mk.injEq] at h
            exact he h
          have HNE : Hid (¬ xs = ys) := hne
          clear hne
          by_cases h1 : x1 = y1
          · have h2 : ¬ x2 = y2 := fun h => he ⟨h1, h⟩
            subst h1
            have e2 : (x2 == y2) = false := by simp [h2]
            have e3 : decide (x2 = y2) = false := by simp [h2]
            clear he
            go_wp2
            go_quiet (fail)
            go_wp2
            go_ret
            refine ⟨?_, HK.out.drewN _⟩
            simp [HNE.out]
          · have e2 : (x1 == y1) = false := by simp [h1]
            have e3 : decide (x1 = y1) = false := by simp [h1]
            clear he
            go_wp2
            go_quiet (fail)
            go_wp2
            go_ret
            refine ⟨?_, HK.out.drewN _⟩
            simp [HNE.out]
      · have hjl : j = xs.length := by omega
        subst hjl
        go_wp2
        go_ret
        refine ⟨?_, HK.out⟩
        have h1 := HT.out
        rw [List.take_of_length_le (Nat.le_refl _), List.take_of_length_le (by have := HL.out; omega)] at h1
        simp [h1]
  · have hd : ((xs.length : Int) != (ys.length : Int)) = true := by simp; omega
    have HNE : Hid (¬ xs = ys) := hid (fun e => hl (by rw [e]))
    clear hl
    go_enter Tryd.func13, Tryd.ntmps13
    go_wp2
    go_ret
    exact ⟨by simp [HNE.out], Kept.refl _ _⟩

end Go.Proofs.YtofhlnpbflkdlaaDoor

/-
  A writer whose bits are known; the program's codeLengths, comingCodes.
-/
namespace Go.Proofs.YtofhlnpbflkdlaaDoor
open Go.RowKit

/-- A writer with just these bits; since the world wb it alone has turned. -/
structure WS (wb w : World) (p : Nat) (s0 s : Value) (X : List Nat) : Prop where
  wr : Wr w p s (n2 X) X.length
  bit : ∀ b ∈ X, b < 2
  kept : Kept (Fp p s0) wb w
  own : ∀ k, s.ownBlock = some k → s0.ownBlock = some k ∨ wb.heap.size ≤ k

theorem WS.start {w : World} {p : Nat} {s : Value} {X : List Nat} (h : Wr w p s (n2 X) X.length) (hb : ∀ b ∈ X, b < 2) : WS w w p s s X := ⟨h, hb, Kept.refl _ _, fun _ e => .inl e⟩

/-- Behind something that made new memory alone. -/
theorem WS.same {wb w w' : World} {p : Nat} {s0 s : Value} {X : List Nat} (h : WS wb w p s0 s X) (hk : Same w w') : WS wb w' p s0 s X :=
  ⟨h.wr.kept hk (fun _ _ f => f), h.bit, Kept.trans h.kept hk (fun _ _ x => x) (fun _ _ f => f.elim), h.own⟩

/-- The base moved on. -/
theorem WS.base {wa wb w : World} {p : Nat} {s0 s : Value} {X : List Nat} (h : WS wb w p s0 s X) (hk : Same wa wb) : WS wa w p s0 s X :=
  ⟨h.wr, h.bit, Kept.trans (hk.mono (fun _ _ f => f.elim)) h.kept (fun _ _ x => x) (fun _ _ x => x), fun k e => by
    rcases h.own k e with h1 | h1
    · exact .inl h1
    · exact .inr (Nat.le_trans hk.size h1)⟩

theorem ws_put (wb w : World) (p : Nat) (s0 s : Value) (X : List Nat) (v n : Nat) (h : WS wb w p s0 s X) (hn : n ≤ 32) (hv : v < 2 ^ n) (hc : X.length ≤ 1000000000) :
    Calls Tryd.prog 19 #[.pointer (some ⟨p, 0, none⟩), .int .u32 (v : Nat), .int .i64 (n : Nat)] w fun e w' => e = .returned (.int .i64 0) ∧ (∃ s', WS wb w' p s0 s' (X ++ bitsOf v n)) ∧ Kept (Fp p s) w w' := by
  refine (put_good p v n _ _ s w hn hv h.wr (by omega)).mono ?_
  rintro e w' ⟨rfl, s', hw, hk, hg⟩
  refine ⟨rfl, ⟨s', ?_, ?_, ?_, ?_⟩, hk⟩
  · rw [n2_put X v n hv, List.length_append, bitsOf_length]
    exact hw
  · intro b hb
    rcases List.mem_append.1 hb with h1 | h1
    · exact h.bit b h1
    · exact bitsOf_lt _ _ b h1
  · refine Kept.trans h.kept hk (fun _ _ x => x) (fun k hk2 hf => ?_)
    rcases hf with e | e
    · exact .inl e
    · rcases h.own k e with h1 | h1
      · exact .inr h1
      · omega
  · intro k e
    rcases hg with h1 | h1
    · exact h.own k (by rw [← h1]; exact e)
    · exact .inr (Nat.le_trans h.kept.size (h1 k e))

theorem snoc_ind {α : Type} {p : List α → Prop} (h0 : p []) (h1 : ∀ r s, p r → p (r ++ [s])) (l : List α) : p l := by
  have h : ∀ m : List α, p m.reverse := by
    intro m
    induction m with
    | nil => simpa using h0
    | cons a r ih => rw [List.reverse_cons]; exact h1 _ _ ih
  simpa using h l.reverse

/-- How often each symbol comes. -/
def cntF (ss : List (Int × Int)) : List Nat := ss.foldl (fun l s => l.set s.1.toNat (l.getD s.1.toNat 0 + 1)) (List.replicate 19 0)

theorem cntF_snoc (ss : List (Int × Int)) (s : Int × Int) : cntF (ss ++ [s]) = (cntF ss).set s.1.toNat ((cntF ss).getD s.1.toNat 0 + 1) := by
  unfold cntF
  rw [List.foldl_append]
  rfl

theorem cntF_length (ss : List (Int × Int)) : (cntF ss).length = 19 := by
  refine snoc_ind (p := fun l => (cntF l).length = 19) ?_ ?_ ss
  · simp [cntF]
  · intro r s ih
    rw [cntF_snoc, List.length_set, ih]

theorem cntF_le (ss : List (Int × Int)) : ∀ x ∈ cntF ss, x ≤ ss.length := by
  refine snoc_ind (p := fun l => ∀ x ∈ cntF l, x ≤ l.length) ?_ ?_ ss
  · intro x hx; have := List.eq_of_mem_replicate hx; omega
  · intro r s ih x hx
    rw [cntF_snoc] at hx
    rw [List.length_append, List.length_singleton]
    rcases List.mem_or_eq_of_mem_set hx with h | h
    · have := ih x h; omega
    · have : (cntF r).getD s.1.toNat 0 ≤ r.length := by
        by_cases hl : s.1.toNat < (cntF r).length
        · rw [List.getD_eq_getElem?_getD, List.getElem?_eq_getElem hl]
          exact ih _ (List.getElem_mem hl)
        · rw [List.getD_eq_getElem?_getD, List.getElem?_eq_none (by omega)]
          exact Nat.zero_le _
      omega

theorem cntF_key (ss : List (Int × Int)) (s : Int × Int) (hs : s ∈ ss) (h18 : s.1.toNat < 19) : key (cntF ss) s.1.toNat ≠ 0 := by
  revert hs
  refine snoc_ind (p := fun l => s ∈ l → key (cntF l) s.1.toNat ≠ 0) ?_ ?_ ss
  · intro h; simp at h
  · intro r t ih hs
    unfold key
    rw [cntF_snoc]
    have hl := cntF_length r
    by_cases e : t.1.toNat = s.1.toNat
    · rw [e, List.getD_eq_getElem?_getD, List.getElem?_set_self (by omega)]
      simp
    · rw [List.getD_eq_getElem?_getD, List.getElem?_set_ne e, ← List.getD_eq_getElem?_getD]
      rcases List.mem_append.1 hs with h | h
      · exact ih h
      · simp at h; subst h; exact absurd rfl e

theorem lim_key (ns : List Nat) (most s : Nat) (hs : s < ns.length) (hk : key ns s ≠ 0) (hfit : (ris ns).length ≤ 2 ^ most) (h1 : 1 ≤ most) (h15 : most ≤ 15) : key (limL ns most) s ≠ 0 := by
  have hl : s < (limL ns most).length := by rw [limL_length]; exact hs
  rw [key_get hl, limL_get, if_neg hk]
  split
  · omega
  · rename_i h2
    have hm : Many ns most := ⟨by omega, hfit, h1, h15⟩
    have hr : s ∈ ris ns := mem_ris.2 ⟨hs, hk⟩
    have := hm.pos ((ris ns).idxOf s) (List.idxOf_lt_length_of_mem hr)
    omega

/-- The lengths of the steps' codes that Write chooses. -/
def chosen (ss : List (Int × Int)) : List Nat := limL (cntF ss) 7

theorem chosen_fit (ss : List (Int × Int)) : (ris (cntF ss)).length ≤ 2 ^ 7 := by
  have h1 := ris_length (cntF ss)
  have h2 := cntF_length ss
  omega

theorem chosen_length (ss : List (Int × Int)) : (chosen ss).length = 19 := by unfold chosen; rw [limL_length, cntF_length]
theorem chosen_le (ss : List (Int × Int)) : ∀ x ∈ chosen ss, x ≤ 7 := lim_le _ 7 (chosen_fit ss) (by decide) (by decide)
theorem chosen_key (ss : List (Int × Int)) (s : Int × Int) (hs : s ∈ ss) (h18 : s.1.toNat < 19) : key (chosen ss) s.1.toNat ≠ 0 := lim_key _ 7 _ (by rw [cntF_length]; exact h18) (cntF_key ss s hs h18) (chosen_fit ss) (by decide) (by decide)
theorem chosen_ok (ss : List (Int × Int)) (s : Int × Int) (hs : s ∈ ss) (h18 : s.1.toNat < 19) : chkN (chosen ss) = 0 := by
  refine lim_check _ 7 ?_ (chosen_fit ss) (by decide) (by decide)
  exact List.length_pos_of_mem (mem_ris.2 ⟨by rw [cntF_length]; exact h18, cntF_key ss s hs h18⟩)

set_option maxRecDepth 100000 in
set_option maxHeartbeats 2000000 in
theorem codeLengths_any (w : World) (v : Value) (I : Nat → Prop) (ss : List (Int × Int)) (hs : StSrc w I v ss) (hst : ∀ s ∈ ss, 0 ≤ s.1 ∧ s.1 ≤ 18) (hlen : ss.length ≤ 1000) :
    Calls Tryd.prog 45 #[v] w fun e w' => (∃ g n cap, e = .returned (.slice (some ⟨g, 0, none⟩) n cap) ∧ NRow 0 w' (.slice (some ⟨g, 0, none⟩) n cap) (chosen ss) ∧ w.heap.size ≤ g) ∧ Same w w' := by
  obtain ⟨ao, cap, rfl, hx1, hx2⟩ := id hs
  clear hx1 hx2
  have HS : Hid (StSrc w I (.slice ao ss.length cap) ss) := hs
  have HST : Hid (∀ s ∈ ss, 0 ≤ s.1 ∧ s.1 ≤ 18) := hst
  clear hs hst
  go_enter Tryd.func45, Tryd.ntmps45
  go_wp2_with (at_make; refine wpList_make_e _ natV 0 w.heap.size 22 3 8 Tryd.underlying22 Tryd.infoN rfl (by decide) rfl _ _ rfl _ _ _ _ 19 rfl rfl rfl rfl (by decide) (Nat.le_refl _) ?_; intro w3 hr3 hg3 hs3; have HR3 : Hid (NRow w.heap.size w3 (.slice (some ⟨w.heap.size, 0, none⟩) 19 19) (cntF [])) := hid hr3; have HK3 : Hid (Same w w3) := hid ((Kept.refl _ w).grown hg3 (fun j e => by cases e)); clear hr3 hg3)
  go_loopg [5, 11] ss.length (fun q _ zi wr => ∃ (i : Nat), ss.length - i ≤ q ∧ i ≤ ss.length ∧ zi = .int .i64 (i : Nat) ∧ Hid (NRow w.heap.size wr (.slice (some ⟨w.heap.size, 0, none⟩) 19 19) (cntF (ss.take i))) ∧ Hid (Same w wr))
  case atStart => exact ⟨0, by omega, by omega, rfl, hid (by simpa using HR3.out), HK3⟩
  case round =>
    clear HR3 HK3 hs3
    obtain ⟨i, hq, hi, rfl, HV, HK⟩ := hrel
    by_cases hlt : i < ss.length
    · obtain ⟨b, o, rfl, _, c1, c2⟩ := StSrc.get (n := ss.length) (cap := cap) (SrcC.kept stC_ok HS.out HK.out (fun _ _ _ f => f)) i hlt
      have hxr := HST.out _ (List.getElem_mem hlt)
      obtain ⟨x, hx⟩ : ∃ x : Nat, ss[i].1 = (x : Int) := ⟨ss[i].1.toNat, by omega⟩
      obtain ⟨y, hy⟩ : ∃ y, y = ss[i].2 := ⟨_, rfl⟩
      rw [hx] at c1 hxr
      rw [← hy] at c2
      have hx18 : x < 19 := by omega
      have HSN : Hid (cntF (ss.take (i + 1)) = (cntF (ss.take i)).set x ((cntF (ss.take i)).getD x 0 + 1)) := hid (by rw [List.take_succ_eq_append_getElem hlt, cntF_snoc, hx, Int.toNat_natCast])
      have hcl := cntF_length (ss.take i)
      obtain ⟨old, hold⟩ : ∃ old, old = (cntF (ss.take i)).getD x 0 := ⟨_, rfl⟩
      have hold2 : old ≤ 1000 := by
        have h := cntF_le (ss.take i) (cntF (ss.take i))[x] (List.getElem_mem (by omega))
        rw [hold, List.getD_eq_getElem?_getD, List.getElem?_eq_getElem (by omega)]
        simp only [Option.getD_some]
        rw [List.length_take] at h
        omega
      have cl0 : wr.cell? ⟨w.heap.size, x, none⟩ = some (.int .i64 (old : Nat)) := by
        have h := HV.out.cell x (by omega)
        rw [h, hold, List.getD_eq_getElem?_getD, List.getElem?_eq_getElem (by omega)]
        rfl
      obtain ⟨W2, hW2⟩ : ∃ W2, W2 = wr.alloc (.cells #[.int .i64 (x : Nat), .int .i64 y] 31) := ⟨_, rfl⟩
      have hk2 : Same wr W2 := by rw [hW2]; exact (Kept.refl _ wr).alloc _
      have HV2 : Hid (NRow w.heap.size W2 (.slice (some ⟨w.heap.size, 0, none⟩) 19 19) (cntF (ss.take i))) := hid (HV.out.same hk2)
      have hszw := HK.out.size
      have hne : wr.heap.size ≠ w.heap.size := by have := HV.out.lt (k := w.heap.size) rfl; omega
      have fl : wr.frozen? ⟨w.heap.size, x, none⟩ = false := HV.out.frozen x
      have cl2 : W2.cell? ⟨w.heap.size, x, none⟩ = some (.int .i64 (old : Nat)) := hk2.cell cl0 (fun f => f)
      have fl2 : W2.frozen? ⟨w.heap.size, x, none⟩ = false := HV2.out.frozen x
      rw [hW2] at cl2 fl2
      have HVN : Hid (NRow w.heap.size (W2.setCell ⟨w.heap.size, x, none⟩ (.int .i64 ((old + 1 : Nat) : Int))) (.slice (some ⟨w.heap.size, 0, none⟩) 19 19) (cntF (ss.take (i + 1)))) := hid (by rw [HSN.out, ← hold]; exact HV2.out.lay x (old + 1))
      have HKN : Hid (Same w (W2.setCell ⟨w.heap.size, x, none⟩ (.int .i64 ((old + 1 : Nat) : Int)))) := hid ((Same.trans HK.out hk2).setCell _ _ (.inr (Nat.le_refl _)))
      rw [hW2] at HVN HKN
      obtain ⟨o1, ho1⟩ : ∃ o1, o1 = old + 1 := ⟨_, rfl⟩
      have ho1I : (old : Int) + 1 = (o1 : Int) := by omega
      have ho1w : IntKind.i64.wrap (o1 : Int) = (o1 : Int) := by rw [IntKind.wrap_i64]; omega
      rw [← ho1] at HVN HKN
      clear hx hy hxr hold hk2 HV2 hW2 ho1 hcl HV
      go_wp2_with fail
      go_roundg (gk - 1)
      case measure => omega
      case rel => exact ⟨i + 1, by omega, by omega, by go_num, HVN, HKN⟩
    · have e1 : ss.take i = ss := List.take_of_length_le (by omega)
      rw [e1] at HV
      have hcl := cntF_length ss
      have hsrc : SrcE intV wr _ (.slice (some ⟨w.heap.size, 0, none⟩) 19 19) ((cntF ss).map (fun (n : Nat) => (n : Int))) := (SrcE.ofRow HV.out).recode (by rw [List.map_map]; rfl)
      have hok : okAll ((cntF ss).map (fun (n : Nat) => (n : Int))) 0 1000000000000 = true := by
        unfold okAll
        have h1 : ((cntF ss).map (fun (n : Nat) => (n : Int))).length = 19 := by rw [List.length_map, hcl]
        rw [h1]
        have h2 : ((cntF ss).map (fun (n : Nat) => (n : Int))).any (badI 0 1000000000000) = false := by
          rw [List.any_eq_false]
          intro z hz
          obtain ⟨n, hn, rfl⟩ := List.mem_map.1 hz
          have := cntF_le ss n hn
          simp [badI]
          omega
        rw [h2]
        decide
      have hnat : cntF ss = ((cntF ss).map (fun (n : Nat) => (n : Int))).map Int.toNat := by
        rw [List.map_map]
        conv => lhs; rw [← List.map_id (cntF ss)]
        exact List.map_congr_left (fun x _ => by simp)
      have HLM := limit_good wr _ _ _ (cntF ss) 7 hsrc hok hnat (by decide) (by decide) (chosen_fit ss)
      have hszw := HK.out.size
      clear hsrc hok hnat hcl e1 HV
      go_wp2_with fail
      refine HLM.mono ?_
      rintro e w5 ⟨⟨g, n, c5, rfl, hr5, hg5⟩, hk5⟩
      have HR5 : Hid (NRow 0 w5 (.slice (some ⟨g, 0, none⟩) n c5) (chosen ss)) := hr5
      have HK5 : Hid (Same w w5) := hid (Same.trans HK.out hk5)
      clear hr5 hk5 HLM
      go_wp2_with fail
      go_ret
      exact ⟨⟨g, n, c5, rfl, HR5.out, by omega⟩, HK5.out⟩

end Go.Proofs.YtofhlnpbflkdlaaDoor

/-
  The program's comingCodes, writeSteps.
-/
namespace Go.Proofs.YtofhlnpbflkdlaaDoor
open Go.RowKit

set_option maxRecDepth 100000 in
set_option maxHeartbeats 2000000 in
theorem coming_any (w : World) (g cap : Nat) (cs : List Nat) (hr : NRow 0 w (.slice (some ⟨g, 0, none⟩) 19 cap) cs) (hT : Tab w) :
    Calls Tryd.prog 46 #[.slice (some ⟨g, 0, none⟩) 19 cap] w fun e w' => e = .returned (.int .i64 (comeN cs 19 : Nat)) ∧ w' = w := by
  have hcl := hr.len
  have HR : Hid (NRow 0 w (.slice (some ⟨g, 0, none⟩) 19 cap) cs) := hr
  have HT : Hid (Tab w) := hT
  clear hr hT
  go_enter Tryd.func46, Tryd.ntmps46
  go_wp2_with fail
  go_loopg [3] 19 (fun q z wr => ∃ (k : Nat), k ≤ q ∧ 4 ≤ k ∧ k ≤ 19 ∧ z = .int .i64 (k : Nat) ∧ Hid (comeN cs 19 = comeN cs k) ∧ wr = w)
  case atStart => exact ⟨19, by omega, by omega, by omega, rfl, rfl, rfl⟩
  case round =>
    obtain ⟨k, hq, hk4, hk19, rfl, HC, hw⟩ := hrel
    subst hw
    by_cases hgt : 4 < k
    · obtain ⟨j, rfl⟩ : ∃ j, k = j + 1 := ⟨k - 1, by omega⟩
      have ct := HT.out j (by omega)
      have ho18 := ord_le j (by omega)
      obtain ⟨oi, hoi⟩ : ∃ x, x = ord.getD j 0 := ⟨_, rfl⟩
      rw [← hoi] at ct ho18
      obtain ⟨x, hx⟩ : ∃ x, x = cs.getD oi 0 := ⟨_, rfl⟩
      have cl : wr.cell? ⟨g, oi, none⟩ = some (.int .i64 (x : Nat)) := by
        have h := HR.out.cell oi (by omega)
        rw [h, hx, List.getD_eq_getElem?_getD, List.getElem?_eq_getElem (by omega)]
        rfl
      have HCJ : Hid (comeN cs (j + 1) = if x = 0 then comeN cs j else j + 1) := hid (by
        rw [comeN, ← hoi, ← hx]
        by_cases h0 : x = 0
        · rw [if_pos ⟨hgt, h0⟩, if_pos h0]
        · rw [if_neg (fun h => h0 h.2), if_neg h0])
      obtain ⟨j1, hj1⟩ : ∃ j1, j1 = j + 1 := ⟨_, rfl⟩
      rw [← hj1] at HC HCJ hq hk4 hk19 hgt ⊢
      have hjI : (j1 : Int) - 1 = (j : Int) := by omega
      have hjw : IntKind.i64.wrap (j : Int) = (j : Int) := by rw [IntKind.wrap_i64]; omega
      have hj19 : j < 19 := by omega
      have HJ : Hid (j1 = j + 1) := hj1
      clear hx hoi hj1
      by_cases h0 : x = 0
      · have HC2 : Hid (comeN cs 19 = comeN cs j) := hid (by rw [HC.out, HCJ.out, if_pos h0])
        subst h0
        go_wp2_with fail
        go_roundg (gk - 1)
        case measure => omega
        case rel => exact ⟨j, by have := HJ.out; omega, by have := HJ.out; omega, by omega, rfl, HC2, rfl⟩
      · have HC2 : Hid (comeN cs 19 = j1) := hid (by rw [HC.out, HCJ.out, if_neg h0, HJ.out])
        have hx0 : ((x : Int) == 0) = false := by simp; omega
        clear h0
        go_wp2_with fail
        go_ret
        exact ⟨by rw [HC2.out]; rfl, rfl⟩
    · have hk : k = 4 := by omega
      subst hk
      have HC2 : Hid (comeN cs 19 = 4) := hid (by rw [HC.out]; rfl)
      go_wp2_with fail
      go_ret
      exact ⟨by rw [HC2.out]; rfl, rfl⟩

theorem WS.trans {wb w w1 w' : World} {p : Nat} {s0 s s' : Value} {X Y : List Nat} (h : WS wb w p s0 s X) (hk : Same w w1) (h2 : WS w1 w' p s s' Y) : WS wb w' p s0 s' Y := by
  have hf : ∀ k, k < wb.heap.size → Fp p s k → Fp p s0 k := fun k hk hf => by
    rcases hf with e | e
    · exact .inl e
    · rcases h.own k e with h1 | h1
      · exact .inr h1
      · omega
  refine ⟨h2.wr, h2.bit, Kept.trans (Kept.trans h.kept hk (fun _ _ x => x) (fun _ _ f => f.elim)) h2.kept (fun _ _ x => x) (fun k hk2 x => hf k hk2 x), fun k e => ?_⟩
  rcases h2.own k e with h1 | h1
  · exact h.own k h1
  · exact .inr (by have := h.kept.size; have := hk.size; omega)

theorem row_bits (cs : List Nat) (s : Nat) (hk : key cs s ≠ 0) : bitsOf (cdOf cs s) (key cs s) = rowOf cs s := by
  have e : cdOf cs s = n2 (rowOf cs s) := by unfold cdOf; rw [if_neg hk, rowOf_n2]
  refine n2_inj _ _ (by rw [bitsOf_length, rowOf_length]) (bitsOf_lt _ _) (rowOf_bit cs s) ?_
  rw [bitsOf_n2, e, Nat.mod_eq_of_lt]
  have := n2_lt (rowOf cs s) (rowOf_bit cs s)
  rw [rowOf_length] at this
  exact this

theorem cd_lt (cs : List Nat) (s : Nat) (hk : key cs s ≠ 0) : cdOf cs s < 2 ^ key cs s := by
  have e : cdOf cs s = n2 (rowOf cs s) := by unfold cdOf; rw [if_neg hk, rowOf_n2]
  rw [e]
  have := n2_lt (rowOf cs s) (rowOf_bit cs s)
  rw [rowOf_length] at this
  exact this

theorem codesL_get (cs : List Nat) (s : Nat) (h : s < (codesL cs).length) : (codesL cs)[s] = cdOf cs s := by simp [codesL]

set_option maxRecDepth 100000 in
set_option maxHeartbeats 4000000 in
theorem writeSteps_any (w : World) (p g cap : Nat) (s : Value) (X : List Nat) (v : Value) (I : Nat → Prop) (cs : List Nat) (sn : List (Nat × Nat)) (hw : WS w w p s s X) (hX : X.length ≤ 1000000) (hs : StSrc w I v (sn.map (fun x => ((x.1 : Int), (x.2 : Int))))) (hI : ∀ k, I k → ¬ Fp p s k)
    (hr : NRow 0 w (.slice (some ⟨g, 0, none⟩) 19 cap) cs) (hg : ¬ Fp p s g) (h7 : ∀ x ∈ cs, x ≤ 7) (hok : chkN cs = 0) (hst : StepsOk cs sn) (hsn : sn.length ≤ 1000) :
    Calls Tryd.prog 47 #[.pointer (some ⟨p, 0, none⟩), v, .slice (some ⟨g, 0, none⟩) 19 cap] w fun e w' => (∃ u, e = .returned u) ∧ ∃ s', WS w w' p s s' (X ++ sn.flatMap (stepBits cs)) := by
  have hcl := hr.len
  obtain ⟨ao, cv, rfl, hx1, hx2⟩ := id hs
  clear hx1 hx2
  rw [List.length_map] at hs ⊢
  have HC := codes_good w _ _ (cs.map (fun (n : Nat) => (n : Int))) cs ((SrcE.ofRow hr).recode (by rw [List.map_map]; rfl)) (chk_good cs hcl h7 hok) (by rw [chk_codes cs hcl h7]; exact hok)
  have HW : Hid (WS w w p s s X) := hw
  have HS : Hid (StSrc w I (.slice ao sn.length cv) (sn.map (fun x => ((x.1 : Int), (x.2 : Int))))) := hs
  have HI : Hid (∀ k, I k → ¬ Fp p s k) := hI
  have HR : Hid (NRow 0 w (.slice (some ⟨g, 0, none⟩) 19 cap) cs) := hr
  have HG : Hid (¬ Fp p s g) := hg
  have HST : Hid (StepsOk cs sn) := hst
  have H7 : Hid (∀ x ∈ cs, x ≤ 7) := h7
  have HFP : Hid (∀ k, Fp p s k → k < w.heap.size) := hid (fun k h => hw.wr.fp_lt h)
  clear hw hs hI hr hg h7 hok hst
  go_enter Tryd.func47, Tryd.ntmps47
  go_wp2_with fail
  refine HC.mono ?_
  rintro e w1 ⟨⟨gc, nc, capc, rfl, hrc⟩, hk1⟩
  have hnc := hrc.len
  rw [codesL_length, hcl] at hnc
  subst hnc
  have HRC : Hid (WRow w.heap.size w1 (.slice (some ⟨gc, 0, none⟩) 19 capc) (codesL cs)) := hrc
  have HK1 : Hid (Same w w1) := hk1
  have HW1 : Hid (WS w1 w1 p s s X) := hid (WS.start (HW.out.wr.kept hk1 (fun _ _ f => f)) HW.out.bit)
  have hsz1 := hk1.size
  have HGC : Hid (w.heap.size ≤ gc) := hid (hrc.ge (k := gc) rfl)
  clear hrc hk1 HC
  go_wp2_with fail
  go_loopg [9, 10, 11, 19] sn.length (fun q _ _ _ zi wr => ∃ (i : Nat) (si : Value), sn.length - i ≤ q ∧ i ≤ sn.length ∧ zi = .int .i64 (i : Nat) ∧ Hid (WS w1 wr p s si (X ++ (sn.take i).flatMap (stepBits cs)) ∧ (X ++ (sn.take i).flatMap (stepBits cs)).length ≤ 1000000 + 14 * i))
  case atStart => exact ⟨0, s, by omega, by omega, rfl, hid ⟨by simpa using HW1.out, by simpa using hX⟩⟩
  case round =>
    clear HW1
    obtain ⟨i, si, hq, hi, rfl, HWI⟩ := hrel
    by_cases hlt : i < sn.length
    · have hkw := HWI.out.1.kept
      obtain ⟨b, o, rfl, _, c1, c2⟩ := StSrc.get (n := sn.length) (cap := cv) (SrcC.kept stC_ok (SrcC.kept stC_ok HS.out HK1.out (fun _ _ _ f => f)) hkw (fun k h _ => HI.out k h)) i (by simpa using hlt)
      have hsti := HST.out _ (List.getElem_mem hlt)
      simp only [List.getElem_map] at c1 c2
      obtain ⟨x, hx⟩ : ∃ x, x = sn[i].1 := ⟨_, rfl⟩
      obtain ⟨y, hy⟩ : ∃ y, y = sn[i].2 := ⟨_, rfl⟩
      rw [← hx] at c1 hsti
      rw [← hy] at c2 hsti
      obtain ⟨hx19, hkey, hy2⟩ := hsti
      rw [hcl] at hx19
      have hk7 : key cs x ≤ 7 := by rw [key_get (by omega)]; exact H7.out _ (List.getElem_mem _)
      have hcd := cd_lt cs x hkey
      have hxb7 := xbits_le x
      have HBITS : Hid (X ++ (sn.take (i + 1)).flatMap (stepBits cs) = X ++ (sn.take i).flatMap (stepBits cs) ++ bitsOf (cdOf cs x) (key cs x) ++ bitsOf y (xbits x)) := hid (by
        rw [List.take_succ_eq_append_getElem hlt, List.flatMap_append, row_bits cs x hkey]
        simp [stepBits, hx, hy])
      have cg : wr.cell? ⟨g, x, none⟩ = some (.int .i64 (key cs x : Nat)) := by
        have h := (HR.out.same HK1.out).kept hkw (fun k e f => by simp [Value.ownBlock] at e; subst e; exact HG.out f)
        rw [h.cell x (by omega), key_get (by omega)]
        rfl
      have cc : wr.cell? ⟨gc, x, none⟩ = some (.int .u32 (cdOf cs x : Nat)) := by
        have h := HRC.out.kept hkw (fun k e f => by simp [Value.ownBlock] at e; subst e; have := HFP.out gc f; have := HGC.out; omega)
        rw [h.cell x (by rw [codesL_length]; omega), codesL_get]
        rfl
      obtain ⟨kx, hkx⟩ : ∃ kx, kx = key cs x := ⟨_, rfl⟩
      obtain ⟨cx, hcx⟩ : ∃ cx, cx = cdOf cs x := ⟨_, rfl⟩
      obtain ⟨xb, hxb⟩ : ∃ xb, xb = xbits x := ⟨_, rfl⟩
      have HSH := fun W2 => shape_any W2 (x : Int)
      rw [widthM_nat] at HSH
      rw [← hkx] at cg hk7 hcd HBITS
      rw [← hcx] at cc hcd HBITS
      rw [← hxb] at HSH hy2 hxb7 HBITS
      have hyw : y < 2 ^ 7 := Nat.lt_of_lt_of_le hy2 (Nat.pow_le_pow_right (by decide) hxb7)
      have hyc : IntKind.u32.wrap (y : Int) = (y : Int) := by rw [IntKind.wrap_u32]; omega
      have HP1 : Hid (∀ W, Same wr W → Calls Tryd.prog 19 #[.pointer (some ⟨p, 0, none⟩), .int .u32 (cx : Nat), .int .i64 (kx : Nat)] W fun e w' => e = .returned (.int .i64 0) ∧ (∃ s', WS w1 w' p s s' (X ++ (sn.take i).flatMap (stepBits cs) ++ bitsOf cx kx)) ∧ Kept (Fp p si) W w') := hid (fun W hk => ws_put w1 W p s si _ cx kx (HWI.out.1.same hk) (by omega) hcd (by have := HWI.out.2; omega))
      have HFI : Hid (∀ k, Fp p si k → k < wr.heap.size) := hid (fun k h => HWI.out.1.wr.fp_lt h)
      have HLN : Hid ((X ++ (sn.take i).flatMap (stepBits cs)).length ≤ 1000000 + 14 * i) := HWI.out.2
      have hgr : g < wr.heap.size := World.block_lt_of_cell? wr _ cg
      have hgcr : gc < wr.heap.size := World.block_lt_of_cell? wr _ cc
      have HFW : Hid (∀ k, k = g ∨ k = gc ∨ k = wr.heap.size → ¬ Fp p si k) := hid (fun k hk hf => by
        rcases hk with rfl | rfl | rfl
        · rcases hf with e | e
          · exact HG.out (.inl e)
          · rcases HWI.out.1.own _ e with h1 | h1
            · exact HG.out (.inr h1)
            · have := HR.out.lt (k := k) rfl; omega
        · rcases hf with e | e
          · have := HFP.out k (.inl e); have := HGC.out; omega
          · rcases HWI.out.1.own _ e with h1 | h1
            · have := HFP.out k (.inr h1); have := HGC.out; omega
            · have := HRC.out.lt (k := k) rfl; omega
        · have := HFI.out _ hf; omega)
      have i1 : (0 : Int) ≤ (x : Int) := by omega
      have i2 : (x : Int) < 19 := by omega
      have HY : Hid (y < 2 ^ xb) := hy2
      clear hkx hcx hxb hx hy hkey hkw hcd hy2
      go_wp2_with fail
      refine (HSH _).mono ?_
      rintro e w2 ⟨rfl, hw2⟩
      have HK2 : Hid (Same wr w2) := hid (by rw [hw2]; exact (Kept.refl _ wr).alloc _)
      have d1 : w2.cell? ⟨wr.heap.size, 0, none⟩ = some (.int .i64 (x : Nat)) := by rw [hw2]; simp
      have d2 : w2.cell? ⟨wr.heap.size, 1, none⟩ = some (.int .i64 (y : Nat)) := by rw [hw2]; simp
      have d3 : w2.cell? ⟨g, x, none⟩ = some (.int .i64 (kx : Nat)) := HK2.out.cell cg (fun f => f)
      have d4 : w2.cell? ⟨gc, x, none⟩ = some (.int .u32 (cx : Nat)) := HK2.out.cell cc (fun f => f)
      clear hw2 HSH cg cc c1 c2
      go_wp2_with fail
      go_region_held3 (fun w' => w'.cell? ⟨wr.heap.size, 0, none⟩ = some (.int .i64 (x : Nat)) ∧ w'.cell? ⟨wr.heap.size, 1, none⟩ = some (.int .i64 (y : Nat)) ∧ w'.cell? ⟨g, x, none⟩ = some (.int .i64 (kx : Nat)) ∧ w'.cell? ⟨gc, x, none⟩ = some (.int .u32 (cx : Nat)))
        (first
          | (go_split_ands; exact ⟨hk5.cell (by assumption) (HFW.out _ (.inr (.inr rfl))), hk5.cell (by assumption) (HFW.out _ (.inr (.inr rfl))), hk5.cell (by assumption) (HFW.out _ (.inl rfl)), hk5.cell (by assumption) (HFW.out _ (.inr (.inl rfl)))⟩)
          | go_keep)
        (first
          | (go_at_call 19; refine (HP1.out _ (Same.trans HK2.out ((Kept.refl _ w2).drew))).mono ?_; rintro e w5 ⟨rfl, ⟨s5, hws5⟩, hk5⟩))
      all_goals
        have f2 : w5.cell? ⟨wr.heap.size, 1, none⟩ = some (.int .i64 (y : Nat)) := hk5.cell (show w2.drew.cell? ⟨wr.heap.size, 1, none⟩ = some (.int .i64 (y : Nat)) from d2) (HFW.out _ (.inr (.inr rfl)))
        have HP2 := ws_put w1 w5 p s s5 _ y xb hws5 (by omega) HY.out (by have := HLN.out; rw [List.length_append, bitsOf_length]; omega)
        clear hws5 hk5 d1 d2 d3 d4
        go_wp2_with fail
        refine HP2.mono ?_
        rintro e w6 ⟨rfl, ⟨s6, hws6⟩, hk6⟩
        have HW6 : Hid (WS w1 w6 p s s6 (X ++ (sn.take (i + 1)).flatMap (stepBits cs)) ∧ (X ++ (sn.take (i + 1)).flatMap (stepBits cs)).length ≤ 1000000 + 14 * (i + 1)) := hid ⟨by rw [HBITS.out]; exact hws6, by rw [HBITS.out, List.length_append, List.length_append, bitsOf_length, bitsOf_length]; have := HLN.out; omega⟩
        clear hws6 hk6 HP2
        go_wp2_with fail
        go_roundg (gk - 1)
        case measure => omega
        case rel => exact ⟨i + 1, s6, by omega, by omega, by go_num, HW6⟩
    · have e1 : sn.take i = sn := List.take_of_length_le (by omega)
      rw [e1] at HWI
      clear e1
      go_wp2_with fail
      go_end0
      exact ⟨⟨_, rfl⟩, si, WS.trans HW.out HK1.out HWI.out.1⟩

end Go.Proofs.YtofhlnpbflkdlaaDoor

/-
  The program's Write.
-/
namespace Go.Proofs.YtofhlnpbflkdlaaDoor
open Go.RowKit

theorem packM_ne (l : List Nat) (h : l ≠ []) : packM l ≠ [] := by
  cases l with
  | nil => exact absurd rfl h
  | cons v r =>
    rw [packM_cons]
    intro e
    exact sayM_ne v (1 + frontN v r) (by omega) (List.append_eq_nil_iff.1 e).1

/-- The head that Write lays. -/
theorem head_ok (xs ys : List Nat) (hx : ∀ n ∈ xs, n ≤ 15) (hy : ∀ n ∈ ys, n ≤ 15) (h1 : 257 ≤ xs.length) (h2 : xs.length ≤ 286) (h3 : 1 ≤ ys.length) (h4 : ys.length ≤ 30) :
    HeadOk xs ys (comeN (chosen (packM (xs ++ ys))) 19) (chosen (packM (xs ++ ys))) (packN (xs ++ ys)) := by
  have h15 : ∀ n ∈ xs ++ ys, n ≤ 15 := fun n hn => by
    rcases List.mem_append.1 hn with h | h
    · exact hx n h
    · exact hy n h
  have hlen : (xs ++ ys).length ≤ 316 := by rw [List.length_append]; omega
  have hne : xs ++ ys ≠ [] := fun e => by have := congrArg List.length e; rw [List.length_append, List.length_nil] at this; omega
  have his := packM_is (xs ++ ys) h15
  have hc := comeN_ge (chosen (packM (xs ++ ys))) 19 (by decide)
  obtain ⟨s0, hs0⟩ := List.exists_mem_of_ne_nil _ (packM_ne _ hne)
  refine ⟨h1, h2, h3, h4, hc.1, hc.2, chosen_length _, chosen_le _, chosen_ok _ s0 hs0 (by have := his s0 hs0; have := this.1; have := (his s0 hs0).2.1; omega), fun j hj hj2 => comeN_rest _ 19 j hj hj2, ?_, ?_⟩
  · intro s hs
    obtain ⟨t, ht, rfl⟩ := List.mem_map.1 hs
    have hi := his t ht
    have hlt : t.1.toNat < 19 := by have := hi.1; have := hi.2.1; omega
    exact ⟨by rw [chosen_length]; exact hlt, chosen_key _ t ht hlt, hi.2.2.2⟩
  · rw [packN_cast _ h15, runM_pack _ _ [] h15 (by simp)]
    simp

set_option maxRecDepth 100000 in
set_option maxHeartbeats 1000000 in
theorem lwrite_nil (w : World) (va vb : Value) :
    Calls Tryd.prog 20 #[.pointer none, va, vb] w fun e w' => e = .returned (.int .i64 3) ∧ w' = w := by
  go_enter Tryd.func20, Tryd.ntmps20
  go_wp2_with fail
  go_ret
  exact ⟨rfl, rfl⟩

theorem lensOk_append (xs ys : List Int) : lensOk (xs ++ ys) = (lensOk xs && lensOk ys) := by
  unfold lensOk
  rw [List.any_append, Bool.not_or]

set_option maxRecDepth 100000 in
set_option maxHeartbeats 4000000 in
theorem lwrite_bad (w : World) (p : Nat) (al ad : Option Addr) (L cl D cd : Nat) (I J : Nat → Prop) (zl zd : List Int) (hA : SrcE intV w I (.slice al L cl) zl) (hB : SrcE intV w J (.slice ad D cd) zd) (hL : L ≤ 10000000) (hD : D ≤ 10000000) (hm : mayM zl zd = false) :
    Calls Tryd.prog 20 #[.pointer (some ⟨p, 0, none⟩), .slice al L cl, .slice ad D cd] w fun e w' => e = .returned (.int .i64 1) ∧ Same w w' := by
  have hll := hA.at.1
  have hdl := hB.at.1
  have HW1 := fun W => within_any W (L : Int) 257 286
  have HW2 := fun W => within_any W (D : Int) 1 30
  by_cases hl : 257 ≤ L ∧ L ≤ 286
  · have e1 : inB (L : Int) 257 286 = true := by
      unfold inB
      have h1 : (257 : Int) ≤ (L : Int) := by omega
      have h2 : (L : Int) ≤ 286 := by omega
      simp [h1, h2]
    rw [e1] at HW1
    by_cases hd : 1 ≤ D ∧ D ≤ 30
    · have e2 : inB (D : Int) 1 30 = true := by
        unfold inB
        have h1 : (1 : Int) ≤ (D : Int) := by omega
        have h2 : (D : Int) ≤ 30 := by omega
        simp [h1, h2]
      rw [e2] at HW2
      have hok : lensOk (zl ++ zd) = false := by
        rw [lensOk_append]
        unfold mayM at hm
        rw [← hll, ← hdl] at hm
        have d1 : decide (257 ≤ L) = true := by simp; omega
        have d2 : decide (L ≤ 286) = true := by simp; omega
        have d3 : decide (1 ≤ D) = true := by simp; omega
        have d4 : decide (D ≤ 30) = true := by simp; omega
        rw [d1, d2, d3, d4] at hm
        simpa using hm
      obtain ⟨b1, o1, rfl⟩ : ∃ b o, al = some ⟨b, o, none⟩ := by
        obtain ⟨b1, o1, _, e3, _⟩ := hA.get 0 (by omega)
        simp only [Value.slice.injEq] at e3
        exact ⟨b1, o1, e3.1⟩
      obtain ⟨b2, o2, rfl⟩ : ∃ b o, ad = some ⟨b, o, none⟩ := by
        obtain ⟨b2, o2, _, e4, _⟩ := hB.get 0 (by omega)
        simp only [Value.slice.injEq] at e4
        exact ⟨b2, o2, e4.1⟩
      obtain ⟨W, hW⟩ : ∃ W, W = w.alloc (.cells #[.slice (some ⟨b1, o1, none⟩) L cl, .slice (some ⟨b2, o2, none⟩) D cd] 22) := ⟨_, rfl⟩
      have hk0 : Same w W := by rw [hW]; exact (Kept.refl _ w).alloc _
      have HCC := lconcat_any W w.heap.size L cl D cd ⟨b1, o1, none⟩ ⟨b2, o2, none⟩ I J zl zd (by rw [hW]; simp) (by rw [hW]; simp) (hA.same hk0) (hB.same hk0) (by omega) (by omega) (by omega)
      have HK0 : Hid (Same w W) := hk0
      have HOK : Hid (lensOk (zl ++ zd) = false) := hok
      have HLN : Hid ((zl ++ zd).length ≤ 10000000) := hid (by rw [List.length_append]; omega)
      clear hA hB hm hk0 hok hll hdl hl hd e1 e2
      go_enter Tryd.func20, Tryd.ntmps20
      go_wp2_with fail
      refine (HW1 _).mono ?_
      rintro e w1 ⟨rfl, hw1⟩
      subst hw1
      go_wp2_with fail
      refine (HW2 _).mono ?_
      rintro e w2 ⟨rfl, hw2⟩
      subst hw2
      clear HW1 HW2
      go_wp2_with fail
      rw [← hW]
      clear hW
      refine HCC.mono ?_
      rintro e w3 ⟨v3, rfl, hr3, hk3⟩
      have HK3 : Hid (Same w2 w3) := hid (Same.trans HK0.out hk3)
      have HPK := lpack_any w3 _ _ _ (SrcE.ofRow hr3) HLN.out
      rw [packA_bad (.inr HOK.out)] at HPK
      clear hr3 hk3 HCC
      go_wp2_with fail
      refine HPK.mono ?_
      rintro e w4 ⟨rfl, hk4⟩
      have HK4 : Hid (Same w2 w4) := hid (Same.trans HK3.out hk4)
      clear hk4 HPK
      go_wp2_with fail
      go_ret
      exact ⟨rfl, HK4.out⟩
    · have e2 : inB (D : Int) 1 30 = false := by
        unfold inB
        by_cases h1 : (1 : Int) ≤ (D : Int)
        · have h2 : ¬ (D : Int) ≤ 30 := by omega
          simp [h2]
        · simp [h1]
      rw [e2] at HW2
      clear hA hB hm hll hdl hl hd e1 e2
      go_enter Tryd.func20, Tryd.ntmps20
      go_wp2_with fail
      refine (HW1 _).mono ?_
      rintro e w1 ⟨rfl, hw1⟩
      subst hw1
      go_wp2_with fail
      refine (HW2 _).mono ?_
      rintro e w2 ⟨rfl, hw2⟩
      subst hw2
      clear HW1 HW2
      go_wp2_with fail
      go_ret
      exact ⟨rfl, Kept.refl _ _⟩
  · have e1 : inB (L : Int) 257 286 = false := by
      unfold inB
      by_cases h1 : (257 : Int) ≤ (L : Int)
      · have h2 : ¬ (L : Int) ≤ 286 := by omega
        simp [h2]
      · simp [h1]
    rw [e1] at HW1
    clear hA hB hm hll hdl hl e1 HW2
    go_enter Tryd.func20, Tryd.ntmps20
    go_wp2_with fail
    refine (HW1 _).mono ?_
    rintro e w1 ⟨rfl, hw1⟩
    subst hw1
    clear HW1
    go_wp2_with fail
    go_ret
    exact ⟨rfl, Kept.refl _ _⟩

end Go.Proofs.YtofhlnpbflkdlaaDoor

/-
  The program's Write, of lists that may be written.
-/
namespace Go.Proofs.YtofhlnpbflkdlaaDoor
open Go.RowKit

/-- What Write has laid. -/
def WroteA (w w' : World) (p : Nat) (s : Value) (X : List Nat) (xs ys : List Nat) : Prop :=
  ∃ s' many cs sn, HeadOk xs ys many cs sn ∧ sn.length ≤ xs.length + ys.length ∧ WS w w' p s s' (X ++ headBits xs.length ys.length many cs sn)

theorem mayM_parts {zl zd : List Int} (h : mayM zl zd = true) : 257 ≤ zl.length ∧ zl.length ≤ 286 ∧ 1 ≤ zd.length ∧ zd.length ≤ 30 ∧ lensOk zl = true ∧ lensOk zd = true := by
  unfold mayM at h
  simp only [Bool.and_eq_true, decide_eq_true_eq] at h
  obtain ⟨⟨⟨⟨⟨h1, h2⟩, h3⟩, h4⟩, h5⟩, h6⟩ := h
  exact ⟨h1, h2, h3, h4, h5, h6⟩

theorem small_le {zl : List Int} (h : lensOk zl = true) : ∀ n ∈ zl.map Int.toNat, n ≤ 15 := by
  have hb := (lensOk_iff zl).1 h
  intro x hx
  obtain ⟨z, hz, rfl⟩ := List.mem_map.1 hx
  have := hb z hz
  omega

set_option maxRecDepth 100000 in
set_option maxHeartbeats 4000000 in
theorem lwrite_good (w : World) (p : Nat) (s : Value) (X : List Nat) (al ad : Option Addr) (L cl D cd : Nat) (I J : Nat → Prop) (zl zd : List Int) (hA : SrcE intV w I (.slice al L cl) zl) (hB : SrcE intV w J (.slice ad D cd) zd) (hm : mayM zl zd = true)
    (hws : WS w w p s s X) (hX : X.length ≤ 100000) (hT : Tab w) (hpg : ¬ Fp p s 0) :
    Calls Tryd.prog 20 #[.pointer (some ⟨p, 0, none⟩), .slice al L cl, .slice ad D cd] w fun e w' => e = .returned (.int .i64 0) ∧ WroteA w w' p s X (zl.map Int.toNat) (zd.map Int.toNat) := by
  have hll := hA.at.1
  have hdl := hB.at.1
  obtain ⟨h1, h2, h3, h4, hokl, hokd⟩ := mayM_parts hm
  rw [← hll] at h1 h2
  rw [← hdl] at h3 h4
  have HHD := head_ok (zl.map Int.toNat) (zd.map Int.toNat) (small_le hokl) (small_le hokd) (by rw [List.length_map, ← hll]; exact h1) (by rw [List.length_map, ← hll]; exact h2) (by rw [List.length_map, ← hdl]; exact h3) (by rw [List.length_map, ← hdl]; exact h4)
  rw [← List.map_append] at HHD
  have hpn := packN_length ((zl ++ zd).map Int.toNat)
  have h15 : ∀ n ∈ (zl ++ zd).map Int.toNat, n ≤ 15 := small_le (by rw [lensOk_append, hokl, hokd]; rfl)
  have hcast := packN_cast ((zl ++ zd).map Int.toNat) h15
  have his := packM_is ((zl ++ zd).map Int.toNat) h15
  obtain ⟨ns, hns⟩ : ∃ ns, ns = (zl ++ zd).map Int.toNat := ⟨_, rfl⟩
  have hnl : ns.length = L + D := by rw [hns, List.length_map, List.length_append, ← hll, ← hdl]
  have hxl : (zl.map Int.toNat).length = L := by rw [List.length_map, ← hll]
  have hyl : (zd.map Int.toNat).length = D := by rw [List.length_map, ← hdl]
  rw [← hns] at HHD hpn hcast his
  obtain ⟨cs, hcs⟩ : ∃ cs, cs = chosen (packM ns) := ⟨_, rfl⟩
  rw [← hcs] at HHD
  obtain ⟨come, hcome⟩ : ∃ x, x = comeN cs 19 := ⟨_, rfl⟩
  rw [← hcome] at HHD
  have HHO : Hid (HeadOk (zl.map Int.toNat) (zd.map Int.toNat) come cs (packN ns)) := HHD
  have hc4 := HHD.m1
  have hc19 := HHD.m2
  have HWI1 := fun W => within_any W (L : Int) 257 286
  have HWI2 := fun W => within_any W (D : Int) 1 30
  have e1 : inB (L : Int) 257 286 = true := by
    unfold inB
    have h1 : (257 : Int) ≤ (L : Int) := by omega
    have h2 : (L : Int) ≤ 286 := by omega
    simp [h1, h2]
  have e2 : inB (D : Int) 1 30 = true := by
    unfold inB
    have h1 : (1 : Int) ≤ (D : Int) := by omega
    have h2 : (D : Int) ≤ 30 := by omega
    simp [h1, h2]
  rw [e1] at HWI1
  rw [e2] at HWI2
  obtain ⟨b1, o1, rfl⟩ : ∃ b o, al = some ⟨b, o, none⟩ := by
    obtain ⟨b1, o1, _, e3, _⟩ := hA.get 0 (by omega)
    simp only [Value.slice.injEq] at e3
    exact ⟨b1, o1, e3.1⟩
  obtain ⟨b2, o2, rfl⟩ : ∃ b o, ad = some ⟨b, o, none⟩ := by
    obtain ⟨b2, o2, _, e4, _⟩ := hB.get 0 (by omega)
    simp only [Value.slice.injEq] at e4
    exact ⟨b2, o2, e4.1⟩
  obtain ⟨W, hW⟩ : ∃ W, W = w.alloc (.cells #[.slice (some ⟨b1, o1, none⟩) L cl, .slice (some ⟨b2, o2, none⟩) D cd] 22) := ⟨_, rfl⟩
  have hk0 : Same w W := by rw [hW]; exact (Kept.refl _ w).alloc _
  have HCC := lconcat_any W w.heap.size L cl D cd ⟨b1, o1, none⟩ ⟨b2, o2, none⟩ I J zl zd (by rw [hW]; simp) (by rw [hW]; simp) (hA.same hk0) (hB.same hk0) (by omega) (by omega) (by omega)
  have HK0 : Hid (Same w W) := hk0
  have HPA : Hid (packA (zl ++ zd) = .ok (packM ns)) := hid (by rw [packA_good (by rw [List.length_append]; omega) (by rw [lensOk_append, hokl, hokd]; rfl), ← hns])
  have HLN : Hid ((zl ++ zd).length ≤ 10000000) := hid (by rw [List.length_append]; omega)
  have HIS : Hid (∀ t ∈ packM ns, 0 ≤ t.1 ∧ t.1 ≤ 18) := hid (fun t ht => ⟨(his t ht).1, (his t ht).2.1⟩)
  have HPL : Hid ((packM ns).length ≤ 1000) := hid (by have := packM_len ns; omega)
  have HPN : Hid ((packN ns).length ≤ L + D) := hid (by omega)
  have HCAST : Hid ((packN ns).map (fun x => ((x.1 : Int), (x.2 : Int))) = packM ns) := hcast
  have HCS : Hid (cs = chosen (packM ns)) := hcs
  have HCO : Hid (come = comeN cs 19) := hcome
  have HXY : Hid ((zl.map Int.toNat).length = L ∧ (zd.map Int.toNat).length = D) := hid ⟨hxl, hyl⟩
  have HWS : Hid (WS w w p s s X) := hws
  have HT : Hid (Tab w) := hT
  have HPG : Hid (¬ Fp p s 0) := hpg
  have HFP : Hid (∀ k, Fp p s k → k < w.heap.size) := hid (fun k h => hws.wr.fp_lt h)
  obtain ⟨l1, hl1⟩ : ∃ x, x = L - 257 := ⟨_, rfl⟩
  obtain ⟨d1, hd1⟩ : ∃ x, x = D - 1 := ⟨_, rfl⟩
  obtain ⟨c1, hc1⟩ : ∃ x, x = come - 4 := ⟨_, rfl⟩
  have HVAL : Hid (l1 = L - 257 ∧ d1 = D - 1 ∧ c1 = come - 4) := hid ⟨hl1, hd1, hc1⟩
  have hl1I : (L : Int) - 257 = (l1 : Int) := by omega
  have hd1I : (D : Int) - 1 = (d1 : Int) := by omega
  have hc1I : (come : Int) - 4 = (c1 : Int) := by omega
  have hl1b : l1 < 2 ^ 5 := by omega
  have hd1b : d1 < 2 ^ 5 := by omega
  have hc1b : c1 < 2 ^ 4 := by omega
  have hl1w : IntKind.u32.wrap (l1 : Int) = (l1 : Int) := by rw [IntKind.wrap_u32]; omega
  have hd1w : IntKind.u32.wrap (d1 : Int) = (d1 : Int) := by rw [IntKind.wrap_u32]; omega
  have hc1w : IntKind.u32.wrap (c1 : Int) = (c1 : Int) := by rw [IntKind.wrap_u32]; omega
  clear hA hB hm hk0 hokl hokd hll hdl HHD hpn h15 hcast his hns hcs hcome hws hT hpg hnl hxl hyl hl1 hd1 hc1 e1 e2 h3 h4
  go_enter Tryd.func20, Tryd.ntmps20
  go_wp2_with fail
  refine (HWI1 _).mono ?_
  rintro e wx ⟨rfl, hwx⟩
  subst hwx
  go_wp2_with fail
  refine (HWI2 _).mono ?_
  rintro e w0 ⟨rfl, hw0⟩
  subst hw0
  clear HWI1 HWI2
  go_wp2_with fail
  rw [← hW]
  clear hW
  refine HCC.mono ?_
  rintro e w3 ⟨v3, rfl, hr3, hk3⟩
  have HK3 : Hid (Same w0 w3) := hid (Same.trans HK0.out hk3)
  have HPK := lpack_any w3 _ _ _ (SrcE.ofRow hr3) HLN.out
  rw [HPA.out] at HPK
  clear hr3 hk3 HCC
  go_wp2_with fail
  refine HPK.mono ?_
  rintro e w4 ⟨v4, rfl, hr4, hk4⟩
  have HR4 : Hid (StRow w3.heap.size w4 v4 (packM ns)) := hr4
  have HK4 : Hid (Same w0 w4) := hid (Same.trans HK3.out hk4)
  have HCL := codeLengths_any w4 _ _ (packM ns) (SrcC.ofRow stC_ok hr4) HIS.out HPL.out
  rw [← HCS.out] at HCL
  clear hr4 hk4 HPK
  go_wp2_with fail
  refine HCL.mono ?_
  rintro e w5 ⟨⟨g, ng, capg, rfl, hrg, hgg⟩, hk5⟩
  have hng := hrg.len
  rw [HCS.out, chosen_length] at hng
  subst hng
  have HRG : Hid (NRow 0 w5 (.slice (some ⟨g, 0, none⟩) 19 capg) cs) := hrg
  have HK5 : Hid (Same w0 w5) := hid (Same.trans HK4.out hk5)
  have HR5 : Hid (StRow w3.heap.size w5 v4 (packM ns)) := hid (RowC.kept HR4.out hk5 (fun _ _ f => f))
  have HT5 : Hid (Tab w5) := hid (HT.out.kept HK5.out (fun f => f))
  have HCM := coming_any w5 g capg cs hrg HT5.out
  rw [← HCO.out] at HCM
  have HG5 : Hid (w4.heap.size ≤ g ∧ g < w5.heap.size) := hid ⟨hgg, hrg.lt (k := g) rfl⟩
  have hsz3 := HK3.out.size
  have hsz4 := HK4.out.size
  have hsz5 := HK5.out.size
  have HV4 : Hid (∀ k, v4.ownBlock = some k → w3.heap.size ≤ k ∧ k < w5.heap.size) := hid (fun k e => ⟨HR5.out.ge e, HR5.out.lt e⟩)
  have HWS5 : Hid (WS w5 w5 p s s X) := hid (WS.start (HWS.out.wr.kept HK5.out (fun _ _ f => f)) HWS.out.bit)
  clear hrg hk5 hgg HCL
  go_wp2_with fail
  refine HCM.mono ?_
  rintro e w6 ⟨rfl, hw6⟩
  subst hw6
  have HP1 := ws_put w6 w6 p s s X l1 5 HWS5.out (by decide) hl1b (by omega)
  clear HCM
  go_wp2_with fail
  refine HP1.mono ?_
  rintro e w7 ⟨rfl, ⟨s7, hws7⟩, _⟩
  have HP2 := ws_put w6 w7 p s s7 _ d1 5 hws7 (by decide) hd1b (by rw [List.length_append, bitsOf_length]; omega)
  clear HP1
  go_wp2_with fail
  refine HP2.mono ?_
  rintro e w8 ⟨rfl, ⟨s8, hws8⟩, _⟩
  have HP3 := ws_put w6 w8 p s s8 _ c1 4 hws8 (by decide) hc1b (by rw [List.length_append, List.length_append, bitsOf_length, bitsOf_length]; omega)
  clear HP2 hws7
  go_wp2_with fail
  refine HP3.mono ?_
  rintro e w9 ⟨rfl, ⟨s9, hws9⟩, _⟩
  obtain ⟨X3, hX3⟩ : ∃ X3, X3 = X ++ bitsOf l1 5 ++ bitsOf d1 5 ++ bitsOf c1 4 := ⟨_, rfl⟩
  rw [← hX3] at hws9
  have HX3 : Hid (X3 = X ++ bitsOf l1 5 ++ bitsOf d1 5 ++ bitsOf c1 4 ∧ X3.length ≤ 100014) := hid ⟨hX3, by rw [hX3]; simp only [List.length_append, bitsOf_length]; omega⟩
  have HWS9 : Hid (WS w6 w9 p s s9 X3) := hws9
  clear HP3 hws8 hws9 hX3
  go_wp2_with fail
  go_loopg [11, 57] come (fun q _ zi wr => ∃ (i : Nat) (si : Value), come - i ≤ q ∧ i ≤ come ∧ zi = .int .i64 (i : Nat) ∧ Hid (WS w6 wr p s si (X3 ++ codeBits cs i)))
  case atStart => exact ⟨0, s9, by omega, by omega, rfl, hid (by simpa [codeBits] using HWS9.out)⟩
  case round =>
    clear HWS9
    obtain ⟨i, si, hq, hi, rfl, HWI⟩ := hrel
    have hkw := HWI.out.kept
    by_cases hlt : i < come
    · have ct := (HT5.out.kept hkw HPG.out) i (by omega)
      have ho18 := ord_le i (by omega)
      obtain ⟨oi, hoi⟩ : ∃ x, x = ord.getD i 0 := ⟨_, rfl⟩
      rw [← hoi] at ct ho18
      have HRW : Hid (NRow 0 wr (.slice (some ⟨g, 0, none⟩) 19 capg) cs) := hid (HRG.out.kept hkw (fun k e f => by simp [Value.ownBlock] at e; subst e; have h1 := HFP.out _ f; have h2 := HG5.out; omega))
      have hcl := HRG.out.len
      obtain ⟨x, hx⟩ : ∃ x, x = cs.getD oi 0 := ⟨_, rfl⟩
      have hxe : x = cs[oi]'(by omega) := by rw [hx, List.getD_eq_getElem?_getD, List.getElem?_eq_getElem (by omega)]; rfl
      have hx7 : x ≤ 7 := by rw [hxe]; exact HHO.out.c7 _ (List.getElem_mem _)
      have cg : wr.cell? ⟨g, oi, none⟩ = some (.int .i64 (x : Nat)) := by rw [HRW.out.cell oi (by omega), hxe]; rfl
      have hxw : IntKind.u32.wrap (x : Int) = (x : Int) := by rw [IntKind.wrap_u32]; omega
      have HPT := ws_put w6 wr p s si _ x 3 HWI.out (by decide) (by omega) (by rw [List.length_append, codeBits_length]; have := HX3.out.2; omega)
      have HBT : Hid (X3 ++ codeBits cs (i + 1) = X3 ++ codeBits cs i ++ bitsOf x 3) := hid (by rw [codeBits, ← hoi, ← hx, List.append_assoc])
      clear hx hxe hoi hkw HRW
      go_wp2_with fail
      refine HPT.mono ?_
      rintro e wy ⟨rfl, ⟨sy, hwsy⟩, _⟩
      have HWY : Hid (WS w6 wy p s sy (X3 ++ codeBits cs (i + 1))) := hid (by rw [HBT.out]; exact hwsy)
      clear hwsy HPT ct cg
      go_wp2_with fail
      go_roundg (gk - 1)
      case measure => omega
      case rel => exact ⟨i + 1, sy, by omega, by omega, by go_num, HWY⟩
    · have hic : i = come := by omega
      subst hic
      clear hq hlt
      have HFS : Hid (∀ k, Fp p si k → k < w0.heap.size ∨ w6.heap.size ≤ k) := hid (fun k hf => by
        rcases hf with e | e
        · exact .inl (HFP.out k (.inl e))
        · rcases HWI.out.own k e with h | h
          · exact .inl (HFP.out k (.inr h))
          · exact .inr h)
      have hrow : StRow w3.heap.size wr v4 (packM ns) := RowC.kept HR5.out hkw (fun k e f => by have h1 := HFP.out k f; have h2 := (HV4.out k e).1; omega)
      have hcsr : NRow 0 wr (.slice (some ⟨g, 0, none⟩) 19 capg) cs := HRG.out.kept hkw (fun k e f => by simp [Value.ownBlock] at e; subst e; have h1 := HFP.out _ f; have h2 := HG5.out; omega)
      have hsrc : StSrc wr (fun k => v4.ownBlock = some k) v4 ((packN ns).map (fun x => ((x.1 : Int), (x.2 : Int)))) := by rw [HCAST.out]; exact SrcC.ofRow stC_ok hrow
      have HWT := writeSteps_any wr p g capg si (X3 ++ codeBits cs i) v4 _ cs (packN ns) (WS.start HWI.out.wr HWI.out.bit) (by rw [List.length_append, codeBits_length]; have := HX3.out.2; omega) hsrc
        (fun k e f => by have h1 := HV4.out k e; have h2 := HFS.out k f; omega) hcsr (fun f => by have h1 := HG5.out; have h2 := HFS.out g f; omega) HHO.out.c7 HHO.out.ok HHO.out.st (by have := HPN.out; omega)
      clear hrow hcsr hsrc hkw
      go_wp2_with fail
      refine HWT.mono ?_
      rintro e wz ⟨⟨u, rfl⟩, sz, hwz⟩
      have HWZ : Hid (WS w0 wz p s sz (X ++ headBits L D i cs (packN ns))) := hid (by
        have h := (WS.trans HWI.out (Kept.refl _ wr) hwz).base HK5.out
        have e : X ++ headBits L D i cs (packN ns) = X3 ++ codeBits cs i ++ (packN ns).flatMap (stepBits cs) := by
          rw [HX3.out.1, HVAL.out.1, HVAL.out.2.1, HVAL.out.2.2]
          unfold headBits
          simp only [List.append_assoc]
        rw [e]
        exact h)
      clear hwz HWT
      go_wp2_with fail
      go_ret
      refine ⟨rfl, sz, i, cs, packN ns, HHO.out, ?_, ?_⟩
      · rw [HXY.out.1, HXY.out.2]; exact HPN.out
      · rw [HXY.out.1, HXY.out.2]; exact HWZ.out

end Go.Proofs.YtofhlnpbflkdlaaDoor
