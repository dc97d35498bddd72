/-
  Of the proof: parts HRange, HLen, HLen2, HLim.
-/
import Derived.RangeFuncBox
import Derived.RangeFuncLeaves
import Derived.Shelf.Abstract
import Derived.WalkKit
import Derived.OwnWalkIn
import Derived.TacticsInMore
import Derived.LoopNIn
import Derived.LoopIn
import Derived.Test.YtljlmfnbeofmmaaGreatDoorJ25
import Derived.Test.YtljlmfnbeofmmaaGreatDoorJ18
import Derived.Test.YtljlmfnbeofmmaaGreatDoorJ7

namespace Go.Proofs.YtljlmfnbeofmmaaGreatDoor
open Go.RowKit Go.Shelf

attribute [local go_sem] Oper.semAt_some

def Keep2 (b1 b2 : Nat) (W W' : World) : Prop := W'.heap[b1]? = W.heap[b1]? ∧ W'.heap[b2]? = W.heap[b2]?

theorem Keep2.trans {b1 b2 : Nat} {A B C : World} (h : Keep2 b1 b2 A B) (k : Keep2 b1 b2 B C) : Keep2 b1 b2 A C := ⟨k.1.trans h.1, k.2.trans h.2⟩

def levVals (vs : List (Option Addr × Nat × Nat)) (k : Nat) : Array Value := #[.int .i64 ((vs.length - 1 - k : Nat) : Int), slV (vs.getD (vs.length - 1 - k) (none, 0, 0))]

set_option maxRecDepth 100000 in
set_option maxHeartbeats 2000000 in
theorem lback1_in (F : Fence) (n : Nat) (h7 : F.fn 224) (hro : F.round = none) (hn : 1 ≤ n) (l Bs g cap : Nat) (vs : List (Option Addr × Nat × Nat)) (hlen : vs.length ≤ 1000) (J : Nat → World → Prop)
  (hY : ∀ k W1, k < vs.length → J k W1 → YieldAt F (n - 1) Tryz.prog l (levVals vs k) W1 fun e W' => e = .returned (.bool true) ∧ J (k + 1) W' ∧ Keep2 Bs g W1 W')
  (W : World) (hBs : W.cell? ⟨Bs, 0, none⟩ = some (.slice (some ⟨g, 0, none⟩) vs.length cap)) (hc : ∀ j (_ : j < vs.length), W.cell? ⟨g, j, none⟩ = some (slV vs[j])) (h0 : J 0 W) :
  CallsIn F n Tryz.prog 224 #[.func (.yield l) #[] #[], .pointer (some ⟨Bs, 0, none⟩)] W fun e W' => (∃ v, e = .returned v) ∧ J vs.length W' := by
 refine callsIn_of_wp Tryz.func224 rfl h7 ?_ hro
 simp only [Tryz.ntmps224, List.size_toArray, List.length_cons, List.length_nil, Nat.reduceAdd, Nat.reduceSub, Array.replicate_succ, Array.replicate_zero, List.push_toArray, List.append_toArray, List.nil_append, List.cons_append]
 gi_wp2
 gi_loopw [3] (fun i wr => ∃ k : Nat, k ≤ vs.length ∧ i = .int .i64 ((vs.length : Int) - 1 - k) ∧ J k wr ∧ Keep2 Bs g W wr)
  (fun i _ => (intOf i + 1).toNat)
 case atStart => exact ⟨0, Nat.zero_le _, by simp, h0, rfl, rfl⟩
 case round =>
  obtain ⟨k, hk, rfl, hJs, hnx⟩ := hrel
  have hbs := (World.cell?_of_block (a := ⟨Bs, 0, none⟩) hnx.1).trans hBs
  by_cases hlt : k < vs.length
  ·obtain ⟨m, hm⟩ : ∃ m, m = vs.length - 1 - k := ⟨_, rfl⟩
   have hm2 : (vs.length : Int) - 1 - k = (m : Nat) := by omega
   have hml : m < vs.length := by omega
   obtain ⟨fn, tmps, assign, body, hy, hR⟩ := hY k wr hlt hJs
   obtain ⟨xa, xn, xc, hx⟩ : ∃ xa xn xc, vs[m] = (xa, xn, xc) := ⟨_, _, _, rfl⟩
   have hcx : wr.cell? ⟨g, m, none⟩ = some (.slice xa xn xc) := by
    have := (World.cell?_of_block (a := ⟨g, m, none⟩) hnx.2).trans (hc m hml)
    rw [hx] at this
    exact this
   have hval : levVals vs k = #[.int .i64 (m : Int), .slice xa xn xc] := by
    unfold levVals
    rw [← hm]
    simp [List.getD, hml, hx, slV]
   rw [hval] at hy
   rw [hm2]
   have HM : Hid (m = vs.length - 1 - k) := hm
   clear hm hm2 hval hx
   gi_wp2
   refine hR.mono ?_
   rintro e W3 ⟨rfl, hJ3, hk3⟩
   gi_wp2
   go_roundw
   case rel => exact ⟨k + 1, by omega, by have := HM.out; simp; omega, hJ3, hnx.trans hk3⟩
   case measure => simp [intOf]
  ·obtain rfl : k = vs.length := by omega
   gi_wp2
   go_end0
   exact ⟨⟨_, rfl⟩, hJs⟩

set_option maxRecDepth 100000 in
set_option maxHeartbeats 1000000 in
theorem lbackward_in (F : Fence) (n : Nat) (h5 : F.fn 191) (hro : F.round = none) (a : Option Addr) (len cap : Nat) (w : World) :
  CallsIn F n Tryz.prog 191 #[.slice a len cap] w fun e w' => e = .returned (.func (.func 224) #[] #[.pointer (some ⟨w.heap.size, 0, none⟩)]) ∧ w' = w.alloc (.cells #[.slice a len cap] 215) := by
 refine callsIn_of_wp Tryz.func191 rfl h5 ?_ hro
 simp only [Tryz.ntmps191, List.size_toArray, List.length_cons, List.length_nil, Nat.reduceAdd, Nat.reduceSub, Array.replicate_succ, Array.replicate_zero, List.push_toArray, List.append_toArray, List.nil_append, List.cons_append]
 gi_wp2
 go_ret
 exact ⟨rfl, rfl⟩

end Go.Proofs.YtljlmfnbeofmmaaGreatDoor

namespace Go.Proofs.YtljlmfnbeofmmaaGreatDoor
open Go.RowKit Go.Shelf

attribute [local go_sem] Oper.semAt_some

def outP (ns : List Nat) (p : Nat → Nat) : List Nat := (List.range ns.length).map (fun s => if key ns s = 0 then 0 else p ((ris ns).idxOf s))

theorem outP_length (ns : List Nat) (p : Nat → Nat) : (outP ns p).length = ns.length := by simp [outP]

theorem idx_ris (ns : List Nat) (j : Nat) (h : j < (ris ns).length) : (ris ns).idxOf (ris ns)[j] = j := (ris_nodup ns).idxOf_getElem j h

theorem outP_get (ns : List Nat) (p : Nat → Nat) (j : Nat) (h : j < (ris ns).length) (hl : (ris ns)[j] < (outP ns p).length) : (outP ns p)[(ris ns)[j]] = p j := by
 have h0 := (mem_ris.1 (List.getElem_mem h)).2
 simp only [outP, List.getElem_map, List.getElem_range]
 rw [if_neg h0, idx_ris ns j h]

theorem outP_set (ns : List Nat) (p : Nat → Nat) (j v : Nat) (h : j < (ris ns).length) : (outP ns p).set (ris ns)[j] v = outP ns (fun i => if i = j then v else p i) := by
 unfold outP
 refine List.ext_getElem (by simp) (fun s h1 h2 => ?_)
 simp only [List.getElem_set, List.getElem_map, List.getElem_range]
 have h0 := (mem_ris.1 (List.getElem_mem h)).2
 by_cases e : (ris ns)[j] = s
 ·subst e
  rw [if_pos rfl, if_neg h0, idx_ris ns j h, if_pos rfl]
 ·rw [if_neg e]
  by_cases hk : key ns s = 0
  ·rw [if_pos hk, if_pos hk]
  ·rw [if_neg hk, if_neg hk]
   have hm : s ∈ ris ns := mem_ris.2 ⟨by simpa using h2, hk⟩
   rw [if_neg]
   intro hi
   apply e
   have hlt : (ris ns).idxOf s < (ris ns).length := List.idxOf_lt_length_of_mem hm
   have := List.getElem_idxOf hlt
   simp only [hi] at this
   exact this

theorem outP_congr (ns : List Nat) (p q : Nat → Nat) (h : ∀ i, i < (ris ns).length → p i = q i) : outP ns p = outP ns q := by
 unfold outP
 refine List.map_congr_left (fun s hs => ?_)
 by_cases hk : key ns s = 0
 ·rw [if_pos hk, if_pos hk]
 ·rw [if_neg hk, if_neg hk]
  have hm : s ∈ ris ns := mem_ris.2 ⟨by simpa using hs, hk⟩
  exact h _ (List.idxOf_lt_length_of_mem hm)

theorem outP_zero (ns : List Nat) : outP ns (fun _ => 0) = List.replicate ns.length 0 := by
 unfold outP
 simp [List.map_const']

theorem NRow.apartT {B B' : Nat} {w : World} {v v' : Value} {its : List (Nat × Bool)} {xs : List Nat} (h : TRow B w v its) (h' : NRow B' w v' xs) {j g : Nat} (hj : v.ownBlock = some j) (hg : v'.ownBlock = some g) : j ≠ g := by
 rintro rfl
 rcases h.2 with ⟨rfl, _⟩ | ⟨g1, c1, cur1, rfl, _, e1, _⟩
 ·simp [Value.ownBlock] at hj
 ·rcases h'.2 with ⟨rfl, _⟩ | ⟨g2, c2, cur2, rfl, _, e2, _⟩
  ·simp [Value.ownBlock] at hg
  ·simp [Value.ownBlock] at hj hg
   subst hj hg
   rw [e1] at e2
   simp at e2

theorem NRow.apartL {B B' : Nat} {w : World} {v v' : Value} {vs : List (Option Addr × Nat × Nat)} {xs : List Nat} (h : LRow B w v vs) (h' : NRow B' w v' xs) {j g : Nat} (hj : v.ownBlock = some j) (hg : v'.ownBlock = some g) : j ≠ g := by
 rintro rfl
 rcases h.2 with ⟨rfl, _⟩ | ⟨g1, c1, cur1, rfl, _, e1, _⟩
 ·simp [Value.ownBlock] at hj
 ·rcases h'.2 with ⟨rfl, _⟩ | ⟨g2, c2, cur2, rfl, _, e2, _⟩
  ·simp [Value.ownBlock] at hg
  ·simp [Value.ownBlock] at hj hg
   subst hj hg
   rw [e1] at e2
   simp at e2

structure LI (ns : List Nat) (most : Nat) (w3 : World) (go bt n cn : Nat) (k : Nat) (W : World) (T : Nat) (p : Nat → Nat) : Prop where
 ct : W.cell? ⟨bt, 0, none⟩ = some (.int .i64 (T : Nat))
 ft : W.frozen? ⟨bt, 0, none⟩ = false
 row : NRow 0 W (.slice (some ⟨go, 0, none⟩) n cn) (outP ns p)
 kept : Kept (fun j => j = go ∨ j = bt) w3 W
 hT : T ≤ 600
 hp : ∀ i, p i ≤ k
 more : k < most → T ≤ (lev (wsOf ns) (most - 1 - k)).length ∧ ∀ i, p i + gain (wsOf ns) (most - 1 - k) T i = gain (wsOf ns) (most - 1) (2 * (wsOf ns).length - 2) i
 done : k = most → ∀ i, p i = gain (wsOf ns) (most - 1) (2 * (wsOf ns).length - 2) i

theorem LI.own (ns : List Nat) (most : Nat) (w3 : World) (go bt n cn : Nat) : OwnFrom w3.heap.size (fun k W => ∃ T p, LI ns most w3 go bt n cn k W T p) := by
 rintro k W W' row ⟨T, p, h⟩ hg hr
 have hcells : ∀ b v, W.cell? ⟨b, 0, none⟩ = some v → some b ≠ row := by
  intro b v hc e
  obtain ⟨_, o, ho, hoc⟩ := hr b e.symm
  simp only [World.cell?, ho] at hc
  cases o <;> simp_all [Obj.isCells]
 have hgo : some go ≠ row := by
  intro e
  obtain ⟨_, o, ho, hoc⟩ := hr go e.symm
  rcases h.row.2 with ⟨e1, _⟩ | ⟨g2, c2, cur2, e1, _, e2, _⟩
  ·simp at e1
  ·simp only [Value.slice.injEq, Option.some.injEq, Addr.mk.injEq, and_true] at e1
   obtain ⟨rfl, _⟩ := e1
   rw [ho] at e2
   simp at e2
   subst e2
   simp [Obj.isCells] at hoc
 have hbt := hcells bt _ h.ct
 have hbl : bt < W.heap.size := World.block_lt_of_cell? W _ h.ct
 refine ⟨T, p, ?_, ?_, World.ownsRow.kept h.row hg (.inr hgo), h.kept.grown hg (fun j e => .inr (hr j e).1), h.hT, h.hp, h.more, h.done⟩
 ·exact hg.cell h.ct hbt
 ·exact (World.frozen?_of_block (hg.block bt hbl hbt)).trans h.ft

end Go.Proofs.YtljlmfnbeofmmaaGreatDoor

namespace Go.Proofs.YtljlmfnbeofmmaaGreatDoor
open Go.RowKit Go.Shelf

attribute [local go_sem] Oper.semAt_some

theorem pk_succ (X : List (Nat × Bool)) (j : Nat) (h : j < X.length) : pk X (j + 1) = pk X j + (if X[j].2 then 1 else 0) := by
 unfold pk
 rw [List.take_succ_eq_append_getElem h, List.countP_append]
 cases hb : X[j].2 <;> simp [hb]

theorem pk_le_T (X : List (Nat × Bool)) (T : Nat) : pk X T ≤ T := Nat.le_trans List.countP_le_length (by simp; omega)

theorem lev_ge (ws : List Nat) (t : Nat) : ws.length ≤ (lev ws t).length := by
 cases t with
 | zero => rw [lev_length_zero]; exact Nat.le_refl _
 | succ t => rw [lev_length_succ]; omega

theorem LI.next {ns : List Nat} {most : Nat} {w3 : World} {go bt n cn k : Nat} {W W' : World} {T : Nat} {p : Nat → Nat} (h : LI ns most w3 go bt n cn k W T p) (hk : k < most) (hns : (wsOf ns).length ≤ 288)
  (ct : W'.cell? ⟨bt, 0, none⟩ = some (.int .i64 ((2 * pk (lev (wsOf ns) (most - 1 - k)) T : Nat) : Int))) (ft : W'.frozen? ⟨bt, 0, none⟩ = false)
  (row : NRow 0 W' (.slice (some ⟨go, 0, none⟩) n cn) (outP ns (fun i => p i + if i < lf (lev (wsOf ns) (most - 1 - k)) T then 1 else 0))) (kept : Kept (fun j => j = go ∨ j = bt) w3 W') :
  LI ns most w3 go bt n cn (k + 1) W' (2 * pk (lev (wsOf ns) (most - 1 - k)) T) (fun i => p i + if i < lf (lev (wsOf ns) (most - 1 - k)) T then 1 else 0) := by
 obtain ⟨h1, h2⟩ := h.more hk
 refine ⟨ct, ft, row, kept, ?_, ?_, ?_, ?_⟩
 ·have h3 := pk_le_T (lev (wsOf ns) (most - 1 - k)) T
  by_cases e : most - 1 - k = 0
  ·rw [e, pk_zero]; omega
  ·have h4 := pk_le (wsOf ns) (most - 1 - k - 1) T
   rw [show most - 1 - k - 1 + 1 = most - 1 - k by omega] at h4
   have h5 := (lev_length (wsOf ns) (most - 1 - k - 1)).2
   omega
 ·intro i
  have := h.hp i
  split <;> omega
 ·intro hk2
  have e : most - 1 - k = (most - 1 - (k + 1)) + 1 := by omega
  rw [e] at h2 ⊢
  refine ⟨pk_le _ _ _, fun i => ?_⟩
  have h3 := h2 i
  have e3 : gain (wsOf ns) (most - 1 - (k + 1) + 1) T i = (if i < lf (lev (wsOf ns) (most - 1 - (k + 1) + 1)) T then 1 else 0) + gain (wsOf ns) (most - 1 - (k + 1)) (2 * pk (lev (wsOf ns) (most - 1 - (k + 1) + 1)) T) i := rfl
  rw [e3] at h3
  omega
 ·intro hk2 i
  have e : most - 1 - k = 0 := by omega
  have h3 := h2 i
  rw [e] at h3 ⊢
  have e3 : gain (wsOf ns) 0 T i = if i < lf (lev (wsOf ns) 0) T then 1 else 0 := rfl
  rw [e3] at h3
  exact h3

set_option maxRecDepth 100000 in
set_option maxHeartbeats 4000000 in
theorem lengthen_in (F : Fence) (fm : Nat) (h34 : F.fn 158) (h5 : F.fn 191) (h7 : F.fn 224) (hro : F.round = none) (hfm : 3 ≤ fm)
  (w : World) (ns : List Nat) (most go n cn gl capl : Nat) (vu : Value) (I : Nat → Prop) (Bl Bo : Nat) (vs : List (Option Addr × Nat × Nat)) (hrow : NRow Bo w (.slice (some ⟨go, 0, none⟩) n cn) (List.replicate n 0)) (hn : n = ns.length) (hns : ns.length ≤ 288)
  (hu : SrcE natV w I vu (ris ns)) (hI : ∀ k, I k → k ≠ go) (hl : LRow Bl w (.slice (some ⟨gl, 0, none⟩) most capl) vs) (hlev : Levs Bl w ns vs) (hm2 : 2 ≤ (ris ns).length) (hm1 : 1 ≤ most) (hmost : most ≤ 15) (hfit : (ris ns).length ≤ 2 ^ most) :
  CallsIn F fm Tryz.prog 158 #[.slice (some ⟨go, 0, none⟩) n cn, vu, .slice (some ⟨gl, 0, none⟩) most capl] w fun e w' => (∃ v, e = .returned v) ∧ NRow 0 w' (.slice (some ⟨go, 0, none⟩) n cn) (outP ns (gain (wsOf ns) (most - 1) (2 * (wsOf ns).length - 2))) ∧ Kept (· = go) w w' := by
 have h1 : 1 ≤ fm := by omega
 obtain ⟨bu, ou, capu, hvu, _, _, _⟩ := hu.get 0 (by omega)
 subst hvu
 have hvl : vs.length = most := hl.len
 have hgo : go < w.heap.size := hrow.lt rfl
 have hgl : gl < w.heap.size := hl.lt rfl
 have hglgo : gl ≠ go := NRow.apartL hl hrow rfl rfl
 have hml : (ris ns).length ≤ 288 := Nat.le_trans (ris_length ns) hns
 have hcapu : (ris ns).length ≤ capu := by
  obtain ⟨_, _, e, h, _⟩ := hu
  simp only [Value.slice.injEq] at e
  omega
 have HU : Hid (SrcE natV w (fun k => I k ∧ k < w.heap.size) (.slice (some ⟨bu, ou, none⟩) (ris ns).length capu) (ris ns)) := hu.low
 have HLV : Hid (Levs Bl w ns vs) := hlev
 have HL : Hid (LRow Bl w (.slice (some ⟨gl, 0, none⟩) most capl) vs) := hl
 have HRW : Hid (NRow Bo w (.slice (some ⟨go, 0, none⟩) n cn) (List.replicate n 0)) := hrow
 obtain ⟨m, hm⟩ : ∃ m, m = (ris ns).length := ⟨_, rfl⟩
 have HM : Hid (m = (ris ns).length) := hm
 rw [← hm] at hm2 hml hcapu hfit HU ⊢
 have HFIT : Hid (m ≤ 2 ^ most) := hfit
 have HN : Hid (n = ns.length) := hn
 have HI : Hid (∀ k, I k → k ≠ go) := hI
 have HVL : Hid (vs.length = most) := hvl
 clear hu hlev hl hrow hm hfit hn hI hvl
 refine callsIn_of_wp_marks Tryz.func158 rfl h34 ?_ hro
 simp only [Tryz.ntmps158, List.size_toArray, List.length_cons, List.length_nil, Nat.reduceAdd, Nat.reduceSub, Array.replicate_succ, Array.replicate_zero, List.push_toArray, List.append_toArray, List.nil_append, List.cons_append]
 gi_wp2_with (gi_at_call 191; refine (lbackward_in F (fm - 1) h5 hro _ _ _ _).mono ?_; rintro e w' ⟨rfl, rfl⟩)
 obtain ⟨w3, hw3⟩ : ∃ w3, w3 = (((w.alloc (.cells #[.slice (some ⟨go, 0, none⟩) n cn] 117)).alloc (.cells #[.slice (some ⟨bu, ou, none⟩) m capu] 117)).alloc (.cells #[.int .i64 (2 * (m : Int) - 2)] 3)).alloc (.cells #[.slice (some ⟨gl, 0, none⟩) most capl] 215) := ⟨_, rfl⟩
 have hsa : ∀ (W : World) (o : Obj), (W.alloc o).heap.size = W.heap.size + 1 := fun W o => World.size_alloc W o
 have ka : ∀ (W : World) (o : Obj), Same W (W.alloc o) := fun W o => (Kept.refl _ W).alloc o
 have hnew : ∀ (W : World) (v : Value) (t : TypeId), (W.alloc (.cells #[v] t)).cell? ⟨W.heap.size, 0, none⟩ = some v := fun W v t => by simp
 have hfz : ∀ (W : World) (v : Value) (t : TypeId), (W.alloc (.cells #[v] t)).frozen? ⟨W.heap.size, 0, none⟩ = false := fun W v t => by simp
 have F3 : Same w w3 ∧ w3.heap.size = w.heap.size + 1 + 1 + 1 + 1 ∧ w3.cell? ⟨w.heap.size, 0, none⟩ = some (.slice (some ⟨go, 0, none⟩) n cn) ∧ w3.cell? ⟨w.heap.size + 1, 0, none⟩ = some (.slice (some ⟨bu, ou, none⟩) m capu) ∧
   w3.cell? ⟨w.heap.size + 1 + 1, 0, none⟩ = some (.int .i64 ((2 * m - 2 : Nat) : Int)) ∧ w3.frozen? ⟨w.heap.size + 1 + 1, 0, none⟩ = false ∧ w3.cell? ⟨w.heap.size + 1 + 1 + 1, 0, none⟩ = some (.slice (some ⟨gl, 0, none⟩) most capl) := by
  have e2 : (2 * (m : Int) - 2) = ((2 * m - 2 : Nat) : Int) := by omega
  rw [e2] at hw3
  generalize hA : w.alloc (.cells #[.slice (some ⟨go, 0, none⟩) n cn] 117) = wa at hw3
  generalize hB : wa.alloc (.cells #[.slice (some ⟨bu, ou, none⟩) m capu] 117) = wb at hw3
  generalize hC : wb.alloc (.cells #[.int .i64 ((2 * m - 2 : Nat) : Int)] 3) = wc at hw3
  have s1 : wa.heap.size = w.heap.size + 1 := by rw [← hA, hsa]
  have s2 : wb.heap.size = w.heap.size + 1 + 1 := by rw [← hB, hsa, s1]
  have s3 : wc.heap.size = w.heap.size + 1 + 1 + 1 := by rw [← hC, hsa, s2]
  have k1 : Same w wa := by rw [← hA]; exact ka _ _
  have k2 : Same wa wb := by rw [← hB]; exact ka _ _
  have k3 : Same wb wc := by rw [← hC]; exact ka _ _
  have k4 : Same wc w3 := by rw [hw3]; exact ka _ _
  have c1 : wa.cell? ⟨w.heap.size, 0, none⟩ = some (.slice (some ⟨go, 0, none⟩) n cn) := by rw [← hA]; exact hnew _ _ _
  have c2 : wb.cell? ⟨wa.heap.size, 0, none⟩ = some (.slice (some ⟨bu, ou, none⟩) m capu) := by rw [← hB]; exact hnew _ _ _
  have c3 : wc.cell? ⟨wb.heap.size, 0, none⟩ = some (.int .i64 ((2 * m - 2 : Nat) : Int)) := by rw [← hC]; exact hnew _ _ _
  have f3 : wc.frozen? ⟨wb.heap.size, 0, none⟩ = false := by rw [← hC]; exact hfz _ _ _
  have c4 : w3.cell? ⟨wc.heap.size, 0, none⟩ = some (.slice (some ⟨gl, 0, none⟩) most capl) := by rw [hw3]; exact hnew _ _ _
  rw [s1] at c2
  rw [s2] at c3 f3
  rw [s3] at c4
  refine ⟨Same.trans k1 (Same.trans k2 (Same.trans k3 k4)), by rw [hw3, hsa, s3], (Same.trans k2 (Same.trans k3 k4)).cell c1 (fun h => h), (Same.trans k3 k4).cell c2 (fun h => h), k4.cell c3 (fun h => h), ?_, c4⟩
  exact (k4.frozen (p := ⟨w.heap.size + 1 + 1, 0, none⟩) (by rw [s3]; simp) (fun h => h)).trans f3
 rw [← hw3]
 clear hw3 hsa ka hnew hfz
 generalize hb3 : w.heap.size + 1 + 1 + 1 = b3 at *
 generalize hb2 : w.heap.size + 1 + 1 = b2 at *
 generalize hb1 : w.heap.size + 1 = b1 at *
 have HF3 : Hid (Same w w3 ∧ w3.heap.size = b3 + 1) := ⟨F3.1, F3.2.1⟩
 obtain ⟨_, _, cb0, cb1, cb2, fb2, cb3⟩ := F3
 have hbb : w.heap.size < b1 ∧ b1 < b2 ∧ b2 < b3 ∧ b3 < w3.heap.size := by have := HF3.out.2; omega
 clear hb3 hb2 hb1
 have hwl : (wsOf ns).length = m := by rw [wsOf_length]; exact HM.out.symm
 refine range_each hro h1 (gf := 224) (lb := #[.pointer (some ⟨b3, 0, none⟩)]) rfl h7 (enters_of Tryz.func224 (by kernel_rfl) rfl) most (levVals vs) (fun _ => rfl) (Keep2 b3 gl) Keep2.trans
  (fun W l o hl => ⟨World.putObj_heap_other (by omega), World.putObj_heap_other (by omega)⟩) (fun k W => ∃ T p, LI ns most w3 go b2 n cn k W T p) (LI.own ns most w3 go b2 n cn)
  ⟨2 * m - 2, fun _ => 0, cb2, fb2, by rw [outP_zero, ← HN.out]; exact RowE.base (HRW.out.same HF3.out.1) (Nat.zero_le _), Kept.refl _ _, by omega, fun _ => by omega, fun _ => ⟨by
    have h := lev_top (wsOf ns) (most - 1) (by rw [hwl, show most - 1 + 1 = most by omega]; exact HFIT.out)
    rw [hwl] at h
    exact h, fun i => by rw [hwl]; simp⟩, fun h => by omega⟩
  (fun k => { tmps := #[.slice (some ⟨go, 0, none⟩) n cn, .slice (some ⟨bu, ou, none⟩) m capu, .slice (some ⟨gl, 0, none⟩) most capl, .pointer (some ⟨w.heap.size, 0, none⟩), .pointer (some ⟨b1, 0, none⟩), undef, .pointer (some ⟨b2, 0, none⟩), undef,
   .slice (vs.getD (vs.length - 1 - k) (none, 0, 0)).1 (vs.getD (vs.length - 1 - k) (none, 0, 0)).2.1 (vs.getD (vs.length - 1 - k) (none, 0, 0)).2.2, undef, undef, undef, undef, undef, .slice (some ⟨bu, ou, none⟩) m capu, .int .i64 (m : Nat), .int .i64 (2 * (m : Int)), .int .i64 (2 * (m : Int) - 2),
   .slice (some ⟨gl, 0, none⟩) most capl, .func (.func 224) #[] #[.pointer (some ⟨b3, 0, none⟩)], .int .i64 ((vs.length - 1 - k : Nat) : Int),
   .slice (vs.getD (vs.length - 1 - k) (none, 0, 0)).1 (vs.getD (vs.length - 1 - k) (none, 0, 0)).2.1 (vs.getD (vs.length - 1 - k) (none, 0, 0)).2.2, undef, undef, undef, undef, undef, undef, undef, undef, undef, undef, undef, undef, undef, undef, undef, undef, undef, undef, undef, undef, undef, undef, undef, undef, undef, undef, undef, undef, undef, undef, undef, undef], defers := [] }) ?seq ?assign ?body ?done
 case seq =>
  intro l J W hW hY hJ
  have hcl : W.cell? ⟨b3, 0, none⟩ = some (.slice (some ⟨gl, 0, none⟩) vs.length capl) := by rw [HVL.out]; exact (hW.cell (p := ⟨b3, 0, none⟩) hbb.2.2.2).trans cb3
  have := lback1_in F (fm - 1) h7 hro (by omega) l b3 gl capl vs (by have := HVL.out; omega) J (fun k W1 hk hj => hY k W1 (by rw [← HVL.out]; exact hk) hj) W hcl
   (fun j hj => (hW.cell (p := ⟨gl, j, none⟩) (by show gl < _; omega)).trans (HF3.out.1.cell (HL.out.cell j hj) (fun h => h))) hJ
  rw [HVL.out] at this
  exact this
 case assign =>
  intro l k W K hk hK
  unfold levVals slV
  gi_wp2
  exact hK
 case body =>
  rintro l k W hk ⟨T, p, hLI⟩
  have hlt : most - 1 - k < vs.length := by have := HVL.out; omega
  obtain ⟨la, ln, lc, hv⟩ : ∃ la ln lc, vs[most - 1 - k] = (la, ln, lc) := ⟨_, _, _, rfl⟩
  have hget : vs.getD (vs.length - 1 - k) (none, 0, 0) = (la, ln, lc) := by rw [HVL.out]; simp [List.getD, hlt, hv]
  have htr0 : TRow Bl w (.slice la ln lc) (lev (wsOf ns) (most - 1 - k)) := by have h := HLV.out _ hlt; rw [hv] at h; exact h
  have htr : TRow Bl W (.slice la ln lc) (lev (wsOf ns) (most - 1 - k)) := TRow.kept (TRow.kept htr0 HF3.out.1 (fun _ _ h => h)) hLI.kept (fun j hj e => by
   rcases e with rfl | rfl
   ·exact NRow.apartT htr0 HRW.out hj rfl rfl
   ·have := htr0.lt hj; omega)
  rw [hget]
  dsimp only
  have hXl : 0 < (lev (wsOf ns) (most - 1 - k)).length := by have := lev_ge (wsOf ns) (most - 1 - k); omega
  obtain ⟨hTl, _⟩ := hLI.more hk
  have HLI : Hid (LI ns most w3 go b2 n cn k W T p) := hLI
  generalize hX : lev (wsOf ns) (most - 1 - k) = X at htr hXl hTl
  have HX : Hid (lev (wsOf ns) (most - 1 - k) = X) := hX
  obtain ⟨ax, capx, hvx, hcapx, hcells⟩ := htr.shape
  obtain ⟨gx, hax, hgx, hcell⟩ := hcells (by intro e; rw [e] at hXl; simp at hXl)
  simp only [Value.slice.injEq] at hvx
  obtain ⟨rfl, rfl, rfl⟩ := hvx
  subst hax
  have HC : Hid (∀ j (_ : j < X.length), W.cell? ⟨gx, j * 2, none⟩ = some (.int .i64 (X[j].1 : Int)) ∧ W.cell? ⟨gx, j * 2 + 1, none⟩ = some (.bool X[j].2)) := hcell
  have ct := hLI.ct
  have hT6 := hLI.hT
  have hTc : T ≤ lc := by omega
  clear hcells hcell htr htr0 hX hv hget hLI hlt
  gi_wp2
  gi_loopw [9, 26] (fun z9 z26 wx => ∃ j : Nat, j ≤ T ∧ z9 = .int .i64 (pk X j : Nat) ∧ z26 = .int .i64 (j : Nat) ∧ Hid (Same W wx)) (fun _ z26 _ => T - (intOf z26).toNat)
  case atStart => exact ⟨0, by omega, by simp [pk], rfl, Kept.refl _ _⟩
  case round =>
   obtain ⟨j, hj, rfl, rfl, HS⟩ := hrel
   by_cases hjT : j < T
   ·have hjX : j < X.length := by omega
    obtain ⟨c1, c2⟩ := HC.out j hjX
    have d1 := HS.out.cell c1 (fun h => h)
    have d2 := HS.out.cell c2 (fun h => h)
    have hpk := pk_succ X j hjX
    have hpl := pk_le_T X j
    obtain ⟨xw, hxw⟩ : ∃ x, x = X[j].1 := ⟨_, rfl⟩
    rw [← hxw] at d1
    clear c1 c2 hxw
    cases hb : X[j].2 with
    | true =>
     rw [hb] at d2 hpk
     have HPK : Hid (pk X (j + 1) = pk X j + 1) := hid (by simpa using hpk)
     clear hpk hb
     generalize pk X j = pj at *
     gi_wp2
     go_roundw
     case rel => exact ⟨j + 1, by omega, by rw [HPK.out]; go_num, by go_num, hid (by first | exact (HS.out.alloc _) | exact ((HS.out.alloc _).setCell _ _ (.inr HS.out.size)).setCell _ _ (.inr HS.out.size))⟩
     case measure => simp [intOf]; omega
    | false =>
     rw [hb] at d2 hpk
     have HPK : Hid (pk X (j + 1) = pk X j) := hid (by simpa using hpk)
     clear hpk hb
     generalize pk X j = pj at *
     gi_wp2
     go_roundw
     case rel => exact ⟨j + 1, by omega, by rw [HPK.out], by go_num, hid (by first | exact (HS.out.alloc _) | exact ((HS.out.alloc _).setCell _ _ (.inr HS.out.size)).setCell _ _ (.inr HS.out.size))⟩
     case measure => simp [intOf]; omega
   ·have hjT2 : j = T := by omega
    subst hjT2
    have hpl := pk_le_T X j
    have hlf := pk_lf X j hTl
    obtain ⟨aa, haa⟩ : ∃ aa, aa = lf X j := ⟨_, rfl⟩
    obtain ⟨pp, hpp⟩ : ∃ pp, pp = pk X j := ⟨_, rfl⟩
    rw [← haa, ← hpp] at hlf
    rw [← hpp] at hpl ⊢
    have ham : aa ≤ m := by
     have h1 := lev_lf_le (wsOf ns) (most - 1 - k) j
     rw [HX.out, ← haa, hwl] at h1
     exact h1
    have HAA : Hid (aa = lf X j) := haa
    have HPP : Hid (pp = pk X j) := hpp
    have hsub : ((j : Int) - (pp : Int)) = (aa : Int) := by omega
    have hk0 := HLI.out.kept
    have ct2 : wr.cell? ⟨b2, 0, none⟩ = some (.int .i64 (j : Nat)) := HS.out.cell ct (fun h => h)
    have ft2 : wr.frozen? ⟨b2, 0, none⟩ = false := (HS.out.frozen (p := ⟨b2, 0, none⟩) (World.block_lt_of_cell? W _ ct) (fun h => h)).trans HLI.out.ft
    have du : wr.cell? ⟨b1, 0, none⟩ = some (.slice (some ⟨bu, ou, none⟩) m capu) := HS.out.cell (hk0.cell cb1 (by show ¬ (b1 = go ∨ b1 = b2); omega)) (fun h => h)
    have dv : wr.cell? ⟨w.heap.size, 0, none⟩ = some (.slice (some ⟨go, 0, none⟩) n cn) := HS.out.cell (hk0.cell cb0 (by show ¬ (w.heap.size = go ∨ w.heap.size = b2); omega)) (fun h => h)
    have HU2 : Hid (SrcE natV wr (fun k => I k ∧ k < w.heap.size) (.slice (some ⟨bu, ou, none⟩) m capu) (ris ns)) := hid (by
     refine SrcE.same (SrcE.kept (SrcE.same HU.out HF3.out.1) hk0 (fun x hx _ e => ?_)) HS.out
     rcases e with e | e
     ·exact HI.out x hx.1 e
     ·omega)
    have HR0 : Hid (NRow 0 wr (.slice (some ⟨go, 0, none⟩) n cn) (outP ns p)) := hid (HLI.out.row.same HS.out)
    have hcu : aa ≤ capu := by omega
    clear haa hpp hk0 ct
    gi_wp2
    gi_loopw [41] (fun z wy => ∃ q : Nat, q ≤ aa ∧ z = .int .i64 (q : Nat) ∧ Hid (NRow 0 wy (.slice (some ⟨go, 0, none⟩) n cn) (outP ns (fun i => p i + if i < q then 1 else 0))) ∧ Hid (Kept (· = go) wr wy)) (fun z _ => aa - (intOf z).toNat)
    case atStart => exact ⟨0, by omega, rfl, hid (by simpa using HR0.out), Kept.refl _ _⟩
    case round =>
     obtain ⟨q, hq, rfl, HR, HK⟩ := hrel
     have dv2 := HK.out.cell dv (by show ¬ w.heap.size = go; omega)
     by_cases hqa : q < aa
     ·have hql : q < (ris ns).length := by have := HM.out; omega
      obtain ⟨bq, oq, cq, eq, _, _, cs⟩ := (SrcE.kept HU2.out HK.out (fun x hx _ e => HI.out x hx.1 e)).get q hql
      simp only [Value.slice.injEq, Option.some.injEq, Addr.mk.injEq, and_true] at eq
      obtain ⟨⟨rfl, rfl⟩, hxe, rfl⟩ := eq
      clear hxe
      obtain ⟨sy, hsy⟩ : ∃ sy, sy = (ris ns)[q] := ⟨_, rfl⟩
      rw [← hsy] at cs
      unfold natV at cs
      have hsr := mem_ris.1 (by rw [hsy]; exact List.getElem_mem _ : sy ∈ ris ns)
      have hsn : sy < n := by have := HN.out; omega
      have hso : sy < (outP ns (fun i => p i + if i < q then 1 else 0)).length := by rw [outP_length]; exact hsr.1
      obtain ⟨y, hy⟩ : ∃ y, y = p q := ⟨_, rfl⟩
      have hyk : y ≤ k := by rw [hy]; exact HLI.out.hp q
      have cy : wr.cell? ⟨go, sy, none⟩ = some (.int .i64 (y : Nat)) := by
       rw [HR.out.cell sy hso]
       unfold natV
       congr 3
       subst hsy
       rw [outP_get ns _ q hql hso, hy]
       simp
      have fy := HR.out.frozen sy
      have HR2 : Hid (NRow 0 (wr.setCell ⟨go, sy, none⟩ (.int .i64 ((y : Int) + 1))) (.slice (some ⟨go, 0, none⟩) n cn) (outP ns (fun i => p i + if i < q + 1 then 1 else 0))) := hid (by
       have h := HR.out.lay sy (y + 1)
       subst hsy
       rw [outP_set ns _ q (y + 1) hql] at h
       rw [outP_congr ns (fun i => p i + if i < q + 1 then 1 else 0) (fun i => if i = q then y + 1 else p i + if i < q then 1 else 0) (fun i _ => by
        by_cases e : i = q
        ·subst e; simp [hy]
        ·by_cases e2 : i < q
         ·simp [e, e2, show i < q + 1 by omega]
         ·simp [e, e2, show ¬ i < q + 1 by omega])]
       exact h)
      clear hsy hsr hso hy
      gi_wp2
      go_roundw
      case rel => exact ⟨q + 1, by omega, by go_num, HR2, HK.out.setCell _ _ (.inl rfl)⟩
      case measure => simp [intOf]; omega
     ·have hqa2 : q = aa := by omega
      subst hqa2
      have ct3 := HK.out.cell ct2 (by show ¬ b2 = go; omega)
      have ft3 : wr.frozen? ⟨b2, 0, none⟩ = false := (HK.out.frozen (p := ⟨b2, 0, none⟩) (World.block_lt_of_cell? _ _ ct2) (by show ¬ b2 = go; omega)).trans ft2
      have HKW : Hid (Kept (· = go) W wr) := hid (Kept.trans HS.out HK.out (fun _ _ h => h.elim) (fun _ _ h => h))
      have HK3 : Hid (Kept (fun j => j = go ∨ j = b2) w3 wr) := hid (HLI.out.kept.trans HKW.out (fun _ _ h => h) (fun _ _ h => .inl h))
      have hgoW : go < w3.heap.size := by omega
      gi_wp2
      have h2p : ((2 : Int) * (pp : Int)) = ((2 * pp : Nat) : Int) := by omega
      rw [h2p]
      refine ⟨rfl, ?_, ?_, 2 * pp, fun i => p i + if i < q then 1 else 0, ?_⟩
      ·have hkk : Kept (fun j => j = go ∨ j = b2) W (wr.setCell ⟨b2, 0, none⟩ (.int .i64 ((2 * pp : Nat) : Int))) := (HKW.out.mono (fun _ _ h => .inl h)).setCell _ _ (.inl (.inr rfl))
       refine ⟨hkk.size, fun x o hB hx _ => ?_⟩
       exact (hkk.block x (Array.getElem?_eq_some_iff.1 hx).1 (by omega)).trans hx
      ·have hkk : Kept (fun j => j = go ∨ j = b2) W (wr.setCell ⟨b2, 0, none⟩ (.int .i64 ((2 * pp : Nat) : Int))) := (HKW.out.mono (fun _ _ h => .inl h)).setCell _ _ (.inl (.inr rfl))
       have hWs := HLI.out.kept.size
       exact ⟨hkk.block b3 (by omega) (by omega), hkk.block gl (by omega) (by omega)⟩
      ·have hX := HX.out
       have h1 := HLI.out.next (W' := wr.setCell ⟨b2, 0, none⟩ (.int .i64 ((2 * pp : Nat) : Int))) hk (by omega) (by rw [hX, ← HPP.out]; exact World.cell?_setCell_same' _ _ _ (by rw [ct3]; rfl)) (by rw [World.frozen?_setCell]; exact ft3)
        (by rw [hX, ← HAA.out]; exact HR.out.kept ((Kept.refl (· = b2) wr).setCell ⟨b2, 0, none⟩ _ (.inl rfl)) (fun x hx e => by simp [Value.ownBlock] at hx; omega)) (HK3.out.setCell _ _ (.inl (.inr rfl)))
       rw [hX, ← HPP.out, ← HAA.out] at h1
       exact h1
 case done =>
  rintro D W hD ⟨T, p, hLI⟩ hK
  have HFIN : Hid (NRow 0 W (.slice (some ⟨go, 0, none⟩) n cn) (outP ns (gain (wsOf ns) (most - 1) (2 * (wsOf ns).length - 2))) ∧ Kept (fun j => j = go ∨ j = b2) w3 W) := hid ⟨by
   have h := hLI.row
   rw [outP_congr ns p _ (fun i _ => hLI.done rfl i)] at h
   exact h, hLI.kept⟩
  clear hLI
  gi_wp2
  refine ⟨by simp, .inl ⟨_, _, rfl, run_takeDeferred hK, ?_⟩⟩
  refine ⟨_, results_none rfl _ _ _, ⟨_, rfl⟩, ?_, ?_⟩
  ·exact World.ownsRow.kept HFIN.out.1 (grownBy_putObj' W D _) (.inr (by simp [Value.ownBlock]; omega))
  ·have hk1 : Kept (· = go) w W := Kept.trans HF3.out.1 HFIN.out.2 (fun _ _ h => h.elim) (fun x hx h => by rcases h with h | h; exact h; omega)
   exact hk1.grown (grownBy_putObj' W D _) (fun x e => .inr (by cases e; omega))

theorem lengthen_any (w : World) (ns : List Nat) (most go n cn gl capl : Nat) (vu : Value) (I : Nat → Prop) (Bl Bo : Nat) (vs : List (Option Addr × Nat × Nat)) (hrow : NRow Bo w (.slice (some ⟨go, 0, none⟩) n cn) (List.replicate n 0)) (hn : n = ns.length) (hns : ns.length ≤ 288)
  (hu : SrcE natV w I vu (ris ns)) (hI : ∀ k, I k → k ≠ go) (hl : LRow Bl w (.slice (some ⟨gl, 0, none⟩) most capl) vs) (hlev : Levs Bl w ns vs) (hm2 : 2 ≤ (ris ns).length) (hm1 : 1 ≤ most) (hmost : most ≤ 15) (hfit : (ris ns).length ≤ 2 ^ most) :
  Calls Tryz.prog 158 #[.slice (some ⟨go, 0, none⟩) n cn, vu, .slice (some ⟨gl, 0, none⟩) most capl] w fun e w' => (∃ v, e = .returned v) ∧ NRow 0 w' (.slice (some ⟨go, 0, none⟩) n cn) (outP ns (gain (wsOf ns) (most - 1) (2 * (wsOf ns).length - 2))) ∧ Kept (· = go) w w' := by
 refine (callsIn_wide (n := 3)).1 ?_
 exact lengthen_in Fence.wide 3 trivial trivial trivial rfl (by omega) w ns most go n cn gl capl vu I Bl Bo vs hrow hn hns hu hI hl hlev hm2 hm1 hmost hfit

end Go.Proofs.YtljlmfnbeofmmaaGreatDoor

namespace Go.Proofs.YtljlmfnbeofmmaaGreatDoor
open Go.RowKit

def limL (ns : List Nat) (most : Nat) : List Nat :=
 if (ris ns).length ≤ 1 then outP ns (fun _ => 1) else outP ns (gain (wsOf ns) (most - 1) (2 * (wsOf ns).length - 2))

theorem limL_length (ns : List Nat) (most : Nat) : (limL ns most).length = ns.length := by unfold limL; split <;> exact outP_length _ _

theorem wrap_pow (k : Nat) (h : k ≤ 15) : wrap64 ((2 : Int) ^ k) = ((2 ^ k : Nat) : Int) := by
 have h1 : (2 : Int) ^ k = ((2 ^ k : Nat) : Int) := by simp
 have h2 : 2 ^ k ≤ 2 ^ 15 := Nat.pow_le_pow_right (by omega) h
 have h3 : (2 : Nat) ^ 15 = 32768 := by decide
 rw [h1]
 generalize 2 ^ k = q at *
 unfold wrap64
 omega

set_option maxRecDepth 100000 in
set_option maxHeartbeats 2000000 in
theorem limit_good (w : World) (v : Value) (I : Nat → Prop) (zs : List Int) (ns : List Nat) (most : Nat) (hs : SrcE intV w I v zs) (hok : okAll zs 0 1000000000000 = true) (hns : ns = zs.map Int.toNat) (h1 : 1 ≤ most) (h15 : most ≤ 15) (hfit : (ris ns).length ≤ 2 ^ most) :
  Calls Tryz.prog 126 #[v, .int .i64 (most : Nat)] w fun e w' => (∃ g n cap, e = .returned (.tuple #[.slice (some ⟨g, 0, none⟩) n cap, .int .i64 0]) ∧ NRow 0 w' (.slice (some ⟨g, 0, none⟩) n cap) (limL ns most) ∧ w.heap.size ≤ g) ∧ Same w w' := by
 obtain ⟨eN, h0, h288, hle⟩ := okAll_nat hok
 have HC := all_any w v I zs 0 1000000000000 hs (by omega)
 rw [hok] at HC
 rw [← hns] at eN hle
 obtain ⟨av, capv, hvv, hx1, hx2⟩ := id hs
 clear hx1 hx2
 subst hvv
 have HS : Hid (SrcE natV w (fun k => I k ∧ k < w.heap.size) (.slice av zs.length capv) ns) := hid (hs.recode eN).low
 have hnl : zs.length = ns.length := by rw [hns]; simp
 have hrl : (ris ns).length ≤ 288 := by have := ris_length ns; omega
 have HLE : Hid (∀ n ∈ ns, n ≤ 1000000000000) := hid (fun n hn => by have := hle n hn; omega)
 have g1 : decide ((most : Int) < 1) = false := by simp; omega
 have g2 : decide ((15 : Int) < (most : Int)) = false := by simp; omega
 clear hs hok eN hle hns
 generalize zs.length = n at *
 have HN : Hid (n = ns.length) := hnl
 clear hnl
 go_enter Tryz.func126, Tryz.ntmps126
 go_wp2_with fail
 refine HC.mono ?_
 rintro e w2 ⟨rfl, hk⟩
 have HK : Hid (Same w w2) := hk
 clear hk HC
 have HRI := rising_any w2 _ _ ns (HS.out.same HK.out) (by have := HN.out; omega)
 go_wp2_with fail
 refine HRI.mono ?_
 rintro e w3 ⟨v3, rfl, hn3⟩
 obtain ⟨a3, c3, hv3, _⟩ := hn3.row.shape
 subst hv3
 have HK3 : Hid (Same w w3) := hid (Same.trans HK.out hn3.same)
 have HN3 : Hid (NRow w2.heap.size w3 (.slice a3 (ris ns).length c3) (ris ns)) := hid hn3.row
 have hs2 := HK.out.size
 have hs3 := HK3.out.size
 clear hn3 HRI
 obtain ⟨rl, hrle⟩ : ∃ rl, rl = (ris ns).length := ⟨_, rfl⟩
 have HRL : Hid (rl = (ris ns).length) := hrle
 rw [← hrle] at HN3 hrl hfit ⊢
 clear hrle
 obtain ⟨pw, hpw⟩ : ∃ pw, pw = 2 ^ most := ⟨_, rfl⟩
 have hwr := wrap_pow most h15
 rw [← hpw] at hwr
 have HPW : Hid (pw = 2 ^ most) := hpw
 rw [← hpw] at hfit
 clear hpw
 have hfb : decide (pw < rl) = false := by simp; omega
 by_cases hr0 : rl = 0
 ·have HF : Hid (limL ns most = List.replicate n 0) := hid (by
   unfold limL
   rw [← HRL.out, if_pos (by omega), HN.out, ← outP_zero]
   exact outP_congr ns _ _ (fun i hi => by rw [← HRL.out] at hi; omega))
  go_wp2_with (at_make; refine wpList_make_e _ natV 0 w3.heap.size 117 3 8 Tryz.underlying117 Tryz.infoN rfl (by decide) rfl _ _ rfl _ _ _ _ n rfl rfl rfl rfl (by omega) (Nat.le_refl _) ?_; intro w4 hr4 hg4 hs4; have HR4 : Hid (NRow w3.heap.size w4 (.slice (some ⟨w3.heap.size, 0, none⟩) n n) (List.replicate n 0)) := hr4; have HK4 : Hid (Same w3 w4) := hid ((Kept.refl _ w3).grown hg4 (by simp)); clear hr4 hg4)
  go_ret2
  exact ⟨⟨_, _, _, rfl, by rw [HF.out]; exact RowE.base HR4.out (Nat.zero_le _), by omega⟩, Same.trans HK3.out HK4.out⟩
 ·have hd0 : ((rl : Int) == 0) = false := by simp; omega
  by_cases hr1 : rl = 1
  ·have hd1 : ((rl : Int) == 1) = true := by simp; omega
   have hp0 : 0 < (ris ns).length := by have := HRL.out; omega
   obtain ⟨s, hs⟩ : ∃ s, s = (ris ns)[0] := ⟨_, rfl⟩
   have hsr := mem_ris.1 (by rw [hs]; exact List.getElem_mem _ : s ∈ ris ns)
   have hsn : s < n := by have := HN.out; omega
   obtain ⟨b, o, cap', e5, _, _, c5⟩ := (SrcE.ofRow HN3.out).get 0 hp0
   simp only [Value.slice.injEq] at e5
   obtain ⟨rfl, hxe, rfl⟩ := e5
   clear hxe
   rw [← hs] at c5
   unfold natV at c5
   rw [Nat.add_zero] at c5
   have HR5 : Hid (∀ w4, NRow w3.heap.size w4 (.slice (some ⟨w3.heap.size, 0, none⟩) n n) (List.replicate n 0) → NRow w3.heap.size (w4.setCell ⟨w3.heap.size, s, none⟩ (.int .i64 1)) (.slice (some ⟨w3.heap.size, 0, none⟩) n n) (limL ns most)) := hid (by
    intro w4 hr4
    have h := hr4.lay s 1
    rw [HN.out, ← outP_zero, hs, outP_set ns _ 0 1 hp0, ← hs, ← HN.out] at h
    unfold limL
    rw [← HRL.out, if_pos (by omega), outP_congr ns (fun _ => 1) (fun i => if i = 0 then 1 else 0) (fun i hi => by rw [← HRL.out] at hi; rw [if_pos (show i = 0 by omega)])]
    exact h)
   clear hs hsr hd0 hr0
   have hl1 : 0 < rl := by omega
   clear hr1
   go_wp2_with (at_make; refine wpList_make_e _ natV 0 w3.heap.size 117 3 8 Tryz.underlying117 Tryz.infoN rfl (by decide) rfl _ _ rfl _ _ _ _ n rfl rfl rfl rfl (by omega) (Nat.le_refl _) ?_; intro w4 hr4 hg4 hs4; have HR4 : Hid (NRow w3.heap.size w4 (.slice (some ⟨w3.heap.size, 0, none⟩) n n) (List.replicate n 0)) := hr4; have HK4 : Hid (Same w3 w4) := hid ((Kept.refl _ w3).grown hg4 (by simp)); have c6 := HK4.out.cell c5 (fun h => h); have cy : w4.cell? ⟨w3.heap.size, s, none⟩ = some (.int .i64 0) := (hr4.cell s (by simpa using hsn)).trans (by simp [natV]); have fy := hr4.frozen s; clear hr4 hg4)
   go_ret2
   exact ⟨⟨_, _, _, rfl, RowE.base (HR5.out w4 HR4.out) (Nat.zero_le _), by omega⟩, Same.then (Same.trans HK3.out HK4.out) ((Kept.refl (· = w3.heap.size) w4).setCell ⟨w3.heap.size, s, none⟩ _ (.inl rfl)) (fun x hx e => by omega)⟩
  ·have hd1 : ((rl : Int) == 1) = false := by simp; omega
   have hm2 : 2 ≤ (ris ns).length := by have := HRL.out; omega
   have hns288 : ns.length ≤ 288 := by have := HN.out; omega
   go_wp2_with (at_make; refine wpList_make_e _ natV 0 w3.heap.size 117 3 8 Tryz.underlying117 Tryz.infoN rfl (by decide) rfl _ _ rfl _ _ _ _ n rfl rfl rfl rfl (by omega) (Nat.le_refl _) ?_; intro w4 hr4 hg4 hs4; have HR4 : Hid (NRow w3.heap.size w4 (.slice (some ⟨w3.heap.size, 0, none⟩) n n) (List.replicate n 0)) := hr4; have HK4 : Hid (Same w3 w4) := hid ((Kept.refl _ w3).grown hg4 (by simp)); clear hr4 hg4)
   have HLV := levels_any w4 (.slice a3 rl c3) (.slice av n capv) (fun k => (I k ∧ k < w.heap.size) ∨ (Value.slice a3 rl c3).ownBlock = some k) ns most (SrcE.mono (SrcE.ofRow (HN3.out.same HK4.out)) (fun k h => .inr h)) (SrcE.mono (HS.out.same (Same.trans HK3.out HK4.out)) (fun k h => .inl h))
    (by intro e; rw [e] at hm2; simp at hm2) hns288 HLE.out h1 h15
   refine HLV.mono ?_
   rintro e w5 ⟨⟨gl, capl, vs, rfl, hl5, hlev5, hcl⟩, hk5⟩
   have HLN := lengthen_any w5 ns most w3.heap.size n n gl capl (.slice a3 rl c3) (fun k => (Value.slice a3 rl c3).ownBlock = some k) w4.heap.size w3.heap.size vs (HR4.out.same hk5) HN.out hns288 (SrcE.ofRow ((HN3.out.same HK4.out).same hk5)) (fun k hk e => by
     have h1 := HN3.out.lt hk
     omega) hl5 hlev5 hm2 h1 h15 (by rw [← HRL.out, ← HPW.out]; exact hfit)
   have HK5 : Hid (Same w4 w5) := hk5
   clear hl5 hlev5 hk5 HLV
   go_wp2_with fail
   refine HLN.mono ?_
   rintro e w6 ⟨⟨v6, rfl⟩, hr6, hk6⟩
   have HR6 : Hid (NRow 0 w6 (.slice (some ⟨w3.heap.size, 0, none⟩) n n) (limL ns most)) := hid (by
    unfold limL
    rw [if_neg (by omega)]
    exact hr6)
   have HK6 : Hid (Same w w6) := hid (Same.then (Same.trans HK3.out (Same.trans HK4.out HK5.out)) hk6 (fun x hx e => by omega))
   clear hr6 hk6 HLN
   go_wp2_with fail
   go_ret2
   exact ⟨⟨_, _, _, rfl, HR6.out, by omega⟩, HK6.out⟩

end Go.Proofs.YtljlmfnbeofmmaaGreatDoor
