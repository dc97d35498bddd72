/-
  Of the proof: parts LGet, LGets, ZpA, ZpB, ZpC.
-/
import Derived.RangeFuncBox
import Derived.Laws.BitsAllLaws
import Derived.RangeFuncLeaves
import Derived.Shelf.Abstract
import Derived.WalkKit
import Derived.OwnWalkIn
import Derived.TacticsInMore
import Derived.LoopNIn
import Derived.LoopIn
import Derived.WalkLawsBesides
import Derived.Test.YtljlmfnbeofmmaaGreatDoorJ3
import Derived.Test.YtljlmfnbeofmmaaGreatDoorJ1

namespace Go.Proofs.YtljlmfnbeofmmaaGreatDoor
open Go.RowKit Go.Shelf

attribute [local go_sem] Oper.semAt_some

abbrev Spot := Nat × Fin 256

def spotV (x : Spot) : Array Value := #[.int .i64 (x.1 : Int), .int .u8 (x.2.val : Int)]

def upto (f : Nat → Spot) (k : Nat) : List Spot := (List.range k).map f
theorem upto_succ (f : Nat → Spot) (k : Nat) : upto f (k + 1) = upto f k ++ [f k] := by simp [upto, List.range_succ]
theorem upto_length (f : Nat → Spot) (k : Nat) : (upto f k).length = k := by simp [upto]

def Holds (n₀ B : Nat) (W W' : World) : Prop := Below n₀ W W' ∧ W'.heap[B]? = W.heap[B]?

theorem Holds.trans {n₀ B : Nat} {X Y Z : World} (h : Holds n₀ B X Y) (k : Holds n₀ B Y Z) : Holds n₀ B X Z := ⟨h.1.trans k.1, k.2.trans h.2⟩

theorem Holds.put {n₀ B : Nat} {w : World} (hn : n₀ ≤ w.heap.size) (hB : B < w.heap.size) (W : World) (l : Nat) (o o' : Obj) (hl : w.heap.size ≤ l) (h : W.heap[l]? = some o) (h1 : o.isCells = false) (h2 : o.isWalk = false) : Holds n₀ B W (W.putObj l o') := by
 have hlt := (Array.getElem?_eq_some_iff.1 h).1
 exact ⟨belowK_b hn W l o o' hl h h1 h2, (grownBy_putObj' W l o').block B (by omega) (fun e => by cases e; omega)⟩

theorem Holds.set {n₀ B : Nat} {W : World} (p : Addr) (v : Value) (h1 : n₀ ≤ p.block) (h2 : B ≠ p.block) : Holds n₀ B W (W.setCell p v) :=
 ⟨(Below.refl n₀ W).setCell (p := p) h1 v, Below.heap_setCell _ _ _ _ (fun e => h2 e)⟩

set_option maxRecDepth 100000 in
set_option maxHeartbeats 2000000 in
theorem back1_in (F : Fence) (n : Nat) (h7 : F.fn 245) (hro : F.round = none) (hn : 1 ≤ n) (l Bs n₀ b off len cap : Nat) (f : Nat → Fin 256) (hreach : len ≤ 100000000) (hb : b < n₀) (J Jx : List Spot → World → Prop)
  (hY : ∀ pre x W, J pre W → pre.length < len → YieldAt F (n - 1) Tryz.prog l (spotV x) W fun e W' =>
   (e = .returned (.bool true) ∧ J (pre ++ [x]) W' ∧ Holds n₀ Bs W W') ∨ (e = .returned (.bool false) ∧ Jx (pre ++ [x]) W'))
  (W : World) (hBs : W.cell? ⟨Bs, 0, none⟩ = some (.slice (some ⟨b, off, none⟩) len cap)) (hc : ∀ j, j < len → W.cell? ⟨b, off + j, none⟩ = some (.int .u8 ((f j).val : Int))) (h0 : J [] W) :
  CallsIn F n Tryz.prog 245 #[.func (.yield l) #[] #[], .pointer (some ⟨Bs, 0, none⟩)] W fun e W' => (∃ v, e = .returned v) ∧
   ((∃ ys, ys = upto (fun j => (len - 1 - j, f (len - 1 - j))) len ∧ J ys W') ∨ (∃ pre, (∃ k, k ≤ len ∧ pre = upto (fun j => (len - 1 - j, f (len - 1 - j))) k) ∧ Jx pre W')) := by
 refine callsIn_of_wp Tryz.func245 rfl h7 ?_ hro
 simp only [Tryz.ntmps245, List.size_toArray, List.length_cons, List.length_nil, Nat.reduceAdd, Nat.reduceSub, Array.replicate_succ, Array.replicate_zero, List.push_toArray, List.append_toArray, List.nil_append, List.cons_append]
 gi_wp2
 gi_loopw [3] (fun i wr => ∃ k : Nat, k ≤ len ∧ i = .int .i64 ((len : Int) - 1 - k) ∧ J (upto (fun j => (len - 1 - j, f (len - 1 - j))) k) wr ∧ Holds n₀ Bs W wr)
  (fun i _ => (intOf i + 1).toNat)
 case atStart => exact ⟨0, Nat.zero_le _, by simp, h0, Below.refl _ _, rfl⟩
 case round =>
  obtain ⟨k, hk, rfl, hJs, hnx⟩ := hrel
  have hbs := (World.cell?_of_block (a := ⟨Bs, 0, none⟩) hnx.2).trans hBs
  by_cases hlt : k < len
  ·obtain ⟨m, hm⟩ : ∃ m, m = len - 1 - k := ⟨_, rfl⟩
   have hm2 : (len : Int) - 1 - k = (m : Nat) := by omega
   obtain ⟨fn, tmps, assign, body, hy, hR⟩ := hY _ (m, f m) wr hJs (by rw [upto_length]; exact hlt)
   have hcx : wr.cell? ⟨b, off + m, none⟩ = some (.int .u8 ((f m).val : Int)) := (hnx.1.cell (p := ⟨b, off + m, none⟩) hb).trans (hc m (by omega))
   unfold spotV at hy
   dsimp only at hy
   rw [hm2]
   have hml : m < len := by omega
   have HM : Hid (m = len - 1 - k) := hm
   clear hm hm2
   gi_wp2
   refine hR.mono ?_
   rintro e W3 (⟨rfl, hJ3, hk3⟩ | ⟨rfl, hJx3⟩)
   ·gi_wp2
    go_roundw
    case rel => exact ⟨k + 1, by omega, by have := HM.out; simp; omega, by rw [upto_succ, ← HM.out]; exact hJ3, hnx.trans hk3⟩
    case measure => simp [intOf]
   ·gi_wp2
    refine bodyPost_ret (results_none rfl _ _ _) rfl ?_
    exact ⟨⟨_, rfl⟩, .inr ⟨_, ⟨k + 1, by omega, by rw [upto_succ, ← HM.out]⟩, hJx3⟩⟩
  ·obtain rfl : k = len := by omega
   gi_wp2
   go_end0
   exact ⟨⟨_, rfl⟩, .inl ⟨_, rfl, hJs⟩⟩

set_option maxHeartbeats 1000000 in
theorem backward_in (F : Fence) (n : Nat) (h5 : F.fn 225) (hro : F.round = none) (a : Option Addr) (len cap : Nat) (w : World) :
  CallsIn F n Tryz.prog 225 #[.slice a len cap] w fun e w' => e = .returned (.func (.func 245) #[] #[.pointer (some ⟨w.heap.size, 0, none⟩)]) ∧ w' = w.alloc (.cells #[.slice a len cap] 26) := by
 refine callsIn_of_wp Tryz.func225 rfl h5 ?_ hro
 simp only [Tryz.ntmps225, List.size_toArray, List.length_cons, List.length_nil, Nat.reduceAdd, Nat.reduceSub, Array.replicate_succ, Array.replicate_zero, List.push_toArray, List.append_toArray, List.nil_append, List.cons_append]
 gi_wp2
 go_ret
 exact ⟨rfl, rfl⟩

theorem back_stops (F : Fence) (n : Nat) (h7 : F.fn 245) (hro : F.round = none) (hn : 1 ≤ n) (Bs n₀ b off len cap : Nat) (f : Nat → Fin 256) (hreach : len ≤ 100000000) (w : World) (hBs : Bs < w.heap.size) (hn₀ : n₀ ≤ w.heap.size) (hb : b < n₀)
  (hc : w.cell? ⟨Bs, 0, none⟩ = some (.slice (some ⟨b, off, none⟩) len cap)) (hI : ∀ j, j < len → w.cell? ⟨b, off + j, none⟩ = some (.int .u8 ((f j).val : Int))) :
  SeqStopsK F n Tryz.prog 245 #[.pointer (some ⟨Bs, 0, none⟩)] spotV (Holds n₀ Bs) (fun ys => ys = upto (fun j => (len - 1 - j, f (len - 1 - j))) len)
   (fun pre => ∃ k, k ≤ len ∧ pre = upto (fun j => (len - 1 - j, f (len - 1 - j))) k) len w := fun l J Jx W hW _ _ hY h0 => by
 have hc' := (hW.cell (p := ⟨Bs, 0, none⟩) hBs).trans hc
 exact back1_in F n h7 hro hn l Bs n₀ b off len cap f hreach hb J Jx hY W hc' (fun j hj => (hW.cell (p := ⟨b, off + j, none⟩) (Nat.lt_of_lt_of_le hb hn₀)).trans (hI j hj)) h0

def acc (pre : List Spot) : Nat := pre.foldl (fun v p => v * 256 % 18446744073709551616 + p.2.val) 0
theorem acc_snoc (pre : List Spot) (x : Spot) : acc (pre ++ [x]) = acc pre * 256 % 18446744073709551616 + x.2.val := by simp [acc]

theorem or_low (v x : Nat) (hx : x < 256) : (v * 256 % 18446744073709551616) ||| x = v * 256 % 18446744073709551616 + x := by
 have e : v * 256 % 18446744073709551616 = 2 ^ 8 * (v % 72057594037927936) := by omega
 rw [e, ← Nat.two_pow_add_eq_or_of_lt (i := 8) hx]

theorem acc_lt (pre : List Spot) : acc pre < 18446744073709551616 := by
 rcases List.eq_nil_or_concat pre with rfl | ⟨es, x, e⟩
 ·simp [acc]
 ·subst e
  rw [List.concat_eq_append, acc_snoc]
  have := x.2.isLt
  omega

set_option maxRecDepth 100000 in
set_option maxHeartbeats 2000000 in
theorem get_in (F : Fence) (m : Nat) (h3 : F.fn 197) (h5 : F.fn 225) (h7 : F.fn 245) (hro : F.round = none) (hm : 3 ≤ m) (w : World) (b o len cap at' n : Nat) (f : Nat → Fin 256)
  (hI : ∀ j, j < len → w.cell? ⟨b, o + j, none⟩ = some (.int .u8 ((f j).val : Int))) (hlen : len ≤ 100000000) (hcap : len ≤ cap) (hn : n ≤ 8) (hn0 : 0 < n) (hat : at' + n ≤ len) (hbw : b < w.heap.size) :
  CallsIn F m Tryz.prog 197 #[.slice (some ⟨b, o, none⟩) len cap, .int .i64 (at' : Nat), .int .i64 (n : Nat)] w fun e W' => e = .returned (.tuple #[.int .u64 (acc (upto (fun j => (n - 1 - j, f (at' + (n - 1 - j)))) n) : Nat), .int .i64 0]) ∧ Below w.heap.size w W' := by
 have h1 : 1 ≤ m := by omega
 refine callsIn_of_wp_marks Tryz.func197 rfl h3 ?_ hro
 simp only [Tryz.ntmps197, List.size_toArray, List.length_cons, List.length_nil, Nat.reduceAdd, Nat.reduceSub, Array.replicate_succ, Array.replicate_zero, List.push_toArray, List.append_toArray, List.nil_append, List.cons_append]
 gi_wp2_with (gi_at_call 225; refine (backward_in F (m - 1) h5 hro _ _ _ _).mono ?_; rintro e w' ⟨rfl, rfl⟩)
 have bS := Boxed.new w 124 (.int .u64 0)
 have bN := Boxed.new (w.alloc (.cells #[.int .u64 0] 124)) 26 (.slice (some ⟨b, o + at', none⟩) n (cap - at'))
 rw [World.size_alloc] at bN
 have hB0 : Below w.heap.size w ((w.alloc (.cells #[.int .u64 0] 124)).alloc (.cells #[.slice (some ⟨b, o + at', none⟩) n (cap - at')] 26)) := ((Below.refl _ w).alloc (Nat.le_refl _) _).alloc (by simp) _
 have hI2 : ∀ j, j < n → ((w.alloc (.cells #[.int .u64 0] 124)).alloc (.cells #[.slice (some ⟨b, o + at', none⟩) n (cap - at')] 26)).cell? ⟨b, o + at' + j, none⟩ = some (.int .u8 ((f (at' + j)).val : Int)) := by
  intro j hj
  rw [hB0.cell (p := ⟨b, o + at' + j, none⟩) hbw, Nat.add_assoc]
  exact hI (at' + j) (by omega)
 refine wpIn_rangeFunc_ownG hro h1 (gf := 245) (lb := #[.pointer (some ⟨w.heap.size + 1, 0, none⟩)]) rfl h7 (enters_of Tryz.func245 (by kernel_rfl) rfl)
  (back_stops F (m - 1) h7 hro (by omega) (w.heap.size + 1) w.heap.size b (o + at') n (cap - at') (fun j => f (at' + j)) (by omega) _ (by simp) (by simp; omega) hbw bN.cell hI2) Holds.trans (Holds.put (by simp; omega) (by simp)) (Below.refl _ _) (fun _ => rfl)
  (fun pre W => (W.cell? ⟨w.heap.size, 0, none⟩ = some (.int .u64 (acc pre : Nat)) ∧ W.frozen? ⟨w.heap.size, 0, none⟩ = false) ∧ Below w.heap.size w W)
  (fun _ _ _ => False)
  (OwnFrom.and (Own.from (fun s A B row hs hg hr => ⟨cell_kept hs.1 hg hr, (frozen_kept hs.1 hg hr).trans hs.2⟩) _) (ownFrom_below (Nat.le_refl _) (by simp; omega)))
  (fun _ _ _ _ _ hs _ _ => hs)
  ⟨⟨(bS.alloc _).cell, (bS.alloc _).frozen⟩, hB0⟩
  (fun x => { tmps := #[.slice (some ⟨b, o, none⟩) len cap, .int .i64 (at' : Nat), .int .i64 (n : Nat), undef, undef, undef, .int .u64 0, .int .i64 0, .pointer (some ⟨w.heap.size, 0, none⟩), undef, .int .u8 (x.2.val : Int), .int .i64 (at' : Nat),
   .bool (decide ((at' : Int) < 0)), .bool (decide ((at' : Int) < 0)), .int .i64 (at' : Nat), .slice (some ⟨b, o, none⟩) len cap, .int .i64 (len : Nat), .int .i64 (n : Nat), .int .i64 ((len : Int) - (n : Int)), .bool (decide ((len : Int) - (n : Int) < (at' : Int))),
   .bool (decide ((at' : Int) < 0) || decide ((len : Int) - (n : Int) < (at' : Int))), .slice (some ⟨b, o, none⟩) len cap, .int .i64 (at' : Nat), .int .i64 (at' : Nat), .int .i64 (n : Nat), .int .i64 ((at' : Int) + (n : Int)),
   .slice (some ⟨b, o + at', none⟩) n (cap - at'), .func (.func 245) #[] #[.pointer (some ⟨w.heap.size + 1, 0, none⟩)], .int .i64 (x.1 : Int), .int .u8 (x.2.val : Int), undef, undef, undef, undef, undef, undef], defers := [] }) ?assign ?body ?done ?stop
 case assign =>
  intro l x W K hK
  unfold spotV
  gi_wp2
  exact hK
 case body =>
  rintro l pre x W ⟨⟨hc, hf⟩, hB⟩ _
  have hxl := x.2.isLt
  have hal := acc_lt pre
  obtain ⟨y, hy⟩ : ∃ y, y = x.2.val := ⟨_, rfl⟩
  have HY : Hid (y = x.2.val) := hy
  rw [← hy] at hxl ⊢
  obtain ⟨v, hv⟩ : ∃ v, v = acc pre := ⟨_, rfl⟩
  have HV : Hid (v = acc pre) := hv
  rw [← hv] at hc hal
  clear hy hv
  gi_wp2
  have e : bits .or .u64 (IntKind.u64.wrap ((v : Int) * 256)) (y : Int) = ((acc (pre ++ [x]) : Nat) : Int) := by
   rw [IntKind.wrap_u64]
   have e1 : (v : Int) * 256 % 18446744073709551616 = ((v * 256 % 18446744073709551616 : Nat) : Int) := by omega
   rw [e1, u64_or_nat _ _ (by omega) (by omega), or_low v y hxl, acc_snoc, ← HV.out, ← HY.out]
  rw [e]
  exact ⟨(KeepsOthers.setCell _ _ _).from _, Holds.set _ _ (Nat.le_refl _) (by simp), ⟨World.cell?_setCell_same' _ _ _ (by rw [hc]; rfl), by rw [World.frozen?_setCell]; exact hf⟩, hB.setCell (p := ⟨w.heap.size, 0, none⟩) (Nat.le_refl _) _⟩
 case done =>
  rintro D ys W hD rfl ⟨⟨hc, _⟩, hB⟩ hK
  gi_wp2
  refine ⟨by simp, .inl ⟨_, _, rfl, run_takeDeferred hK, ?_⟩⟩
  exact ⟨_, results_tmp2 rfl _ _ _, rfl, hB.trans (belowK_b (w := w) (Nat.le_refl _) W D _ _ (by simp at hD; omega) hK rfl rfl)⟩
 case stop =>
  rintro D c pre W _ _ h _
  exact h.elim

end Go.Proofs.YtljlmfnbeofmmaaGreatDoor

namespace Go.Proofs.YtljlmfnbeofmmaaGreatDoor
open Go.RowKit Go.Shelf

theorem range_shift (k a : Nat) (g : Nat → Nat) : (List.range (k + 1)).map (fun j => g (a + j)) = g a :: (List.range k).map (fun j => g (a + 1 + j)) := by
 rw [List.range_succ_eq_map]
 simp only [List.map_cons, List.map_map, Nat.add_zero, List.cons.injEq, true_and]
 apply List.map_congr_left
 intro j _
 simp only [Function.comp]
 congr 1
 omega

theorem acc_upto (f : Nat → Fin 256) (a n : Nat) (hn : n ≤ 8) (k : Nat) (hk : k ≤ n) :
  acc (upto (fun j => (n - 1 - j, f (a + (n - 1 - j)))) k) = n256 ((List.range k).map (fun j => (f (a + (n - k) + j)).val)) := by
 induction k with
 | zero => rfl
 | succ k ih =>
  have e := range_shift k (a + (n - (k + 1))) (fun j => (f j).val)
  rw [upto_succ, acc_snoc, ih (by omega), e, n256]
  have hlt : n256 ((List.range k).map (fun j => (f (a + (n - k) + j)).val)) < 256 ^ ((List.range k).map (fun j => (f (a + (n - k) + j)).val)).length := by
   apply n256_lt
   intro b hb
   obtain ⟨j, _, rfl⟩ := List.mem_map.1 hb
   exact (f _).isLt
  rw [List.length_map, List.length_range] at hlt
  have hpow : (256 : Nat) ^ k ≤ 256 ^ 7 := Nat.pow_le_pow_right (by omega) (by omega)
  have h7 : (256 : Nat) ^ 7 = 72057594037927936 := by decide
  have e1 : a + (n - (k + 1)) + 1 = a + (n - k) := by omega
  have e2 : a + (n - 1 - k) = a + (n - (k + 1)) := by omega
  rw [e1]
  show n256 _ * 256 % 18446744073709551616 + (f (a + (n - 1 - k))).val = _
  rw [e2]
  omega

def byteAt (cs : List Nat) (j : Nat) : Fin 256 := ⟨cs[j]?.getD 0 % 256, Nat.mod_lt _ (by decide)⟩

theorem byteAt_get (cs : List Nat) (hb : ∀ b ∈ cs, b < 256) (j : Nat) (hj : j < cs.length) : (byteAt cs j).val = cs[j] := by
 simp only [byteAt, List.getElem?_eq_getElem hj, Option.getD_some]
 exact Nat.mod_eq_of_lt (hb _ (List.getElem_mem hj))

theorem bytes_part (cs : List Nat) (hb : ∀ b ∈ cs, b < 256) (a n : Nat) (h : a + n ≤ cs.length) : (List.range n).map (fun j => (byteAt cs (a + j)).val) = (cs.drop a).take n := by
 apply List.ext_getElem
 ·simp; omega
 ·intro i h1 h2
  simp only [List.length_map, List.length_range] at h1
  simp only [List.getElem_map, List.getElem_range, List.getElem_take, List.getElem_drop]
  exact byteAt_get cs hb _ (by omega)

theorem get_good (w : World) (v : Value) (I : Nat → Prop) (cs : List Nat) (hsrc : Src w I v cs) (hroom : ∀ a n c, v = .slice a n c → n ≤ c) (hb : ∀ b ∈ cs, b < 256) (hlen : cs.length ≤ 100000000) (a n : Nat) (hn : n ≤ 8) (hn0 : 0 < n) (h : a + n ≤ cs.length) :
  Calls Tryz.prog 197 #[v, .int .i64 (a : Nat), .int .i64 (n : Nat)] w fun e w' => e = .returned (.tuple #[.int .u64 (bytN cs a n : Nat), .int .i64 0]) ∧ Below w.heap.size w w' := by
 obtain ⟨ao, cap, rfl, hsa⟩ := hsrc
 obtain ⟨b, o, rfl, _, hcb⟩ := hsa (by intro e; rw [e] at h; simp at h; omega)
 have hbw : b < w.heap.size := World.block_lt_of_cell? w _ (hcb a (by omega))
 refine (callsIn_wide (n := 3)).1 ?_
 refine (get_in Fence.wide 3 trivial trivial trivial rfl (by omega) w b o cs.length cap a n (byteAt cs) (fun j hj => by rw [byteAt_get cs hb j hj]; exact hcb j hj) hlen (hroom _ _ _ rfl) hn hn0 h hbw).mono ?_
 rintro e w' ⟨rfl, hbel⟩
 have e1 := acc_upto (byteAt cs) a n hn n (Nat.le_refl _)
 rw [Nat.sub_self, Nat.add_zero, bytes_part cs hb a n h] at e1
 refine ⟨?_, hbel⟩
 rw [e1]
 rfl

set_option maxHeartbeats 1000000 in
theorem get_bad (w : World) (ao : Option Addr) (len cap n : Nat) (z : Int) (hn : n ≤ 8) (hlen : len ≤ 100000000) (h : z < 0 ∨ (len : Int) - (n : Int) < z) :
  Calls Tryz.prog 197 #[.slice ao len cap, .int .i64 z, .int .i64 (n : Nat)] w fun e w' => e = .returned (.tuple #[.int .u64 0, .int .i64 20]) ∧ w' = w := by
 by_cases h0 : z < 0
 ·have hd1 : decide (z < 0) = true := by simpa using h0
  clear h
  go_enter Tryz.func197, Tryz.ntmps197
  go_wp2_with fail
  go_ret2
  exact ⟨rfl, rfl⟩
 ·have hd1 : decide (z < 0) = false := by simpa using h0
  have hd2 : decide ((len : Int) - (n : Int) < z) = true := by simp; omega
  clear h
  go_enter Tryz.func197, Tryz.ntmps197
  go_wp2_with fail
  go_ret2
  exact ⟨rfl, rfl⟩

def gotV (cs : List Nat) (z : Int) (n : Nat) : Nat := if 0 ≤ z ∧ z + n ≤ cs.length then bytN cs z.toNat n else 0
def gotE (len : Nat) (z : Int) (n : Nat) : Int := if 0 ≤ z ∧ z + n ≤ len then 0 else 20

theorem gotV_lt (cs : List Nat) (hb : ∀ b ∈ cs, b < 256) (z : Int) (n : Nat) : gotV cs z n < 256 ^ n := by
 unfold gotV
 split
 ·exact bytN_lt cs hb _ n
 ·exact Nat.pow_pos (by omega)

theorem get_any (w : World) (v : Value) (I : Nat → Prop) (cs : List Nat) (hsrc : Src w I v cs) (hroom : ∀ a n c, v = .slice a n c → n ≤ c) (hb : ∀ b ∈ cs, b < 256) (hlen : cs.length ≤ 100000000) (z : Int) (n : Nat) (hn : n ≤ 8) (hn0 : 0 < n) :
  Calls Tryz.prog 197 #[v, .int .i64 z, .int .i64 (n : Nat)] w fun e w' => e = .returned (.tuple #[.int .u64 (gotV cs z n : Nat), .int .i64 (gotE cs.length z n)]) ∧ Below w.heap.size w w' := by
 by_cases h : 0 ≤ z ∧ z + n ≤ cs.length
 ·obtain ⟨a, rfl⟩ : ∃ a : Nat, z = a := ⟨z.toNat, by omega⟩
  refine (get_good w v I cs hsrc hroom hb hlen a n hn hn0 (by omega)).mono ?_
  rintro e w' ⟨rfl, hbel⟩
  simp only [gotV, gotE, if_pos h]
  exact ⟨rfl, hbel⟩
 ·obtain ⟨ao, cap, rfl, _⟩ := hsrc
  refine (get_bad w ao cs.length cap n z hn hlen (by omega)).mono ?_
  rintro e w' ⟨rfl, rfl⟩
  simp only [gotV, gotE, if_neg h]
  exact ⟨rfl, Below.refl _ _⟩

set_option maxHeartbeats 400000 in
theorem get16_any (w : World) (v : Value) (I : Nat → Prop) (cs : List Nat) (hsrc : Src w I v cs) (hroom : ∀ a n c, v = .slice a n c → n ≤ c) (hb : ∀ b ∈ cs, b < 256) (hlen : cs.length ≤ 100000000) (z : Int) :
  Calls Tryz.prog 165 #[v, .int .i64 z] w fun e w' => e = .returned (.tuple #[.int .u16 (gotV cs z 2 : Nat), .int .i64 (gotE cs.length z 2)]) ∧ Below w.heap.size w w' := by
 have HC := get_any w v I cs hsrc hroom hb hlen z 2 (by omega) (by omega)
 have hV := gotV_lt cs hb z 2
 obtain ⟨V, hVV⟩ : ∃ V, V = gotV cs z 2 := ⟨_, rfl⟩
 obtain ⟨E, hEE⟩ : ∃ E, E = gotE cs.length z 2 := ⟨_, rfl⟩
 rw [← hVV, ← hEE]
 rw [← hVV, ← hEE] at HC
 rw [← hVV] at hV
 have hV2 : V < 65536 := hV
 clear hV hVV hEE
 go_enter Tryz.func165, Tryz.ntmps165
 go_wp2_with fail
 refine HC.mono ?_
 rintro e w' ⟨rfl, hbel⟩
 go_wp2_with fail
 go_ret2
 exact ⟨by congr 4, hbel⟩

set_option maxHeartbeats 400000 in
theorem get32_any (w : World) (v : Value) (I : Nat → Prop) (cs : List Nat) (hsrc : Src w I v cs) (hroom : ∀ a n c, v = .slice a n c → n ≤ c) (hb : ∀ b ∈ cs, b < 256) (hlen : cs.length ≤ 100000000) (z : Int) :
  Calls Tryz.prog 166 #[v, .int .i64 z] w fun e w' => e = .returned (.tuple #[.int .u32 (gotV cs z 4 : Nat), .int .i64 (gotE cs.length z 4)]) ∧ Below w.heap.size w w' := by
 have HC := get_any w v I cs hsrc hroom hb hlen z 4 (by omega) (by omega)
 have hV := gotV_lt cs hb z 4
 obtain ⟨V, hVV⟩ : ∃ V, V = gotV cs z 4 := ⟨_, rfl⟩
 obtain ⟨E, hEE⟩ : ∃ E, E = gotE cs.length z 4 := ⟨_, rfl⟩
 rw [← hVV, ← hEE]
 rw [← hVV, ← hEE] at HC
 rw [← hVV] at hV
 have hV2 : V < 4294967296 := hV
 clear hV hVV hEE
 go_enter Tryz.func166, Tryz.ntmps166
 go_wp2_with fail
 refine HC.mono ?_
 rintro e w' ⟨rfl, hbel⟩
 go_wp2_with fail
 go_ret2
 exact ⟨by congr 4, hbel⟩

end Go.Proofs.YtljlmfnbeofmmaaGreatDoor

namespace Go.Proofs.YtljlmfnbeofmmaaGreatDoor
open Go.RowKit

def pan8 (e : Nat) : Ending := .panicked [{ v := .iface 27 (.int .i64 (e : Nat)), recovered := false }]

set_option maxHeartbeats 400000 in
theorem need_ok (w : World) (z : Value) : Calls Tryz.prog 58 #[.bool true, z] w fun e w' => e = .returned (.tuple #[]) ∧ w' = w := by
 go_enter Tryz.func58, Tryz.ntmps58
 go_wp2_with fail
 go_end0
 exact ⟨rfl, rfl⟩

set_option maxHeartbeats 400000 in
theorem need_bad (w : World) (n : Nat) : Calls Tryz.prog 58 #[.bool false, .int .i64 (n : Nat)] w fun e w' => e = pan8 n ∧ w' = w := by
 go_enter Tryz.func58, Tryz.ntmps58
 go_wp2_with fail
 exact ⟨rfl, rfl, rfl⟩

structure Cur (N : Nat) (w : World) (c : Nat) (r : List Nat) (a : Option Addr) (cap : Nat) : Prop where
 blk : Blk w c #[.slice a r.length cap] 129
 src : Src w (fun k => k < N) (.slice a r.length cap) r
 room : r.length ≤ cap
 new : N ≤ c
 byte : ∀ b ∈ r, b < 256
 len : r.length ≤ 2000000
 adr : a ≠ none

theorem Cur.kept {F : Nat → Prop} {N : Nat} {w w' : World} {c : Nat} {r : List Nat} {a : Option Addr} {cap : Nat} (h : Cur N w c r a cap) (hk : Kept F w w') (h1 : ¬ F c) (h2 : ∀ k, k < N → ¬ F k) : Cur N w' c r a cap :=
 ⟨h.blk.kept hk h1, h.src.kept hk (fun k hk _ => h2 k hk), h.room, h.new, h.byte, h.len, h.adr⟩

structure Tkn (N : Nat) (w : World) (v : Value) (n : Nat) (x : List Nat) : Prop where
 src : Src w (fun k => k < N) v x
 room : ∀ a m c, v = .slice a m c → m ≤ c
 len : x.length = n
 byte : ∀ b ∈ x, b < 256
 shp : ∃ a c, v = .slice a n c
 adr : ∀ m c, v ≠ .slice none m c

theorem Tkn.kept {F : Nat → Prop} {N : Nat} {w w' : World} {v : Value} {n : Nat} {x : List Nat} (h : Tkn N w v n x) (hk : Kept F w w') (h2 : ∀ k, k < N → ¬ F k) : Tkn N w' v n x := ⟨h.src.kept hk (fun k hk _ => h2 k hk), h.room, h.len, h.byte, h.shp, h.adr⟩

theorem tk8_some {n : Nat} {r x y : List Nat} (h : tk8 n r = some (x, y)) : n ≤ r.length ∧ x = r.take n ∧ y = r.drop n := by
 unfold tk8 at h
 split at h
 ·simp only [Option.some.injEq, Prod.mk.injEq] at h
  exact ⟨by assumption, h.1.symm, h.2.symm⟩
 ·cases h

theorem tk8_none {n : Nat} {r : List Nat} (h : tk8 n r = none) : r.length < n := by
 unfold tk8 at h
 split at h
 ·cases h
 ·omega

theorem Src.head8 {w : World} {I : Nat → Prop} {a : Option Addr} {n cap : Nat} {bs : List Nat} (h : Src w I (.slice a bs.length cap) bs) (hn : n ≤ bs.length) (c' : Nat) : Src w I (.slice a n c') (bs.take n) := by
 obtain ⟨ao, c, e, hs⟩ := h
 simp only [Value.slice.injEq] at e
 obtain ⟨rfl, _, rfl⟩ := e
 refine ⟨a, c', by rw [List.length_take, Nat.min_eq_left hn], fun hne => ?_⟩
 obtain ⟨b, o, h1, h2, h3⟩ := hs (fun e => hne (by rw [e]; simp))
 refine ⟨b, o, h1, h2, fun j hj => ?_⟩
 rw [List.length_take] at hj
 rw [h3 j (by omega), List.getElem_take]

theorem Src.tail8 {w : World} {I : Nat → Prop} {a a' : Option Addr} {n cap c' : Nat} {bs : List Nat} (h : Src w I (.slice a bs.length cap) bs) (hn : n ≤ bs.length) (ha : n < bs.length → ∃ b o, a = some ⟨b, o, none⟩ ∧ a' = some ⟨b, o + n, none⟩) : Src w I (.slice a' (bs.length - n) c') (bs.drop n) := by
 obtain ⟨ao, c, e, hs⟩ := h
 simp only [Value.slice.injEq] at e
 obtain ⟨rfl, _, rfl⟩ := e
 refine ⟨a', c', by rw [List.length_drop], fun hne => ?_⟩
 have hlt : n < bs.length := by
  refine Classical.byContradiction (fun hc => hne ?_)
  exact List.drop_eq_nil_of_le (by omega)
 obtain ⟨b, o, h1, h2, h3⟩ := hs (fun e => by rw [e] at hlt; simp at hlt)
 obtain ⟨b', o', h4, h5⟩ := ha hlt
 rw [h1] at h4
 simp only [Option.some.injEq, Addr.mk.injEq, and_true] at h4
 obtain ⟨rfl, rfl⟩ := h4
 refine ⟨b, o + n, h5, h2, fun j hj => ?_⟩
 rw [List.length_drop] at hj
 have := h3 (n + j) (by omega)
 rw [← Nat.add_assoc] at this
 rw [this, List.getElem_drop]

def TakZ (N : Nat) (w w' : World) (c n : Nat) (r : List Nat) (e : Ending) : Prop :=
 (∀ x y, tk8 n r = some (x, y) → ∃ v a' cap', e = .returned v ∧ Tkn N w' v n x ∧ Cur N w' c y a' cap' ∧ Kept (· = c) w w') ∧ (tk8 n r = none → e = pan8 81 ∧ Same w w')

theorem TakZ.good {N : Nat} {w w' : World} {c n : Nat} {r x y : List Nat} {e : Ending} (ht : tk8 n r = some (x, y)) {v : Value} {a' : Option Addr} {cap' : Nat} (he : e = .returned v) (h1 : Tkn N w' v n x) (h2 : Cur N w' c y a' cap') (h3 : Kept (· = c) w w') : TakZ N w w' c n r e :=
 ⟨fun x' y' h => by rw [ht] at h; simp only [Option.some.injEq, Prod.mk.injEq] at h; obtain ⟨rfl, rfl⟩ := h; exact ⟨v, a', cap', he, h1, h2, h3⟩, fun h => by rw [ht] at h; cases h⟩

theorem TakZ.bad {N : Nat} {w w' : World} {c n : Nat} {r : List Nat} {e : Ending} (ht : tk8 n r = none) (he : e = pan8 81) (h3 : Same w w') : TakZ N w w' c n r e :=
 ⟨fun x' y' h => (by rw [ht] at h; cases h), fun _ => ⟨he, h3⟩⟩

theorem Cur.cut {N : Nat} {w : World} {c : Nat} {r : List Nat} {a a' : Option Addr} {cap n : Nat} (h : Cur N w c r a cap) (hn : n ≤ r.length) (ha : n < r.length → ∃ b o, a = some ⟨b, o, none⟩ ∧ a' = some ⟨b, o + n, none⟩) (ha' : a' ≠ none) (u : Value) (hu : u = .slice a' (r.length - n) (cap - n)) : Tkn N (w.setCell ⟨c, 0, none⟩ u) (.slice a n cap) n (r.take n) ∧ Cur N (w.setCell ⟨c, 0, none⟩ u) c (r.drop n) a' (cap - n) ∧ Kept (· = c) w (w.setCell ⟨c, 0, none⟩ u) := by
 have hk : Kept (· = c) w (w.setCell ⟨c, 0, none⟩ u) := (Kept.refl (· = c) w).setCell _ _ (.inl rfl)
 have hN := h.new
 have hr := h.room
 refine ⟨⟨(h.src.head8 hn cap).kept hk (fun k h1 _ e => by omega), fun a9 m9 c9 e9 => by simp only [Value.slice.injEq] at e9; omega, by rw [List.length_take, Nat.min_eq_left hn], fun b hb => h.byte b (List.mem_of_mem_take hb), ⟨a, cap, rfl⟩, fun m c e => h.adr (by simp only [Value.slice.injEq] at e; exact e.1)⟩, ⟨?_, ?_, by rw [List.length_drop]; omega, hN, fun b hb => h.byte b (List.mem_of_mem_drop hb), by have := h.len; rw [List.length_drop]; omega, ha'⟩, hk⟩
 ·have := h.blk.set 0 u
  rw [List.length_drop, ← hu]
  simpa using this
 ·have h9 := h.src.tail8 (a' := a') (c' := cap - n) hn ha
  rw [List.length_drop]
  exact h9.kept hk (fun k h1 _ e => by omega)

set_option maxRecDepth 100000 in
set_option maxHeartbeats 400000 in
theorem take_any (N : Nat) (w : World) (c : Nat) (r : List Nat) (a : Option Addr) (cap n : Nat) (h : Cur N w c r a cap) (hn : n ≤ 2000000) :
  Calls Tryz.prog 136 #[.pointer (some ⟨c, 0, none⟩), .int .i64 (n : Nat)] w fun e w' => TakZ N w w' c n r e := by
 have c0 := h.blk.cell 0
 have z0 := h.blk.frozen 0
 simp at c0
 have HC : Hid (Cur N w c r a cap) := h
 obtain ⟨L, hL⟩ : ∃ L, L = r.length := ⟨_, rfl⟩
 have HLr : Hid (L = r.length) := hL
 have hL2 : L ≤ 2000000 := by have := h.len; omega
 have hLc : L ≤ cap := by have := h.room; omega
 rw [← hL] at c0
 clear h
 cases ht : tk8 n r with
 | none =>
  have HTK : Hid (tk8 n r = none) := ht
  have hlt := tk8_none ht
  have b2 : decide (n ≤ L) = false := by simp; omega
  have HB := need_bad w 81
  clear hlt ht hL
  go_enter Tryz.func136, Tryz.ntmps136
  go_wp2_with fail
  refine HB.mono ?_
  rintro e w1 ⟨rfl, hw1⟩
  subst hw1
  unfold pan8
  go_wp2_with fail
  exact ⟨rfl, TakZ.bad HTK.out rfl (Kept.refl _ _)⟩
 | some p =>
  obtain ⟨x, y⟩ := p
  have HTK : Hid (tk8 n r = some (x, y)) := ht
  obtain ⟨hle, hx, hy⟩ := tk8_some ht
  have HXY : Hid (n ≤ r.length ∧ x = r.take n ∧ y = r.drop n) := hid ⟨hle, hx, hy⟩
  have b2 : decide (n ≤ L) = true := by simp; omega
  have HOK := need_ok w (.int .i64 81)
  have hnc : n ≤ cap := by omega
  have i1 : (0 : Int) ≤ (n : Int) := by omega
  have i2 : (n : Int) ≤ (cap : Int) := by omega
  have i3 : (n : Int) ≤ (L : Int) := by omega
  have i4 : (L : Int) ≤ (cap : Int) := by omega
  have HAD : Hid (n < r.length → ∃ b o, a = some ⟨b, o, none⟩) := hid (fun h8 => by
   obtain ⟨ao, co, e9, h9⟩ := HC.out.src
   simp only [Value.slice.injEq] at e9
   obtain ⟨b, o, h1, _⟩ := h9 (fun e => by rw [e] at h8; simp at h8)
   exact ⟨b, o, by rw [e9.1]; exact h1⟩)
  clear ht hL hle hx hy
  by_cases hcn : cap = n
  ·obtain rfl : L = n := by omega
   subst hcn
   go_enter Tryz.func136, Tryz.ntmps136
   go_wp2_with fail
   refine HOK.mono ?_
   rintro e w1 ⟨rfl, hw1⟩
   subst hw1
   clear HOK
   go_wp2_with fail
   go_ret
   have hlr := HLr.out
   obtain ⟨h1, h2, h3⟩ := HC.out.cut (n := cap) (a' := a) HXY.out.1 (fun h8 => by omega) HC.out.adr (.slice a 0 0) (by rw [← hlr]; simp)
   exact TakZ.good HTK.out rfl (by rw [HXY.out.2.1]; exact h1) (by rw [HXY.out.2.2]; exact h2) h3
  ·go_enter Tryz.func136, Tryz.ntmps136
   go_wp2_with fail
   refine HOK.mono ?_
   rintro e w1 ⟨rfl, hw1⟩
   subst hw1
   clear HOK
   go_wp2_with fail
   go_ret
   have hlr := HLr.out
   obtain ⟨h1, h2, h3⟩ := HC.out.cut (n := n) (a' := a.map (Addr.add · n)) HXY.out.1 (fun h8 => by obtain ⟨b9, o9, hab⟩ := HAD.out h8; exact ⟨b9, o9, hab, by rw [hab]; simp [addAt]⟩) (fun e => HC.out.adr (by cases h9 : a with | none => rfl | some x => rw [h9] at e; cases e)) (.slice (a.map (Addr.add · n)) (L - n) (cap - n)) (by rw [← hlr])
   exact TakZ.good HTK.out rfl (by rw [HXY.out.2.1]; exact h1) (by rw [HXY.out.2.2]; exact h2) h3

end Go.Proofs.YtljlmfnbeofmmaaGreatDoor

namespace Go.Proofs.YtljlmfnbeofmmaaGreatDoor
open Go.RowKit

theorem below_same {w w' : World} (h : Below w.heap.size w w') : Same w w' := ⟨h.os, h.tape, h.output, h.size, fun k hk _ => h.block k hk⟩

def NumZ (N : Nat) (w w' : World) (c n : Nat) (k : IntKind) (r : List Nat) (e : Ending) : Prop :=
 (∀ x y, nm8 n r = some (x, y) → ∃ a' cap', e = .returned (.int k (x : Nat)) ∧ x < 256 ^ n ∧ Cur N w' c y a' cap' ∧ Kept (· = c) w w') ∧ (nm8 n r = none → e = pan8 81 ∧ Same w w')

theorem NumZ.good {N : Nat} {w w' : World} {c n x : Nat} {k : IntKind} {r y : List Nat} {e : Ending} (ht : nm8 n r = some (x, y)) {a' : Option Addr} {cap' : Nat} (he : e = .returned (.int k (x : Nat))) (h1 : x < 256 ^ n) (h2 : Cur N w' c y a' cap') (h3 : Kept (· = c) w w') : NumZ N w w' c n k r e :=
 ⟨fun x' y' h => by rw [ht] at h; simp only [Option.some.injEq, Prod.mk.injEq] at h; obtain ⟨rfl, rfl⟩ := h; exact ⟨a', cap', he, h1, h2, h3⟩, fun h => by rw [ht] at h; cases h⟩

theorem NumZ.bad {N : Nat} {w w' : World} {c n : Nat} {k : IntKind} {r : List Nat} {e : Ending} (ht : nm8 n r = none) (he : e = pan8 81) (h3 : Same w w') : NumZ N w w' c n k r e :=
 ⟨fun x' y' h => (by rw [ht] at h; cases h), fun _ => ⟨he, h3⟩⟩

theorem nm8_of {n : Nat} {r x y : List Nat} (h : tk8 n r = some (x, y)) : nm8 n r = some (n256 x, y) := by unfold nm8; rw [h]
theorem nm8_no {n : Nat} {r : List Nat} (h : tk8 n r = none) : nm8 n r = none := by unfold nm8; rw [h]

theorem gotV_all (x : List Nat) (n : Nat) (h : x.length = n) : gotV x 0 n = n256 x := by
 unfold gotV bytN
 rw [if_pos (by omega)]
 simp only [Int.toNat_zero, List.drop_zero]
 rw [List.take_of_length_le (by omega)]

set_option maxRecDepth 100000 in
set_option maxHeartbeats 400000 in
theorem two_any (N : Nat) (w : World) (c : Nat) (r : List Nat) (a : Option Addr) (cap : Nat) (h : Cur N w c r a cap) :
  Calls Tryz.prog 134 #[.pointer (some ⟨c, 0, none⟩)] w fun e w' => NumZ N w w' c 2 .u16 r e := by
 have HT := take_any N w c r a cap 2 h (by decide)
 have HN : Hid (N ≤ c) := hid h.new
 cases ht : tk8 2 r with
 | none =>
  have HB : Hid (tk8 2 r = none) := ht
  clear h ht
  go_enter Tryz.func134, Tryz.ntmps134
  go_wp2_with fail
  refine HT.mono ?_
  intro e w1 h1
  obtain ⟨rfl, hk⟩ := h1.2 HB.out
  have HK : Hid (Same w w1) := hk
  clear h1 hk HT
  unfold pan8
  go_wp2_with fail
  exact ⟨rfl, NumZ.bad (nm8_no HB.out) rfl HK.out⟩
 | some p =>
  obtain ⟨x, y⟩ := p
  have HB : Hid (tk8 2 r = some (x, y)) := ht
  clear h ht
  go_enter Tryz.func134, Tryz.ntmps134
  go_wp2_with fail
  refine HT.mono ?_
  intro e w1 h1
  obtain ⟨v, a', cap', rfl, htk, hcu, hk⟩ := h1.1 x y HB.out
  have HTK : Hid (Tkn N w1 v 2 x) := htk
  have HCU : Hid (Cur N w1 c y a' cap') := hcu
  have HK : Hid (Kept (· = c) w w1) := hk
  have HG := get16_any w1 v _ x htk.src htk.room htk.byte (by rw [htk.len]; decide) 0
  rw [gotV_all x 2 htk.len] at HG
  obtain ⟨V, hV⟩ : ∃ V, V = n256 x := ⟨_, rfl⟩
  have HV : Hid (V = n256 x ∧ V < 256 ^ 2) := hid ⟨hV, by rw [hV, ← htk.len]; exact n256_lt x htk.byte⟩
  rw [← hV] at HG
  obtain ⟨E, hE⟩ : ∃ E, E = gotE x.length 0 2 := ⟨_, rfl⟩
  rw [← hE] at HG
  obtain ⟨va, vc, hvs⟩ := htk.shp
  subst hvs
  clear h1 htk hcu hk HT hV hE
  go_wp2_with fail
  refine HG.mono ?_
  rintro e w2 ⟨rfl, hb2⟩
  have HK2 : Hid (Same w1 w2) := hid (below_same hb2)
  clear hb2 HG
  go_wp2_with fail
  go_ret
  exact NumZ.good (nm8_of HB.out) (by rw [← HV.out.1]; rfl) (by rw [← HV.out.1]; exact HV.out.2) (HCU.out.kept HK2.out (fun f => f) (fun _ _ f => f)) (Kept.trans HK.out HK2.out (fun _ _ e => e) (fun _ _ f => f.elim))

set_option maxRecDepth 100000 in
set_option maxHeartbeats 400000 in
theorem four_any (N : Nat) (w : World) (c : Nat) (r : List Nat) (a : Option Addr) (cap : Nat) (h : Cur N w c r a cap) :
  Calls Tryz.prog 135 #[.pointer (some ⟨c, 0, none⟩)] w fun e w' => NumZ N w w' c 4 .u32 r e := by
 have HT := take_any N w c r a cap 4 h (by decide)
 have HN : Hid (N ≤ c) := hid h.new
 cases ht : tk8 4 r with
 | none =>
  have HB : Hid (tk8 4 r = none) := ht
  clear h ht
  go_enter Tryz.func135, Tryz.ntmps135
  go_wp2_with fail
  refine HT.mono ?_
  intro e w1 h1
  obtain ⟨rfl, hk⟩ := h1.2 HB.out
  have HK : Hid (Same w w1) := hk
  clear h1 hk HT
  unfold pan8
  go_wp2_with fail
  exact ⟨rfl, NumZ.bad (nm8_no HB.out) rfl HK.out⟩
 | some p =>
  obtain ⟨x, y⟩ := p
  have HB : Hid (tk8 4 r = some (x, y)) := ht
  clear h ht
  go_enter Tryz.func135, Tryz.ntmps135
  go_wp2_with fail
  refine HT.mono ?_
  intro e w1 h1
  obtain ⟨v, a', cap', rfl, htk, hcu, hk⟩ := h1.1 x y HB.out
  have HTK : Hid (Tkn N w1 v 4 x) := htk
  have HCU : Hid (Cur N w1 c y a' cap') := hcu
  have HK : Hid (Kept (· = c) w w1) := hk
  have HG := get32_any w1 v _ x htk.src htk.room htk.byte (by rw [htk.len]; decide) 0
  rw [gotV_all x 4 htk.len] at HG
  obtain ⟨V, hV⟩ : ∃ V, V = n256 x := ⟨_, rfl⟩
  have HV : Hid (V = n256 x ∧ V < 256 ^ 4) := hid ⟨hV, by rw [hV, ← htk.len]; exact n256_lt x htk.byte⟩
  rw [← hV] at HG
  obtain ⟨E, hE⟩ : ∃ E, E = gotE x.length 0 4 := ⟨_, rfl⟩
  rw [← hE] at HG
  obtain ⟨va, vc, hvs⟩ := htk.shp
  subst hvs
  clear h1 htk hcu hk HT hV hE
  go_wp2_with fail
  refine HG.mono ?_
  rintro e w2 ⟨rfl, hb2⟩
  have HK2 : Hid (Same w1 w2) := hid (below_same hb2)
  clear hb2 HG
  go_wp2_with fail
  go_ret
  exact NumZ.good (nm8_of HB.out) (by rw [← HV.out.1]; rfl) (by rw [← HV.out.1]; exact HV.out.2) (HCU.out.kept HK2.out (fun f => f) (fun _ _ f => f)) (Kept.trans HK.out HK2.out (fun _ _ e => e) (fun _ _ f => f.elim))

end Go.Proofs.YtljlmfnbeofmmaaGreatDoor

namespace Go.Proofs.YtljlmfnbeofmmaaGreatDoor
open Go.RowKit

def ExpZ (N : Nat) (w w' : World) (c : Nat) (o : Option (List Nat)) (e : Ending) : Prop :=
 (∀ y, o = some y → ∃ a' cap', e = .returned (.tuple #[]) ∧ Cur N w' c y a' cap' ∧ Kept (· = c) w w') ∧ (o = none → e = pan8 81 ∧ Kept (· = c) w w')

theorem ExpZ.good {N : Nat} {w w' : World} {c : Nat} {o : Option (List Nat)} {y : List Nat} {e : Ending} (ht : o = some y) {a' : Option Addr} {cap' : Nat} (he : e = .returned (.tuple #[])) (h2 : Cur N w' c y a' cap') (h3 : Kept (· = c) w w') : ExpZ N w w' c o e :=
 ⟨fun y' h => by rw [ht] at h; simp only [Option.some.injEq] at h; subst h; exact ⟨a', cap', he, h2, h3⟩, fun h => by rw [ht] at h; cases h⟩

theorem ExpZ.bad {N : Nat} {w w' : World} {c : Nat} {o : Option (List Nat)} {e : Ending} (ht : o = none) (he : e = pan8 81) (h3 : Kept (· = c) w w') : ExpZ N w w' c o e :=
 ⟨fun y' h => (by rw [ht] at h; cases h), fun _ => ⟨he, h3⟩⟩

theorem ex8_of {n v x : Nat} {r y : List Nat} (h : nm8 n r = some (x, y)) : ex8 n v r = if x = v then some y else none := by unfold ex8; rw [h]
theorem ex8_no {n v : Nat} {r : List Nat} (h : nm8 n r = none) : ex8 n v r = none := by unfold ex8; rw [h]

theorem Same.k8 {c : Nat} {w w' : World} (h : Same w w') : Kept (· = c) w w' := h.mono (fun _ _ f => f.elim)
theorem Kept.k8 {c : Nat} {a b d : World} (h : Kept (· = c) a b) (k : Kept (· = c) b d) : Kept (· = c) a d := Kept.trans h k (fun _ _ e => e) (fun _ _ e => e)

set_option maxRecDepth 100000 in
set_option maxHeartbeats 400000 in
theorem exp32_any (N : Nat) (w : World) (c : Nat) (r : List Nat) (a : Option Addr) (cap v : Nat) (h : Cur N w c r a cap) (hv : v < 4294967296) :
  Calls Tryz.prog 132 #[.pointer (some ⟨c, 0, none⟩), .int .u32 (v : Nat)] w fun e w' => ExpZ N w w' c (ex8 4 v r) e := by
 have HF := four_any N w c r a cap h
 cases ht : nm8 4 r with
 | none =>
  have HB : Hid (nm8 4 r = none) := ht
  clear h ht
  go_enter Tryz.func132, Tryz.ntmps132
  go_wp2_with fail
  refine HF.mono ?_
  intro e w1 h1
  obtain ⟨rfl, hk⟩ := h1.2 HB.out
  have HK : Hid (Same w w1) := hk
  clear h1 hk HF
  unfold pan8
  go_wp2_with fail
  exact ⟨rfl, ExpZ.bad (ex8_no HB.out) rfl HK.out.k8⟩
 | some p =>
  obtain ⟨x, y⟩ := p
  have HB : Hid (nm8 4 r = some (x, y)) := ht
  clear h ht
  by_cases hx : x = v
  ·subst hx
   go_enter Tryz.func132, Tryz.ntmps132
   go_wp2_with fail
   refine HF.mono ?_
   intro e w1 h1
   obtain ⟨a', cap', rfl, hx4, hcu, hk⟩ := h1.1 x y HB.out
   have HCU : Hid (Cur N w1 c y a' cap') := hcu
   have HK : Hid (Kept (· = c) w w1) := hk
   have HO := need_ok w1 (.int .i64 81)
   clear h1 hcu hk HF hx4
   go_wp2_with fail
   refine HO.mono ?_
   rintro e w2 ⟨rfl, hw2⟩
   subst hw2
   clear HO
   go_wp2_with fail
   go_end0
   exact ExpZ.good (by rw [ex8_of HB.out, if_pos rfl]) rfl HCU.out HK.out
  ·have bx : ((x : Int) == (v : Int)) = false := by simp; omega
   have HX : Hid (¬ x = v) := hx
   clear hx
   go_enter Tryz.func132, Tryz.ntmps132
   go_wp2_with fail
   refine HF.mono ?_
   intro e w1 h1
   obtain ⟨a', cap', rfl, hx4, hcu, hk⟩ := h1.1 x y HB.out
   have HK : Hid (Kept (· = c) w w1) := hk
   have HO := need_bad w1 81
   clear h1 hcu hk HF hx4
   go_wp2_with fail
   refine HO.mono ?_
   rintro e w2 ⟨rfl, hw2⟩
   subst hw2
   clear HO
   unfold pan8
   go_wp2_with fail
   exact ⟨rfl, ExpZ.bad (by rw [ex8_of HB.out, if_neg HX.out]) rfl HK.out⟩

set_option maxRecDepth 100000 in
set_option maxHeartbeats 400000 in
theorem exp16_one (N : Nat) (w : World) (c : Nat) (r : List Nat) (a : Option Addr) (cap v g : Nat) (h : Cur N w c r a cap) (hv : v < 65536) (hg : w.cell? ⟨g, 0, none⟩ = some (.int .u16 (v : Nat))) :
  Calls Tryz.prog 133 #[.pointer (some ⟨c, 0, none⟩), .slice (some ⟨g, 0, none⟩) 1 1] w fun e w' => ExpZ N w w' c (ex8 2 v r) e := by
 have HF := two_any N w c r a cap h
 cases ht : nm8 2 r with
 | none =>
  have HB : Hid (nm8 2 r = none) := ht
  clear h ht
  go_enter Tryz.func133, Tryz.ntmps133
  go_wp2_with fail
  refine wp_loop_rounds 2 ?_
  rw [rounds_succ]
  go_wp2_with fail
  refine HF.mono ?_
  intro e w1 h1
  obtain ⟨rfl, hk⟩ := h1.2 HB.out
  have HK : Hid (Same w w1) := hk
  clear h1 hk HF hg
  unfold pan8
  go_wp2_with fail
  exact ⟨rfl, ExpZ.bad (ex8_no HB.out) rfl HK.out.k8⟩
 | some p =>
  obtain ⟨x, y⟩ := p
  have HB : Hid (nm8 2 r = some (x, y)) := ht
  clear h ht
  by_cases hx : x = v
  ·subst hx
   go_enter Tryz.func133, Tryz.ntmps133
   go_wp2_with fail
   refine wp_loop_rounds 2 ?_
   rw [rounds_succ]
   go_wp2_with fail
   refine HF.mono ?_
   intro e w1 h1
   obtain ⟨a', cap', rfl, hx4, hcu, hk⟩ := h1.1 x y HB.out
   have HCU : Hid (Cur N w1 c y a' cap') := hcu
   have HK : Hid (Kept (· = c) w w1) := hk
   have HO := need_ok w1 (.int .i64 81)
   clear h1 hcu hk HF hx4 hg
   go_wp2_with fail
   refine HO.mono ?_
   rintro e w2 ⟨rfl, hw2⟩
   subst hw2
   clear HO
   go_wp2_with fail
   rw [rounds_succ]
   go_wp2_with fail
   go_end0
   exact ExpZ.good (by rw [ex8_of HB.out, if_pos rfl]) rfl HCU.out HK.out
  ·have bx : ((x : Int) == (v : Int)) = false := by simp; omega
   have HX : Hid (¬ x = v) := hx
   clear hx
   go_enter Tryz.func133, Tryz.ntmps133
   go_wp2_with fail
   refine wp_loop_rounds 2 ?_
   rw [rounds_succ]
   go_wp2_with fail
   refine HF.mono ?_
   intro e w1 h1
   obtain ⟨a', cap', rfl, hx4, hcu, hk⟩ := h1.1 x y HB.out
   have HK : Hid (Kept (· = c) w w1) := hk
   have HO := need_bad w1 81
   clear h1 hcu hk HF hx4 hg
   go_wp2_with fail
   refine HO.mono ?_
   rintro e w2 ⟨rfl, hw2⟩
   subst hw2
   clear HO
   unfold pan8
   go_wp2_with fail
   exact ⟨rfl, ExpZ.bad (by rw [ex8_of HB.out, if_neg HX.out]) rfl HK.out⟩

def exx8 (v u : Nat) (r : List Nat) : Option (List Nat) := bnd8 (ex8 2 v r) fun r => ex8 2 u r

set_option maxRecDepth 100000 in
set_option maxHeartbeats 400000 in
theorem exp16_two (N : Nat) (w : World) (c : Nat) (r : List Nat) (a : Option Addr) (cap v u g : Nat) (h : Cur N w c r a cap) (hv : v < 65536) (hu : u < 65536) (hgc : g ≠ c) (hg : w.cell? ⟨g, 0, none⟩ = some (.int .u16 (v : Nat))) (hg1 : w.cell? ⟨g, 1, none⟩ = some (.int .u16 (u : Nat))) :
  Calls Tryz.prog 133 #[.pointer (some ⟨c, 0, none⟩), .slice (some ⟨g, 0, none⟩) 2 2] w fun e w' => ExpZ N w w' c (exx8 v u r) e := by
 have HF := two_any N w c r a cap h
 have HG1 : Hid (∀ w1, Kept (· = c) w w1 → w1.cell? ⟨g, 1, none⟩ = some (.int .u16 (u : Nat))) := hid (fun w1 hk => hk.cell hg1 (fun e => hgc e))
 clear hg1
 cases ht : nm8 2 r with
 | none =>
  have HB : Hid (nm8 2 r = none) := ht
  clear h ht
  go_enter Tryz.func133, Tryz.ntmps133
  go_wp2_with fail
  refine wp_loop_rounds 3 ?_
  rw [rounds_succ]
  go_wp2_with fail
  refine HF.mono ?_
  intro e w1 h1
  obtain ⟨rfl, hk⟩ := h1.2 HB.out
  have HK : Hid (Same w w1) := hk
  clear h1 hk HF hg
  unfold pan8
  go_wp2_with fail
  exact ⟨rfl, ExpZ.bad (bnd8_none (ex8_no HB.out)) rfl HK.out.k8⟩
 | some p =>
  obtain ⟨x, y⟩ := p
  have HB : Hid (nm8 2 r = some (x, y)) := ht
  clear h ht
  by_cases hx : x = v
  ·subst hx
   go_enter Tryz.func133, Tryz.ntmps133
   go_wp2_with fail
   refine wp_loop_rounds 3 ?_
   rw [rounds_succ]
   go_wp2_with fail
   refine HF.mono ?_
   intro e w1 h1
   obtain ⟨a', cap', rfl, hx4, hcu, hk⟩ := h1.1 x y HB.out
   have HK : Hid (Kept (· = c) w w1) := hk
   have HO := need_ok w1 (.int .i64 81)
   have HF2 := two_any N w1 c y a' cap' hcu
   have HE1 : Hid (ex8 2 x r = some y) := hid (by rw [ex8_of HB.out, if_pos rfl])
   clear h1 hcu hk HF hx4 hg
   go_wp2_with fail
   refine HO.mono ?_
   rintro e w2 ⟨rfl, hw2⟩
   subst hw2
   have hg1 := HG1.out w2 HK.out
   clear HO
   go_wp2_with fail
   rw [rounds_succ]
   go_wp2_with fail
   refine HF2.mono ?_
   intro e w3 h3
   cases ht2 : nm8 2 y with
   | none =>
    obtain ⟨rfl, hk3⟩ := h3.2 ht2
    have HK3 : Hid (Kept (· = c) w w3) := hid (HK.out.k8 hk3.k8)
    have HB2 : Hid (nm8 2 y = none) := ht2
    clear h3 hk3 HF2 hg1 ht2
    unfold pan8
    go_wp2_with fail
    exact ⟨rfl, ExpZ.bad (by unfold exx8; rw [bnd8_some HE1.out]; exact ex8_no HB2.out) rfl HK3.out⟩
   | some p2 =>
    obtain ⟨x2, y2⟩ := p2
    obtain ⟨a2, cap2, rfl, _, hcu2, hk3⟩ := h3.1 x2 y2 ht2
    have HK3 : Hid (Kept (· = c) w w3) := hid (HK.out.k8 hk3)
    have HB2 : Hid (nm8 2 y = some (x2, y2)) := ht2
    have HCU : Hid (Cur N w3 c y2 a2 cap2) := hcu2
    clear h3 hk3 HF2 hg1 ht2 hcu2
    by_cases hx2 : x2 = u
    ·subst hx2
     have HO := need_ok w3 (.int .i64 81)
     go_wp2_with fail
     refine HO.mono ?_
     rintro e w4 ⟨rfl, hw4⟩
     subst hw4
     clear HO
     go_wp2_with fail
     rw [rounds_succ]
     go_wp2_with fail
     go_end0
     exact ExpZ.good (by unfold exx8; rw [bnd8_some HE1.out, ex8_of HB2.out, if_pos rfl]) rfl HCU.out HK3.out
    ·have bx : ((x2 : Int) == (u : Int)) = false := by simp; omega
     have HX : Hid (¬ x2 = u) := hx2
     have HO := need_bad w3 81
     clear hx2
     go_wp2_with fail
     refine HO.mono ?_
     rintro e w4 ⟨rfl, hw4⟩
     subst hw4
     clear HO
     unfold pan8
     go_wp2_with fail
     exact ⟨rfl, ExpZ.bad (by unfold exx8; rw [bnd8_some HE1.out, ex8_of HB2.out, if_neg HX.out]) rfl HK3.out⟩
  ·have bx : ((x : Int) == (v : Int)) = false := by simp; omega
   have HX : Hid (¬ x = v) := hx
   clear hx
   go_enter Tryz.func133, Tryz.ntmps133
   go_wp2_with fail
   refine wp_loop_rounds 3 ?_
   rw [rounds_succ]
   go_wp2_with fail
   refine HF.mono ?_
   intro e w1 h1
   obtain ⟨a', cap', rfl, hx4, hcu, hk⟩ := h1.1 x y HB.out
   have HK : Hid (Kept (· = c) w w1) := hk
   have HO := need_bad w1 81
   clear h1 hcu hk HF hx4 hg
   go_wp2_with fail
   refine HO.mono ?_
   rintro e w2 ⟨rfl, hw2⟩
   subst hw2
   clear HO
   unfold pan8
   go_wp2_with fail
   exact ⟨rfl, ExpZ.bad (by unfold exx8; rw [bnd8_none (by rw [ex8_of HB.out, if_neg HX.out])]) rfl HK.out⟩

end Go.Proofs.YtljlmfnbeofmmaaGreatDoor
