/-
  The calls that read numbers in bytes: a range over slices.Backward.
-/
import Derived.Test.YtaefgnakdadgeaaLRef
import Derived.RangeFuncBox
import Derived.Laws.BitsAllLaws
import Derived.RangeFuncLeaves
import Derived.Shelf.Abstract
import Derived.WalkKit
import Derived.OwnWalkIn
import Derived.TacticsInMore
import Derived.LoopNIn
import Derived.LoopIn
namespace Go.Proofs.Ytaefgnakdadgeaa
open Go.RowKit Go.Shelf

attribute [local go_sem] Oper.semAt_some

/-- What the iterator hands on: a place and a byte. -/
abbrev Spot := Nat × Fin 256

def spotV (x : Spot) : Array Value := #[.int .i64 (x.1 : Int), .int .u8 (x.2.val : Int)]

/-- What has come when k rounds are over. -/
def upto (f : Nat → Spot) (k : Nat) : List Spot := (List.range k).map f
theorem upto_succ (f : Nat → Spot) (k : Nat) : upto f (k + 1) = upto f k ++ [f k] := by simp [upto, List.range_succ]
theorem upto_length (f : Nat → Spot) (k : Nat) : (upto f k).length = k := by simp [upto]

/-- What a round keeps: all below n₀, and one block more. -/
def Holds (n₀ B : Nat) (W W' : World) : Prop := Below n₀ W W' ∧ W'.heap[B]? = W.heap[B]?

theorem Holds.trans {n₀ B : Nat} {X Y Z : World} (h : Holds n₀ B X Y) (k : Holds n₀ B Y Z) : Holds n₀ B X Z := ⟨h.1.trans k.1, k.2.trans h.2⟩

theorem Holds.put {n₀ B : Nat} {w : World} (hn : n₀ ≤ w.heap.size) (hB : B < w.heap.size) (W : World) (l : Nat) (o o' : Obj) (hl : w.heap.size ≤ l) (h : W.heap[l]? = some o) (h1 : o.isCells = false) (h2 : o.isWalk = false) : Holds n₀ B W (W.putObj l o') := by
  have hlt := (Array.getElem?_eq_some_iff.1 h).1
  exact ⟨belowK_b hn W l o o' hl h h1 h2, (grownBy_putObj' W l o').block B (by omega) (fun e => by cases e; omega)⟩

theorem Holds.set {n₀ B : Nat} {W : World} (p : Addr) (v : Value) (h1 : n₀ ≤ p.block) (h2 : B ≠ p.block) : Holds n₀ B W (W.setCell p v) :=
  ⟨(Below.refl n₀ W).setCell (p := p) h1 v, Below.heap_setCell _ _ _ _ (fun e => h2 e)⟩

set_option maxRecDepth 100000 in
set_option maxHeartbeats 2000000 in
/-- The iterator of slices.Backward over a slice that is not nil, for every loop body that keeps what lay below. -/
theorem back1_in (F : Fence) (n : Nat) (h7 : F.fn 63) (hro : F.round = none) (hn : 1 ≤ n) (l Bs n₀ b off len cap : Nat) (f : Nat → Fin 256) (hreach : len ≤ 100000000) (hb : b < n₀) (J Jx : List Spot → World → Prop)
    (hY : ∀ pre x W, J pre W → pre.length < len → YieldAt F (n - 1) Try.prog l (spotV x) W fun e W' =>
      (e = .returned (.bool true) ∧ J (pre ++ [x]) W' ∧ Holds n₀ Bs W W') ∨ (e = .returned (.bool false) ∧ Jx (pre ++ [x]) W'))
    (W : World) (hBs : W.cell? ⟨Bs, 0, none⟩ = some (.slice (some ⟨b, off, none⟩) len cap)) (hc : ∀ j, j < len → W.cell? ⟨b, off + j, none⟩ = some (.int .u8 ((f j).val : Int))) (h0 : J [] W) :
    CallsIn F n Try.prog 63 #[.func (.yield l) #[] #[], .pointer (some ⟨Bs, 0, none⟩)] W fun e W' => (∃ v, e = .returned v) ∧
      ((∃ ys, ys = upto (fun j => (len - 1 - j, f (len - 1 - j))) len ∧ J ys W') ∨ (∃ pre, (∃ k, k ≤ len ∧ pre = upto (fun j => (len - 1 - j, f (len - 1 - j))) k) ∧ Jx pre W')) := by
  refine callsIn_of_wp Try.func63 rfl h7 ?_ hro
  simp only [Try.ntmps63, List.size_toArray, List.length_cons, List.length_nil, Nat.reduceAdd, Nat.reduceSub, Array.replicate_succ, Array.replicate_zero, List.push_toArray, List.append_toArray, List.nil_append, List.cons_append]
  gi_wp2
  gi_loopw [3] (fun i wr => ∃ k : Nat, k ≤ len ∧ i = .int .i64 ((len : Int) - 1 - k) ∧ J (upto (fun j => (len - 1 - j, f (len - 1 - j))) k) wr ∧ Holds n₀ Bs W wr)
    (fun i _ => (intOf i + 1).toNat)
  case atStart => exact ⟨0, Nat.zero_le _, by simp, h0, Below.refl _ _, rfl⟩
  case round =>
    obtain ⟨k, hk, rfl, hJs, hnx⟩ := hrel
    have hbs := (World.cell?_of_block (a := ⟨Bs, 0, none⟩) hnx.2).trans hBs
    by_cases hlt : k < len
    · obtain ⟨m, hm⟩ : ∃ m, m = len - 1 - k := ⟨_, rfl⟩
      have hm2 : (len : Int) - 1 - k = (m : Nat) := by omega
      obtain ⟨fn, tmps, assign, body, hy, hR⟩ := hY _ (m, f m) wr hJs (by rw [upto_length]; exact hlt)
      have hcx : wr.cell? ⟨b, off + m, none⟩ = some (.int .u8 ((f m).val : Int)) := (hnx.1.cell (p := ⟨b, off + m, none⟩) hb).trans (hc m (by omega))
      unfold spotV at hy
      dsimp only at hy
      rw [hm2]
      have hml : m < len := by omega
      have HM : Hid (m = len - 1 - k) := hm
      clear hm hm2
      gi_wp2
      refine hR.mono ?_
      rintro e W3 (⟨rfl, hJ3, hk3⟩ | ⟨rfl, hJx3⟩)
      · gi_wp2
        go_roundw
        case rel => exact ⟨k + 1, by omega, by have := HM.out; simp; omega, by rw [upto_succ, ← HM.out]; exact hJ3, hnx.trans hk3⟩
        case measure => simp [intOf]
      · gi_wp2
        refine bodyPost_ret (results_none rfl _ _ _) rfl ?_
        exact ⟨⟨_, rfl⟩, .inr ⟨_, ⟨k + 1, by omega, by rw [upto_succ, ← HM.out]⟩, hJx3⟩⟩
    · obtain rfl : k = len := by omega
      gi_wp2
      go_end0
      exact ⟨⟨_, rfl⟩, .inl ⟨_, rfl, hJs⟩⟩

set_option maxHeartbeats 1000000 in
/-- slices.Backward(s): the slice value is boxed; the function value captures the box. -/
theorem backward_in (F : Fence) (n : Nat) (h5 : F.fn 62) (hro : F.round = none) (a : Option Addr) (len cap : Nat) (w : World) :
    CallsIn F n Try.prog 62 #[.slice a len cap] w fun e w' => e = .returned (.func (.func 63) #[] #[.pointer (some ⟨w.heap.size, 0, none⟩)]) ∧ w' = w.alloc (.cells #[.slice a len cap] 26) := by
  refine callsIn_of_wp Try.func62 rfl h5 ?_ hro
  simp only [Try.ntmps62, List.size_toArray, List.length_cons, List.length_nil, Nat.reduceAdd, Nat.reduceSub, Array.replicate_succ, Array.replicate_zero, List.push_toArray, List.append_toArray, List.nil_append, List.cons_append]
  gi_wp2
  go_ret
  exact ⟨rfl, rfl⟩

/-- The iterator's contract. -/
theorem back_stops (F : Fence) (n : Nat) (h7 : F.fn 63) (hro : F.round = none) (hn : 1 ≤ n) (Bs n₀ b off len cap : Nat) (f : Nat → Fin 256) (hreach : len ≤ 100000000) (w : World) (hBs : Bs < w.heap.size) (hn₀ : n₀ ≤ w.heap.size) (hb : b < n₀)
    (hc : w.cell? ⟨Bs, 0, none⟩ = some (.slice (some ⟨b, off, none⟩) len cap)) (hI : ∀ j, j < len → w.cell? ⟨b, off + j, none⟩ = some (.int .u8 ((f j).val : Int))) :
    SeqStopsK F n Try.prog 63 #[.pointer (some ⟨Bs, 0, none⟩)] spotV (Holds n₀ Bs) (fun ys => ys = upto (fun j => (len - 1 - j, f (len - 1 - j))) len)
      (fun pre => ∃ k, k ≤ len ∧ pre = upto (fun j => (len - 1 - j, f (len - 1 - j))) k) len w := fun l J Jx W hW _ _ hY h0 => by
  have hc' := (hW.cell (p := ⟨Bs, 0, none⟩) hBs).trans hc
  exact back1_in F n h7 hro hn l Bs n₀ b off len cap f hreach hb J Jx hY W hc' (fun j hj => (hW.cell (p := ⟨b, off + j, none⟩) (Nat.lt_of_lt_of_le hb hn₀)).trans (hI j hj)) h0

/-- The number that the rounds make. -/
def acc (pre : List Spot) : Nat := pre.foldl (fun v p => v * 256 % 18446744073709551616 + p.2.val) 0
theorem acc_snoc (pre : List Spot) (x : Spot) : acc (pre ++ [x]) = acc pre * 256 % 18446744073709551616 + x.2.val := by simp [acc]

theorem or_low (v x : Nat) (hx : x < 256) : (v * 256 % 18446744073709551616) ||| x = v * 256 % 18446744073709551616 + x := by
  have e : v * 256 % 18446744073709551616 = 2 ^ 8 * (v % 72057594037927936) := by omega
  rw [e, ← Nat.two_pow_add_eq_or_of_lt (i := 8) hx]

theorem acc_lt (pre : List Spot) : acc pre < 18446744073709551616 := by
  rcases List.eq_nil_or_concat pre with rfl | ⟨es, x, e⟩
  · simp [acc]
  · subst e
    rw [List.concat_eq_append, acc_snoc]
    have := x.2.isLt
    omega

set_option maxRecDepth 100000 in
set_option maxHeartbeats 2000000 in
theorem get_in (F : Fence) (m : Nat) (h3 : F.fn 61) (h5 : F.fn 62) (h7 : F.fn 63) (hro : F.round = none) (hm : 3 ≤ m) (w : World) (b o len cap at' n : Nat) (f : Nat → Fin 256)
    (hI : ∀ j, j < len → w.cell? ⟨b, o + j, none⟩ = some (.int .u8 ((f j).val : Int))) (hlen : len ≤ 100000000) (hcap : len ≤ cap) (hn : n ≤ 8) (hn0 : 0 < n) (hat : at' + n ≤ len) (hbw : b < w.heap.size) :
    CallsIn F m Try.prog 61 #[.slice (some ⟨b, o, none⟩) len cap, .int .i64 (at' : Nat), .int .i64 (n : Nat)] w fun e W' => e = .returned (.tuple #[.int .u64 (acc (upto (fun j => (n - 1 - j, f (at' + (n - 1 - j)))) n) : Nat), .int .i64 0]) ∧ Below w.heap.size w W' := by
  have h1 : 1 ≤ m := by omega
  refine callsIn_of_wp_marks Try.func61 rfl h3 ?_ hro
  simp only [Try.ntmps61, List.size_toArray, List.length_cons, List.length_nil, Nat.reduceAdd, Nat.reduceSub, Array.replicate_succ, Array.replicate_zero, List.push_toArray, List.append_toArray, List.nil_append, List.cons_append]
  gi_wp2_with (gi_at_call 62; refine (backward_in F (m - 1) h5 hro _ _ _ _).mono ?_; rintro e w' ⟨rfl, rfl⟩)
  have bS := Boxed.new w 95 (.int .u64 0)
  have bN := Boxed.new (w.alloc (.cells #[.int .u64 0] 95)) 26 (.slice (some ⟨b, o + at', none⟩) n (cap - at'))
  rw [World.size_alloc] at bN
  have hB0 : Below w.heap.size w ((w.alloc (.cells #[.int .u64 0] 95)).alloc (.cells #[.slice (some ⟨b, o + at', none⟩) n (cap - at')] 26)) := ((Below.refl _ w).alloc (Nat.le_refl _) _).alloc (by simp) _
  have hI2 : ∀ j, j < n → ((w.alloc (.cells #[.int .u64 0] 95)).alloc (.cells #[.slice (some ⟨b, o + at', none⟩) n (cap - at')] 26)).cell? ⟨b, o + at' + j, none⟩ = some (.int .u8 ((f (at' + j)).val : Int)) := by
    intro j hj
    rw [hB0.cell (p := ⟨b, o + at' + j, none⟩) hbw, Nat.add_assoc]
    exact hI (at' + j) (by omega)
  refine wpIn_rangeFunc_ownG hro h1 (gf := 63) (lb := #[.pointer (some ⟨w.heap.size + 1, 0, none⟩)]) rfl h7 (enters_of Try.func63 (by kernel_rfl) rfl)
    (back_stops F (m - 1) h7 hro (by omega) (w.heap.size + 1) w.heap.size b (o + at') n (cap - at') (fun j => f (at' + j)) (by omega) _ (by simp) (by simp; omega) hbw bN.cell hI2) Holds.trans (Holds.put (by simp; omega) (by simp)) (Below.refl _ _) (fun _ => rfl)
    (fun pre W => (W.cell? ⟨w.heap.size, 0, none⟩ = some (.int .u64 (acc pre : Nat)) ∧ W.frozen? ⟨w.heap.size, 0, none⟩ = false) ∧ Below w.heap.size w W)
    (fun _ _ _ => False)
    (OwnFrom.and (Own.from (fun s A B row hs hg hr => ⟨cell_kept hs.1 hg hr, (frozen_kept hs.1 hg hr).trans hs.2⟩) _) (ownFrom_below (Nat.le_refl _) (by simp; omega)))
    (fun _ _ _ _ _ hs _ _ => hs)
    ⟨⟨(bS.alloc _).cell, (bS.alloc _).frozen⟩, hB0⟩
    (fun x => { tmps := #[.slice (some ⟨b, o, none⟩) len cap, .int .i64 (at' : Nat), .int .i64 (n : Nat), undef, undef, undef, .int .u64 0, .int .i64 0, .pointer (some ⟨w.heap.size, 0, none⟩), undef, .int .u8 (x.2.val : Int), .int .i64 (at' : Nat),
      .bool (decide ((at' : Int) < 0)), .bool (decide ((at' : Int) < 0)), .int .i64 (at' : Nat), .slice (some ⟨b, o, none⟩) len cap, .int .i64 (len : Nat), .int .i64 (n : Nat), .int .i64 ((len : Int) - (n : Int)), .bool (decide ((len : Int) - (n : Int) < (at' : Int))),
      .bool (decide ((at' : Int) < 0) || decide ((len : Int) - (n : Int) < (at' : Int))), .slice (some ⟨b, o, none⟩) len cap, .int .i64 (at' : Nat), .int .i64 (at' : Nat), .int .i64 (n : Nat), .int .i64 ((at' : Int) + (n : Int)),
      .slice (some ⟨b, o + at', none⟩) n (cap - at'), .func (.func 63) #[] #[.pointer (some ⟨w.heap.size + 1, 0, none⟩)], .int .i64 (x.1 : Int), .int .u8 (x.2.val : Int), undef, undef, undef, undef, undef, undef], defers := [] }) ?assign ?body ?done ?stop
  case assign =>
    intro l x W K hK
    unfold spotV
    gi_wp2
    exact hK
  case body =>
    rintro l pre x W ⟨⟨hc, hf⟩, hB⟩ _
    have hxl := x.2.isLt
    have hal := acc_lt pre
    obtain ⟨y, hy⟩ : ∃ y, y = x.2.val := ⟨_, rfl⟩
    have HY : Hid (y = x.2.val) := hy
    rw [← hy] at hxl ⊢
    obtain ⟨v, hv⟩ : ∃ v, v = acc pre := ⟨_, rfl⟩
    have HV : Hid (v = acc pre) := hv
    rw [← hv] at hc hal
    clear hy hv
    gi_wp2
    have e : bits .or .u64 (IntKind.u64.wrap ((v : Int) * 256)) (y : Int) = ((acc (pre ++ [x]) : Nat) : Int) := by
      rw [IntKind.wrap_u64]
      have e1 : (v : Int) * 256 % 18446744073709551616 = ((v * 256 % 18446744073709551616 : Nat) : Int) := by omega
      rw [e1, u64_or_nat _ _ (by omega) (by omega), or_low v y hxl, acc_snoc, ← HV.out, ← HY.out]
    rw [e]
    exact ⟨(KeepsOthers.setCell _ _ _).from _, Holds.set _ _ (Nat.le_refl _) (by simp), ⟨World.cell?_setCell_same' _ _ _ (by rw [hc]; rfl), by rw [World.frozen?_setCell]; exact hf⟩, hB.setCell (p := ⟨w.heap.size, 0, none⟩) (Nat.le_refl _) _⟩
  case done =>
    rintro D ys W hD rfl ⟨⟨hc, _⟩, hB⟩ hK
    gi_wp2
    refine ⟨by simp, .inl ⟨_, _, rfl, run_takeDeferred hK, ?_⟩⟩
    exact ⟨_, results_tmp2 rfl _ _ _, rfl, hB.trans (belowK_b (w := w) (Nat.le_refl _) W D _ _ (by simp at hD; omega) hK rfl rfl)⟩
  case stop =>
    rintro D c pre W _ _ h _
    exact h.elim

end Go.Proofs.Ytaefgnakdadgeaa
