/-
  Of the proof: parts Args, HArgs, HChk, HRef, HKeep.
-/
import Derived.ProofKit
import Derived.OpenShut
import Derived.Test.YtofhlnpbflkdlaaDoorJ2
import Derived.Test.YtofhlnpbflkdlaaDoorJ3
import Derived.Test.YtofhlnpbflkdlaaDoorJ1

/-
  Slices of integers that came in, as the walks want them.
-/
namespace Go.Proofs.YtofhlnpbflkdlaaDoor
open Go.ChangeShapes Go.WideShapes Go.ChangeAt Go.RowKit

/-- A slice of integers that came in: nil, or a row of 'cap' cells. -/
def IsRow (k : IntKind) (w : World) (a : Option Addr) (len cap : Nat) (zs : List Int) : Prop :=
  (a = none ∧ len = 0 ∧ cap = 0 ∧ zs = []) ∨
  ∃ x, a = some x ∧ len ≤ cap ∧ cap ≤ maxLen ∧ zs.length = cap ∧ (∀ i, i < zs.length → w.cell? (x.add i) = some (.int k (zs.getD i 0))) ∧ ∀ n ∈ zs, (Lit.int k n).wf = true

theorem spot_none {w : World} {x : Addr} {v : Value} (h : w.cell? (x.add 0) = some v) : x = ⟨x.block, x.off, none⟩ := by
  have e : x.add 0 = x := by unfold Addr.add; simp
  rw [e] at h
  cases hx : x.spot with
  | none => cases x; simp_all
  | some n =>
    exfalso
    simp only [World.cell?] at h
    split at h
    · rw [if_pos (by simp [hx])] at h; cases h
    · cases h

theorem IsRow.len_le {k : IntKind} {w : World} {a : Option Addr} {len cap : Nat} {zs : List Int} (h : IsRow k w a len cap zs) : len ≤ zs.length := by
  rcases h with ⟨_, rfl, _, rfl⟩ | ⟨x, _, h1, _, h2, _⟩
  · simp
  · omega

theorem IsRow.max {k : IntKind} {w : World} {a : Option Addr} {len cap : Nat} {zs : List Int} (h : IsRow k w a len cap zs) : len ≤ maxLen := by
  rcases h with ⟨_, rfl, _, rfl⟩ | ⟨x, _, h1, h3, h2, _⟩
  · exact Nat.zero_le _
  · omega

/-- Its cells, one by one. -/
theorem IsRow.at {k : IntKind} {w : World} {a : Option Addr} {len cap : Nat} {zs : List Int} (h : IsRow k w a len cap zs) (j : Nat) (hj : j < len) : ∃ b o, a = some ⟨b, o, none⟩ ∧ w.cell? ⟨b, o + j, none⟩ = some (.int k (zs.getD j 0)) := by
  have hl := h.len_le
  rcases h with ⟨_, rfl, _, rfl⟩ | ⟨x, rfl, h1, h3, h2, h4, _⟩
  · omega
  · have hc := h4 j (by omega)
    have hx := spot_none (h4 0 (by omega))
    refine ⟨x.block, x.off, by rw [← hx], ?_⟩
    rw [hx, addAt] at hc
    exact hc

theorem IsRow.src {w : World} {a : Option Addr} {len cap : Nat} {zs : List Int} (h : IsRow .u8 w a len cap zs) : ∃ bs, Src w (fun k => k < w.heap.size) (.slice a len cap) bs ∧ bs.length = len ∧ ∀ b ∈ bs, b < 256 := by
  have hl := h.len_le
  have hwf : ∀ n ∈ zs, 0 ≤ n ∧ n < 256 := by
    intro n hn
    rcases h with ⟨_, rfl, _, rfl⟩ | ⟨x, rfl, h1, h3, h2, h4, h5⟩
    · cases hn
    · have := bounds_u8 (h5 n hn); omega
  refine ⟨(zs.take len).map Int.toNat, ⟨a, cap, by simp; omega, fun hne => ?_⟩, by simp; omega, ?_⟩
  · have hlen : 0 < len := by
      rcases Nat.eq_zero_or_pos len with e | e
      · subst e; simp at hne
      · exact e
    obtain ⟨b, o, rfl, hc⟩ := h.at 0 hlen
    refine ⟨b, o, rfl, World.block_lt_of_cell? w _ hc, fun j hj => ?_⟩
    have hj' : j < len := by simp at hj; omega
    obtain ⟨b', o', e, hc'⟩ := h.at j hj'
    simp only [Option.some.injEq, Addr.mk.injEq, and_true] at e
    obtain ⟨rfl, rfl⟩ := e
    rw [hc']
    have hz : j < zs.length := by omega
    have hb := hwf _ (List.getElem_mem hz)
    simp only [List.getElem_map, List.getElem_take]
    simp only [List.getD_eq_getElem?_getD, List.getElem?_eq_getElem hz, Option.getD_some]
    congr 2
    omega
  · intro b hb
    obtain ⟨n, hn, rfl⟩ := List.mem_map.1 hb
    have := hwf n (List.mem_of_mem_take hn)
    omega

end Go.Proofs.YtofhlnpbflkdlaaDoor

/-
  Slices of ints that came in.
-/
namespace Go.Proofs.YtofhlnpbflkdlaaDoor
open Go.RowKit

theorem Same.bel {w w' : World} (h : Same w w') : Below w.heap.size w w' := Kept.below h (Nat.le_refl _) (fun _ _ e => e)

theorem IsRow.ints {w : World} {a : Option Addr} {len cap : Nat} {zs : List Int} (h : IsRow .i64 w a len cap zs) : SrcE intV w (fun k => k < w.heap.size) (.slice a len cap) (zs.take len) ∧ (zs.take len).length = len := by
  have hl := h.len_le
  have hlen : (zs.take len).length = len := by simp; omega
  refine ⟨⟨a, cap, by rw [hlen], ?_, fun hne => ?_⟩, hlen⟩
  · rw [hlen]
    rcases h with ⟨_, rfl, _, _⟩ | ⟨x, _, h1, _⟩
    · exact Nat.zero_le _
    · exact h1
  · have hpos : 0 < len := by
      rcases Nat.eq_zero_or_pos len with e | e
      · subst e; simp at hne
      · exact e
    obtain ⟨b, o, rfl, hc⟩ := h.at 0 hpos
    refine ⟨b, o, rfl, World.block_lt_of_cell? w _ hc, fun j hj => ?_⟩
    obtain ⟨b', o', e, hc'⟩ := h.at j (by omega)
    simp only [Option.some.injEq, Addr.mk.injEq, and_true] at e
    obtain ⟨rfl, rfl⟩ := e
    rw [hc']
    have hz : j < zs.length := by omega
    simp [intV, List.getD, hz]

end Go.Proofs.YtofhlnpbflkdlaaDoor

/-
  all and Check: lists of lengths that may be.
-/
namespace Go.Proofs.YtofhlnpbflkdlaaDoor
open Go.RowKit

/-- Whether an int lies outside. -/
def badI (lo hi z : Int) : Bool := decide (z < lo) || decide (hi < z)

set_option maxHeartbeats 1000000 in
theorem wrong_any (w : World) (p q : Nat) (lo hi z : Int) (hp : w.cell? ⟨p, 0, none⟩ = some (.int .i64 lo)) (hq : w.cell? ⟨q, 0, none⟩ = some (.int .i64 hi)) :
    Calls Tryd.prog 85 #[.int .i64 z, .pointer (some ⟨p, 0, none⟩), .pointer (some ⟨q, 0, none⟩)] w fun e w' => e = .returned (.bool (badI lo hi z)) ∧ ∃ m, w' = w.drewN m := by
  go_enter Tryd.func85, Tryd.ntmps85
  by_cases h : z < lo
  · go_wp2_with fail
    go_ret
    exact ⟨by simp [badI, h], 0, rfl⟩
  · go_wp2_with fail
    go_ret
    have h' : decide (z < lo) = false := by simp; omega
    exact ⟨by simp only [badI, h', Bool.false_or]; rfl, 0, rfl⟩

abbrev wrongV (p q : Nat) : Value := .func (.func 85) #[] #[.pointer (some ⟨p, 0, none⟩), .pointer (some ⟨q, 0, none⟩)]

set_option maxHeartbeats 1000000 in
theorem index_any (w : World) (v : Value) (I : Nat → Prop) (zs : List Int) (p q : Nat) (lo hi : Int) (hs : SrcE intV w I v zs) (hn : zs.length ≤ 1000000) (hp : w.cell? ⟨p, 0, none⟩ = some (.int .i64 lo)) (hq : w.cell? ⟨q, 0, none⟩ = some (.int .i64 hi)) :
    Calls Tryd.prog 55 #[v, wrongV p q] w fun e w' => (∃ z : Int, e = .returned (.int .i64 z) ∧ decide (0 ≤ z) = zs.any (badI lo hi)) ∧ Same w w' := by
  obtain ⟨ao, cap, rfl, _, _⟩ := id hs
  have HS : Hid (SrcE intV w I (.slice ao zs.length cap) zs) := hs
  clear hs
  go_enter Tryd.func55, Tryd.ntmps55
  go_wp2_with fail
  go_loopg [8] zs.length (fun k z wr => ∃ i : Nat, zs.length - i ≤ k ∧ i ≤ zs.length ∧ z = .int .i64 (i : Nat) ∧ Hid ((zs.take i).any (badI lo hi) = false) ∧ Hid (Same w wr))
  case atStart => exact ⟨0, by omega, by omega, rfl, hid (by simp), Kept.refl _ _⟩
  case round =>
    obtain ⟨i, hk, hil, rfl, HF, HK⟩ := hrel
    by_cases hlt : i < zs.length
    · obtain ⟨b, o, cap2, e, _, _, hc⟩ := (HS.out.same HK.out).get i hlt
      simp only [Value.slice.injEq] at e
      obtain ⟨rfl, _, rfl⟩ := e
      obtain ⟨x, hx⟩ : ∃ x, x = zs[i] := ⟨_, rfl⟩
      rw [← hx] at hc
      unfold intV at hc
      have HX : Hid (x = zs[i]) := hx
      have HC := wrong_any wr p q lo hi x (HK.out.cell hp (fun h => h)) (HK.out.cell hq (fun h => h))
      clear hx
      cases hb : badI lo hi x with
      | true =>
        rw [hb] at HC
        have HB : Hid (badI lo hi x = true) := hb
        clear hb
        go_wp2_with fail
        refine HC.mono ?_
        rintro e w2 ⟨rfl, m, rfl⟩
        go_wp2_with fail
        go_ret
        refine ⟨⟨_, rfl, ?_⟩, HK.out.drewN _⟩
        have h1 : zs.any (badI lo hi) = true := List.any_eq_true.2 ⟨x, by rw [HX.out]; exact List.getElem_mem _, HB.out⟩
        rw [h1]; simp
      | false =>
        rw [hb] at HC
        have HB : Hid (badI lo hi x = false) := hb
        clear hb
        go_wp2_with fail
        refine HC.mono ?_
        rintro e w2 ⟨rfl, m, rfl⟩
        go_wp2_with fail
        go_roundg (gk - 1)
        case measure => omega
        case rel =>
          refine ⟨i + 1, by omega, by omega, by go_num, hid ?_, HK.out.drewN _⟩
          rw [List.take_succ_eq_append_getElem hlt, List.any_append, HF.out, ← HX.out]
          simp [HB.out]
    · have : i = zs.length := by omega
      subst this
      go_wp2_with fail
      go_ret
      refine ⟨⟨_, rfl, ?_⟩, HK.out⟩
      have h := HF.out
      rw [List.take_of_length_le (Nat.le_refl _)] at h
      rw [h]; simp

set_option maxHeartbeats 1000000 in
theorem contains_any (w : World) (v : Value) (I : Nat → Prop) (zs : List Int) (p q : Nat) (lo hi : Int) (hs : SrcE intV w I v zs) (hn : zs.length ≤ 1000000) (hp : w.cell? ⟨p, 0, none⟩ = some (.int .i64 lo)) (hq : w.cell? ⟨q, 0, none⟩ = some (.int .i64 hi)) :
    Calls Tryd.prog 34 #[v, wrongV p q] w fun e w' => e = .returned (.bool (zs.any (badI lo hi))) ∧ Same w w' := by
  have H := index_any w v I zs p q lo hi hs hn hp hq
  clear hs hp hq
  go_enter Tryd.func34, Tryd.ntmps34
  go_wp2_with fail
  refine H.mono ?_
  rintro e w2 ⟨⟨z, rfl, hz⟩, hk⟩
  have HZ : Hid (decide (0 ≤ z) = zs.any (badI lo hi)) := hz
  have HK : Hid (Same w w2) := hk
  clear hz hk H
  go_wp2_with fail
  go_ret
  refine ⟨?_, HK.out⟩
  rw [← HZ.out]; rfl

/-- As many numbers as symbols may be, each from lo to hi. -/
def okAll (zs : List Int) (lo hi : Int) : Bool := decide (0 < zs.length) && decide (zs.length ≤ 288) && !(zs.any (badI lo hi))

set_option maxHeartbeats 1000000 in
theorem all_any (w : World) (v : Value) (I : Nat → Prop) (zs : List Int) (lo hi : Int) (hs : SrcE intV w I v zs) (hn : zs.length ≤ 1000000) :
    Calls Tryd.prog 74 #[v, .int .i64 lo, .int .i64 hi] w fun e w' => e = .returned (.bool (okAll zs lo hi)) ∧ Same w w' := by
  obtain ⟨ao, cap, rfl, _, _⟩ := id hs
  have hk0 : Same w ((w.alloc (.cells #[.int .i64 lo] 3)).alloc (.cells #[.int .i64 hi] 3)) := ((Kept.refl _ w).alloc _).alloc _
  have HC := contains_any ((w.alloc (.cells #[.int .i64 lo] 3)).alloc (.cells #[.int .i64 hi] 3)) _ I zs w.heap.size (w.heap.size + 1) lo hi (hs.same hk0) hn (by simp) (by
    have := World.size_alloc w (.cells #[.int .i64 lo] 3)
    rw [← this]; simp)
  have HK0 : Hid (Same w ((w.alloc (.cells #[.int .i64 lo] 3)).alloc (.cells #[.int .i64 hi] 3))) := hk0
  clear hs hk0
  go_enter Tryd.func74, Tryd.ntmps74
  by_cases h0 : 0 < zs.length
  · by_cases h1 : zs.length ≤ 288
    · have h0' : decide (0 < zs.length) = true := by simp [h0]
      have h1' : decide (zs.length ≤ 288) = true := by simp [h1]
      go_wp2_with fail
      refine HC.mono ?_
      rintro e w2 ⟨rfl, hk⟩
      have HK : Hid (Same w w2) := hid (HK0.out.trans hk)
      clear hk HC
      go_wp2_with fail
      go_ret
      exact ⟨by simp [okAll, h0, h1], HK.out⟩
    · go_wp2_with fail
      go_ret
      exact ⟨by simp [okAll, h1], HK0.out⟩
  · go_wp2_with fail
    go_ret
    exact ⟨by simp [okAll, h0], HK0.out⟩

/-- A length's part of the measure. -/
def unit (n : Nat) : Nat := if n = 0 then 0 else 2 ^ (15 - n)
def measure (ns : List Nat) : Nat := (ns.map unit).sum
def usedN (ns : List Nat) : Nat := ns.countP (fun n => n != 0)

/-- Check's answer at lengths from 0 to 15. -/
def chkN (ns : List Nat) : Nat := if 32768 < measure ns then 30 else if measure ns = 32768 then 0 else if usedN ns = 1 ∧ measure ns = 16384 then 0 else 31

/-- Check's answer. -/
def chk (zs : List Int) : Nat := if okAll zs 0 15 = true then chkN (zs.map Int.toNat) else 1

theorem okAll_nat {zs : List Int} {hi : Int} (h : okAll zs 0 hi = true) : ((zs.map Int.toNat).map natV = zs.map intV) ∧ 0 < zs.length ∧ zs.length ≤ 288 ∧ ∀ n ∈ zs.map Int.toNat, (n : Int) ≤ hi := by
  simp only [okAll, Bool.and_eq_true, decide_eq_true_eq, Bool.not_eq_true', List.any_eq_false] at h
  obtain ⟨⟨h1, h2⟩, h3⟩ := h
  have h4 : ∀ z ∈ zs, 0 ≤ z ∧ z ≤ hi := fun z hz => by have := h3 z hz; simp [badI] at this; omega
  refine ⟨?_, h1, h2, ?_⟩
  · rw [List.map_map]
    refine List.map_congr_left (fun z hz => ?_)
    simp only [Function.comp, natV, intV]
    rw [Int.toNat_of_nonneg (h4 z hz).1]
  · intro n hn
    obtain ⟨z, hz, rfl⟩ := List.mem_map.1 hn
    have := h4 z hz
    omega

theorem measure_snoc (ns : List Nat) (n : Nat) : measure (ns ++ [n]) = measure ns + unit n := by simp [measure]
theorem usedN_snoc (ns : List Nat) (n : Nat) : usedN (ns ++ [n]) = usedN ns + (if n = 0 then 0 else 1) := by
  by_cases h : n = 0 <;> simp [usedN, h]
theorem unit_le (n : Nat) : unit n ≤ 16384 := by
  unfold unit
  split
  · omega
  · exact Nat.le_trans (Nat.pow_le_pow_right (by omega) (show 15 - n ≤ 14 by omega)) (by decide)
theorem measure_le (ns : List Nat) : measure ns ≤ 16384 * ns.length := by
  induction ns with
  | nil => simp [measure]
  | cons a r ih => have := unit_le a; simp [measure] at *; omega
theorem usedN_le (ns : List Nat) : usedN ns ≤ ns.length := List.countP_le_length

theorem unit_shift {n : Nat} (h0 : n ≠ 0) (h : n ≤ 15) : unit n = 32768 / 2 ^ n := by
  unfold unit
  rw [if_neg h0, show (32768 : Nat) = 2 ^ 15 by rfl, Nat.pow_div h (by omega)]

set_option maxRecDepth 100000 in
set_option maxHeartbeats 2000000 in
theorem check_any (w : World) (v : Value) (I : Nat → Prop) (zs : List Int) (hs : SrcE intV w I v zs) (hn : zs.length ≤ 1000000) :
    Calls Tryd.prog 78 #[v] w fun e w' => e = .returned (.int .i64 (chk zs : Nat)) ∧ Same w w' := by
  obtain ⟨ao, cap, rfl, _, _⟩ := id hs
  have HC := all_any w _ I zs 0 15 hs hn
  have HS : Hid (SrcE intV w I (.slice ao zs.length cap) zs) := hs
  clear hs
  go_enter Tryd.func78, Tryd.ntmps78
  go_wp2_with fail
  refine HC.mono ?_
  rintro e w2 ⟨rfl, hk⟩
  have HK : Hid (Same w w2) := hk
  clear hk HC
  cases hok : okAll zs 0 15 with
  | false =>
    go_wp2_with fail
    go_ret
    exact ⟨by simp [chk, hok], HK.out⟩
  | true =>
    obtain ⟨e1, h0, h288, h15⟩ := okAll_nat hok
    have HCH : Hid (chk zs = chkN (zs.map Int.toNat)) := hid (by simp [chk, hok])
    have hl : (zs.map Int.toNat).length = zs.length := by simp
    have HS2 : Hid (SrcE natV w I (.slice ao zs.length cap) (zs.map Int.toNat)) := hid (SrcE.recode HS.out e1)
    generalize zs.map Int.toNat = ns at *
    rw [← hl] at HS2 h288 h0 ⊢
    clear hl hok e1 HS hn
    have H15 : Hid (∀ n ∈ ns, (n : Int) ≤ 15) := h15
    clear h15
    go_wp2_with fail
    go_loopg [3, 4, 13] ns.length (fun q zm zu zi wr => ∃ (i m u : Nat), ns.length - i ≤ q ∧ i ≤ ns.length ∧ m ≤ 16384 * 288 ∧ u ≤ 288 ∧ zi = .int .i64 (i : Nat) ∧ zm = .int .i64 (m : Nat) ∧ zu = .int .i64 (u : Nat) ∧ wr = w2 ∧ Hid (m = measure (ns.take i) ∧ u = usedN (ns.take i)))
    case atStart => exact ⟨0, 0, 0, by omega, by omega, by omega, by omega, rfl, rfl, rfl, rfl, ⟨rfl, rfl⟩⟩
    case round =>
      obtain ⟨i, m, u, hq, hi, hm, hu, rfl, rfl, rfl, rfl, HF⟩ := hrel
      by_cases hlt : i < ns.length
      · obtain ⟨b, o, cap2, e, _, _, hc⟩ := (HS2.out.same HK.out).get i hlt
        simp only [Value.slice.injEq] at e
        obtain ⟨rfl, _, rfl⟩ := e
        obtain ⟨x, hx⟩ : ∃ x, x = ns[i] := ⟨_, rfl⟩
        rw [← hx] at hc
        unfold natV at hc
        have hx15 : x ≤ 15 := by have := H15.out x (by rw [hx]; exact List.getElem_mem _); omega
        have hm2 : measure (ns.take (i + 1)) = measure (ns.take i) + unit x := by rw [List.take_succ_eq_append_getElem hlt, measure_snoc, hx]
        have hu2 : usedN (ns.take (i + 1)) = usedN (ns.take i) + (if x = 0 then 0 else 1) := by rw [List.take_succ_eq_append_getElem hlt, usedN_snoc, hx]
        have hb1 : measure (ns.take (i + 1)) ≤ 16384 * 288 := Nat.le_trans (measure_le _) (Nat.mul_le_mul_left _ (by simp; omega))
        have hb2 : usedN (ns.take (i + 1)) ≤ 288 := Nat.le_trans (usedN_le _) (by simp; omega)
        clear hx
        by_cases hx0 : x = 0
        · rw [if_pos hx0] at hu2
          have hun : unit x = 0 := by simp [unit, hx0]
          rw [hun] at hm2
          have HF2 : Hid (measure (ns.take (i + 1)) = measure (ns.take i) ∧ usedN (ns.take (i + 1)) = usedN (ns.take i)) := ⟨hm2, hu2⟩
          clear hm2 hu2 hun hb1 hb2
          rw [hx0] at hc
          go_wp2_with fail
          go_roundg (gk - 1)
          case measure => omega
          case rel => exact ⟨i + 1, m, u, by omega, by omega, hm, hu, by go_num, rfl, rfl, rfl, hid (by rw [HF2.out.1, HF2.out.2]; exact HF.out)⟩
        · rw [if_neg hx0] at hu2
          have hpos : 0 < x := by omega
          have hsh : ((32768 : Int) / 2 ^ x) = ((unit x : Nat) : Int) := by rw [unit_shift hx0 hx15]; simp
          have HF2 : Hid (measure (ns.take (i + 1)) = m + unit x ∧ usedN (ns.take (i + 1)) = u + 1) := hid ⟨by rw [hm2, HF.out.1], by rw [hu2, HF.out.2]⟩
          have hb3 : m + unit x ≤ 16384 * 288 := by rw [← HF2.out.1]; exact hb1
          have hb4 : u + 1 ≤ 288 := by rw [← HF2.out.2]; exact hb2
          clear hm2 hu2 hb1 hb2 hx0
          generalize unit x = ux at *
          go_wp2_with fail
          go_roundg (gk - 1)
          case measure => omega
          case rel => exact ⟨i + 1, m + ux, u + 1, by omega, by omega, hb3, hb4, by go_num, by go_num, by go_num, rfl, hid ⟨HF2.out.1.symm, HF2.out.2.symm⟩⟩
      · have : i = ns.length := by omega
        subst this
        have hmm : m = measure ns := by have := HF.out.1; rw [List.take_of_length_le (Nat.le_refl _)] at this; exact this
        have huu : u = usedN ns := by have := HF.out.2; rw [List.take_of_length_le (Nat.le_refl _)] at this; exact this
        have HU : Hid (m = measure ns ∧ u = usedN ns) := ⟨hmm, huu⟩
        clear hmm huu HF
        by_cases hover : 32768 < m
        · by_cases hu1 : u = 1
          · go_wp2_with fail
            go_ret
            refine ⟨?_, HK.out⟩
            rw [HCH.out, chkN, ← HU.out.1, if_pos hover]; rfl
          · have hd : ((u : Int) == 1) = false := by simp; omega
            go_wp2_with fail
            go_ret
            refine ⟨?_, HK.out⟩
            rw [HCH.out, chkN, ← HU.out.1, if_pos hover]; rfl
        · by_cases hun : m < 32768
          · by_cases hu1 : u = 1
            · by_cases hh : m = 16384
              · go_wp2_with fail
                go_ret
                refine ⟨?_, HK.out⟩
                rw [HCH.out, chkN, ← HU.out.1, ← HU.out.2, if_neg hover, if_neg (by omega), if_pos ⟨hu1, hh⟩]; rfl
              · have hd : ((m : Int) == 16384) = false := by simp; omega
                have HV : Hid (chkN ns = 31) := hid (by rw [chkN, ← HU.out.1, ← HU.out.2, if_neg hover, if_neg (by omega), if_neg (fun h => hh h.2)])
                have b1 : decide ((32768 : Int) < (m : Int)) = false := by simp; omega
                have b2 : decide ((m : Int) < 32768) = true := by simp; omega
                clear hh hun hover
                go_wp2_with fail
                go_ret
                refine ⟨?_, HK.out⟩
                rw [HCH.out, HV.out]; rfl
            · have hd : ((u : Int) == 1) = false := by simp; omega
              have HV : Hid (chkN ns = 31) := hid (by rw [chkN, ← HU.out.1, ← HU.out.2, if_neg hover, if_neg (by omega), if_neg (fun h => hu1 h.1)])
              have b1 : decide ((32768 : Int) < (m : Int)) = false := by simp; omega
              have b2 : decide ((m : Int) < 32768) = true := by simp; omega
              clear hun hover hu1
              go_wp2_with fail
              go_ret
              refine ⟨?_, HK.out⟩
              rw [HCH.out, HV.out]; rfl
          · have hm3 : m = 32768 := by omega
            by_cases hu1 : u = 1
            · go_wp2_with fail
              go_ret
              refine ⟨?_, HK.out⟩
              rw [HCH.out, chkN, ← HU.out.1, ← HU.out.2, if_neg hover, if_pos hm3]; rfl
            · have hd : ((u : Int) == 1) = false := by simp; omega
              go_wp2_with fail
              go_ret
              refine ⟨?_, HK.out⟩
              rw [HCH.out, chkN, ← HU.out.1, ← HU.out.2, if_neg hover, if_pos hm3]; rfl

end Go.Proofs.YtofhlnpbflkdlaaDoor

/-
  The reference's power, used, Measure, Check; what the law lends and gets back.
-/
namespace Go.Proofs.YtofhlnpbflkdlaaDoor
open Go.RowKit

set_option maxHeartbeats 1000000 in
theorem power_any (w : World) (n : Nat) (hn : n ≤ 15) : Calls Tryd.prog 67 #[.int .i64 (n : Nat)] w fun e w' => e = .returned (.int .i64 ((2 ^ n : Nat) : Int)) ∧ w' = w := by
  go_enter Tryd.func67, Tryd.ntmps67
  go_wp2_with fail
  go_loopg [3, 4] n (fun q zp zi wr => ∃ (i p : Nat), n - i ≤ q ∧ i ≤ n ∧ p ≤ 32768 ∧ zi = .int .i64 (i : Nat) ∧ zp = .int .i64 (p : Nat) ∧ wr = w ∧ Hid (p = 2 ^ i))
  case atStart => exact ⟨0, 1, by omega, by omega, by omega, rfl, rfl, rfl, hid rfl⟩
  case round =>
    obtain ⟨i, p, hq, hi, hp, rfl, rfl, rfl, HP⟩ := hrel
    by_cases hlt : i < n
    · have hp2 : 2 * p ≤ 32768 := by
        rw [HP.out]
        have h2 : 2 ^ (i + 1) ≤ 2 ^ 15 := Nat.pow_le_pow_right (by omega) (by omega)
        rw [Nat.pow_succ] at h2
        have h3 : (2 : Nat) ^ 15 = 32768 := by decide
        omega
      go_wp2_with fail
      go_roundg (gk - 1)
      case measure => omega
      case rel => exact ⟨i + 1, 2 * p, by omega, by omega, hp2, by go_num, by congr 1 <;> omega, rfl, hid (by rw [HP.out, Nat.pow_succ]; omega)⟩
    · have hin : i = n := by omega
      subst hin
      go_wp2_with fail
      go_ret
      exact ⟨by rw [← HP.out]; rfl, rfl⟩

set_option maxHeartbeats 1000000 in
theorem used_any (w : World) (v : Value) (I : Nat → Prop) (ns : List Nat) (hs : SrcE natV w I v ns) (hn : ns.length ≤ 1000000) :
    Calls Tryd.prog 66 #[v] w fun e w' => e = .returned (.int .i64 (usedN ns : Nat)) ∧ w' = w := by
  obtain ⟨ao, cap, rfl, hx1, hx2⟩ := id hs
  clear hx1 hx2
  have HS : Hid (SrcE natV w I (.slice ao ns.length cap) ns) := hs
  clear hs
  go_enter Tryd.func66, Tryd.ntmps66
  go_wp2_with fail
  go_loopg [3, 4] ns.length (fun q zn zi wr => ∃ (i c : Nat), ns.length - i ≤ q ∧ i ≤ ns.length ∧ c ≤ i ∧ zi = .int .i64 (i : Nat) ∧ zn = .int .i64 (c : Nat) ∧ wr = w ∧ Hid (c = usedN (ns.take i)))
  case atStart => exact ⟨0, 0, by omega, by omega, by omega, rfl, rfl, rfl, hid rfl⟩
  case round =>
    obtain ⟨i, c, hq, hi, hc, rfl, rfl, rfl, HC⟩ := hrel
    by_cases hlt : i < ns.length
    · obtain ⟨b, o, cap', e, _, _, cx⟩ := HS.out.get i hlt
      simp only [Value.slice.injEq] at e
      obtain ⟨rfl, hxe, rfl⟩ := e
      clear hxe
      obtain ⟨x, hx⟩ : ∃ x, x = ns[i] := ⟨_, rfl⟩
      rw [← hx] at cx
      unfold natV at cx
      have hu : usedN (ns.take (i + 1)) = usedN (ns.take i) + (if x = 0 then 0 else 1) := by rw [List.take_succ_eq_append_getElem hlt, usedN_snoc, hx]
      have HU : Hid (usedN (ns.take (i + 1)) = usedN (ns.take i) + (if x = 0 then 0 else 1)) := hu
      clear hx hu
      by_cases h0 : x = 0
      · have HZ : Hid (x = 0) := h0
        rw [h0] at cx
        clear h0
        go_wp2_with fail
        go_roundg (gk - 1)
        case measure => omega
        case rel => exact ⟨i + 1, c, by omega, by omega, by omega, by go_num, rfl, rfl, hid (by rw [HU.out, if_pos HZ.out, HC.out]; rfl)⟩
      · have hpos : 0 < x := by omega
        have HZ : Hid (¬ x = 0) := h0
        clear h0
        go_wp2_with fail
        go_roundg (gk - 1)
        case measure => omega
        case rel => exact ⟨i + 1, c + 1, by omega, by omega, by omega, by go_num, by go_num, rfl, hid (by rw [HU.out, if_neg HZ.out, HC.out])⟩
    · have hin : i = ns.length := by omega
      subst hin
      go_wp2_with fail
      go_ret
      have h := HC.out
      rw [List.take_of_length_le (Nat.le_refl _)] at h
      exact ⟨by rw [← h]; rfl, rfl⟩

set_option maxHeartbeats 1000000 in
theorem measure_any (w : World) (v : Value) (I : Nat → Prop) (ns : List Nat) (hs : SrcE natV w I v ns) (hn : ns.length ≤ 288) (h15 : ∀ n ∈ ns, n ≤ 15) :
    Calls Tryd.prog 65 #[v] w fun e w' => e = .returned (.int .i64 (measure ns : Nat)) ∧ w' = w := by
  obtain ⟨ao, cap, rfl, hx1, hx2⟩ := id hs
  clear hx1 hx2
  have HS : Hid (SrcE natV w I (.slice ao ns.length cap) ns) := hs
  have H15 : Hid (∀ n ∈ ns, n ≤ 15) := h15
  clear hs h15
  go_enter Tryd.func65, Tryd.ntmps65
  go_wp2_with fail
  go_loopg [3, 4] ns.length (fun q zn zi wr => ∃ (i c : Nat), ns.length - i ≤ q ∧ i ≤ ns.length ∧ c ≤ 16384 * 288 ∧ zi = .int .i64 (i : Nat) ∧ zn = .int .i64 (c : Nat) ∧ wr = w ∧ Hid (c = measure (ns.take i)))
  case atStart => exact ⟨0, 0, by omega, by omega, by omega, rfl, rfl, rfl, hid rfl⟩
  case round =>
    obtain ⟨i, c, hq, hi, hc, rfl, rfl, rfl, HC⟩ := hrel
    by_cases hlt : i < ns.length
    · obtain ⟨b, o, cap', e, _, _, cx⟩ := HS.out.get i hlt
      simp only [Value.slice.injEq] at e
      obtain ⟨rfl, hxe, rfl⟩ := e
      clear hxe
      obtain ⟨x, hx⟩ : ∃ x, x = ns[i] := ⟨_, rfl⟩
      rw [← hx] at cx
      unfold natV at cx
      have hx15 : x ≤ 15 := by rw [hx]; exact H15.out _ (List.getElem_mem _)
      have hu : measure (ns.take (i + 1)) = measure (ns.take i) + unit x := by rw [List.take_succ_eq_append_getElem hlt, measure_snoc, hx]
      have hb1 : measure (ns.take (i + 1)) ≤ 16384 * 288 := Nat.le_trans (measure_le _) (Nat.mul_le_mul_left _ (by simp; omega))
      have HU : Hid (measure (ns.take (i + 1)) = c + unit x) := hid (by rw [hu, HC.out])
      have hb2 : c + unit x ≤ 16384 * 288 := by rw [← HU.out]; exact hb1
      clear hx hu hb1
      by_cases h0 : x = 0
      · have HZ : Hid (unit x = 0) := hid (by simp [unit, h0])
        rw [h0] at cx
        clear h0 hb2
        go_wp2_with fail
        go_roundg (gk - 1)
        case measure => omega
        case rel => exact ⟨i + 1, c, by omega, by omega, by omega, by go_num, rfl, rfl, hid (by rw [HU.out, HZ.out]; rfl)⟩
      · have hpos : 0 < x := by omega
        have hux : unit x = 2 ^ (15 - x) := by rw [unit, if_neg h0]
        have HP := power_any wr (15 - x) (by omega)
        rw [← hux] at HP
        have hsub : ((15 : Int) - (x : Int)) = ((15 - x : Nat) : Int) := by omega
        generalize unit x = ux at *
        clear h0 hux
        go_wp2_with fail
        refine HP.mono ?_
        rintro e w2 ⟨rfl, rfl⟩
        clear HP
        go_wp2_with fail
        go_roundg (gk - 1)
        case measure => omega
        case rel => exact ⟨i + 1, c + ux, by omega, by omega, hb2, by go_num, by go_num, rfl, hid HU.out.symm⟩
    · have hin : i = ns.length := by omega
      subst hin
      go_wp2_with fail
      go_ret
      have h := HC.out
      rw [List.take_of_length_le (Nat.le_refl _)] at h
      exact ⟨by rw [← h]; rfl, rfl⟩

set_option maxRecDepth 100000 in
set_option maxHeartbeats 2000000 in
theorem rcheck_any (w : World) (v : Value) (I : Nat → Prop) (zs : List Int) (hs : SrcE intV w I v zs) (hn : zs.length ≤ 1000000) :
    Calls Tryd.prog 49 #[v] w fun e w' => e = .returned (.int .i64 (chk zs : Nat)) ∧ w' = w := by
  obtain ⟨ao, cap, rfl, hx1, hx2⟩ := id hs
  clear hx1 hx2
  have HS : Hid (SrcE intV w I (.slice ao zs.length cap) zs) := hs
  clear hs
  by_cases h0 : zs.length < 1
  · have HE : Hid (chk zs = 1) := hid (by simp [chk, okAll]; omega)
    have b0 : decide ((zs.length : Int) < 1) = true := by simp; omega
    go_enter Tryd.func49, Tryd.ntmps49
    go_wp2_with fail
    go_ret
    exact ⟨by rw [HE.out]; rfl, rfl⟩
  · have b0 : decide ((zs.length : Int) < 1) = false := by simp; omega
    by_cases h288 : 288 < zs.length
    · have HE : Hid (chk zs = 1) := hid (by simp [chk, okAll]; omega)
      have b1 : decide ((288 : Int) < (zs.length : Int)) = true := by simp; omega
      clear h0
      go_enter Tryd.func49, Tryd.ntmps49
      go_wp2_with fail
      go_ret
      exact ⟨by rw [HE.out]; rfl, rfl⟩
    · have b1 : decide ((288 : Int) < (zs.length : Int)) = false := by simp; omega
      go_enter Tryd.func49, Tryd.ntmps49
      go_wp2_with fail
      clear b0 b1
      go_loopg [3] zs.length (fun q zi wr => ∃ (i : Nat), zs.length - i ≤ q ∧ i ≤ zs.length ∧ zi = .int .i64 (i : Nat) ∧ wr = w ∧ Hid ((zs.take i).any (badI 0 15) = false))
      case atStart => exact ⟨0, by omega, by omega, rfl, rfl, hid (by simp)⟩
      case round =>
        obtain ⟨i, hq, hi, rfl, rfl, HF⟩ := hrel
        by_cases hlt : i < zs.length
        · obtain ⟨b, o, cap', e, _, _, cx⟩ := HS.out.get i hlt
          simp only [Value.slice.injEq] at e
          obtain ⟨rfl, hxe, rfl⟩ := e
          clear hxe
          obtain ⟨x, hx⟩ : ∃ x, x = zs[i] := ⟨_, rfl⟩
          rw [← hx] at cx
          unfold intV at cx
          have HX : Hid (x = zs[i]) := hx
          have HBAD : Hid (badI 0 15 x = true → chk zs = 1) := hid (fun h => by
            have : zs.any (badI 0 15) = true := List.any_eq_true.2 ⟨x, by rw [hx]; exact List.getElem_mem _, h⟩
            simp [chk, okAll, this])
          clear hx
          by_cases hneg : x < 0
          · have HE : Hid (chk zs = 1) := hid (HBAD.out (by simp [badI]; omega))
            go_wp2_with fail
            go_ret
            exact ⟨by rw [HE.out]; rfl, rfl⟩
          · by_cases hbig : 15 < x
            · have HE : Hid (chk zs = 1) := hid (HBAD.out (by simp [badI]; omega))
              go_wp2_with fail
              go_ret
              exact ⟨by rw [HE.out]; rfl, rfl⟩
            · have HOKX : Hid (badI 0 15 x = false) := hid (by simp [badI]; omega)
              go_wp2_with fail
              go_roundg (gk - 1)
              case measure => omega
              case rel => exact ⟨i + 1, by omega, by omega, by go_num, rfl, hid (by rw [List.take_succ_eq_append_getElem hlt, List.any_append, HF.out, ← HX.out]; simp [HOKX.out])⟩
        · have hin : i = zs.length := by omega
          have hany : zs.any (badI 0 15) = false := by have h := HF.out; rw [hin, List.take_of_length_le (Nat.le_refl _)] at h; exact h
          have hok : okAll zs 0 15 = true := by simp [okAll, hany]; omega
          obtain ⟨eN, h0', h288', h15⟩ := okAll_nat hok
          have HCH : Hid (chk zs = chkN (zs.map Int.toNat)) := hid (by simp [chk, hok])
          have hsn := HS.out.recode eN
          have hnl : (zs.map Int.toNat).length = zs.length := by simp
          generalize zs.map Int.toNat = ns at *
          have HME := measure_any wr _ I ns hsn (by omega) (fun n hn => by have := h15 n hn; omega)
          have HUS := used_any wr _ I ns hsn (by omega)
          have hml := measure_le ns
          obtain ⟨m, hm⟩ : ∃ m, m = measure ns := ⟨_, rfl⟩
          obtain ⟨u, hu⟩ : ∃ u, u = usedN ns := ⟨_, rfl⟩
          rw [← hm] at HME hml
          rw [← hu] at HUS
          have HMU : Hid (chkN ns = if 32768 < m then 30 else if m = 32768 then 0 else if u = 1 ∧ m = 16384 then 0 else 31) := hid (by rw [chkN, hm, hu])
          clear hsn hm hu hok hany h15 hin
          go_wp2_with fail
          refine HME.mono ?_
          rintro e w2 ⟨rfl, rfl⟩
          clear HME
          by_cases hover : 32768 < m
          · have HE : Hid (chk zs = 30) := hid (by rw [HCH.out, HMU.out, if_pos hover])
            have b3 : decide ((32768 : Int) < (m : Int)) = true := by simp; omega
            clear hover
            go_wp2_with fail
            go_ret
            exact ⟨by rw [HE.out]; rfl, rfl⟩
          · have b3 : decide ((32768 : Int) < (m : Int)) = false := by simp; omega
            by_cases hfull : m = 32768
            · have HE : Hid (chk zs = 0) := hid (by rw [HCH.out, HMU.out, if_neg hover, if_pos hfull])
              have b4 : ((m : Int) == 32768) = true := by simp; omega
              clear hover hfull
              go_wp2_with fail
              go_ret
              exact ⟨by rw [HE.out]; rfl, rfl⟩
            · have b4 : ((m : Int) == 32768) = false := by simp; omega
              by_cases hu1 : u = 1
              · by_cases hm2 : m = 16384
                · have HE : Hid (chk zs = 0) := hid (by rw [HCH.out, HMU.out, if_neg hover, if_neg hfull, if_pos ⟨hu1, hm2⟩])
                  have b5 : ((u : Int) == 1) = true := by simp; omega
                  have b6 : ((m : Int) == 16384) = true := by simp; omega
                  clear hover hfull hu1 hm2
                  go_wp2_with fail
                  refine HUS.mono ?_
                  rintro e w3 ⟨rfl, rfl⟩
                  go_wp2_with fail
                  go_ret
                  exact ⟨by rw [HE.out]; rfl, rfl⟩
                · have HE : Hid (chk zs = 31) := hid (by rw [HCH.out, HMU.out, if_neg hover, if_neg hfull, if_neg (fun h => hm2 h.2)])
                  have b5 : ((u : Int) == 1) = true := by simp; omega
                  have b6 : ((m : Int) == 16384) = false := by simp; omega
                  clear hover hfull hu1 hm2
                  go_wp2_with fail
                  refine HUS.mono ?_
                  rintro e w3 ⟨rfl, rfl⟩
                  go_wp2_with fail
                  go_ret
                  exact ⟨by rw [HE.out]; rfl, rfl⟩
              · have HE : Hid (chk zs = 31) := hid (by rw [HCH.out, HMU.out, if_neg hover, if_neg hfull, if_neg (fun h => hu1 h.1)])
                have b5 : ((u : Int) == 1) = false := by simp; omega
                clear hover hfull hu1
                go_wp2_with fail
                refine HUS.mono ?_
                rintro e w3 ⟨rfl, rfl⟩
                go_wp2_with fail
                go_ret
                exact ⟨by rw [HE.out]; rfl, rfl⟩

end Go.Proofs.YtofhlnpbflkdlaaDoor

/-
  keep's Ints; what the law lends and gets back.
-/
namespace Go.Proofs.YtofhlnpbflkdlaaDoor
open Go.RowKit

set_option maxHeartbeats 1000000 in
theorem keepInts_any (va vb : Value) (I J : Nat → Prop) (xs ys : List Int) (w : World) (ha : SrcE intV w I va xs) (hb : SrcE intV w J vb ys) (hx : xs.length ≤ 10000000) (hy : ys.length ≤ 10000000) :
    Calls Tryd.prog 17 #[va, vb] w fun e w' => e = .returned (.bool (decide (xs = ys))) ∧ Same w w' := by
  obtain ⟨ao, ca, rfl, hxa, hsa⟩ := id ha
  obtain ⟨bo, cb, rfl, hxb, hsb⟩ := id hb
  clear hxa hxb hsa hsb
  have HA : Hid (SrcE intV w I (.slice ao xs.length ca) xs) := ha
  have HB : Hid (SrcE intV w J (.slice bo ys.length cb) ys) := hb
  clear ha hb
  by_cases hl : xs.length = ys.length
  · have HL : Hid (xs.length = ys.length) := hl
    have hd : ((xs.length : Int) != (ys.length : Int)) = false := by simp [hl]
    clear hl
    go_enter Tryd.func17, Tryd.ntmps17
    go_wp2
    clear hd
    go_loopg [5] xs.length (fun k i wr => ∃ j : Nat, j ≤ xs.length ∧ xs.length - j ≤ k ∧ i = .int .i64 (j : Nat) ∧ Hid (Same w wr) ∧ Hid (xs.take j = ys.take j))
    case atStart => exact ⟨0, by omega, by omega, rfl, Kept.refl _ _, hid (by simp)⟩
    case round =>
      obtain ⟨j, hj, hjk, rfl, HK, HT⟩ := hrel
      by_cases hlt : j < xs.length
      · have hlt2 : j < ys.length := by have := HL.out; omega
        obtain ⟨a, oa, ca', ea, _, _, hc1⟩ := (HA.out.same HK.out).get j hlt
        obtain ⟨b, ob, cb', eb, _, _, hc2⟩ := (HB.out.same HK.out).get j hlt2
        simp only [Value.slice.injEq] at ea eb
        obtain ⟨rfl, hxe, rfl⟩ := ea
        obtain ⟨rfl, hxf, rfl⟩ := eb
        clear hxe hxf
        obtain ⟨x, hx1⟩ : ∃ x, x = xs[j] := ⟨_, rfl⟩
        obtain ⟨y, hy1⟩ : ∃ y, y = ys[j] := ⟨_, rfl⟩
        rw [← hx1] at hc1
        rw [← hy1] at hc2
        unfold intV at hc1 hc2
        have HX : Hid (x = xs[j]) := hx1
        have HY : Hid (y = ys[j]) := hy1
        clear hx1 hy1
        by_cases he : x = y
        · have hd : (x != y) = false := by simp [he]
          have HE : Hid (x = y) := he
          clear he
          go_wp2
          go_quiet (fail)
          go_wp2
          go_roundg (gk - 1)
          case measure => omega
          case rel => exact ⟨j + 1, by omega, by omega, by go_num, hid (HK.out.drewN _), hid (by rw [List.take_succ_eq_append_getElem hlt, List.take_succ_eq_append_getElem hlt2, HT.out, ← HX.out, ← HY.out, HE.out])⟩
        · have hd : (x != y) = true := by simp [he]
          have HE : Hid (¬ x = y) := he
          clear he
          go_wp2
          go_quiet (fail)
          go_wp2
          go_ret
          refine ⟨?_, HK.out.drewN _⟩
          have hne : ¬ xs = ys := by
            intro e
            subst e
            exact HE.out (HX.out.trans HY.out.symm)
          simp [hne]
      · have hjl : j = xs.length := by omega
        subst hjl
        go_wp2
        go_ret
        refine ⟨?_, HK.out⟩
        have h1 := HT.out
        rw [List.take_of_length_le (Nat.le_refl _), List.take_of_length_le (by have := HL.out; omega)] at h1
        simp [h1]
  · have hd : ((xs.length : Int) != (ys.length : Int)) = true := by simp; omega
    have HNE : Hid (¬ xs = ys) := hid (fun e => hl (by rw [e]))
    clear hl
    go_enter Tryd.func17, Tryd.ntmps17
    go_wp2
    go_ret
    exact ⟨by simp [HNE.out], Kept.refl _ _⟩

/-- copy(dst, src) of ints into a row of one's own. -/
theorem wpList_copy_ints {ops : Array Oper} {rest : List Oper} {o : Oper} {a : Act} {Q : Exit → Act → World → Prop} (w : World) (B : Nat) (hgd : o.guard = none) (d s : Operand) (ho : o.op = .call { callee := .builtin .copy, args := #[d, s], argTypes := #[22, 22] })
    (g n cap : Nat) (sp : Option Addr) (m c : Nat) (ds cs : List Int) (I : Nat → Prop) (hd : a.eval d = .slice (some ⟨g, 0, none⟩) n cap) (hs : a.eval s = .slice sp m c)
    (hrow : IRow B w (.slice (some ⟨g, 0, none⟩) n cap) ds) (hsrc : SrcE intV w I (.slice sp m c) cs) (hle : cs.length ≤ ds.length)
    (hK : ∀ w', IRow B w' (.slice (some ⟨g, 0, none⟩) n cap) (cs ++ ds.drop cs.length) → w.grownBy w' (some g) → wpList Tryd.prog ops Q rest (a.put o.dst (goInt cs.length)) w') : wpList Tryd.prog ops Q (o :: rest) a w := by
  obtain ⟨rfl, hat⟩ := hsrc.at
  have hsz : (Tryd.prog.info? 3).map (·.size) = some 1 := by kernel_rfl
  rcases hrow.2 with ⟨h', _⟩ | ⟨g', cap', cur, h', hb, hgg, hnc, hcm, hcs, htake⟩
  · simp at h'
  · simp only [Value.slice.injEq, Option.some.injEq, Addr.mk.injEq, and_true] at h'
    obtain ⟨rfl, rfl, rfl⟩ := h'
    by_cases h0 : cs = []
    · subst h0
      refine wpList_copy_nothing hgd d s _ _ ho 3 Tryd.underlying22 hsz _ _ _ _ _ _ hd hs (by simp) ?_
      exact hK w (by simpa using hrow) (World.grownBy.refl _ _)
    · obtain ⟨ad, rfl, hbytes⟩ := hat h0
      refine wpList_copy_own hgd d s _ _ ho 3 Tryd.underlying22 hsz g 0 _ _ ad _ _ hd hs cur 3 hgg (cs.map intV) (by rw [List.length_map]; exact (Nat.min_eq_left hle).symm) hbytes (by simp; omega) (intV_one _) ?_
      rw [show (goInt (cs.map intV).length) = goInt cs.length by simp]
      have e1 : (cs ++ ds.drop cs.length).length = ds.length := by simp; omega
      refine hK _ ?_ ⟨rfl, rfl, rfl, by simp, fun k _ hk => setRow_other w g k _ (fun e => hk (by simp [e]))⟩
      unfold IRow RowE
      rw [e1]
      refine ⟨by simp; omega, .inr ⟨g, cap, _, rfl, hb, setRow_heap w g cur _ 3 _ hgg, hnc, hcm, ?_, ?_⟩⟩
      · simp; omega
      · simp only [Nat.mul_one] at htake ⊢
        simp only [List.take_zero, List.nil_append, Nat.zero_add, List.length_map]
        rw [List.map_append, List.map_drop, ← htake, List.drop_take, List.take_append, List.take_of_length_le (by simpa using hle)]
        simp

/-- What is lent: the numbers, and a mark behind them. -/
structure Lent (w : World) (g : Nat) (zs : List Int) : Prop where
  row : IRow 0 w (.slice (some ⟨g, 0, none⟩) (zs.length + 1) (zs.length + 1)) (zs ++ [-77])

theorem Lent.kept {F : Nat → Prop} {w w' : World} {g : Nat} {zs : List Int} (h : Lent w g zs) (hk : Kept F w w') (hF : ¬ F g) : Lent w' g zs := ⟨h.row.kept hk (fun k e f => by simp [Value.ownBlock] at e; subst e; exact hF f)⟩

/-- The slice that is handed out. -/
theorem Lent.src {w : World} {g : Nat} {zs : List Int} (h : Lent w g zs) : SrcE intV w (fun k => k = g) (.slice (some ⟨g, 0, none⟩) zs.length (zs.length + 1)) zs :=
  (SrcE.ofRow (RowE.cut h.row)).mono (fun k e => by simp [Value.ownBlock] at e; exact e.symm)

set_option maxHeartbeats 1000000 in
theorem lent_any (w : World) (v : Value) (I : Nat → Prop) (zs : List Int) (hsrc : SrcE intV w I v zs) (hlen : zs.length ≤ 10000000) :
    Calls Tryd.prog 10 #[v] w fun e w' => ∃ g, e = .returned (.slice (some ⟨g, 0, none⟩) zs.length (zs.length + 1)) ∧ Lent w' g zs ∧ Same w w' ∧ w.heap.size ≤ g ∧ g < w'.heap.size := by
  obtain ⟨ao, cap, rfl, hx1, hx2⟩ := id hsrc
  clear hx1 hx2
  have HS : Hid (SrcE intV w I (.slice ao zs.length cap) zs) := hsrc
  clear hsrc
  go_enter Tryd.func10, Tryd.ntmps10
  go_wp2_with (first | (at_make; refine wpList_make_e _ intV 0 0 22 3 8 Tryd.underlying22 Tryd.infoI rfl (by decide) rfl _ _ rfl _ _ _ _ (zs.length + 1) rfl rfl (by omega) (by omega) (by omega) (Nat.zero_le _) ?_; intro w1 hr1 hg1 hs1; have HR : Hid (IRow 0 w1 (.slice (some ⟨w.heap.size, 0, none⟩) (zs.length + 1) (zs.length + 1)) (List.replicate (zs.length + 1) 0)) := hr1; have HK : Hid (Same w w1) := (Kept.refl _ w).grown hg1 (by simp); clear hr1 hg1) | (with_reducible refine atCopy ?_; refine wpList_copy_ints _ 0 rfl (.tmp 8) (.tmp 9) rfl w.heap.size (zs.length + 1) (zs.length + 1) ao zs.length cap (List.replicate (zs.length + 1) 0) zs I rfl rfl HR.out (HS.out.same HK.out) (by simp) ?_))
  intro w2 hr2 hg2
  have hr3 : IRow 0 w2 (.slice (some ⟨w.heap.size, 0, none⟩) (zs.length + 1) (zs.length + 1)) (zs ++ [0]) := by simpa using hr2
  have c1 : w2.cell? ⟨w.heap.size, zs.length, none⟩ = some (.int .i64 0) := by
    rw [hr3.cell zs.length (by simp)]; simp [intV]
  have f1 : w2.frozen? ⟨w.heap.size, zs.length, none⟩ = false := hr3.frozen _
  have HR2 : Hid (IRow 0 w2 (.slice (some ⟨w.heap.size, 0, none⟩) (zs.length + 1) (zs.length + 1)) (zs ++ [0])) := hr3
  have HK2 : Hid (Same w w2) := HK.out.grown hg2 (fun k e => .inr (by simp at e; omega))
  clear hr2 hr3 hg2 HR HK
  go_wp2_with fail
  go_ret
  refine ⟨w.heap.size, rfl, ⟨?_⟩, HK2.out.setCell _ _ (.inr (Nat.le_refl _)), Nat.le_refl _, ?_⟩
  · have h := HR2.out.lay zs.length (-77)
    rw [List.set_append_right _ _ (Nat.le_refl _), Nat.sub_self, List.set_cons_zero] at h
    exact h
  · have := HR2.out.lt (k := w.heap.size) rfl
    simpa [World.setCell] using this



end Go.Proofs.YtofhlnpbflkdlaaDoor
