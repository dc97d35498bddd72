/-
  Of the proof: parts ChLa, ChBu, ChTx, ChPm.
-/
import Derived.Test.YthignkloecfcbaaJ15
import Derived.Test.YthignkloecfcbaaJ20

/-
  Layer 12's law: large, built, Same.
-/
namespace Go.Proofs.Ythignkloecfcbaa
open Go.RowKit Go.Maps Go.Sort

/-- How many writes the first calls hold. -/
def sumW (O : Nat → Oc) (k : Nat) : Nat := ((List.range k).map (fun j => (O j).cm.n)).sum
theorem sumW_succ (O : Nat → Oc) (k : Nat) : sumW O (k + 1) = sumW O k + (O k).cm.n := by
  unfold sumW
  rw [List.range_succ, List.map_append, List.sum_append]
  simp

/-- No slice is larger than memory. -/
def SzOps (len : Nat) (O : Nat → Oc) : Prop := len ≤ 140737488351232 ∧ ∀ j, j < len → (O j).cm.n ≤ 140737488351232

theorem Ops12.cells {W : World} {I : Nat → Prop} {b o len : Nat} {O : Nat → Oc} (h : Ops12 W I (some ⟨b, o, none⟩) len O) {j : Nat} (hj : j < len) : W.cell? ⟨b, o + j * 7, none⟩ = some (.int .i64 (O j).k) ∧ W.cell? ⟨b, o + j * 7 + 1, none⟩ = some (.int .i64 (O j).cm.t) ∧ W.cell? ⟨b, o + j * 7 + 2, none⟩ = some (.slice (O j).cm.a (O j).cm.n (O j).cm.c) := by
  obtain ⟨_, b', o', e, _, _, hc⟩ := h j hj
  simp only [Option.some.injEq, Addr.mk.injEq, and_true] at e
  obtain ⟨rfl, rfl⟩ := e
  exact ⟨hc 0 _ rfl, hc 1 _ rfl, hc 2 _ rfl⟩

set_option maxRecDepth 100000 in
set_option maxHeartbeats 1000000 in
theorem clarge_any (w : World) (I : Nat → Prop) (a : Option Addr) (len cap : Nat) (O : Nat → Oc) (h : Ops12 w I a len O) (hz : SzOps len O) :
    Calls Try.prog 8 #[.slice a len cap] w fun e w' => ∃ r : Bool, e = .returned (.bool r) ∧ (r = false → len + sumW O len ≤ 2000) ∧ Same w w' := by
  have HO : Hid (Ops12 w I a len O ∧ SzOps len O) := hid ⟨h, hz⟩
  have hl := hz.1
  clear h hz
  go_enter Try.func8, Try.ntmps8
  go_wp2_with fail
  go_loopg [3, 4] len (fun q z3 z4 wr => ∃ i n : Nat, z3 = .int .i64 (n : Nat) ∧ z4 = .int .i64 (i : Nat) ∧ i ≤ len ∧ len - i ≤ q ∧ n ≤ 2000 + 140737488351232 + 140737488351232 ∧ Hid (Same w wr ∧ n = len + sumW O i))
  case atStart => exact ⟨0, len, rfl, rfl, by omega, by omega, by omega, hid ⟨Kept.refl _ _, by simp [sumW]⟩⟩
  case round =>
    obtain ⟨i, n, rfl, rfl, hi, hiq, hn, HI⟩ := hrel
    by_cases hlt : i < len
    · have c1 : decide (i < len) = true := by simp; omega
      have c1' : decide ((i : Int) < (len : Int)) = true := by simp; omega
      by_cases hn2 : n ≤ 2000
      · have c2 : decide ((n : Int) ≤ 2000) = true := by simp; omega
        have c2' : decide (n ≤ 2000) = true := by simp; omega
        obtain ⟨_, b, o, ha, _⟩ := HO.out.1 i hlt
        subst ha
        obtain ⟨_, _, k2⟩ := (HO.out.1.kept HI.out.1 (fun _ _ _ f => f)).cells hlt
        have hsz := HO.out.2.2 i hlt
        obtain ⟨x, hx⟩ : ∃ x, x = O i := ⟨_, rfl⟩
        rw [← hx] at k2 hsz
        obtain ⟨m, hm⟩ : ∃ m, m = n + x.cm.n := ⟨_, rfl⟩
        have q1 : (n : Int) + (x.cm.n : Int) = (m : Int) := by omega
        have q1w : IntKind.i64.wrap (m : Int) = (m : Int) := by rw [IntKind.wrap_i64]; omega
        have hiw : IntKind.i64.wrap ((i : Int) + 1) = ((i + 1 : Nat) : Int) := by rw [IntKind.wrap_i64]; omega
        have i1 : (0 : Int) ≤ (i : Int) := by omega
        have i2 : (i : Int) < (len : Int) := by omega
        have HM : Hid (m = len + sumW O (i + 1) ∧ m ≤ 2000 + 140737488351232) := hid ⟨by rw [sumW_succ, hm, hx, HI.out.2, Nat.add_assoc], by omega⟩
        clear hx hm hsz
        go_wp2_with fail
        go_roundg (gk - 1)
        case measure => omega
        case rel => exact ⟨i + 1, m, by go_num, by go_num, by omega, by omega, by have := HM.out.2; omega, hid ⟨HI.out.1, HM.out.1⟩⟩
      · have c2 : decide ((n : Int) ≤ 2000) = false := by simp; omega
        have c2' : decide (n ≤ 2000) = false := by simp; omega
        have c3 : decide ((2000 : Int) < (n : Int)) = true := by simp; omega
        have c3' : decide (2000 < n) = true := by simp; omega
        go_wp2_with fail
        go_ret
        exact ⟨true, rfl, fun e => (by cases e), HI.out.1⟩
    · have c1 : decide (i < len) = false := by simp; omega
      have c1' : decide ((i : Int) < (len : Int)) = false := by simp; omega
      have e : i = len := by omega
      have HE : Hid (n = len + sumW O len) := hid (by rw [← e]; have := HI.out.2; rw [e] at this ⊢; exact this)
      obtain ⟨r, hr⟩ : ∃ r, r = decide (2000 < n) := ⟨_, rfl⟩
      have c3 : decide ((2000 : Int) < (n : Int)) = r := by rw [hr]; simp; omega
      have HR : Hid (r = decide (2000 < n)) := hr
      clear e
      go_wp2_with fail
      go_ret
      refine ⟨decide (2000 < n), by first | rfl | (rw [c3, HR.out]), fun e => ?_, HI.out.1⟩
      have := HE.out
      simp at e
      omega

end Go.Proofs.Ythignkloecfcbaa

/-
  Layer 12's law: built; List and Dump in one form.
-/
namespace Go.Proofs.Ythignkloecfcbaa
open Go.RowKit Go.Maps Go.Sort

theorem sumW_le (O : Nat → Oc) {i len : Nat} (h : i ≤ len) : sumW O i ≤ sumW O len := by
  induction len with
  | zero => rw [Nat.le_zero.1 h]; exact Nat.le_refl _
  | succ n ih =>
    rcases Nat.lt_or_ge i (n + 1) with e | e
    · rw [sumW_succ]; exact Nat.le_add_right_of_le (ih (by omega))
    · rw [show i = n + 1 by omega]; exact Nat.le_refl _

/-- A store of one's own. -/
def StB (w w' : World) (p : Nat) (M : Mst) (K : Nat) : Prop := ∃ ρ, Sto K w.heap.size w' p M ρ ∧ (∀ k, k < w.heap.size → ρ k = 0) ∧ Same w w'

theorem StB.same {w w1 w2 : World} {p K : Nat} {M : Mst} (h : StB w w1 p M K) (hk : Same w1 w2) : StB w w2 p M K := by
  obtain ⟨ρ, h1, h2, h3⟩ := h
  exact ⟨ρ, h1.same hk, h2, h3.trans hk⟩

theorem StB.step {w w1 w2 : World} {p K : Nat} {M' : Mst} {ρ : Nat → Nat} (h2 : ∀ k, k < w.heap.size → ρ k = 0) (h3 : Same w w1) (hA : StoA K w.heap.size w1 p ρ M' w2) : StB w w2 p M' K := by
  obtain ⟨ρ', g1, g2, g3⟩ := hA
  exact ⟨ρ', g1, fun k hk => g2.zero (Nat.lt_of_lt_of_le hk h3.size) (h2 k hk), Kept.trans h3 g3 (fun _ _ f => f) (fun k hk e => e (h2 k hk))⟩

theorem bput {w w1 : World} {p K : Nat} {M : Mst} (h : StB w w1 p M K) (x : Cm) (hx : CmOk w1 (fun k => k < w.heap.size) x) (hK : K + 3 * x.n ≤ 100000) :
    Calls Try.prog 16 #[.pointer (some ⟨p, 0, none⟩), .agg #[.int .i64 x.t, .slice x.a x.n x.c]] w1 fun e w' => ∃ c M', e = .returned (.int .i64 c) ∧ StB w w' p M' (K + 3 * x.n) ∧ M'.floor = M.floor ∧ ((c = 120 ∧ x.t ≤ M.now ∧ M' = M) ∨ (c = 0 ∧ M.now < x.t ∧ M' = putM M x.t x.ws)) := by
  obtain ⟨ρ, h1, h2, h3⟩ := id h
  by_cases ht : x.t ≤ M.now
  · refine (xput_old h1 x.t ht x.a x.n x.c).mono ?_
    rintro e w' ⟨rfl, hk⟩
    exact ⟨120, M, rfl, ⟨ρ, (h1.more (Nat.le_add_right _ _) hK).same hk, h2, h3.trans hk⟩, rfl, .inl ⟨rfl, ht, rfl⟩⟩
  · have hl := hx.len
    refine (xput_new h1 h3.size x.t (by omega) hx.num.2 x.ws _ (fun k => k < w.heap.size) hx.src h2 (by rw [hl]; exact hK)).mono ?_
    rintro e w' ⟨rfl, hA⟩
    rw [hl] at hA
    exact ⟨0, _, rfl, StB.step h2 h3 hA, rfl, .inr ⟨rfl, by omega, rfl⟩⟩

theorem bdump {w w1 : World} {p K : Nat} {M : Mst} (h : StB w w1 p M K) (t : Int) : Calls Try.prog 15 #[.pointer (some ⟨p, 0, none⟩), .int .i64 t] w1 fun e w' => DumA w1 (visF M.V (max t M.floor)) e w' ∧ StB w w' p M K := by
  obtain ⟨ρ, ⟨s, mb, g, rfl⟩, h2, h3⟩ := id h
  refine (dump_any g t).mono ?_
  intro e w' hd
  refine ⟨hd, ?_⟩
  obtain ⟨v, As, _, _, _, _, _, hk⟩ := hd
  exact h.same hk

set_option maxRecDepth 100000 in
set_option maxHeartbeats 1000000 in
theorem built_any (w : World) (a : Option Addr) (len cap : Nat) (O : Nat → Oc) (h : Ops12 w (fun k => k < w.heap.size) a len O) (hs : len + sumW O len ≤ 2000) :
    Calls Try.prog 12 #[.slice a len cap] w fun e w' => ∃ p M, e = .returned (.pointer (some ⟨p, 0, none⟩)) ∧ StB w w' p M 6000 ∧ M.floor = 0 := by
  have HO : Hid (Ops12 w (fun k => k < w.heap.size) a len O ∧ sumW O len ≤ 2000) := hid ⟨h, by omega⟩
  have hl : len ≤ 2000 := by omega
  clear h hs
  go_enter Try.func12, Try.ntmps12
  go_wp2_with fail
  refine (xnew w).mono ?_
  rintro e w1 ⟨p, ρ, rfl, g1, g2, g3⟩
  have H1 : Hid (StB w w1 p ⟨0, 0, fun _ _ => []⟩ 0) := hid ⟨ρ, g1, g2, g3⟩
  clear g1 g2 g3
  go_wp2_with fail
  go_loopg [4] len (fun q z4 wr => ∃ (i : Nat) (M : Mst), z4 = .int .i64 (i : Nat) ∧ i ≤ len ∧ len - i ≤ q ∧ Hid (StB w wr p M (3 * sumW O i) ∧ M.floor = 0))
  case atStart => exact ⟨0, _, rfl, by omega, by omega, hid ⟨by simpa [sumW] using H1.out, rfl⟩⟩
  case round =>
    obtain ⟨i, M, rfl, hi, hiq, HI⟩ := hrel
    by_cases hlt : i < len
    · have c1 : decide (i < len) = true := by simp; omega
      have c1' : decide ((i : Int) < (len : Int)) = true := by simp; omega
      obtain ⟨_, b, o, ha, _⟩ := HO.out.1 i hlt
      subst ha
      have hsame : Same w _ := HI.out.1.choose_spec.2.2
      have hO' := HO.out.1.kept hsame (fun _ _ _ f => f)
      obtain ⟨k0, k1, k2⟩ := hO'.cells hlt
      have HX : Hid (CmOk _ (fun k => k < w.heap.size) (O i).cm) := hid (hO' i hlt).1.cm
      have HS : Hid (3 * sumW O i + 3 * (O i).cm.n = 3 * sumW O (i + 1) ∧ sumW O (i + 1) ≤ 2000) := hid ⟨by rw [sumW_succ]; omega, Nat.le_trans (sumW_le O (by omega)) HO.out.2⟩
      obtain ⟨x, hx⟩ : ∃ x, x = O i := ⟨_, rfl⟩
      rw [← hx] at k0 k1 k2 HX HS
      have hiw : IntKind.i64.wrap ((i : Int) + 1) = ((i + 1 : Nat) : Int) := by rw [IntKind.wrap_i64]; omega
      have i1 : (0 : Int) ≤ (i : Int) := by omega
      have i2 : (i : Int) < (len : Int) := by omega
      clear hx hO' hsame
      by_cases hk : x.k = 1
      · have c2 : (x.k == 1) = true := by simp [hk]
        rw [hk] at k0
        go_wp2_with fail
        refine (bput HI.out.1 x.cm HX.out (by have := HS.out; omega)).mono ?_
        rintro e w2 ⟨c, M', rfl, h1, h2, _⟩
        have H2 : Hid (StB w w2 p M' (3 * sumW O (i + 1)) ∧ M'.floor = 0) := hid ⟨by rw [← HS.out.1]; exact h1, by rw [h2]; exact HI.out.2⟩
        clear h1 h2
        go_wp2_with fail
        go_roundg (gk - 1)
        case measure => omega
        case rel => exact ⟨i + 1, M', by go_num, by omega, by omega, H2⟩
      · have c2 : (x.k == 1) = false := by simp [hk]
        go_wp2_with fail
        go_roundg (gk - 1)
        case measure => omega
        case rel =>
          obtain ⟨ρ, g1, g2, g3⟩ := HI.out.1
          exact ⟨i + 1, M, by go_num, by omega, by omega, hid ⟨⟨ρ, g1.more (by have := HS.out; omega) (by have := HS.out; omega), g2, g3⟩, HI.out.2⟩⟩
    · have c1 : decide (i < len) = false := by simp; omega
      have c1' : decide ((i : Int) < (len : Int)) = false := by simp; omega
      have e : i = len := by omega
      have HE : Hid (StB w _ p M 6000 ∧ M.floor = 0) := hid (by
        obtain ⟨⟨ρ, g1, g2, g3⟩, g4⟩ := HI.out
        rw [e] at g1
        exact ⟨⟨ρ, g1.more (by have := HO.out.2; omega) (by omega), g2, g3⟩, g4⟩)
      clear e
      go_wp2_with fail
      go_ret
      exact ⟨p, M, rfl, HE.out.1, HE.out.2⟩

end Go.Proofs.Ythignkloecfcbaa

/-
  Layer 12's law: two rows of texts that say the same; List in one form.
-/
namespace Go.Proofs.Ythignkloecfcbaa
open Go.RowKit Go.Maps Go.Sort

set_option maxRecDepth 100000 in
set_option maxHeartbeats 1000000 in
theorem texts_true (w : World) (N N' : Nat) (v v' : Value) (xs : List Nm) (h : RowE N 9 nmV w v xs) (h' : RowE N' 9 nmV w v' xs) (hl : xs.length ≤ 1000000) : Calls Try.prog 20 #[v, v'] w fun e w' => e = .returned (.bool true) ∧ Same w w' := by
  obtain ⟨a, c, hv, hg, _⟩ := h.shape
  obtain ⟨a', c', hv', hg', _⟩ := h'.shape
  obtain ⟨n, hn⟩ : ∃ n, n = xs.length := ⟨_, rfl⟩
  rw [← hn] at hv hv' hl
  subst hv hv'
  have HR : Hid (∀ w', Same w w' → RowE N 9 nmV w' (.slice a n c) xs ∧ RowE N' 9 nmV w' (.slice a' n c') xs) := hid (fun w' hk => ⟨h.kept hk (fun _ _ f => f), h'.kept hk (fun _ _ f => f)⟩)
  have HG : Hid ((xs ≠ [] → ∃ g, a = some ⟨g, 0, none⟩) ∧ (xs ≠ [] → ∃ g, a' = some ⟨g, 0, none⟩) ∧ n = xs.length ∧ n ≤ 1000000) := hid ⟨hg, hg', hn, hl⟩
  have hb1 : ((n : Int) != (n : Int)) = false := by simp
  clear h h' hg hg' hn hl
  go_enter Try.func20, Try.ntmps20
  go_wp2_with fail
  go_loopg [5] n (fun q z wr => ∃ i : Nat, n - i ≤ q ∧ i ≤ n ∧ z = .int .i64 (i : Nat) ∧ Hid (Same w wr))
  case atStart => exact ⟨0, by omega, by omega, rfl, hid (Kept.refl _ _)⟩
  case round =>
    obtain ⟨i, hq, hil, rfl, HS⟩ := hrel
    by_cases hlt : i < n
    · have hli : decide (i < n) = true := decide_eq_true hlt
      have hli2 : (i : Int) < (n : Int) := by omega
      have hlt2 : i < xs.length := by have := HG.out.2.2.1; omega
      obtain ⟨g, hg⟩ := HG.out.1 (fun e => by rw [e] at hlt2; simp at hlt2)
      obtain ⟨g', hg'⟩ := HG.out.2.1 (fun e => by rw [e] at hlt2; simp at hlt2)
      subst hg hg'
      obtain ⟨y, hy⟩ : ∃ y, y = xs[i] := ⟨_, rfl⟩
      have k0 : wr.cell? ⟨g, i, none⟩ = some (.string y.s) := by rw [hy]; exact (HR.out wr HS.out).1.cell i hlt2
      have j0 : wr.cell? ⟨g', i, none⟩ = some (.string y.s) := by rw [hy]; exact (HR.out wr HS.out).2.cell i hlt2
      have hiw : IntKind.i64.wrap ((i : Int) + 1) = ((i + 1 : Nat) : Int) := by have := HG.out.2.2.2; rw [IntKind.wrap_i64]; omega
      clear hy
      go_wp2_with fail
      go_region
      all_goals go_wp2_with fail
      all_goals go_roundg (gk - 1)
      all_goals first
        | (case measure => omega)
        | skip
      all_goals exact ⟨i + 1, by omega, by omega, by go_num, hid HS.out.drew⟩
    · have hli : decide (i < n) = false := decide_eq_false hlt
      go_wp2_with fail
      go_ret
      exact ⟨rfl, HS.out⟩

theorem blist {w w1 : World} {p K : Nat} {M : Mst} (h : StB w w1 p M K) (b : Bx) (t : Int) : Calls Try.prog 21 #[.pointer (some ⟨p, 0, none⟩), .agg #[.string b.tn, .string b.ar], .int .i64 t] w1 fun e w' => LisA w1 (fun n => isTh (M.V b n) (max t M.floor)) e w' := by
  obtain ⟨ρ, ⟨s, mb, g, rfl⟩, h2, h3⟩ := id h
  exact list_any g b t

theorem xlist {K N : Nat} {w : World} {p : Nat} {M : Mst} {ρ : Nat → Nat} (h : Sto K N w p M ρ) (b : Bx) (t : Int) : Calls Try.prog 21 #[.pointer (some ⟨p, 0, none⟩), .agg #[.string b.tn, .string b.ar], .int .i64 t] w fun e w' => LisA w (fun n => isTh (M.V b n) (max t M.floor)) e w' := by
  obtain ⟨s, mb, g, rfl⟩ := h
  exact list_any g b t

/-- A name's rows, by their order. -/
theorem lis_det {f : Nm → Bool} {L L' : List Nm} (h : RisN L ∧ ∀ n, n ∈ L ↔ f n = true) (h' : RisN L' ∧ ∀ n, n ∈ L' ↔ f n = true) : L = L' :=
  strict_ext (R := fun a b : Nm => bysN a < bysN b) (fun _ => List.lt_irrefl _) (fun _ _ _ => List.lt_trans) h.1 h'.1 (fun x => by rw [h.2, h'.2])

end Go.Proofs.Ythignkloecfcbaa

/-
  Layer 12's law ChainPrunes: its mathematics, and the calls.
-/
namespace Go.Proofs.Ythignkloecfcbaa
open Go.RowKit Go.Maps Go.Sort

theorem upV_drop {l : List Ver} (h : RisV l) (t : Int) {d : Nat} (hd : d ≤ upV l t) : upV (l.drop d) t = upV l t - d := by
  have hl := upV_le l t
  have h1 : (l.take d).countP (fun v => decide (v.t ≤ t)) = d := by
    have h2 : (l.take d).countP (fun v => decide (v.t ≤ t)) = (l.take d).length := List.countP_eq_length.2 (fun a ha => by
      have h3 : a ∈ l.take (upV l t) := (List.take_subset_take_left l hd) ha
      rw [upV_take h] at h3
      exact (List.mem_filter.1 h3).2)
    rw [h2, List.length_take]; omega
  have h4 : upV l t = (l.take d).countP (fun v => decide (v.t ≤ t)) + (l.drop d).countP (fun v => decide (v.t ≤ t)) := by
    conv => lhs; rw [← List.take_append_drop d l]
    exact List.countP_append
  have h5 : (l.drop d).countP (fun v => decide (v.t ≤ t)) = upV (l.drop d) t := rfl
  omega

theorem pruV_twice {l : List Ver} (h : RisV l) (f : Int) : pruV (pruV l f) f = pruV l f := by
  by_cases ht : (newV l f).there = true
  · have h0 : upV l f ≠ 0 := by
      intro e
      unfold newV at ht
      rw [if_pos e] at ht
      exact absurd ht (by decide)
    have e1 : pruV l f = l.drop (upV l f - 1) := by unfold pruV; rw [if_pos ht]
    have hu := upV_drop h f (d := upV l f - 1) (by omega)
    have hu1 : upV (l.drop (upV l f - 1)) f = 1 := by omega
    have hn : newV (l.drop (upV l f - 1)) f = newV l f := by
      unfold newV
      rw [hu1, if_neg (by decide), if_neg h0]
      simp [List.getD_eq_getElem?_getD]
    rw [e1]
    conv => lhs; unfold pruV
    rw [hn, if_pos ht, hu1]
    rfl
  · have e1 : pruV l f = l.drop (upV l f) := by unfold pruV; rw [if_neg ht]
    have hu1 : upV (l.drop (upV l f)) f = 0 := by rw [upV_drop h f (Nat.le_refl _)]; omega
    rw [e1]
    conv => lhs; unfold pruV
    rw [hu1]
    split <;> rfl

section
variable {w w1 : World} {p K : Nat} {M : Mst}

theorem StB.ris (h : StB w w1 p M K) (b : Bx) (n : Nm) : RisV (M.V b n) := by
  obtain ⟨ρ, h1, h2, h3⟩ := h
  exact (h1.vok b n).ris
theorem StB.nums (h : StB w w1 p M K) : 0 ≤ M.floor ∧ M.floor ≤ M.now ∧ M.now ≤ 9223372036854775807 := by
  obtain ⟨ρ, h1, h2, h3⟩ := h
  exact h1.nums
theorem StB.below (h : StB w w1 p M K) : Same w w1 := by
  obtain ⟨ρ, h1, h2, h3⟩ := h
  exact h3

theorem bnow (h : StB w w1 p M K) : Calls Try.prog 13 #[.pointer (some ⟨p, 0, none⟩)] w1 fun e w' => e = .returned (.int .i64 M.now) ∧ Same w1 w' := by
  obtain ⟨ρ, h1, h2, h3⟩ := id h
  refine (xnow h1).mono ?_
  rintro e w' ⟨rfl, rfl⟩
  exact ⟨rfl, Kept.refl _ _⟩

theorem bversions (h : StB w w1 p M K) : Calls Try.prog 18 #[.pointer (some ⟨p, 0, none⟩)] w1 fun e w' => ∃ m : Nat, e = .returned (.int .i64 (m : Nat)) ∧ TotIs M.V m ∧ Same w1 w' := by
  obtain ⟨ρ, h1, h2, h3⟩ := id h
  exact xversions h1

/-- The store behind Prune. -/
def prM (M : Mst) (t : Int) : Mst := if t ≤ M.floor then M else pruM M (min t M.now)

theorem bprune {ρ : Nat → Nat} (h1 : Sto K w.heap.size w1 p M ρ) (h2 : ∀ k, k < w.heap.size → ρ k = 0) (h3 : Same w w1) (t : Int) : Calls Try.prog 19 #[.pointer (some ⟨p, 0, none⟩), .int .i64 t] w1 fun e w' => ∃ (k : Nat) (ρ' : Nat → Nat), e = .returned (.int .i64 (k : Nat)) ∧ (Sto K w.heap.size w' p (prM M t) ρ' ∧ (∀ k, k < w.heap.size → ρ' k = 0) ∧ Same w w') ∧ (∀ k, k < w1.heap.size → ρ k = 0 → ρ' k = 0) ∧ Kept (fun k => ρ k ≠ 0) w1 w' ∧ ∀ m, TotIs M.V m → ∃ m', TotIs (prM M t).V m' ∧ m' + k = m := by
  by_cases ht : t ≤ M.floor
  · refine (xprune_old h1 t ht).mono ?_
    rintro e w' ⟨rfl, hk⟩
    have e1 : prM M t = M := if_pos ht
    rw [e1]
    exact ⟨0, ρ, rfl, ⟨h1.same hk, h2, h3.trans hk⟩, fun _ _ e => e, hk.mono (fun _ _ f => f.elim), fun m hm => ⟨m, hm, rfl⟩⟩
  · refine (xprune_new h1 t (by omega)).mono ?_
    rintro e w' ⟨k, rfl, hA, hT⟩
    have e1 : prM M t = pruM M (min t M.now) := if_neg ht
    rw [e1]
    obtain ⟨ρ', g1, g2, g3⟩ := hA
    exact ⟨k, ρ', rfl, ⟨g1, fun k hk => g2.zero (Nat.lt_of_lt_of_le hk h3.size) (h2 k hk), Kept.trans h3 g3 (fun _ _ f => f) (fun k hk e => e (h2 k hk))⟩, fun k hk e => g2.zero hk e, g3, hT⟩

theorem prM_floor (hn : 0 ≤ M.floor ∧ M.floor ≤ M.now) (t : Int) : (prM M t).floor = max M.floor (min t M.now) ∧ (prM M t).now = M.now := by
  unfold prM
  split
  · constructor
    · omega
    · rfl
  · constructor
    · show min t M.now = _; omega
    · rfl

/-- Pruned once more: nothing goes. -/
theorem prM_twice (hn : 0 ≤ M.floor ∧ M.floor ≤ M.now) (hr : ∀ b n, RisV (M.V b n)) (t : Int) : (prM (prM M t) t).V = (prM M t).V := by
  have hf := (prM_floor hn t)
  unfold prM at hf ⊢
  by_cases h1 : t ≤ M.floor
  · simp only [if_pos h1]
  · simp only [if_neg h1]
    by_cases h2 : t ≤ (pruM M (min t M.now)).floor
    · simp only [if_pos h2]
    · simp only [if_neg h2]
      funext b n
      exact pruV_twice (hr b n) _

theorem prM_vis (hr : ∀ b n, RisV (M.V b n)) (t u : Int) (hu : min t M.now ≤ u) : visF (prM M t).V u = visF M.V u := by
  unfold prM
  split
  · rfl
  · funext b n
    exact visV_prune (hr b n) hu

end

end Go.Proofs.Ythignkloecfcbaa
