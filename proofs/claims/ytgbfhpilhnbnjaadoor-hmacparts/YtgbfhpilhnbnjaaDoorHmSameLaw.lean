/-
  HmacSame's walk.
-/
import Derived.Test.YtgbfhpilhnbnjaaDoorHmO
namespace Go.Proofs.YtgbfhpilhnbnjaaDoor
open Go.RowKit

theorem at_buildG {P : Program} (ty : TypeId) {gd : Nat × Bool} {ops : Array Oper} {rest : List Oper} {dst : Option Tmp} {parts : Array (Nat × Operand)} {tp : TypeId} {pos : String} {af : Array Edge} {a : Act} {w : World} {Q : Exit → Act → World → Prop}
    (h : wpList P ops Q ({ dst := dst, op := .build ty parts, type := tp, pos := pos, after := af, guard := some gd } :: rest) a w) : wpList P ops Q ({ dst := dst, op := .build ty parts, type := tp, pos := pos, after := af, guard := some gd } :: rest) a w := h

theorem take_dec (xs ys : List Nat) (i : Nat) (hx : i < xs.length) (hy : i < ys.length) : decide (xs.take (i + 1) = ys.take (i + 1)) = (decide (xs.take i = ys.take i) && ((xs.getD i 0 : Int) == (ys.getD i 0 : Int))) := by
  rw [List.take_succ_eq_append_getElem hx, List.take_succ_eq_append_getElem hy, List.getD_eq_getElem?_getD, List.getD_eq_getElem?_getD, List.getElem?_eq_getElem hx, List.getElem?_eq_getElem hy]
  have hl : (xs.take i).length = (ys.take i).length := by simp; omega
  rw [Bool.eq_iff_iff, Bool.and_eq_true, decide_eq_true_iff, decide_eq_true_iff, beq_iff_eq]
  constructor
  · intro h
    have h2 := List.append_inj h hl
    have h3 : xs[i] = ys[i] := by simpa using h2.2
    exact ⟨h2.1, by simp [h3]⟩
  · rintro ⟨h1, h2⟩
    simp only [Option.getD_some] at h2
    have h3 : xs[i] = ys[i] := Int.ofNat_inj.1 h2
    rw [h1, h3]

set_option maxRecDepth 100000 in
set_option maxHeartbeats 1000000 in
theorem same15 (w : World) (xs ys : List Nat) (hx : ∀ x ∈ xs, x < 256) (hy : ∀ x ∈ ys, x < 256) (lx : xs.length = 32) (ly : ys.length = 32) (hT : Tab15 w) :
    Calls Tryd.prog 6 #[.agg (xs.map byteV).toArray, .agg (ys.map byteV).toArray] w fun e w' => e = .returned (.bool true) ∧ Same w w' := by
  have HX := hid hx
  have HY := hid hy
  have HLX := hid lx
  have HLY := hid ly
  have HT := hid hT
  clear hx hy lx ly hT
  go_enter Tryd.func6, Tryd.ntmps6
  go_wp2_with (first
    | (with_reducible refine at_boxD 24 2 ?_; refine wpl_box 24 (xs.map byteV).toArray rfl ?_; intro w1 g1 hB1 hk1 hg1 hl1; have HB1 := hid hB1; have HK1 := hid hk1; clear hB1 hk1)
    | (with_reducible refine at_boxD 24 3 ?_; refine wpl_box 24 (ys.map byteV).toArray rfl ?_; intro w2 g2 hB2 hk2 hg2 hl2; have HB2 := hid hB2; have HK2 := hid hk2; clear hB2 hk2))
  refine (hwrite_nil w2 _).mono ?_
  rintro e w3 ⟨⟨u, rfl⟩, rfl⟩
  have HB12 := hid (HB1.out.kept HK2.out (fun f => f))
  have HKW : Hid (Same w w3) := hid (HK1.out.trans HK2.out)
  clear HB1 HK1 HK2
  obtain ⟨VX, hVX⟩ : ∃ V : Value, V = .agg (xs.map byteV).toArray := ⟨_, rfl⟩
  obtain ⟨VY, hVY⟩ : ∃ V : Value, V = .agg (ys.map byteV).toArray := ⟨_, rfl⟩
  rw [← hVX, ← hVY]
  clear hVX hVY
  go_wp2_with fail
  go_loopg [6, 7] 32 (fun k s z wr => ∃ i : Nat, i ≤ 32 ∧ 32 - i ≤ k ∧ z = .int .i64 (i : Nat) ∧ ∃ b : Bool, s = .bool b ∧ Hid (b = decide (xs.take i = ys.take i)) ∧ Hid (Same w3 wr))
  case atStart => exact ⟨0, by omega, by omega, rfl, true, rfl, hid (by simp), hid (Kept.refl _ _)⟩
  case round =>
    obtain ⟨i, hi, hik, rfl, b, rfl, HBi, HKi⟩ := hrel
    by_cases hlt : i < 32
    · have c1 := (HB12.out.kept HKi.out (fun f => f)).bcell i (by rw [HLX.out]; exact hlt)
      have c2 := (HB2.out.kept HKi.out (fun f => f)).bcell i (by rw [HLY.out]; exact hlt)
      have HN := hid (take_dec xs ys i (by rw [HLX.out]; exact hlt) (by rw [HLY.out]; exact hlt))
      rw [← HBi.out] at HN
      obtain ⟨x, hx⟩ : ∃ x, x = xs.getD i 0 := ⟨_, rfl⟩
      obtain ⟨y, hy⟩ : ∃ y, y = ys.getD i 0 := ⟨_, rfl⟩
      rw [← hx] at c1 HN
      rw [← hy] at c2 HN
      have p1 : (0 : Int) ≤ (i : Int) := by omega
      have p2 : (i : Int) < 32 := by omega
      clear hx hy HBi
      cases b with
      | true =>
        go_wp2_with fail
        go_quiet (fail)
        go_wp2_with fail
        go_roundg (gk - 1)
        case measure => omega
        case rel => exact ⟨i + 1, by omega, by omega, by go_num, _, rfl, hid (by rw [HN.out]; simp), hid (HKi.out.drewN _)⟩
      | false =>
        go_wp2_with fail
        go_quiet (fail)
        go_wp2_with fail
        go_roundg (gk - 1)
        case measure => omega
        case rel => exact ⟨i + 1, by omega, by omega, by go_num, false, rfl, hid (by rw [HN.out]; rfl), hid (HKi.out.drewN _)⟩
    · have hin : i = 32 := by omega
      subst hin
      rw [List.take_of_length_le (by rw [HLX.out]; exact Nat.le_refl _), List.take_of_length_le (by rw [HLY.out]; exact Nat.le_refl _)] at HBi
      have HTr := hid ((HT.out.kept HKW.out (fun f => f)).kept HKi.out (fun f => f))
      go_wp2_with fail
      refine (awake15 wr HTr.out).mono ?_
      rintro e w4 ⟨rfl, hk4⟩
      have HK4 := hid (HKi.out.trans hk4)
      clear hk4
      go_wp2_with (first
        | (with_reducible refine at_loadG 24 27 ?_; refine wanted15 rfl ?_; refine wpl_load 24 32 _ Tryd.underlying24 rfl Tryd.size32 rfl (HB12.out.kept HK4.out (fun f => f)) (xs.map byteV) (by simp [HLX.out]) (take_all15 (by simp [HLX.out])) ?_)
        | (with_reducible refine at_loadG 24 28 ?_; refine wanted15 rfl ?_; refine wpl_load 24 32 _ Tryd.underlying24 rfl Tryd.size32 rfl (HB2.out.kept HK4.out (fun f => f)) (ys.map byteV) (by simp [HLY.out]) (take_all15 (by simp [HLY.out])) ?_))
      refine (psame_any w4 xs ys HX.out HY.out HLX.out HLY.out).mono ?_
      rintro e w5 ⟨rfl, hk5⟩
      rw [← HBi.out]
      have HK5 := hid (HK4.out.trans hk5)
      clear hk5
      have hbb : (b == b) = true := by simp
      go_wp2_with (first
        | (with_reducible refine at_loadG 24 34 ?_; refine wanted15 rfl ?_; refine wpl_load 24 32 _ Tryd.underlying24 rfl Tryd.size32 rfl (HB12.out.kept HK5.out (fun f => f)) (xs.map byteV) (by simp [HLX.out]) (take_all15 (by simp [HLX.out])) ?_)
        | (with_reducible refine at_loadG 24 35 ?_; refine wanted15 rfl ?_; refine wpl_load 24 32 _ Tryd.underlying24 rfl Tryd.size32 rfl (HB12.out.kept HK5.out (fun f => f)) (xs.map byteV) (by simp [HLX.out]) (take_all15 (by simp [HLX.out])) ?_))
      refine (psame_any w5 xs xs HX.out HX.out HLX.out HLX.out).mono ?_
      rintro e w6 ⟨rfl, hk6⟩
      rw [decide_eq_true rfl]
      have HK6 := hid (HK5.out.trans hk6)
      clear hk6
      have HSN := hsum_nil w6
      have hbu := fun (a : Act) (W : World) => built32_at a W
      have he := fun W => eq32 (List.replicate 32 0) (List.replicate 32 0) (fun x hx => by have := List.eq_of_mem_replicate hx; omega) (fun x hx => by have := List.eq_of_mem_replicate hx; omega) (by simp) (by simp) W
      rw [decide_eq_true rfl] at he
      obtain ⟨Z, hZ⟩ : ∃ Z : List Nat, Z = List.replicate 32 0 := ⟨_, rfl⟩
      rw [← hZ] at HSN hbu he
      have HBU := hid hbu
      clear hZ hbu
      go_wp2_with fail
      refine HSN.mono ?_
      rintro e w7 ⟨rfl, hk7⟩
      have HK7 := hid (HK6.out.trans hk7)
      clear hk7
      go_wp2_with (first
        | (with_reducible refine at_buildG 24 ?_; refine wanted15 rfl ?_; refine wpl_build 24 (.agg (Z.map byteV).toArray) (HBU.out _ _) ?_))
      go_ret
      exact ⟨rfl, HKW.out.trans HK7.out⟩

end Go.Proofs.YtgbfhpilhnbnjaaDoor
