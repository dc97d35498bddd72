/-
  Layer 17, the reference: Check.
-/
import Derived.Test.YtjlkchjcmiljjaaDoorTns
import Derived.Test.YtjlkchjcmiljjaaDoorSh11
namespace Go.Proofs.YtjlkchjcmiljjaaDoor
open Go.RowKit Go.Shelf Go.Maps

theorem good_step17 {xs : List Tn} {i : Nat} {x : Tn} (h : GoodT (xs.take i)) (hx : xs.take (i + 1) = xs.take i ++ [x]) (hb : tnB x = true) (hn : ∀ y ∈ xs.take i, y.n ≠ x.n) : GoodT (xs.take (i + 1)) := by
  rw [hx]
  refine ⟨fun y hy => ?_, ?_⟩
  · rcases List.mem_append.1 hy with hy | hy
    · exact h.1 y hy
    · rw [List.mem_singleton] at hy; rw [hy]; exact hb
  · rw [List.pairwise_append]
    exact ⟨h.2, List.pairwise_singleton _ _, fun a ha b hb' => by rw [List.mem_singleton] at hb'; rw [hb']; exact hn a ha⟩

theorem bad_twice17 {xs : List Tn} {i : Nat} {x y : Tn} (hx : xs.take (i + 1) = xs.take i ++ [x]) (hy : y ∈ xs.take i) (e : y.n = x.n) : ¬ GoodT xs := fun hG => by
  have h2 : xs = xs.take i ++ (x :: xs.drop (i + 1)) := by
    have h3 := List.take_append_drop (i + 1) xs
    rw [hx, List.append_assoc] at h3
    exact h3.symm
  have h4 := hG.2
  rw [h2, List.pairwise_append] at h4
  exact h4.2.2 y hy x (by simp) e

/-- The ways in which a tenant may not be, behind its name. -/
theorem ten_ways {x : Tn} (hs : sho x.n = true) (hb : tnB x = false) : decide ((64 : Int) < (x.k.size : Int)) = true ∨ (decide ((64 : Int) < (x.k.size : Int)) = false ∧ decide (x.b < 0) = true) ∨ (decide ((64 : Int) < (x.k.size : Int)) = false ∧ decide (x.b < 0) = false ∧ decide (1000000000 < x.b) = true) ∨ (decide ((64 : Int) < (x.k.size : Int)) = false ∧ decide (x.b < 0) = false ∧ decide (1000000000 < x.b) = false ∧ decide (x.e < 0) = true) ∨ (decide ((64 : Int) < (x.k.size : Int)) = false ∧ decide (x.b < 0) = false ∧ decide (1000000000 < x.b) = false ∧ decide (x.e < 0) = false ∧ decide (1000000000 < x.e) = true) := by
  unfold tnB shrB at hb
  rw [hs, Bool.true_and] at hb
  have h9 : ¬ (x.k.size ≤ 64 ∧ (0 ≤ x.b ∧ x.b ≤ 1000000000) ∧ 0 ≤ x.e ∧ x.e ≤ 1000000000) := fun ⟨h1, h2, h3⟩ => by
    rw [decide_eq_true h1, decide_eq_true h2, decide_eq_true h3] at hb
    cases hb
  simp only [decide_eq_true_eq, decide_eq_false_iff_not]
  by_cases g0 : (64 : Int) < (x.k.size : Int)
  · exact .inl g0
  by_cases g1 : x.b < 0
  · exact .inr (.inl ⟨g0, g1⟩)
  by_cases g2 : 1000000000 < x.b
  · exact .inr (.inr (.inl ⟨g0, g1, g2⟩))
  by_cases g3 : x.e < 0
  · exact .inr (.inr (.inr (.inl ⟨g0, g1, g2, g3⟩)))
  by_cases g4 : 1000000000 < x.e
  · exact .inr (.inr (.inr (.inr ⟨g0, g1, g2, g3, g4⟩)))
  exact absurd ⟨by omega, ⟨by omega, by omega⟩, by omega, by omega⟩ h9

theorem ten_good {x : Tn} (hb : tnB x = true) : sho x.n = true ∧ decide ((64 : Int) < (x.k.size : Int)) = false ∧ decide (x.b < 0) = false ∧ decide (1000000000 < x.b) = false ∧ decide (x.e < 0) = false ∧ decide (1000000000 < x.e) = false := by
  unfold tnB shrB at hb
  simp only [Bool.and_eq_true, decide_eq_true_eq] at hb
  simp only [decide_eq_false_iff_not]
  exact ⟨hb.1, by omega, by omega, by omega, by omega, by omega⟩

set_option maxRecDepth 100000 in
set_option maxHeartbeats 4000000 in
theorem rqcheck_any (w : World) (ao : Option Addr) (n c : Nat) (xs : List Tn) (I : Nat → Prop) (h : SrcC 4 tnE w I (.slice ao n c) xs) : Calls Tryd.prog 8 #[.slice ao n c] w fun e w' => (∃ z, e = .returned (.int .i64 z) ∧ CkT xs z) ∧ Same w w' := by
  have HS := hid h
  have HN := hid h.len4
  clear h
  by_cases h8 : 8 < n
  · have h8i : (8 : Int) < (n : Int) := by omega
    have H8 := hid h8
    clear h8
    go_enter Tryd.func8, Tryd.ntmps8
    go_wp2_with fail
    go_ret
    exact ⟨⟨_, rfl, .inl ⟨by rw [← HN.out.1]; exact H8.out, rfl⟩⟩, Kept.refl _ _⟩
  · have h8i : decide ((8 : Int) < (n : Int)) = false := by simp; omega
    have H8 : Hid (n ≤ 8) := hid (by omega)
    clear h8
    go_enter Tryd.func8, Tryd.ntmps8
    go_wp2_with fail
    go_loopg [3] n (fun qq z3 wr => ∃ i : Nat, z3 = .int .i64 (i : Nat) ∧ i ≤ n ∧ n - i ≤ qq ∧ Hid (Same w wr ∧ GoodT (xs.take i)))
    case atStart => exact ⟨0, rfl, by omega, by omega, hid ⟨Kept.refl _ _, fun t ht => (by cases ht), List.Pairwise.nil⟩⟩
    case round =>
      obtain ⟨i, rfl, hi, hiq, HI⟩ := hrel
      by_cases hlt : i < n
      · have e1 : decide ((i : Int) < (n : Int)) = true := by simp; omega
        have e2 : decide (i < n) = true := by simp; omega
        obtain ⟨b, o, x, rfl, _, hx, k0, k1, k2, k3⟩ := HS.out.at4 i hlt
        have k0 := HI.out.1.cell k0 (fun f => f)
        have k1 := HI.out.1.cell k1 (fun f => f)
        have k2 := HI.out.1.cell k2 (fun f => f)
        have k3 := HI.out.1.cell k3 (fun f => f)
        have c1 : (0 : Int) ≤ (i : Int) := by omega
        have c2 : (i : Int) < (n : Int) := by omega
        have hiw : IntKind.i64.wrap ((i : Int) + 1) = ((i + 1 : Nat) : Int) := by rw [IntKind.wrap_i64]; have := H8.out; omega
        have HLT := hid hlt
        have HTK : Hid (xs.take (i + 1) = xs.take i ++ [x]) := hid (by rw [List.take_add_one, hx]; rfl)
        have HXM : Hid (x ∈ xs) := hid (List.mem_of_getElem? hx)
        have HBAD : Hid (tnB x = false → ¬ GoodT xs) := hid (fun e hG => by have := hG.1 x HXM.out; rw [e] at this; cases this)
        obtain ⟨W4, hW4⟩ : ∃ W, W = wr.alloc (.cells #[.string x.n, .string x.k, .int .i64 x.b, .int .i64 x.e] 29) := ⟨_, rfl⟩
        obtain ⟨tb, htb⟩ : ∃ b, b = wr.heap.size := ⟨_, rfl⟩
        have HC4 : Hid (Blk W4 tb #[.string x.n, .string x.k, .int .i64 x.b, .int .i64 x.e] 29) := hid (by rw [hW4, htb]; exact Blk.new wr _ _)
        have HK4 : Hid (Same w W4) := hid (by rw [hW4]; exact HI.out.1.alloc _)
        obtain ⟨c0, _, _, _⟩ := HC4.out.c4
        obtain ⟨sh, hsh⟩ : ∃ s, s = sho x.n := ⟨_, rfl⟩
        have HSH := short11_any W4 x.n
        rw [← hsh] at HSH
        have HSX := hid hsh
        clear hsh hx hlt
        go_upto_region 7 with fail
        rw [← hW4, ← htb]
        clear hW4 htb k0 k1 k2 k3
        go_wp2_with fail
        refine HSH.mono ?_
        rintro e w2 ⟨rfl, hk2⟩
        have HK2 := hid (Same.trans HK4.out hk2)
        have HC2 := hid (HC4.out.kept hk2 (fun f => f))
        obtain ⟨c0', c1', c2', c3'⟩ := HC2.out.c4
        clear hk2 HSH c0
        cases sh with
        | false =>
          have HB := hid (HBAD.out (by unfold tnB; rw [← HSX.out]; rfl))
          go_wp2_with fail
          go_ret
          exact ⟨⟨_, rfl, .inr (.inl ⟨by rw [← HN.out.1]; exact H8.out, HB.out, rfl⟩)⟩, HK2.out⟩
        | true =>
          cases htn : tnB x with
          | false =>
            have HB := hid (HBAD.out htn)
            have hd := ten_ways HSX.out.symm htn
            clear htn
            rcases hd with d0 | ⟨d0, d1⟩ | ⟨d0, d1, d2⟩ | ⟨d0, d1, d2, d3⟩ | ⟨d0, d1, d2, d3, d4⟩
            all_goals
              go_wp2_with fail
              go_ret
              exact ⟨⟨_, rfl, .inr (.inl ⟨by rw [← HN.out.1]; exact H8.out, HB.out, rfl⟩)⟩, HK2.out⟩
          | true =>
            obtain ⟨_, d0, d1, d2, d3, d4⟩ := ten_good htn
            have HTT := hid htn
            obtain ⟨gk0, hgk0⟩ : ∃ g, g = gk := ⟨_, rfl⟩
            have HGK := hid hgk0
            clear hgk0 htn
            go_wp2_with fail
            go_loopg [5] i (fun qq z4 wk => ∃ k : Nat, z4 = .int .i64 (k : Nat) ∧ k ≤ i ∧ i - k ≤ qq ∧ Hid (Same w2 wk) ∧ Hid (∀ y ∈ xs.take k, y.n ≠ x.n))
            case atStart => exact ⟨0, rfl, by omega, by omega, hid (Kept.refl _ _), hid (fun y hy => (by cases hy))⟩
            case round =>
              obtain ⟨k, rfl, hk, hkq, HWK, HKI⟩ := hrel
              clear c0' c1' c2' c3'
              by_cases hkl : k < i
              · have f1 : decide ((k : Int) < (i : Int)) = true := by simp; omega
                have f2 : decide (k < i) = true := by simp; omega
                obtain ⟨b', o', y, hbo, _, hy, j0, _, _, _⟩ := HS.out.at4 k (by omega)
                injection hbo with hbo
                injection hbo with hbo1 hbo2
                subst hbo1 hbo2
                have j0 := (Same.trans HK2.out HWK.out).cell j0 (fun f => f)
                obtain ⟨m0, _, _, _⟩ := (HC2.out.kept HWK.out (fun f => f)).c4
                have j0d : (World.drew _).cell? _ = _ := (show Same _ (World.drew _) from (Kept.refl _ _).drew).cell j0 (fun f => f)
                have m0d : (World.drew _).cell? _ = _ := (show Same _ (World.drew _) from (Kept.refl _ _).drew).cell m0 (fun f => f)
                have g1 : (0 : Int) ≤ (k : Int) := by omega
                have g2 : (k : Int) < (n : Int) := by omega
                have hkw : IntKind.i64.wrap ((k : Int) + 1) = ((k + 1 : Nat) : Int) := by rw [IntKind.wrap_i64]; have := H8.out; omega
                have HYT : Hid (xs.take (k + 1) = xs.take k ++ [y]) := hid (by rw [List.take_add_one, hy]; rfl)
                have HYM : Hid (y ∈ xs.take i) := hid (List.mem_take_iff_getElem.2 ⟨k, by have := (List.getElem?_eq_some_iff.1 hy).1; omega, (List.getElem?_eq_some_iff.1 hy).2⟩)
                have heq := str_eqT y.n x.n
                have HKL := hid hkl
                clear hy hkl
                by_cases he : y.n = x.n
                · rw [decide_eq_true he] at heq
                  have HB := hid (bad_twice17 HTK.out HYM.out he)
                  clear he
                  go_wp2_with fail
                  go_region
                  go_wp2_with fail
                  go_ret
                  exact ⟨⟨_, rfl, .inr (.inl ⟨by rw [← HN.out.1]; exact H8.out, HB.out, rfl⟩)⟩, (Same.trans HK2.out HWK.out).drew⟩
                · rw [decide_eq_false he] at heq
                  have HNX : Hid (∀ z ∈ xs.take (k + 1), z.n ≠ x.n) := hid (fun z hz => by
                    rw [HYT.out] at hz
                    rcases List.mem_append.1 hz with hz | hz
                    · exact HKI.out z hz
                    · rw [List.mem_singleton] at hz; rw [hz]; exact he)
                  clear he
                  go_wp2_with fail
                  go_region
                  go_wp2_with fail
                  go_roundg (gk - 1)
                  case measure => have := HKL.out; omega
                  case rel => exact ⟨k + 1, by go_num, HKL.out, by omega, hid HWK.out.drew, HNX⟩
              · have f1 : decide ((k : Int) < (i : Int)) = false := by simp; omega
                have f2 : decide (k < i) = false := by simp; omega
                obtain rfl : k = i := by omega
                have HGN := hid (good_step17 HI.out.2 HTK.out HTT.out HKI.out)
                clear hkl
                go_wp2_with fail
                go_roundg (gk0 - 1)
                case measure => have := HLT.out; have := HGK.out; omega
                case rel => exact ⟨k + 1, by go_num, HLT.out, by have := HGK.out; omega, hid ⟨Same.trans HK2.out HWK.out, HGN.out⟩⟩
      · have e1 : decide ((i : Int) < (n : Int)) = false := by simp; omega
        have e2 : decide (i < n) = false := by simp; omega
        have HG : Hid (GoodT xs) := hid (by have h9 := HI.out.2; rw [List.take_of_length_le (by have := HN.out; omega)] at h9; exact h9)
        clear hlt
        go_wp2_with fail
        go_ret
        exact ⟨⟨_, rfl, .inr (.inr ⟨by rw [← HN.out.1]; exact H8.out, HG.out, rfl⟩)⟩, HI.out.1⟩

end Go.Proofs.YtjlkchjcmiljjaaDoor
