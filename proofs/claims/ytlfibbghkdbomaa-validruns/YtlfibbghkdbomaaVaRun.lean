/-
  Layer 13's law ValidRuns: a set knows just what was noted and staged, and finds just the commits that clash.
-/
import Derived.Test.YtlfibbghkdbomaaVaZ
namespace Go.Proofs.Ytlfibbghkdbomaa
open Go.RowKit Go.Maps Go.Sort Go.Shelf

set_option maxRecDepth 100000 in
set_option maxHeartbeats 4000000 in
theorem validRuns_all (t : Int) (a : Option Addr) (len cap : Nat) (os : List Ov) (w : World) (_ht : (Lit.int .i64 t).wf = true) (hos : SrcC 8 ovC w (fun j => j < w.heap.size) (.slice a len cap) os ∧ os.length = len ∧ len ≤ 9223372036854775807 ∧ ∀ o ∈ os, OvOk w (fun j => j < w.heap.size) o) :
    Calls Try.prog 3 #[.int .i64 t, .slice a len cap] w fun e w' => e = .returned (.bool true) ∧ Below w.heap.size w w' := by
  suffices H : Calls Try.prog 3 #[.int .i64 t, .slice a len cap] w fun e w' => e = .returned (.bool true) ∧ Kept (fun k => w.heap.size ≤ k) w w' from H.mono (fun e w' h => ⟨h.1, (show Same w w' from h.2.mono (fun k hk e => by omega)).bel13⟩)
  clear _ht
  by_cases hbig : 1000 < len
  · have p1 : decide ((1000 : Int) < (len : Int)) = true := decide_eq_true (by omega)
    clear hbig hos
    go_enter Try.func3, Try.ntmps3
    go_wp2_with fail
    go_ret
    exact ⟨rfl, Kept.refl _ _⟩
  · have p1 : decide ((1000 : Int) < (len : Int)) = false := decide_eq_false (by omega)
    have HL : Hid (os.length = len ∧ len ≤ 1000) := hid ⟨hos.2.1, by omega⟩
    have HO : Hid (∀ i (hi : i < os.length), OvOk w (fun j => j < w.heap.size) os[i] ∧ ∃ b o, a = some ⟨b, o, none⟩ ∧ b < w.heap.size ∧ ∀ q u, q < 8 → (ovC os[i])[q]? = some u → w.cell? ⟨b, o + (i * 8 + q), none⟩ = some u) := hid (fun i hi => by
      refine ⟨hos.2.2.2 _ (List.getElem_mem _), ?_⟩
      obtain ⟨ao, cap', hsl, _, hcel⟩ := hos.1
      obtain ⟨b, o, hao, hb, hcc⟩ := hcel (fun e => by rw [e] at hi; simp at hi)
      simp only [Value.slice.injEq] at hsl
      exact ⟨b, o, by rw [hsl.1, hao], hb, fun q u hq e => by rw [hcc i hi q hq, e]⟩)
    clear hbig hos
    go_enter Try.func3, Try.ntmps3
    go_wp2_with fail
    go_loopg [5] len (fun q z wr => ∃ i : Nat, len - i ≤ q ∧ i ≤ len ∧ z = .int .i64 (i : Nat) ∧ wr = w)
    case atStart => exact ⟨0, by omega, by omega, rfl, rfl⟩
    case round =>
      obtain ⟨i, hq, hil, rfl, hw⟩ := hrel
      have hw9 := hw.symm
      subst hw9
      by_cases hlt : i < len
      · have hli : decide (i < len) = true := decide_eq_true hlt
        have hli2 : (i : Int) < (len : Int) := by omega
        have hlt2 : i < os.length := by have := HL.out.1; omega
        obtain ⟨hok, b, o, ha, _, hcc⟩ := HO.out i hlt2
        subst ha
        obtain ⟨y, hy⟩ : ∃ y, y = os[i] := ⟨_, rfl⟩
        rw [← hy] at hcc
        have k7 := hcc 7 (.slice y.ca y.cn y.cc) (by decide) rfl
        simp only [← Nat.add_assoc] at k7
        have hiw : IntKind.i64.wrap ((i : Int) + 1) = ((i + 1 : Nat) : Int) := by have := HL.out.2; rw [IntKind.wrap_i64]; omega
        clear hok hcc hy
        by_cases hm : 1000 < y.cn
        · have m1 : decide ((1000 : Int) < (y.cn : Int)) = true := decide_eq_true (by omega)
          clear hm
          go_wp2_with fail
          go_ret
          exact ⟨rfl, Kept.refl _ _⟩
        · have m1 : decide ((1000 : Int) < (y.cn : Int)) = false := decide_eq_false (by omega)
          clear hm
          go_wp2_with fail
          go_roundg (gk - 1)
          case measure => omega
          case rel => exact ⟨i + 1, by omega, by omega, by go_num, rfl⟩
      · have hli : decide (i < len) = false := decide_eq_false hlt
        clear hlt hq hil
        go_wp2_with fail
        clear hli
        refine (xvnew w t).mono ?_
        rintro e w1 ⟨p, J, rfl, hx1, hJ1, hk1⟩
        obtain ⟨w2, hw2⟩ : ∃ W, W = w1.alloc (.cells #[.int .i64 t, .slice none 0 0, .slice none 0 0, .slice none 0 0] 37) := ⟨_, rfl⟩
        obtain ⟨rp, hrp⟩ : ∃ x, x = w1.heap.size := ⟨_, rfl⟩
        have hk2 : Same w1 w2 := by rw [hw2]; exact (Kept.refl _ _).alloc _
        have HT2 : Hid (T13 0 w.heap.size w2 p J (mv0 t) rp ⟨t, [], [], []⟩ ∧ Kept (fun k => w.heap.size ≤ k) w w2) := hid ⟨⟨.slice none 0 0, .slice none 0 0, .slice none 0 0, hx1.same hk2, { blk := by rw [hw2, hrp]; exact Blk.new w1 _ _, r1 := RowC.nil, r2 := RowC.nil, r3 := RowC.nil, np := by rw [hrp]; exact hk1.size, lens := ⟨Nat.zero_le _, Nat.zero_le _, Nat.zero_le _⟩ }, hJ1, ⟨rfl, fun _ => rfl, fun _ => rfl, List.Pairwise.nil, fun r => ⟨fun e => (by cases e), fun e => (by cases e)⟩⟩, Nat.le_refl _, Nat.le_refl _, Nat.le_refl _, Nat.le_trans hk1.size hk2.size⟩, (hk1.trans hk2).mono (fun _ _ f => f.elim)⟩
        clear hx1 hJ1 hk1 hk2
        go_wp2_with fail
        rw [← hw2, ← hrp]
        clear hw2 hrp
        go_loopg [8] len (fun q z wr => ∃ j : Nat, len - j ≤ q ∧ j ≤ len ∧ z = .int .i64 (j : Nat) ∧ Hid (∃ M s, T13 j w.heap.size wr p J M rp s ∧ M.t = t ∧ Kept (fun k => w.heap.size ≤ k) w wr))
        case atStart => exact ⟨0, by omega, by omega, rfl, hid ⟨_, _, HT2.out.1, rfl, HT2.out.2⟩⟩
        case round =>
          obtain ⟨j, hq, hjl, rfl, HI⟩ := hrel
          obtain ⟨M, s, hT, hMt, hkw⟩ := HI.out
          by_cases hlt : j < len
          · have hli : decide (j < len) = true := decide_eq_true hlt
            have hli2 : (j : Int) < (len : Int) := by omega
            have hlt2 : j < os.length := by have := HL.out.1; omega
            obtain ⟨hok, b, o, ha, hb, hcc⟩ := HO.out j hlt2
            subst ha
            obtain ⟨y, hy⟩ : ∃ y, y = os[j] := ⟨_, rfl⟩
            rw [← hy] at hcc hok
            have hcw : ∀ q u, q < 8 → (ovC y)[q]? = some u → wr.cell? ⟨b, o + (j * 8 + q), none⟩ = some u := fun q u hq e => hkw.cell (hcc q u hq e) (by show ¬ w.heap.size ≤ b; omega)
            have k0 := hcw 0 (.int .i64 y.k) (by decide) rfl
            have k1 := hcw 1 (.string y.ky.1.tn) (by decide) rfl
            have k2 := hcw 2 (.string y.ky.1.ar) (by decide) rfl
            have k3 := hcw 3 (.string y.ky.2.s) (by decide) rfl
            have k4 := hcw 4 (.string y.bx.tn) (by decide) rfl
            have k5 := hcw 5 (.string y.bx.ar) (by decide) rfl
            have k6 := hcw 6 (.string y.d) (by decide) rfl
            have k7 := hcw 7 (.slice y.ca y.cn y.cc) (by decide) rfl
            rw [Nat.add_zero] at k0
            simp only [← Nat.add_assoc] at k1 k2 k3 k4 k5 k6 k7
            have hiw : IntKind.i64.wrap ((j : Int) + 1) = ((j + 1 : Nat) : Int) := by have := HL.out.2; rw [IntKind.wrap_i64]; omega
            have HST := vstep_any hT (by have := HL.out.2; omega) y (hok.kept hkw (fun k h1 _ h2 => by omega))
            rw [hMt] at HST
            unfold ovC at HST
            have HKW : Hid (Kept (fun k => w.heap.size ≤ k) w wr) := hkw
            clear hT hMt hkw hok hcc hcw hy HI hb
            go_wp2_with fail
            refine HST.mono ?_
            rintro e w5 ⟨rfl, M5, s5, hT5, hM5, hk5⟩
            have HI5 : Hid (∃ M s, T13 (j + 1) w.heap.size w5 p J M rp s ∧ M.t = t ∧ Kept (fun k => w.heap.size ≤ k) w w5) := hid ⟨M5, s5, hT5, hM5, Kept.trans HKW.out hk5 (fun _ _ e => e) (fun _ _ e => e)⟩
            obtain ⟨_, _, _, hx5, _⟩ := hT5
            have HAT := xvat hx5
            rw [hM5] at HAT
            have n1 : (t != t) = false := by simp
            clear hM5 hk5 hx5 HST k0 k1 k2 k3 k4 k5 k6 k7
            go_wp2_with fail
            refine HAT.mono ?_
            rintro e w6 ⟨rfl, rfl⟩
            go_wp2_with fail
            go_roundg (gk - 1)
            case measure => omega
            case rel => exact ⟨j + 1, by omega, by omega, by go_num, HI5⟩
          · have hli : decide (j < len) = false := decide_eq_false hlt
            obtain ⟨v1, v2, v3, hx, hr, _, hrel, _⟩ := hT
            have HX := hid hx
            have HR := hid hr
            have HRL : Hid (StW M s.st) := hid hrel.st
            have HKW : Hid (Kept (fun k => w.heap.size ≤ k) w wr) := hkw
            have HAW : Hid (∀ w', Calls Try.prog 10 #[] w' fun e w2 => e = .returned (.bool true) ∧ Same w' w2) := hid (fun w' => vawake_any w')
            obtain ⟨a3, q3, hv3, _⟩ := hr.r3.shape
            obtain ⟨l3, hl3⟩ : ∃ n, n = s.st.length := ⟨_, rfl⟩
            rw [← hl3] at hv3
            subst hv3
            have p3 : wr.cell? ⟨rp, 3, none⟩ = some (.slice a3 l3 q3) := hr.blk.cell 3
            have HWR : Hid (∀ w', Same wr w' → Calls Try.prog 12 #[.pointer (some ⟨p, 0, none⟩)] w' fun e w2 => ∃ v, e = .returned v ∧ (∃ aa nn cc, v = .slice aa nn cc) ∧ Same w' w2 ∧ ∀ w3, Same w2 w3 → Calls Try.prog 11 #[v, .slice a3 l3 q3] w3 fun e w4 => e = .returned (.bool true) ∧ Same w3 w4) := hid (fun w' hk => (xvwrites (HX.out.same hk)).mono (fun e w2 h9 => by
              obtain ⟨v, xs, rfl, hst, hrow, hk2, hxl⟩ := h9
              obtain ⟨aa, cc, hv, _⟩ := hrow.shape
              have hxs : xs = s.st := hst.det HRL.out
              exact ⟨v, rfl, ⟨aa, _, cc, hv⟩, hk2, fun w3 hk3 => kwrites_true w3 _ _ v _ xs (hrow.kept hk3 (fun _ _ f => f)) (by rw [hxs]; exact (HR.out.same ((hk.trans hk2).trans hk3)).r3) hxl⟩))
            clear hx hr hrel hMt hkw hl3 HI hlt
            go_wp2_with fail
            go_region_held3 (fun w' => w'.cell? ⟨rp, 3, none⟩ = some (.slice a3 l3 q3))
              (first
                | exact hkc.cell (by assumption) (fun f => f)
                | go_keep)
              (first
                | (go_at_call 10; refine (HAW.out _).mono ?_; rintro e wk ⟨rfl, hkc⟩; have HKK : Hid (Same wr wk) := hid (by first | exact HKK.out.trans hkc | exact HKK.out.trans (Kept.undrewV hkc) | exact Kept.undrewV hkc | exact hkc))
                | (go_at_call 12; refine (HWR.out _ (by first | exact HKK.out | exact HKK.out.drew | exact (Kept.refl _ _).drew | exact Kept.refl _ _)).mono ?_; rintro e wk ⟨vv, rfl, ⟨aa, nn, cc, rfl⟩, hkc, hkw9⟩; have HKW9 := hid hkw9; have HW9 : Hid (Same wk wk) := hid (Kept.refl _ _); clear hkw9; have HKK : Hid (Same wr wk) := hid (by first | exact HKK.out.trans hkc | exact HKK.out.trans (Kept.undrewV hkc) | exact Kept.undrewV hkc | exact hkc))
                | (go_at_call 11; refine (HKW9.out _ (by first | exact Kept.refl _ _ | exact (Kept.refl _ _).drew)).mono ?_; rintro e wk ⟨rfl, hkc⟩; have HKK : Hid (Same wr wk) := hid (by first | exact HKK.out.trans hkc | exact HKK.out.trans (Kept.undrewV hkc) | exact Kept.undrewV hkc | exact hkc)))
            have HF : Hid (Kept (fun k => w.heap.size ≤ k) w wk) := hid (Kept.trans HKW.out HKK.out (fun _ _ e => e) (fun _ _ f => f.elim))
            go_wp2_with fail
            go_ret
            exact ⟨rfl, HF.out⟩

end Go.Proofs.Ytlfibbghkdbomaa
