/-
  Layer 13: the reference's Clash and Check.
-/
import Derived.Test.YtlfibbghkdbomaaVaR
namespace Go.Proofs.Ytlfibbghkdbomaa
open Go.RowKit Go.Maps Go.Sort Go.Shelf

def claR (s : Rs) (t : Int) (ws : List Wr) : Bool := ws.any (fun r => decide (s.t < t) && meeR s (keO r))

section
variable {N : Nat} {w : World} {p : Nat} {s : Rs} {v1 v2 v3 : Value}

set_option maxRecDepth 100000 in
set_option maxHeartbeats 2000000 in
theorem rclash_any (h : Rv N w p s v1 v2 v3) (x : Cm) (I : Nat → Prop) (hx : CmOk w I x) : Calls Try.prog 23 #[.pointer (some ⟨p, 0, none⟩), .agg #[.int .i64 x.t, .slice x.a x.n x.c]] w fun e w' => e = .returned (.bool (claR s x.t x.ws)) ∧ Same w w' := by
  obtain ⟨t, a, n, c, ws⟩ := x
  show Calls Try.prog 23 #[.pointer (some ⟨p, 0, none⟩), .agg #[.int .i64 t, .slice a n c]] w fun e w' => e = .returned (.bool (claR s t ws)) ∧ Same w w'
  obtain ⟨wA, hwA⟩ : ∃ W, W = w.alloc (.cells #[.int .i64 t, .slice a n c] 45) := ⟨_, rfl⟩
  obtain ⟨xb, hxb⟩ : ∃ y, y = w.heap.size := ⟨_, rfl⟩
  have hka : Same w wA := by rw [hwA]; exact (Kept.refl _ w).alloc _
  have B1 : Blk wA xb #[.int .i64 t, .slice a n c] 45 := by rw [hwA, hxb]; exact Blk.new w _ _
  obtain ⟨st, hst⟩ : ∃ z, z = s.t := ⟨_, rfl⟩
  have HC : Hid (∀ w', Same wA w' → w'.cell? ⟨xb, 0, none⟩ = some (.int .i64 t) ∧ w'.cell? ⟨xb, 1, none⟩ = some (.slice a n c) ∧ w'.cell? ⟨p, 0, none⟩ = some (.int .i64 st)) := hid (fun w' hk => by
    have h1 := B1.kept hk (fun f => f)
    have h2 := (h.same (hka.trans hk)).blk
    exact ⟨h1.cell 0, h1.cell 1, by rw [hst]; exact h2.cell 0⟩)
  have HR : Hid (∀ w', Same wA w' → CmOk w' I ⟨t, a, n, c, ws⟩) := hid (fun w' hk => hx.kept (hka.trans hk) (fun _ _ _ f => f))
  have HM : Hid (∀ w' k, Same wA w' → Calls Try.prog 37 #[.pointer (some ⟨p, 0, none⟩), .agg #[.string (keO k).1.tn, .string (keO k).1.ar, .string (keO k).2.s]] w' fun e w2 => e = .returned (.bool (meeR s (keO k))) ∧ Same w' w2) := hid (fun w' k hk => meets_any (h.same (hka.trans hk)) (keO k))
  have HL : Hid (ws.length = n ∧ n ≤ 9223372036854775807) := hid ⟨hx.len, by have h9 : ws.length = n := hx.len; rw [← h9]; exact hx.big⟩
  have HK : Hid (Same w wA) := hka
  have HT : Hid (st = s.t) := hst
  clear h hka B1 hx hst
  by_cases hgt : st < t
  · have hg1 : decide (st < t) = true := decide_eq_true hgt
    have HCl : Hid (claR s t ws = ws.any (fun r => meeR s (keO r))) := hid (by unfold claR; rw [← HT.out, decide_eq_true hgt]; simp)
    rw [HCl.out]
    clear hgt
    go_enter Try.func23, Try.ntmps23
    go_wp2_with fail
    rw [← hwA, ← hxb]
    clear hwA hxb
    go_loopg [5] n (fun q z wr => ∃ i : Nat, n - i ≤ q ∧ i ≤ n ∧ z = .int .i64 (i : Nat) ∧ Hid (∀ j (hj : j < i) (hj2 : j < ws.length), meeR s (keO ws[j]) = false) ∧ Hid (Same wA wr))
    case atStart => exact ⟨0, by omega, by omega, rfl, hid (fun j hj _ => by omega), hid (Kept.refl _ _)⟩
    case round =>
      obtain ⟨i, hq, hil, rfl, HF, HS⟩ := hrel
      obtain ⟨b0, b1, p0⟩ := HC.out wr HS.out
      by_cases hlt : i < n
      · have hli : decide (i < n) = true := decide_eq_true hlt
        have hli2 : (i : Int) < (n : Int) := by omega
        have hlt2 : i < ws.length := by have := HL.out.1; omega
        obtain ⟨ao, cap, hsl, _, hcel⟩ := (HR.out wr HS.out).src
        obtain ⟨b, o, hao, _, hcc⟩ := hcel (fun (e : ws = []) => by rw [e] at hlt2; simp at hlt2)
        simp only [Value.slice.injEq] at hsl
        have ha : a = some ⟨b, o, none⟩ := by rw [hsl.1, hao]
        obtain ⟨y, hy⟩ : ∃ y, y = ws[i] := ⟨_, rfl⟩
        have hcw : ∀ q u, q < 5 → (wrE y)[q]? = some u → wr.cell? ⟨b, o + (i * 5 + q), none⟩ = some u := fun q u hq e => by rw [hcc i hlt2 q hq, ← hy, e]
        have k0 := hcw 0 (.string y.b.tn) (by decide) rfl
        have k1 := hcw 1 (.string y.b.ar) (by decide) rfl
        have k2 := hcw 2 (.string y.n.s) (by decide) rfl
        rw [Nat.add_zero] at k0
        simp only [← Nat.add_assoc] at k1 k2
        rw [ha] at b1
        have hiw : IntKind.i64.wrap ((i : Int) + 1) = ((i + 1 : Nat) : Int) := by have := HL.out.2; rw [IntKind.wrap_i64]; omega
        have HM2 : Hid (∀ w', Same wA w' → Calls Try.prog 37 #[.pointer (some ⟨p, 0, none⟩), .agg #[.string y.b.tn, .string y.b.ar, .string y.n.s]] w' fun e w2 => e = .returned (.bool (meeR s (keO y))) ∧ Same w' w2) := hid (fun w' hk => HM.out w' y hk)
        have HY : Hid (y = ws[i]) := hy
        clear hcel hcc hcw hy hsl hao ha
        obtain ⟨me, hme⟩ : ∃ z, z = meeR s (keO y) := ⟨_, rfl⟩
        rw [← hme] at HM2
        have HME : Hid (me = meeR s (keO ws[i])) := hid (by rw [hme, HY.out])
        clear hme
        cases me with
        | true =>
          have HE : Hid (ws.any (fun r => meeR s (keO r)) = true) := hid (List.any_eq_true.2 ⟨_, List.getElem_mem hlt2, HME.out.symm⟩)
          go_wp2_with fail
          go_region_held3 (fun w' => w'.cell? ⟨xb, 0, none⟩ = some (.int .i64 t) ∧ w'.cell? ⟨xb, 1, none⟩ = some (.slice (some ⟨b, o, none⟩) n c) ∧ w'.cell? ⟨p, 0, none⟩ = some (.int .i64 st) ∧ w'.cell? ⟨b, o + i * 5, none⟩ = some (.string y.b.tn) ∧ w'.cell? ⟨b, o + i * 5 + 1, none⟩ = some (.string y.b.ar) ∧ w'.cell? ⟨b, o + i * 5 + 2, none⟩ = some (.string y.n.s))
            (first
              | (go_split_ands; exact ⟨hkc.cell (by assumption) (fun f => f), hkc.cell (by assumption) (fun f => f), hkc.cell (by assumption) (fun f => f), hkc.cell (by assumption) (fun f => f), hkc.cell (by assumption) (fun f => f), hkc.cell (by assumption) (fun f => f)⟩)
              | go_keep)
            (first
              | (go_at_call 37; refine (HM2.out _ (by first | exact HS.out | exact HS.out.drew)).mono ?_; rintro e wk ⟨rfl, hkc⟩; have HKK : Hid (Same wr wk) := hid (by first | exact Kept.undrewV hkc | exact hkc)))
          go_wp2_with fail
          go_ret
          exact ⟨by rw [HE.out]; rfl, (HK.out.trans HS.out).trans HKK.out⟩
        | false =>
          have HE : Hid (∀ j (hj : j < i + 1) (hj2 : j < ws.length), meeR s (keO ws[j]) = false) := hid (fun j hj hj2 => by
            rcases Nat.lt_or_ge j i with h1 | h1
            · exact HF.out j h1 hj2
            · obtain rfl : j = i := by omega
              exact HME.out.symm)
          clear HF
          go_wp2_with fail
          go_region_held3 (fun w' => w'.cell? ⟨xb, 0, none⟩ = some (.int .i64 t) ∧ w'.cell? ⟨xb, 1, none⟩ = some (.slice (some ⟨b, o, none⟩) n c) ∧ w'.cell? ⟨p, 0, none⟩ = some (.int .i64 st) ∧ w'.cell? ⟨b, o + i * 5, none⟩ = some (.string y.b.tn) ∧ w'.cell? ⟨b, o + i * 5 + 1, none⟩ = some (.string y.b.ar) ∧ w'.cell? ⟨b, o + i * 5 + 2, none⟩ = some (.string y.n.s))
            (first
              | (go_split_ands; exact ⟨hkc.cell (by assumption) (fun f => f), hkc.cell (by assumption) (fun f => f), hkc.cell (by assumption) (fun f => f), hkc.cell (by assumption) (fun f => f), hkc.cell (by assumption) (fun f => f), hkc.cell (by assumption) (fun f => f)⟩)
              | go_keep)
            (first
              | (go_at_call 37; refine (HM2.out _ (by first | exact HS.out | exact HS.out.drew)).mono ?_; rintro e wk ⟨rfl, hkc⟩; have HKK : Hid (Same wr wk) := hid (by first | exact Kept.undrewV hkc | exact hkc)))
          have HFS : Hid (Same wA wk) := hid (HS.out.trans HKK.out)
          go_wp2_with fail
          go_roundg (gk - 1)
          case measure => omega
          case rel => exact ⟨i + 1, by omega, by omega, by go_num, HE, HFS⟩
      · have hli : decide (i < n) = false := decide_eq_false hlt
        obtain rfl : i = n := by omega
        have HE : Hid (ws.any (fun r => meeR s (keO r)) = false) := hid (by
          rw [List.any_eq_false]
          intro r hr
          obtain ⟨j, hj, rfl⟩ := List.mem_iff_getElem.1 hr
          rw [HF.out j (by have := HL.out.1; omega) hj]
          decide)
        go_wp2_with fail
        go_ret
        exact ⟨by rw [HE.out]; rfl, HK.out.trans HS.out⟩
  · have hg1 : decide (st < t) = false := decide_eq_false hgt
    have HCl : Hid (claR s t ws = false) := hid (by unfold claR; rw [← HT.out, decide_eq_false hgt]; simp)
    rw [HCl.out]
    clear hgt HM HT
    go_enter Try.func23, Try.ntmps23
    go_wp2_with fail
    rw [← hwA, ← hxb]
    clear hwA hxb
    go_loopg [5] n (fun q z wr => ∃ i : Nat, n - i ≤ q ∧ i ≤ n ∧ z = .int .i64 (i : Nat) ∧ Hid (Same wA wr))
    case atStart => exact ⟨0, by omega, by omega, rfl, hid (Kept.refl _ _)⟩
    case round =>
      obtain ⟨i, hq, hil, rfl, HS⟩ := hrel
      obtain ⟨b0, b1, p0⟩ := HC.out wr HS.out
      by_cases hlt : i < n
      · have hli : decide (i < n) = true := decide_eq_true hlt
        have hiw : IntKind.i64.wrap ((i : Int) + 1) = ((i + 1 : Nat) : Int) := by have := HL.out.2; rw [IntKind.wrap_i64]; omega
        go_wp2_with fail
        go_quiet (fail)
        all_goals go_wp2_with fail
        all_goals go_roundg (gk - 1)
        all_goals first
          | (case measure => omega)
          | skip
        all_goals exact ⟨i + 1, by omega, by omega, by go_num, hid (HS.out.drewN _)⟩
      · have hli : decide (i < n) = false := decide_eq_false hlt
        go_wp2_with fail
        go_ret
        exact ⟨rfl, HK.out.trans HS.out⟩

end

end Go.Proofs.Ytlfibbghkdbomaa
