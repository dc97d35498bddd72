/-
  Layer 12's law ChainRuns: each call answers as a list of versions would have it.
-/
import Derived.Test.YthignkloecfcbaaCrO
namespace Go.Proofs.Ythignkloecfcbaa
open Go.RowKit Go.Maps Go.Sort

theorem cstep_any {K N : Nat} {w : World} {p : Nat} {ρ : Nat → Nat} {M : Mst} {rp : Nat} {L : List Lv} {v : Value} (h : T12 K N w p ρ M rp L v) (o : Oc) (ho : OcOk w (fun k => k < N) o) (hK : K + 3 * o.cm.n ≤ 100000) : Calls Try.prog 11 #[.pointer (some ⟨p, 0, none⟩), .pointer (some ⟨rp, 0, none⟩), .agg (ocC o).toArray] w fun e w' => e = .returned (.bool true) ∧ S12 (K + 3 * o.cm.n) N w p rp w' := by
  by_cases h1 : o.k = 1
  · exact cstep1 h o ho h1 hK
  by_cases h2 : o.k = 2
  · exact cstep2 h o ho h2 hK
  by_cases h3 : o.k = 3
  · exact cstep3 h o ho h3 hK
  by_cases h4 : o.k = 4
  · exact cstep4 h o ho h4 hK
  by_cases h5 : o.k = 5
  · exact cstep5 h o ho h5 hK
  by_cases h6 : o.k = 6
  · exact cstep6 h o ho h6 hK
  exact cstep7 h o ho ⟨h1, h2, h3, h4, h5, h6⟩ hK

def bx12 : Bx := ⟨⟨#[]⟩, ⟨#[]⟩, by decide⟩
def nm12 : Nm := ⟨⟨#[]⟩, by decide⟩
def oc12 (k t : Int) : Oc := ⟨k, ⟨0, none, 0, 0, []⟩, bx12, nm12, t⟩
theorem oc12_ok (w : World) (I : Nat → Prop) (k t : Int) (hk : -9223372036854775808 ≤ k ∧ k ≤ 9223372036854775807) (ht : -9223372036854775808 ≤ t ∧ t ≤ 9223372036854775807) : OcOk w I (oc12 k t) := ⟨⟨⟨none, 0, rfl, Nat.le_refl _, fun e => absurd rfl e⟩, rfl, ⟨by show (-9223372036854775808 : Int) ≤ 0; decide, by show (0 : Int) ≤ 9223372036854775807; decide⟩, Nat.zero_le _⟩, hk, ht⟩

set_option maxRecDepth 100000 in
set_option maxHeartbeats 4000000 in
theorem chainRuns_all (a : Option Addr) (len cap : Nat) (O : Nat → Oc) (w : World) (ho : Ops12 w (fun k => k < w.heap.size) a len O) (hz : SzOps len O) :
    Calls Try.prog 3 #[.slice a len cap] w fun e w' => e = .returned (.bool true) ∧ Below w.heap.size w w' := by
  suffices H : Calls Try.prog 3 #[.slice a len cap] w fun e w' => e = .returned (.bool true) ∧ Same w w' from H.mono (fun e w' h => ⟨h.1, h.2.bel12⟩)
  have HO : Hid (Ops12 w (fun k => k < w.heap.size) a len O ∧ SzOps len O) := hid ⟨ho, hz⟩
  clear ho hz
  go_enter Try.func3, Try.ntmps3
  go_wp2_with fail
  refine (clarge_any w _ a len cap O HO.out.1 HO.out.2).mono ?_
  rintro e w1 ⟨r, rfl, hr, hk⟩
  have H1 : Hid (Same w w1) := hid hk
  have HR : Hid (r = false → len + sumW O len ≤ 2000) := hid hr
  clear hk hr
  cases r with
  | true =>
    go_wp2_with fail
    refine (cawake_any w1).mono ?_
    rintro e w2 ⟨rfl, hk⟩
    go_wp2_with fail
    go_ret
    exact ⟨rfl, H1.out.trans hk⟩
  | false =>
    have HL : Hid (len + sumW O len ≤ 2000) := hid (HR.out rfl)
    clear HR
    go_wp2_with fail
    refine (xnew w1).mono ?_
    rintro e w2 ⟨p, ρ0, rfl, g1, g2, g3⟩
    obtain ⟨w3, hw3⟩ : ∃ W, W = w2.alloc (.cells #[.slice none 0 0, .int .i64 0, .int .i64 0] 30) := ⟨_, rfl⟩
    obtain ⟨rp, hrp⟩ : ∃ x, x = w2.heap.size := ⟨_, rfl⟩
    have hk3 : Same w2 w3 := by rw [hw3]; exact (Kept.refl _ _).alloc _
    have HT3 : Hid (T12 0 w1.heap.size w3 p ρ0 ⟨0, 0, fun _ _ => []⟩ rp [] (.slice none 0 0) ∧ Same w w3) := hid ⟨⟨g1.same hk3, ⟨by rw [hw3, hrp]; exact Blk.new w2 _ _, RowC.nil, by rw [hrp]; exact g3.size, Nat.zero_le _⟩, by funext b n; rfl, g1.zero (by omega), fun k e => (by cases e), Nat.le_refl _, Nat.le_trans g3.size hk3.size⟩, (H1.out.trans g3).trans hk3⟩
    have HN1 : Hid (w.heap.size ≤ w1.heap.size ∧ w1.heap.size ≤ w3.heap.size) := hid ⟨H1.out.size, Nat.le_trans g3.size hk3.size⟩
    have HLN : Hid (len ≤ 2000) := hid (by have := HL.out; omega)
    have hlen9 : len ≤ 2000 := HLN.out
    clear g1 g2 g3 hk3
    go_wp2_with fail
    rw [← hw3, ← hrp]
    clear hw3 hrp
    go_loopg [5] len (fun q z wr => ∃ j : Nat, len - j ≤ q ∧ j ≤ len ∧ z = .int .i64 (j : Nat) ∧ Hid ((∃ ρ M L v, T12 (3 * sumW O j) w1.heap.size wr p ρ M rp L v) ∧ Same w wr))
    case atStart => exact ⟨0, by omega, by omega, rfl, hid ⟨⟨ρ0, _, _, _, HT3.out.1⟩, HT3.out.2⟩⟩
    case round =>
      obtain ⟨j, hq, hjl, rfl, HI⟩ := hrel
      obtain ⟨⟨ρ, M, L, v, hT⟩, hkw⟩ := HI.out
      by_cases hlt : j < len
      · have hli : decide (j < len) = true := decide_eq_true hlt
        have hli2 : (j : Int) < (len : Int) := by omega
        obtain ⟨hok, b, o, ha, hbI, hbl, hcc⟩ := (HO.out.1.kept hkw (fun _ _ _ f => f)) j hlt
        subst ha
        obtain ⟨y, hy⟩ : ∃ y, y = O j := ⟨_, rfl⟩
        rw [← hy] at hok hcc
        have k0 := hcc 0 (.int .i64 y.k) rfl
        have k1 := hcc 1 (.int .i64 y.cm.t) rfl
        have k2 := hcc 2 (.slice y.cm.a y.cm.n y.cm.c) rfl
        have k3 := hcc 3 (.string y.b.tn) rfl
        have k4 := hcc 4 (.string y.b.ar) rfl
        have k5 := hcc 5 (.string y.nm.s) rfl
        have k6 := hcc 6 (.int .i64 y.t) rfl
        rw [Nat.add_zero] at k0
        have hiw : IntKind.i64.wrap ((j : Int) + 1) = ((j + 1 : Nat) : Int) := by rw [IntKind.wrap_i64]; omega
        have hsum : 3 * sumW O j + 3 * y.cm.n = 3 * sumW O (j + 1) := by rw [sumW_succ, ← hy]; omega
        have hsl : 3 * sumW O (j + 1) ≤ 6000 := by have h1 := sumW_le O (show j + 1 ≤ len by omega); have := HL.out; omega
        have HST := cstep_any hT y ⟨⟨hok.cm.src.mono (fun k hk => by have := HN1.out.1; omega), hok.cm.len, hok.cm.num, hok.cm.big⟩, hok.kn, hok.num⟩ (by omega)
        rw [hsum] at HST
        unfold ocC at HST
        have HKW : Hid (Same w wr) := hkw
        clear hT hkw hok hcc hy HI hbl hbI hsum hsl
        go_wp2_with fail
        refine HST.mono ?_
        rintro e w5 ⟨rfl, ρ5, M5, L5, v5, hT5, hk5⟩
        have HI5 : Hid ((∃ ρ M L v, T12 (3 * sumW O (j + 1)) w1.heap.size w5 p ρ M rp L v) ∧ Same w w5) := hid ⟨⟨ρ5, M5, L5, v5, hT5⟩, Kept.trans HKW.out hk5 (fun _ _ f => f) (fun k hk e => by have := HN1.out.1; omega)⟩
        clear hT5 hk5 HST k0 k1 k2 k3 k4 k5 k6
        go_wp2_with fail
        go_roundg (gk - 1)
        case measure => omega
        case rel => exact ⟨j + 1, by omega, by omega, by go_num, HI5⟩
      · have hli : decide (j < len) = false := decide_eq_false hlt
        have hsl : 3 * sumW O j ≤ 6000 := by have h1 := sumW_le O (show j ≤ len by omega); have := HL.out; omega
        have HT : Hid (T12 (3 * sumW O j) w1.heap.size wr p ρ M rp L v ∧ 3 * sumW O j ≤ 6000) := hid ⟨hT, hsl⟩
        have HKW : Hid (Same w wr) := hkw
        clear hT hkw HI hlt hq hjl hsl
        go_wp2_with fail
        refine (cawake_any wr).mono ?_
        rintro e w4 ⟨rfl, hk4⟩
        have HT4 : Hid (T12 (3 * sumW O j) w1.heap.size w4 p ρ M rp L v ∧ Same w w4) := hid ⟨HT.out.1.same hk4, HKW.out.trans hk4⟩
        have HS1 := cstep_any HT4.out.1 (oc12 0 0) (oc12_ok _ _ 0 0 (by decide) (by decide)) (by have := HT.out.2; show 3 * sumW O j + 3 * 0 ≤ 100000; omega)
        change Calls Try.prog 11 #[.pointer (some ⟨p, 0, none⟩), .pointer (some ⟨rp, 0, none⟩), .agg #[.int .i64 0, .int .i64 0, .slice none 0 0, .string ⟨#[]⟩, .string ⟨#[]⟩, .string ⟨#[]⟩, .int .i64 0]] w4 (fun e w' => e = .returned (.bool true) ∧ S12 (3 * sumW O j + 0) w1.heap.size w4 p rp w') at HS1
        clear hk4
        go_wp2_with fail
        refine HS1.mono ?_
        rintro e w5 ⟨rfl, ρ5, M5, L5, v5, hT5, hk5⟩
        rw [Nat.add_zero] at hT5
        have HT5 : Hid (T12 (3 * sumW O j) w1.heap.size w5 p ρ5 M5 rp L5 v5 ∧ Same w w5) := hid ⟨hT5, Kept.trans HT4.out.2 hk5 (fun _ _ f => f) (fun k hk e => by have := HN1.out.1; omega)⟩
        have p1 : w5.cell? ⟨rp, 1, none⟩ = some (.int .i64 M5.now) := hT5.ref.blk.cell 1
        have hn5 := hT5.sto.nums
        have HS2 := cstep_any hT5 (oc12 6 M5.now) (oc12_ok _ _ 6 _ (by decide) (by omega)) (by have := HT.out.2; show 3 * sumW O j + 3 * 0 ≤ 100000; omega)
        obtain ⟨nw, hnw⟩ : ∃ x, x = M5.now := ⟨_, rfl⟩
        rw [← hnw] at HS2 p1
        change Calls Try.prog 11 #[.pointer (some ⟨p, 0, none⟩), .pointer (some ⟨rp, 0, none⟩), .agg #[.int .i64 6, .int .i64 0, .slice none 0 0, .string ⟨#[]⟩, .string ⟨#[]⟩, .string ⟨#[]⟩, .int .i64 nw]] w5 (fun e w' => e = .returned (.bool true) ∧ S12 (3 * sumW O j + 0) w1.heap.size w5 p rp w') at HS2
        clear hT5 hk5 hn5 hnw HS1
        go_wp2_with fail
        refine HS2.mono ?_
        rintro e w6 ⟨rfl, ρ6, M6, L6, v6, hT6, hk6⟩
        have HK6 : Hid (Same w w6) := hid (Kept.trans HT5.out.2 hk6 (fun _ _ f => f) (fun k hk e => by have := HN1.out.1; omega))
        clear hT6 hk6 HS2 p1
        go_wp2_with fail
        go_ret
        exact ⟨rfl, HK6.out⟩

end Go.Proofs.Ythignkloecfcbaa
