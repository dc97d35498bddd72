/-
  The reference's layer 18: Wants; the law's large.
-/
import Derived.Test.YtjjhjbmmhkcapaaFmS
import Derived.Test.YtjjhjbmmhkcapaaFmPar
import Derived.Test.YtjjhjbmmhkcapaaLend
import Derived.Test.YtjjhjbmmhkcapaaFmAz
namespace Go.Proofs.Ytjjhjbmmhkcapaa
open Go.RowKit

theorem Rd.at {a : List Nat} {fs : List Fm} {q : List Nat} {e : Int} (h : Rd a fs q e) : a.drop (a.length - q.length) = q := by
  obtain ⟨p, rfl⟩ := h.suf
  rw [List.length_append, show p.length + q.length - q.length = p.length by omega, List.drop_left]

set_option maxRecDepth 100000 in
set_option maxHeartbeats 1000000 in
theorem rwants_any (w : World) (v : Value) (I : Nat → Prop) (cs : List Nat) (hsrc : Src w I v cs) (hroom : ∀ a n c, v = .slice a n c → n ≤ c) (hb : ∀ b ∈ cs, b < 256) (hlen : cs.length ≤ 90000000) {fs : List Fm} {q : List Nat} {e : Int} (hr : Rd cs fs q e) :
    Calls Try.prog 22 #[v] w fun x w' => x = .returned (.int .i64 (wantD q e)) ∧ Same w w' := by
  have H1 := rread_any w v I cs hsrc hroom hb hlen hr
  obtain ⟨a, c, rfl, _⟩ := id hsrc
  have HS := hid hsrc
  have HB := hid hb
  have hql := hr.len
  have hat := hr.at
  obtain ⟨n, hn⟩ : ∃ n, n = cs.length := ⟨_, rfl⟩
  obtain ⟨m, hm⟩ : ∃ m, m = q.length := ⟨_, rfl⟩
  have HN := hid hn
  have HM := hid hm
  have hLlt := lenF_lt q (hr.lt hb)
  have HAT := hid hat
  rw [← hn, ← hm] at H1
  rw [← hn] at HS
  rw [← hn] at hlen
  rw [← hm, ← hn] at hql
  obtain ⟨W0, hW0⟩ : ∃ W, W = wantD q e := ⟨_, rfl⟩
  have HW := hid hW0
  rw [← hW0]
  obtain ⟨L, hL⟩ : ∃ L, L = lenF q := ⟨_, rfl⟩
  have HL := hid hL
  rw [← hL] at hLlt
  have HE := hid hr.zero
  rw [← hn]
  clear hsrc hb hn hm hat hr hroom hW0 hL
  by_cases he : e = 0
  · subst he
    have hq9 : m ≤ 20008 := by rw [HM.out]; exact (nx_short (HE.out rfl)).1
    have hww : (L : Int) + 9 - (m : Int) = W0 := by rw [HW.out]; unfold wantD; rw [if_pos rfl, HL.out, HM.out]
    by_cases h4 : m < 4
    · have hL0 : L = 0 := by rw [HL.out]; unfold lenF; rw [if_pos (by rw [← HM.out]; exact h4)]
      have hww2 : 9 - (m : Int) = W0 := by rw [← hww, hL0]; omega
      have e1 : ((n - m : Nat) : Int) = (n : Int) - (m : Int) := by omega
      rw [e1] at H1
      have e2 : IntKind.i64.wrap ((n : Int) - ((n : Int) - (m : Int))) = (m : Int) := by rw [IntKind.wrap_i64]; omega
      have e3 : (n : Int) - ((n : Int) - (m : Int)) = (m : Int) := by omega
      have HW2 := hid hww2
      clear e1 hww hww2
      go_enter Try.func22, Try.ntmps22
      go_wp2_with fail
      refine H1.mono ?_
      rintro x w1 ⟨vo, rfl, _, hk⟩
      have HK := hid hk
      clear hk H1
      go_wp2_with fail
      go_ret
      exact ⟨by rw [← HW2.out]; rfl, HK.out⟩
    · have hgot : gotV cs ((n - m : Nat) : Int) 4 = L := by
        have h9 := got_drop cs (n - m) 0 4 (by have := HN.out; omega)
        rw [HL.out]
        unfold lenF
        rw [if_neg (by rw [← HM.out]; exact h4)]
        have h8 := HAT.out
        rw [← HN.out, ← HM.out] at h8
        rw [h8] at h9
        simpa using h9
      have e1 : ((n - m : Nat) : Int) = (n : Int) - (m : Int) := by omega
      have HG : Hid (∀ W, Same w W → Calls Try.prog 32 #[.slice a n c, .int .i64 ((n : Int) - (m : Int)), .int .i64 4] W fun x w' => ∃ E, x = .returned (.tuple #[.int .u64 (L : Nat), .int .i64 E]) ∧ w' = W) := hid (fun W hk => by
        have h9 := rget_any W _ _ cs (HS.out.kept hk (fun _ _ _ f => f)) HB.out (by have := HN.out; omega) ((n - m : Nat) : Int) 4 (by decide)
        rw [hgot, e1] at h9
        exact h9.mono (fun _ _ ⟨h1, h2⟩ => ⟨_, h1, h2⟩))
      rw [e1] at H1
      have e3 : (n : Int) - ((n : Int) - (m : Int)) = (m : Int) := by omega
      have HW2 := hid hww
      have i4 : ¬ (m : Int) < 4 := by omega
      clear e1 hww hgot
      go_enter Try.func22, Try.ntmps22
      go_wp2_with fail
      refine H1.mono ?_
      rintro x w1 ⟨vo, rfl, _, hk⟩
      have HK := hid hk
      clear hk H1
      go_wp2_with fail
      refine (HG.out _ HK.out).mono ?_
      rintro x w2 ⟨E, rfl, rfl⟩
      go_wp2_with fail
      go_ret
      exact ⟨by rw [← HW2.out]; rfl, HK.out⟩
  · have hne : (e != 0) = true := by simp [bne, he]
    have hw0 : W0 = 0 := by rw [HW.out]; unfold wantD; rw [if_neg he]
    subst hw0
    go_enter Try.func22, Try.ntmps22
    go_wp2_with fail
    refine H1.mono ?_
    rintro x w1 ⟨vo, rfl, _, hk⟩
    have HK := hid hk
    clear hk H1
    go_wp2_with fail
    go_ret
    exact ⟨rfl, HK.out⟩

/-- All bytes of the first parts. -/
def allP (P : Nat → Pt18) : Nat → List Nat
  | 0 => []
  | i + 1 => allP P i ++ (P i).bs

/-- What large says. -/
def LrgA (w : World) (n : Nat) (P : Nat → Pt18) (x : Ending) (w' : World) : Prop := ∃ b, x = .returned (.bool b) ∧ (b = false → n + (allP P n).length ≤ 1048576) ∧ Same w w'

theorem LrgA.yes {w w' : World} {n : Nat} {P : Nat → Pt18} (h : Same w w') : LrgA w n P (.returned (.bool true)) w' := ⟨true, rfl, (fun e => by cases e), h⟩

set_option maxRecDepth 100000 in
set_option maxHeartbeats 1000000 in
theorem large_any (w : World) (a : Option Addr) (n c : Nat) (P : Nat → Pt18) (hP : Pts18 w a n P) (hz : SzP n P) : Calls Try.prog 13 #[.slice a n c] w fun x w' => LrgA w n P x w' := by
  have HP := hid hP
  have HZ := hid hz
  have hn : n ≤ 140737488351232 := hz.1
  clear hP hz
  go_enter Try.func13, Try.ntmps13
  go_wp2_with fail
  go_loopg [3, 4] n (fun k zs zi wx => ∃ (i s : Nat), zi = .int .i64 (i : Nat) ∧ zs = .int .i64 (s : Nat) ∧ i ≤ n ∧ n - i ≤ k ∧ s ≤ 140737489399808 ∧ Hid (s = n + (allP P i).length) ∧ Hid (Same w wx))
  case atStart => exact ⟨0, n, rfl, rfl, by omega, by omega, by omega, hid rfl, hid (Kept.refl _ _)⟩
  case round =>
    obtain ⟨i, s, rfl, rfl, hi, hik, hs, HSU, HK⟩ := hrel
    by_cases hlt : i < n
    · have hli2 : (i : Int) < (n : Int) := by omega
      by_cases hsm : s ≤ 1048576
      · obtain ⟨⟨_, hbl⟩, b, o, hab, hc⟩ := HP.out i hlt
        have hpn := HZ.out.2 i hlt
        have cz := HK.out.cell hc (fun f => f)
        obtain ⟨⟨pa, pn, pc, pb⟩, hp⟩ : ∃ p, P i = p := ⟨_, rfl⟩
        rw [hp] at hbl hpn cz
        simp only at hbl hpn cz
        subst hab
        have HS2 : Hid (s + pn = n + (allP P (i + 1)).length) := hid (by
          have h1 := HSU.out
          rw [allP, hp, List.length_append]
          simp only
          omega)
        have hw : IntKind.i64.wrap ((s : Int) + (pn : Int)) = ((s + pn : Nat) : Int) := by rw [IntKind.wrap_i64]; omega
        clear hc hp hbl
        go_wp2_with fail
        go_roundg (gk - 1)
        case measure => omega
        case rel => exact ⟨i + 1, s + pn, by go_num, by go_num, by omega, by omega, by omega, HS2, HK⟩
      · have hsm2 : ¬ (s : Int) ≤ 1048576 := by omega
        go_wp2_with fail
        go_ret
        exact LrgA.yes HK.out
    · obtain rfl : i = n := by omega
      go_wp2_with fail
      go_ret
      exact ⟨decide (1048576 < (s : Int)), rfl, fun h => by
        have h1 := HSU.out
        have h2 := of_decide_eq_false h
        omega, HK.out⟩

end Go.Proofs.Ytjjhjbmmhkcapaa
