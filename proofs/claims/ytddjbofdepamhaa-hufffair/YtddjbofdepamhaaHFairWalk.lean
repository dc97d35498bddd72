/-
  The law HuffFair, walked.
-/
import Derived.Test.YtddjbofdepamhaaHArgs
import Derived.Test.YtddjbofdepamhaaHFairM
namespace Go.Proofs.Ytddjbofdepamhaa
open Go.RowKit

/-- The used counts among the first i. -/
theorem used_count (ns : List Nat) (i : Nat) (_hi : i < ns.length) : (usedTo ns (i + 1)).length = (usedTo ns i).length + (if key ns i = 0 then 0 else 1) := by
  rw [usedTo_succ, List.length_append]
  by_cases h : key ns i = 0 <;> simp [h]

set_option maxRecDepth 100000 in
set_option maxHeartbeats 4000000 in
theorem fair_good (W : World) (v : Value) (zs : List Int) (ns : List Nat) (most len : Nat) (hs : SrcE intV W (fun k => k < W.heap.size) v zs) (hl : zs.length = len) (hlong : len ≤ 5000) (hok : okAll zs 0 1000000000000 = true) (hns : ns = zs.map Int.toNat) (h1 : 1 ≤ most) (h15 : most ≤ 15) (hfit : (ris ns).length ≤ 2 ^ most) :
    Calls Try.prog 7 #[v, .int .i64 (most : Nat)] W fun e w' => e = .returned (.bool true) ∧ Below W.heap.size W w' := by
  have HC := limit_good W v _ zs ns most hs hok hns h1 h15 hfit
  obtain ⟨eN, h0, h288, hle⟩ := okAll_nat hok
  rw [← hns] at eN hle
  obtain ⟨av, capv, hvv, hx1, hx2⟩ := id hs
  clear hx1 hx2
  subst hvv
  have hnl : ns.length = len := by rw [hns]; simp; exact hl
  have HS : Hid (SrcE natV W (fun k => k < W.heap.size) (.slice av zs.length capv) ns) := hid (hs.recode eN)
  have HLE : Hid (∀ n ∈ ns, n ≤ 1000000000000) := hid (fun n hn => by have := hle n hn; omega)
  have b1 : decide ((5000 : Int) < (len : Int)) = false := by simp; omega
  have HNL : Hid (ns.length = len) := hnl
  have HFIT : Hid ((ris ns).length ≤ 2 ^ most ∧ 1 ≤ most ∧ most ≤ 15) := ⟨hfit, h1, h15⟩
  rw [hl] at HC HS h288 h0 ⊢
  clear hs hl hok hns eN hle hnl hfit
  go_enter Try.func7, Try.ntmps7
  go_wp2_with fail
  refine HC.mono ?_
  rintro e w1 ⟨⟨g, n, cap, rfl, hr, hgb⟩, hk⟩
  have hn := hr.len
  rw [limL_length, HNL.out] at hn
  subst hn
  have HR : Hid (NRow 0 w1 (.slice (some ⟨g, 0, none⟩) len cap) (limL ns most)) := hr
  have HK : Hid (Same W w1) := hk
  have HS1 : Hid (SrcE natV w1 (fun k => k < W.heap.size) (.slice av len capv) ns) := hid (HS.out.same hk)
  clear hr hk HC HS
  go_wp2_with fail
  go_loopg [7, 8] len (fun q zn zi wr => ∃ (i c : Nat), len - i ≤ q ∧ i ≤ len ∧ c ≤ 288 ∧ zi = .int .i64 (i : Nat) ∧ zn = .int .i64 (c : Nat) ∧ Hid (c = (usedTo ns i).length) ∧ Hid (Same w1 wr))
  case atStart => exact ⟨0, 0, by omega, by omega, by omega, rfl, rfl, hid (by simp [usedTo]), Kept.refl _ _⟩
  case round =>
    obtain ⟨i, c, hq, hi, hc, rfl, rfl, HCN, HKr⟩ := hrel
    obtain ⟨gk0, hgk⟩ : ∃ x, x = gk := ⟨_, rfl⟩
    rw [← hgk] at hq
    have HG : Hid (gk0 = gk) := hgk
    clear hgk
    by_cases hlt : i < len
    · have hin : i < ns.length := by have := HNL.out; omega
      have hsr := HS1.out.same HKr.out
      obtain ⟨b, o, cap', e5, _, _, ci⟩ := hsr.get i hin
      simp only [Value.slice.injEq] at e5
      obtain ⟨rfl, hxe, rfl⟩ := e5
      clear hxe
      rw [← key_get hin] at ci
      unfold natV at ci
      have hil : i < (limL ns most).length := by rw [limL_length]; exact hin
      have di := (HR.out.same HKr.out).cell i hil
      unfold natV at di
      obtain ⟨ki, hki⟩ : ∃ ki, ki = key ns i := ⟨_, rfl⟩
      obtain ⟨li, hli⟩ : ∃ li, li = (limL ns most)[i] := ⟨_, rfl⟩
      rw [← hki] at ci
      rw [← hli] at di
      have hu := used_count ns i hin
      have hub : (usedTo ns (i + 1)).length ≤ 288 := Nat.le_trans (usedTo_length ns (i + 1)) (by omega)
      have HKI : Hid (ki = key ns i) := hki
      have HLI : Hid (∃ h : i < (limL ns most).length, li = (limL ns most)[i]) := hid ⟨hil, hli⟩
      rw [← hki] at hu
      have bd0 : decide (i < len) = true := by simp [hlt]
      have HIN : Hid (i < ns.length) := hin
      clear hsr hki hli
      obtain ⟨c2, hc2, hc2e, hcc⟩ : ∃ c2, c2 ≤ 288 ∧ Hid (c2 = (usedTo ns (i + 1)).length) ∧ ((ki = 0 ∧ c2 = c) ∨ (0 < ki ∧ c2 = c + 1)) := by
        refine ⟨_, hub, hid rfl, ?_⟩
        have := HCN.out
        by_cases e : ki = 0
        · left; rw [hu, if_pos e]; exact ⟨e, by omega⟩
        · right; rw [hu, if_neg e]; exact ⟨by omega, by omega⟩
      clear hu hub
      rcases hcc with ⟨hk0, hcc⟩ | ⟨hk0, hcc⟩
      · have hk1 : decide (0 < ki) = false := by simp; omega
        have hk0' : ki ≤ 0 := by omega
        clear hk0
        rw [hcc] at hc2 hc2e
        clear hcc
        go_wp2_with fail
        go_loopg [9] i (fun q zk wx => ∃ k : Nat, i - k ≤ q ∧ k ≤ i ∧ zk = .int .i64 (k : Nat) ∧ Hid (Same w1 wx))
        case atStart => exact ⟨0, by omega, by omega, rfl, HKr⟩
        case round =>
          clear ci di
          obtain ⟨k, hq2, hki, rfl, HKx⟩ := hrel
          by_cases hkl : k < i
          · have hkn : k < ns.length := by have := HNL.out; omega
            have hsx := HS1.out.same HKx.out
            obtain ⟨b2, o2, cap2, e6, _, _, ck⟩ := hsx.get k hkn
            simp only [Value.slice.injEq, Option.some.injEq, Addr.mk.injEq, and_true] at e6
            obtain ⟨⟨rfl, rfl⟩, hxe, rfl⟩ := e6
            clear hxe
            obtain ⟨b3, o3, cap3, e7, _, _, ci⟩ := hsx.get i HIN.out
            simp only [Value.slice.injEq, Option.some.injEq, Addr.mk.injEq, and_true] at e7
            obtain ⟨⟨rfl, rfl⟩, hxe, rfl⟩ := e7
            clear hxe
            rw [← key_get hkn] at ck
            rw [← key_get HIN.out, ← HKI.out] at ci
            unfold natV at ck ci
            obtain ⟨hil, hli⟩ := HLI.out
            have hkl2 : k < (limL ns most).length := by rw [limL_length]; exact hkn
            have di := (HR.out.same HKx.out).cell i hil
            have dk := (HR.out.same HKx.out).cell k hkl2
            unfold natV at di dk
            rw [← hli] at di
            obtain ⟨kk, hkk⟩ : ∃ kk, kk = key ns k := ⟨_, rfl⟩
            obtain ⟨lk, hlk⟩ : ∃ lk, lk = (limL ns most)[k] := ⟨_, rfl⟩
            rw [← hkk] at ck
            rw [← hlk] at dk
            have f1 : kk > ki → 0 < ki → lk ≤ li := fun a b => by
              have e1 := HKI.out
              rw [hlk, hli]; exact fair ns most i k hil hkl2 (by omega) (by omega)
            have f2 : ki > kk → 0 < kk → li ≤ lk := fun a b => by
              have e1 := HKI.out
              rw [hlk, hli]; exact fair ns most k i hkl2 hil (by omega) (by omega)
            clear hsx hkk hlk hli hil hkl2
            have hkb : k < len := by omega
            rcases Nat.lt_trichotomy kk ki with hcmp | hcmp | hcmp
            · have g1 : decide (ki < kk) = false := by simp; omega
              have g2 : decide (kk < ki) = true := by simp; omega
              by_cases hz : 0 < kk
              · have f3 := f2 hcmp hz
                have g3 : decide (0 < kk) = true := by simp; omega
                have g4 : decide (lk < li) = false := by simp; omega
                clear f1 f2
                go_wp2_with fail
                go_quiet (fail)
                go_wp2_with fail
                go_roundg (gk - 1)
                case measure => omega
                case rel => exact ⟨k + 1, by omega, by omega, by go_num, hid (HKx.out.drewN _)⟩
              · have g3 : decide (0 < kk) = false := by simp; omega
                clear f1 f2
                go_wp2_with fail
                go_quiet (fail)
                go_wp2_with fail
                go_roundg (gk - 1)
                case measure => omega
                case rel => exact ⟨k + 1, by omega, by omega, by go_num, hid (HKx.out.drewN _)⟩
            · have g1 : decide (ki < kk) = false := by simp; omega
              have g2 : decide (kk < ki) = false := by simp; omega
              clear f1 f2 hcmp
              go_wp2_with fail
              go_quiet (fail)
              go_wp2_with fail
              go_roundg (gk - 1)
              case measure => omega
              case rel => exact ⟨k + 1, by omega, by omega, by go_num, hid (HKx.out.drewN _)⟩
            · have g1 : decide (ki < kk) = true := by simp; omega
              have g2 : decide (kk < ki) = false := by simp; omega
              by_cases hz : 0 < ki
              · omega
              · have g3 : decide (0 < ki) = false := by simp; omega
                clear f1 f2
                go_wp2_with fail
                go_quiet (fail)
                go_wp2_with fail
                go_roundg (gk - 1)
                case measure => omega
                case rel => exact ⟨k + 1, by omega, by omega, by go_num, hid (HKx.out.drewN _)⟩
          · go_wp2_with fail
            go_roundg (gk0 - 1)
            case measure => have := HG.out; omega
            case rel => exact ⟨i + 1, c, by omega, by omega, hc2, by go_num, rfl, hc2e, HKx⟩
      · have hk1 : decide (0 < ki) = true := by simp; omega
        rw [hcc] at hc2 hc2e
        clear hcc
        go_wp2_with fail
        go_loopg [9] i (fun q zk wx => ∃ k : Nat, i - k ≤ q ∧ k ≤ i ∧ zk = .int .i64 (k : Nat) ∧ Hid (Same w1 wx))
        case atStart => exact ⟨0, by omega, by omega, rfl, HKr⟩
        case round =>
          clear ci di
          obtain ⟨k, hq2, hki, rfl, HKx⟩ := hrel
          by_cases hkl : k < i
          · have hkn : k < ns.length := by have := HNL.out; omega
            have hsx := HS1.out.same HKx.out
            obtain ⟨b2, o2, cap2, e6, _, _, ck⟩ := hsx.get k hkn
            simp only [Value.slice.injEq, Option.some.injEq, Addr.mk.injEq, and_true] at e6
            obtain ⟨⟨rfl, rfl⟩, hxe, rfl⟩ := e6
            clear hxe
            obtain ⟨b3, o3, cap3, e7, _, _, ci⟩ := hsx.get i HIN.out
            simp only [Value.slice.injEq, Option.some.injEq, Addr.mk.injEq, and_true] at e7
            obtain ⟨⟨rfl, rfl⟩, hxe, rfl⟩ := e7
            clear hxe
            rw [← key_get hkn] at ck
            rw [← key_get HIN.out, ← HKI.out] at ci
            unfold natV at ck ci
            obtain ⟨hil, hli⟩ := HLI.out
            have hkl2 : k < (limL ns most).length := by rw [limL_length]; exact hkn
            have di := (HR.out.same HKx.out).cell i hil
            have dk := (HR.out.same HKx.out).cell k hkl2
            unfold natV at di dk
            rw [← hli] at di
            obtain ⟨kk, hkk⟩ : ∃ kk, kk = key ns k := ⟨_, rfl⟩
            obtain ⟨lk, hlk⟩ : ∃ lk, lk = (limL ns most)[k] := ⟨_, rfl⟩
            rw [← hkk] at ck
            rw [← hlk] at dk
            have f1 : kk > ki → 0 < ki → lk ≤ li := fun a b => by
              have e1 := HKI.out
              rw [hlk, hli]; exact fair ns most i k hil hkl2 (by omega) (by omega)
            have f2 : ki > kk → 0 < kk → li ≤ lk := fun a b => by
              have e1 := HKI.out
              rw [hlk, hli]; exact fair ns most k i hkl2 hil (by omega) (by omega)
            clear hsx hkk hlk hli hil hkl2
            have hkb : k < len := by omega
            rcases Nat.lt_trichotomy kk ki with hcmp | hcmp | hcmp
            · have g1 : decide (ki < kk) = false := by simp; omega
              have g2 : decide (kk < ki) = true := by simp; omega
              by_cases hz : 0 < kk
              · have f3 := f2 hcmp hz
                have g3 : decide (0 < kk) = true := by simp; omega
                have g4 : decide (lk < li) = false := by simp; omega
                clear f1 f2
                go_wp2_with fail
                go_quiet (fail)
                go_wp2_with fail
                go_roundg (gk - 1)
                case measure => omega
                case rel => exact ⟨k + 1, by omega, by omega, by go_num, hid (HKx.out.drewN _)⟩
              · have g3 : decide (0 < kk) = false := by simp; omega
                clear f1 f2
                go_wp2_with fail
                go_quiet (fail)
                go_wp2_with fail
                go_roundg (gk - 1)
                case measure => omega
                case rel => exact ⟨k + 1, by omega, by omega, by go_num, hid (HKx.out.drewN _)⟩
            · have g1 : decide (ki < kk) = false := by simp; omega
              have g2 : decide (kk < ki) = false := by simp; omega
              clear f1 f2 hcmp
              go_wp2_with fail
              go_quiet (fail)
              go_wp2_with fail
              go_roundg (gk - 1)
              case measure => omega
              case rel => exact ⟨k + 1, by omega, by omega, by go_num, hid (HKx.out.drewN _)⟩
            · have g1 : decide (ki < kk) = true := by simp; omega
              have g2 : decide (kk < ki) = false := by simp; omega
              by_cases hz : 0 < ki
              · have f3 := f1 hcmp hz
                have g3 : decide (0 < ki) = true := by simp; omega
                have g4 : decide (li < lk) = false := by simp; omega
                clear f1 f2
                go_wp2_with fail
                go_quiet (fail)
                go_wp2_with fail
                go_roundg (gk - 1)
                case measure => omega
                case rel => exact ⟨k + 1, by omega, by omega, by go_num, hid (HKx.out.drewN _)⟩
              · exact absurd hk0 hz
          · go_wp2_with fail
            go_roundg (gk0 - 1)
            case measure => have := HG.out; omega
            case rel => exact ⟨i + 1, c + 1, by omega, by omega, hc2, by go_num, by go_num, hc2e, HKx⟩
    · have hil : i = len := by omega
      subst hil
      have HA := awake_any wr
      have bd0 : decide (i < i) = false := by simp
      have HCE : Hid (c = (ris ns).length) := hid (by
        have h1 := HCN.out
        rw [← HNL.out] at h1
        rw [h1, (ris_perm ns).length_eq]
        rfl)
      go_wp2_with fail
      refine HA.mono ?_
      rintro e w5 ⟨rfl, hk5⟩
      have HK5 : Hid (Same w1 w5) := hid (Same.trans HKr.out hk5)
      clear hk5 HA
      by_cases hc0 : c = 0
      · go_wp2_with fail
        go_ret
        exact ⟨rfl, (Same.trans HK.out HK5.out).bel⟩
      · have hd : ((c : Int) == 0) = false := by simp; omega
        have hsl : SrcE natV w5 _ _ (limL ns most) := SrcE.ofRow (HR.out.same HK5.out)
        have HCK := check_any w5 _ _ ((limL ns most).map (fun (n : Nat) => (n : Int))) (hsl.recode (enc' := intV) (ys := (limL ns most).map (fun (n : Nat) => (n : Int))) (by rw [List.map_map]; rfl)) (by rw [List.length_map, limL_length]; have := HNL.out; omega)
        rw [lim_chk ns most (by have := HNL.out; omega) (by have := HCE.out; omega) HFIT.out.1 HFIT.out.2.1 HFIT.out.2.2] at HCK
        clear hsl
        go_wp2_with fail
        refine HCK.mono ?_
        rintro e w6 ⟨rfl, hk6⟩
        have HK6 : Hid (Same w1 w6) := hid (Same.trans HK5.out hk6)
        clear hk6 HCK
        go_wp2_with fail
        go_ret
        exact ⟨rfl, (Same.trans HK.out HK6.out).bel⟩

set_option maxHeartbeats 1000000 in
theorem fair_bad (W : World) (v : Value) (len : Nat) (m : Int) (hlong : len ≤ 5000) (ec : Int) (hec : (ec != 0) = true) (a : Option Addr) (cap : Nat) (hv : v = .slice a len cap)
    (HC : Calls Try.prog 15 #[v, .int .i64 m] W fun e w' => e = .returned (.tuple #[.slice none 0 0, .int .i64 ec]) ∧ Same W w') :
    Calls Try.prog 7 #[v, .int .i64 m] W fun e w' => e = .returned (.bool true) ∧ Below W.heap.size W w' := by
  subst hv
  have b1 : decide ((5000 : Int) < (len : Int)) = false := by simp; omega
  go_enter Try.func7, Try.ntmps7
  go_wp2_with fail
  refine HC.mono ?_
  rintro e w1 ⟨rfl, hk⟩
  have HK : Hid (Same W w1) := hk
  have HA := awake_any w1
  clear hk HC
  go_wp2_with fail
  refine HA.mono ?_
  rintro e w2 ⟨rfl, hk2⟩
  have HK2 : Hid (Same w1 w2) := hk2
  clear hk2 HA
  go_wp2_with fail
  go_ret
  exact ⟨rfl, (Same.trans HK.out HK2.out).bel⟩

theorem huffFair_all (a : Option Addr) (len cap : Nat) (zs : List Int) (m : Int) (W : World) (h : IsRow .i64 W a len cap zs) (_hm : (Lit.int .i64 m).wf = true) :
    Calls Try.prog 7 #[.slice a len cap, .int .i64 m] W fun e w' => e = .returned (.bool true) ∧ Below W.heap.size W w' := by
  obtain ⟨hs, hl⟩ := h.ints
  by_cases hlong : 5000 < len
  · have b1 : decide ((5000 : Int) < (len : Int)) = true := by simp; omega
    clear hlong hl hs h _hm
    go_enter Try.func7, Try.ntmps7
    go_wp2_with fail
    go_ret
    exact ⟨rfl, Below.refl _ _⟩
  · by_cases hb : okAll (zs.take len) 0 1000000000000 = false ∨ m < 1 ∨ 15 < m
    · exact fair_bad W _ len m (by omega) 1 (by decide) a cap rfl (limit_arg W _ _ _ m hs (by omega) hb)
    · have hok : okAll (zs.take len) 0 1000000000000 = true := by
        cases h2 : okAll (zs.take len) 0 1000000000000 with
        | true => rfl
        | false => exact absurd (.inl h2) hb
      have hm1 : 1 ≤ m ∧ m ≤ 15 := by
        constructor
        · exact Classical.byContradiction (fun h => hb (.inr (.inl (by omega))))
        · exact Classical.byContradiction (fun h => hb (.inr (.inr (by omega))))
      obtain ⟨most, hmost⟩ : ∃ most : Nat, m = (most : Nat) := ⟨m.toNat, by omega⟩
      subst hmost
      by_cases hfit : (ris ((zs.take len).map Int.toNat)).length ≤ 2 ^ most
      · exact fair_good W _ _ _ most len hs hl (by omega) hok rfl (by omega) (by omega) hfit
      · exact fair_bad W _ len _ (by omega) 30 (by decide) a cap rfl (limit_over W _ _ _ most hs hok (by omega) (by omega) (by omega))

end Go.Proofs.Ytddjbofdepamhaa
