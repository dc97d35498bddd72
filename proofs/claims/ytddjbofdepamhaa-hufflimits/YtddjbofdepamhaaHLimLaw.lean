/-
  The law HuffLimits, walked.
-/
import Derived.Test.YtddjbofdepamhaaHLimW
namespace Go.Proofs.Ytddjbofdepamhaa
open Go.RowKit

set_option maxRecDepth 100000 in
set_option maxHeartbeats 2000000 in
/-- Counts that are refused. -/
theorem limits_bad (W : World) (a : Option Addr) (len cap : Nat) (zs : List Int) (mz : Int) (c : Nat) (hs : SrcE intV W (fun k => k < W.heap.size) (.slice a len cap) zs) (hl : zs.length = len) (hlong : len ≤ 5000) (hc0 : c ≠ 0)
    (HLI : ∀ w v I, SrcE intV w I v zs → Calls Try.prog 15 #[v, .int .i64 mz] w fun e w' => e = .returned (.tuple #[.slice none 0 0, .int .i64 (c : Nat)]) ∧ Same w w')
    (HER : ∀ w v I, SrcE intV w I v zs → Calls Try.prog 16 #[v, .int .i64 mz] w fun e w' => e = .returned (.int .i64 (c : Nat)) ∧ w' = w) :
    Calls Try.prog 4 #[.slice a len cap, .int .i64 mz] W fun e w' => e = .returned (.bool true) ∧ Below W.heap.size W w' := by
  have HLE := lent_any W _ _ zs hs (by omega)
  have HS : Hid (SrcE intV W (fun k => k < W.heap.size) (.slice a len cap) zs) := hs
  have hd : ((c : Int) != (c : Int)) = false := by simp
  have hd0 : ((c : Int) != 0) = true := by simp; omega
  have b1 : decide ((5000 : Int) < (len : Int)) = false := by simp; omega
  rw [hl] at HLE
  have HL : Hid (zs.length = len) := hl
  clear hs hl hc0
  go_enter Try.func4, Try.ntmps4
  go_wp2_with fail
  refine HLE.mono ?_
  rintro e w1 ⟨g, rfl, hL1, hk1, hgb, _⟩
  have HL1 : Hid (Lent w1 g zs) := hL1
  have HK1 : Hid (Same W w1) := hk1
  have HCH := HLI w1 _ _ hL1.src
  rw [HL.out] at HCH
  clear hL1 hk1 HLE HLI
  go_wp2_with fail
  refine HCH.mono ?_
  rintro e w2 ⟨rfl, hk2⟩
  have HL2 : Hid (Lent w2 g zs) := hid (HL1.out.kept hk2 (fun h => h))
  have HK2 : Hid (Same W w2) := hid (Same.trans HK1.out hk2)
  have HCO := HER w2 _ _ (HS.out.same HK2.out)
  clear hk2 HCH HER
  go_wp2_with fail
  refine HCO.mono ?_
  rintro e w3 ⟨rfl, hw3⟩
  subst hw3
  have HBK := back_any w3 g _ _ zs HL2.out (HS.out.same HK2.out) (by have := HL.out; omega)
  rw [HL.out] at HBK
  clear HCO
  go_wp2_with fail
  refine HBK.mono ?_
  rintro e w5 ⟨rfl, hk5⟩
  have HK5 : Hid (Same W w5) := hid (Same.trans HK2.out hk5)
  have HA := awake_any w5
  clear hk5 HBK
  go_wp2_with fail
  refine HA.mono ?_
  rintro e w6 ⟨rfl, hk6⟩
  have HK6 : Hid (Same W w6) := hid (Same.trans HK5.out hk6)
  clear hk6 HA
  go_wp2_with fail
  go_ret
  exact ⟨rfl, HK6.out.bel⟩

theorem cost_bd (ns : List Nat) (most : Nat) (hk : ∀ n ∈ ns, n ≤ 1000000000000) (hle : ∀ n ∈ limL ns most, n ≤ 15) (i : Nat) (hi : i ≤ ns.length) : costTo ns (limL ns most) i ≤ i * 15000000000000 := by
  induction i with
  | zero => simp [costTo]
  | succ i ih =>
    rw [costTo_succ]
    have h1 := ih (by omega)
    have hl : i < (limL ns most).length := by rw [limL_length]; omega
    have h2 : (limL ns most).getD i 0 ≤ 15 := by
      have : (limL ns most).getD i 0 = (limL ns most)[i] := by simp [List.getD, hl]
      rw [this]
      exact hle _ (List.getElem_mem _)
    have h3 : key ns i ≤ 1000000000000 := by
      rw [key_get (show i < ns.length by omega)]
      exact hk _ (List.getElem_mem _)
    have h4 : key ns i * (limL ns most).getD i 0 ≤ 1000000000000 * 15 := Nat.mul_le_mul h3 h2
    rw [Nat.succ_mul]
    split
    · exact Nat.le_trans h1 (Nat.le_add_right _ _)
    · exact Nat.add_le_add h1 h4

set_option maxRecDepth 100000 in
set_option maxHeartbeats 4000000 in
theorem limits_good (W : World) (a : Option Addr) (len cap : Nat) (zs : List Int) (ns : List Nat) (most : Nat) (hs : SrcE intV W (fun k => k < W.heap.size) (.slice a len cap) zs) (hl : zs.length = len) (hlong : len ≤ 5000) (hok : okAll zs 0 1000000000000 = true) (hns : ns = zs.map Int.toNat) (h1 : 1 ≤ most) (h15 : most ≤ 15) (hfit : (ris ns).length ≤ 2 ^ most) :
    Calls Try.prog 4 #[.slice a len cap, .int .i64 (most : Nat)] W fun e w' => e = .returned (.bool true) ∧ Below W.heap.size W w' := by
  have HLE := lent_any W _ _ zs hs (by omega)
  have HS : Hid (SrcE intV W (fun k => k < W.heap.size) (.slice a len cap) zs) := hs
  have HP : Hid (okAll zs 0 1000000000000 = true ∧ ns = zs.map Int.toNat ∧ 1 ≤ most ∧ most ≤ 15 ∧ (ris ns).length ≤ 2 ^ most) := hid ⟨hok, hns, h1, h15, hfit⟩
  obtain ⟨eN, h0, h288, hle⟩ := okAll_nat hok
  rw [← hns] at eN hle
  have HSN : Hid (SrcE natV W (fun k => k < W.heap.size) (.slice a len cap) ns) := hid (hs.recode eN)
  have HKL : Hid (∀ n ∈ ns, n ≤ 1000000000000) := hid (fun n hn => by have := hle n hn; omega)
  have HLL : Hid (∀ n ∈ limL ns most, n ≤ most) := hid (lim_le ns most hfit h1 h15)
  have hd : ((len : Int) != (len : Int)) = false := by simp
  have b1 : decide ((5000 : Int) < (len : Int)) = false := by simp; omega
  have HNL : Hid (ns.length = len) := hid (by rw [hns]; simp; exact hl)
  rw [hl] at HLE h288 h0
  have HL : Hid (zs.length = len) := hl
  clear hs hl hok hns eN hle hfit
  go_enter Try.func4, Try.ntmps4
  go_wp2_with fail
  refine HLE.mono ?_
  rintro e w1 ⟨g, rfl, hL1, hk1, hgb, _⟩
  have HL1 : Hid (Lent w1 g zs) := hL1
  have HK1 : Hid (Same W w1) := hk1
  have HCH := limit_good w1 _ _ zs ns most hL1.src HP.out.1 HP.out.2.1 HP.out.2.2.1 HP.out.2.2.2.1 HP.out.2.2.2.2
  rw [HL.out] at HCH
  clear hL1 hk1 HLE
  go_wp2_with fail
  refine HCH.mono ?_
  rintro e w2 ⟨⟨gl, nl, capl, rfl, hr, hgl⟩, hk2⟩
  have hnl := hr.len
  rw [limL_length, HNL.out] at hnl
  subst hnl
  have HR : Hid (NRow 0 w2 (.slice (some ⟨gl, 0, none⟩) len capl) (limL ns most)) := hr
  have HL2 : Hid (Lent w2 g zs) := hid (HL1.out.kept hk2 (fun h => h))
  have HK2 : Hid (Same W w2) := hid (Same.trans HK1.out hk2)
  have HCO := limerr_ok w2 _ _ zs ns most 0 (HS.out.same HK2.out) HP.out.1 HP.out.2.1 HP.out.2.2.1 HP.out.2.2.2.1 (by rw [if_neg (by have := HP.out.2.2.2.2; omega)])
  clear hk2 HCH hr hgl
  go_wp2_with fail
  refine HCO.mono ?_
  rintro e w3 ⟨rfl, hw3⟩
  subst hw3
  have HBK := back_any w3 g _ _ zs HL2.out (HS.out.same HK2.out) (by have := HL.out; omega)
  rw [HL.out] at HBK
  clear HCO
  go_wp2_with fail
  refine HBK.mono ?_
  rintro e w5 ⟨rfl, hk5⟩
  have HK5 : Hid (Same W w5) := hid (Same.trans HK2.out hk5)
  have HR5 : Hid (NRow 0 w5 (.slice (some ⟨gl, 0, none⟩) len capl) (limL ns most)) := hid (HR.out.same hk5)
  have HS5 : Hid (SrcE natV w5 (fun k => k < W.heap.size) (.slice a len cap) ns) := hid (HSN.out.same HK5.out)
  clear hk5 HBK HR
  go_wp2_with fail
  clear hd
  go_loopg [9, 10, 11] len (fun q zn zs zi wr => ∃ (i c s : Nat), len - i ≤ q ∧ i ≤ len ∧ c ≤ 288 ∧ s ≤ 5000000000000000 ∧ zi = .int .i64 (i : Nat) ∧ zn = .int .i64 (c : Nat) ∧ zs = .int .i64 (s : Nat) ∧ Hid (c = (usedTo ns i).length) ∧ Hid (s = costTo ns (limL ns most) i) ∧ Hid (Same w5 wr))
  case atStart => exact ⟨0, 0, 0, by omega, by omega, by omega, by omega, rfl, rfl, rfl, hid (by simp [usedTo]), hid (by simp [costTo]), Kept.refl _ _⟩
  case round =>
    obtain ⟨i, c, s, hq, hi, hc, hs, rfl, rfl, rfl, HCN, HCS, HKr⟩ := hrel
    by_cases hlt : i < len
    · have hin : i < ns.length := by have := HNL.out; omega
      have hil : i < (limL ns most).length := by rw [limL_length]; exact hin
      obtain ⟨b, o, cap', e5, _, _, ci⟩ := (HS5.out.same HKr.out).get i hin
      simp only [Value.slice.injEq] at e5
      obtain ⟨rfl, hxe, rfl⟩ := e5
      clear hxe
      rw [← key_get hin] at ci
      have cl := (HR5.out.same HKr.out).cell i hil
      have hget := limL_get ns most i hil
      obtain ⟨x, hx⟩ : ∃ x, x = (limL ns most)[i] := ⟨_, rfl⟩
      obtain ⟨y, hy⟩ : ∃ y, y = key ns i := ⟨_, rfl⟩
      rw [← hx] at cl hget
      rw [← hy] at ci hget
      unfold natV at ci cl
      have hxm : x ≤ most := by rw [hx]; exact HLL.out _ (List.getElem_mem _)
      have hgd : (limL ns most).getD i 0 = x := by rw [hx]; simp [List.getD, hil]
      have hcs := costTo_succ ns (limL ns most) i
      rw [hgd, ← hy] at hcs
      have hcb := cost_bd ns most HKL.out (fun n hn => by have := HLL.out n hn; omega) (i + 1) (by omega)
      have hus := usedTo_succ ns i
      rw [← hy] at hus
      by_cases hy0 : y = 0
      · have hx0 : x = 0 := by rw [hget, if_pos hy0]
        rw [if_pos hy0, Nat.add_zero] at hcs
        rw [if_pos hy0, List.append_nil] at hus
        have HCS2 : Hid (s = costTo ns (limL ns most) (i + 1)) := hid (by rw [hcs]; exact HCS.out)
        have HCN2 : Hid (c = (usedTo ns (i + 1)).length) := hid (by rw [hus]; exact HCN.out)
        rw [hx0] at cl
        rw [hy0] at ci
        have hmm : decide ((most : Int) < 0) = false := by simp
        clear hx hy hget hxm hgd hcs hcb hus hy0 hx0
        go_wp2_with fail
        go_quiet (fail)
        go_wp2_with fail
        go_roundg (gk - 1)
        case measure => omega
        case rel => exact ⟨i + 1, c, s, by omega, by omega, hc, hs, by go_num, rfl, rfl, HCN2, HCS2, hid (HKr.out.drewN _)⟩
      · have hx0 : 0 < x := by
          rw [hget, if_neg hy0]
          split
          · omega
          · rename_i hr
            refine Many.pos ⟨by omega, HP.out.2.2.2.2, h1, h15⟩ _ (List.idxOf_lt_length_of_mem (mem_ris.2 ⟨by have := HNL.out; omega, by omega⟩))
        rw [if_neg hy0] at hcs
        rw [if_neg hy0] at hus
        obtain ⟨p, hp⟩ : ∃ p, p = y * x := ⟨_, rfl⟩
        obtain ⟨t, ht⟩ : ∃ t, t = s + p := ⟨_, rfl⟩
        have hte : t = costTo ns (limL ns most) (i + 1) := by rw [ht, hcs, hp, HCS.out]
        have ht5 : t ≤ 5000000000000000 := by
          rw [hte]
          have : i + 1 ≤ 288 := by omega
          have := Nat.mul_le_mul_right 15000000000000 this
          omega
        have hpI : (y : Int) * (x : Int) = (p : Int) := by rw [hp]; simp
        have htI : (s : Int) + (p : Int) = (t : Int) := by omega
        have hwp : IntKind.i64.wrap (p : Int) = (p : Int) := by rw [IntKind.wrap_i64]; omega
        have hwt : IntKind.i64.wrap (t : Int) = (t : Int) := by rw [IntKind.wrap_i64]; omega
        have hw64 : wrap64 (p : Int) = (p : Int) := by unfold wrap64; omega
        have HCS2 : Hid (t = costTo ns (limL ns most) (i + 1)) := hte
        have HCN2 : Hid (c + 1 = (usedTo ns (i + 1)).length) := hid (by rw [hus, List.length_append, ← HCN.out]; rfl)
        have hc2 : c + 1 ≤ 288 := by rw [HCN2.out]; have := usedTo_length ns (i + 1); omega
        have hy1 : 0 < y := by omega
        have hmx : decide (most < x) = false := by simp; omega
        clear hx hy hget hgd hcs hcb hus hy0 hte hp ht hxm
        go_wp2_with fail
        go_quiet (fail)
        go_wp2_with fail
        go_quiet (fail)
        go_wp2_with fail
        go_roundg (gk - 1)
        case measure => omega
        case rel => exact ⟨i + 1, c + 1, t, by omega, by omega, hc2, ht5, by go_num, by go_num, rfl, HCN2, HCS2, hid (HKr.out.drewN _)⟩
    · have hil : i = len := by omega
      have hb0 : decide (i < len) = false := by simp; omega
      have hcr : c = (ris ns).length := by
        rw [HCN.out, hil, ← HNL.out, (ris_perm ns).length_eq]; rfl
      have hcost : s = costTo ns (limL ns most) ns.length := by rw [HCS.out, hil, HNL.out]
      have HA := awake_any wr
      have HKW : Hid (Same W wr) := hid (Same.trans HK5.out HKr.out)
      clear hil hlt
      by_cases hc0 : c = 0
      · have hd0 : ((c : Int) == 0) = true := by simp; omega
        clear hcr hcost hc0
        go_wp2_with fail
        refine HA.mono ?_
        rintro e w6 ⟨rfl, hk6⟩
        have HK6 : Hid (Same W w6) := hid (Same.trans HKW.out hk6)
        clear hk6 HA
        go_wp2_with fail
        go_ret
        exact ⟨rfl, HK6.out.bel⟩
      · have hd0 : ((c : Int) == 0) = false := by simp; omega
        by_cases hc1 : c = 1
        · have hd1 : ((c : Int) == 1) = true := by simp; omega
          have HONE : Hid (∀ n ∈ limL ns most, n ≤ 1) := hid (by
            intro n hn
            obtain ⟨j, hj, rfl⟩ := List.getElem_of_mem hn
            rw [limL_get]
            split
            · omega
            · rw [if_pos (by omega)]; omega)
          have HR6 : Hid (NRow 0 wr (.slice (some ⟨gl, 0, none⟩) len capl) (limL ns most)) := hid (HR5.out.same HKr.out)
          obtain ⟨w6, hw6⟩ : ∃ w6, w6 = wr := ⟨_, rfl⟩
          subst hw6
          clear hcr hcost hc0 hc1
          go_wp2_with fail
          clear hd0 hd1 hb0
          go_loopg [12] len (fun q zi wr => ∃ (i : Nat), len - i ≤ q ∧ i ≤ len ∧ zi = .int .i64 (i : Nat) ∧ wr = w6)
          case atStart => exact ⟨0, by omega, by omega, rfl, rfl⟩
          case round =>
            obtain ⟨j, hq2, hj, rfl, rfl⟩ := hrel
            by_cases hlt : j < len
            · have hjl : j < (limL ns most).length := by rw [limL_length]; have := HNL.out; omega
              have cl := HR6.out.cell j hjl
              obtain ⟨x, hx⟩ : ∃ x, x = (limL ns most)[j] := ⟨_, rfl⟩
              rw [← hx] at cl
              unfold natV at cl
              have hx1 : x ≤ 1 := by rw [hx]; exact HONE.out _ (List.getElem_mem _)
              have hx2 : decide ((1 : Int) < (x : Int)) = false := by simp; omega
              clear hx hx1
              go_wp2_with fail
              go_roundg (gk - 1)
              case measure => omega
              case rel => exact ⟨j + 1, by omega, by omega, by go_num, rfl⟩
            · go_wp2_with fail
              refine HA.mono ?_
              rintro e w7 ⟨rfl, hk6⟩
              have HK6 : Hid (Same W w7) := hid (Same.trans HKW.out hk6)
              clear hk6 HA
              go_wp2_with fail
              go_ret
              exact ⟨rfl, HK6.out.bel⟩
        · have hd1 : ((c : Int) == 1) = false := by simp; omega
          have hmany : Many ns most := ⟨by omega, HP.out.2.2.2.2, h1, h15⟩
          rw [costTo_many ns most hmany] at hcost
          have HCOST : Hid (s = (((lev (wsOf ns) (most - 1)).take (2 * (wsOf ns).length - 2)).map (·.1)).sum) := hcost
          have HM : Hid (Many ns most) := hmany
          have hss : ((s : Int) == (s : Int)) = true := by simp
          have HLC : Hid (chk ((limL ns most).map (fun (n : Nat) => (n : Int))) = 0) := hid (lim_chk ns most (by have := HNL.out; omega) (by omega) HP.out.2.2.2.2 h1 h15)
          clear hcr hcost hc0 hc1 hmany
          go_wp2_with fail
          refine HA.mono ?_
          rintro e w6 ⟨rfl, hk6⟩
          have HK6 : Hid (Same W w6) := hid (Same.trans HKW.out hk6)
          have hr6 : NRow 0 w6 (.slice (some ⟨gl, 0, none⟩) len capl) (limL ns most) := (HR5.out.same HKr.out).same hk6
          have HRK := rcheck_any w6 _ _ ((limL ns most).map (fun (n : Nat) => (n : Int))) (SrcE.recode (enc' := intV) (SrcE.ofRow hr6) (by rw [List.map_map]; rfl)) (by rw [List.length_map, limL_length]; have := HNL.out; omega)
          rw [HLC.out] at HRK
          have HLT := least_any w6 _ _ ns most (HSN.out.same HK6.out) (by have := HNL.out; omega) HKL.out HM.out
          rw [← HCOST.out] at HLT
          clear hk6 hr6 HA
          go_wp2_with fail
          refine HRK.mono ?_
          rintro e w7 ⟨rfl, hw7⟩
          subst hw7
          clear HRK
          go_wp2_with fail
          refine HLT.mono ?_
          rintro e w8 ⟨rfl, hk8⟩
          have HK8 : Hid (Same W w8) := hid (Same.trans HK6.out hk8)
          clear hk8 HLT
          go_wp2_with fail
          go_ret
          exact ⟨rfl, HK8.out.bel⟩

theorem huffLimits_all (a : Option Addr) (len cap : Nat) (zs : List Int) (mz : Int) (W : World) (h : IsRow .i64 W a len cap zs) (_hm : (Lit.int .i64 mz).wf = true) :
    Calls Try.prog 4 #[.slice a len cap, .int .i64 mz] W fun e w' => e = .returned (.bool true) ∧ Below W.heap.size W w' := by
  obtain ⟨hs, hl⟩ := h.ints
  clear h
  by_cases hlong : 5000 < len
  · have b1 : decide ((5000 : Int) < (len : Int)) = true := by simp; omega
    clear hlong hl hs
    go_enter Try.func4, Try.ntmps4
    go_wp2_with fail
    go_ret
    exact ⟨rfl, Below.refl _ _⟩
  · by_cases hb : okAll (zs.take len) 0 1000000000000 = false ∨ mz < 1 ∨ 15 < mz
    · exact limits_bad W a len cap _ mz 1 hs hl (by omega) (by decide) (fun w v I h => limit_arg w v I _ mz h (by omega) hb) (fun w v I h => limerr_arg w v I _ mz h (by omega) hb)
    · have hok : okAll (zs.take len) 0 1000000000000 = true := by
        cases hx : okAll (zs.take len) 0 1000000000000 with
        | true => rfl
        | false => exact absurd (.inl hx) hb
      have h1 : ¬ mz < 1 := fun h => hb (.inr (.inl h))
      have h2 : ¬ 15 < mz := fun h => hb (.inr (.inr h))
      obtain ⟨most, rfl⟩ : ∃ n : Nat, mz = (n : Int) := ⟨mz.toNat, by omega⟩
      by_cases hover : 2 ^ most < (ris ((zs.take len).map Int.toNat)).length
      · exact limits_bad W a len cap _ _ 30 hs hl (by omega) (by decide) (fun w v I h => limit_over w v I _ most h hok (by omega) (by omega) hover)
          (fun w v I h => limerr_ok w v I _ _ most 30 h hok rfl (by omega) (by omega) (by rw [if_pos hover]))
      · exact limits_good W a len cap _ _ most hs hl (by omega) hok rfl (by omega) (by omega) (by omega)

end Go.Proofs.Ytddjbofdepamhaa
