/-
  Of the proof: parts MtJ, MtT.
-/
import Derived.Lib.Strings
import Derived.Lib.Slices
import Derived.Lib.Small
import Derived.Lib.Walk
import Derived.Lib.BitFns
import Derived.Test.YtggcbnhckcenmaaGreatDoorJ12

/-
  The program's layer 6: bits of numbers; width, Cost.
-/
namespace Go.Proofs.YtggcbnhckcenmaaGreatDoor
open Go.RowKit

theorem blen_bits (n : Nat) (h : n < 2 ^ 64) : Lib.bitLen n = blen n := by
  induction n using Nat.strongRecOn with
  | ind n ih =>
    by_cases h0 : n = 0
    · subst h0; rfl
    · rw [Lib.bitLen_half n h0 h, ih (n / 2) (by omega) (by omega)]
      by_cases h1 : n = 1
      · subst h1; rfl
      · unfold blen
        rw [if_neg (by omega), if_neg h0]
        rw [Nat.log2_def n, if_pos (by omega)]
        omega

theorem tab8_at (y : Int) (h : y.toNat < Lib.len8tab.size) (h0 : 0 ≤ y) (h1 : y < 256) : ((Lib.len8tab[y.toNat]'h).toNat : Int) = (Lib.bitLen y.toNat : Nat) := by
  have e := Lib.len8_of y h0 (by omega)
  unfold Lib.len8 at e
  rw [getElem?_pos Lib.len8tab y.toNat h] at e
  exact e

theorem wrap_small (a : Nat) (ha : a ≤ 100) : wrap64 (a : Int) = (a : Int) := by unfold wrap64; omega

set_option maxRecDepth 100000 in
set_option maxHeartbeats 1000000 in
theorem len64_any (w : World) (x : Int) (h0 : 0 ≤ x) (h1 : x < 65536) :
    Calls Tryz.prog 169 #[.int .u64 x] w fun e w' => e = .returned (.int .i64 (blen x.toNat : Nat)) ∧ w' = w := by
  rw [← blen_bits x.toNat (by omega)]
  by_cases hs : x < 256
  · have l := Lib.bitLen_le8' x h0 (by omega)
    go_enter Tryz.func169, Tryz.ntmps169
    go_wp2
    all_goals first
      | (go_ret
         refine ⟨congrArg Ending.returned (congrArg (Value.int IntKind.i64) ?_), rfl⟩
         rw [tab8_at x _ h0 hs, wrap_small _ (by omega), wrap_small _ (by omega)])
      | (exfalso
         have hz := tab8_size
         omega)
  · obtain ⟨y, hy⟩ : ∃ y, y = x / 256 := ⟨_, rfl⟩
    have l := Lib.bitLen_le8' y (by omega) (by omega)
    have sh := Lib.bitLen_shift8 x.toNat (by omega) (by omega)
    have hy2 : x.toNat / 256 = y.toNat := by omega
    rw [hy2] at sh
    have HY : Hid (0 ≤ y ∧ y < 256) := hid (by omega)
    have HSH : Hid (Lib.bitLen x.toNat = 8 + Lib.bitLen y.toNat ∧ Lib.bitLen y.toNat ≤ 8) := hid ⟨sh, l⟩
    have hy3 : x / 256 = y := hy.symm
    have hyw : y % 256 = y := by have := HY.out; omega
    have hye : IntKind.u8.wrap y = y := by rw [IntKind.wrap_u8]; exact hyw
    clear hy hy2 l sh
    go_enter Tryz.func169, Tryz.ntmps169
    go_wp2
    all_goals first
      | (go_ret
         refine ⟨congrArg Ending.returned (congrArg (Value.int IntKind.i64) ?_), rfl⟩
         have h7 := HSH.out
         rw [tab8_at y _ HY.out.1 HY.out.2, wrap_small _ (by omega), h7.1]
         unfold wrap64
         omega)
      | (exfalso
         have hz := tab8_size
         have := HY.out
         omega)

set_option maxHeartbeats 1000000 in
theorem lenU_any (w : World) (x : Int) (h0 : 0 ≤ x) (h1 : x < 65536) :
    Calls Tryz.prog 148 #[.int .u64 x] w fun e w' => e = .returned (.int .i64 (blen x.toNat : Nat)) ∧ w' = w := by
  have H := len64_any w x h0 h1
  go_enter Tryz.func148, Tryz.ntmps148
  go_wp2_with fail
  refine H.mono ?_
  rintro e w1 ⟨rfl, rfl⟩
  clear H
  go_wp2_with fail
  go_ret
  exact ⟨rfl, rfl⟩

theorem measT_small {most : Nat} {ts : List TK} {n : Nat} (h : measT most ts 0 = .ok n) (hm : most ≤ 16384) : ∀ i (hi : i < ts.length), ∃ c, c ≤ 16384 ∧ mayT ts[i] c = true ∧ i ≤ c := by
  have key : ∀ i, i ≤ ts.length → ∃ c, measT most (ts.drop i) c = .ok n ∧ c ≤ most ∧ i ≤ c := by
    intro i
    induction i with
    | zero => intro _; exact ⟨0, by simpa using h, by omega, by omega⟩
    | succ i ih =>
      intro hi
      obtain ⟨c, h1, h2, h3⟩ := ih (by omega)
      rw [List.drop_eq_getElem_cons (by omega), measT] at h1
      split at h1
      · cases h1
      · split at h1
        · cases h1
        · have := tlen_pos ts[i]
          exact ⟨_, h1, by omega, by omega⟩
  intro i hi
  obtain ⟨c, h1, h2, h3⟩ := key i (by omega)
  rw [List.drop_eq_getElem_cons hi, measT] at h1
  split at h1
  · cases h1
  · rename_i h4
    exact ⟨c, by omega, by simpa using h4, h3⟩

end Go.Proofs.YtggcbnhckcenmaaGreatDoor

/-
  The reference's layer 6: may, Expand, Check, Cost.
-/
namespace Go.Proofs.YtggcbnhckcenmaaGreatDoor
open Go.RowKit

set_option maxRecDepth 100000 in
set_option maxHeartbeats 2000000 in
theorem rmay_any (w : World) (t : TK) (said : Nat) (hsd : said ≤ 32768) :
    Calls Tryz.prog 42 #[.agg (tkA t), .int .i64 (said : Nat)] w fun e w' => e = .returned (.bool (mayT t said)) ∧ Same w w' := by
  obtain ⟨lit, len, dist⟩ := t
  have HK0 : Hid (Same w (w.alloc (.cells #[.int .u8 (lit : Nat), .int .i64 len, .int .i64 dist] 33))) := hid ((Kept.refl _ w).alloc _)
  by_cases h0 : len = 0
  · have HM : Hid (mayT ⟨lit, len, dist⟩ said = (dist == 0)) := hid (mayT_zero h0 said)
    have e0 : (len == 0) = true := by simp [h0]
    clear h0
    simp only [tkA]
    go_enter Tryz.func42, Tryz.ntmps42
    go_wp2_with fail
    go_ret
    exact ⟨by rw [HM.out]; rfl, HK0.out⟩
  · have HM : Hid (mayT ⟨lit, len, dist⟩ said = (decide (lit = 0) && (inT len 3 258 && inT dist 1 (said : Int)))) := hid (mayT_copy h0 said)
    have e0 : (len == 0) = false := by simp [h0]
    clear h0
    simp only [tkA]
    have hall : (mayT ⟨lit, len, dist⟩ said = true ∧ lit = 0 ∧ 3 ≤ len ∧ len ≤ 258 ∧ 1 ≤ dist ∧ dist ≤ 32768 ∧ dist ≤ (said : Int)) ∨ (mayT ⟨lit, len, dist⟩ said = false ∧ (lit ≠ 0 ∨ len < 3 ∨ 258 < len ∨ dist < 1 ∨ (said : Int) < dist)) := by
      cases hm : mayT ⟨lit, len, dist⟩ said with
      | true =>
        rw [HM.out] at hm
        simp [inT] at hm
        exact .inl ⟨rfl, by omega, by omega, by omega, by omega, by omega, by omega⟩
      | false =>
        refine .inr ⟨rfl, ?_⟩
        rw [HM.out] at hm
        refine Classical.byContradiction (fun hc => ?_)
        have : (decide (lit = 0) && (inT len 3 258 && inT dist 1 (said : Int))) = true := by simp [inT]; omega
        rw [this] at hm
        cases hm
    rcases hall with ⟨hm, rfl, h1, h2, h3, h4, h5⟩ | ⟨hm, hc⟩
    · have HE := hid hm
      clear hm HM
      go_enter Tryz.func42, Tryz.ntmps42
      go_wp2_with fail
      all_goals first
        | (exfalso; omega)
        | (go_ret; exact ⟨by rw [HE.out]; first | rfl | (simp; omega), HK0.out⟩)
    · have HE := hid hm
      have HC := hid hc
      clear hm HM hc
      by_cases hl : lit = 0
      · subst hl
        go_enter Tryz.func42, Tryz.ntmps42
        go_wp2_with fail
        all_goals
          go_ret
          refine ⟨congrArg Ending.returned (congrArg Value.bool ?_), HK0.out⟩
          have hcc := HC.out
          first
            | (rw [HE.out]; done)
            | (rw [HE.out]; simp; omega)
      · have el : ((lit : Int) == 0) = false := by simp; omega
        clear hl HC
        go_enter Tryz.func42, Tryz.ntmps42
        go_wp2_with fail
        go_ret
        exact ⟨by rw [HE.out]; rfl, HK0.out⟩

set_option maxHeartbeats 1000000 in
theorem rexp_bad (w : World) (v : Value) (m : Int) (hm : m < 0 ∨ 16384 < m) :
    Calls Tryz.prog 21 #[v, .int .i64 m] w fun e w' => e = .returned (.tuple #[.slice none 0 0, .int .i64 1]) ∧ Same w w' := by
  by_cases h0 : m < 0
  · clear hm
    go_enter Tryz.func21, Tryz.ntmps21
    go_wp2_with fail
    go_ret2
    exact ⟨rfl, Kept.refl _ _⟩
  · have h1 : 16384 < m := by omega
    clear hm
    go_enter Tryz.func21, Tryz.ntmps21
    go_wp2_with fail
    go_ret2
    exact ⟨rfl, Kept.refl _ _⟩

set_option maxRecDepth 100000 in
set_option maxHeartbeats 4000000 in
theorem rexp_any (w : World) (v : Value) (I : Nat → Prop) (ts : List TK) (most : Nat) (hs : TkSrc w I v ts) (hlen : ts.length ≤ 10000000) (hm : most ≤ 16384) :
    Calls Tryz.prog 21 #[v, .int .i64 (most : Nat)] w fun e w' => ExpA w w' e ts (measT most ts 0) := by
  obtain ⟨ao, cap, rfl, hx1, hx2⟩ := id hs
  clear hx1 hx2
  have HS : Hid (TkSrc w I (.slice ao ts.length cap) ts) := hs
  have b0 : decide ((most : Int) < 0) = false := by simp
  have b1 : decide ((16384 : Int) < (most : Int)) = false := by simp; omega
  clear hs
  go_enter Tryz.func21, Tryz.ntmps21
  go_wp2_with fail
  clear b0 b1
  go_loopg [6, 7] ts.length (fun q zo zi wr => ∃ (i : Nat), ts.length - i ≤ q ∧ i ≤ ts.length ∧ zi = .int .i64 (i : Nat) ∧ (expT (ts.take i) []).length ≤ most ∧ Hid (Fresh w wr zo (expT (ts.take i) [])) ∧ Hid (measT most (ts.drop i) (expT (ts.take i) []).length = measT most ts 0))
  case atStart => exact ⟨0, by omega, by omega, rfl, by simp [expT], hid ⟨World.ownsRow_nil w 0 5 1, Kept.refl _ _, fun k e => by cases e⟩, hid (by simp [expT])⟩
  case round =>
    obtain ⟨i, hq, hi, rfl, hol, HF, HME⟩ := hrel
    by_cases hlt : i < ts.length
    · obtain ⟨b, o, e1, c1, c2, c3⟩ := HS.out.at HF.out.kept i hlt
      subst e1
      obtain ⟨so, scap, hso, hsh⟩ := HF.out.row.shape
      obtain ⟨out, hout⟩ : ∃ out, out = expT (ts.take i) [] := ⟨_, rfl⟩
      rw [← hout] at hso hsh hol HF
      obtain ⟨M, hM⟩ : ∃ M, M = out.length := ⟨_, rfl⟩
      rw [← hM] at hso hol
      subst hso
      obtain ⟨t, ht⟩ : ∃ t, t = ts[i] := ⟨_, rfl⟩
      have HX : Hid (expT (ts.take (i + 1)) [] = sayT out t) := hid (by rw [expT_snoc ts i hlt, ← hout, ← ht])
      have HD : Hid (measT most ts 0 = measT most (t :: ts.drop (i + 1)) M) := hid (by rw [← HME.out, ← hout, ← hM, List.drop_eq_getElem_cons hlt, ht])
      rw [← ht] at c1 c2 c3
      obtain ⟨lit, len, dist⟩ := t
      have HMY := rmay_any wr ⟨lit, len, dist⟩ M (by omega)
      simp only [tkA] at HMY
      have HMO := hid hM
      have HTI : Hid (∀ W, Same w W → ∃ b' o', (some ⟨b, o, none⟩ : Option Addr) = some ⟨b', o', none⟩ ∧ W.cell? ⟨b', o' + i * 3, none⟩ = some (.int .u8 (lit : Nat)) ∧ W.cell? ⟨b', o' + i * 3 + 1, none⟩ = some (.int .i64 len) ∧ W.cell? ⟨b', o' + i * 3 + 2, none⟩ = some (.int .i64 dist)) := hid (fun W hk => by have := HS.out.at hk i hlt; rwa [← ht] at this)
      simp only at c1 c2 c3
      clear ht HME hout hM
      cases hmy : mayT ⟨lit, len, dist⟩ M with
      | false =>
        have HE : Hid (measT most ts 0 = .error 60) := hid (by rw [HD.out, measT, if_pos hmy])
        rw [hmy] at HMY
        clear hmy HD HX
        go_wp2_with fail
        refine HMY.mono ?_
        rintro e w1 ⟨rfl, hk1⟩
        have HK1 := hid (Same.trans HF.out.kept hk1)
        clear hk1 HMY
        go_wp2_with fail
        go_ret2
        rw [HE.out]
        exact ⟨rfl, HK1.out⟩
      | true =>
        obtain ⟨tl, htl⟩ : ∃ n : Nat, n = tlen ⟨lit, len, dist⟩ := ⟨_, rfl⟩
        have HD2 : Hid (measT most ts 0 = if most < M + tl then .error 2 else measT most (ts.drop (i + 1)) (M + tl)) := hid (by rw [HD.out, measT, if_neg (by rw [hmy]; decide), htl])
        have HSL : Hid ((sayT out ⟨lit, len, dist⟩).length = M + tl) := hid (by rw [sayT_length hmy, ← HMO.out, htl])
        rw [hmy] at HMY
        have hcs := mayT_cases hmy
        have hmx : max 1 len = (tl : Int) := by rw [htl]; unfold tlen; simp only; omega
        have htb : 1 ≤ tl ∧ tl ≤ 258 := by rcases hcs with ⟨_, _, h⟩ | ⟨n, d, _, _, _, _, _, _, _, h⟩ <;> omega
        clear hmy HD
        by_cases hbig : most < M + tl
        · have HE : Hid (measT most ts 0 = .error 2) := hid (by rw [HD2.out, if_pos hbig])
          clear HD2 htl hcs
          go_wp2_with fail
          refine HMY.mono ?_
          rintro e w1 ⟨rfl, hk1⟩
          have HK1 := hid (Same.trans HF.out.kept hk1)
          have d2 : w1.cell? ⟨b, o + i * 3 + 1, none⟩ = some (.int .i64 len) := hk1.cell c2 (fun f => f)
          clear hk1 HMY c1 c2 c3
          go_wp2_with fail
          all_goals first
            | (exfalso; omega)
            | (go_ret2; rw [HE.out]; exact ⟨rfl, HK1.out⟩)
        · have HE : Hid (measT most (ts.drop (i + 1)) (expT (ts.take (i + 1)) []).length = measT most ts 0) := hid (by rw [HD2.out, if_neg hbig, HX.out, HSL.out])
          have hol2 : (expT (ts.take (i + 1)) []).length ≤ most := by rw [HX.out, HSL.out]; omega
          clear HD2
          rcases hcs with ⟨h0, h1, h2⟩ | ⟨n, d, h0, h1, h2, h3, h4, h5, h6, h7⟩
          · simp only at h0 h1
            subst h0 h1
            have htl1 : tl = 1 := by omega
            subst htl1
            have HSY : Hid (expT (ts.take (i + 1)) [] = out ++ [lit]) := hid (by rw [HX.out]; unfold sayT; rw [if_pos rfl])
            have HLN : Hid (out.length + [lit].length ≤ 1000000000000) := hid (by rw [← HMO.out]; simp; omega)
            have hbn : ¬ most < M + 1 := hbig
            clear htl h2 hmx htb hbig
            go_wp2_with fail
            refine HMY.mono ?_
            rintro e w1 ⟨rfl, hk1⟩
            have HF1 := hid (HF.out.later hk1 (fun _ f => f.elim))
            have d1 : w1.cell? ⟨b, o + i * 3, none⟩ = some (.int .u8 (lit : Nat)) := hk1.cell c1 (fun f => f)
            have d2 : w1.cell? ⟨b, o + i * 3 + 1, none⟩ = some (.int .i64 0) := hk1.cell c2 (fun f => f)
            clear hk1 HMY c1 c2 c3
            go_wp2_with (at_builtin; refine wpList_append_row _ rfl (.tmp 46) (.tmp 52) rfl (.slice so M scap) out rfl (World.ownsRow.alloc HF1.out.row _) ⟨w1.heap.size, 0, none⟩ 1 1 [lit] rfl rfl (bytesAt_new _ _) HLN.out ?_)
            intro v' w2 hrow hgr hv'
            have hf2 : Fresh w w2 v' (expT (ts.take (i + 1)) []) := by rw [HSY.out]; exact HF1.out.app hrow hgr (by simpa using hv')
            have HF2 := hid hf2
            obtain ⟨b2, o2, e9, _, g2, _⟩ := HTI.out w2 hf2.kept
            simp only [Option.some.injEq, Addr.mk.injEq, and_true] at e9
            obtain ⟨rfl, rfl⟩ := e9
            obtain ⟨a5, c5, hv5, _⟩ := hf2.row.shape
            generalize (expT (ts.take (i + 1)) []).length = n5 at hv5
            subst hv5
            clear hrow hgr hv' hf2 d1 d2
            go_wp2_with fail
            refine wp_loop_rounds 1 ?_
            rw [rounds_succ]
            go_wp2_with fail
            go_roundg (gk - 1)
            case measure => omega
            case rel => exact ⟨i + 1, by omega, by omega, by go_num, hol2, HF2, HE⟩
          · simp only at h0 h1 h2
            subst h0 h1 h2
            have htn : tl = n := by omega
            subst htn
            have HSY : Hid (expT (ts.take (i + 1)) [] = cpT d tl out) := hid (by rw [HX.out]; unfold sayT; rw [if_neg (by simp; omega)]; simp)
            have HD : Hid (1 ≤ d ∧ d ≤ M) := hid ⟨h5, h6⟩
            have HOUT : Hid (M ≤ most) := hol
            have g0 : ((tl : Int) == 0) = false := by simp; omega
            clear htl h7 hmx htb h5 h6
            go_wp2_with fail
            refine HMY.mono ?_
            rintro e w1 ⟨rfl, hk1⟩
            have HF1 := hid (HF.out.later hk1 (fun _ f => f.elim))
            have d2 : w1.cell? ⟨b, o + i * 3 + 1, none⟩ = some (.int .i64 (tl : Nat)) := hk1.cell c2 (fun f => f)
            clear hk1 HMY c1 c2 c3
            go_wp2_with fail
            all_goals first
              | (exfalso; omega)
              | skip
            obtain ⟨G, hG⟩ : ∃ G, G = gk := ⟨_, rfl⟩
            go_loopg [6, 8] tl (fun q zo zk wq => ∃ (k : Nat), tl - k ≤ q ∧ k ≤ tl ∧ zk = .int .i64 (k : Nat) ∧ Hid (Fresh w wq zo (cpT d k out)))
            case atStart => exact ⟨0, by omega, by omega, rfl, HF1⟩
            case round =>
              clear HF1 d2
              obtain ⟨k, hkq, hkn, rfl, HFk⟩ := hrel
              obtain ⟨b2, o2, e9, _, g2, g3⟩ := HTI.out wr HFk.out.kept
              simp only [Option.some.injEq, Addr.mk.injEq, and_true] at e9
              obtain ⟨rfl, rfl⟩ := e9
              by_cases hkl : k < tl
              · obtain ⟨sk, ck, hvk, hshk⟩ := HFk.out.row.shape
                rw [cpT_length] at hvk
                obtain ⟨K, hK⟩ : ∃ K, K = out.length + k := ⟨_, rfl⟩
                rw [← hK] at hvk
                subst hvk
                have hKM : K = M + k := by rw [hK, HMO.out]
                obtain ⟨gg, rfl⟩ := hshk (fun e => by have h9 := congrArg List.length e; rw [cpT_length] at h9; have := HD.out; have := HMO.out; rw [List.length_nil] at h9; omega)
                obtain ⟨p, hp⟩ : ∃ p, p = K - d := ⟨_, rfl⟩
                have hMd : (K : Int) - (d : Int) = (p : Int) := by have := HD.out; omega
                have hpM : p < K := by have := HD.out; omega
                have hMb : K ≤ 100300 := by have := HOUT.out; omega
                have HXk : Hid (cpT d (k + 1) out = cpT d k out ++ [(cpT d k out).getD p 0]) := hid (by rw [cpT_more, cpT_length, hp, hK])
                have cp : wr.cell? ⟨gg, p, none⟩ = some (.int .u8 ((cpT d k out).getD p 0 : Nat)) := by
                  have hr : Row wr (.slice (some ⟨gg, 0, none⟩) (cpT d k out).length ck) (cpT d k out) := by rw [cpT_length, ← hK]; exact HFk.out.row
                  have hpl : p < (cpT d k out).length := by rw [cpT_length]; omega
                  rw [hr.cell p hpl]
                  simp [List.getD, hpl]
                have HLN : Hid ((cpT d k out).length + [(cpT d k out).getD p 0].length ≤ 1000000000000) := hid (by rw [cpT_length, ← hK]; simp; omega)
                obtain ⟨x, hx⟩ : ∃ x, x = (cpT d k out).getD p 0 := ⟨_, rfl⟩
                rw [← hx] at cp HXk HLN
                clear hK hp hx hshk hKM
                go_wp2_with (at_builtin; refine wpList_append_row _ rfl (.tmp 63) (.tmp 75) rfl (.slice (some ⟨gg, 0, none⟩) K ck) (cpT d k out) rfl (World.ownsRow.alloc HFk.out.row _) ⟨wr.heap.size, 0, none⟩ 1 1 [x] rfl rfl (bytesAt_new _ _) HLN.out ?_)
                intro v' w2 hrow hgr hv'
                have HF3 : Hid (Fresh w w2 v' (cpT d (k + 1) out)) := hid (by rw [HXk.out]; exact HFk.out.app hrow hgr (by simpa using hv'))
                clear hrow hgr hv' cp g2 g3 HLN
                go_wp2_with fail
                go_roundg (gk - 1)
                case measure => omega
                case rel => exact ⟨k + 1, by omega, by omega, by go_num, HF3⟩
              · have hkt : k = tl := by omega
                have HF3 : Hid (Fresh w wr u6 (expT (ts.take (i + 1)) [])) := hid (by rw [HSY.out, ← hkt]; exact HFk.out)
                clear hkt
                go_wp2_with fail
                go_roundg (G - 1)
                case measure => omega
                case rel => exact ⟨i + 1, by omega, by omega, by go_num, hol2, HF3, HE⟩
    · have hin : i = ts.length := by omega
      have HE : Hid (∃ n, measT most ts 0 = .ok n) := hid ⟨_, by rw [← HME.out, hin, List.drop_length]; rfl⟩
      have HF2 : Hid (Fresh w wr u6 (expT ts [])) := hid (by have h := HF.out; rwa [hin, List.take_length] at h)
      clear hin
      go_wp2_with fail
      go_ret2
      obtain ⟨n, hn⟩ := HE.out
      rw [hn]
      exact ⟨_, rfl, HF2.out⟩

end Go.Proofs.YtggcbnhckcenmaaGreatDoor
