/-
  The program's layer 6: bits of numbers; width, Cost.
-/
import Derived.Test.YtjebfekkaohimaaMtB
import Derived.Lib.Strings
import Derived.Lib.Slices
import Derived.Lib.Small
import Derived.Lib.Walk
import Derived.Lib.BitFns
namespace Go.Proofs.Ytjebfekkaohimaa
open Go.RowKit

theorem blen_bits (n : Nat) (h : n < 2 ^ 64) : Lib.bitLen n = blen n := by
  induction n using Nat.strongRecOn with
  | ind n ih =>
    by_cases h0 : n = 0
    · subst h0; rfl
    · rw [Lib.bitLen_half n h0 h, ih (n / 2) (by omega) (by omega)]
      by_cases h1 : n = 1
      · subst h1; rfl
      · unfold blen
        rw [if_neg (by omega), if_neg h0]
        rw [Nat.log2_def n, if_pos (by omega)]
        omega

set_option maxRecDepth 100000 in
theorem tab8_size : Lib.len8tab.size = 256 := by decide

theorem tab8_at (y : Int) (h : y.toNat < Lib.len8tab.size) (h0 : 0 ≤ y) (h1 : y < 256) : ((Lib.len8tab[y.toNat]'h).toNat : Int) = (Lib.bitLen y.toNat : Nat) := by
  have e := Lib.len8_of y h0 (by omega)
  unfold Lib.len8 at e
  rw [getElem?_pos Lib.len8tab y.toNat h] at e
  exact e

theorem wrap_small (a : Nat) (ha : a ≤ 100) : wrap64 (a : Int) = (a : Int) := by unfold wrap64; omega

set_option maxRecDepth 100000 in
set_option maxHeartbeats 1000000 in
theorem len64_any (w : World) (x : Int) (h0 : 0 ≤ x) (h1 : x < 65536) :
    Calls Try.prog 40 #[.int .u64 x] w fun e w' => e = .returned (.int .i64 (blen x.toNat : Nat)) ∧ w' = w := by
  rw [← blen_bits x.toNat (by omega)]
  by_cases hs : x < 256
  · have l := Lib.bitLen_le8' x h0 (by omega)
    go_enter Try.func40, Try.ntmps40
    go_wp2
    all_goals first
      | (go_ret
         refine ⟨congrArg Ending.returned (congrArg (Value.int IntKind.i64) ?_), rfl⟩
         rw [tab8_at x _ h0 hs, wrap_small _ (by omega), wrap_small _ (by omega)])
      | (exfalso
         have hz := tab8_size
         omega)
  · obtain ⟨y, hy⟩ : ∃ y, y = x / 256 := ⟨_, rfl⟩
    have l := Lib.bitLen_le8' y (by omega) (by omega)
    have sh := Lib.bitLen_shift8 x.toNat (by omega) (by omega)
    have hy2 : x.toNat / 256 = y.toNat := by omega
    rw [hy2] at sh
    have HY : Hid (0 ≤ y ∧ y < 256) := hid (by omega)
    have HSH : Hid (Lib.bitLen x.toNat = 8 + Lib.bitLen y.toNat ∧ Lib.bitLen y.toNat ≤ 8) := hid ⟨sh, l⟩
    have hy3 : x / 256 = y := hy.symm
    have hyw : y % 256 = y := by have := HY.out; omega
    have hye : IntKind.u8.wrap y = y := by rw [IntKind.wrap_u8]; exact hyw
    clear hy hy2 l sh
    go_enter Try.func40, Try.ntmps40
    go_wp2
    all_goals first
      | (go_ret
         refine ⟨congrArg Ending.returned (congrArg (Value.int IntKind.i64) ?_), rfl⟩
         have h7 := HSH.out
         rw [tab8_at y _ HY.out.1 HY.out.2, wrap_small _ (by omega), h7.1]
         unfold wrap64
         omega)
      | (exfalso
         have hz := tab8_size
         have := HY.out
         omega)

set_option maxHeartbeats 1000000 in
theorem lenU_any (w : World) (x : Int) (h0 : 0 ≤ x) (h1 : x < 65536) :
    Calls Try.prog 38 #[.int .u64 x] w fun e w' => e = .returned (.int .i64 (blen x.toNat : Nat)) ∧ w' = w := by
  have H := len64_any w x h0 h1
  go_enter Try.func38, Try.ntmps38
  go_wp2_with fail
  refine H.mono ?_
  rintro e w1 ⟨rfl, rfl⟩
  clear H
  go_wp2_with fail
  go_ret
  exact ⟨rfl, rfl⟩

set_option maxRecDepth 100000 in
set_option maxHeartbeats 2000000 in
theorem mextra_any (w : World) (lit n d : Nat) (hn : 3 ≤ n) (hn2 : n ≤ 258) (hd : 1 ≤ d) (hd2 : d ≤ 20000) :
    Calls Try.prog 37 #[.agg #[.int .u8 (lit : Nat), .int .i64 (n : Nat), .int .i64 (d : Nat)]] w fun e w' => e = .returned (.int .i64 ((lenX n + distX d : Nat) : Int)) ∧ Same w w' := by
  obtain ⟨W, hW⟩ : ∃ W, W = w.alloc (.cells #[.int .u8 (lit : Nat), .int .i64 (n : Nat), .int .i64 (d : Nat)] 38) := ⟨_, rfl⟩
  have HK : Hid (Same w W) := hid (by rw [hW]; exact (Kept.refl _ w).alloc _)
  have HB : Hid (Blk W w.heap.size #[.int .u8 (lit : Nat), .int .i64 (n : Nat), .int .i64 (d : Nat)] 38) := hid (by rw [hW]; exact Blk.new w _ _)
  obtain ⟨n3, hn3⟩ : ∃ x : Nat, x = n - 3 := ⟨_, rfl⟩
  obtain ⟨d1, hd1⟩ : ∃ x : Nat, x = d - 1 := ⟨_, rfl⟩
  have H1 := lenU_any W ((n3 : Nat) : Int) (by omega) (by omega)
  have H2 := lenU_any W ((d1 : Nat) : Int) (by omega) (by omega)
  have s3 : (n : Int) - 3 = (n3 : Int) := by omega
  have s1 : (d : Int) - 1 = (d1 : Int) := by omega
  rw [Int.toNat_natCast] at H1 H2
  obtain ⟨a, ha⟩ : ∃ a, a = blen n3 := ⟨_, rfl⟩
  obtain ⟨b, hb⟩ : ∃ b, b = blen d1 := ⟨_, rfl⟩
  have ha8 : a ≤ 8 := by rw [ha]; exact (blen_le n3 8).2 (by omega)
  have hb15 : b ≤ 15 := by rw [hb]; exact (blen_le d1 15).2 (by omega)
  rw [← ha] at H1
  rw [← hb] at H2
  have HX : Hid (lenX n = if n = 258 then 0 else a - 3) := hid (by unfold lenX; rw [ha, hn3])
  have HY : Hid (distX d = b - 2) := hid (by unfold distX; rw [hb, hd1])
  have c1 : W.cell? ⟨w.heap.size, 1, none⟩ = some (.int .i64 (n : Nat)) := HB.out.cell 1
  have c2 : W.cell? ⟨w.heap.size, 2, none⟩ = some (.int .i64 (d : Nat)) := HB.out.cell 2
  have u1 : IntKind.u64.wrap (n3 : Int) = (n3 : Int) := by rw [IntKind.wrap_u64]; omega
  have u2 : IntKind.u64.wrap (d1 : Int) = (d1 : Int) := by rw [IntKind.wrap_u64]; omega
  have v1 : wrap64 (n3 : Int) = (n3 : Int) := by unfold wrap64; omega
  have v2 : wrap64 (d1 : Int) = (d1 : Int) := by unfold wrap64; omega
  clear ha hb hn3 hd1 hn hn2 hd hd2
  subst hW
  by_cases h258 : n = 258
  · have g : ((n : Int) == 258) = true := by simp; omega
    have HX2 : Hid (lenX n = 0) := hid (by rw [HX.out, if_pos h258])
    clear h258
    go_enter Try.func37, Try.ntmps37
    go_wp2_with fail
    refine H1.mono ?_
    rintro e w1 ⟨rfl, rfl⟩
    clear H1
    go_wp2_with fail
    all_goals
      refine H2.mono ?_
      rintro e w1 ⟨rfl, rfl⟩
      go_wp2_with fail
    all_goals
      go_ret
      refine ⟨congrArg Ending.returned (congrArg (Value.int IntKind.i64) ?_), HK.out⟩
      rw [HX2.out, HY.out]
      omega
  · have g : ((n : Int) == 258) = false := by simp; omega
    have HX2 : Hid (lenX n = a - 3) := hid (by rw [HX.out, if_neg h258])
    clear h258
    go_enter Try.func37, Try.ntmps37
    go_wp2_with fail
    refine H1.mono ?_
    rintro e w1 ⟨rfl, rfl⟩
    clear H1
    go_wp2_with fail
    all_goals
      refine H2.mono ?_
      rintro e w1 ⟨rfl, rfl⟩
      go_wp2_with fail
    all_goals
      go_ret
      refine ⟨congrArg Ending.returned (congrArg (Value.int IntKind.i64) ?_), HK.out⟩
      rw [HX2.out, HY.out]
      omega

set_option maxRecDepth 100000 in
set_option maxHeartbeats 2000000 in
theorem mwidth_any (w : World) (t : TK) (said : Nat) (hm : mayT t said = true) (hs : said ≤ 16384) :
    Calls Try.prog 32 #[.agg (tkA t)] w fun e w' => e = .returned (.int .i64 (widT t : Nat)) ∧ Same w w' := by
  obtain ⟨lit, len, dist⟩ := t
  simp only [tkA]
  have hk0 : Same w (w.alloc (.cells #[.int .u8 (lit : Nat), .int .i64 len, .int .i64 dist] 38)) := (Kept.refl _ w).alloc _
  have HK : Hid (Same w (w.alloc (.cells #[.int .u8 (lit : Nat), .int .i64 len, .int .i64 dist] 38))) := hk0
  rcases mayT_cases hm with ⟨h0, h1, _⟩ | ⟨n, d, h0, h1, h2, h3, h4, h5, h6, _⟩
  · simp only at h0 h1
    subst h0 h1
    clear hm hk0
    by_cases hl : lit < 144
    · have HW : Hid (widT ⟨lit, 0, 0⟩ = 8) := hid (by unfold widT; rw [if_pos rfl, if_pos hl])
      have g : decide ((lit : Int) < 144) = true := by simp; omega
      have g2 : decide (lit < 144) = true := by simp; omega
      clear hl
      go_enter Try.func32, Try.ntmps32
      go_wp2_with fail
      all_goals first
        | (go_ret; exact ⟨by rw [HW.out]; rfl, HK.out⟩)
        | (exfalso; simp at g2; omega)
    · have HW : Hid (widT ⟨lit, 0, 0⟩ = 9) := hid (by unfold widT; rw [if_pos rfl, if_neg hl])
      have g : decide ((lit : Int) < 144) = false := by simp; omega
      have g2 : decide (lit < 144) = false := by simp; omega
      clear hl
      go_enter Try.func32, Try.ntmps32
      go_wp2_with fail
      all_goals first
        | (go_ret; exact ⟨by rw [HW.out]; rfl, HK.out⟩)
        | (exfalso; simp at g2; omega)
  · simp only at h0 h1 h2
    subst h0 h1 h2
    have HX := mextra_any (w.alloc (.cells #[.int .u8 0, .int .i64 (n : Nat), .int .i64 (d : Nat)] 38)) 0 n d h3 h4 h5 (by omega)
    have g0 : ((n : Int) == 0) = false := by simp; omega
    obtain ⟨x, hx⟩ : ∃ x, x = lenX n + distX d := ⟨_, rfl⟩
    rw [← hx] at HX
    have hx17 : x ≤ 17 := by
      have h8 := lenX_le n h4
      have h9 := (distX_le d 12 h5).2 (by omega)
      omega
    by_cases hl : n < 115
    · have HW : Hid (widT ⟨0, (n : Int), (d : Int)⟩ = 12 + x) := hid (by unfold widT; rw [if_neg (by simp; omega)]; simp only; rw [if_pos (by omega), hx]; simp)
      have g : decide ((n : Int) < 115) = true := by simp; omega
      clear hm hk0 hl hx h3 h4 h5 h6 hs
      go_enter Try.func32, Try.ntmps32
      go_wp2_with fail
      refine HX.mono ?_
      rintro e w1 ⟨rfl, hk1⟩
      have HK1 : Hid (Same w w1) := hid (Same.trans HK.out hk1)
      clear hk1 HX
      go_wp2_with fail
      go_ret
      refine ⟨congrArg Ending.returned (congrArg (Value.int IntKind.i64) ?_), HK1.out⟩
      rw [HW.out]
      omega
    · have HW : Hid (widT ⟨0, (n : Int), (d : Int)⟩ = 13 + x) := hid (by unfold widT; rw [if_neg (by simp; omega)]; simp only; rw [if_neg (by omega), hx]; simp)
      have g : decide ((n : Int) < 115) = false := by simp; omega
      clear hm hk0 hl hx h3 h4 h5 h6 hs
      go_enter Try.func32, Try.ntmps32
      go_wp2_with fail
      refine HX.mono ?_
      rintro e w1 ⟨rfl, hk1⟩
      have HK1 : Hid (Same w w1) := hid (Same.trans HK.out hk1)
      clear hk1 HX
      go_wp2_with fail
      go_ret
      refine ⟨congrArg Ending.returned (congrArg (Value.int IntKind.i64) ?_), HK1.out⟩
      rw [HW.out]
      omega

/-- What Cost tells. -/
def cosA (ts : List TK) : Except Nat Nat → Nat
  | .ok _ => costT ts
  | .error _ => 0

theorem costT_snoc (ts : List TK) (i : Nat) (h : i < ts.length) : costT (ts.take (i + 1)) = costT (ts.take i) + widT ts[i] := by
  unfold costT
  rw [List.take_succ_eq_append_getElem h, List.map_append, List.sum_append]
  simp

theorem measT_small {most : Nat} {ts : List TK} {n : Nat} (h : measT most ts 0 = .ok n) (hm : most ≤ 16384) : ∀ i (hi : i < ts.length), ∃ c, c ≤ 16384 ∧ mayT ts[i] c = true ∧ i ≤ c := by
  have key : ∀ i, i ≤ ts.length → ∃ c, measT most (ts.drop i) c = .ok n ∧ c ≤ most ∧ i ≤ c := by
    intro i
    induction i with
    | zero => intro _; exact ⟨0, by simpa using h, by omega, by omega⟩
    | succ i ih =>
      intro hi
      obtain ⟨c, h1, h2, h3⟩ := ih (by omega)
      rw [List.drop_eq_getElem_cons (by omega), measT] at h1
      split at h1
      · cases h1
      · split at h1
        · cases h1
        · have := tlen_pos ts[i]
          exact ⟨_, h1, by omega, by omega⟩
  intro i hi
  obtain ⟨c, h1, h2, h3⟩ := key i (by omega)
  rw [List.drop_eq_getElem_cons hi, measT] at h1
  split at h1
  · cases h1
  · rename_i h4
    exact ⟨c, by omega, by simpa using h4, h3⟩

theorem widT_small {t : TK} {c : Nat} (h : mayT t c = true) (hc : c ≤ 16384) : widT t ≤ 3000 := by
  have h1 := widT_le h hc
  have h2 : tlen t ≤ 258 := by rcases mayT_cases h with ⟨_, _, h⟩ | ⟨n, d, _, _, _, _, _, _, _, h⟩ <;> omega
  split at h1 <;> omega

set_option maxRecDepth 100000 in
set_option maxHeartbeats 2000000 in
theorem mcost_any (w : World) (v : Value) (I : Nat → Prop) (ts : List TK) (hs : TkSrc w I v ts) (hlen : ts.length ≤ 10000000) :
    Calls Try.prog 21 #[v] w fun e w' => e = .returned (.tuple #[.int .i64 (cosA ts (measT 16384 ts 0) : Nat), .int .i64 (errT (measT 16384 ts 0) : Nat)]) ∧ Same w w' := by
  obtain ⟨ao, cap, rfl, hx1, hx2⟩ := id hs
  clear hx1 hx2
  have HS : Hid (TkSrc w I (.slice ao ts.length cap) ts) := hs
  have HC := mcheck_any w _ I ts hs hlen
  clear hs
  cases hr : measT 16384 ts 0 with
  | error c =>
    have hc := measT_err hr
    rw [hr] at HC
    simp only [errT, cosA] at HC ⊢
    have hcd : ((c : Int) != 0) = true := by simp; omega
    clear hr hc
    go_enter Try.func21, Try.ntmps21
    go_wp2_with fail
    refine HC.mono ?_
    rintro e w1 ⟨rfl, hk⟩
    have HK : Hid (Same w w1) := hk
    clear hk HC
    go_wp2_with fail
    go_ret2
    exact ⟨rfl, HK.out⟩
  | ok n =>
    rw [hr] at HC
    simp only [errT, cosA] at HC ⊢
    have HMS := hid (measT_small hr (Nat.le_refl _))
    have hl16 : ts.length ≤ 16385 := by
      rcases Nat.eq_zero_or_pos ts.length with h0 | h0
      · omega
      · obtain ⟨c, h1, _, h2⟩ := HMS.out (ts.length - 1) (by omega)
        omega
    clear hr
    go_enter Try.func21, Try.ntmps21
    go_wp2_with fail
    refine HC.mono ?_
    rintro e w1 ⟨rfl, hk⟩
    have HK : Hid (Same w w1) := hk
    clear hk HC
    go_wp2_with fail
    go_loopg [5, 15] ts.length (fun q zc zi wr => ∃ (i c : Nat), ts.length - i ≤ q ∧ i ≤ ts.length ∧ zi = .int .i64 (i : Nat) ∧ zc = .int .i64 (c : Nat) ∧ c ≤ 3000 * i ∧ Hid (c = costT (ts.take i)) ∧ Hid (Same w wr))
    case atStart => exact ⟨0, 0, by omega, by omega, rfl, rfl, by omega, hid rfl, HK⟩
    case round =>
      clear HK
      obtain ⟨i, c, hq, hi, rfl, rfl, hc, HCT, HK⟩ := hrel
      by_cases hlt : i < ts.length
      · obtain ⟨b, o, e1, c1, c2, c3⟩ := HS.out.at HK.out i hlt
        subst e1
        obtain ⟨c0, h1, h2, _⟩ := HMS.out i hlt
        have hw3 := widT_small h2 h1
        have HW := mwidth_any (wr.alloc (.cells #[.int .u8 (ts[i].lit : Nat), .int .i64 ts[i].len, .int .i64 ts[i].dist] 38)) ts[i] c0 h2 h1
        have HCT2 : Hid (costT (ts.take (i + 1)) = c + widT ts[i]) := hid (by rw [costT_snoc ts i hlt, HCT.out])
        obtain ⟨x, hx⟩ : ∃ x, x = widT ts[i] := ⟨_, rfl⟩
        rw [← hx] at HW HCT2 hw3
        simp only [tkA] at HW
        have hkA : Same wr (wr.alloc (.cells #[.int .u8 (ts[i].lit : Nat), .int .i64 ts[i].len, .int .i64 ts[i].dist] 38)) := (Kept.refl _ wr).alloc _
        have HKA := hid (Same.trans HK.out hkA)
        generalize ts[i].lit = lit at *
        generalize ts[i].len = len at *
        generalize ts[i].dist = dist at *
        obtain ⟨s, hsx⟩ : ∃ s, s = c + x := ⟨_, rfl⟩
        have hsI : (c : Int) + (x : Int) = (s : Int) := by omega
        have hs3 : s ≤ 3000 * (i + 1) := by omega
        rw [← hsx] at HCT2
        clear h1 h2 hx hsx hkA hw3
        go_wp2_with fail
        refine HW.mono ?_
        rintro e w4 ⟨rfl, hk4⟩
        have HK4 := hid (Same.trans HKA.out hk4)
        clear hk4 HW c1 c2 c3
        go_wp2_with fail
        go_roundg (gk - 1)
        case measure => omega
        case rel => exact ⟨i + 1, s, by omega, by omega, by go_num, rfl, hs3, hid HCT2.out.symm, HK4⟩
      · have hin : i = ts.length := by omega
        have HE : Hid (c = costT ts) := hid (by have h := HCT.out; rwa [hin, List.take_length] at h)
        clear hin
        go_wp2_with fail
        go_ret2
        exact ⟨by rw [← HE.out]; rfl, HK.out⟩

end Go.Proofs.Ytjebfekkaohimaa
