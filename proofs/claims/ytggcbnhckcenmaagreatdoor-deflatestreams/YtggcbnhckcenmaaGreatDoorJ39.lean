/-
  Of the proof: parts DfS, DfV, DfW, DfX, DfStoLaw, DfY.
-/
import Derived.Test.YtggcbnhckcenmaaGreatDoorJ35
import Derived.Test.YtggcbnhckcenmaaGreatDoorJ9
import Derived.Test.YtggcbnhckcenmaaGreatDoorJ37
import Derived.Test.YtggcbnhckcenmaaGreatDoorJ7
import Derived.Test.YtggcbnhckcenmaaGreatDoorJ6
import Derived.Test.YtggcbnhckcenmaaGreatDoorJ21

/-
  The reference's layer 7: a stored block.
-/
namespace Go.Proofs.YtggcbnhckcenmaaGreatDoor
open Go.RowKit

set_option maxRecDepth 100000 in
set_option maxHeartbeats 400000 in
theorem rstored_any (w : World) (v : Value) (I : Nat → Prop) (data : List Nat) (hs : Src w I v data) (hnil : ∀ n c, v = .slice none n c → n = 0 ∧ c = 0) (hlen : data.length ≤ 16384) :
    Calls Tryz.prog 17 #[v] w fun e w' => ∃ v', e = .returned v' ∧ Row w' v' (storeB data) ∧ Same w w' := by
  obtain ⟨av, cv, hvv, _⟩ := id hs
  obtain ⟨n, hn⟩ : ∃ n, data.length = n := ⟨_, rfl⟩
  rw [hn] at hvv hlen
  subst hvv
  have HS : Hid (Src w I (.slice av n cv) data) := hs
  have HN : Hid (∀ n' c, Value.slice av n cv = .slice none n' c → n' = 0 ∧ c = 0) := hnil
  have HL : Hid (data.length = n) := hn
  obtain ⟨r, hr⟩ : ∃ r, r = n % 256 := ⟨_, rfl⟩
  obtain ⟨q, hq⟩ : ∃ q, q = n / 256 := ⟨_, rfl⟩
  have hrI : (n : Int) % 256 = (r : Int) := by omega
  have hqI : (n : Int) / 256 = (q : Int) := by omega
  obtain ⟨r2, hr2⟩ : ∃ r2, r2 = 255 - r := ⟨_, rfl⟩
  obtain ⟨q2, hq2⟩ : ∃ q2, q2 = 255 - q := ⟨_, rfl⟩
  have hr2I : (255 : Int) - (r : Int) = (r2 : Int) := by omega
  have hq2I : (255 : Int) - (q : Int) = (q2 : Int) := by omega
  have w1 : IntKind.u8.wrap (r : Int) = (r : Int) := by rw [IntKind.wrap_u8]; omega
  have w2 : IntKind.u8.wrap (q : Int) = (q : Int) := by rw [IntKind.wrap_u8]; omega
  have w3 : IntKind.u8.wrap (r2 : Int) = (r2 : Int) := by rw [IntKind.wrap_u8]; omega
  have w4 : IntKind.u8.wrap (q2 : Int) = (q2 : Int) := by rw [IntKind.wrap_u8]; omega
  have b1 : r ≤ 255 := by omega
  have b2 : q ≤ 64 := by omega
  have HV : Hid (storeB data = [1, r, q, r2, q2] ++ data) := hid (by unfold storeB; rw [hn, hr2, hq2, hr, hq])
  clear hs hnil hn hr hq hr2 hq2
  go_enter Tryz.func17, Tryz.ntmps17
  go_wp2_with (at_builtin; refine wpList_append_any _ rfl (.tmp 22) (.tmp 23) rfl _ [1, r, q, r2, q2] rfl (lit_row w [1, r, q, r2, q2] 5 rfl (by omega)) I (.slice av n cv) data rfl HN.out (HS.out.kept ((Kept.refl (fun _ => False) w).alloc _) (fun _ _ _ f => f)) (by rw [HL.out]; simp; omega) ?_)
  intro v6 w6 hr6 hg6 ho6
  have HK6 : Hid (Same w w6) := hid (by
    have h1 : Same w (w.alloc (.cells (([1, r, q, r2, q2] : List Nat).map byteV).toArray 5)) := (Kept.refl _ w).alloc _
    exact h1.grown hg6 (fun k e => .inr (by simp [Value.ownBlock] at e; omega)))
  have HR6 : Hid (Row w6 v6 (storeB data)) := hid (by rw [HV.out]; exact hr6)
  obtain ⟨a6, c6, hv6, _⟩ := hr6.shape
  subst hv6
  clear hr6 hg6 ho6
  go_wp2_with fail
  go_ret
  exact ⟨_, rfl, HR6.out, HK6.out⟩

end Go.Proofs.YtggcbnhckcenmaaGreatDoor

/-
  The reference's layer 7: the fixed lists.
-/
namespace Go.Proofs.YtggcbnhckcenmaaGreatDoor
open Go.RowKit

def fixV (i : Nat) : Nat := if i < 144 then 8 else if i < 256 then 9 else if i < 280 then 7 else 8

theorem fixV_all : (List.range 288).all (fun i => decide (fixL[i]? = some (fixV i))) = true := by decide +kernel

theorem fixL_snoc (i : Nat) (h : i < 288) : fixL.take (i + 1) = fixL.take i ++ [fixV i] := by
  have h1 := List.all_eq_true.1 fixV_all i (List.mem_range.2 h)
  have h2 : fixL[i]? = some (fixV i) := by simpa using h1
  rw [List.take_add_one, h2]
  rfl

theorem fixD_snoc (i : Nat) (h : i < 32) : fixD.take (i + 1) = fixD.take i ++ [5] := by
  have h2 : fixD[i]? = some 5 := by unfold fixD; rw [List.getElem?_replicate, if_pos h]
  rw [List.take_add_one, h2]
  rfl

set_option maxRecDepth 100000 in
set_option maxHeartbeats 400000 in
theorem fixed7 (w : World) :
    Calls Tryz.prog 43 #[] w fun e w' => ∃ va vb, e = .returned (.tuple #[va, vb]) ∧ NRow w.heap.size w' va fixL ∧ NRow w.heap.size w' vb fixD ∧ Same w w' := by
  go_enter Tryz.func43, Tryz.ntmps43
  go_wp2_with fail
  go_loopg [2, 3] 288 (fun q zv zi wr => ∃ (i : Nat), 288 - i ≤ q ∧ i ≤ 288 ∧ zi = .int .i64 (i : Nat) ∧ Hid (NRow w.heap.size wr zv (fixL.take i)) ∧ Hid (Kept (Over w.heap.size) w wr))
  case atStart => exact ⟨0, by omega, by omega, rfl, hid RowE.nil, Kept.refl _ _⟩
  case round =>
    obtain ⟨i, hq, hi, rfl, HV, HK⟩ := hrel
    have hsz := HK.out.size
    have HL : Hid ((fixL.take i).length + 1 ≤ 1000000000) := hid (by rw [List.length_take]; omega)
    by_cases hlt : i < 288
    · have HN : Hid (∀ y v1 w1, fixV i = y → NRow w.heap.size w1 v1 (fixL.take i ++ [y]) → (wr.alloc (.cells #[.int .i64 (y : Nat)] 3)).grownBy w1 u2.ownBlock → NRow w.heap.size w1 v1 (fixL.take (i + 1)) ∧ Kept (Over w.heap.size) w w1) := hid (fun y v1 w1 hy hr1 hg1 => ⟨by rw [fixL_snoc i hlt, hy]; exact hr1, (HK.out.alloc _).grown hg1 (fun k e => .inl (by have := HV.out.ge e; exact this))⟩)
      by_cases h1 : i < 144
      · have HE : Hid (fixV i = 8) := hid (by unfold fixV; rw [if_pos h1])
        go_wp2_with (at_builtin; refine wpList_append_nat _ w.heap.size rfl (.tmp 16) (.tmp 17) rfl u2 _ rfl (World.ownsRow.alloc HV.out _) ⟨wr.heap.size, 0, none⟩ 8 rfl (nat_new _ _) HL.out (by simp; omega) ?_; intro v1 w1 hr1 hg1)
        obtain ⟨hv1, hk1⟩ := HN.out 8 v1 w1 HE.out hr1 hg1
        have HV1 := hid hv1
        have HK1 := hid hk1
        clear hr1 hg1 hv1 hk1 HN
        go_wp2_with fail
        go_roundg (gk - 1)
        case measure => omega
        case rel => exact ⟨i + 1, by omega, by omega, by go_num, HV1, HK1⟩
      · by_cases h2 : i < 256
        · have HE : Hid (fixV i = 9) := hid (by unfold fixV; rw [if_neg h1, if_pos h2])
          go_wp2_with (at_builtin; refine wpList_append_nat _ w.heap.size rfl (.tmp 22) (.tmp 23) rfl u2 _ rfl (World.ownsRow.alloc HV.out _) ⟨wr.heap.size, 0, none⟩ 9 rfl (nat_new _ _) HL.out (by simp; omega) ?_; intro v1 w1 hr1 hg1)
          obtain ⟨hv1, hk1⟩ := HN.out 9 v1 w1 HE.out hr1 hg1
          have HV1 := hid hv1
          have HK1 := hid hk1
          clear hr1 hg1 hv1 hk1 HN
          go_wp2_with fail
          go_roundg (gk - 1)
          case measure => omega
          case rel => exact ⟨i + 1, by omega, by omega, by go_num, HV1, HK1⟩
        · by_cases h3 : i < 280
          · have HE : Hid (fixV i = 7) := hid (by unfold fixV; rw [if_neg h1, if_neg h2, if_pos h3])
            go_wp2_with (at_builtin; refine wpList_append_nat _ w.heap.size rfl (.tmp 28) (.tmp 29) rfl u2 _ rfl (World.ownsRow.alloc HV.out _) ⟨wr.heap.size, 0, none⟩ 7 rfl (nat_new _ _) HL.out (by simp; omega) ?_; intro v1 w1 hr1 hg1)
            obtain ⟨hv1, hk1⟩ := HN.out 7 v1 w1 HE.out hr1 hg1
            have HV1 := hid hv1
            have HK1 := hid hk1
            clear hr1 hg1 hv1 hk1 HN
            go_wp2_with fail
            go_roundg (gk - 1)
            case measure => omega
            case rel => exact ⟨i + 1, by omega, by omega, by go_num, HV1, HK1⟩
          · have HE : Hid (fixV i = 8) := hid (by unfold fixV; rw [if_neg h1, if_neg h2, if_neg h3])
            go_wp2_with (at_builtin; refine wpList_append_nat _ w.heap.size rfl (.tmp 10) (.tmp 11) rfl u2 _ rfl (World.ownsRow.alloc HV.out _) ⟨wr.heap.size, 0, none⟩ 8 rfl (nat_new _ _) HL.out (by simp; omega) ?_; intro v1 w1 hr1 hg1)
            obtain ⟨hv1, hk1⟩ := HN.out 8 v1 w1 HE.out hr1 hg1
            have HV1 := hid hv1
            have HK1 := hid hk1
            clear hr1 hg1 hv1 hk1 HN
            go_wp2_with fail
            go_roundg (gk - 1)
            case measure => omega
            case rel => exact ⟨i + 1, by omega, by omega, by go_num, HV1, HK1⟩
    · have hin : i = 288 := by omega
      have HV2 : Hid (NRow w.heap.size wr u2 fixL) := hid (by have h := HV.out; rw [hin, List.take_of_length_le (by rw [fix_lens.1]; exact Nat.le_refl _)] at h; exact h)
      have HK2 : Hid (Same w wr) := hid (HK.out.same_over (Nat.le_refl _))
      clear hin HV HK HL hq hsz
      go_wp2_with fail
      obtain ⟨wA, hwA⟩ : ∃ x, x = wr := ⟨_, rfl⟩
      rw [← hwA] at HV2 HK2 ⊢
      clear hwA
      go_loopg [4, 5] 32 (fun q zv zi wr => ∃ (i : Nat), 32 - i ≤ q ∧ i ≤ 32 ∧ zi = .int .i64 (i : Nat) ∧ Hid (NRow wA.heap.size wr zv (fixD.take i)) ∧ Hid (Kept (Over wA.heap.size) wA wr))
      case atStart => exact ⟨0, by omega, by omega, rfl, hid RowE.nil, Kept.refl _ _⟩
      case round =>
        obtain ⟨j, hq2, hj, rfl, HV, HK⟩ := hrel
        have hsz := HK.out.size
        have HL : Hid ((fixD.take j).length + 1 ≤ 1000000000) := hid (by rw [List.length_take]; omega)
        by_cases hlt2 : j < 32
        · go_wp2_with (at_builtin; refine wpList_append_nat _ wA.heap.size rfl (.tmp 35) (.tmp 36) rfl u4 _ rfl (World.ownsRow.alloc HV.out _) ⟨wr.heap.size, 0, none⟩ 5 rfl (nat_new _ _) HL.out (by simp; omega) ?_; intro v1 w1 hr1 hg1)
          have HV1 : Hid (NRow wA.heap.size w1 v1 (fixD.take (j + 1))) := hid (by rw [fixD_snoc j hlt2]; exact hr1)
          have HK1 : Hid (Kept (Over wA.heap.size) wA w1) := hid ((HK.out.alloc _).grown hg1 (fun k e => .inl (by have := HV.out.ge e; exact this)))
          clear hr1 hg1
          go_wp2_with fail
          go_roundg (gk - 1)
          case measure => omega
          case rel => exact ⟨j + 1, by omega, by omega, by go_num, HV1, HK1⟩
        · have hin : j = 32 := by omega
          have hS : Same wA wr := HK.out.same_over (Nat.le_refl _)
          have HE : Hid (NRow w.heap.size wr u2 fixL ∧ NRow w.heap.size wr u4 fixD ∧ Same w wr) := hid ⟨HV2.out.same hS, RowE.base (by have h := HV.out; rw [hin, List.take_of_length_le (by rw [fix_lens.2]; exact Nat.le_refl _)] at h; exact h) HK2.out.size, Same.trans HK2.out hS⟩
          clear hin hS HV HK HL
          go_wp2_with fail
          go_ret2
          exact ⟨_, _, rfl, HE.out.1, HE.out.2.1, HE.out.2.2⟩

end Go.Proofs.YtggcbnhckcenmaaGreatDoor

/-
  The reference's layer 7: a length's symbol, a distance's.
-/
namespace Go.Proofs.YtggcbnhckcenmaaGreatDoor
open Go.RowKit

theorem spl_at (p w h x : Nat) (hp : 1 ≤ p) (hh : h < 2 ^ p) (hw : w = 0 ∨ 2 ^ (p - 1) ≤ h) (hx : x < 2 ^ w) : splW (h * 2 ^ w + x) p = w ∧ splS (h * 2 ^ w + x) p = w * 2 ^ (p - 1) + h ∧ splX (h * 2 ^ w + x) p = x := by
  have hpw : 0 < 2 ^ w := Nat.two_pow_pos _
  have hlt : h * 2 ^ w + x < 2 ^ (w + p) := by
    have h1 : (h + 1) * 2 ^ w ≤ 2 ^ p * 2 ^ w := Nat.mul_le_mul_right _ (by omega)
    rw [← Nat.pow_add, Nat.add_comm p w, Nat.add_mul] at h1
    omega
  have hle := (blen_le _ _).2 hlt
  have hW : splW (h * 2 ^ w + x) p = w := by
    unfold splW
    rcases hw with h0 | h1
    · subst h0
      omega
    · have h2 : ¬ blen (h * 2 ^ w + x) ≤ w + p - 1 := fun hc => by
        have h3 := (blen_le _ _).1 hc
        have h4 : 2 ^ (p - 1) * 2 ^ w ≤ h * 2 ^ w := Nat.mul_le_mul_right _ h1
        rw [← Nat.pow_add, show p - 1 + w = w + p - 1 by omega] at h4
        omega
      omega
  have hdiv : (h * 2 ^ w + x) / 2 ^ w = h := by
    rw [Nat.mul_comm, Nat.mul_add_div hpw, Nat.div_eq_of_lt hx, Nat.add_zero]
  refine ⟨hW, ?_, ?_⟩
  · unfold splS
    rw [hW, hdiv]
  · unfold splX
    rw [hW, Nat.mul_comm, Nat.mul_add_mod, Nat.mod_eq_of_lt hx]

/-- How many bits come behind a length's symbol, and the least length that it says. -/
def lbS (s : Nat) : Nat := if 264 < s then (s - 261) / 4 else 0
def lbs7 : Nat → Nat
  | 0 => 3
  | k + 1 => lbs7 k + 2 ^ lbS (257 + k)
def dbS (s : Nat) : Nat := if 3 < s then (s - 2) / 2 else 0
def dbs7 : Nat → Nat
  | 0 => 1
  | k + 1 => dbs7 k + 2 ^ dbS k

theorem ltab : (List.range 28).all (fun k => decide (lbs7 k = (k - 4 * lbS (257 + k)) * 2 ^ lbS (257 + k) + 3 ∧ 4 * lbS (257 + k) ≤ k ∧ k - 4 * lbS (257 + k) < 8 ∧ (lbS (257 + k) = 0 ∨ 4 ≤ k - 4 * lbS (257 + k)) ∧ lbS (257 + k) ≤ 5 ∧ lbs7 k ≤ 300)) = true := by decide +kernel
theorem dtab : (List.range 30).all (fun k => decide (dbs7 k = (k - 2 * dbS k) * 2 ^ dbS k + 1 ∧ 2 * dbS k ≤ k ∧ k - 2 * dbS k < 4 ∧ (dbS k = 0 ∨ 2 ≤ k - 2 * dbS k) ∧ dbS k ≤ 13 ∧ dbs7 k ≤ 30000)) = true := by decide +kernel
theorem lbs7_end : lbs7 28 = 259 := by decide +kernel
theorem dbs7_end : 16384 < dbs7 28 := by decide +kernel

theorem len_at {k n : Nat} (hk : k < 28) (h1 : lbs7 k ≤ n) (h2 : n < lbs7 k + 2 ^ lbS (257 + k)) : splW (n - 3) 3 = lbS (257 + k) ∧ splS (n - 3) 3 = k ∧ splX (n - 3) 3 = n - lbs7 k := by
  have h := List.all_eq_true.1 ltab k (List.mem_range.2 hk)
  simp only [decide_eq_true_eq] at h
  obtain ⟨e1, e2, e3, e4, _⟩ := h
  have h9 := spl_at 3 (lbS (257 + k)) (k - 4 * lbS (257 + k)) (n - lbs7 k) (by decide) e3 e4 (by omega)
  rw [show (k - 4 * lbS (257 + k)) * 2 ^ lbS (257 + k) + (n - lbs7 k) = n - 3 by omega] at h9
  refine ⟨h9.1, ?_, h9.2.2⟩
  rw [h9.2.1]
  omega

theorem dist_at {k n : Nat} (hk : k < 30) (h1 : dbs7 k ≤ n) (h2 : n < dbs7 k + 2 ^ dbS k) : splW (n - 1) 2 = dbS k ∧ splS (n - 1) 2 = k ∧ splX (n - 1) 2 = n - dbs7 k := by
  have h := List.all_eq_true.1 dtab k (List.mem_range.2 hk)
  simp only [decide_eq_true_eq] at h
  obtain ⟨e1, e2, e3, e4, _⟩ := h
  have h9 := spl_at 2 (dbS k) (k - 2 * dbS k) (n - dbs7 k) (by decide) e3 e4 (by omega)
  rw [show (k - 2 * dbS k) * 2 ^ dbS k + (n - dbs7 k) = n - 1 by omega] at h9
  refine ⟨h9.1, ?_, h9.2.2⟩
  rw [h9.2.1]
  omega

theorem lb_le {k : Nat} (hk : k < 28) : lbS (257 + k) ≤ 5 ∧ lbs7 k ≤ 300 := by
  have h := List.all_eq_true.1 ltab k (List.mem_range.2 hk)
  simp only [decide_eq_true_eq] at h
  exact h.2.2.2.2

theorem db_le {k : Nat} (hk : k < 30) : dbS k ≤ 13 ∧ dbs7 k ≤ 30000 := by
  have h := List.all_eq_true.1 dtab k (List.mem_range.2 hk)
  simp only [decide_eq_true_eq] at h
  exact h.2.2.2.2

set_option maxRecDepth 100000 in
set_option maxHeartbeats 400000 in
theorem rlength_any (w : World) (n : Nat) (h3 : 3 ≤ n) (h258 : n ≤ 257) :
    Calls Tryz.prog 46 #[.int .i64 (n : Nat)] w fun e w' => e = .returned (.tuple #[.int .i64 ((257 + splS (n - 3) 3 : Nat) : Int), .int .i64 (splX (n - 3) 3 : Nat), .int .i64 (splW (n - 3) 3 : Nat)]) ∧ w' = w := by
  have hne : ((n : Int) == 258) = false := by simp; omega
  go_enter Tryz.func46, Tryz.ntmps46
  go_wp2_with fail
  go_loopg [5, 6] 28 (fun q zb zs wr => ∃ (k b s : Nat), 28 - k ≤ q ∧ k ≤ 28 ∧ Hid (s = 257 + k) ∧ zb = .int .i64 (b : Nat) ∧ zs = .int .i64 (s : Nat) ∧ b ≤ n ∧ Hid (b = lbs7 k) ∧ wr = w)
  case atStart => exact ⟨0, 3, 257, by omega, by omega, hid rfl, rfl, rfl, h3, hid rfl, rfl⟩
  case round =>
    obtain ⟨k, b, s, hq, hk, HS, rfl, rfl, hb, HB, rfl⟩ := hrel
    have hs := HS.out
    have hk28 : k < 28 := by
      refine Classical.byContradiction (fun hc => ?_)
      have e : k = 28 := by omega
      have h9 := HB.out
      rw [e, lbs7_end] at h9
      omega
    obtain ⟨d, hd⟩ : ∃ d, d = lbS s := ⟨_, rfl⟩
    have hd5 := lb_le hk28
    rw [← hs, ← hd] at hd5
    have HD : Hid (d = lbS (257 + k)) := hid (by rw [hd, hs])
    have hs285 : s < 285 := by omega
    obtain ⟨W2, hW2⟩ : ∃ W, W = 2 ^ d := ⟨_, rfl⟩
    have hW32 : W2 ≤ 32 := by
      rw [hW2]
      have := Nat.pow_le_pow_right (n := 2) (by decide) hd5.1
      omega
    have HW2 : Hid (W2 = 2 ^ d) := hW2
    have hd5' : d ≤ 5 := hd5.1
    obtain ⟨G, hG⟩ : ∃ G, G = gk - 1 := ⟨_, rfl⟩
    have hGk : G < gk := by omega
    have hGq : 28 - (k + 1) ≤ G := by omega
    obtain ⟨b2, hb2⟩ : ∃ b2, b2 = b + W2 := ⟨_, rfl⟩
    have hb2I : (b : Int) + (W2 : Int) = (b2 : Int) := by omega
    have hb2s : b2 ≤ 400 := by have := hd5.2; have := HB.out; omega
    have HNX : Hid (b2 = lbs7 (k + 1)) := hid (by rw [hb2, lbs7, ← HB.out, ← HD.out, ← HW2.out])
    obtain ⟨s2, hs2⟩ : ∃ s2, s2 = s + 1 := ⟨_, rfl⟩
    have hs2I : (s : Int) + 1 = (s2 : Int) := by omega
    have HS2 : Hid (s2 = 257 + (k + 1)) := hid (by omega)
    have HIN : Hid (n < b2 → splW (n - 3) 3 = d ∧ 257 + splS (n - 3) 3 = s ∧ splX (n - 3) 3 = n - b) := hid (fun h => by
      have h9 := len_at hk28 (n := n) (by rw [← HB.out]; exact hb) (by rw [← HB.out, ← HD.out, ← HW2.out]; omega)
      refine ⟨by rw [h9.1, HD.out], by rw [h9.2.1, hs], by rw [h9.2.2, HB.out]⟩)
    obtain ⟨nb, hnb⟩ : ∃ nb, nb = n - b := ⟨_, rfl⟩
    have hnbI : (n : Int) - (b : Int) = (nb : Int) := by omega
    have HNB : Hid (nb = n - b) := hnb
    by_cases hbig : 264 < s
    · obtain ⟨s1, hs1⟩ : ∃ s1, s1 = s - 261 := ⟨_, rfl⟩
      have hsub : (s : Int) - 261 = (s1 : Int) := by omega
      have hdv : (s1 : Int) / 4 = (d : Int) := by
        have : d = s1 / 4 := by rw [hd, hs1]; unfold lbS; rw [if_pos hbig]
        omega
      have b264 : decide ((264 : Int) < (s : Int)) = true := by simp; omega
      clear hW2 hd hs1 hd5 hbig hs hG
      go_wp2_with fail
      go_loopg [8, 9] d (fun q zw zi wx => ∃ (i x : Nat), d - i ≤ q ∧ i ≤ d ∧ zi = .int .i64 (i : Nat) ∧ zw = .int .i64 (x : Nat) ∧ x ≤ 32 ∧ Hid (x = 2 ^ i) ∧ wx = wr)
      case atStart => exact ⟨0, 1, by omega, by omega, rfl, rfl, by decide, hid rfl, rfl⟩
      case round =>
        obtain ⟨i, x, hq2, hi, rfl, rfl, hx, HX, rfl⟩ := hrel
        by_cases hlt2 : i < d
        · have hx16 : x ≤ 16 := by
            rw [HX.out]
            have := Nat.pow_le_pow_right (n := 2) (by decide) (show i ≤ 4 by omega)
            omega
          obtain ⟨x2, hx2⟩ : ∃ x2, x2 = 2 * x := ⟨_, rfl⟩
          have hx2I : 2 * (x : Int) = (x2 : Int) := by omega
          have HX2 : Hid (x2 = 2 ^ (i + 1)) := hid (by rw [hx2, HX.out, Nat.pow_succ]; omega)
          have hx32 : x2 ≤ 32 := by omega
          clear hx2
          go_wp2_with fail
          go_roundg (gk - 1)
          case measure => omega
          case rel => exact ⟨i + 1, x2, by omega, by omega, by go_num, rfl, hx32, HX2, rfl⟩
        · have hin : i = d := by omega
          have hxw : x = W2 := by rw [HX.out, hin]; exact HW2.out.symm
          subst hxw
          by_cases hnb2 : n < b2
          · have HE := hid (HIN.out hnb2)
            clear hb2 hs2 hnb
            go_wp2_with fail
            go_ret3
            exact ⟨by rw [HE.out.1, HE.out.2.1, HE.out.2.2, ← HNB.out]; rfl, rfl⟩
          · clear hb2 hs2 hnb
            go_wp2_with fail
            go_roundg G
            case measure => omega
            case rel => exact ⟨k + 1, b2, s2, by omega, by omega, HS2, rfl, rfl, by omega, HNX, rfl⟩
    · have hd0 : d = 0 := by rw [hd]; unfold lbS; rw [if_neg hbig]
      have b264 : decide ((264 : Int) < (s : Int)) = false := by simp; omega
      have hW1 : W2 = 1 := by rw [hW2, hd0]
      subst hd0 hW1
      have hb2J : (b : Int) + 1 = (b2 : Int) := by omega
      clear hW2 hd hd5 hbig hs
      by_cases hnb2 : n < b2
      · have HE := hid (HIN.out hnb2)
        clear hb2 hs2 hnb
        go_wp2_with fail
        refine wp_loop_rounds 1 ?_
        rw [rounds_succ]
        go_wp2_with fail
        go_ret3
        exact ⟨by rw [HE.out.1, HE.out.2.1, HE.out.2.2, ← HNB.out]; rfl, rfl⟩
      · clear hb2 hs2 hnb
        go_wp2_with fail
        refine wp_loop_rounds 1 ?_
        rw [rounds_succ]
        go_wp2_with fail
        go_roundg G
        case measure => omega
        case rel => exact ⟨k + 1, b2, s2, by omega, by omega, HS2, rfl, rfl, by omega, HNX, rfl⟩

set_option maxRecDepth 100000 in
set_option maxHeartbeats 400000 in
theorem rdistance_any (w : World) (n : Nat) (h3 : 1 ≤ n) (h258 : n ≤ 16384) :
    Calls Tryz.prog 47 #[.int .i64 (n : Nat)] w fun e w' => e = .returned (.tuple #[.int .i64 (splS (n - 1) 2 : Nat), .int .i64 (splX (n - 1) 2 : Nat), .int .i64 (splW (n - 1) 2 : Nat)]) ∧ w' = w := by
  go_enter Tryz.func47, Tryz.ntmps47
  go_wp2_with fail
  go_loopg [5, 6] 30 (fun q zb zs wr => ∃ (k b s : Nat), 30 - k ≤ q ∧ k ≤ 28 ∧ Hid (s = k) ∧ zb = .int .i64 (b : Nat) ∧ zs = .int .i64 (s : Nat) ∧ b ≤ n ∧ Hid (b = dbs7 k) ∧ wr = w)
  case atStart => exact ⟨0, 1, 0, by omega, by omega, hid rfl, rfl, rfl, h3, hid rfl, rfl⟩
  case round =>
    obtain ⟨k, b, s, hq, hk, HS, rfl, rfl, hb, HB, rfl⟩ := hrel
    have hs := HS.out
    have hk28 : k < 28 := by
      refine Classical.byContradiction (fun hc => ?_)
      have e : k = 28 := by omega
      have h9 := HB.out
      rw [e] at h9
      have := dbs7_end
      omega
    obtain ⟨d, hd⟩ : ∃ d, d = dbS s := ⟨_, rfl⟩
    have hd5 := db_le (show k < 30 by omega)
    rw [← hs, ← hd] at hd5
    have HD : Hid (d = dbS k) := hid (by rw [hd, hs])
    have hs285 : s < 30 := by omega
    obtain ⟨W2, hW2⟩ : ∃ W, W = 2 ^ d := ⟨_, rfl⟩
    have hW32 : W2 ≤ 8192 := by
      rw [hW2]
      have := Nat.pow_le_pow_right (n := 2) (by decide) hd5.1
      omega
    have HW2 : Hid (W2 = 2 ^ d) := hW2
    have hd5' : d ≤ 13 := hd5.1
    obtain ⟨G, hG⟩ : ∃ G, G = gk - 1 := ⟨_, rfl⟩
    have hGk : G < gk := by omega
    have hGq : 30 - (k + 1) ≤ G := by omega
    obtain ⟨b2, hb2⟩ : ∃ b2, b2 = b + W2 := ⟨_, rfl⟩
    have hb2I : (b : Int) + (W2 : Int) = (b2 : Int) := by omega
    have hb2s : b2 ≤ 40000 := by have := hd5.2; have := HB.out; omega
    have HNX : Hid (b2 = dbs7 (k + 1)) := hid (by rw [hb2, dbs7, ← HB.out, ← HD.out, ← HW2.out])
    obtain ⟨s2, hs2⟩ : ∃ s2, s2 = s + 1 := ⟨_, rfl⟩
    have hs2I : (s : Int) + 1 = (s2 : Int) := by omega
    have HS2 : Hid (s2 = k + 1) := hid (by omega)
    have HIN : Hid (n < b2 → splW (n - 1) 2 = d ∧ splS (n - 1) 2 = s ∧ splX (n - 1) 2 = n - b) := hid (fun h => by
      have h9 := dist_at (show k < 30 by omega) (n := n) (by rw [← HB.out]; exact hb) (by rw [← HB.out, ← HD.out, ← HW2.out]; omega)
      refine ⟨by rw [h9.1, HD.out], by rw [h9.2.1, hs], by rw [h9.2.2, HB.out]⟩)
    obtain ⟨nb, hnb⟩ : ∃ nb, nb = n - b := ⟨_, rfl⟩
    have hnbI : (n : Int) - (b : Int) = (nb : Int) := by omega
    have HNB : Hid (nb = n - b) := hnb
    by_cases hbig : 3 < s
    · obtain ⟨s1, hs1⟩ : ∃ s1, s1 = s - 2 := ⟨_, rfl⟩
      have hsub : (s : Int) - 2 = (s1 : Int) := by omega
      have hdv : (s1 : Int) / 2 = (d : Int) := by
        have : d = s1 / 2 := by rw [hd, hs1]; unfold dbS; rw [if_pos hbig]
        omega
      have b264 : decide ((3 : Int) < (s : Int)) = true := by simp; omega
      clear hW2 hd hs1 hd5 hbig hs hG
      go_wp2_with fail
      go_loopg [8, 9] d (fun q zw zi wx => ∃ (i x : Nat), d - i ≤ q ∧ i ≤ d ∧ zi = .int .i64 (i : Nat) ∧ zw = .int .i64 (x : Nat) ∧ x ≤ 8192 ∧ Hid (x = 2 ^ i) ∧ wx = wr)
      case atStart => exact ⟨0, 1, by omega, by omega, rfl, rfl, by decide, hid rfl, rfl⟩
      case round =>
        obtain ⟨i, x, hq2, hi, rfl, rfl, hx, HX, rfl⟩ := hrel
        by_cases hlt2 : i < d
        · have hx16 : x ≤ 4096 := by
            rw [HX.out]
            have := Nat.pow_le_pow_right (n := 2) (by decide) (show i ≤ 12 by omega)
            omega
          obtain ⟨x2, hx2⟩ : ∃ x2, x2 = 2 * x := ⟨_, rfl⟩
          have hx2I : 2 * (x : Int) = (x2 : Int) := by omega
          have HX2 : Hid (x2 = 2 ^ (i + 1)) := hid (by rw [hx2, HX.out, Nat.pow_succ]; omega)
          have hx32 : x2 ≤ 8192 := by omega
          clear hx2
          go_wp2_with fail
          go_roundg (gk - 1)
          case measure => omega
          case rel => exact ⟨i + 1, x2, by omega, by omega, by go_num, rfl, hx32, HX2, rfl⟩
        · have hin : i = d := by omega
          have hxw : x = W2 := by rw [HX.out, hin]; exact HW2.out.symm
          subst hxw
          by_cases hnb2 : n < b2
          · have HE := hid (HIN.out hnb2)
            clear hb2 hs2 hnb
            go_wp2_with fail
            go_ret3
            exact ⟨by rw [HE.out.1, HE.out.2.1, HE.out.2.2, ← HNB.out]; rfl, rfl⟩
          · clear hb2 hs2 hnb
            go_wp2_with fail
            go_roundg G
            case measure => omega
            case rel => exact ⟨k + 1, b2, s2, by omega, by omega, HS2, rfl, rfl, by omega, HNX, rfl⟩
    · have hd0 : d = 0 := by rw [hd]; unfold dbS; rw [if_neg hbig]
      have b264 : decide ((3 : Int) < (s : Int)) = false := by simp; omega
      have hW1 : W2 = 1 := by rw [hW2, hd0]
      subst hd0 hW1
      have hb2J : (b : Int) + 1 = (b2 : Int) := by omega
      clear hW2 hd hd5 hbig hs
      by_cases hnb2 : n < b2
      · have HE := hid (HIN.out hnb2)
        clear hb2 hs2 hnb
        go_wp2_with fail
        refine wp_loop_rounds 1 ?_
        rw [rounds_succ]
        go_wp2_with fail
        go_ret3
        exact ⟨by rw [HE.out.1, HE.out.2.1, HE.out.2.2, ← HNB.out]; rfl, rfl⟩
      · clear hb2 hs2 hnb
        go_wp2_with fail
        refine wp_loop_rounds 1 ?_
        rw [rounds_succ]
        go_wp2_with fail
        go_roundg G
        case measure => omega
        case rel => exact ⟨k + 1, b2, s2, by omega, by omega, HS2, rfl, rfl, by omega, HNX, rfl⟩

end Go.Proofs.YtggcbnhckcenmaaGreatDoor

/-
  The reference's layer 7: a block by the fixed codes.
-/
namespace Go.Proofs.YtggcbnhckcenmaaGreatDoor
open Go.RowKit

/-- Bits in new memory. -/
structure LB7 (wb w : World) (v : Value) (X : List Nat) : Prop where
  row : Row w v X
  new : ∀ k, v.ownBlock = some k → wb.heap.size ≤ k
  same : Same wb w

theorem LB7.put (wb w : World) (vl : Value) (X : List Nat) (v n : Nat) (h : LB7 wb w vl X) (hn : n ≤ 32) (hv : v < 4294967296) (hlen : X.length ≤ 100000000) :
    Calls Tryz.prog 45 #[vl, .int .u32 (v : Nat), .int .i64 (n : Nat)] w fun e w' => ∃ v', e = .returned v' ∧ LB7 wb w' v' (X ++ bitsOf v n) ∧ (∃ a m c, v' = .slice a m c) ∧ Kept (fun k => vl.ownBlock = some k) w w' := by
  refine (refPut_any w vl X v n h.row hn hv hlen).mono ?_
  rintro e w' ⟨v', rfl, hg⟩
  obtain ⟨a, c, hs, _⟩ := hg.row.shape
  refine ⟨v', rfl, ⟨hg.row, fun k e => ?_, Same.then h.same hg.kept (fun k hk e => by have := h.new k e; omega)⟩, ⟨a, _, c, hs⟩, hg.kept⟩
  rcases hg.own with h9 | h9
  · rw [h9] at e; exact h.new k e
  · exact Nat.le_trans h.same.size (h9 k e)

set_option maxHeartbeats 400000 in
theorem rlength_tok (w : World) (t : TK) (h1 : 3 ≤ t.len) (h2 : t.len ≤ 258) :
    Calls Tryz.prog 46 #[.int .i64 t.len] w fun e w' => e = .returned (.tuple #[.int .i64 ((litMk t).sym : Nat), .int .i64 ((litMk t).extra : Nat), .int .i64 ((litMk t).width : Nat)]) ∧ w' = w := by
  by_cases h : t.len = 258
  · have hm : litMk t = ⟨285, 0, 0⟩ := by unfold litMk; rw [if_neg (by omega), if_pos h]
    rw [hm, h]
    go_enter Tryz.func46, Tryz.ntmps46
    go_wp2_with fail
    go_ret3
    exact ⟨rfl, rfl⟩
  · obtain ⟨n, hn⟩ : ∃ n : Nat, t.len = (n : Int) := ⟨t.len.toNat, by omega⟩
    have hm : litMk t = ⟨257 + splS (n - 3) 3, splX (n - 3) 3, splW (n - 3) 3⟩ := by unfold litMk; rw [if_neg (by omega), if_neg h, hn]; simp
    rw [hm, hn]
    exact rlength_any w n (by omega) (by omega)

theorem rdistance_tok (w : World) (t : TK) (h1 : 1 ≤ t.dist) (h2 : t.dist ≤ 16384) :
    Calls Tryz.prog 47 #[.int .i64 t.dist] w fun e w' => e = .returned (.tuple #[.int .i64 ((distMk t).sym : Nat), .int .i64 ((distMk t).extra : Nat), .int .i64 ((distMk t).width : Nat)]) ∧ w' = w := by
  obtain ⟨n, hn⟩ : ∃ n : Nat, t.dist = (n : Int) := ⟨t.dist.toNat, by omega⟩
  have hm : distMk t = ⟨splS (n - 1) 2, splX (n - 1) 2, splW (n - 1) 2⟩ := by unfold distMk; rw [hn]; simp
  rw [hm, hn]
  exact rdistance_any w n (by omega) (by omega)

theorem LB7.later {wb w w' : World} {v : Value} {X : List Nat} (h : LB7 wb w v X) (hk : Same w w') : LB7 wb w' v X := ⟨h.row.kept hk (fun _ _ f => f), h.new, Same.trans h.same hk⟩

/-- What is looked up of a code: its word and its length, in worlds that keep wb's cells. -/
theorem look7 {wb : World} {g1 n1 c1 g2 n2 c2 : Nat} {ns : List Nat} (hc : WRow 0 wb (.slice (some ⟨g1, 0, none⟩) n1 c1) (codesL ns)) (hl : NRow 0 wb (.slice (some ⟨g2, 0, none⟩) n2 c2) ns) (y : Nat) (hy : y < ns.length) {w : World} (hk : Same wb w) :
    w.cell? ⟨g1, y, none⟩ = some (.int .u32 (cdOf ns y : Nat)) ∧ w.cell? ⟨g2, y, none⟩ = some (.int .i64 (key ns y : Nat)) := by
  refine ⟨?_, ?_⟩
  · have h := (hc.same hk).cell y (by rw [codesL_length]; exact hy)
    rw [codesL_get] at h
    exact h
  · have h := (hl.same hk).cell y hy
    rw [h, key_get hy]
    rfl

set_option maxRecDepth 100000 in
set_option maxHeartbeats 400000 in
theorem rfixed_any (w : World) (v : Value) (I : Nat → Prop) (ts : List TK) (n : Nat) (hs : TkSrc w I v ts) (hm : measT 16384 ts 0 = .ok n) (hb : ∀ t ∈ ts, t.lit < 256) :
    Calls Tryz.prog 22 #[v] w fun e w' => ∃ v' x, e = .returned v' ∧ NB w w' v' x ∧ PFix ts x := by
  have htk := fix_toks hm hb
  have HTI : Hid (∀ t ∈ ts, TokIn fixL fixD t) := hid (fun t ht => tokIn hm htk t ht)
  have htl := measT_count hm
  obtain ⟨ao, cap, rfl, hx1, hx2⟩ := id hs
  have HS : Hid (TkSrc w (fun k => I k ∧ k < w.heap.size) (.slice ao ts.length cap) ts) := hid (SrcC.low tkC_ok hs)
  have HF := fixed7 w
  clear hs hx1 hx2 hm hb htk
  go_enter Tryz.func22, Tryz.ntmps22
  go_wp2_with fail
  refine HF.mono ?_
  rintro e w1 ⟨va, vb, rfl, hra, hrb, hk1⟩
  obtain ⟨aa, ca, hva, hga, _⟩ := hra.shape
  obtain ⟨ab, cb, hvb, hgb, _⟩ := hrb.shape
  rw [fix_lens.1] at hva
  rw [fix_lens.2] at hvb
  obtain ⟨ga, rfl⟩ := hga (by decide)
  obtain ⟨gb, rfl⟩ := hgb (by decide)
  subst hva hvb
  have HRA : Hid (NRow w.heap.size w1 (.slice (some ⟨ga, 0, none⟩) 288 ca) fixL) := hra
  have HRB : Hid (NRow w.heap.size w1 (.slice (some ⟨gb, 0, none⟩) 32 cb) fixD) := hrb
  have HK1 : Hid (Same w w1) := hk1
  have HC1 := rcodes_good w1 _ _ _ fixL ((SrcE.ofRow hra).recode (enc' := intV) (ys := fixL.map (fun (n : Nat) => (n : Int))) (by rw [List.map_map]; rfl)) (lok_good fix_ok.lit).1 (lok_good fix_ok.lit).2
  clear hra hrb hk1 HF hga hgb
  go_wp2_with fail
  refine HC1.mono ?_
  rintro e w2 ⟨⟨gc, nc, rfl, hrc⟩, hk2⟩
  have hnc := hrc.len
  rw [codesL_length, fix_lens.1] at hnc
  subst hnc
  have HRC : Hid (WRow w1.heap.size w2 (.slice (some ⟨gc, 0, none⟩) 288 288) (codesL fixL)) := hrc
  have HK2 : Hid (Same w1 w2) := hk2
  have HLD := fix_ok.dist (by decide)
  have HC2 := rcodes_good w2 _ _ _ fixD ((SrcE.ofRow (HRB.out.same hk2)).recode (enc' := intV) (ys := fixD.map (fun (n : Nat) => (n : Int))) (by rw [List.map_map]; rfl)) (lok_good HLD).1 (lok_good HLD).2
  clear hrc hk2 HC1 HLD
  go_wp2_with fail
  refine HC2.mono ?_
  rintro e w3 ⟨⟨gd, nd, rfl, hrd⟩, hk3⟩
  have hnd := hrd.len
  rw [codesL_length, fix_lens.2] at hnd
  subst hnd
  have hk13 : Same w1 w3 := Same.trans HK2.out hk3
  have HL7 : Hid (∀ y, y < 288 → ∀ wx, Same w3 wx → wx.cell? ⟨gc, y, none⟩ = some (.int .u32 (cdOf fixL y : Nat)) ∧ wx.cell? ⟨ga, y, none⟩ = some (.int .i64 (key fixL y : Nat))) := hid (fun y hy wx hkx => look7 (RowE.base (HRC.out.same hk3) (Nat.zero_le _)) (RowE.base (HRA.out.same hk13) (Nat.zero_le _)) y (by rw [fix_lens.1]; exact hy) hkx)
  have HD7 : Hid (∀ y, y < 32 → ∀ wx, Same w3 wx → wx.cell? ⟨gd, y, none⟩ = some (.int .u32 (cdOf fixD y : Nat)) ∧ wx.cell? ⟨gb, y, none⟩ = some (.int .i64 (key fixD y : Nat))) := hid (fun y hy wx hkx => look7 (RowE.base hrd (Nat.zero_le _)) (RowE.base (HRB.out.same hk13) (Nat.zero_le _)) y (by rw [fix_lens.2]; exact hy) hkx)
  have HK3 : Hid (Same w w3) := hid (Same.trans HK1.out hk13)
  have HS3 : Hid (TkSrc w3 (fun k => I k ∧ k < w.heap.size) (.slice ao ts.length cap) ts) := hid (SrcC.kept tkC_ok HS.out HK3.out (fun _ _ _ f => f))
  have HST : Hid (LB7 w3 (w3.alloc (.cells #[.int .u8 1, .int .u8 1, .int .u8 0] 5)) (.slice (some ⟨w3.heap.size, 0, none⟩) 3 3) [1, 1, 0]) := hid ⟨lit_row w3 [1, 1, 0] 3 rfl (by decide), fun k e => by simp [Value.ownBlock] at e; omega, (Kept.refl _ w3).alloc _⟩
  clear hrd hk3 hk13 HC2 HRA HRB HRC HK1 HK2 HS
  go_wp2_with fail
  go_loopg [9, 10] ts.length (fun q zl zi wr => ∃ (i : Nat) (al : Option Addr) (nl cl : Nat), ts.length - i ≤ q ∧ i ≤ ts.length ∧ zi = .int .i64 (i : Nat) ∧ zl = .slice al nl cl ∧ Hid (LB7 w3 wr zl ([1, 1, 0] ++ (ts.take i).flatMap (tokBits fixL fixD))))
  case atStart => exact ⟨0, _, _, _, by omega, by omega, rfl, rfl, hid (by simpa using HST.out)⟩
  case round =>
    clear HST
    obtain ⟨i, al, nl, cl, hq, hi, rfl, rfl, HL⟩ := hrel
    have HY : Hid (([1, 1, 0] ++ (ts.take i).flatMap (tokBits fixL fixD)).length ≤ 10000000) := hid (by
      have h1 := toksBits_len (key_le fix_ok.lit.le) (key_le fix_ok.le) (ts.take i) (fun t ht => HTI.out t (List.mem_of_mem_take ht))
      rw [List.length_append]
      rw [List.length_take] at h1
      simp only [List.length_cons, List.length_nil]
      omega)
    by_cases hlt : i < ts.length
    · obtain ⟨b, o, e1, k1, k2, k3⟩ := HS3.out.at HL.out.same i hlt
      subst e1
      obtain ⟨t, ht⟩ : ∃ t, t = ts[i] := ⟨_, rfl⟩
      rw [← ht] at k1 k2 k3
      have htI := HTI.out t (by rw [ht]; exact List.getElem_mem _)
      have HSN : Hid ((ts.take (i + 1)).flatMap (tokBits fixL fixD) = (ts.take i).flatMap (tokBits fixL fixD) ++ tokBits fixL fixD t) := hid (by rw [ht]; exact flat_snoc _ ts i hlt)
      obtain ⟨y, hy⟩ : ∃ y, y = (litMk t).sym := ⟨_, rfl⟩
      have hy288 : y < 288 := by have := htI.has.1; rw [fix_lens.1] at this; omega
      have hk0 : key fixL y ≠ 0 := by rw [hy]; exact htI.has.2.1
      obtain ⟨cA, cB⟩ := HL7.out y hy288 wr HL.out.same
      have hC2 := cd_lt fixL y hk0
      have hrb := row_bits fixL y hk0
      have hk15 := key_le fix_ok.lit.le y
      obtain ⟨C, hC⟩ : ∃ C, cdOf fixL y = C := ⟨_, rfl⟩
      obtain ⟨k, hkk⟩ : ∃ k, key fixL y = k := ⟨_, rfl⟩
      rw [hC] at cA hC2 hrb
      rw [hkk] at cB hC2 hrb hk15
      have hC32 : C < 4294967296 := by
        have := Nat.pow_le_pow_right (n := 2) (by decide) hk15
        omega
      have HPT : Hid (∀ W2, Same wr W2 → Calls Tryz.prog 45 #[.slice al nl cl, .int .u32 (C : Nat), .int .i64 (k : Nat)] W2 fun e w' => ∃ v', e = .returned v' ∧ LB7 w3 w' v' ([1, 1, 0] ++ (ts.take i).flatMap (tokBits fixL fixD) ++ bitsOf C k) ∧ (∃ a m c, v' = .slice a m c) ∧ Kept (fun k => (Value.slice al nl cl).ownBlock = some k) W2 w') := hid (fun W2 hk2 => LB7.put w3 W2 _ _ C k (HL.out.later hk2) (by omega) hC32 (by have := HY.out; omega))
      have HRB : Hid (bitsOf C k = rowOf fixL y) := hrb
      have HYL : Hid (y = (litMk t).sym) := hy
      have HTN : Hid (TokIn fixL fixD t) := htI
      have HNE : Hid (gc < w3.heap.size ∧ ga < w3.heap.size) := hid (by
        have h9 := HL7.out 0 (by decide) w3 (Kept.refl _ _)
        exact ⟨World.block_lt_of_cell? w3 _ h9.1, World.block_lt_of_cell? w3 _ h9.2⟩)
      have yI1 : (0 : Int) ≤ (y : Int) := by omega
      have yI2 : (y : Int) < 288 := by omega
      have HO1 : Hid (¬ (Value.slice al nl cl).ownBlock = some gc) := hid (fun e => by have := HL.out.new gc e; have := HNE.out; omega)
      have HO2 : Hid (¬ (Value.slice al nl cl).ownBlock = some ga) := hid (fun e => by have := HL.out.new ga e; have := HNE.out; omega)
      have HTT : Hid (t = ts[i]) := hid ht
      clear hC hkk hC2 hrb htI ht hk0
      by_cases h0 : t.len = 0
      · have hyl : t.lit = y := by rw [hy]; unfold litMk; rw [if_pos h0]
        have b0 : (t.len == 0) = true := by simp [h0]
        have HSF : Hid ((ts.take (i + 1)).flatMap (tokBits fixL fixD) = (ts.take i).flatMap (tokBits fixL fixD) ++ rowOf fixL y) := hid (by
          rw [HSN.out]
          congr 1
          unfold tokBits mkBits
          rw [if_pos h0, List.append_nil, HYL.out]
          have : litMk t = ⟨t.lit, 0, 0⟩ := by unfold litMk; rw [if_pos h0]
          rw [this]
          simp [bitsOf])
        rw [hyl] at k1
        have hy256 : y < 256 := by rw [← hyl]; exact HTN.out.byte
        have hyw : IntKind.i64.wrap (y : Int) = (y : Int) := by rw [IntKind.wrap_i64]; omega
        clear hy hyl HSN
        go_wp2_with fail
        go_region_held3 (fun w' => w'.cell? ⟨gc, y, none⟩ = some (.int .u32 (C : Nat)) ∧ w'.cell? ⟨ga, y, none⟩ = some (.int .i64 (k : Nat)))
          (first
            | (go_split_ands; exact ⟨hk5.cell (by assumption) HO1.out, hk5.cell (by assumption) HO2.out⟩)
            | go_keep)
          (first
            | (go_at_call 45; refine (HPT.out _ ((Kept.refl _ wr).drew)).mono ?_; rintro e w5 ⟨v5, rfl, hl5, ⟨a5, m5, c5, rfl⟩, hk5⟩))
        all_goals
          have HL6 : Hid (LB7 w3 w5 (.slice a5 m5 c5) ([1, 1, 0] ++ (ts.take (i + 1)).flatMap (tokBits fixL fixD))) := hid (by rw [HSF.out, ← HRB.out, ← List.append_assoc]; exact hl5)
          clear hl5 hk5 cA cB
          go_wp2_with fail
          go_roundg (gk - 1)
          case measure => omega
          case rel => exact ⟨i + 1, _, _, _, by omega, by omega, by go_num, rfl, HL6⟩
      · have b0 : (t.len == 0) = false := by simp [h0]
        have hln := HTN.out.len
        have HLE := rlength_tok wr t (by omega) (by omega)
        have hlx := HTN.out.lx
        obtain ⟨xt, hxt⟩ : ∃ x, x = (litMk t).extra := ⟨_, rfl⟩
        obtain ⟨wd, hwd⟩ : ∃ x, x = (litMk t).width := ⟨_, rfl⟩
        rw [← hy, ← hxt, ← hwd] at HLE
        rw [← hxt, ← hwd] at hlx
        have hx32 : xt < 32 := by
          have := Nat.pow_le_pow_right (n := 2) (by decide) hlx.2
          omega
        have hxw : IntKind.u32.wrap (xt : Int) = (xt : Int) := by rw [IntKind.wrap_u32']; omega
        have hwd5 : wd ≤ 5 := hlx.2
        have HM1 : Hid (mkBits fixL (litMk t) = rowOf fixL y ++ bitsOf xt wd) := hid (by unfold mkBits; rw [hy, hxt, hwd])
        have hfar := HTN.out.far h0
        have hdx := HTN.out.dx h0
        have hdh := HTN.out.has.2.2 h0
        obtain ⟨z, hz⟩ : ∃ z, z = (distMk t).sym := ⟨_, rfl⟩
        obtain ⟨xd, hxd⟩ : ∃ x, x = (distMk t).extra := ⟨_, rfl⟩
        obtain ⟨wdd, hwdd⟩ : ∃ x, x = (distMk t).width := ⟨_, rfl⟩
        have HDI : Hid (∀ W2, Calls Tryz.prog 47 #[.int .i64 t.dist] W2 fun e w' => e = .returned (.tuple #[.int .i64 (z : Nat), .int .i64 (xd : Nat), .int .i64 (wdd : Nat)]) ∧ w' = W2) := hid (fun W2 => by rw [hz, hxd, hwdd]; exact rdistance_tok W2 t hfar.1 hfar.2)
        rw [← hxd, ← hwdd] at hdx
        rw [← hz, fix_lens.2] at hdh
        have hxd2 : xd < 8192 := by
          have := Nat.pow_le_pow_right (n := 2) (by decide) hdx.2
          omega
        have hxdw : IntKind.u32.wrap (xd : Int) = (xd : Int) := by rw [IntKind.wrap_u32']; omega
        have hwd13 : wdd ≤ 13 := hdx.2
        have HM2 : Hid (mkBits fixD (distMk t) = rowOf fixD z ++ bitsOf xd wdd) := hid (by unfold mkBits; rw [hz, hxd, hwdd])
        have hC2 := cd_lt fixD z hdh.2
        have hrb := row_bits fixD z hdh.2
        have hk15 := key_le fix_ok.le z
        obtain ⟨Cd, hCd⟩ : ∃ C, cdOf fixD z = C := ⟨_, rfl⟩
        obtain ⟨kd, hkd⟩ : ∃ k, key fixD z = k := ⟨_, rfl⟩
        have HDC : Hid (∀ wx, Same w3 wx → wx.cell? ⟨gd, z, none⟩ = some (.int .u32 (Cd : Nat)) ∧ wx.cell? ⟨gb, z, none⟩ = some (.int .i64 (kd : Nat))) := hid (fun wx hx => by rw [← hCd, ← hkd]; exact HD7.out z hdh.1 wx hx)
        rw [hCd, hkd] at hC2 hrb
        rw [hkd] at hk15
        have hCd32 : Cd < 4294967296 := by
          have := Nat.pow_le_pow_right (n := 2) (by decide) hk15
          omega
        have HRB2 : Hid (bitsOf Cd kd = rowOf fixD z) := hrb
        have zI1 : (0 : Int) ≤ (z : Int) := by omega
        have zI2 : (z : Int) < 32 := by omega
        have hkd15 : kd ≤ 15 := hk15
        have hk15' : k ≤ 15 := by omega
        have HGD : Hid (gd < w3.heap.size ∧ gb < w3.heap.size) := hid (by
          have h9 := HD7.out 0 (by decide) w3 (Kept.refl _ _)
          exact ⟨World.block_lt_of_cell? w3 _ h9.1, World.block_lt_of_cell? w3 _ h9.2⟩)
        have HSF : Hid ((ts.take (i + 1)).flatMap (tokBits fixL fixD) = (ts.take i).flatMap (tokBits fixL fixD) ++ ((rowOf fixL y ++ bitsOf xt wd) ++ (rowOf fixD z ++ bitsOf xd wdd))) := hid (by
          rw [HSN.out]
          congr 1
          unfold tokBits
          rw [if_neg h0, HM1.out, HM2.out])
        clear hy hxt hwd hz hxd hwdd hCd hkd hC2 hrb hk15 hdh hdx hfar hlx hln HSN
        go_wp2_with fail
        refine HLE.mono ?_
        rintro e wq ⟨rfl, hwq⟩
        subst hwq
        clear HLE
        go_wp2_with fail
        go_region_held3 (fun w' => w'.cell? ⟨gc, y, none⟩ = some (.int .u32 (C : Nat)) ∧ w'.cell? ⟨ga, y, none⟩ = some (.int .i64 (k : Nat)))
          (first
            | (go_split_ands; exact ⟨hk5.cell (by assumption) HO1.out, hk5.cell (by assumption) HO2.out⟩)
            | go_keep)
          (first
            | (go_at_call 45; refine (HPT.out _ ((Kept.refl _ wq).drew)).mono ?_; rintro e w5 ⟨v5, rfl, hl5, ⟨a5, m5, c5, rfl⟩, hk5⟩))
        all_goals
          have HP2 := LB7.put w3 w5 _ _ xt wd hl5 (by omega) (by omega) (by rw [List.length_append, bitsOf_length]; have := HY.out; omega)
          clear hl5 hk5 cA cB k1 k2 k3
          go_wp2_with fail
          refine HP2.mono ?_
          rintro e w6 ⟨v6, rfl, hl6, ⟨a6, m6, c6, rfl⟩, _⟩
          obtain ⟨b', o', e1', _, _, k3⟩ := HS3.out.at hl6.same i hlt
          have e2 : b = b' ∧ o = o' := by simpa using e1'
          obtain ⟨rfl, rfl⟩ := e2
          rw [← HTT.out] at k3
          have HL6 : Hid (LB7 w3 w6 (.slice a6 m6 c6) ([1, 1, 0] ++ (ts.take i).flatMap (tokBits fixL fixD) ++ bitsOf C k ++ bitsOf xt wd)) := hl6
          have HO3 : Hid (¬ (Value.slice a6 m6 c6).ownBlock = some gd) := hid (fun e => by have := hl6.new gd e; have := HGD.out; omega)
          have HO4 : Hid (¬ (Value.slice a6 m6 c6).ownBlock = some gb) := hid (fun e => by have := hl6.new gb e; have := HGD.out; omega)
          have HPD : Hid (∀ W2, Same w6 W2 → Calls Tryz.prog 45 #[.slice a6 m6 c6, .int .u32 (Cd : Nat), .int .i64 (kd : Nat)] W2 fun e w' => ∃ v', e = .returned v' ∧ LB7 w3 w' v' ([1, 1, 0] ++ (ts.take i).flatMap (tokBits fixL fixD) ++ bitsOf C k ++ bitsOf xt wd ++ bitsOf Cd kd) ∧ (∃ a m c, v' = .slice a m c) ∧ Kept (fun k => (Value.slice a6 m6 c6).ownBlock = some k) W2 w') := hid (fun W2 hk2 => LB7.put w3 W2 _ _ Cd kd (HL6.out.later hk2) (by omega) hCd32 (by rw [List.length_append, List.length_append, bitsOf_length, bitsOf_length]; have := HY.out; omega))
          obtain ⟨cA, cB⟩ := HDC.out w6 hl6.same
          clear hl6 e1' HP2 HPT HO1 HO2
          go_wp2_with fail
          refine (HDI.out _).mono ?_
          rintro e wq2 ⟨rfl, hwq2⟩
          subst hwq2
          go_wp2_with fail
          go_region_held3 (fun w' => w'.cell? ⟨gd, z, none⟩ = some (.int .u32 (Cd : Nat)) ∧ w'.cell? ⟨gb, z, none⟩ = some (.int .i64 (kd : Nat)))
            (first
              | (go_split_ands; exact ⟨hk7.cell (by assumption) HO3.out, hk7.cell (by assumption) HO4.out⟩)
              | go_keep)
            (first
              | (go_at_call 45; refine (HPD.out _ ((Kept.refl _ wq2).drew)).mono ?_; rintro e w7 ⟨v7, rfl, hl7, ⟨a7, m7, c7, rfl⟩, hk7⟩))
          all_goals
            have HP4 := LB7.put w3 w7 _ _ xd wdd hl7 (by omega) (by omega) (by rw [List.length_append, List.length_append, List.length_append, bitsOf_length, bitsOf_length, bitsOf_length]; have := HY.out; omega)
            clear hl7 hk7 cA cB k3
            go_wp2_with fail
            refine HP4.mono ?_
            rintro e w8 ⟨v8, rfl, hl8, ⟨a8, m8, c8, rfl⟩, _⟩
            have HL8 : Hid (LB7 w3 w8 (.slice a8 m8 c8) ([1, 1, 0] ++ (ts.take (i + 1)).flatMap (tokBits fixL fixD))) := hid (by
              rw [HSF.out, ← HRB.out, ← HRB2.out]
              simp only [List.append_assoc] at hl8 ⊢
              exact hl8)
            clear hl8 HP4
            go_wp2_with fail
            go_roundg (gk - 1)
            case measure => omega
            case rel => exact ⟨i + 1, _, _, _, by omega, by omega, by go_num, rfl, HL8⟩
    · have hin : i = ts.length := by omega
      have HL2 : Hid (LB7 w3 wr (.slice al nl cl) ([1, 1, 0] ++ ts.flatMap (tokBits fixL fixD))) := hid (by have h := HL.out; rw [hin, List.take_length] at h; exact h)
      have HY2 : Hid (([1, 1, 0] ++ ts.flatMap (tokBits fixL fixD)).length ≤ 10000000) := hid (by have h := HY.out; rw [hin, List.take_length] at h; exact h)
      obtain ⟨cA, cB⟩ := HL7.out 256 (by decide) wr HL.out.same
      have hk0 : key fixL 256 ≠ 0 := by decide +kernel
      have hC2 := cd_lt fixL 256 hk0
      have hrb := row_bits fixL 256 hk0
      have hk15 := key_le fix_ok.lit.le 256
      obtain ⟨C, hC⟩ : ∃ C, cdOf fixL 256 = C := ⟨_, rfl⟩
      obtain ⟨k, hkk⟩ : ∃ k, key fixL 256 = k := ⟨_, rfl⟩
      rw [hC] at cA hC2 hrb
      rw [hkk] at cB hC2 hrb hk15
      have hC32 : C < 4294967296 := by
        have := Nat.pow_le_pow_right (n := 2) (by decide) hk15
        omega
      have HRB : Hid (bitsOf C k = rowOf fixL 256) := hrb
      have HNE : Hid (gc < w3.heap.size ∧ ga < w3.heap.size) := hid (by
        have h9 := HL7.out 0 (by decide) w3 (Kept.refl _ _)
        exact ⟨World.block_lt_of_cell? w3 _ h9.1, World.block_lt_of_cell? w3 _ h9.2⟩)
      have HO1 : Hid (¬ (Value.slice al nl cl).ownBlock = some gc) := hid (fun e => by have := HL.out.new gc e; have := HNE.out; omega)
      have HO2 : Hid (¬ (Value.slice al nl cl).ownBlock = some ga) := hid (fun e => by have := HL.out.new ga e; have := HNE.out; omega)
      have HPT : Hid (∀ W2, Same wr W2 → Calls Tryz.prog 45 #[.slice al nl cl, .int .u32 (C : Nat), .int .i64 (k : Nat)] W2 fun e w' => ∃ v', e = .returned v' ∧ LB7 w3 w' v' ([1, 1, 0] ++ ts.flatMap (tokBits fixL fixD) ++ bitsOf C k) ∧ (∃ a m c, v' = .slice a m c) ∧ Kept (fun k => (Value.slice al nl cl).ownBlock = some k) W2 w') := hid (fun W2 hk2 => LB7.put w3 W2 _ _ C k (HL2.out.later hk2) (by omega) hC32 (by have := HY2.out; omega))
      have hk15' : k ≤ 15 := hk15
      clear hin hC hkk hC2 hrb hk0 HL HY
      go_wp2_with fail
      go_region_held3 (fun w' => w'.cell? ⟨gc, 256, none⟩ = some (.int .u32 (C : Nat)) ∧ w'.cell? ⟨ga, 256, none⟩ = some (.int .i64 (k : Nat)))
        (first
          | (go_split_ands; exact ⟨hk5.cell (by assumption) HO1.out, hk5.cell (by assumption) HO2.out⟩)
          | go_keep)
        (first
          | (go_at_call 45; refine (HPT.out _ ((Kept.refl _ wr).drew)).mono ?_; rintro e w5 ⟨v5, rfl, hl5, ⟨a5, m5, c5, rfl⟩, hk5⟩))
      all_goals
        have HL5 : Hid (LB7 w3 w5 (.slice a5 m5 c5) (fixBits ts)) := hid (by unfold fixBits; rw [← HRB.out, ← List.append_assoc]; exact hl5)
        have hfl : (fixBits ts).length ≤ 10000100 := by
          have := HY2.out
          unfold fixBits
          rw [← HRB.out]
          simp only [List.length_append, bitsOf_length] at this ⊢
          omega
        have HFB : Hid (∀ b ∈ fixBits ts, b < 2) := hid (fun b hb => by
          unfold fixBits at hb
          rcases List.mem_append.1 hb with h | h
          · simp at h; omega
          · rcases List.mem_append.1 h with h | h
            · exact toksBits_bit _ _ _ b h
            · exact rowOf_bit _ _ b h)
        have HBY := refBytes_any w5 _ _ _ (Src.ofRow HL5.out.row) (fun k e => HL5.out.row.lt e) HFB.out (by omega)
        clear hl5 hk5 cA cB
        go_wp2_with fail
        refine HBY.mono ?_
        rintro e w6 ⟨v6, rfl, hr6, hk6, hn6⟩
        have HE : Hid (NB w w6 v6 (outOf (fixBits ts) (((fixBits ts).length + 7) / 8)) ∧ PFix ts (outOf (fixBits ts) (((fixBits ts).length + 7) / 8))) := hid (by
          have hlt8 := outOf_lt (fixBits ts) HFB.out (((fixBits ts).length + 7) / 8)
          have hk35 := Same.trans HK3.out HL5.out.same
          refine ⟨⟨hr6, hlt8, Same.trans hk35 hk6, fun k e => Nat.le_trans hk35.size (hn6 k e)⟩, pad_of _ _ hlt8 HFB.out (outOf_all _ _ (by omega) (by omega)) (outOf_length _ _), hlt8⟩)
        obtain ⟨a6, c6, hv6, _⟩ := hr6.shape
        subst hv6
        clear hr6 hk6 hn6 HBY
        go_wp2_with fail
        go_ret
        exact ⟨_, _, rfl, HE.out.1, HE.out.2⟩

end Go.Proofs.YtggcbnhckcenmaaGreatDoor

/-
  The law DeflateStored.
-/
namespace Go.Proofs.YtggcbnhckcenmaaGreatDoor
open Go.RowKit

theorem Row.lent7 {w : World} {g n : Nat} {cs : List Nat} (h : Row w (.slice (some ⟨g, 0, none⟩) (n + 2) (n + 2)) (cs ++ [165, 90])) (hn : cs.length = n) : Row w (.slice (some ⟨g, 0, none⟩) n (n + 2)) cs := by
  have := h.cut
  rw [hn] at this
  exact this

set_option maxRecDepth 100000 in
set_option maxHeartbeats 400000 in
theorem deflateStored_all (a : Option Addr) (len cap : Nat) (zs : List Int) (W : World) (h : IsRow .u8 W a len cap zs) (hT : Tab W) :
    Calls Tryz.prog 4 #[.slice a len cap] W fun e w' => e = .returned (.bool true) ∧ Below W.heap.size W w' := by
  suffices H : Calls Tryz.prog 4 #[.slice a len cap] W fun e w' => e = .returned (.bool true) ∧ Same W w' from H.mono (fun e w' h => ⟨h.1, h.2.bel⟩)
  obtain ⟨bs, hs, hl, hb⟩ := h.src
  by_cases hlong : 65536 < len
  · have b1 : decide ((65536 : Int) < (len : Int)) = true := by simp; omega
    clear hlong hT h hs hl hb
    go_enter Tryz.func4, Tryz.ntmps4
    go_wp2_with fail
    go_ret
    exact ⟨rfl, Kept.refl _ _⟩
  · have b1 : decide ((65536 : Int) < (len : Int)) = false := by simp; omega
    have HLN := lend_any W (.slice a len cap) _ bs hs (by omega)
    rw [hl] at HLN
    have HS : Hid (Src W (fun j => j < W.heap.size) (.slice a len cap) bs) := hs
    have HB : Hid (∀ x ∈ bs, x < 256) := hb
    have HT : Hid (Tab W) := hT
    have HL : Hid (bs.length = len) := hl
    have HN : Hid (∀ n c, Value.slice a len cap = .slice none n c → n = 0 ∧ c = 0) := hid h.nil5
    have hlen : len ≤ 65536 := by omega
    clear hs hl hb hT h hlong
    by_cases hbig : 16384 < len
    · have b2 : decide ((16384 : Int) < (len : Int)) = true := by simp; omega
      go_enter Tryz.func4, Tryz.ntmps4
      go_wp2_with fail
      refine HLN.mono ?_
      rintro x w1 ⟨g, rfl, hr1, hk1, hg1⟩
      have HK1 : Hid (Same W w1) := hk1
      have HR1 : Hid (Row w1 (.slice (some ⟨g, 0, none⟩) (len + 2) (len + 2)) (bs ++ [165, 90])) := hr1
      have HG1 : Hid (W.heap.size ≤ g) := hg1
      have HI := stored_long w1 (some ⟨g, 0, none⟩) len (len + 2) hbig
      clear hr1 hk1 hg1 HLN
      go_wp2_with fail
      refine HI.mono ?_
      rintro x w2 ⟨rfl, hk2⟩
      have HK2 : Hid (Same W w2) := hid (Same.trans HK1.out hk2)
      have HBC := keepBack_any w2 g (.slice a len cap) _ bs (by rw [HL.out]; exact HR1.out.kept hk2 (fun _ _ f => f)) (HS.out.kept HK2.out (fun _ _ _ f => f)) (by rw [HL.out]; omega) HB.out
      rw [HL.out] at HBC
      clear hk2 HI
      go_wp2_with fail
      refine HBC.mono ?_
      rintro x w3 ⟨rfl, hk3⟩
      have HK3 : Hid (Same W w3) := hid (Same.then HK2.out hk3 (fun k hk e => by have := HG1.out; omega))
      have HAW := dawake_any w3 (HT.out.kept HK3.out (fun f => f))
      clear hk3 HBC
      go_wp2_with fail
      refine HAW.mono ?_
      rintro x w4 ⟨rfl, hk4⟩
      have HK4 : Hid (Same W w4) := hid (Same.trans HK3.out hk4)
      clear hk4 HAW
      go_wp2_with fail
      go_ret
      exact ⟨rfl, HK4.out⟩
    · have b2 : decide ((16384 : Int) < (len : Int)) = false := by simp; omega
      go_enter Tryz.func4, Tryz.ntmps4
      go_wp2_with fail
      refine HLN.mono ?_
      rintro x w1 ⟨g, rfl, hr1, hk1, hg1⟩
      have HK1 : Hid (Same W w1) := hk1
      have HR1 : Hid (Row w1 (.slice (some ⟨g, 0, none⟩) (len + 2) (len + 2)) (bs ++ [165, 90])) := hr1
      have HG1 : Hid (W.heap.size ≤ g ∧ g < w1.heap.size) := hid ⟨hg1, hr1.lt rfl⟩
      have HI := dstored_any w1 (.slice (some ⟨g, 0, none⟩) len (len + 2)) _ bs (Src.ofRow (hr1.lent7 HL.out)) HB.out (fun n c e => by cases e) (by rw [HL.out]; omega)
      clear hr1 hk1 hg1 HLN
      go_wp2_with fail
      refine HI.mono ?_
      rintro x w2 ⟨v2, rfl, hn2⟩
      have HK2 : Hid (Same W w2) := hid (Same.trans HK1.out hn2.same)
      have HN2 : Hid (NB w1 w2 v2 (storeB bs)) := hn2
      have HBC := keepBack_any w2 g (.slice a len cap) _ bs (by rw [HL.out]; exact HR1.out.kept hn2.same (fun _ _ f => f)) (HS.out.kept HK2.out (fun _ _ _ f => f)) (by rw [HL.out]; omega) HB.out
      rw [HL.out] at HBC
      obtain ⟨a2, c2, hv2, _⟩ := hn2.row.shape
      subst hv2
      clear hn2 HI
      go_wp2_with fail
      refine HBC.mono ?_
      rintro x w3 ⟨rfl, hk3⟩
      have HK3 : Hid (Same W w3) := hid (Same.then HK2.out hk3 (fun k hk e => by have := HG1.out; omega))
      have HR3 : Hid (Row w3 (.slice a2 (storeB bs).length c2) (storeB bs)) := hid (HN2.out.row.kept hk3 (fun k e e2 => by have := HN2.out.new k e; have := HG1.out; omega))
      have HAW := dawake_any w3 (HT.out.kept HK3.out (fun f => f))
      clear hk3 HBC HN2
      go_wp2_with fail
      refine HAW.mono ?_
      rintro x w4 ⟨rfl, hk4⟩
      have HK4 : Hid (Same W w4) := hid (Same.trans HK3.out hk4)
      have HR4 : Hid (Row w4 (.slice a2 (storeB bs).length c2) (storeB bs)) := hid (HR3.out.kept hk4 (fun _ _ f => f))
      have HST := rstored_any w4 (.slice a len cap) _ bs (HS.out.kept HK4.out (fun _ _ _ f => f)) HN.out (by rw [HL.out]; omega)
      clear hk4 HAW HR3
      go_wp2_with fail
      refine HST.mono ?_
      rintro x w5 ⟨v5, rfl, hr5, hk5⟩
      have HK5 : Hid (Same W w5) := hid (Same.trans HK4.out hk5)
      have HKB := keepBytes_same w5 _ v5 _ _ (storeB bs) (Src.ofRow (HR4.out.kept hk5 (fun _ _ f => f))) (Src.ofRow hr5) (by rw [storeB_length, HL.out]; omega)
      obtain ⟨a5, c5, hv5, _⟩ := hr5.shape
      subst hv5
      clear hr5 hk5 HST HR4
      go_wp2_with fail
      refine HKB.mono ?_
      rintro x w6 ⟨rfl, hk6⟩
      have HK6 : Hid (Same W w6) := hid (Same.trans HK5.out hk6)
      clear hk6 HKB
      go_wp2_with fail
      go_ret
      exact ⟨rfl, HK6.out⟩

end Go.Proofs.YtggcbnhckcenmaaGreatDoor

/-
  The reference's Least; the law's unpacked; the law DeflatePacks.
-/
namespace Go.Proofs.YtggcbnhckcenmaaGreatDoor
open Go.RowKit

set_option maxRecDepth 100000 in
set_option maxHeartbeats 400000 in
theorem rleast_any (w : World) (v : Value) (I : Nat → Prop) (data : List Nat) (hs : Src w I v data) (hb : ∀ b ∈ data, b < 256) (hlen : data.length ≤ 16384) :
    Calls Tryz.prog 15 #[v] w fun e w' => ∃ x, e = .returned (.int .i64 ((min (data.length + 5) x.length : Nat) : Int)) ∧ PFix (findM data) x ∧ Same w w' := by
  obtain ⟨hfm, hfb, _⟩ := findM_ok hb hlen
  have HF := rfind_any w v I data hs (by omega)
  obtain ⟨av, cv, hvv, _⟩ := id hs
  obtain ⟨n, hn⟩ : ∃ n, data.length = n := ⟨_, rfl⟩
  rw [hn] at hvv hlen ⊢
  subst hvv
  have HX : Hid (∀ W u J, TkSrc W J u (findM data) → Calls Tryz.prog 22 #[u] W fun e w' => ∃ v' x, e = .returned v' ∧ NB W w' v' x ∧ PFix (findM data) x) := hid (fun W u J h => rfixed_any W u J _ _ h hfm hfb)
  have HBD : Hid (∀ x, PFix (findM data) x → x.length ≤ 100000000) := hid (fun x hx => by
    have h1 := hx.1.len
    have h2 := toksBits_len (lit := fixL) (dist := fixD) (key_le fix_ok.lit.le) (key_le fix_ok.le) (findM data) (fun t ht => tokIn hfm (fix_toks hfm hfb) t ht)
    have h3 := measT_count hfm
    have h4 := key_le fix_ok.lit.le 256
    have h5 : (fixBits (findM data)).length = 3 + ((findM data).flatMap (tokBits fixL fixD)).length + key fixL 256 := by
      unfold fixBits
      simp only [List.length_append, rowOf_length, List.length_cons, List.length_nil]
      omega
    omega)
  clear hs hb hfm hfb hn
  go_enter Tryz.func15, Tryz.ntmps15
  go_wp2_with fail
  refine HF.mono ?_
  rintro e w1 ⟨v1, rfl, hr1, hk1⟩
  have HK1 : Hid (Same w w1) := hk1
  have HX1 := HX.out w1 v1 _ (SrcC.ofRow tkC_ok hr1)
  have hshape : ∃ a n c, v1 = .slice a n c := by
    obtain ⟨a, c, e, _⟩ := SrcC.ofRow tkC_ok hr1
    exact ⟨a, _, c, e⟩
  obtain ⟨a1, n1, c1, rfl⟩ := hshape
  clear hr1 hk1 HF HX
  go_wp2_with fail
  refine HX1.mono ?_
  rintro e w2 ⟨v2, x, rfl, hn2, hp2⟩
  have HK2 : Hid (Same w w2) := hid (Same.trans HK1.out hn2.same)
  have HP2 : Hid (PFix (findM data) x) := hp2
  have hxl := HBD.out x hp2
  obtain ⟨a2, c2, hv2, _⟩ := hn2.row.shape
  obtain ⟨L, hL⟩ : ∃ L, L = x.length := ⟨_, rfl⟩
  rw [← hL] at hv2 hxl
  subst hv2
  have HLX : Hid (L = x.length) := hL
  obtain ⟨mi, hmi⟩ : ∃ m, m = min (n + 5) L := ⟨_, rfl⟩
  have hmI : min ((n : Int) + 5) (L : Int) = (mi : Int) := by omega
  have HMI : Hid (mi = min (n + 5) L) := hmi
  clear hn2 hp2 HX1 hL hmi
  go_wp2_with fail
  go_ret
  exact ⟨x, by rw [← HLX.out, ← HMI.out]; rfl, HP2.out, HK2.out⟩

set_option maxRecDepth 100000 in
set_option maxHeartbeats 400000 in
theorem unpacked_any (w : World) (v vw : Value) (I J : Nat → Prop) (bs want : List Nat) (hv : Src w I v bs) (hw : Src w J vw want) (hb : ∀ b ∈ bs, b < 256) (hl : bs.length ≤ 100000) (hwl : want.length ≤ 100000) (t : Ps) (he : Ends (ofBytes bs) 16384 ps0 t 0) (ho : t.out = want) (hc : (t.c + 7) / 8 = bs.length) :
    Calls Tryz.prog 14 #[v, vw] w fun e w' => e = .returned (.bool true) ∧ Same w w' := by
  have HI := rinfl_any w v I bs 16384 hv hb hl (Nat.le_refl _)
  obtain ⟨av, cv, hvv, _⟩ := id hv
  obtain ⟨n, hn⟩ : ∃ n, bs.length = n := ⟨_, rfl⟩
  rw [hn] at hvv hc
  subst hvv
  obtain ⟨aw, cw, hww, _⟩ := id hw
  obtain ⟨m, hm⟩ : ∃ m, want.length = m := ⟨_, rfl⟩
  rw [hm] at hww
  subst hww
  have HE : Hid (Ends (ofBytes bs) 16384 ps0 t 0 ∧ t.out = want ∧ (t.c + 7) / 8 = n) := hid ⟨he, ho, hc⟩
  have HW : Hid (Src w J (.slice aw m cw) want ∧ want.length ≤ 100000) := hid ⟨hw, hwl⟩
  clear hv hw hb hl hwl he ho hc hn hm
  go_enter Tryz.func14, Tryz.ntmps14
  go_wp2_with fail
  refine HI.mono ?_
  rintro x w1 hi
  obtain ⟨v1, rfl, hr1, _, hk1⟩ := hi.is HE.out.1
  rw [HE.out.2.2]
  rw [HE.out.2.1] at hr1
  have HK1 : Hid (Same w w1) := hk1
  have HKB := keepBytes_same w1 v1 (.slice aw m cw) _ _ want (Src.ofRow hr1) (HW.out.1.kept hk1 (fun _ _ _ f => f)) (by have := HW.out.2; omega)
  obtain ⟨a1, c1, hv1, _⟩ := hr1.shape
  subst hv1
  clear hi hr1 hk1 HI
  go_wp2_with fail
  refine HKB.mono ?_
  rintro x w2 ⟨rfl, hk2⟩
  have HK2 : Hid (Same w w2) := hid (Same.trans HK1.out hk2)
  clear hk2 HKB
  go_wp2_with fail
  go_ret
  exact ⟨rfl, HK2.out⟩

end Go.Proofs.YtggcbnhckcenmaaGreatDoor
