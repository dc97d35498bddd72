import Derived.Test.YtljlmfnbeofmmaaGreatDoorHChk
import Derived.Laws.BitsAllLaws
namespace Go.Proofs.YtljlmfnbeofmmaaGreatDoor
open Go.RowKit

def sw (s m x : Nat) : Nat := (x / 2 ^ s &&& m) ||| ((x &&& m) * 2 ^ s % 4294967296)

def swAt (s i : Nat) : Nat := if i % (2 * s) < s then i + s else i - s

theorem sw_bit (s m x i : Nat) (hi : i < 32) (hs : s = 1 ∨ s = 2 ∨ s = 4 ∨ s = 8) (hm : ∀ j, j < 32 → m.testBit j = decide (j % (2 * s) < s)) : (sw s m x).testBit i = x.testBit (swAt s i) := by
 unfold sw swAt
 rw [Nat.testBit_or, Nat.testBit_and, Nat.testBit_div_two_pow, show (4294967296 : Nat) = 2 ^ 32 by rfl, Nat.testBit_mod_two_pow, Nat.testBit_mul_two_pow, Nat.testBit_and, hm i hi]
 by_cases h : i % (2 * s) < s
 ·have h2 : ¬ (s ≤ i ∧ (i - s) % (2 * s) < s) := by rcases hs with rfl | rfl | rfl | rfl <;> omega
  by_cases h3 : s ≤ i
  ·rw [hm (i - s) (by omega)]
   have h4 : ¬ (i - s) % (2 * s) < s := fun h => h2 ⟨h3, h⟩
   simp [h, h4]
  ·simp [h, h3]
 ·have h2 : s ≤ i ∧ (i - s) % (2 * s) < s := by rcases hs with rfl | rfl | rfl | rfl <;> omega
  rw [hm (i - s) (by omega)]
  simp [h, h2.1, h2.2, hi]

theorem sw_lt (s m x : Nat) (hx : x < 4294967296) : sw s m x < 4294967296 := by
 unfold sw
 rw [show (4294967296 : Nat) = 2 ^ 32 by rfl] at *
 refine Nat.or_lt_two_pow ?_ (Nat.mod_lt _ (by decide))
 exact Nat.lt_of_le_of_lt Nat.and_le_left (Nat.lt_of_le_of_lt (Nat.div_le_self _ _) hx)

def half (x : Nat) : Nat := x / 2 ^ 16 ||| x * 2 ^ 16 % 4294967296

theorem half_bit (x i : Nat) (hi : i < 32) (hx : x < 4294967296) : (half x).testBit i = x.testBit (if i < 16 then i + 16 else i - 16) := by
 unfold half
 rw [Nat.testBit_or, Nat.testBit_div_two_pow, show (4294967296 : Nat) = 2 ^ 32 by rfl, Nat.testBit_mod_two_pow, Nat.testBit_mul_two_pow]
 by_cases h : i < 16
 ·simp [h, show ¬ 16 ≤ i by omega]
 ·have hz : x.testBit (i + 16) = false := Nat.testBit_lt_two_pow (Nat.lt_of_lt_of_le hx (Nat.pow_le_pow_right (n := 2) (by omega) (show 32 ≤ i + 16 by omega)))
  simp [h, show 16 ≤ i by omega, hi, hz]

def rev32 (x : Nat) : Nat := half (sw 8 16711935 (sw 4 252645135 (sw 2 858993459 (sw 1 1431655765 x))))

theorem rev32_bit (x i : Nat) (hi : i < 32) (hx : x < 4294967296) : (rev32 x).testBit i = x.testBit (31 - i) := by
 unfold rev32
 have e : ∀ i, i < 32 → swAt 1 (swAt 2 (swAt 4 (swAt 8 (if i < 16 then i + 16 else i - 16)))) = 31 - i := by decide
 have l0 : ∀ i, i < 32 → (if i < 16 then i + 16 else i - 16) < 32 := by decide
 have l8 : ∀ i, i < 32 → swAt 8 i < 32 := by decide
 have l4 : ∀ i, i < 32 → swAt 4 i < 32 := by decide
 have l2 : ∀ i, i < 32 → swAt 2 i < 32 := by decide
 rw [half_bit _ i hi (sw_lt _ _ _ (sw_lt _ _ _ (sw_lt _ _ _ (sw_lt _ _ _ hx)))),
  sw_bit 8 _ _ _ (l0 i hi) (by omega) (by decide), sw_bit 4 _ _ _ (l8 _ (l0 i hi)) (by omega) (by decide), sw_bit 2 _ _ _ (l4 _ (l8 _ (l0 i hi))) (by omega) (by decide),
  sw_bit 1 _ _ _ (l2 _ (l4 _ (l8 _ (l0 i hi)))) (by omega) (by decide), e i hi]

theorem half_lt (x : Nat) (hx : x < 4294967296) : half x < 4294967296 := by
 unfold half
 rw [show (4294967296 : Nat) = 2 ^ 32 by rfl] at *
 exact Nat.or_lt_two_pow (Nat.lt_of_le_of_lt (Nat.div_le_self _ _) hx) (Nat.mod_lt _ (by decide))

theorem rev32_lt (x : Nat) (hx : x < 4294967296) : rev32 x < 4294967296 := half_lt _ (sw_lt _ _ _ (sw_lt _ _ _ (sw_lt _ _ _ (sw_lt _ _ _ hx))))

def rv : Nat → Nat → Nat
 | 0, _ => 0
 | n + 1, c => c % 2 * 2 ^ n + rv n (c / 2)

theorem rv_lt (n c : Nat) : rv n c < 2 ^ n := by
 induction n generalizing c with
 | zero => simp [rv]
 | succ n ih =>
  have h1 := ih (c / 2)
  have h2 : c % 2 * 2 ^ n ≤ 1 * 2 ^ n := Nat.mul_le_mul_right _ (by omega)
  simp only [rv, Nat.pow_succ]
  omega

theorem rv_bit (n c k : Nat) : (rv n c).testBit k = (decide (k < n) && c.testBit (n - 1 - k)) := by
 induction n generalizing c k with
 | zero => simp [rv]
 | succ n ih =>
  simp only [rv]
  rw [Nat.mul_comm, Nat.testBit_two_pow_mul_add _ (rv_lt n (c / 2)), ih]
  by_cases h : k < n
  ·rw [if_pos h, Nat.testBit_div_two]
   simp [h, show k < n + 1 by omega, show n - 1 - k + 1 = n - k by omega]
  ·rw [if_neg h]
   by_cases h2 : k = n
   ·subst h2
    simp [Nat.testBit_zero]
   ·have : (c % 2).testBit (k - n) = false := Nat.testBit_lt_two_pow (Nat.lt_of_lt_of_le (Nat.mod_lt _ (by decide)) (by
     have := Nat.pow_le_pow_right (n := 2) (by omega) (show 1 ≤ k - n by omega); omega))
    rw [this]; simp; omega

theorem rev32_rv (x n : Nat) (hx : x < 4294967296) (hn : n ≤ 32) : rev32 x / 2 ^ (32 - n) = rv n x := by
 refine Nat.eq_of_testBit_eq (fun k => ?_)
 rw [Nat.testBit_div_two_pow, rv_bit]
 by_cases h : k < n
 ·rw [rev32_bit x _ (by omega) hx]
  simp [h, show 31 - (k + (32 - n)) = n - 1 - k by omega]
 ·have : (rev32 x).testBit (k + (32 - n)) = false := Nat.testBit_lt_two_pow (Nat.lt_of_lt_of_le (rev32_lt x hx) (Nat.pow_le_pow_right (n := 2) (by omega) (show 32 ≤ k + (32 - n) by omega)))
  rw [this]; simp [h]

theorem sw_int (s m x : Nat) (hx : x < 4294967296) (hm : m < 4294967296) (_hs : s ≤ 8) :
  bits .or .u32 (bits .and .u32 ((x : Int) / 2 ^ s) (m : Int)) (bits .and .u32 (x : Int) (m : Int) * 2 ^ s % 4294967296) = ((sw s m x : Nat) : Int) := by
 have e1 : ((x : Int) / 2 ^ s) = ((x / 2 ^ s : Nat) : Int) := by simp
 have hd : x / 2 ^ s < 4294967296 := Nat.lt_of_le_of_lt (Nat.div_le_self _ _) hx
 rw [e1, u32_and_nat _ _ hd hm, u32_and_nat _ _ hx hm]
 have e2 : ((x &&& m : Nat) : Int) * 2 ^ s % 4294967296 = (((x &&& m) * 2 ^ s % 4294967296 : Nat) : Int) := by simp
 rw [e2, u32_or_nat _ _ (Nat.lt_of_le_of_lt Nat.and_le_left hd) (Nat.mod_lt _ (by decide))]
 rfl

set_option maxHeartbeats 1000000 in
theorem revBytes_any (w : World) (x : Nat) (hx : x < 4294967296) : Calls Tryz.prog 219 #[.int .u32 (x : Nat)] w fun e w' => e = .returned (.int .u32 ((half (sw 8 16711935 x) : Nat) : Int)) ∧ w' = w := by
 obtain ⟨y, hy⟩ : ∃ y, y = sw 8 16711935 x := ⟨_, rfl⟩
 have hyl : y < 4294967296 := by rw [hy]; exact sw_lt 8 16711935 x hx
 have e1 : bits .or .u32 (bits .and .u32 ((x : Int) / 256) 16711935) (bits .and .u32 (x : Int) 16711935 * 256 % 4294967296) = (y : Int) := by
  have h := sw_int 8 16711935 x hx (by decide) (by decide)
  rw [← hy] at h
  exact h
 have e2 : bits .or .u32 ((y : Int) / 65536) ((y : Int) * 65536 % 4294967296) = ((half y : Nat) : Int) := by
  have d1 : (y : Int) / 65536 = ((y / 2 ^ 16 : Nat) : Int) := by omega
  have d2 : (y : Int) * 65536 % 4294967296 = ((y * 2 ^ 16 % 4294967296 : Nat) : Int) := by omega
  rw [d1, d2, u32_or_nat _ _ (Nat.lt_of_le_of_lt (Nat.div_le_self _ _) hyl) (Nat.mod_lt _ (by decide))]
  rfl
 have HY : Hid (y = sw 8 16711935 x) := hy
 clear hy hyl hx
 go_enter Tryz.func219, Tryz.ntmps219
 go_wp2_with fail
 go_ret
 exact ⟨by rw [← HY.out]; rfl, rfl⟩

set_option maxHeartbeats 1000000 in
theorem reverse_any (w : World) (x : Nat) (hx : x < 4294967296) : Calls Tryz.prog 183 #[.int .u32 (x : Nat)] w fun e w' => e = .returned (.int .u32 ((rev32 x : Nat) : Int)) ∧ w' = w := by
 obtain ⟨y, hy⟩ : ∃ y, y = sw 1 1431655765 x := ⟨_, rfl⟩
 have hyl : y < 4294967296 := by rw [hy]; exact sw_lt 1 1431655765 x hx
 obtain ⟨z, hz⟩ : ∃ z, z = sw 2 858993459 y := ⟨_, rfl⟩
 have hzl : z < 4294967296 := by rw [hz]; exact sw_lt 2 858993459 y hyl
 obtain ⟨t, ht⟩ : ∃ t, t = sw 4 252645135 z := ⟨_, rfl⟩
 have htl : t < 4294967296 := by rw [ht]; exact sw_lt 4 252645135 z hzl
 have e1 : bits .or .u32 (bits .and .u32 ((x : Int) / 2) 1431655765) (bits .and .u32 (x : Int) 1431655765 * 2 % 4294967296) = (y : Int) := by
  have h := sw_int 1 1431655765 x hx (by decide) (by decide)
  rw [← hy] at h
  exact h
 have e2 : bits .or .u32 (bits .and .u32 ((y : Int) / 4) 858993459) (bits .and .u32 (y : Int) 858993459 * 4 % 4294967296) = (z : Int) := by
  have h := sw_int 2 858993459 y hyl (by decide) (by decide)
  rw [← hz] at h
  exact h
 have e3 : bits .or .u32 (bits .and .u32 ((z : Int) / 16) 252645135) (bits .and .u32 (z : Int) 252645135 * 16 % 4294967296) = (t : Int) := by
  have h := sw_int 4 252645135 z hzl (by decide) (by decide)
  rw [← ht] at h
  exact h
 have HC := revBytes_any w t htl
 have HV : Hid (rev32 x = half (sw 8 16711935 t)) := hid (by rw [rev32, ← hy, ← hz, ← ht])
 generalize half (sw 8 16711935 t) = r at HC HV
 clear hy hz ht hyl hzl htl hx
 go_enter Tryz.func183, Tryz.ntmps183
 go_wp2_with fail
 refine HC.mono ?_
 rintro e w2 ⟨rfl, rfl⟩
 clear HC
 go_wp2_with fail
 go_ret
 exact ⟨by rw [HV.out]; rfl, rfl⟩

end Go.Proofs.YtljlmfnbeofmmaaGreatDoor
