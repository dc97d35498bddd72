/-
  Of the proof: parts HRev, HCode, HDecM.
-/
import Derived.Laws.BitsAllLaws
import Derived.Test.YtljlmfnbeofmmaaGreatDoorJ7

namespace Go.Proofs.YtljlmfnbeofmmaaGreatDoor
open Go.RowKit

def sw (s m x : Nat) : Nat := (x / 2 ^ s &&& m) ||| ((x &&& m) * 2 ^ s % 4294967296)

def swAt (s i : Nat) : Nat := if i % (2 * s) < s then i + s else i - s

theorem sw_bit (s m x i : Nat) (hi : i < 32) (hs : s = 1 ∨ s = 2 ∨ s = 4 ∨ s = 8) (hm : ∀ j, j < 32 → m.testBit j = decide (j % (2 * s) < s)) : (sw s m x).testBit i = x.testBit (swAt s i) := by
 unfold sw swAt
 rw [Nat.testBit_or, Nat.testBit_and, Nat.testBit_div_two_pow, show (4294967296 : Nat) = 2 ^ 32 by rfl, Nat.testBit_mod_two_pow, Nat.testBit_mul_two_pow, Nat.testBit_and, hm i hi]
 by_cases h : i % (2 * s) < s
 ·have h2 : ¬ (s ≤ i ∧ (i - s) % (2 * s) < s) := by rcases hs with rfl | rfl | rfl | rfl <;> omega
  by_cases h3 : s ≤ i
  ·rw [hm (i - s) (by omega)]
   have h4 : ¬ (i - s) % (2 * s) < s := fun h => h2 ⟨h3, h⟩
   simp [h, h4]
  ·simp [h, h3]
 ·have h2 : s ≤ i ∧ (i - s) % (2 * s) < s := by rcases hs with rfl | rfl | rfl | rfl <;> omega
  rw [hm (i - s) (by omega)]
  simp [h, h2.1, h2.2, hi]

theorem sw_lt (s m x : Nat) (hx : x < 4294967296) : sw s m x < 4294967296 := by
 unfold sw
 rw [show (4294967296 : Nat) = 2 ^ 32 by rfl] at *
 refine Nat.or_lt_two_pow ?_ (Nat.mod_lt _ (by decide))
 exact Nat.lt_of_le_of_lt Nat.and_le_left (Nat.lt_of_le_of_lt (Nat.div_le_self _ _) hx)

def half (x : Nat) : Nat := x / 2 ^ 16 ||| x * 2 ^ 16 % 4294967296

theorem half_bit (x i : Nat) (hi : i < 32) (hx : x < 4294967296) : (half x).testBit i = x.testBit (if i < 16 then i + 16 else i - 16) := by
 unfold half
 rw [Nat.testBit_or, Nat.testBit_div_two_pow, show (4294967296 : Nat) = 2 ^ 32 by rfl, Nat.testBit_mod_two_pow, Nat.testBit_mul_two_pow]
 by_cases h : i < 16
 ·simp [h, show ¬ 16 ≤ i by omega]
 ·have hz : x.testBit (i + 16) = false := Nat.testBit_lt_two_pow (Nat.lt_of_lt_of_le hx (Nat.pow_le_pow_right (n := 2) (by omega) (show 32 ≤ i + 16 by omega)))
  simp [h, show 16 ≤ i by omega, hi, hz]

def rev32 (x : Nat) : Nat := half (sw 8 16711935 (sw 4 252645135 (sw 2 858993459 (sw 1 1431655765 x))))

theorem rev32_bit (x i : Nat) (hi : i < 32) (hx : x < 4294967296) : (rev32 x).testBit i = x.testBit (31 - i) := by
 unfold rev32
 have e : ∀ i, i < 32 → swAt 1 (swAt 2 (swAt 4 (swAt 8 (if i < 16 then i + 16 else i - 16)))) = 31 - i := by decide
 have l0 : ∀ i, i < 32 → (if i < 16 then i + 16 else i - 16) < 32 := by decide
 have l8 : ∀ i, i < 32 → swAt 8 i < 32 := by decide
 have l4 : ∀ i, i < 32 → swAt 4 i < 32 := by decide
 have l2 : ∀ i, i < 32 → swAt 2 i < 32 := by decide
 rw [half_bit _ i hi (sw_lt _ _ _ (sw_lt _ _ _ (sw_lt _ _ _ (sw_lt _ _ _ hx)))),
  sw_bit 8 _ _ _ (l0 i hi) (by omega) (by decide), sw_bit 4 _ _ _ (l8 _ (l0 i hi)) (by omega) (by decide), sw_bit 2 _ _ _ (l4 _ (l8 _ (l0 i hi))) (by omega) (by decide),
  sw_bit 1 _ _ _ (l2 _ (l4 _ (l8 _ (l0 i hi)))) (by omega) (by decide), e i hi]

theorem half_lt (x : Nat) (hx : x < 4294967296) : half x < 4294967296 := by
 unfold half
 rw [show (4294967296 : Nat) = 2 ^ 32 by rfl] at *
 exact Nat.or_lt_two_pow (Nat.lt_of_le_of_lt (Nat.div_le_self _ _) hx) (Nat.mod_lt _ (by decide))

theorem rev32_lt (x : Nat) (hx : x < 4294967296) : rev32 x < 4294967296 := half_lt _ (sw_lt _ _ _ (sw_lt _ _ _ (sw_lt _ _ _ (sw_lt _ _ _ hx))))

def rv : Nat → Nat → Nat
 | 0, _ => 0
 | n + 1, c => c % 2 * 2 ^ n + rv n (c / 2)

theorem rv_lt (n c : Nat) : rv n c < 2 ^ n := by
 induction n generalizing c with
 | zero => simp [rv]
 | succ n ih =>
  have h1 := ih (c / 2)
  have h2 : c % 2 * 2 ^ n ≤ 1 * 2 ^ n := Nat.mul_le_mul_right _ (by omega)
  simp only [rv, Nat.pow_succ]
  omega

theorem rv_bit (n c k : Nat) : (rv n c).testBit k = (decide (k < n) && c.testBit (n - 1 - k)) := by
 induction n generalizing c k with
 | zero => simp [rv]
 | succ n ih =>
  simp only [rv]
  rw [Nat.mul_comm, Nat.testBit_two_pow_mul_add _ (rv_lt n (c / 2)), ih]
  by_cases h : k < n
  ·rw [if_pos h, Nat.testBit_div_two]
   simp [h, show k < n + 1 by omega, show n - 1 - k + 1 = n - k by omega]
  ·rw [if_neg h]
   by_cases h2 : k = n
   ·subst h2
    simp [Nat.testBit_zero]
   ·have : (c % 2).testBit (k - n) = false := Nat.testBit_lt_two_pow (Nat.lt_of_lt_of_le (Nat.mod_lt _ (by decide)) (by
     have := Nat.pow_le_pow_right (n := 2) (by omega) (show 1 ≤ k - n by omega); omega))
    rw [this]; simp; omega

theorem rev32_rv (x n : Nat) (hx : x < 4294967296) (hn : n ≤ 32) : rev32 x / 2 ^ (32 - n) = rv n x := by
 refine Nat.eq_of_testBit_eq (fun k => ?_)
 rw [Nat.testBit_div_two_pow, rv_bit]
 by_cases h : k < n
 ·rw [rev32_bit x _ (by omega) hx]
  simp [h, show 31 - (k + (32 - n)) = n - 1 - k by omega]
 ·have : (rev32 x).testBit (k + (32 - n)) = false := Nat.testBit_lt_two_pow (Nat.lt_of_lt_of_le (rev32_lt x hx) (Nat.pow_le_pow_right (n := 2) (by omega) (show 32 ≤ k + (32 - n) by omega)))
  rw [this]; simp [h]

theorem sw_int (s m x : Nat) (hx : x < 4294967296) (hm : m < 4294967296) (_hs : s ≤ 8) :
  bits .or .u32 (bits .and .u32 ((x : Int) / 2 ^ s) (m : Int)) (bits .and .u32 (x : Int) (m : Int) * 2 ^ s % 4294967296) = ((sw s m x : Nat) : Int) := by
 have e1 : ((x : Int) / 2 ^ s) = ((x / 2 ^ s : Nat) : Int) := by simp
 have hd : x / 2 ^ s < 4294967296 := Nat.lt_of_le_of_lt (Nat.div_le_self _ _) hx
 rw [e1, u32_and_nat _ _ hd hm, u32_and_nat _ _ hx hm]
 have e2 : ((x &&& m : Nat) : Int) * 2 ^ s % 4294967296 = (((x &&& m) * 2 ^ s % 4294967296 : Nat) : Int) := by simp
 rw [e2, u32_or_nat _ _ (Nat.lt_of_le_of_lt Nat.and_le_left hd) (Nat.mod_lt _ (by decide))]
 rfl

set_option maxHeartbeats 1000000 in
theorem revBytes_any (w : World) (x : Nat) (hx : x < 4294967296) : Calls Tryz.prog 219 #[.int .u32 (x : Nat)] w fun e w' => e = .returned (.int .u32 ((half (sw 8 16711935 x) : Nat) : Int)) ∧ w' = w := by
 obtain ⟨y, hy⟩ : ∃ y, y = sw 8 16711935 x := ⟨_, rfl⟩
 have hyl : y < 4294967296 := by rw [hy]; exact sw_lt 8 16711935 x hx
 have e1 : bits .or .u32 (bits .and .u32 ((x : Int) / 256) 16711935) (bits .and .u32 (x : Int) 16711935 * 256 % 4294967296) = (y : Int) := by
  have h := sw_int 8 16711935 x hx (by decide) (by decide)
  rw [← hy] at h
  exact h
 have e2 : bits .or .u32 ((y : Int) / 65536) ((y : Int) * 65536 % 4294967296) = ((half y : Nat) : Int) := by
  have d1 : (y : Int) / 65536 = ((y / 2 ^ 16 : Nat) : Int) := by omega
  have d2 : (y : Int) * 65536 % 4294967296 = ((y * 2 ^ 16 % 4294967296 : Nat) : Int) := by omega
  rw [d1, d2, u32_or_nat _ _ (Nat.lt_of_le_of_lt (Nat.div_le_self _ _) hyl) (Nat.mod_lt _ (by decide))]
  rfl
 have HY : Hid (y = sw 8 16711935 x) := hy
 clear hy hyl hx
 go_enter Tryz.func219, Tryz.ntmps219
 go_wp2_with fail
 go_ret
 exact ⟨by rw [← HY.out]; rfl, rfl⟩

set_option maxHeartbeats 1000000 in
theorem reverse_any (w : World) (x : Nat) (hx : x < 4294967296) : Calls Tryz.prog 183 #[.int .u32 (x : Nat)] w fun e w' => e = .returned (.int .u32 ((rev32 x : Nat) : Int)) ∧ w' = w := by
 obtain ⟨y, hy⟩ : ∃ y, y = sw 1 1431655765 x := ⟨_, rfl⟩
 have hyl : y < 4294967296 := by rw [hy]; exact sw_lt 1 1431655765 x hx
 obtain ⟨z, hz⟩ : ∃ z, z = sw 2 858993459 y := ⟨_, rfl⟩
 have hzl : z < 4294967296 := by rw [hz]; exact sw_lt 2 858993459 y hyl
 obtain ⟨t, ht⟩ : ∃ t, t = sw 4 252645135 z := ⟨_, rfl⟩
 have htl : t < 4294967296 := by rw [ht]; exact sw_lt 4 252645135 z hzl
 have e1 : bits .or .u32 (bits .and .u32 ((x : Int) / 2) 1431655765) (bits .and .u32 (x : Int) 1431655765 * 2 % 4294967296) = (y : Int) := by
  have h := sw_int 1 1431655765 x hx (by decide) (by decide)
  rw [← hy] at h
  exact h
 have e2 : bits .or .u32 (bits .and .u32 ((y : Int) / 4) 858993459) (bits .and .u32 (y : Int) 858993459 * 4 % 4294967296) = (z : Int) := by
  have h := sw_int 2 858993459 y hyl (by decide) (by decide)
  rw [← hz] at h
  exact h
 have e3 : bits .or .u32 (bits .and .u32 ((z : Int) / 16) 252645135) (bits .and .u32 (z : Int) 252645135 * 16 % 4294967296) = (t : Int) := by
  have h := sw_int 4 252645135 z hzl (by decide) (by decide)
  rw [← ht] at h
  exact h
 have HC := revBytes_any w t htl
 have HV : Hid (rev32 x = half (sw 8 16711935 t)) := hid (by rw [rev32, ← hy, ← hz, ← ht])
 generalize half (sw 8 16711935 t) = r at HC HV
 clear hy hz ht hyl hzl htl hx
 go_enter Tryz.func183, Tryz.ntmps183
 go_wp2_with fail
 refine HC.mono ?_
 rintro e w2 ⟨rfl, rfl⟩
 clear HC
 go_wp2_with fail
 go_ret
 exact ⟨by rw [HV.out]; rfl, rfl⟩

end Go.Proofs.YtljlmfnbeofmmaaGreatDoor

namespace Go.Proofs.YtljlmfnbeofmmaaGreatDoor
open Go.RowKit

def uk (ns : List Nat) (s : Nat) : Nat := unit (key ns s)

def startOf (ns : List Nat) (s : Nat) : Nat := (((ris ns).filter (fun t => decide (Lt ns t s))).map (uk ns)).sum

def sumTo (ns : List Nat) (k : Nat) : Nat := (((ris ns).take k).map (uk ns)).sum

theorem sumTo_succ (ns : List Nat) (k : Nat) (h : k < (ris ns).length) : sumTo ns (k + 1) = sumTo ns k + uk ns (ris ns)[k] := by
 unfold sumTo
 rw [List.take_succ_eq_append_getElem h, List.map_append, List.sum_append]
 simp only [List.map_cons, List.map_nil, List.sum_cons, List.sum_nil, Nat.add_zero]

theorem start_at (ns : List Nat) (k : Nat) (h : k < (ris ns).length) : startOf ns (ris ns)[k] = sumTo ns k := by
 unfold startOf sumTo
 congr 2
 have hs := ris_sorted ns
 have hsplit : (ris ns) = (ris ns).take k ++ (ris ns)[k] :: (ris ns).drop (k + 1) := by
  rw [← List.drop_eq_getElem_cons h, List.take_append_drop]
 generalize (ris ns)[k] = x at *
 generalize hA : (ris ns).take k = A at *
 generalize (ris ns).drop (k + 1) = B at *
 rw [hsplit] at hs ⊢
 rw [List.filter_append, List.filter_cons_of_neg (by simp [Lt.irrefl])]
 have h1 : A.filter (fun t => decide (Lt ns t x)) = A := List.filter_eq_self.2 (fun a ha => by simpa using Sorted.cross hs a ha x (by simp))
 have h2 : B.filter (fun t => decide (Lt ns t x)) = [] := List.filter_eq_nil_iff.2 (fun b hb => by
  have := (List.pairwise_cons.1 (Sorted.right hs)).1 b hb
  simpa using this.asymm)
 rw [h1, h2, List.append_nil]

theorem usedTo_sum (ns : List Nat) (i : Nat) (hi : i ≤ ns.length) : ((usedTo ns i).map (uk ns)).sum = measure (ns.take i) := by
 induction i with
 | zero => simp [usedTo, measure]
 | succ i ih =>
  have hlt : i < ns.length := hi
  rw [usedTo_succ, List.map_append, List.sum_append, ih (by omega), List.take_succ_eq_append_getElem hlt, measure_snoc, ← key_get hlt]
  congr 1
  by_cases h : key ns i = 0
  ·simp [h, unit]
  ·simp [h, uk]

theorem sum_perm {a b : List Nat} (f : Nat → Nat) (h : a.Perm b) : (a.map f).sum = (b.map f).sum := (h.map f).sum_nat

theorem sumTo_all (ns : List Nat) : sumTo ns (ris ns).length = measure ns := by
 unfold sumTo
 rw [List.take_of_length_le (Nat.le_refl _), sum_perm _ (ris_perm ns)]
 have := usedTo_sum ns ns.length (Nat.le_refl _)
 rw [List.take_of_length_le (Nat.le_refl _)] at this
 exact this

theorem sumTo_mono (ns : List Nat) (k : Nat) : sumTo ns k ≤ measure ns := by
 rw [← sumTo_all]
 unfold sumTo
 rw [List.take_of_length_le (Nat.le_refl _)]
 conv => rhs; rw [← List.take_append_drop k (ris ns)]
 rw [List.map_append, List.sum_append]
 omega

theorem dvd_list (d : Nat) (l : List Nat) (h : ∀ x ∈ l, d ∣ x) : d ∣ l.sum := by
 induction l with
 | nil => simp
 | cons a r ih =>
  rw [List.sum_cons]
  exact Nat.dvd_add (h a (by simp)) (ih (fun x hx => h x (List.mem_cons_of_mem _ hx)))

def codeOf (ns : List Nat) (s : Nat) : Nat := startOf ns s / 2 ^ (15 - key ns s)

theorem code_start (ns : List Nat) (s : Nat) : codeOf ns s * 2 ^ (15 - key ns s) = startOf ns s := by
 refine Nat.div_mul_cancel (dvd_list _ _ (fun x hx => ?_))
 obtain ⟨t, ht, rfl⟩ := List.mem_map.1 hx
 have hlt : Lt ns t s := by simpa using (List.mem_filter.1 ht).2
 have h0 := (mem_ris.1 (List.mem_filter.1 ht).1).2
 unfold uk unit
 rw [if_neg h0]
 exact Nat.pow_dvd_pow 2 (by unfold Lt at hlt; omega)

def cdOf (ns : List Nat) (s : Nat) : Nat := if key ns s = 0 then 0 else rv (key ns s) (codeOf ns s)

def codesL (ns : List Nat) : List Nat := (List.range ns.length).map (cdOf ns)

theorem codesL_length (ns : List Nat) : (codesL ns).length = ns.length := by simp [codesL]

def outAt (ns : List Nat) (k : Nat) : List Nat := (List.range ns.length).map (fun s => if s ∈ (ris ns).take k then cdOf ns s else 0)

theorem outAt_zero (ns : List Nat) : outAt ns 0 = List.replicate ns.length 0 := by
 unfold outAt
 simp [List.map_const']

theorem outAt_all (ns : List Nat) : outAt ns (ris ns).length = codesL ns := by
 unfold outAt codesL
 rw [List.take_of_length_le (Nat.le_refl _)]
 refine List.map_congr_left (fun s hs => ?_)
 by_cases h : s ∈ ris ns
 ·rw [if_pos h]
 ·rw [if_neg h]
  have : key ns s = 0 := by
   have h2 := mt mem_ris.2 h
   simp at hs
   exact Classical.byContradiction (fun h3 => h2 ⟨hs, h3⟩)
  simp [cdOf, this]

theorem outAt_succ (ns : List Nat) (k : Nat) (h : k < (ris ns).length) : (outAt ns k).set (ris ns)[k] (cdOf ns (ris ns)[k]) = outAt ns (k + 1) := by
 unfold outAt
 refine List.ext_getElem (by simp) (fun j h1 h2 => ?_)
 have hm : j ∈ (ris ns).take (k + 1) ↔ j ∈ (ris ns).take k ∨ j = (ris ns)[k] := by rw [List.take_succ_eq_append_getElem h, List.mem_append, List.mem_singleton]
 simp only [List.getElem_set, List.getElem_map, List.getElem_range, hm]
 by_cases e : (ris ns)[k] = j
 ·subst e; simp
 ·have e2 : ¬ j = (ris ns)[k] := fun h => e h.symm
  simp [e, e2]

theorem outAt_length (ns : List Nat) (k : Nat) : (outAt ns k).length = ns.length := by simp [outAt]

example : codesL [2, 1, 3, 3] = [1, 0, 3, 7] := by decide

structure Good (zs : List Int) (ns : List Nat) : Prop where
 eq : ns.map natV = zs.map intV
 len : ns.length = zs.length
 pos : 0 < ns.length
 max : ns.length ≤ 288
 le : ∀ n ∈ ns, n ≤ 15
 ok : chkN ns = 0
 int : zs = ns.map (fun (n : Nat) => (n : Int))

theorem good_of {zs : List Int} (h : chk zs = 0) : Good zs (zs.map Int.toNat) := by
 unfold chk at h
 split at h
 ·rename_i hok
  obtain ⟨e, h1, h2, h3⟩ := okAll_nat hok
  refine ⟨e, by simp, by simpa using h1, by simpa using h2, fun n hn => by have := h3 n hn; omega, h, ?_⟩
  have e2 := congrArg (List.map (fun v : Value => match v with | .int _ z => z | _ => 0)) e
  simp only [List.map_map] at e2
  rw [List.map_map]
  have e3 : zs.map ((fun v : Value => match v with | .int _ z => z | _ => 0) ∘ intV) = zs := by
   conv => rhs; rw [← List.map_id zs]
   refine List.map_congr_left (fun z _ => rfl)
  rw [e3] at e2
  exact e2.symm.trans (List.map_congr_left (fun z _ => rfl))
 ·omega

theorem Good.measure_le {zs : List Int} {ns : List Nat} (h : Good zs ns) : measure ns ≤ 32768 := by
 have := h.ok
 unfold chkN at this
 split at this
 ·omega
 ·omega

theorem Good.key_le {zs : List Int} {ns : List Nat} (h : Good zs ns) (s : Nat) : key ns s ≤ 15 := by
 by_cases hs : s < ns.length
 ·rw [key_get hs]; exact h.le _ (List.getElem_mem _)
 ·simp [key, hs]

theorem codes_bad (w : World) (v : Value) (I : Nat → Prop) (zs : List Int) (hs : SrcE intV w I v zs) (hn : zs.length ≤ 1000000) (hb : chk zs ≠ 0) :
  Calls Tryz.prog 152 #[v] w fun e w' => e = .returned (.tuple #[.slice none 0 0, .int .i64 (chk zs : Nat)]) ∧ Same w w' := by
 have HC := check_any w v I zs hs hn
 generalize chk zs = c at HC hb
 have hd : ((c : Int) != 0) = true := by simp; omega
 clear hs hb
 go_enter Tryz.func152, Tryz.ntmps152
 go_wp2_with fail
 refine HC.mono ?_
 rintro e w2 ⟨rfl, hk⟩
 have HK : Hid (Same w w2) := hk
 clear hk HC
 go_wp2_with fail
 first
  | (go_ret2; exact ⟨rfl, HK.out⟩)
  | (go_quiet (fail); go_wp2_with fail; go_ret2; exact ⟨rfl, HK.out.drewN _⟩)

set_option maxHeartbeats 2000000 in
theorem codes_good (w : World) (v : Value) (I : Nat → Prop) (zs : List Int) (ns : List Nat) (hs : SrcE intV w I v zs) (hg : Good zs ns) (hb : chk zs = 0) :
  Calls Tryz.prog 152 #[v] w fun e w' => (∃ g n cap, e = .returned (.tuple #[.slice (some ⟨g, 0, none⟩) n cap, .int .i64 0]) ∧ WRow w.heap.size w' (.slice (some ⟨g, 0, none⟩) n cap) (codesL ns)) ∧ Same w w' := by
 obtain ⟨ao, cap, rfl, hx1, hx2⟩ := id hs
 clear hx1 hx2
 have HC := check_any w _ I zs hs (by have := hg.len; have := hg.max; omega)
 rw [hb] at HC
 have HG : Hid (Good zs ns) := hg
 have HS : Hid (SrcE natV w I (.slice ao zs.length cap) ns) := hid (hs.recode hg.eq)
 have HL : Hid (zs.length = ns.length) := hg.len.symm
 have h288 : zs.length ≤ 288 := by have := hg.len; have := hg.max; omega
 clear hs hg hb
 generalize zs.length = n at *
 go_enter Tryz.func152, Tryz.ntmps152
 go_wp2_with fail
 refine HC.mono ?_
 rintro e w2 ⟨rfl, hk⟩
 have HK : Hid (Same w w2) := hk
 clear hk HC
 go_wp2_with (at_make; refine wpList_make_e _ wordV 0 w.heap.size 149 48 4 Tryz.underlying149 Tryz.infoW rfl (by decide) rfl _ _ rfl _ _ _ _ n rfl rfl rfl rfl (by omega) HK.out.size ?_; intro w3 hr3 hg3 hs3)
 have HR3 : Hid (WRow w.heap.size w3 (.slice (some ⟨w2.heap.size, 0, none⟩) n n) (outAt ns 0)) := hid (by rw [outAt_zero, ← HL.out]; exact hr3)
 have HK3 : Hid (Same w2 w3) := hid ((Kept.refl _ w2).grown hg3 (by simp))
 have HK03 : Hid (Same w w3) := hid (HK.out.trans HK3.out)
 have hsz := HK.out.size
 clear hr3 hg3
 have HRI := rising_any w3 _ I ns (HS.out.same HK03.out) (by have := HL.out; omega)
 go_wp2_with fail
 refine HRI.mono ?_
 rintro e w4 ⟨v4, rfl, hn4⟩
 have HN4 : Hid (New w3 w4 v4 (ris ns)) := hn4
 have HK4 : Hid (Kept (· = w2.heap.size) w w4) := hid ((HK03.out.trans hn4.same).mono (fun _ _ h => h.elim))
 have HR4 : Hid (WRow w.heap.size w4 (.slice (some ⟨w2.heap.size, 0, none⟩) n n) (outAt ns 0)) := hid (HR3.out.same hn4.same)
 obtain ⟨ao4, cap4, rfl, hsh4, _⟩ := hn4.row.shape
 have hsz4 := hn4.same.size
 have hls : (ris ns).length ≤ 288 := Nat.le_trans (ris_length ns) (by have := HL.out; omega)
 clear hn4 HRI HR3
 obtain ⟨rl, hrl⟩ : ∃ rl, rl = (ris ns).length := ⟨_, rfl⟩
 have HRL : Hid (rl = (ris ns).length) := hrl
 rw [← hrl] at hls ⊢
 clear hrl hsh4
 go_wp2_with fail
 go_loopg [6, 7, 21] rl (fun q znx zlg zk wr => ∃ (k nx lg : Nat), rl - k ≤ q ∧ k ≤ rl ∧ nx ≤ 32769 ∧ lg ≤ 15 ∧ znx = .int .u32 (nx : Nat) ∧ zlg = .int .i64 (lg : Nat) ∧ zk = .int .i64 (k : Nat) ∧
   Hid (nx * 2 ^ (15 - lg) = sumTo ns k ∧ (k = 0 ∧ lg = 0 ∨ 0 < k ∧ ∃ h : k - 1 < (ris ns).length, lg = key ns (ris ns)[k - 1])) ∧ Hid (WRow w.heap.size wr (.slice (some ⟨w2.heap.size, 0, none⟩) n n) (outAt ns k)) ∧ Hid (Kept (· = w2.heap.size) w4 wr))
 case atStart => exact ⟨0, 0, 0, by omega, by omega, by omega, by omega, rfl, rfl, rfl, hid ⟨by simp [sumTo], .inl ⟨rfl, rfl⟩⟩, HR4.out, Kept.refl _ _⟩
 case round =>
  obtain ⟨k, nx, lg, hq, hk, hnx, hlg, rfl, rfl, rfl, HF, HR5, HK5⟩ := hrel
  clear HR4
  by_cases hlt : k < rl
  ·have hkl : k < (ris ns).length := by have := HRL.out; omega
   have hrow5 : NRow w3.heap.size wr (.slice ao4 (ris ns).length cap4) (ris ns) := HN4.out.row.kept HK5.out (fun j hj e => by have := HN4.out.row.ge hj; omega)
   obtain ⟨b4, o4, cap4', e4, _, _, c4⟩ := (SrcE.ofRow hrow5).get k hkl
   simp only [Value.slice.injEq] at e4
   obtain ⟨rfl, _, rfl⟩ := e4
   obtain ⟨s, hs⟩ : ∃ s, s = (ris ns)[k] := ⟨_, rfl⟩
   rw [← hs] at c4
   unfold natV at c4
   have hsr : s < ns.length ∧ key ns s ≠ 0 := mem_ris.1 (by rw [hs]; exact List.getElem_mem _)
   have hsn : s < n := by have := HL.out; omega
   have hsrc : SrcE natV wr (fun j => I j ∧ j < w.heap.size) (.slice ao n cap) ns := SrcE.kept (SrcE.kept HS.out.low HK4.out (fun j hj _ e => by omega)) HK5.out (fun j hj _ e => by omega)
   obtain ⟨b, o, cap', e5, _, _, c5⟩ := hsrc.get s hsr.1
   simp only [Value.slice.injEq] at e5
   obtain ⟨rfl, hxe, rfl⟩ := e5
   clear hxe
   rw [← key_get hsr.1] at c5
   unfold natV at c5
   obtain ⟨l, hl⟩ : ∃ l, l = key ns s := ⟨_, rfl⟩
   rw [← hl] at c5
   have hl15 : l ≤ 15 := by rw [hl]; exact HG.out.key_le s
   have hl0 : 0 < l := by omega
   have hlgl : lg ≤ l := by
    rcases HF.out.2 with ⟨_, h⟩ | ⟨h0, h1, h2⟩
    ·omega
    ·have := Sorted.at (ris_sorted ns) (show k - 1 < k by omega) hkl
     unfold Lt at this
     rw [h2, hl, hs]; omega
   obtain ⟨nx2, hnx2⟩ : ∃ nx2, nx2 = nx * 2 ^ (l - lg) := ⟨_, rfl⟩
   have hst : nx2 * 2 ^ (15 - l) = sumTo ns k := by
    rw [hnx2, Nat.mul_assoc, ← Nat.pow_add, show l - lg + (15 - l) = 15 - lg by omega]
    exact HF.out.1
   have hnx2l : nx2 ≤ 32768 := by
    have h1 := sumTo_mono ns k
    have h2 := HG.out.measure_le
    have h3 : nx2 * 1 ≤ nx2 * 2 ^ (15 - l) := Nat.mul_le_mul_left _ (Nat.two_pow_pos _)
    omega
   have hcode : codeOf ns s = nx2 := by
    have h1 := code_start ns s
    rw [hs, start_at ns k hkl, ← hs, ← hst, ← hl] at h1
    exact Nat.eq_of_mul_eq_mul_right (Nat.two_pow_pos _) h1
   have hcd : cdOf ns s = rv l nx2 := by rw [cdOf, if_neg hsr.2, hcode, ← hl]
   have hrv : rev32 nx2 / 2 ^ (32 - l) = rv l nx2 := rev32_rv nx2 l (by omega) (by omega)
   obtain ⟨cr, hcr⟩ : ∃ cr, cr = cdOf ns s := ⟨_, rfl⟩
   have HREV := fun (wx : World) => reverse_any wx nx2 (by omega)
   have hshift : ((rev32 nx2 : Nat) : Int) / 2 ^ (32 - l) = (cr : Int) := by rw [hcr, hcd, ← hrv]; simp
   have hrevl : rev32 nx2 < 4294967296 := rev32_lt nx2 (by omega)
   generalize rev32 nx2 = rr at HREV hshift hrevl
   have hmulI : (nx : Int) * 2 ^ (l - lg) % 4294967296 = (nx2 : Int) := by
    have h1 : ((nx * 2 ^ (l - lg) : Nat) : Int) = (nx2 : Int) := by rw [hnx2]
    rw [Int.natCast_mul, Int.natCast_pow] at h1
    rw [show ((2 : Nat) : Int) = 2 from rfl] at h1
    rw [h1]; omega
   have hsub1 : ((l : Int) - (lg : Int)) = ((l - lg : Nat) : Int) := by omega
   have hsub2 : ((32 : Int) - (l : Int)) = ((32 - l : Nat) : Int) := by omega
   have hso : s < (outAt ns k).length := by rw [outAt_length]; exact hsr.1
   obtain ⟨y, cy⟩ : ∃ y : Nat, wr.cell? ⟨w2.heap.size, s, none⟩ = some (.int .u32 (y : Nat)) := ⟨_, HR5.out.cell s hso⟩
   have fy := HR5.out.frozen s
   have HR6 : Hid (WRow w.heap.size (wr.setCell ⟨w2.heap.size, s, none⟩ (.int .u32 (cr : Nat))) (.slice (some ⟨w2.heap.size, 0, none⟩) n n) (outAt ns (k + 1))) := hid (by
    have h := HR5.out.lay s (cdOf ns s)
    rw [hs, outAt_succ ns k hkl, ← hs, ← hcr] at h
    exact h)
   have HF2 : Hid ((nx2 + 1) * 2 ^ (15 - l) = sumTo ns (k + 1) ∧ (k + 1 = 0 ∧ l = 0 ∨ 0 < k + 1 ∧ ∃ h : k + 1 - 1 < (ris ns).length, l = key ns (ris ns)[k + 1 - 1])) := hid (by
    refine ⟨?_, .inr ⟨by omega, by simpa using hkl, by simpa [← hs] using hl⟩⟩
    rw [sumTo_succ ns k hkl, Nat.add_mul, hst, ← hs, uk, unit, if_neg hsr.2, ← hl]; omega)
   clear hs hsr hsrc hl hst hnx2 hcode hcd hrv hcr hso HF hrow5
   go_wp2_with fail
   refine (HREV _).mono ?_
   rintro e w6 ⟨rfl, rfl⟩
   clear HREV
   go_wp2_with fail
   go_roundg (gk - 1)
   case measure => omega
   case rel => exact ⟨k + 1, nx2 + 1, l, by omega, by omega, by omega, hl15, by congr 1 <;> omega, rfl, by go_num, HF2, HR6, HK5.out.setCell _ _ (.inl rfl)⟩
  ·have hk2 : k = rl := by omega
   subst hk2
   go_wp2_with fail
   first
    | go_ret2
    | (go_quiet (fail); go_wp2_with fail; go_ret2)
   refine ⟨⟨_, _, _, rfl, ?_⟩, ?_⟩
   ·have h := HR5.out
    rw [HRL.out, outAt_all] at h
    exact h
   ·have h1 := HK4.out.trans HK5.out (H := (· = w2.heap.size)) (fun _ _ h => h) (fun _ _ h => h)
    exact Same.of h1 (fun j hj e => by omega)

end Go.Proofs.YtljlmfnbeofmmaaGreatDoor

namespace Go.Proofs.YtljlmfnbeofmmaaGreatDoor
def mxL (ns : List Nat) : Nat := ns.foldl max 0

theorem foldl_max (l : List Nat) (a : Nat) : a ≤ l.foldl max a ∧ (∀ x ∈ l, x ≤ l.foldl max a) ∧ (l.foldl max a = a ∨ l.foldl max a ∈ l) := by
 induction l generalizing a with
 | nil => simp
 | cons b r ih =>
  obtain ⟨h1, h2, h3⟩ := ih (max a b)
  simp only [List.foldl_cons]
  refine ⟨by omega, ?_, ?_⟩
  ·intro x hx
   rcases List.mem_cons.1 hx with rfl | hx
   ·omega
   ·exact h2 x hx
  ·rcases h3 with h | h
   ·rw [h]
    by_cases hab : a ≤ b
    ·right; rw [Nat.max_eq_right hab]; simp
    ·left; omega
   ·right; exact List.mem_cons_of_mem _ h

theorem key_le_mx (ns : List Nat) (s : Nat) : key ns s ≤ mxL ns := by
 by_cases h : s < ns.length
 ·rw [key_get h]; exact (foldl_max ns 0).2.1 _ (List.getElem_mem _)
 ·simp [key, h]

theorem mx_le (ns : List Nat) (b : Nat) (h : ∀ n ∈ ns, n ≤ b) : mxL ns ≤ b := by
 rcases (foldl_max ns 0).2.2 with h1 | h1
 ·unfold mxL; omega
 ·exact h _ h1

end Go.Proofs.YtljlmfnbeofmmaaGreatDoor
