/-
  Of the proof: parts HRev, HCode, HDecM, HRows, Bits, HNextM, LnM, LnPackM, Rec, LnRef, RowX, LnUnp, Blk, HNextW, Cut, Lay, Writer.
-/
import Derived.Laws.BitsAllLaws
import Derived.Test.YtofhlnpbflkdlaaDoorJ4
import Derived.Test.YtofhlnpbflkdlaaDoorJ1
import Derived.Test.YtofhlnpbflkdlaaDoorJ2
import Derived.Test.YtofhlnpbflkdlaaDoorJ3

/-
  Bits that are turned round: math/bits.Reverse32.
-/
namespace Go.Proofs.YtofhlnpbflkdlaaDoor
open Go.RowKit

/-- Neighbouring groups of s bits change places. -/
def sw (s m x : Nat) : Nat := (x / 2 ^ s &&& m) ||| ((x &&& m) * 2 ^ s % 4294967296)

def swAt (s i : Nat) : Nat := if i % (2 * s) < s then i + s else i - s

theorem sw_bit (s m x i : Nat) (hi : i < 32) (hs : s = 1 ∨ s = 2 ∨ s = 4 ∨ s = 8) (hm : ∀ j, j < 32 → m.testBit j = decide (j % (2 * s) < s)) : (sw s m x).testBit i = x.testBit (swAt s i) := by
  unfold sw swAt
  rw [Nat.testBit_or, Nat.testBit_and, Nat.testBit_div_two_pow, show (4294967296 : Nat) = 2 ^ 32 by rfl, Nat.testBit_mod_two_pow, Nat.testBit_mul_two_pow, Nat.testBit_and, hm i hi]
  by_cases h : i % (2 * s) < s
  · have h2 : ¬ (s ≤ i ∧ (i - s) % (2 * s) < s) := by rcases hs with rfl | rfl | rfl | rfl <;> omega
    by_cases h3 : s ≤ i
    · rw [hm (i - s) (by omega)]
      have h4 : ¬ (i - s) % (2 * s) < s := fun h => h2 ⟨h3, h⟩
      simp [h, h4]
    · simp [h, h3]
  · have h2 : s ≤ i ∧ (i - s) % (2 * s) < s := by rcases hs with rfl | rfl | rfl | rfl <;> omega
    rw [hm (i - s) (by omega)]
    simp [h, h2.1, h2.2, hi]

theorem sw_lt (s m x : Nat) (hx : x < 4294967296) : sw s m x < 4294967296 := by
  unfold sw
  rw [show (4294967296 : Nat) = 2 ^ 32 by rfl] at *
  refine Nat.or_lt_two_pow ?_ (Nat.mod_lt _ (by decide))
  exact Nat.lt_of_le_of_lt Nat.and_le_left (Nat.lt_of_le_of_lt (Nat.div_le_self _ _) hx)

def half (x : Nat) : Nat := x / 2 ^ 16 ||| x * 2 ^ 16 % 4294967296

theorem half_bit (x i : Nat) (hi : i < 32) (hx : x < 4294967296) : (half x).testBit i = x.testBit (if i < 16 then i + 16 else i - 16) := by
  unfold half
  rw [Nat.testBit_or, Nat.testBit_div_two_pow, show (4294967296 : Nat) = 2 ^ 32 by rfl, Nat.testBit_mod_two_pow, Nat.testBit_mul_two_pow]
  by_cases h : i < 16
  · simp [h, show ¬ 16 ≤ i by omega]
  · have hz : x.testBit (i + 16) = false := Nat.testBit_lt_two_pow (Nat.lt_of_lt_of_le hx (Nat.pow_le_pow_right (n := 2) (by omega) (show 32 ≤ i + 16 by omega)))
    simp [h, show 16 ≤ i by omega, hi, hz]

def rev32 (x : Nat) : Nat := half (sw 8 16711935 (sw 4 252645135 (sw 2 858993459 (sw 1 1431655765 x))))

theorem rev32_bit (x i : Nat) (hi : i < 32) (hx : x < 4294967296) : (rev32 x).testBit i = x.testBit (31 - i) := by
  unfold rev32
  have e : ∀ i, i < 32 → swAt 1 (swAt 2 (swAt 4 (swAt 8 (if i < 16 then i + 16 else i - 16)))) = 31 - i := by decide
  have l0 : ∀ i, i < 32 → (if i < 16 then i + 16 else i - 16) < 32 := by decide
  have l8 : ∀ i, i < 32 → swAt 8 i < 32 := by decide
  have l4 : ∀ i, i < 32 → swAt 4 i < 32 := by decide
  have l2 : ∀ i, i < 32 → swAt 2 i < 32 := by decide
  rw [half_bit _ i hi (sw_lt _ _ _ (sw_lt _ _ _ (sw_lt _ _ _ (sw_lt _ _ _ hx)))),
    sw_bit 8 _ _ _ (l0 i hi) (by omega) (by decide), sw_bit 4 _ _ _ (l8 _ (l0 i hi)) (by omega) (by decide), sw_bit 2 _ _ _ (l4 _ (l8 _ (l0 i hi))) (by omega) (by decide),
    sw_bit 1 _ _ _ (l2 _ (l4 _ (l8 _ (l0 i hi)))) (by omega) (by decide), e i hi]

theorem half_lt (x : Nat) (hx : x < 4294967296) : half x < 4294967296 := by
  unfold half
  rw [show (4294967296 : Nat) = 2 ^ 32 by rfl] at *
  exact Nat.or_lt_two_pow (Nat.lt_of_le_of_lt (Nat.div_le_self _ _) hx) (Nat.mod_lt _ (by decide))

theorem rev32_lt (x : Nat) (hx : x < 4294967296) : rev32 x < 4294967296 := half_lt _ (sw_lt _ _ _ (sw_lt _ _ _ (sw_lt _ _ _ (sw_lt _ _ _ hx))))

/-- The lowest n bits of a number, turned round. -/
def rv : Nat → Nat → Nat
  | 0, _ => 0
  | n + 1, c => c % 2 * 2 ^ n + rv n (c / 2)

theorem rv_lt (n c : Nat) : rv n c < 2 ^ n := by
  induction n generalizing c with
  | zero => simp [rv]
  | succ n ih =>
    have h1 := ih (c / 2)
    have h2 : c % 2 * 2 ^ n ≤ 1 * 2 ^ n := Nat.mul_le_mul_right _ (by omega)
    simp only [rv, Nat.pow_succ]
    omega

theorem rv_bit (n c k : Nat) : (rv n c).testBit k = (decide (k < n) && c.testBit (n - 1 - k)) := by
  induction n generalizing c k with
  | zero => simp [rv]
  | succ n ih =>
    simp only [rv]
    rw [Nat.mul_comm, Nat.testBit_two_pow_mul_add _ (rv_lt n (c / 2)), ih]
    by_cases h : k < n
    · rw [if_pos h, Nat.testBit_div_two]
      simp [h, show k < n + 1 by omega, show n - 1 - k + 1 = n - k by omega]
    · rw [if_neg h]
      by_cases h2 : k = n
      · subst h2
        simp [Nat.testBit_zero]
      · have : (c % 2).testBit (k - n) = false := Nat.testBit_lt_two_pow (Nat.lt_of_lt_of_le (Nat.mod_lt _ (by decide)) (by
          have := Nat.pow_le_pow_right (n := 2) (by omega) (show 1 ≤ k - n by omega); omega))
        rw [this]; simp; omega

theorem rev32_rv (x n : Nat) (hx : x < 4294967296) (hn : n ≤ 32) : rev32 x / 2 ^ (32 - n) = rv n x := by
  refine Nat.eq_of_testBit_eq (fun k => ?_)
  rw [Nat.testBit_div_two_pow, rv_bit]
  by_cases h : k < n
  · rw [rev32_bit x _ (by omega) hx]
    simp [h, show 31 - (k + (32 - n)) = n - 1 - k by omega]
  · have : (rev32 x).testBit (k + (32 - n)) = false := Nat.testBit_lt_two_pow (Nat.lt_of_lt_of_le (rev32_lt x hx) (Nat.pow_le_pow_right (n := 2) (by omega) (show 32 ≤ k + (32 - n) by omega)))
    rw [this]; simp [h]

theorem sw_int (s m x : Nat) (hx : x < 4294967296) (hm : m < 4294967296) (_hs : s ≤ 8) :
    bits .or .u32 (bits .and .u32 ((x : Int) / 2 ^ s) (m : Int)) (bits .and .u32 (x : Int) (m : Int) * 2 ^ s % 4294967296) = ((sw s m x : Nat) : Int) := by
  have e1 : ((x : Int) / 2 ^ s) = ((x / 2 ^ s : Nat) : Int) := by simp
  have hd : x / 2 ^ s < 4294967296 := Nat.lt_of_le_of_lt (Nat.div_le_self _ _) hx
  rw [e1, u32_and_nat _ _ hd hm, u32_and_nat _ _ hx hm]
  have e2 : ((x &&& m : Nat) : Int) * 2 ^ s % 4294967296 = (((x &&& m) * 2 ^ s % 4294967296 : Nat) : Int) := by simp
  rw [e2, u32_or_nat _ _ (Nat.lt_of_le_of_lt Nat.and_le_left hd) (Nat.mod_lt _ (by decide))]
  rfl

set_option maxHeartbeats 1000000 in
theorem revBytes_any (w : World) (x : Nat) (hx : x < 4294967296) : Calls Tryd.prog 91 #[.int .u32 (x : Nat)] w fun e w' => e = .returned (.int .u32 ((half (sw 8 16711935 x) : Nat) : Int)) ∧ w' = w := by
  obtain ⟨y, hy⟩ : ∃ y, y = sw 8 16711935 x := ⟨_, rfl⟩
  have hyl : y < 4294967296 := by rw [hy]; exact sw_lt 8 16711935 x hx
  have e1 : bits .or .u32 (bits .and .u32 ((x : Int) / 256) 16711935) (bits .and .u32 (x : Int) 16711935 * 256 % 4294967296) = (y : Int) := by
    have h := sw_int 8 16711935 x hx (by decide) (by decide)
    rw [← hy] at h
    exact h
  have e2 : bits .or .u32 ((y : Int) / 65536) ((y : Int) * 65536 % 4294967296) = ((half y : Nat) : Int) := by
    have d1 : (y : Int) / 65536 = ((y / 2 ^ 16 : Nat) : Int) := by omega
    have d2 : (y : Int) * 65536 % 4294967296 = ((y * 2 ^ 16 % 4294967296 : Nat) : Int) := by omega
    rw [d1, d2, u32_or_nat _ _ (Nat.lt_of_le_of_lt (Nat.div_le_self _ _) hyl) (Nat.mod_lt _ (by decide))]
    rfl
  have HY : Hid (y = sw 8 16711935 x) := hy
  clear hy hyl hx
  go_enter Tryd.func91, Tryd.ntmps91
  go_wp2_with fail
  go_ret
  exact ⟨by rw [← HY.out]; rfl, rfl⟩

set_option maxHeartbeats 1000000 in
theorem reverse_any (w : World) (x : Nat) (hx : x < 4294967296) : Calls Tryd.prog 79 #[.int .u32 (x : Nat)] w fun e w' => e = .returned (.int .u32 ((rev32 x : Nat) : Int)) ∧ w' = w := by
  obtain ⟨y, hy⟩ : ∃ y, y = sw 1 1431655765 x := ⟨_, rfl⟩
  have hyl : y < 4294967296 := by rw [hy]; exact sw_lt 1 1431655765 x hx
  obtain ⟨z, hz⟩ : ∃ z, z = sw 2 858993459 y := ⟨_, rfl⟩
  have hzl : z < 4294967296 := by rw [hz]; exact sw_lt 2 858993459 y hyl
  obtain ⟨t, ht⟩ : ∃ t, t = sw 4 252645135 z := ⟨_, rfl⟩
  have htl : t < 4294967296 := by rw [ht]; exact sw_lt 4 252645135 z hzl
  have e1 : bits .or .u32 (bits .and .u32 ((x : Int) / 2) 1431655765) (bits .and .u32 (x : Int) 1431655765 * 2 % 4294967296) = (y : Int) := by
    have h := sw_int 1 1431655765 x hx (by decide) (by decide)
    rw [← hy] at h
    exact h
  have e2 : bits .or .u32 (bits .and .u32 ((y : Int) / 4) 858993459) (bits .and .u32 (y : Int) 858993459 * 4 % 4294967296) = (z : Int) := by
    have h := sw_int 2 858993459 y hyl (by decide) (by decide)
    rw [← hz] at h
    exact h
  have e3 : bits .or .u32 (bits .and .u32 ((z : Int) / 16) 252645135) (bits .and .u32 (z : Int) 252645135 * 16 % 4294967296) = (t : Int) := by
    have h := sw_int 4 252645135 z hzl (by decide) (by decide)
    rw [← ht] at h
    exact h
  have HC := revBytes_any w t htl
  have HV : Hid (rev32 x = half (sw 8 16711935 t)) := hid (by rw [rev32, ← hy, ← hz, ← ht])
  generalize half (sw 8 16711935 t) = r at HC HV
  clear hy hz ht hyl hzl htl hx
  go_enter Tryd.func79, Tryd.ntmps79
  go_wp2_with fail
  refine HC.mono ?_
  rintro e w2 ⟨rfl, rfl⟩
  clear HC
  go_wp2_with fail
  go_ret
  exact ⟨by rw [HV.out]; rfl, rfl⟩

end Go.Proofs.YtofhlnpbflkdlaaDoor

/-
  The codes of a list of lengths: where each begins, and Codes.
-/
namespace Go.Proofs.YtofhlnpbflkdlaaDoor
open Go.RowKit

/-- A symbol's part of the measure. -/
def uk (ns : List Nat) (s : Nat) : Nat := unit (key ns s)

/-- What the symbols ahead of a symbol measure together. -/
def startOf (ns : List Nat) (s : Nat) : Nat := (((ris ns).filter (fun t => decide (Lt ns t s))).map (uk ns)).sum

/-- What the first k symbols measure. -/
def sumTo (ns : List Nat) (k : Nat) : Nat := (((ris ns).take k).map (uk ns)).sum

theorem sumTo_succ (ns : List Nat) (k : Nat) (h : k < (ris ns).length) : sumTo ns (k + 1) = sumTo ns k + uk ns (ris ns)[k] := by
  unfold sumTo
  rw [List.take_succ_eq_append_getElem h, List.map_append, List.sum_append]
  simp only [List.map_cons, List.map_nil, List.sum_cons, List.sum_nil, Nat.add_zero]

theorem start_at (ns : List Nat) (k : Nat) (h : k < (ris ns).length) : startOf ns (ris ns)[k] = sumTo ns k := by
  unfold startOf sumTo
  congr 2
  have hs := ris_sorted ns
  have hsplit : (ris ns) = (ris ns).take k ++ (ris ns)[k] :: (ris ns).drop (k + 1) := by
    rw [← List.drop_eq_getElem_cons h, List.take_append_drop]
  generalize (ris ns)[k] = x at *
  generalize hA : (ris ns).take k = A at *
  generalize (ris ns).drop (k + 1) = B at *
  rw [hsplit] at hs ⊢
  rw [List.filter_append, List.filter_cons_of_neg (by simp [Lt.irrefl])]
  have h1 : A.filter (fun t => decide (Lt ns t x)) = A := List.filter_eq_self.2 (fun a ha => by simpa using Sorted.cross hs a ha x (by simp))
  have h2 : B.filter (fun t => decide (Lt ns t x)) = [] := List.filter_eq_nil_iff.2 (fun b hb => by
    have := (List.pairwise_cons.1 (Sorted.right hs)).1 b hb
    simpa using this.asymm)
  rw [h1, h2, List.append_nil]

theorem usedTo_sum (ns : List Nat) (i : Nat) (hi : i ≤ ns.length) : ((usedTo ns i).map (uk ns)).sum = measure (ns.take i) := by
  induction i with
  | zero => simp [usedTo, measure]
  | succ i ih =>
    have hlt : i < ns.length := hi
    rw [usedTo_succ, List.map_append, List.sum_append, ih (by omega), List.take_succ_eq_append_getElem hlt, measure_snoc, ← key_get hlt]
    congr 1
    by_cases h : key ns i = 0
    · simp [h, unit]
    · simp [h, uk]

theorem sum_perm {a b : List Nat} (f : Nat → Nat) (h : a.Perm b) : (a.map f).sum = (b.map f).sum := (h.map f).sum_nat

theorem sumTo_all (ns : List Nat) : sumTo ns (ris ns).length = measure ns := by
  unfold sumTo
  rw [List.take_of_length_le (Nat.le_refl _), sum_perm _ (ris_perm ns)]
  have := usedTo_sum ns ns.length (Nat.le_refl _)
  rw [List.take_of_length_le (Nat.le_refl _)] at this
  exact this

theorem sumTo_mono (ns : List Nat) (k : Nat) : sumTo ns k ≤ measure ns := by
  rw [← sumTo_all]
  unfold sumTo
  rw [List.take_of_length_le (Nat.le_refl _)]
  conv => rhs; rw [← List.take_append_drop k (ris ns)]
  rw [List.map_append, List.sum_append]
  omega

theorem dvd_list (d : Nat) (l : List Nat) (h : ∀ x ∈ l, d ∣ x) : d ∣ l.sum := by
  induction l with
  | nil => simp
  | cons a r ih =>
    rw [List.sum_cons]
    exact Nat.dvd_add (h a (by simp)) (ih (fun x hx => h x (List.mem_cons_of_mem _ hx)))

/-- A symbol's code as a number, its first bit the highest. -/
def codeOf (ns : List Nat) (s : Nat) : Nat := startOf ns s / 2 ^ (15 - key ns s)

theorem code_start (ns : List Nat) (s : Nat) : codeOf ns s * 2 ^ (15 - key ns s) = startOf ns s := by
  refine Nat.div_mul_cancel (dvd_list _ _ (fun x hx => ?_))
  obtain ⟨t, ht, rfl⟩ := List.mem_map.1 hx
  have hlt : Lt ns t s := by simpa using (List.mem_filter.1 ht).2
  have h0 := (mem_ris.1 (List.mem_filter.1 ht).1).2
  unfold uk unit
  rw [if_neg h0]
  exact Nat.pow_dvd_pow 2 (by unfold Lt at hlt; omega)

/-- A symbol's code as Codes tells it. -/
def cdOf (ns : List Nat) (s : Nat) : Nat := if key ns s = 0 then 0 else rv (key ns s) (codeOf ns s)

def codesL (ns : List Nat) : List Nat := (List.range ns.length).map (cdOf ns)

theorem codesL_length (ns : List Nat) : (codesL ns).length = ns.length := by simp [codesL]

/-- The list of codes when the first k symbols have theirs. -/
def outAt (ns : List Nat) (k : Nat) : List Nat := (List.range ns.length).map (fun s => if s ∈ (ris ns).take k then cdOf ns s else 0)

theorem outAt_zero (ns : List Nat) : outAt ns 0 = List.replicate ns.length 0 := by
  unfold outAt
  simp [List.map_const']

theorem outAt_all (ns : List Nat) : outAt ns (ris ns).length = codesL ns := by
  unfold outAt codesL
  rw [List.take_of_length_le (Nat.le_refl _)]
  refine List.map_congr_left (fun s hs => ?_)
  by_cases h : s ∈ ris ns
  · rw [if_pos h]
  · rw [if_neg h]
    have : key ns s = 0 := by
      have h2 := mt mem_ris.2 h
      simp at hs
      exact Classical.byContradiction (fun h3 => h2 ⟨hs, h3⟩)
    simp [cdOf, this]

theorem outAt_succ (ns : List Nat) (k : Nat) (h : k < (ris ns).length) : (outAt ns k).set (ris ns)[k] (cdOf ns (ris ns)[k]) = outAt ns (k + 1) := by
  unfold outAt
  refine List.ext_getElem (by simp) (fun j h1 h2 => ?_)
  have hm : j ∈ (ris ns).take (k + 1) ↔ j ∈ (ris ns).take k ∨ j = (ris ns)[k] := by rw [List.take_succ_eq_append_getElem h, List.mem_append, List.mem_singleton]
  simp only [List.getElem_set, List.getElem_map, List.getElem_range, hm]
  by_cases e : (ris ns)[k] = j
  · subst e; simp
  · have e2 : ¬ j = (ris ns)[k] := fun h => e h.symm
    simp [e, e2]

theorem outAt_length (ns : List Nat) (k : Nat) : (outAt ns k).length = ns.length := by simp [outAt]

example : codesL [2, 1, 3, 3] = [1, 0, 3, 7] := by decide

/-- Lengths that pass Check. -/
structure Good (zs : List Int) (ns : List Nat) : Prop where
  eq : ns.map natV = zs.map intV
  len : ns.length = zs.length
  pos : 0 < ns.length
  max : ns.length ≤ 288
  le : ∀ n ∈ ns, n ≤ 15
  ok : chkN ns = 0
  int : zs = ns.map (fun (n : Nat) => (n : Int))

theorem good_of {zs : List Int} (h : chk zs = 0) : Good zs (zs.map Int.toNat) := by
  unfold chk at h
  split at h
  · rename_i hok
    obtain ⟨e, h1, h2, h3⟩ := okAll_nat hok
    refine ⟨e, by simp, by simpa using h1, by simpa using h2, fun n hn => by have := h3 n hn; omega, h, ?_⟩
    have e2 := congrArg (List.map (fun v : Value => match v with | .int _ z => z | _ => 0)) e
    simp only [List.map_map] at e2
    rw [List.map_map]
    have e3 : zs.map ((fun v : Value => match v with | .int _ z => z | _ => 0) ∘ intV) = zs := by
      conv => rhs; rw [← List.map_id zs]
      refine List.map_congr_left (fun z _ => rfl)
    rw [e3] at e2
    exact e2.symm.trans (List.map_congr_left (fun z _ => rfl))
  · omega

theorem Good.measure_le {zs : List Int} {ns : List Nat} (h : Good zs ns) : measure ns ≤ 32768 := by
  have := h.ok
  unfold chkN at this
  split at this
  · omega
  · omega

theorem Good.key_le {zs : List Int} {ns : List Nat} (h : Good zs ns) (s : Nat) : key ns s ≤ 15 := by
  by_cases hs : s < ns.length
  · rw [key_get hs]; exact h.le _ (List.getElem_mem _)
  · simp [key, hs]

theorem codes_bad (w : World) (v : Value) (I : Nat → Prop) (zs : List Int) (hs : SrcE intV w I v zs) (hn : zs.length ≤ 1000000) (hb : chk zs ≠ 0) :
    Calls Tryd.prog 63 #[v] w fun e w' => e = .returned (.tuple #[.slice none 0 0, .int .i64 (chk zs : Nat)]) ∧ Same w w' := by
  have HC := check_any w v I zs hs hn
  generalize chk zs = c at HC hb
  have hd : ((c : Int) != 0) = true := by simp; omega
  clear hs hb
  go_enter Tryd.func63, Tryd.ntmps63
  go_wp2_with fail
  refine HC.mono ?_
  rintro e w2 ⟨rfl, hk⟩
  have HK : Hid (Same w w2) := hk
  clear hk HC
  go_wp2_with fail
  first
    | (go_ret2; exact ⟨rfl, HK.out⟩)
    | (go_quiet (fail); go_wp2_with fail; go_ret2; exact ⟨rfl, HK.out.drewN _⟩)

set_option maxHeartbeats 2000000 in
theorem codes_good (w : World) (v : Value) (I : Nat → Prop) (zs : List Int) (ns : List Nat) (hs : SrcE intV w I v zs) (hg : Good zs ns) (hb : chk zs = 0) :
    Calls Tryd.prog 63 #[v] w fun e w' => (∃ g n cap, e = .returned (.tuple #[.slice (some ⟨g, 0, none⟩) n cap, .int .i64 0]) ∧ WRow w.heap.size w' (.slice (some ⟨g, 0, none⟩) n cap) (codesL ns)) ∧ Same w w' := by
  obtain ⟨ao, cap, rfl, hx1, hx2⟩ := id hs
  clear hx1 hx2
  have HC := check_any w _ I zs hs (by have := hg.len; have := hg.max; omega)
  rw [hb] at HC
  have HG : Hid (Good zs ns) := hg
  have HS : Hid (SrcE natV w I (.slice ao zs.length cap) ns) := hid (hs.recode hg.eq)
  have HL : Hid (zs.length = ns.length) := hg.len.symm
  have h288 : zs.length ≤ 288 := by have := hg.len; have := hg.max; omega
  clear hs hg hb
  generalize zs.length = n at *
  go_enter Tryd.func63, Tryd.ntmps63
  go_wp2_with fail
  refine HC.mono ?_
  rintro e w2 ⟨rfl, hk⟩
  have HK : Hid (Same w w2) := hk
  clear hk HC
  go_wp2_with (at_make; refine wpList_make_e _ wordV 0 w.heap.size 96 40 4 Tryd.underlying96 Tryd.infoW rfl (by decide) rfl _ _ rfl _ _ _ _ n rfl rfl rfl rfl (by omega) HK.out.size ?_; intro w3 hr3 hg3 hs3)
  have HR3 : Hid (WRow w.heap.size w3 (.slice (some ⟨w2.heap.size, 0, none⟩) n n) (outAt ns 0)) := hid (by rw [outAt_zero, ← HL.out]; exact hr3)
  have HK3 : Hid (Same w2 w3) := hid ((Kept.refl _ w2).grown hg3 (by simp))
  have HK03 : Hid (Same w w3) := hid (HK.out.trans HK3.out)
  have hsz := HK.out.size
  clear hr3 hg3
  have HRI := rising_any w3 _ I ns (HS.out.same HK03.out) (by have := HL.out; omega)
  go_wp2_with fail
  refine HRI.mono ?_
  rintro e w4 ⟨v4, rfl, hn4⟩
  have HN4 : Hid (New w3 w4 v4 (ris ns)) := hn4
  have HK4 : Hid (Kept (· = w2.heap.size) w w4) := hid ((HK03.out.trans hn4.same).mono (fun _ _ h => h.elim))
  have HR4 : Hid (WRow w.heap.size w4 (.slice (some ⟨w2.heap.size, 0, none⟩) n n) (outAt ns 0)) := hid (HR3.out.same hn4.same)
  obtain ⟨ao4, cap4, rfl, hsh4, _⟩ := hn4.row.shape
  have hsz4 := hn4.same.size
  have hls : (ris ns).length ≤ 288 := Nat.le_trans (ris_length ns) (by have := HL.out; omega)
  clear hn4 HRI HR3
  obtain ⟨rl, hrl⟩ : ∃ rl, rl = (ris ns).length := ⟨_, rfl⟩
  have HRL : Hid (rl = (ris ns).length) := hrl
  rw [← hrl] at hls ⊢
  clear hrl hsh4
  go_wp2_with fail
  go_loopg [6, 7, 21] rl (fun q znx zlg zk wr => ∃ (k nx lg : Nat), rl - k ≤ q ∧ k ≤ rl ∧ nx ≤ 32769 ∧ lg ≤ 15 ∧ znx = .int .u32 (nx : Nat) ∧ zlg = .int .i64 (lg : Nat) ∧ zk = .int .i64 (k : Nat) ∧
      Hid (nx * 2 ^ (15 - lg) = sumTo ns k ∧ (k = 0 ∧ lg = 0 ∨ 0 < k ∧ ∃ h : k - 1 < (ris ns).length, lg = key ns (ris ns)[k - 1])) ∧ Hid (WRow w.heap.size wr (.slice (some ⟨w2.heap.size, 0, none⟩) n n) (outAt ns k)) ∧ Hid (Kept (· = w2.heap.size) w4 wr))
  case atStart => exact ⟨0, 0, 0, by omega, by omega, by omega, by omega, rfl, rfl, rfl, hid ⟨by simp [sumTo], .inl ⟨rfl, rfl⟩⟩, HR4.out, Kept.refl _ _⟩
  case round =>
    obtain ⟨k, nx, lg, hq, hk, hnx, hlg, rfl, rfl, rfl, HF, HR5, HK5⟩ := hrel
    clear HR4
    by_cases hlt : k < rl
    · have hkl : k < (ris ns).length := by have := HRL.out; omega
      have hrow5 : NRow w3.heap.size wr (.slice ao4 (ris ns).length cap4) (ris ns) := HN4.out.row.kept HK5.out (fun j hj e => by have := HN4.out.row.ge hj; omega)
      obtain ⟨b4, o4, cap4', e4, _, _, c4⟩ := (SrcE.ofRow hrow5).get k hkl
      simp only [Value.slice.injEq] at e4
      obtain ⟨rfl, _, rfl⟩ := e4
      obtain ⟨s, hs⟩ : ∃ s, s = (ris ns)[k] := ⟨_, rfl⟩
      rw [← hs] at c4
      unfold natV at c4
      have hsr : s < ns.length ∧ key ns s ≠ 0 := mem_ris.1 (by rw [hs]; exact List.getElem_mem _)
      have hsn : s < n := by have := HL.out; omega
      have hsrc : SrcE natV wr (fun j => I j ∧ j < w.heap.size) (.slice ao n cap) ns := SrcE.kept (SrcE.kept HS.out.low HK4.out (fun j hj _ e => by omega)) HK5.out (fun j hj _ e => by omega)
      obtain ⟨b, o, cap', e5, _, _, c5⟩ := hsrc.get s hsr.1
      simp only [Value.slice.injEq] at e5
      obtain ⟨rfl, hxe, rfl⟩ := e5
      clear hxe
      rw [← key_get hsr.1] at c5
      unfold natV at c5
      obtain ⟨l, hl⟩ : ∃ l, l = key ns s := ⟨_, rfl⟩
      rw [← hl] at c5
      have hl15 : l ≤ 15 := by rw [hl]; exact HG.out.key_le s
      have hl0 : 0 < l := by omega
      have hlgl : lg ≤ l := by
        rcases HF.out.2 with ⟨_, h⟩ | ⟨h0, h1, h2⟩
        · omega
        · have := Sorted.at (ris_sorted ns) (show k - 1 < k by omega) hkl
          unfold Lt at this
          rw [h2, hl, hs]; omega
      obtain ⟨nx2, hnx2⟩ : ∃ nx2, nx2 = nx * 2 ^ (l - lg) := ⟨_, rfl⟩
      have hst : nx2 * 2 ^ (15 - l) = sumTo ns k := by
        rw [hnx2, Nat.mul_assoc, ← Nat.pow_add, show l - lg + (15 - l) = 15 - lg by omega]
        exact HF.out.1
      have hnx2l : nx2 ≤ 32768 := by
        have h1 := sumTo_mono ns k
        have h2 := HG.out.measure_le
        have h3 : nx2 * 1 ≤ nx2 * 2 ^ (15 - l) := Nat.mul_le_mul_left _ (Nat.two_pow_pos _)
        omega
      have hcode : codeOf ns s = nx2 := by
        have h1 := code_start ns s
        rw [hs, start_at ns k hkl, ← hs, ← hst, ← hl] at h1
        exact Nat.eq_of_mul_eq_mul_right (Nat.two_pow_pos _) h1
      have hcd : cdOf ns s = rv l nx2 := by rw [cdOf, if_neg hsr.2, hcode, ← hl]
      have hrv : rev32 nx2 / 2 ^ (32 - l) = rv l nx2 := rev32_rv nx2 l (by omega) (by omega)
      obtain ⟨cr, hcr⟩ : ∃ cr, cr = cdOf ns s := ⟨_, rfl⟩
      have HREV := fun (wx : World) => reverse_any wx nx2 (by omega)
      have hshift : ((rev32 nx2 : Nat) : Int) / 2 ^ (32 - l) = (cr : Int) := by rw [hcr, hcd, ← hrv]; simp
      have hrevl : rev32 nx2 < 4294967296 := rev32_lt nx2 (by omega)
      generalize rev32 nx2 = rr at HREV hshift hrevl
      have hmulI : (nx : Int) * 2 ^ (l - lg) % 4294967296 = (nx2 : Int) := by
        have h1 : ((nx * 2 ^ (l - lg) : Nat) : Int) = (nx2 : Int) := by rw [hnx2]
        rw [Int.natCast_mul, Int.natCast_pow] at h1
        rw [show ((2 : Nat) : Int) = 2 from rfl] at h1
        rw [h1]; omega
      have hsub1 : ((l : Int) - (lg : Int)) = ((l - lg : Nat) : Int) := by omega
      have hsub2 : ((32 : Int) - (l : Int)) = ((32 - l : Nat) : Int) := by omega
      have hso : s < (outAt ns k).length := by rw [outAt_length]; exact hsr.1
      obtain ⟨y, cy⟩ : ∃ y : Nat, wr.cell? ⟨w2.heap.size, s, none⟩ = some (.int .u32 (y : Nat)) := ⟨_, HR5.out.cell s hso⟩
      have fy := HR5.out.frozen s
      have HR6 : Hid (WRow w.heap.size (wr.setCell ⟨w2.heap.size, s, none⟩ (.int .u32 (cr : Nat))) (.slice (some ⟨w2.heap.size, 0, none⟩) n n) (outAt ns (k + 1))) := hid (by
        have h := HR5.out.lay s (cdOf ns s)
        rw [hs, outAt_succ ns k hkl, ← hs, ← hcr] at h
        exact h)
      have HF2 : Hid ((nx2 + 1) * 2 ^ (15 - l) = sumTo ns (k + 1) ∧ (k + 1 = 0 ∧ l = 0 ∨ 0 < k + 1 ∧ ∃ h : k + 1 - 1 < (ris ns).length, l = key ns (ris ns)[k + 1 - 1])) := hid (by
        refine ⟨?_, .inr ⟨by omega, by simpa using hkl, by simpa [← hs] using hl⟩⟩
        rw [sumTo_succ ns k hkl, Nat.add_mul, hst, ← hs, uk, unit, if_neg hsr.2, ← hl]; omega)
      clear hs hsr hsrc hl hst hnx2 hcode hcd hrv hcr hso HF hrow5
      go_wp2_with fail
      refine (HREV _).mono ?_
      rintro e w6 ⟨rfl, rfl⟩
      clear HREV
      go_wp2_with fail
      go_roundg (gk - 1)
      case measure => omega
      case rel => exact ⟨k + 1, nx2 + 1, l, by omega, by omega, by omega, hl15, by congr 1 <;> omega, rfl, by go_num, HF2, HR6, HK5.out.setCell _ _ (.inl rfl)⟩
    · have hk2 : k = rl := by omega
      subst hk2
      go_wp2_with fail
      first
        | go_ret2
        | (go_quiet (fail); go_wp2_with fail; go_ret2)
      refine ⟨⟨_, _, _, rfl, ?_⟩, ?_⟩
      · have h := HR5.out
        rw [HRL.out, outAt_all] at h
        exact h
      · have h1 := HK4.out.trans HK5.out (H := (· = w2.heap.size)) (fun _ _ h => h) (fun _ _ h => h)
        exact Same.of h1 (fun j hj e => by omega)

end Go.Proofs.YtofhlnpbflkdlaaDoor

/-
  How a code is found: the places of the symbols of one length; bits read as numbers.
-/
namespace Go.Proofs.YtofhlnpbflkdlaaDoor

theorem rv_succ_low (n R : Nat) : rv (n + 1) R = 2 * rv n R + R / 2 ^ n % 2 := by
  refine Nat.eq_of_testBit_eq (fun k => ?_)
  rw [rv_bit, show 2 * rv n R + R / 2 ^ n % 2 = 2 ^ 1 * rv n R + R / 2 ^ n % 2 by rw [Nat.pow_one], Nat.testBit_two_pow_mul_add _ (by rw [Nat.pow_one]; exact Nat.mod_lt _ (by decide)), rv_bit]
  by_cases h : k < 1
  · have : k = 0 := by omega
    subst this
    rw [if_pos h, Nat.testBit_zero, show R / 2 ^ n % 2 % 2 = R / 2 ^ n % 2 by omega]
    simp [Nat.testBit_eq_decide_div_mod_eq]
  · rw [if_neg h]
    by_cases h2 : k < n + 1
    · simp [h2, show k - 1 < n by omega, show n - 1 - (k - 1) = n - k by omega]
    · simp [h2, show ¬ k - 1 < n by omega]

theorem rv_div (l m Z : Nat) (h : l ≤ m) : rv m Z / 2 ^ (m - l) = rv l Z := by
  refine Nat.eq_of_testBit_eq (fun k => ?_)
  rw [Nat.testBit_div_two_pow, rv_bit, rv_bit]
  by_cases h2 : k < l
  · simp [h2, show k + (m - l) < m by omega, show m - 1 - (k + (m - l)) = l - 1 - k by omega]
  · simp [h2, show ¬ k + (m - l) < m by omega]

theorem rv_mod (l h Z : Nat) (hl : l ≤ h) : rv l (Z % 2 ^ h) = rv l Z := by
  refine Nat.eq_of_testBit_eq (fun k => ?_)
  rw [rv_bit, rv_bit, Nat.testBit_mod_two_pow]
  by_cases h2 : k < l
  · simp [h2, show l - 1 - k < h by omega]
  · simp [h2]

theorem rv_rv (l c : Nat) : rv l (rv l c) = c % 2 ^ l := by
  refine Nat.eq_of_testBit_eq (fun k => ?_)
  rw [rv_bit, rv_bit, Nat.testBit_mod_two_pow]
  by_cases h2 : k < l
  · simp [h2, show l - 1 - k < l by omega, show l - 1 - (l - 1 - k) = k by omega]
  · simp [h2]

/-- Bits that are not there are read as 0. -/
theorem rv_pad (h m Z : Nat) (hz : Z < 2 ^ h) (hm : h ≤ m) : rv m Z = rv h Z * 2 ^ (m - h) := by
  refine Nat.eq_of_testBit_eq (fun k => ?_)
  rw [rv_bit, Nat.testBit_mul_two_pow, rv_bit]
  by_cases h1 : m - h ≤ k
  · by_cases h2 : k < m
    · simp [h1, h2, show k - (m - h) < h by omega, show h - 1 - (k - (m - h)) = m - 1 - k by omega]
    · simp [h2, show ¬ k - (m - h) < h by omega]
  · have : Z.testBit (m - 1 - k) = false := Nat.testBit_lt_two_pow (Nat.lt_of_lt_of_le hz (Nat.pow_le_pow_right (n := 2) (by omega) (by omega)))
    simp [h1, this]

/-- In a list where what fits stands ahead, the places that fit are the first ones. -/
theorem countP_index (p : Nat → Bool) (l : List Nat) (h : l.Pairwise (fun a b => p b = true → p a = true)) (k : Nat) (hk : k < l.length) : p l[k] = true ↔ k < l.countP p := by
  induction l generalizing k with
  | nil => simp at hk
  | cons a r ih =>
    have hp := List.pairwise_cons.1 h
    by_cases ha : p a = true
    · rw [List.countP_cons_of_pos ha]
      cases k with
      | zero => simp [ha]
      | succ k =>
        have := ih hp.2 k (by simpa using hk)
        simp only [List.getElem_cons_succ]
        rw [this]; omega
    · rw [List.countP_cons_of_neg ha]
      have h0 : r.countP p = 0 := List.countP_eq_zero.2 (fun b hb hpb => ha (hp.1 b hb hpb))
      rw [h0]
      cases k with
      | zero => simp [ha]
      | succ k =>
        simp only [List.getElem_cons_succ]
        have : ¬ p (r[k]'(by simpa using hk)) = true := fun e => ha (hp.1 _ (List.getElem_mem _) e)
        simp [this]

/-- How many symbols have a length up to n; of the length m. -/
def upN (ns : List Nat) (n : Nat) : Nat := (ris ns).countP (fun t => decide (key ns t ≤ n))
def ofN (ns : List Nat) (m : Nat) : Nat := (ris ns).countP (fun t => decide (key ns t = m))

theorem upN_index (ns : List Nat) (n k : Nat) (hk : k < (ris ns).length) : key ns (ris ns)[k] ≤ n ↔ k < upN ns n := by
  have h := countP_index (fun t => decide (key ns t ≤ n)) (ris ns) ((ris_sorted ns).imp (fun {a b} hab hb => by simp at hb ⊢; unfold Lt at hab; omega)) k hk
  simpa [upN] using h

theorem upN_zero (ns : List Nat) : upN ns 0 = 0 := by
  refine List.countP_eq_zero.2 (fun t ht h => ?_)
  have := (mem_ris.1 ht).2
  simp at h; exact this h

theorem upN_succ (ns : List Nat) (n : Nat) : upN ns (n + 1) = upN ns n + ofN ns (n + 1) := by
  unfold upN ofN
  generalize ris ns = l
  induction l with
  | nil => simp
  | cons a r ih =>
    rw [List.countP_cons, List.countP_cons, List.countP_cons, ih]
    by_cases h1 : key ns a ≤ n
    · simp [h1, show key ns a ≤ n + 1 by omega, show ¬ key ns a = n + 1 by omega]; omega
    · by_cases h2 : key ns a = n + 1
      · simp [h2, show ¬ n + 1 ≤ n by omega]; omega
      · simp [h1, h2, show ¬ key ns a ≤ n + 1 by omega]

theorem upN_le (ns : List Nat) (n : Nat) : upN ns n ≤ (ris ns).length := List.countP_le_length

/-- The symbols of the length n + 1, one by one. -/
theorem sumTo_block (ns : List Nat) (n i : Nat) (hn : n < 15) (hi : i ≤ ofN ns (n + 1)) : sumTo ns (upN ns n + i) = sumTo ns (upN ns n) + i * 2 ^ (15 - (n + 1)) := by
  induction i with
  | zero => simp
  | succ i ih =>
    have h1 := upN_succ ns n
    have h2 := upN_le ns (n + 1)
    have hk : upN ns n + i < (ris ns).length := by omega
    have k1 := (upN_index ns (n + 1) _ hk).2 (by omega)
    have k2 := mt (upN_index ns n _ hk).1 (by omega)
    have hkey : key ns (ris ns)[upN ns n + i] = n + 1 := by omega
    rw [show upN ns n + (i + 1) = (upN ns n + i) + 1 by omega, sumTo_succ ns _ hk, ih (by omega), uk, hkey, unit, if_neg (by omega), Nat.add_mul, Nat.one_mul]
    omega

theorem key_block (ns : List Nat) (n i : Nat) (hi : i < ofN ns (n + 1)) : ∃ hk : upN ns n + i < (ris ns).length, key ns (ris ns)[upN ns n + i] = n + 1 := by
  have h1 := upN_succ ns n
  have h2 := upN_le ns (n + 1)
  have hk : upN ns n + i < (ris ns).length := by omega
  have k1 := (upN_index ns (n + 1) _ hk).2 (by omega)
  have k2 := mt (upN_index ns n _ hk).1 (by omega)
  exact ⟨hk, by omega⟩

/-- The longest length. -/
def mxL (ns : List Nat) : Nat := ns.foldl max 0

theorem foldl_max (l : List Nat) (a : Nat) : a ≤ l.foldl max a ∧ (∀ x ∈ l, x ≤ l.foldl max a) ∧ (l.foldl max a = a ∨ l.foldl max a ∈ l) := by
  induction l generalizing a with
  | nil => simp
  | cons b r ih =>
    obtain ⟨h1, h2, h3⟩ := ih (max a b)
    simp only [List.foldl_cons]
    refine ⟨by omega, ?_, ?_⟩
    · intro x hx
      rcases List.mem_cons.1 hx with rfl | hx
      · omega
      · exact h2 x hx
    · rcases h3 with h | h
      · rw [h]
        by_cases hab : a ≤ b
        · right; rw [Nat.max_eq_right hab]; simp
        · left; omega
      · right; exact List.mem_cons_of_mem _ h

theorem key_le_mx (ns : List Nat) (s : Nat) : key ns s ≤ mxL ns := by
  by_cases h : s < ns.length
  · rw [key_get h]; exact (foldl_max ns 0).2.1 _ (List.getElem_mem _)
  · simp [key, h]

theorem mx_le (ns : List Nat) (b : Nat) (h : ∀ n ∈ ns, n ≤ b) : mxL ns ≤ b := by
  rcases (foldl_max ns 0).2.2 with h1 | h1
  · unfold mxL; omega
  · exact h _ h1

theorem upN_all (ns : List Nat) : upN ns (mxL ns) = (ris ns).length := List.countP_eq_length.2 (fun t _ => by simpa using key_le_mx ns t)

/-- How many codes have the length 1, 2, ..., when k symbols were counted. -/
def cntTo (ns : List Nat) (k : Nat) : List Nat := (List.range (mxL ns)).map (fun j => ((ris ns).take k).countP (fun t => decide (key ns t = j + 1)))
def cntL (ns : List Nat) : List Nat := (List.range (mxL ns)).map (fun j => ofN ns (j + 1))

theorem cntTo_all (ns : List Nat) : cntTo ns (ris ns).length = cntL ns := by
  unfold cntTo cntL ofN
  rw [List.take_of_length_le (Nat.le_refl _)]

theorem cntTo_zero (ns : List Nat) : cntTo ns 0 = List.replicate (mxL ns) 0 := by
  unfold cntTo
  simp [List.map_const']

theorem cntTo_length (ns : List Nat) (k : Nat) : (cntTo ns k).length = mxL ns := by simp [cntTo]

theorem cntTo_succ (ns : List Nat) (k : Nat) (hk : k < (ris ns).length) (hl : key ns (ris ns)[k] - 1 < (cntTo ns k).length) :
    (cntTo ns k).set (key ns (ris ns)[k] - 1) ((cntTo ns k)[key ns (ris ns)[k] - 1] + 1) = cntTo ns (k + 1) := by
  have h0 := (mem_ris.1 (List.getElem_mem hk)).2
  unfold cntTo at *
  refine List.ext_getElem (by simp) (fun j h1 h2 => ?_)
  have hc : ((ris ns).take (k + 1)).countP (fun t => decide (key ns t = j + 1)) = ((ris ns).take k).countP (fun t => decide (key ns t = j + 1)) + (if key ns (ris ns)[k] = j + 1 then 1 else 0) := by
    rw [List.take_succ_eq_append_getElem hk, List.countP_append]
    by_cases h : key ns (ris ns)[k] = j + 1 <;> simp [h]
  simp only [List.getElem_set, List.getElem_map, List.getElem_range, hc]
  by_cases e : key ns (ris ns)[k] - 1 = j
  · have e2 : key ns (ris ns)[k] = j + 1 := by omega
    subst e
    rw [if_pos rfl, if_pos e2]
  · have e2 : ¬ key ns (ris ns)[k] = j + 1 := by omega
    rw [if_neg e, if_neg e2]; rfl

/-- What a search answers: the row R of h bits. -/
def Ans (ns : List Nat) (h R sym long e : Nat) : Prop :=
  (e = 0 ∧ sym ∈ ris ns ∧ long = key ns sym ∧ long ≤ h ∧ rv long R = codeOf ns sym) ∨
  (e = 10 ∧ sym = 0 ∧ long = 0 ∧ h < mxL ns ∧ sumTo ns (upN ns h) ≤ rv h R * 2 ^ (15 - h)) ∨
  (e = 32 ∧ sym = 0 ∧ long = 0 ∧ h = mxL ns ∧ measure ns ≤ rv h R * 2 ^ (15 - h))

/-- What is known when no code up to the length n fits. -/
structure Seek (ns : List Nat) (R n place ahead : Nat) : Prop where
  ah : ahead = upN ns n
  pl : (place * 2 ^ (15 - n)) + sumTo ns (upN ns n) = rv n R * 2 ^ (15 - n)

theorem Seek.start (ns : List Nat) (R : Nat) : Seek ns R 0 0 0 := ⟨(upN_zero ns).symm, by rw [upN_zero]; simp [rv, sumTo]⟩

theorem Seek.bit {ns : List Nat} {R n place ahead : Nat} (h : Seek ns R n place ahead) (hn : n < 15) : (2 * place + R / 2 ^ n % 2) * 2 ^ (15 - (n + 1)) + sumTo ns (upN ns n) = rv (n + 1) R * 2 ^ (15 - (n + 1)) := by
  have h1 := h.pl
  have e : 2 ^ (15 - n) = 2 * 2 ^ (15 - (n + 1)) := by rw [show 15 - n = (15 - (n + 1)) + 1 by omega, Nat.pow_succ]; omega
  rw [e] at h1
  rw [rv_succ_low, Nat.add_mul, Nat.add_mul]
  have e2 : 2 * place * 2 ^ (15 - (n + 1)) = place * (2 * 2 ^ (15 - (n + 1))) := by rw [Nat.mul_comm 2 place, Nat.mul_assoc]
  have e3 : 2 * rv n R * 2 ^ (15 - (n + 1)) = rv n R * (2 * 2 ^ (15 - (n + 1))) := by rw [Nat.mul_comm 2 (rv n R), Nat.mul_assoc]
  omega

theorem Seek.found {ns : List Nat} {R n place ahead : Nat} (h : Seek ns R n place ahead) (hn : n < 15) (hp : 2 * place + R / 2 ^ n % 2 < ofN ns (n + 1)) :
    ∃ hk : ahead + (2 * place + R / 2 ^ n % 2) < (ris ns).length, key ns (ris ns)[ahead + (2 * place + R / 2 ^ n % 2)] = n + 1 ∧ rv (n + 1) R = codeOf ns (ris ns)[ahead + (2 * place + R / 2 ^ n % 2)] := by
  have hb := h.bit hn
  have ha := h.ah
  subst ha
  generalize 2 * place + R / 2 ^ n % 2 = i at *
  obtain ⟨hk, hkey⟩ := key_block ns n i hp
  refine ⟨hk, hkey, ?_⟩
  have h1 := code_start ns (ris ns)[upN ns n + i]
  rw [start_at ns _ hk, hkey, sumTo_block ns n i hn (by omega)] at h1
  have h2 : rv (n + 1) R * 2 ^ (15 - (n + 1)) = codeOf ns (ris ns)[upN ns n + i] * 2 ^ (15 - (n + 1)) := by omega
  exact Nat.eq_of_mul_eq_mul_right (Nat.two_pow_pos _) h2

theorem Seek.next {ns : List Nat} {R n place ahead : Nat} (h : Seek ns R n place ahead) (hn : n < 15) (hp : ¬ 2 * place + R / 2 ^ n % 2 < ofN ns (n + 1)) :
    Seek ns R (n + 1) (2 * place + R / 2 ^ n % 2 - ofN ns (n + 1)) (ahead + ofN ns (n + 1)) := by
  have hb := h.bit hn
  have hs := upN_succ ns n
  refine ⟨by rw [h.ah, hs], ?_⟩
  generalize 2 * place + R / 2 ^ n % 2 = i at *
  have h1 := sumTo_block ns n (ofN ns (n + 1)) hn (Nat.le_refl _)
  rw [hs, h1, Nat.sub_mul]
  have h2 : ofN ns (n + 1) * 2 ^ (15 - (n + 1)) ≤ i * 2 ^ (15 - (n + 1)) := Nat.mul_le_mul_right _ (by omega)
  omega

/-- Where a symbol stands. -/
theorem place_of {ns : List Nat} {s : Nat} (h : s ∈ ris ns) : ∃ k, ∃ hk : k < (ris ns).length, (ris ns)[k] = s ∧ startOf ns s = sumTo ns k ∧ sumTo ns (k + 1) = startOf ns s + 2 ^ (15 - key ns s) := by
  obtain ⟨k, hk, rfl⟩ := List.getElem_of_mem h
  refine ⟨k, hk, rfl, start_at ns k hk, ?_⟩
  rw [sumTo_succ ns k hk, start_at ns k hk, uk, unit, if_neg (mem_ris.1 h).2]

theorem sumTo_le {ns : List Nat} {i j : Nat} (h : i ≤ j) : sumTo ns i ≤ sumTo ns j := by
  unfold sumTo
  have e : (ris ns).take i = ((ris ns).take j).take i := by rw [List.take_take, Nat.min_eq_left h]
  rw [e]
  conv => rhs; rw [← List.take_append_drop i ((ris ns).take j)]
  rw [List.map_append, List.sum_append]
  omega

/-- A code that fits is one that bits, read as 15 of them, fall into. -/
theorem fits_iff {ns : List Nat} {s Z : Nat} (_hs : s ∈ ris ns) (h15 : key ns s ≤ 15) : rv (key ns s) Z = codeOf ns s ↔ startOf ns s ≤ rv 15 Z ∧ rv 15 Z < startOf ns s + 2 ^ (15 - key ns s) := by
  rw [← rv_div (key ns s) 15 Z h15, ← code_start ns s]
  have hp : 0 < 2 ^ (15 - key ns s) := Nat.two_pow_pos _
  have hd := Nat.div_add_mod (rv 15 Z) (2 ^ (15 - key ns s))
  have hm := Nat.mod_lt (rv 15 Z) hp
  constructor
  · intro e
    rw [← e]
    have : rv 15 Z / 2 ^ (15 - key ns s) * 2 ^ (15 - key ns s) = 2 ^ (15 - key ns s) * (rv 15 Z / 2 ^ (15 - key ns s)) := Nat.mul_comm _ _
    omega
  · rintro ⟨h1, h2⟩
    refine Nat.le_antisymm ?_ ?_
    · have h3 : rv 15 Z < (codeOf ns s + 1) * 2 ^ (15 - key ns s) := by rw [Nat.add_mul, Nat.one_mul]; exact h2
      have := (Nat.div_lt_iff_lt_mul hp).2 h3
      omega
    · exact (Nat.le_div_iff_mul_le hp).2 h1

theorem fits_one {ns : List Nat} {s t Z : Nat} (hs : s ∈ ris ns) (ht : t ∈ ris ns) (h15 : ∀ x, key ns x ≤ 15) (h1 : rv (key ns s) Z = codeOf ns s) (h2 : rv (key ns t) Z = codeOf ns t) : s = t := by
  have e1 := (fits_iff hs (h15 s)).1 h1
  have e2 := (fits_iff ht (h15 t)).1 h2
  obtain ⟨i, hi, rfl, a1, a2⟩ := place_of hs
  obtain ⟨j, hj, rfl, b1, b2⟩ := place_of ht
  rcases Nat.lt_trichotomy i j with h | h | h
  · have := sumTo_le (ns := ns) (show i + 1 ≤ j from h); omega
  · subst h; rfl
  · have := sumTo_le (ns := ns) (show j + 1 ≤ i from h); omega

/-- If some code fits, the answer is its symbol. -/
theorem Ans.unique {ns : List Nat} {Z left sym long e s : Nat} (h15 : ∀ x, key ns x ≤ 15) (hZ : Z < 2 ^ left) (ha : Ans ns (min left (mxL ns)) (Z % 2 ^ (min left (mxL ns))) sym long e) (hm : mxL ns ≤ 15)
    (hs : s ∈ ris ns) (hl : key ns s ≤ left) (hf : rv (key ns s) Z = codeOf ns s) : e = 0 ∧ sym = s ∧ long = key ns s := by
  have hmx := key_le_mx ns s
  have h1 := (fits_iff hs (h15 s)).1 hf
  obtain ⟨k, hk, rfl, a1, a2⟩ := place_of hs
  rcases ha with ⟨e0, hsym, hlong, hlh, hr⟩ | ⟨_, _, _, hh, hsum⟩ | ⟨_, _, _, hh, hsum⟩
  · rw [rv_mod _ _ _ hlh, hlong] at hr
    have := fits_one hsym hs h15 hr hf
    exact ⟨e0, this, by rw [hlong, this]⟩
  · exfalso
    have hmin : min left (mxL ns) = left := by omega
    rw [hmin, rv_mod _ _ _ (Nat.le_refl _), ← rv_pad left 15 Z hZ (by omega)] at hsum
    have h2 := (upN_index ns left k hk).1 hl
    have h3 := sumTo_le (ns := ns) (show k + 1 ≤ upN ns left from h2)
    omega
  · exfalso
    rw [hh, rv_mod _ _ _ (Nat.le_refl _), ← rv_div (mxL ns) 15 Z hm] at hsum
    have h2 := Nat.div_mul_le_self (rv 15 Z) (2 ^ (15 - mxL ns))
    have h3 := sumTo_mono ns (k + 1)
    omega

end Go.Proofs.YtofhlnpbflkdlaaDoor

/-
  The reference's Rows: each symbol's code as a row of bits.
-/
namespace Go.Proofs.YtofhlnpbflkdlaaDoor
open Go.RowKit

/-- A number's lowest n bits, the highest one first. -/
def rowB : Nat → Nat → List Nat
  | 0, _ => []
  | n + 1, c => rowB n (c / 2) ++ [c % 2]

theorem rowB_length (n c : Nat) : (rowB n c).length = n := by
  induction n generalizing c with
  | zero => rfl
  | succ n ih => simp [rowB, ih]

theorem rowB_n2 (n c : Nat) : n2 (rowB n c) = rv n c := by
  induction n generalizing c with
  | zero => rfl
  | succ n ih =>
    simp only [rowB, rv]
    rw [n2_append, ih, rowB_length]
    simp [n2, Nat.mul_comm]
    omega

theorem rowB_bit (n c : Nat) : ∀ b ∈ rowB n c, b < 2 := by
  induction n generalizing c with
  | zero => simp [rowB]
  | succ n ih =>
    intro b hb
    rcases List.mem_append.1 hb with hb | hb
    · exact ih _ b hb
    · have : b = c % 2 := by simpa using hb
      omega

/-- What has come ahead of the symbol i on the round of the length n. -/
def pre (ns : List Nat) (n i t : Nat) : Prop := key ns t < n ∨ key ns t = n ∧ t < i
instance (ns : List Nat) (n i t : Nat) : Decidable (pre ns n i t) := inferInstanceAs (Decidable (_ ∨ _))

def sumP (ns : List Nat) (n i : Nat) : Nat := (((ris ns).filter (fun t => decide (pre ns n i t))).map (uk ns)).sum

theorem sumP_start (ns : List Nat) : sumP ns 1 0 = 0 := by
  unfold sumP
  rw [List.filter_eq_nil_iff.2]
  · rfl
  · intro t ht h
    have := (mem_ris.1 ht).2
    simp [pre] at h
    omega

theorem sumP_miss (ns : List Nat) (n i : Nat) (h : key ns i ≠ n) : sumP ns n (i + 1) = sumP ns n i := by
  unfold sumP
  congr 2
  refine List.filter_congr (fun t _ => decide_eq_decide.2 ?_)
  unfold pre
  constructor
  · rintro (h1 | ⟨h1, h2⟩)
    · exact .inl h1
    · refine .inr ⟨h1, ?_⟩
      by_cases e : t = i
      · subst e; exact absurd h1 h
      · omega
  · rintro (h1 | ⟨h1, h2⟩)
    · exact .inl h1
    · exact .inr ⟨h1, by omega⟩

theorem sumP_round (ns : List Nat) (n : Nat) : sumP ns n ns.length = sumP ns (n + 1) 0 := by
  unfold sumP
  congr 2
  refine List.filter_congr (fun t ht => decide_eq_decide.2 ?_)
  have := (mem_ris.1 ht).1
  unfold pre
  omega

theorem sumP_hit (ns : List Nat) (i : Nat) : sumP ns (key ns i) i = startOf ns i := by
  unfold sumP startOf
  congr 2

theorem sumP_next (ns : List Nat) (i : Nat) (hi : i ∈ ris ns) : sumP ns (key ns i) (i + 1) = startOf ns i + 2 ^ (15 - key ns i) := by
  obtain ⟨k, hk, rfl, a1, a2⟩ := place_of hi
  rw [← a2]
  unfold sumP sumTo
  congr 2
  have hs := ris_sorted ns
  have hsplit : (ris ns) = (ris ns).take k ++ (ris ns)[k] :: (ris ns).drop (k + 1) := by
    rw [← List.drop_eq_getElem_cons hk, List.take_append_drop]
  rw [List.take_succ_eq_append_getElem hk]
  generalize hx : (ris ns)[k] = x at *
  generalize hA : (ris ns).take k = A at *
  generalize (ris ns).drop (k + 1) = B at *
  rw [hsplit] at hs ⊢
  rw [List.filter_append, List.filter_cons_of_pos (by simp [pre])]
  have h1 : A.filter (fun t => decide (pre ns (key ns x) (x + 1) t)) = A := List.filter_eq_self.2 (fun a ha => by
    have := Sorted.cross hs a ha x (by simp)
    refine decide_eq_true ?_
    unfold pre
    unfold Lt at this
    omega)
  have h2 : B.filter (fun t => decide (pre ns (key ns x) (x + 1) t)) = [] := List.filter_eq_nil_iff.2 (fun b hb => by
    have := (List.pairwise_cons.1 (Sorted.right hs)).1 b hb
    intro hc
    have hc := of_decide_eq_true hc
    unfold pre at hc
    unfold Lt at this
    omega)
  rw [h1, h2]

/-- Rows of bytes and rows of slices of bytes lie apart. -/
abbrev BRow (B : Nat) := RowE B 43 slV

theorem BRow.apart {B : Nat} {w : World} {v v' : Value} {bs : List Nat} {vs : List (Option Addr × Nat × Nat)} (h : Row w v bs) (h' : BRow B w v' vs) {j g : Nat} (hj : v.ownBlock = some j) (hg : v'.ownBlock = some g) : j ≠ g := by
  rintro rfl
  rcases h.2 with ⟨rfl, _⟩ | ⟨g1, c1, cur1, rfl, _, e1, _⟩
  · simp [Value.ownBlock] at hj
  · rcases h'.2 with ⟨rfl, _⟩ | ⟨g2, c2, cur2, rfl, _, e2, _⟩
    · simp [Value.ownBlock] at hg
    · simp [Value.ownBlock] at hj hg
      subst hj hg
      rw [e1] at e2
      simp at e2

theorem Tryd.infoB : (Tryd.prog.info? 43).map (fun i => (i.zero, i.size, i.bytes)) = some (some (slV (none, 0, 0)), 1, 24) := by kernel_rfl

/-- Rows that lie in a row of slices: of the symbols that p tells. -/
structure RW (w0 w' : World) (go n : Nat) (ns : List Nat) (p : Nat → Prop) (rs : List (Option Addr × Nat × Nat)) : Prop where
  row : BRow w0.heap.size w' (.slice (some ⟨go, 0, none⟩) n n) rs
  have' : ∀ s (h : s < rs.length), p s → Row w' (slV rs[s]) (rowB (key ns s) (codeOf ns s)) ∧ ∀ k, (slV rs[s]).ownBlock = some k → w0.heap.size ≤ k
  none' : ∀ s (h : s < rs.length), ¬ p s → rs[s] = (none, 0, 0)
  same : Same w0 w'

theorem RW.mono {w0 w' : World} {go n : Nat} {ns : List Nat} {p q : Nat → Prop} {rs : List (Option Addr × Nat × Nat)} (h : RW w0 w' go n ns p rs) (hpq : ∀ s, s < rs.length → (p s ↔ q s)) : RW w0 w' go n ns q rs :=
  ⟨h.row, fun s hs hq => h.have' s hs ((hpq s hs).2 hq), fun s hs hq => h.none' s hs (fun hp => hq ((hpq s hs).1 hp)), h.same⟩

theorem RW.later {w0 w' w2 : World} {go n : Nat} {ns : List Nat} {p : Nat → Prop} {rs : List (Option Addr × Nat × Nat)} (h : RW w0 w' go n ns p rs) (hk : Same w' w2) : RW w0 w2 go n ns p rs :=
  ⟨h.row.same hk, fun s hs hp => ⟨(h.have' s hs hp).1.kept hk (fun _ _ f => f), (h.have' s hs hp).2⟩, h.none', Same.trans h.same hk⟩

/-- One row more. -/
theorem RW.put {w0 w' : World} {go n : Nat} {ns : List Nat} {p : Nat → Prop} {rs : List (Option Addr × Nat × Nat)} (h : RW w0 w' go n ns p rs) (i : Nat) (a : Option Addr) (l c : Nat) (_hi : i < rs.length) (hrow : Row w' (.slice a l c) (rowB (key ns i) (codeOf ns i))) (hb : ∀ k, (Value.slice a l c).ownBlock = some k → w0.heap.size ≤ k) :
    RW w0 (w'.setCell ⟨go, i, none⟩ (.slice a l c)) go n ns (fun s => s = i ∨ p s) (rs.set i (a, l, c)) := by
  have hk : Kept (· = go) w' (w'.setCell ⟨go, i, none⟩ (.slice a l c)) := (Kept.refl (· = go) w').setCell ⟨go, i, none⟩ _ (.inl rfl)
  have hgo : w0.heap.size ≤ go := h.row.ge rfl
  refine ⟨h.row.lay i (a, l, c), fun s hs hp => ?_, fun s hs hp => ?_, Same.then h.same hk (fun x hx e => by omega)⟩
  · rw [List.length_set] at hs
    by_cases e : i = s
    · subst e
      simp only [List.getElem_set_self]
      exact ⟨hrow.kept hk (fun k hk' e => BRow.apart hrow h.row hk' rfl e), hb⟩
    · simp only [List.getElem_set_ne e]
      have hp2 : p s := by rcases hp with h1 | h1; exact absurd h1.symm e; exact h1
      have h2 := h.have' s hs hp2
      exact ⟨h2.1.kept hk (fun k hk' e => BRow.apart h2.1 h.row hk' rfl e), h2.2⟩
  · rw [List.length_set] at hs
    have e : i ≠ s := fun e => hp (.inl e.symm)
    simp only [List.getElem_set_ne e]
    exact h.none' s hs (fun h1 => hp (.inr h1))

end Go.Proofs.YtofhlnpbflkdlaaDoor

/-
  Rows of bits, as the reference has them: plain arithmetic.
-/
namespace Go.Proofs.YtofhlnpbflkdlaaDoor

/-- The n lowest bits of v, the lowest first. -/
def bitsOf (v : Nat) : Nat → List Nat
  | 0 => []
  | n + 1 => bitsOf v n ++ [v / 2 ^ n % 2]

theorem bitsOf_length (v n : Nat) : (bitsOf v n).length = n := by
  induction n with
  | zero => rfl
  | succ n ih => simp [bitsOf, ih]

theorem bitsOf_lt (v n : Nat) : ∀ b ∈ bitsOf v n, b < 2 := by
  induction n with
  | zero => simp [bitsOf]
  | succ n ih =>
    intro b hb
    rcases List.mem_append.1 hb with h | h
    · exact ih b h
    · simp at h; omega

theorem bitsOf_n2 (v n : Nat) : n2 (bitsOf v n) = v % 2 ^ n := by
  induction n with
  | zero => simp [bitsOf, n2, Nat.mod_one]
  | succ n ih =>
    rw [more_bits v n 1, bitsOf, n2_append, ih, bitsOf_length]
    simp [n2]

theorem n2_zeros (n : Nat) : n2 (List.replicate n 0) = 0 := by
  induction n with
  | zero => rfl
  | succ n ih => simp [List.replicate_succ, n2, ih]

theorem n2_put (ls : List Nat) (v n : Nat) (h : v < 2 ^ n) : n2 (ls ++ bitsOf v n) = n2 ls + v * 2 ^ ls.length := by
  rw [n2_append, bitsOf_n2, Nat.mod_eq_of_lt h, Nat.mul_comm]

theorem n2_align (ls : List Nat) (n : Nat) : n2 (ls ++ List.replicate n 0) = n2 ls := by
  rw [n2_append, n2_zeros]; simp

theorem n2_take_succ (l : List Nat) (t : Nat) (h : t < l.length) : n2 (l.take (t + 1)) = n2 (l.take t) + l[t] * 2 ^ t := by
  rw [List.take_succ_eq_append_getElem h, n2_append]
  simp [n2, Nat.mul_comm, Nat.min_eq_left (Nat.le_of_lt h)]

/-- The first j bytes of bits. -/
def outOf (ls : List Nat) : Nat → List Nat
  | 0 => []
  | j + 1 => outOf ls j ++ [n2 ((ls.drop (8 * j)).take 8)]

theorem outOf_length (ls : List Nat) (j : Nat) : (outOf ls j).length = j := by
  induction j with
  | zero => rfl
  | succ j ih => simp [outOf, ih]

theorem n2_take_lt (ls : List Nat) (h : ∀ b ∈ ls, b < 2) (i t : Nat) : n2 ((ls.drop i).take t) < 2 ^ t := by
  have h1 := n2_lt ((ls.drop i).take t) (fun b hb => h b (List.mem_of_mem_drop (List.mem_of_mem_take hb)))
  exact Nat.lt_of_lt_of_le h1 (Nat.pow_le_pow_right (by omega) (List.length_take_le _ _))

theorem outOf_lt (ls : List Nat) (h : ∀ b ∈ ls, b < 2) (j : Nat) : ∀ b ∈ outOf ls j, b < 256 := by
  induction j with
  | zero => simp [outOf]
  | succ j ih =>
    intro b hb
    rcases List.mem_append.1 hb with h' | h'
    · exact ih b h'
    · simp at h'; subst h'; exact n2_take_lt ls h _ 8

theorem outOf_n256 (ls : List Nat) (j : Nat) (hj : 8 * j ≤ ls.length + 7) : n256 (outOf ls j) = n2 (ls.take (8 * j)) := by
  induction j with
  | zero => simp [outOf, n256, n2]
  | succ j ih =>
    have e : ls.take (8 * (j + 1)) = ls.take (8 * j) ++ (ls.drop (8 * j)).take 8 := by
      rw [Nat.mul_succ, List.take_add]
    rw [e, n2_append, outOf, n256_append, ih (by omega), outOf_length, List.length_take, Nat.min_eq_left (by omega), pow8]
    simp [n256]

/-- All bytes. -/
theorem outOf_all (ls : List Nat) (j : Nat) (h1 : ls.length ≤ 8 * j) (h2 : 8 * j ≤ ls.length + 7) : n256 (outOf ls j) = n2 ls := by
  rw [outOf_n256 ls j h2, List.take_of_length_le h1]

/-- The bits of bytes: of each byte, from the first on, its eight bits. -/
def ofBytes : List Nat → List Nat
  | [] => []
  | b :: r => bitsOf b 8 ++ ofBytes r

theorem ofBytes_append (a b : List Nat) : ofBytes (a ++ b) = ofBytes a ++ ofBytes b := by
  induction a with
  | nil => rfl
  | cons x r ih => simp [ofBytes, ih]

theorem ofBytes_length (l : List Nat) : (ofBytes l).length = 8 * l.length := by
  induction l with
  | nil => rfl
  | cons x r ih => simp [ofBytes, ih, bitsOf_length]; omega

theorem ofBytes_lt (l : List Nat) : ∀ b ∈ ofBytes l, b < 2 := by
  induction l with
  | nil => simp [ofBytes]
  | cons x r ih =>
    intro b hb
    rcases List.mem_append.1 hb with h | h
    · exact bitsOf_lt x 8 b h
    · exact ih b h

theorem ofBytes_n2 (l : List Nat) (h : ∀ b ∈ l, b < 256) : n2 (ofBytes l) = n256 l := by
  induction l with
  | nil => rfl
  | cons x r ih =>
    have h1 := h x (by simp)
    rw [ofBytes, n2_append, bitsOf_n2, bitsOf_length, ih (fun b hb => h b (by simp [hb])), n256, show (2 : Nat) ^ 8 = 256 from rfl, Nat.mod_eq_of_lt h1]

/-- Some bits of a row, as a number. -/
theorem n2_part (ls : List Nat) (h : ∀ b ∈ ls, b < 2) (a n : Nat) (hl : a + n ≤ ls.length) : n2 ((ls.drop a).take n) = n2 ls / 2 ^ a % 2 ^ n := by
  have e1 : n2 ls = n2 (ls.take a) + 2 ^ a * n2 (ls.drop a) := by
    have := n2_append (ls.take a) (ls.drop a)
    rw [List.take_append_drop, List.length_take, Nat.min_eq_left (by omega)] at this
    exact this
  have h1 : n2 (ls.take a) < 2 ^ a := by
    have := n2_lt (ls.take a) (fun b hb => h b (List.mem_of_mem_take hb))
    rw [List.length_take, Nat.min_eq_left (by omega)] at this
    exact this
  have e2 : n2 (ls.drop a) = n2 ((ls.drop a).take n) + 2 ^ n * n2 ((ls.drop a).drop n) := by
    have := n2_append ((ls.drop a).take n) ((ls.drop a).drop n)
    rw [List.take_append_drop, List.length_take, List.length_drop, Nat.min_eq_left (by omega)] at this
    exact this
  have h2 := n2_take_lt ls h a n
  rw [e1, Nat.add_mul_div_left _ _ (Nat.two_pow_pos _), Nat.div_eq_of_lt h1, Nat.zero_add, e2, Nat.add_mul_mod_self_left, Nat.mod_eq_of_lt (show n2 (List.take n (List.drop a ls)) < 2 ^ n from h2)]

end Go.Proofs.YtofhlnpbflkdlaaDoor

/-
  What the reference's Next answers, and that it is what the search answers.
-/
namespace Go.Proofs.YtofhlnpbflkdlaaDoor

theorem n2_inj (a b : List Nat) (hl : a.length = b.length) (ha : ∀ x ∈ a, x < 2) (hb : ∀ x ∈ b, x < 2) (h : n2 a = n2 b) : a = b := by
  induction a generalizing b with
  | nil => cases b with
    | nil => rfl
    | cons y r => simp at hl
  | cons x l ih => cases b with
    | nil => simp at hl
    | cons y r =>
      have hx := ha x (by simp)
      have hy := hb y (by simp)
      simp only [n2] at h
      have e1 : x = y := by omega
      have e2 : n2 l = n2 r := by omega
      rw [e1, ih r (by simpa using hl) (fun z hz => ha z (by simp [hz])) (fun z hz => hb z (by simp [hz])) e2]

theorem code_lt2 {ns : List Nat} {s : Nat} (hm : measure ns ≤ 32768) (hs : s ∈ ris ns) (h15 : key ns s ≤ 15) : codeOf ns s < 2 ^ key ns s := by
  obtain ⟨k, hk, rfl, a1, a2⟩ := place_of hs
  have h1 := sumTo_mono ns (k + 1)
  have h2 := code_start ns (ris ns)[k]
  have h3 : (codeOf ns (ris ns)[k] + 1) * 2 ^ (15 - key ns (ris ns)[k]) ≤ 2 ^ key ns (ris ns)[k] * 2 ^ (15 - key ns (ris ns)[k]) := by
    rw [← Nat.pow_add, show key ns (ris ns)[k] + (15 - key ns (ris ns)[k]) = 15 by omega, Nat.add_mul, Nat.one_mul]
    have : (2 : Nat) ^ 15 = 32768 := by decide
    omega
  have := Nat.le_of_mul_le_mul_right h3 (Nat.two_pow_pos _)
  omega

/-- A symbol's row; whether it stands at the head of what is left; whether what is left stands at its head. -/
def rowOf (ns : List Nat) (s : Nat) : List Nat := rowB (key ns s) (codeOf ns s)
def Fit (ns t : List Nat) (s : Nat) : Prop := key ns s ≠ 0 ∧ rowOf ns s <+: t
def Beg (ns t : List Nat) (s : Nat) : Prop := key ns s ≠ 0 ∧ t <+: rowOf ns s

/-- What the reference's Next answers. -/
def RNext (ns t : List Nat) (is k g : Nat) : Prop :=
  (g = 0 ∧ is < ns.length ∧ Fit ns t is ∧ k = key ns is ∧ ∀ s, s < is → ¬ Fit ns t s) ∨
  (g = 10 ∧ is = 0 ∧ k = 0 ∧ (∀ s, s < ns.length → ¬ Fit ns t s) ∧ ∃ s, s < ns.length ∧ Beg ns t s) ∨
  (g = 32 ∧ is = 0 ∧ k = 0 ∧ (∀ s, s < ns.length → ¬ Fit ns t s) ∧ ∀ s, s < ns.length → ¬ Beg ns t s)

theorem rowOf_length (ns : List Nat) (s : Nat) : (rowOf ns s).length = key ns s := rowB_length _ _
theorem rowOf_n2 (ns : List Nat) (s : Nat) : n2 (rowOf ns s) = rv (key ns s) (codeOf ns s) := rowB_n2 _ _
theorem rowOf_bit (ns : List Nat) (s : Nat) : ∀ b ∈ rowOf ns s, b < 2 := rowB_bit _ _

/-- The number of what is left. -/
theorem left_n2 (bs : List Nat) (hb : ∀ b ∈ bs, b < 256) (c n : Nat) (h : c + n ≤ 8 * bs.length) : n2 (((ofBytes bs).drop c).take n) = n256 bs / 2 ^ c % 2 ^ n := by
  rw [n2_part (ofBytes bs) (ofBytes_lt bs) c n (by rw [ofBytes_length]; exact h), ofBytes_n2 bs hb]

theorem left_length (bs : List Nat) (c : Nat) : ((ofBytes bs).drop c).length = 8 * bs.length - c := by rw [List.length_drop, ofBytes_length]

theorem fit_iff {ns : List Nat} {s : Nat} (hm : measure ns ≤ 32768) (hs : s ∈ ris ns) (h15 : key ns s ≤ 15) (bs : List Nat) (hb : ∀ b ∈ bs, b < 256) (c : Nat) (hc : c ≤ 8 * bs.length) :
    Fit ns ((ofBytes bs).drop c) s ↔ key ns s ≤ 8 * bs.length - c ∧ rv (key ns s) (n256 bs / 2 ^ c) = codeOf ns s := by
  have hlen := left_length bs c
  have hcl := code_lt2 hm hs h15
  unfold Fit
  rw [List.prefix_iff_eq_take, rowOf_length]
  constructor
  · rintro ⟨_, h⟩
    have hl := congrArg List.length h
    rw [rowOf_length, List.length_take, hlen] at hl
    have hk : key ns s ≤ 8 * bs.length - c := by omega
    refine ⟨hk, ?_⟩
    have h2 := congrArg n2 h
    rw [rowOf_n2, left_n2 bs hb c _ (by omega)] at h2
    rw [← rv_mod (key ns s) (key ns s) _ (Nat.le_refl _), ← h2, rv_rv, Nat.mod_eq_of_lt hcl]
  · rintro ⟨hk, h⟩
    refine ⟨(mem_ris.1 hs).2, ?_⟩
    refine n2_inj _ _ (by rw [rowOf_length, List.length_take, hlen]; omega) (rowOf_bit ns s) (fun x hx => ofBytes_lt bs x (List.mem_of_mem_drop (List.mem_of_mem_take hx))) ?_
    rw [rowOf_n2, left_n2 bs hb c _ (by omega), ← h, rv_rv]

/-- Bits that are fewer than a code's, and that read with noughts behind them as this code, begin it. -/
theorem beg_of {ns : List Nat} {s : Nat} (hs : s ∈ ris ns) (bs : List Nat) (hb : ∀ b ∈ bs, b < 256) (c : Nat) (hc : c ≤ 8 * bs.length) (hk : 8 * bs.length - c < key ns s) (h : rv (key ns s) (n256 bs / 2 ^ c) = codeOf ns s) (hZ : n256 bs / 2 ^ c < 2 ^ (8 * bs.length - c)) : Beg ns ((ofBytes bs).drop c) s := by
  refine ⟨(mem_ris.1 hs).2, ?_⟩
  have hlen := left_length bs c
  have e : rowOf ns s = (ofBytes bs).drop c ++ List.replicate (key ns s - (8 * bs.length - c)) 0 := by
    refine n2_inj _ _ (by rw [rowOf_length, List.length_append, hlen, List.length_replicate]; omega) (rowOf_bit ns s) ?_ ?_
    · intro x hx
      rcases List.mem_append.1 hx with hx | hx
      · exact ofBytes_lt bs x (List.mem_of_mem_drop hx)
      · have := List.eq_of_mem_replicate hx; omega
    · have h1 := left_n2 bs hb c (8 * bs.length - c) (by omega)
      rw [List.take_of_length_le (by omega), Nat.mod_eq_of_lt hZ] at h1
      rw [n2_align, h1, rowOf_n2, ← h, rv_rv, Nat.mod_eq_of_lt (Nat.lt_of_lt_of_le hZ (Nat.pow_le_pow_right (by omega) (by omega)))]
  rw [e]
  exact List.prefix_append _ _

theorem find_place (ns : List Nat) (X n : Nat) (hn : n ≤ (ris ns).length) (h : X < sumTo ns n) : ∃ k, k < n ∧ sumTo ns k ≤ X ∧ X < sumTo ns (k + 1) := by
  induction n with
  | zero => simp [sumTo] at h
  | succ n ih =>
    by_cases h1 : X < sumTo ns n
    · obtain ⟨k, hk, h2⟩ := ih (by omega) h1
      exact ⟨k, by omega, h2⟩
    · exact ⟨n, by omega, by omega, h⟩

/-- One symbol alone has the length 1. -/
theorem alone_mx {ns : List Nat} (hu : (ris ns).length = 1) (hm : measure ns = 16384) (h15 : ∀ s, key ns s ≤ 15) : mxL ns ≤ 1 := by
  rcases (foldl_max ns 0).2.2 with h | h
  · unfold mxL; omega
  · obtain ⟨s, hs, e⟩ := List.getElem_of_mem h
    have ek : key ns s = mxL ns := by rw [key_get hs]; exact e
    by_cases h0 : mxL ns = 0
    · omega
    · have hr : s ∈ ris ns := mem_ris.2 ⟨hs, by omega⟩
      obtain ⟨k, hk, rfl, a1, a2⟩ := place_of hr
      have hk0 : k = 0 := by omega
      subst hk0
      have h1 := sumTo_all ns
      rw [hu] at h1
      have h2 : sumTo ns 0 = 0 := by simp [sumTo]
      have h3 : 2 ^ (15 - key ns (ris ns)[0]) = 16384 := by
        have : sumTo ns (0 + 1) = measure ns := h1
        omega
      have h4 := h15 (ris ns)[0]
      refine Classical.byContradiction (fun hc => ?_)
      have h5 : 2 ^ (15 - key ns (ris ns)[0]) ≤ 2 ^ 13 := Nat.pow_le_pow_right (by omega) (by omega)
      have h6 : (2 : Nat) ^ 13 = 8192 := by decide
      omega

theorem usedN_ris2 (ns : List Nat) : usedN ns = (ris ns).length := by
  have h : ∀ i, i ≤ ns.length → usedN (ns.take i) = (usedTo ns i).length := by
    intro i
    induction i with
    | zero => intro _; simp [usedN, usedTo]
    | succ i ih =>
      intro hi
      rw [List.take_succ_eq_append_getElem (by omega), usedN_snoc, ih (by omega), usedTo_succ, List.length_append, ← key_get (by omega)]
      by_cases h : key ns i = 0 <;> simp [h]
  have h2 := h ns.length (Nat.le_refl _)
  rw [List.take_length] at h2
  rw [h2, (ris_perm ns).length_eq]
  rfl

/-- The two answers are the same. -/
theorem next_same {zs : List Int} {ns : List Nat} (hg : Good zs ns) (bs : List Nat) (hb : ∀ b ∈ bs, b < 256) (c : Nat) (hc : c ≤ 8 * bs.length) (hZ : n256 bs / 2 ^ c < 2 ^ (8 * bs.length - c)) {sym long er is k g : Nat}
    (ha : Ans ns (min (8 * bs.length - c) (mxL ns)) (n256 bs / 2 ^ c % 2 ^ (min (8 * bs.length - c) (mxL ns))) sym long er) (hr : RNext ns ((ofBytes bs).drop c) is k g) : is = sym ∧ k = long ∧ g = er := by
  have h15 := hg.key_le
  have hm := hg.measure_le
  have hmx : mxL ns ≤ 15 := mx_le ns 15 hg.le
  have hlen := left_length bs c
  have hfit0 : ∀ s, s < ns.length → Fit ns ((ofBytes bs).drop c) s → er = 0 ∧ sym = s ∧ long = key ns s := by
    intro s hs hf
    have hsr : s ∈ ris ns := mem_ris.2 ⟨hs, hf.1⟩
    obtain ⟨h1, h2⟩ := (fit_iff hm hsr (h15 s) bs hb c hc).1 hf
    exact Ans.unique h15 hZ ha hmx hsr h1 h2
  have hok0 : er = 0 → ∃ s, s < ns.length ∧ Fit ns ((ofBytes bs).drop c) s := by
    intro e0
    rcases ha with ⟨_, hs, hlong, hle, hrv⟩ | ⟨e, _⟩ | ⟨e, _⟩
    · refine ⟨sym, (mem_ris.1 hs).1, (fit_iff hm hs (h15 sym) bs hb c hc).2 ⟨by omega, ?_⟩⟩
      rw [rv_mod _ _ _ hle, hlong] at hrv
      exact hrv
    · omega
    · omega
  have hbeg10 : er = 10 → ∃ s, s < ns.length ∧ Beg ns ((ofBytes bs).drop c) s := by
    intro e10
    rcases ha with ⟨e, _⟩ | ⟨_, _, _, hlt, hsum⟩ | ⟨e, _⟩
    · omega
    · have hmin : min (8 * bs.length - c) (mxL ns) = 8 * bs.length - c := by omega
      rw [hmin, rv_mod _ _ _ (Nat.le_refl _), ← rv_pad _ 15 _ hZ (by omega)] at hsum
      rw [hmin] at hlt
      have hX : rv 15 (n256 bs / 2 ^ c) < measure ns := by
        have hk := hg.ok
        unfold chkN at hk
        have hall : rv 15 (n256 bs / 2 ^ c) < 32768 := rv_lt 15 _
        split at hk
        · omega
        · split at hk
          · omega
          · split at hk
            · rename_i _ _ h3
              have h4 := alone_mx (by rw [← usedN_ris2]; exact h3.1) h3.2 h15
              have h5 : 8 * bs.length - c = 0 := by omega
              rw [rv_pad _ 15 _ hZ (by omega), h5]
              simp [rv, h3.2]
            · omega
      rw [← sumTo_all] at hX
      obtain ⟨i, hi, h1, h2⟩ := find_place ns _ _ (Nat.le_refl _) hX
      have hmem : (ris ns)[i] ∈ ris ns := List.getElem_mem hi
      have hkey : 8 * bs.length - c < key ns (ris ns)[i] := by
        refine Classical.byContradiction (fun hcon => ?_)
        have h3 := (upN_index ns (8 * bs.length - c) i hi).1 (by omega)
        have h4 := sumTo_le (ns := ns) (show i + 1 ≤ upN ns (8 * bs.length - c) from h3)
        omega
      refine ⟨(ris ns)[i], (mem_ris.1 hmem).1, beg_of hmem bs hb c hc hkey ?_ hZ⟩
      refine (fits_iff hmem (h15 _)).2 ?_
      rw [start_at ns i hi]
      have h5 := sumTo_succ ns i hi
      rw [uk, unit, if_neg (mem_ris.1 hmem).2] at h5
      omega
    · omega
  have hno32 : er = 32 → ∀ s, s < ns.length → ¬ Beg ns ((ofBytes bs).drop c) s := by
    intro e32 s hs hbg
    rcases ha with ⟨e, _⟩ | ⟨e, _⟩ | ⟨_, _, _, hh, _⟩
    · omega
    · omega
    · have h1 := hbg.2.length_le
      rw [rowOf_length, hlen] at h1
      have h2 := key_le_mx ns s
      have e1 : (ofBytes bs).drop c = rowOf ns s := hbg.2.eq_of_length (by rw [rowOf_length, hlen]; omega)
      have h3 := hfit0 s hs ⟨hbg.1, by rw [e1]; exact List.prefix_refl _⟩
      omega
  have hcases : er = 0 ∨ (er = 10 ∧ sym = 0 ∧ long = 0) ∨ (er = 32 ∧ sym = 0 ∧ long = 0) := by
    rcases ha with ⟨e, _⟩ | ⟨e, e1, e2, _⟩ | ⟨e, e1, e2, _⟩
    · exact .inl e
    · exact .inr (.inl ⟨e, e1, e2⟩)
    · exact .inr (.inr ⟨e, e1, e2⟩)
  rcases hr with ⟨rfl, hi, hf, rfl, _⟩ | ⟨rfl, rfl, rfl, hnf, ⟨s, hs, hbg⟩⟩ | ⟨rfl, rfl, rfl, hnf, hnb⟩
  · obtain ⟨h1, h2, h3⟩ := hfit0 is hi hf
    exact ⟨h2.symm, h3.symm, h1.symm⟩
  · rcases hcases with h | ⟨h1, h2, h3⟩ | ⟨h1, _⟩
    · obtain ⟨t, ht, hf⟩ := hok0 h
      exact absurd hf (hnf t ht)
    · exact ⟨h2.symm, h3.symm, h1.symm⟩
    · exact absurd hbg (hno32 h1 s hs)
  · rcases hcases with h | ⟨h1, _⟩ | ⟨h1, h2, h3⟩
    · obtain ⟨t, ht, hf⟩ := hok0 h
      exact absurd hf (hnf t ht)
    · obtain ⟨s, hs, hbg⟩ := hbeg10 h1
      exact absurd hbg (hnb s hs)
    · exact ⟨h2.symm, h3.symm, h1.symm⟩

/-- The same as a function. -/
def fitB (ns t : List Nat) (s : Nat) : Bool := key ns s != 0 && (rowOf ns s).isPrefixOf t
def begB (ns t : List Nat) (s : Nat) : Bool := key ns s != 0 && t.isPrefixOf (rowOf ns s)
def nextF (ns t : List Nat) : Nat × Nat × Nat :=
  match (List.range ns.length).find? (fitB ns t) with
  | some s => (s, key ns s, 0)
  | none => if (List.range ns.length).any (begB ns t) = true then (0, 0, 10) else (0, 0, 32)

theorem fitB_iff (ns t : List Nat) (s : Nat) : fitB ns t s = true ↔ Fit ns t s := by simp [fitB, Fit, List.isPrefixOf_iff_prefix]
theorem begB_iff (ns t : List Nat) (s : Nat) : begB ns t s = true ↔ Beg ns t s := by simp [begB, Beg, List.isPrefixOf_iff_prefix]

theorem nextF_is (ns t : List Nat) : RNext ns t (nextF ns t).1 (nextF ns t).2.1 (nextF ns t).2.2 := by
  unfold nextF
  split
  · rename_i s h
    rw [List.find?_range_eq_some] at h
    obtain ⟨h1, h2, h3⟩ := h
    refine .inl ⟨rfl, by simpa using h2, (fitB_iff ns t s).1 h1, rfl, fun j hj hf => ?_⟩
    have := h3 j hj
    rw [(fitB_iff ns t j).2 hf] at this
    cases this
  · rename_i h
    rw [List.find?_range_eq_none] at h
    have hnf : ∀ s, s < ns.length → ¬ Fit ns t s := fun s hs hf => by
      have := h s hs
      rw [(fitB_iff ns t s).2 hf] at this
      cases this
    split
    · rename_i h2
      obtain ⟨s, hs, hb⟩ := List.any_eq_true.1 h2
      exact .inr (.inl ⟨rfl, rfl, rfl, hnf, s, by simpa using hs, (begB_iff ns t s).1 hb⟩)
    · rename_i h2
      refine .inr (.inr ⟨rfl, rfl, rfl, hnf, fun s hs hb => h2 ?_⟩)
      exact List.any_eq_true.2 ⟨s, by simpa using hs, (begB_iff ns t s).2 hb⟩

theorem RNext.one {ns t : List Nat} {a b c a' b' c' : Nat} (h : RNext ns t a b c) (h' : RNext ns t a' b' c') : a = a' ∧ b = b' ∧ c = c' := by
  rcases h with ⟨rfl, h1, h2, rfl, h3⟩ | ⟨rfl, rfl, rfl, h1, h2⟩ | ⟨rfl, rfl, rfl, h1, h2⟩ <;> rcases h' with ⟨rfl, k1, k2, rfl, k3⟩ | ⟨rfl, rfl, rfl, k1, k2⟩ | ⟨rfl, rfl, rfl, k1, k2⟩
  · have e : a = a' := by
      rcases Nat.lt_trichotomy a a' with h | h | h
      · exact absurd h2 (k3 a h)
      · exact h
      · exact absurd k2 (h3 a' h)
    subst e
    exact ⟨rfl, rfl, rfl⟩
  · exact absurd h2 (k1 a h1)
  · exact absurd h2 (k1 a h1)
  · exact absurd k2 (h1 a' k1)
  · exact ⟨rfl, rfl, rfl⟩
  · obtain ⟨s, hs, hb⟩ := h2
    exact absurd hb (k2 s hs)
  · exact absurd k2 (h1 a' k1)
  · obtain ⟨s, hs, hb⟩ := k2
    exact absurd hb (h2 s hs)
  · exact ⟨rfl, rfl, rfl⟩

theorem nextF_of {ns t : List Nat} {is k g : Nat} (h : RNext ns t is k g) : nextF ns t = (is, k, g) := by
  obtain ⟨h1, h2, h3⟩ := (nextF_is ns t).one h
  exact Prod.ext h1 (Prod.ext h2 h3)

end Go.Proofs.YtofhlnpbflkdlaaDoor

/-
  Layer 4's answers as functions: steps that say lengths, lengths that are said in steps, heads that are read.
-/
namespace Go.Proofs.YtofhlnpbflkdlaaDoor

/-- The last one. -/
def lastN (l : List Nat) : Nat := l.getD (l.length - 1) 0

theorem lastN_mem (l : List Nat) (h : 0 < l.length) : lastN l ∈ l := by
  have hl : l.length - 1 < l.length := by omega
  have e : lastN l = l[l.length - 1] := by simp [lastN, List.getD, hl]
  rw [e]
  exact List.getElem_mem _

/-- Which length a step says, and how many times. -/
def saysM (s : Int × Int) (l : List Nat) : Option (Nat × Nat) :=
  if 0 ≤ s.1 ∧ s.1 ≤ 15 ∧ s.2 = 0 then some (s.1.toNat, 1)
  else if s.1 = 16 ∧ 0 ≤ s.2 ∧ s.2 ≤ 3 ∧ 0 < l.length then some (lastN l, s.2.toNat + 3)
  else if s.1 = 17 ∧ 0 ≤ s.2 ∧ s.2 ≤ 7 then some (0, s.2.toNat + 3)
  else if s.1 = 18 ∧ 0 ≤ s.2 ∧ s.2 ≤ 127 then some (0, s.2.toNat + 11)
  else none

theorem saysM_le {s : Int × Int} {l : List Nat} {v k : Nat} (h : saysM s l = some (v, k)) (hl : ∀ x ∈ l, x ≤ 15) : v ≤ 15 ∧ 1 ≤ k ∧ k ≤ 138 := by
  unfold saysM at h
  split at h
  · simp at h; omega
  · split at h
    · simp at h
      obtain ⟨rfl, rfl⟩ := h
      rename_i _ h2
      refine ⟨?_, by omega, by omega⟩
      exact hl _ (lastN_mem l h2.2.2.2)
    · split at h
      · simp at h; omega
      · split at h
        · simp at h; omega
        · cases h

/-- Lengths with those that a step says, n at most. -/
def withM (l : List Nat) (s : Int × Int) (n : Nat) : Option (List Nat) :=
  match saysM s l with
  | none => none
  | some (v, k) => if n < l.length + k then none else some (l ++ List.replicate k v)

theorem withM_grows {l m : List Nat} {s : Int × Int} {n : Nat} (h : withM l s n = some m) (hl : ∀ x ∈ l, x ≤ 15) : l.length < m.length ∧ m.length ≤ n ∧ ∀ x ∈ m, x ≤ 15 := by
  unfold withM at h
  split at h
  · cases h
  · rename_i v k hs
    have h1 := saysM_le hs hl
    split at h
    · cases h
    · simp only [Option.some.injEq] at h
      subst h
      rw [List.length_append, List.length_replicate]
      refine ⟨by omega, by omega, fun x hx => ?_⟩
      rcases List.mem_append.1 hx with hx | hx
      · exact hl x hx
      · have := List.eq_of_mem_replicate hx; omega

/-- Steps, one behind the other. -/
def runM (n : Nat) : List Nat → List (Int × Int) → Option (List Nat)
  | l, [] => some l
  | l, s :: r => match withM l s n with
    | none => none
    | some m => runM n m r

theorem runM_snoc (n : Nat) (l : List Nat) (ss : List (Int × Int)) (s : Int × Int) : runM n l (ss ++ [s]) = (runM n l ss).bind (fun m => withM m s n) := by
  induction ss generalizing l with
  | nil =>
    simp only [List.nil_append, runM, Option.bind_some]
    cases withM l s n <;> rfl
  | cons a r ih =>
    simp only [List.cons_append, runM]
    cases withM l a n with
    | none => rfl
    | some m => exact ih m

theorem runM_le {n : Nat} {l m : List Nat} {ss : List (Int × Int)} (h : runM n l ss = some m) (hl : ∀ x ∈ l, x ≤ 15) (hn : l.length ≤ n) : m.length ≤ n ∧ ∀ x ∈ m, x ≤ 15 := by
  induction ss generalizing l with
  | nil => simp only [runM, Option.some.injEq] at h; subst h; exact ⟨hn, hl⟩
  | cons a r ih =>
    simp only [runM] at h
    cases hw : withM l a n with
    | none => rw [hw] at h; cases h
    | some k =>
      rw [hw] at h
      have := withM_grows hw hl
      exact ih h this.2.2 this.2.1

/-- Once refused, refused. -/
theorem runM_none {n : Nat} {l : List Nat} (ss tt : List (Int × Int)) (h : runM n l ss = none) : runM n l (ss ++ tt) = none := by
  induction ss generalizing l with
  | nil => cases h
  | cons a r ih =>
    simp only [List.cons_append, runM] at h ⊢
    cases hw : withM l a n with
    | none => rfl
    | some m => rw [hw] at h; exact ih h

/-- Unpack's answer: an error, or the lengths. -/
def unpM (ss : List (Int × Int)) (n : Int) : Except Nat (List Nat) :=
  if n < 0 ∨ 316 < n then .error 1
  else match runM n.toNat [] ss with
    | none => .error 41
    | some l => if l.length < n.toNat then .error 41 else .ok l

/-- Noughts, so many; a length, so many times again. -/
def zerosM (n : Nat) : List (Int × Int) :=
  if 11 ≤ n then (18, ((min n 138 - 11 : Nat) : Int)) :: zerosM (n - min n 138)
  else if 3 ≤ n then [(17, ((n - 3 : Nat) : Int))] else List.replicate n (0, 0)
termination_by n
decreasing_by omega

def againM (v n : Nat) : List (Int × Int) :=
  if 3 ≤ n then (16, ((min n 6 - 3 : Nat) : Int)) :: againM v (n - min n 6) else List.replicate n ((v : Int), 0)
termination_by n
decreasing_by omega

/-- A length, so many times. -/
def sayM (v n : Nat) : List (Int × Int) := if v = 0 then zerosM n else ((v : Int), 0) :: againM v (n - 1)

/-- How often the first length stands. -/
def frontN (v : Nat) (l : List Nat) : Nat := (l.takeWhile (fun x => decide (x = v))).length

theorem frontN_le (v : Nat) (l : List Nat) : frontN v l ≤ l.length := by
  exact (List.takeWhile_prefix _).length_le

/-- Pack's steps. -/
def packM : List Nat → List (Int × Int)
  | [] => []
  | v :: r => sayM v (1 + frontN v r) ++ packM (r.drop (frontN v r))
termination_by l => l.length
decreasing_by simp; omega

theorem packM_cons (v : Nat) (r : List Nat) : packM (v :: r) = sayM v (1 + frontN v r) ++ packM (r.drop (frontN v r)) := by rw [packM]

/-- Pack's answer. -/
def packA (zs : List Int) : Except Nat (List (Int × Int)) :=
  if zs.length ≤ 316 ∧ ∀ z ∈ zs, 0 ≤ z ∧ z ≤ 15 then .ok (packM (zs.map Int.toNat)) else .error 1

/-- How many bits a step's number has. -/
def xbits (sym : Nat) : Nat := if sym = 16 then 2 else if sym = 17 then 3 else if sym = 18 then 7 else 0

/-- The number of so many bits at a place. -/
def numAt (ls : List Nat) (c n : Nat) : Nat := n2 ((ls.drop c).take n)

/-- One step of a head. -/
def stepF (ns ls : List Nat) (c : Nat) : Except Nat ((Nat × Nat) × Nat) :=
  if (nextF ns (ls.drop c)).2.2 ≠ 0 then .error (nextF ns (ls.drop c)).2.2
  else if ls.length < c + (nextF ns (ls.drop c)).2.1 + xbits (nextF ns (ls.drop c)).1 then .error 10
  else .ok (((nextF ns (ls.drop c)).1, numAt ls (c + (nextF ns (ls.drop c)).2.1) (xbits (nextF ns (ls.drop c)).1)), c + (nextF ns (ls.drop c)).2.1 + xbits (nextF ns (ls.drop c)).1)

/-- The steps of a head, till N lengths are said. -/
def bodyF (ns ls : List Nat) (N : Nat) : Nat → List Nat → Nat → Except Nat (List Nat × Nat)
  | 0, l, c => .ok (l, c)
  | f + 1, l, c =>
    if N ≤ l.length then .ok (l, c)
    else match stepF ns ls c with
      | .error e => .error e
      | .ok (s, c') => match withM l ((s.1 : Int), (s.2 : Int)) N with
        | none => .error 41
        | some m => bodyF ns ls N f m c'

def ord : List Nat := [16, 17, 18, 0, 8, 7, 9, 6, 10, 5, 11, 4, 12, 3, 13, 2, 14, 1, 15]

/-- The lengths of the steps' codes, when i of them are read. -/
def codesF (ls : List Nat) (c : Nat) : Nat → List Nat
  | 0 => List.replicate 19 0
  | i + 1 => (codesF ls c i).set (ord.getD i 0) (numAt ls (c + 3 * i) 3)

theorem codesF_length (ls : List Nat) (c i : Nat) : (codesF ls c i).length = 19 := by
  induction i with
  | zero => simp [codesF]
  | succ i ih => simp [codesF, ih]

theorem numAt_lt (ls : List Nat) (h : ∀ b ∈ ls, b < 2) (c n : Nat) : numAt ls c n < 2 ^ n := n2_take_lt ls h c n

theorem codesF_le (ls : List Nat) (h : ∀ b ∈ ls, b < 2) (c i : Nat) : ∀ x ∈ codesF ls c i, x ≤ 7 := by
  induction i with
  | zero => intro x hx; have := List.eq_of_mem_replicate hx; omega
  | succ i ih =>
    intro x hx
    rcases List.mem_or_eq_of_mem_set hx with hx | rfl
    · exact ih x hx
    · have := numAt_lt ls h (c + 3 * i) 3; omega

/-- A head's answer: an error, or the two lists and how many bits it has. -/
def readF (ls : List Nat) (a : Nat) : Except Nat ((List Nat × List Nat) × Nat) :=
  if ls.length < a + 14 then .error 10
  else if 286 < numAt ls a 5 + 257 ∨ 30 < numAt ls (a + 5) 5 + 1 then .error 40
  else if ls.length < a + 14 + 3 * (numAt ls (a + 10) 4 + 4) then .error 10
  else if chkN (codesF ls (a + 14) (numAt ls (a + 10) 4 + 4)) ≠ 0 then .error (chkN (codesF ls (a + 14) (numAt ls (a + 10) 4 + 4)))
  else match bodyF (codesF ls (a + 14) (numAt ls (a + 10) 4 + 4)) ls (numAt ls a 5 + 257 + (numAt ls (a + 5) 5 + 1)) (numAt ls a 5 + 257 + (numAt ls (a + 5) 5 + 1)) [] (a + 14 + 3 * (numAt ls (a + 10) 4 + 4)) with
    | .error e => .error e
    | .ok (l, c) => .ok ((l.take (numAt ls a 5 + 257), l.drop (numAt ls a 5 + 257)), c - a)

end Go.Proofs.YtofhlnpbflkdlaaDoor

/-
  Pack's steps: how many there are, and that they say the list.
-/
namespace Go.Proofs.YtofhlnpbflkdlaaDoor

theorem zerosM_big (n : Nat) (h : 11 ≤ n) : zerosM n = (18, ((min n 138 - 11 : Nat) : Int)) :: zerosM (n - min n 138) := by
  rw [zerosM, if_pos h]
theorem zerosM_mid (n : Nat) (h : n < 11) (h3 : 3 ≤ n) : zerosM n = [(17, ((n - 3 : Nat) : Int))] := by
  rw [zerosM, if_neg (by omega), if_pos h3]
theorem zerosM_few (n : Nat) (h3 : n < 3) : zerosM n = List.replicate n (0, 0) := by
  rw [zerosM, if_neg (by omega), if_neg (by omega)]
theorem againM_big (v n : Nat) (h : 3 ≤ n) : againM v n = (16, ((min n 6 - 3 : Nat) : Int)) :: againM v (n - min n 6) := by
  rw [againM, if_pos h]
theorem againM_few (v n : Nat) (h : n < 3) : againM v n = List.replicate n ((v : Int), 0) := by
  rw [againM, if_neg (by omega)]

theorem zerosM_len (n : Nat) : (zerosM n).length ≤ n := by
  induction n using Nat.strongRecOn with
  | ind n ih =>
    by_cases h : 11 ≤ n
    · rw [zerosM_big n h, List.length_cons]
      have := ih (n - min n 138) (by omega)
      omega
    · by_cases h3 : 3 ≤ n
      · rw [zerosM_mid n (by omega) h3]; simp; omega
      · rw [zerosM_few n (by omega)]; simp

theorem againM_len (v n : Nat) : (againM v n).length ≤ n := by
  induction n using Nat.strongRecOn with
  | ind n ih =>
    by_cases h : 3 ≤ n
    · rw [againM_big v n h, List.length_cons]
      have := ih (n - min n 6) (by omega)
      omega
    · rw [againM_few v n (by omega)]; simp

theorem sayM_len (v n : Nat) (h : 1 ≤ n) : (sayM v n).length ≤ n := by
  unfold sayM
  split
  · exact zerosM_len n
  · rw [List.length_cons]; have := againM_len v (n - 1); omega

theorem packM_len (l : List Nat) : (packM l).length ≤ l.length := by
  induction hn : l.length using Nat.strongRecOn generalizing l with
  | ind n ih =>
    cases l with
    | nil => simp [packM]
    | cons v r =>
      rw [packM_cons, List.length_append]
      have h1 := sayM_len v (1 + frontN v r) (by omega)
      have h2 := frontN_le v r
      have h3 := ih (r.drop (frontN v r)).length (by simp at hn ⊢; omega) _ rfl
      simp at hn h3
      omega

/-- The front is found. -/
theorem frontN_is (v : Nat) (r : List Nat) (m : Nat) (h1 : ∀ j (_ : j < r.length), j < m → r[j] = v) (hm : m ≤ r.length) (h2 : ∀ h : m < r.length, r[m] ≠ v) : frontN v r = m := by
  induction r generalizing m with
  | nil => simp at hm; subst hm; rfl
  | cons a r ih =>
    cases m with
    | zero =>
      have := h2 (by simp)
      simp at this
      simp [frontN, this]
    | succ m =>
      have ha := h1 0 (by simp) (by omega)
      simp at ha
      have h3 := ih m (fun j hj hjm => h1 (j + 1) (by simpa using hj) (by omega)) (by simpa using hm) (fun h => h2 (by simpa using h))
      unfold frontN at h3 ⊢
      rw [List.takeWhile_cons, if_pos (by simp [ha]), List.length_cons, h3]

theorem frontN_all (v : Nat) (r : List Nat) (j : Nat) (hj : j < r.length) (h : j < frontN v r) : r[j] = v := by
  induction r generalizing j with
  | nil => simp at hj
  | cons a r ih =>
    unfold frontN at h
    rw [List.takeWhile_cons] at h
    by_cases ha : a = v
    · cases j with
      | zero => simpa using ha
      | succ j =>
        rw [if_pos (by simp [ha]), List.length_cons] at h
        simpa using ih j (by simpa using hj) (by unfold frontN; omega)
    · rw [if_neg (by simp [ha])] at h
      simp at h

/-- A list's front and the rest. -/
theorem front_split (v : Nat) (r : List Nat) : v :: r = List.replicate (1 + frontN v r) v ++ r.drop (frontN v r) := by
  have h := frontN_le v r
  rw [Nat.add_comm, List.replicate_succ, List.cons_append]
  congr 1
  have e : r.take (frontN v r) = List.replicate (frontN v r) v := by
    refine List.ext_getElem (by simp; omega) (fun j h1 h2 => ?_)
    simp at h1
    rw [List.getElem_take, List.getElem_replicate, frontN_all v r j (by omega) (by omega)]
  rw [← e, List.take_append_drop]

/-- runs that say themselves. -/
theorem withM_ok {l : List Nat} {s : Int × Int} {n v k : Nat} (h : saysM s l = some (v, k)) (hf : l.length + k ≤ n) : withM l s n = some (l ++ List.replicate k v) := by
  unfold withM
  rw [h]
  simp only
  rw [if_neg (by omega)]

theorem runM_append (n : Nat) (l : List Nat) (ss tt : List (Int × Int)) : runM n l (ss ++ tt) = (runM n l ss).bind (fun m => runM n m tt) := by
  induction ss generalizing l with
  | nil => rfl
  | cons a r ih =>
    simp only [List.cons_append, runM]
    cases withM l a n with
    | none => rfl
    | some m => exact ih m

theorem runM_one (n : Nat) (l : List Nat) (s : Int × Int) : runM n l [s] = withM l s n := by
  simp only [runM]
  cases withM l s n <;> rfl

theorem says_plain (v : Nat) (l : List Nat) (h : v ≤ 15) : saysM ((v : Int), 0) l = some (v, 1) := by
  unfold saysM
  rw [if_pos ⟨by omega, by simp only; omega, rfl⟩]
  simp

theorem runM_plain (n v k : Nat) (l : List Nat) (h : v ≤ 15) (hf : l.length + k ≤ n) : runM n l (List.replicate k ((v : Int), 0)) = some (l ++ List.replicate k v) := by
  induction k generalizing l with
  | zero => simp [runM]
  | succ k ih =>
    rw [List.replicate_succ, runM, withM_ok (says_plain v l h) (by omega)]
    simp only
    rw [ih _ (by simp; omega), List.append_assoc, List.replicate_append_replicate, Nat.add_comm]

theorem runM_zeros (n m : Nat) (l : List Nat) (hf : l.length + m ≤ n) : runM n l (zerosM m) = some (l ++ List.replicate m 0) := by
  induction m using Nat.strongRecOn generalizing l with
  | ind m ih =>
    by_cases h : 11 ≤ m
    · rw [zerosM_big m h, runM]
      have hs : saysM (18, ((min m 138 - 11 : Nat) : Int)) l = some (0, min m 138) := by
        unfold saysM
        rw [if_neg (by simp), if_neg (by simp), if_neg (by simp), if_pos ⟨rfl, by omega, by omega⟩]
        simp; omega
      rw [withM_ok hs (by omega)]
      simp only
      rw [ih (m - min m 138) (by omega) _ (by simp; omega), List.append_assoc, List.replicate_append_replicate, show min m 138 + (m - min m 138) = m by omega]
    · by_cases h3 : 3 ≤ m
      · rw [zerosM_mid m (by omega) h3, runM_one]
        have hs : saysM (17, ((m - 3 : Nat) : Int)) l = some (0, m) := by
          unfold saysM
          rw [if_neg (by simp), if_neg (by simp), if_pos ⟨rfl, by omega, by omega⟩]
          simp; omega
        exact withM_ok hs hf
      · rw [zerosM_few m (by omega)]
        exact runM_plain n 0 m l (by omega) hf

theorem runM_again (n v m : Nat) (l : List Nat) (h15 : v ≤ 15) (hl : 0 < l.length) (hv : lastN l = v) (hf : l.length + m ≤ n) : runM n l (againM v m) = some (l ++ List.replicate m v) := by
  induction m using Nat.strongRecOn generalizing l with
  | ind m ih =>
    by_cases h : 3 ≤ m
    · rw [againM_big v m h, runM]
      have hs : saysM (16, ((min m 6 - 3 : Nat) : Int)) l = some (v, min m 6) := by
        unfold saysM
        rw [if_neg (by simp), if_pos ⟨rfl, by omega, by omega, hl⟩, hv]
        simp; omega
      rw [withM_ok hs (by omega)]
      simp only
      have hlast : lastN (l ++ List.replicate (min m 6) v) = v := by
        have hk : 0 < min m 6 := by omega
        generalize min m 6 = k at hk ⊢
        obtain ⟨k, rfl⟩ : ∃ j, k = j + 1 := ⟨k - 1, by omega⟩
        unfold lastN
        rw [List.replicate_succ', ← List.append_assoc]
        simp
      rw [ih (m - min m 6) (by omega) _ (by simp; omega) hlast (by simp; omega), List.append_assoc, List.replicate_append_replicate, show min m 6 + (m - min m 6) = m by omega]
    · rw [againM_few v m (by omega)]
      exact runM_plain n v m l h15 hf

theorem runM_say (n v m : Nat) (l : List Nat) (h15 : v ≤ 15) (hm : 1 ≤ m) (hf : l.length + m ≤ n) : runM n l (sayM v m) = some (l ++ List.replicate m v) := by
  unfold sayM
  split
  · rename_i h0
    subst h0
    exact runM_zeros n m l hf
  · rw [runM, withM_ok (says_plain v l h15) (by omega)]
    simp only
    have hlast : lastN (l ++ List.replicate 1 v) = v := by simp [lastN]
    rw [runM_again n v (m - 1) _ h15 (by simp) hlast (by simp; omega), List.append_assoc, List.replicate_append_replicate, show 1 + (m - 1) = m by omega]

/-- What is packed is unpacked. -/
theorem runM_pack (n : Nat) (r : List Nat) (l : List Nat) (h15 : ∀ x ∈ r, x ≤ 15) (hf : l.length + r.length ≤ n) : runM n l (packM r) = some (l ++ r) := by
  induction hn : r.length using Nat.strongRecOn generalizing r l with
  | ind k ih =>
    cases r with
    | nil => simp [packM, runM]
    | cons v r =>
      have hfr := frontN_le v r
      rw [packM_cons, runM_append, runM_say n v _ l (h15 v (by simp)) (by omega) (by simp at hf; omega)]
      simp only [Option.bind_some]
      rw [ih (r.drop (frontN v r)).length (by simp at hn ⊢; omega) _ _ (fun x hx => h15 x (List.mem_cons_of_mem _ (List.mem_of_mem_drop hx))) (by simp at hf ⊢; omega) rfl, List.append_assoc, ← front_split]

end Go.Proofs.YtofhlnpbflkdlaaDoor

/-
  Rows of some cells an element: read, written, appended to.
-/
namespace Go.Proofs.YtofhlnpbflkdlaaDoor
open Go.RowKit

/-- An element's cells: so many, each of one cell. -/
structure EncOk {α : Type} (enc : α → List Value) (k : Nat) : Prop where
  len : ∀ x, (enc x).length = k
  one : ∀ x, ∀ u ∈ enc x, u.oneCell' = true
  pos : 0 < k

theorem flat_length {α : Type} {enc : α → List Value} {k : Nat} (h : EncOk enc k) (xs : List α) : (xs.flatMap enc).length = xs.length * k := by
  induction xs with
  | nil => simp
  | cons a r ih => rw [List.flatMap_cons, List.length_append, ih, h.len, List.length_cons, Nat.succ_mul]; omega

theorem flat_get {α : Type} {enc : α → List Value} {k : Nat} (h : EncOk enc k) (xs : List α) (j i : Nat) (hj : j < xs.length) (hi : i < k) : (xs.flatMap enc)[j * k + i]? = (enc xs[j])[i]? := by
  induction xs generalizing j with
  | nil => simp at hj
  | cons a r ih =>
    rw [List.flatMap_cons]
    cases j with
    | zero =>
      rw [Nat.zero_mul, Nat.zero_add, List.getElem?_append_left (by rw [h.len]; exact hi)]
      rfl
    | succ j =>
      rw [List.getElem?_append_right (by rw [h.len, Nat.succ_mul]; omega), h.len, show (j + 1) * k + i - k = j * k + i by rw [Nat.succ_mul]; omega, ih j (by simpa using hj)]
      rfl

theorem flat_one {α : Type} {enc : α → List Value} {k : Nat} (h : EncOk enc k) (xs : List α) : ∀ u ∈ xs.flatMap enc, u.oneCell' = true := by
  intro u hu
  obtain ⟨x, _, hx⟩ := List.mem_flatMap.1 hu
  exact h.one x u hx

/-- A slice at the head of a row of its own, which lies at block B or beyond. -/
abbrev RowC {α : Type} (B : Nat) (t : TypeId) (k : Nat) (enc : α → List Value) (w : World) (v : Value) (xs : List α) : Prop := w.ownsRow B t k v xs.length (xs.flatMap enc)

/-- A slice that can be read; its block fits I. -/
def SrcC {α : Type} (k : Nat) (enc : α → List Value) (w : World) (I : Nat → Prop) (v : Value) (xs : List α) : Prop :=
  ∃ ao cap, v = .slice ao xs.length cap ∧ xs.length ≤ cap ∧ (xs ≠ [] → ∃ b o, ao = Option.some ⟨b, o, none⟩ ∧ I b ∧ ∀ j (_ : j < xs.length) i (_ : i < k), w.cell? ⟨b, o + (j * k + i), none⟩ = (enc xs[j])[i]?)

section
variable {α : Type} {B : Nat} {t k : Nat} {enc : α → List Value} {w : World} {v : Value} {xs : List α}

theorem RowC.kept {F : Nat → Prop} {w' : World} (h : RowC B t k enc w v xs) (hk : Kept F w w') (hn : ∀ j, v.ownBlock = some j → ¬ F j) : RowC B t k enc w' v xs := by
  refine ⟨h.1, ?_⟩
  rcases h.2 with hn' | ⟨g, cap, cur, rfl, hb, hgg, rest⟩
  · exact .inl hn'
  · refine .inr ⟨g, cap, cur, rfl, hb, ?_, rest⟩
    rw [hk.block g (Array.getElem?_eq_some_iff.1 hgg).1 (hn g rfl)]
    exact hgg

theorem RowC.base {B' : Nat} (h : RowC B t k enc w v xs) (hb : B' ≤ B) : RowC B' t k enc w v xs := by
  refine ⟨h.1, ?_⟩
  rcases h.2 with hn' | ⟨g, cap, cur, rfl, hb', rest⟩
  · exact .inl hn'
  · exact .inr ⟨g, cap, cur, rfl, Nat.le_trans hb hb', rest⟩

theorem RowC.nil : RowC B t k enc w (.slice none 0 0) ([] : List α) := World.ownsRow_nil w B t k

theorem RowC.lt (h : RowC B t k enc w v xs) {j : Nat} (hj : v.ownBlock = some j) : j < w.heap.size := (World.ownsRow.lt h j hj).2
theorem RowC.ge (h : RowC B t k enc w v xs) {j : Nat} (hj : v.ownBlock = some j) : B ≤ j := (World.ownsRow.lt h j hj).1

theorem RowC.shape (h : RowC B t k enc w v xs) : ∃ ao cap, v = .slice ao xs.length cap ∧ (xs ≠ [] → ∃ g, ao = some ⟨g, 0, none⟩) ∧ (ao = none → cap = 0) ∧ xs.length ≤ cap ∧ cap ≤ maxLen := by
  rcases h.2 with ⟨rfl, hn⟩ | ⟨g, cap, cur, rfl, _, _, h1, h2, _⟩
  · exact ⟨none, 0, by rw [hn], fun hb => absurd (List.eq_nil_of_length_eq_zero hn) hb, fun _ => rfl, by omega, by omega⟩
  · exact ⟨_, cap, rfl, fun _ => ⟨g, rfl⟩, (fun e => by cases e), h1, h2⟩

theorem RowC.len {g n cap : Nat} (h : RowC B t k enc w (.slice (Option.some ⟨g, 0, none⟩) n cap) xs) : xs.length = n := by
  rcases h.2 with ⟨e, _⟩ | ⟨_, _, _, e, _⟩
  · simp at e
  · injection e with _ e _; exact e.symm

theorem RowC.cell {g n cap : Nat} (ok : EncOk enc k) (h : RowC B t k enc w (.slice (Option.some ⟨g, 0, none⟩) n cap) xs) (j i : Nat) (hj : j < xs.length) (hi : i < k) : w.cell? ⟨g, j * k + i, none⟩ = (enc xs[j])[i]? := by
  have hl := h.len
  subst hl
  have hlt : j * k + i < xs.length * k := by
    have : (j + 1) * k ≤ xs.length * k := Nat.mul_le_mul_right k hj
    rw [Nat.succ_mul] at this
    omega
  rw [h.cellAt (j * k + i) hlt, flat_get ok xs j i hj hi]

theorem RowC.frozen {g n cap : Nat} (h : RowC B t k enc w (.slice (Option.some ⟨g, 0, none⟩) n cap) xs) (j : Nat) : w.frozen? ⟨g, j, none⟩ = false := by
  have hl := h.len
  subst hl
  exact World.ownsRow.frozenAt h j

theorem SrcC.ofRow (ok : EncOk enc k) (h : RowC B t k enc w v xs) : SrcC k enc w (fun j => v.ownBlock = Option.some j) v xs := by
  obtain ⟨ao, cap, hv, hg, _, hc, _⟩ := h.shape
  refine ⟨ao, cap, hv, hc, fun hne => ?_⟩
  obtain ⟨g, hg⟩ := hg hne
  subst hg hv
  refine ⟨g, 0, rfl, rfl, fun j hj i hi => ?_⟩
  rw [Nat.zero_add]
  exact RowC.cell ok h j i hj hi

theorem SrcC.mono {I J : Nat → Prop} (h : SrcC k enc w I v xs) (hJ : ∀ j, I j → J j) : SrcC k enc w J v xs := by
  obtain ⟨ao, cap, hv, hcap, hc⟩ := h
  refine ⟨ao, cap, hv, hcap, fun hne => ?_⟩
  obtain ⟨b, o, h1, h2, h3⟩ := hc hne
  exact ⟨b, o, h1, hJ b h2, h3⟩

theorem SrcC.block (ok : EncOk enc k) {I : Nat → Prop} (h : SrcC k enc w I v xs) (hne : xs ≠ []) : ∃ b o cap, v = .slice (Option.some ⟨b, o, none⟩) xs.length cap ∧ I b ∧ b < w.heap.size := by
  obtain ⟨ao, cap, hv, hcap, hc⟩ := h
  obtain ⟨b, o, rfl, h2, h3⟩ := hc hne
  have hlen : 0 < xs.length := List.length_pos_iff.2 hne
  have hc := h3 0 hlen 0 ok.pos
  have hl := ok.len xs[0]
  have hp := ok.pos
  rw [List.getElem?_eq_getElem (by omega)] at hc
  exact ⟨b, o, cap, hv, h2, World.block_lt_of_cell? w _ hc⟩

theorem SrcC.kept (ok : EncOk enc k) {F I : Nat → Prop} {w' : World} (h : SrcC k enc w I v xs) (hk : Kept F w w') (hn : ∀ j, I j → j < w.heap.size → ¬ F j) : SrcC k enc w' I v xs := by
  obtain ⟨ao, cap, hv, hcap, hc⟩ := h
  refine ⟨ao, cap, hv, hcap, fun hne => ?_⟩
  obtain ⟨b, o, h1, h2, h3⟩ := hc hne
  refine ⟨b, o, h1, h2, fun j hj i hi => ?_⟩
  have hc := h3 j hj i hi
  have hl := ok.len xs[j]
  rw [List.getElem?_eq_getElem (by omega)] at hc ⊢
  exact hk.cell hc (hn b h2 (World.block_lt_of_cell? w _ hc))

theorem SrcC.low (ok : EncOk enc k) {I : Nat → Prop} (h : SrcC k enc w I v xs) : SrcC k enc w (fun j => I j ∧ j < w.heap.size) v xs := by
  obtain ⟨ao, cap, hv, hcap, hc⟩ := h
  refine ⟨ao, cap, hv, hcap, fun hne => ?_⟩
  obtain ⟨b, o, h1, h2, h3⟩ := hc hne
  have hlen : 0 < xs.length := List.length_pos_iff.2 hne
  have hc0 := h3 0 hlen 0 ok.pos
  have hl := ok.len xs[0]
  have hp := ok.pos
  rw [List.getElem?_eq_getElem (by omega)] at hc0
  exact ⟨b, o, h1, ⟨h2, World.block_lt_of_cell? w _ hc0⟩, h3⟩

end

/-- append of such cells onto a row of one's own. -/
theorem wpList_append_c {α : Type} {ops : Array Oper} {rest : List Oper} {o : Oper} {a : Act} {Q : Exit → Act → World → Prop} (w : World) (enc : α → List Value) (k : Nat) (ok : EncOk enc k) (_hk : k ≤ 100) (B sT eT : Nat) (z : Value) (bytes : Nat)
    (hU : Tryd.prog.underlying sT = some (.slice eT)) (hI : (Tryd.prog.info? eT).map (fun i => (i.zero, i.size, i.bytes)) = some (some z, k, bytes)) (hz : z.cells.size = k) (hby : bytes ≤ 1000) (hgd : o.guard = none) (s x : Operand)
    (ho : o.op = .call { callee := .builtin .append, args := #[s, x], argTypes := #[sT, sT] })
    (v : Value) (xs : List α) (hs : a.eval s = v) (hrow : RowC B eT k enc w v xs) (ad : Addr) (m c : Nat) (cs : List α) (hx : a.eval x = .slice (some ad) m c) (hm : cs.length = m) (hcs : CellsAt w ad (cs.flatMap enc)) (hlen : xs.length + cs.length ≤ 1000000000) (hB : B ≤ w.heap.size)
    (h : ∀ v' w', RowC B eT k enc w' v' (xs ++ cs) → w.grownBy w' v.ownBlock → wpList Tryd.prog ops Q rest (a.put o.dst v') w') : wpList Tryd.prog ops Q (o :: rest) a w := by
  subst hm
  obtain ⟨i0, hi, hz0, hz1, hz2⟩ := info_parts hI
  have hmul : (xs.length + cs.length) * bytes ≤ 1000000000 * 1000 := Nat.mul_le_mul hlen hby
  refine wpList_append_own w hgd s x sT ho B eT i0 z k bytes hU hi hz0 hz1 hz2 hz ok.pos v xs.length (xs.flatMap enc) hs hrow ad cs.length c (cs.flatMap enc) hx (flat_length ok cs) hcs (flat_one ok cs) (by simp only [maxLen]; omega) (by omega) hB ?_
  intro v' w' h1 h2 _
  refine h v' w' ?_ h2
  unfold RowC
  rw [List.length_append, List.flatMap_append]
  exact h1

end Go.Proofs.YtofhlnpbflkdlaaDoor

/-
  The reference's layer 4: lengths, times, says, With, Unpack.
-/
namespace Go.Proofs.YtofhlnpbflkdlaaDoor
open Go.RowKit

/-- A step's cells. -/
def stC (s : Int × Int) : List Value := [.int .i64 s.1, .int .i64 s.2]

theorem stC_ok : EncOk stC 2 := ⟨fun _ => rfl, fun x u hu => by simp [stC] at hu; rcases hu with rfl | rfl <;> rfl, by decide⟩

abbrev StRow (B : Nat) := RowC B 31 2 stC
abbrev StSrc := @SrcC (Int × Int) 2 stC

theorem Tryd.infoSt : (Tryd.prog.info? 31).map (fun i => (i.zero, i.size, i.bytes)) = some (some (.agg #[.int .i64 0, .int .i64 0]), 2, 16) := by kernel_rfl

theorem step_new (w : World) (x y : Int) : CellsAt (w.alloc (.cells #[.int .i64 x, .int .i64 y] 31)) ⟨w.heap.size, 0, none⟩ ([(x, y)].flatMap stC) := by
  intro j u hu
  match j, hu with
  | 0, hu => simp [stC] at hu; subst hu; simp [addAt]
  | 1, hu => simp [stC] at hu; subst hu; simp [addAt]
  | j + 2, hu => simp [stC] at hu

/-- append of one step. -/
theorem wpList_append_step {ops : Array Oper} {rest : List Oper} {o : Oper} {a : Act} {Q : Exit → Act → World → Prop} (w : World) (B : Nat) (hgd : o.guard = none) (s x : Operand)
    (ho : o.op = .call { callee := .builtin .append, args := #[s, x], argTypes := #[25, 25] })
    (v : Value) (ss : List (Int × Int)) (hs : a.eval s = v) (hrow : StRow B w v ss) (ad : Addr) (y : Int × Int) (hx : a.eval x = .slice (some ad) 1 1) (hcs : CellsAt w ad ([y].flatMap stC)) (hlen : ss.length + 1 ≤ 1000000000) (hB : B ≤ w.heap.size)
    (h : ∀ v' w', StRow B w' v' (ss ++ [y]) → w.grownBy w' v.ownBlock → wpList Tryd.prog ops Q rest (a.put o.dst v') w') : wpList Tryd.prog ops Q (o :: rest) a w :=
  wpList_append_c w stC 2 stC_ok (by decide) B 25 31 (.agg #[.int .i64 0, .int .i64 0]) 16 Tryd.underlying25 Tryd.infoSt rfl (by decide) hgd s x ho v ss hs hrow ad 1 1 [y] hx rfl hcs hlen hB h

/-- What lies at B or beyond may have turned. -/
abbrev Over (B : Nat) (k : Nat) : Prop := B ≤ k

theorem Kept.over {B : Nat} {a b c : World} (h : Kept (Over B) a b) (k : Kept (Over B) b c) : Kept (Over B) a c := Kept.trans h k (fun _ _ x => x) (fun _ _ x => x)
theorem Kept.same_over {a b : World} {B : Nat} (h : Kept (Over B) a b) (hB : a.heap.size ≤ B) : Same a b := h.mono (fun x hx e => by unfold Over at e; omega)
theorem Same.over {a b : World} (B : Nat) (h : Same a b) : Kept (Over B) a b := h.mono (fun _ _ e => e.elim)

/-- May all lengths be? -/
def lensOk (zs : List Int) : Bool := !(zs.any (badI 0 15))

theorem lensOk_iff (zs : List Int) : lensOk zs = true ↔ ∀ z ∈ zs, 0 ≤ z ∧ z ≤ 15 := by
  simp only [lensOk, Bool.not_eq_true', List.any_eq_false, badI]
  constructor
  · intro h z hz; have := h z hz; simp at this; omega
  · intro h z hz; have := h z hz; simp; omega

set_option maxHeartbeats 1000000 in
theorem lengths_any (w : World) (v : Value) (I : Nat → Prop) (zs : List Int) (hs : SrcE intV w I v zs) (hn : zs.length ≤ 10000000) :
    Calls Tryd.prog 37 #[v] w fun e w' => e = .returned (.bool (lensOk zs)) ∧ w' = w := by
  obtain ⟨ao, cap, rfl, hx1, hx2⟩ := id hs
  clear hx1 hx2
  have HS : Hid (SrcE intV w I (.slice ao zs.length cap) zs) := hs
  clear hs
  go_enter Tryd.func37, Tryd.ntmps37
  go_wp2_with fail
  go_loopg [3] zs.length (fun q zi wr => ∃ (i : Nat), zs.length - i ≤ q ∧ i ≤ zs.length ∧ zi = .int .i64 (i : Nat) ∧ wr = w ∧ Hid ((zs.take i).any (badI 0 15) = false))
  case atStart => exact ⟨0, by omega, by omega, rfl, rfl, hid (by simp)⟩
  case round =>
    obtain ⟨i, hq, hi, rfl, rfl, HF⟩ := hrel
    by_cases hlt : i < zs.length
    · obtain ⟨b, o, cap', e, _, _, cx⟩ := HS.out.get i hlt
      simp only [Value.slice.injEq] at e
      obtain ⟨rfl, hxe, rfl⟩ := e
      clear hxe
      obtain ⟨x, hx⟩ : ∃ x, x = zs[i] := ⟨_, rfl⟩
      rw [← hx] at cx
      unfold intV at cx
      have HX : Hid (x = zs[i]) := hx
      have HBAD : Hid (badI 0 15 x = true → lensOk zs = false) := hid (fun h => by
        have : zs.any (badI 0 15) = true := List.any_eq_true.2 ⟨x, by rw [hx]; exact List.getElem_mem _, h⟩
        simp [lensOk, this])
      clear hx
      by_cases hneg : x < 0
      · have HE : Hid (lensOk zs = false) := hid (HBAD.out (by simp [badI]; omega))
        go_wp2_with fail
        go_ret
        exact ⟨by rw [HE.out]; rfl, rfl⟩
      · by_cases hbig : 15 < x
        · have HE : Hid (lensOk zs = false) := hid (HBAD.out (by simp [badI]; omega))
          go_wp2_with fail
          go_ret
          exact ⟨by rw [HE.out]; rfl, rfl⟩
        · have HOKX : Hid (badI 0 15 x = false) := hid (by simp [badI]; omega)
          go_wp2_with fail
          go_roundg (gk - 1)
          case measure => omega
          case rel => exact ⟨i + 1, by omega, by omega, by go_num, rfl, hid (by rw [List.take_succ_eq_append_getElem hlt, List.any_append, HF.out, ← HX.out]; simp [HOKX.out])⟩
    · have HE : Hid (lensOk zs = true) := hid (by
        have h := HF.out
        rw [List.take_of_length_le (by omega)] at h
        simp [lensOk, h])
      go_wp2_with fail
      go_ret
      exact ⟨by rw [HE.out]; rfl, rfl⟩

set_option maxHeartbeats 1000000 in
theorem times_any (w : World) (B : Nat) (v : Value) (ss : List (Int × Int)) (n : Nat) (sym : Int) (hrow : StRow B w v ss) (hB : B ≤ w.heap.size) (hlen : ss.length + n ≤ 1000000) :
    Calls Tryd.prog 38 #[v, .int .i64 (n : Nat), .int .i64 sym] w fun e w' => ∃ v', e = .returned v' ∧ StRow B w' v' (ss ++ List.replicate n (sym, 0)) ∧ Kept (Over B) w w' := by
  have HR : Hid (StRow B w v ss) := hrow
  clear hrow
  go_enter Tryd.func38, Tryd.ntmps38
  go_wp2_with fail
  go_loopg [0, 7] n (fun q zv zi wr => ∃ (i : Nat), n - i ≤ q ∧ i ≤ n ∧ zi = .int .i64 (i : Nat) ∧ Hid (StRow B wr zv (ss ++ List.replicate i (sym, 0))) ∧ Hid (Kept (Over B) w wr))
  case atStart => exact ⟨0, by omega, by omega, rfl, hid (by simpa using HR.out), Kept.refl _ _⟩
  case round =>
    obtain ⟨i, hq, hi, rfl, HV, HK⟩ := hrel
    by_cases hlt : i < n
    · have hsz := HK.out.size
      have HL : Hid ((ss ++ List.replicate i (sym, (0 : Int))).length + 1 ≤ 1000000000) := hid (by simp; omega)
      go_wp2_with (at_builtin; refine wpList_append_step _ B rfl (.tmp 13) (.tmp 16) rfl u0 _ rfl (World.ownsRow.alloc HV.out _) ⟨wr.heap.size, 0, none⟩ (sym, 0) rfl (step_new _ _ _) HL.out (by simp; omega) ?_; intro v1 w1 hr1 hg1)
      have HV1 : Hid (StRow B w1 v1 (ss ++ List.replicate (i + 1) (sym, 0))) := hid (by rw [List.replicate_succ', ← List.append_assoc]; exact hr1)
      have HK1 : Hid (Kept (Over B) w w1) := hid ((HK.out.alloc _).grown hg1 (fun k e => .inl (by have := HV.out.ge e; exact this)))
      clear hr1 hg1
      go_wp2_with fail
      go_roundg (gk - 1)
      case measure => omega
      case rel => exact ⟨i + 1, by omega, by omega, by go_num, HV1, HK1⟩
    · have hin : i = n := by omega
      go_wp2_with fail
      go_ret
      exact ⟨_, rfl, by rw [← hin]; exact HV.out, HK.out⟩

/-- says' answer as a value. -/
def saysV : Option (Nat × Nat) → Value
  | some (v, k) => .tuple #[.int .i64 (v : Nat), .int .i64 (k : Nat), .bool true]
  | none => .tuple #[.int .i64 0, .int .i64 0, .bool false]

set_option maxRecDepth 100000 in
set_option maxHeartbeats 2000000 in
theorem says_any (w : World) (v : Value) (I : Nat → Prop) (l : List Nat) (a b : Int) (hs : SrcE natV w I v l) (hl : l.length ≤ 1000000) :
    Calls Tryd.prog 60 #[.agg #[.int .i64 a, .int .i64 b], v] w fun e w' => e = .returned (saysV (saysM (a, b) l)) ∧ Same w w' := by
  obtain ⟨ao, cap, rfl, hx1, hx2⟩ := id hs
  clear hx1 hx2
  have HS : Hid (SrcE natV w I (.slice ao l.length cap) l) := hs
  clear hs
  obtain ⟨L, hL⟩ : ∃ L, L = l.length := ⟨_, rfl⟩
  have HL : Hid (L = l.length) := hL
  by_cases h0 : 0 ≤ a
  · by_cases h15 : a ≤ 15
    · by_cases hb0 : b = 0
      · have HE : Hid (saysM (a, b) l = some (a.toNat, 1)) := hid (by unfold saysM; rw [if_pos ⟨h0, h15, hb0⟩])
        have ha : ((a.toNat : Nat) : Int) = a := by omega
        have HA : Hid (((a.toNat : Nat) : Int) = a) := ha
        subst hb0
        clear ha
        go_enter Tryd.func60, Tryd.ntmps60
        go_wp2_with fail
        refine bodyPost_ret (v := .tuple #[.int .i64 a, .int .i64 1, .bool true]) (by simp [results, Tryd.results60, go_sem]) rfl ⟨by rw [HE.out]; simp only [saysV]; rw [HA.out]; rfl, (Kept.refl _ w).alloc _⟩
      · have HE : Hid (saysM (a, b) l = none) := hid (by unfold saysM; simp only; repeat (rw [if_neg (by omega)]))
        have eb : (b == 0) = false := by simp; omega
        have e16 : (a == 16) = false := by simp; omega
        have e17 : (a == 17) = false := by simp; omega
        have e18 : (a == 18) = false := by simp; omega
        go_enter Tryd.func60, Tryd.ntmps60
        go_wp2_with fail
        refine bodyPost_ret (v := .tuple #[.int .i64 0, .int .i64 0, .bool false]) (by simp [results, Tryd.results60, go_sem]) rfl ⟨by rw [HE.out]; rfl, ((Kept.refl _ w).alloc _)⟩
    · have hd15 : decide (a ≤ 15) = false := by simp; omega
      by_cases h16 : a = 16
      · subst h16
        by_cases hb0 : 0 ≤ b
        · by_cases hb3 : b ≤ 3
          · by_cases hl0 : 0 < l.length
            · have HE : Hid (saysM (16, b) l = some (lastN l, b.toNat + 3)) := hid (by unfold saysM; rw [if_neg (by simp), if_pos ⟨rfl, hb0, hb3, hl0⟩])
              obtain ⟨b2, o2, cap2, e2, _, _, c2⟩ := HS.out.get (l.length - 1) (by omega)
              simp only [Value.slice.injEq] at e2
              obtain ⟨rfl, hxe, rfl⟩ := e2
              clear hxe
              obtain ⟨x, hx⟩ : ∃ x, x = lastN l := ⟨_, rfl⟩
              have hle : l[l.length - 1] = x := by rw [hx]; simp [lastN, List.getD, show l.length - 1 < l.length by omega]
              rw [hle] at c2
              unfold natV at c2
              have HX : Hid (x = lastN l) := hx
              clear hx hle
              obtain ⟨m, hm⟩ : ∃ m, m = l.length - 1 := ⟨_, rfl⟩
              rw [← hm] at c2
              have hmI : (L : Int) - 1 = (m : Int) := by omega
              have hmL : m < L := by omega
              have hwm : IntKind.i64.wrap (m : Int) = (m : Int) := by rw [IntKind.wrap_i64]; omega
              obtain ⟨k, hk⟩ : ∃ k, k = b.toNat + 3 := ⟨_, rfl⟩
              have hkI : b + 3 = (k : Int) := by omega
              have hwk : IntKind.i64.wrap (k : Int) = (k : Int) := by rw [IntKind.wrap_i64]; omega
              have HKK : Hid (k = b.toNat + 3) := hk
              have hlb : b2 < w.heap.size := World.block_lt_of_cell? w _ c2
              have c3 : (w.alloc (.cells #[.int .i64 16, .int .i64 b] 31)).cell? ⟨b2, o2 + m, none⟩ = some (.int .i64 (x : Nat)) := ((Kept.refl (fun _ => False) w).alloc _).cell c2 (fun h => h)
              rw [← hL] at hl0 ⊢
              clear hL hm hk c2
              go_enter Tryd.func60, Tryd.ntmps60
              go_wp2_with fail
              go_quiet (fail)
              go_wp2_with fail
              refine bodyPost_ret (v := .tuple #[.int .i64 (x : Nat), .int .i64 (k : Nat), .bool true]) (by simp [results, Tryd.results60, go_sem]) rfl ⟨by rw [HE.out]; simp only [saysV]; rw [← HX.out, ← HKK.out], ((Kept.refl _ w).alloc _).drewN _⟩
            · have HE : Hid (saysM (16, b) l = none) := hid (by unfold saysM; simp only; repeat (rw [if_neg (by omega)]))
              have hl1 : L = 0 := by omega
              rw [← hL] at hl ⊢
              clear hl0 hL HS
              subst hl1
              go_enter Tryd.func60, Tryd.ntmps60
              go_wp2_with fail
              refine bodyPost_ret (v := .tuple #[.int .i64 0, .int .i64 0, .bool false]) (by simp [results, Tryd.results60, go_sem]) rfl ⟨by rw [HE.out]; rfl, ((Kept.refl _ w).alloc _)⟩
          · have HE : Hid (saysM (16, b) l = none) := hid (by unfold saysM; simp only; repeat (rw [if_neg (by omega)]))
            have hb4 : decide (b ≤ 3) = false := by simp; omega
            go_enter Tryd.func60, Tryd.ntmps60
            go_wp2_with fail
            refine bodyPost_ret (v := .tuple #[.int .i64 0, .int .i64 0, .bool false]) (by simp [results, Tryd.results60, go_sem]) rfl ⟨by rw [HE.out]; rfl, ((Kept.refl _ w).alloc _)⟩
        · have HE : Hid (saysM (16, b) l = none) := hid (by unfold saysM; simp only; repeat (rw [if_neg (by omega)]))
          have hb4 : decide (0 ≤ b) = false := by simp; omega
          go_enter Tryd.func60, Tryd.ntmps60
          go_wp2_with fail
          refine bodyPost_ret (v := .tuple #[.int .i64 0, .int .i64 0, .bool false]) (by simp [results, Tryd.results60, go_sem]) rfl ⟨by rw [HE.out]; rfl, ((Kept.refl _ w).alloc _)⟩
      · have e16 : (a == 16) = false := by simp; omega
        by_cases h17 : a = 17
        · subst h17
          by_cases hb0 : 0 ≤ b
          · by_cases hb3 : b ≤ 7
            · have HE : Hid (saysM (17, b) l = some (0, b.toNat + 3)) := hid (by unfold saysM; rw [if_neg (by simp), if_neg (by simp), if_pos ⟨rfl, hb0, hb3⟩])
              obtain ⟨k, hk⟩ : ∃ k, k = b.toNat + 3 := ⟨_, rfl⟩
              have hkI : b + 3 = (k : Int) := by omega
              have hwk : IntKind.i64.wrap (k : Int) = (k : Int) := by rw [IntKind.wrap_i64]; omega
              have HKK : Hid (k = b.toNat + 3) := hk
              clear hk
              go_enter Tryd.func60, Tryd.ntmps60
              go_wp2_with fail
              go_quiet (fail)
              go_wp2_with fail
              refine bodyPost_ret (v := .tuple #[.int .i64 0, .int .i64 (k : Nat), .bool true]) (by simp [results, Tryd.results60, go_sem]) rfl ⟨by rw [HE.out]; simp only [saysV]; rw [← HKK.out]; rfl, ((Kept.refl _ w).alloc _).drewN _⟩
            · have HE : Hid (saysM (17, b) l = none) := hid (by unfold saysM; simp only; repeat (rw [if_neg (by omega)]))
              have hb4 : decide (b ≤ 7) = false := by simp; omega
              go_enter Tryd.func60, Tryd.ntmps60
              go_wp2_with fail
              refine bodyPost_ret (v := .tuple #[.int .i64 0, .int .i64 0, .bool false]) (by simp [results, Tryd.results60, go_sem]) rfl ⟨by rw [HE.out]; rfl, ((Kept.refl _ w).alloc _)⟩
          · have HE : Hid (saysM (17, b) l = none) := hid (by unfold saysM; simp only; repeat (rw [if_neg (by omega)]))
            have hb4 : decide (0 ≤ b) = false := by simp; omega
            go_enter Tryd.func60, Tryd.ntmps60
            go_wp2_with fail
            refine bodyPost_ret (v := .tuple #[.int .i64 0, .int .i64 0, .bool false]) (by simp [results, Tryd.results60, go_sem]) rfl ⟨by rw [HE.out]; rfl, ((Kept.refl _ w).alloc _)⟩
        · have e17 : (a == 17) = false := by simp; omega
          by_cases h18 : a = 18
          · subst h18
            by_cases hb0 : 0 ≤ b
            · by_cases hb3 : b ≤ 127
              · have HE : Hid (saysM (18, b) l = some (0, b.toNat + 11)) := hid (by unfold saysM; rw [if_neg (by simp), if_neg (by simp), if_neg (by simp), if_pos ⟨rfl, hb0, hb3⟩])
                obtain ⟨k, hk⟩ : ∃ k, k = b.toNat + 11 := ⟨_, rfl⟩
                have hkI : b + 11 = (k : Int) := by omega
                have hwk : IntKind.i64.wrap (k : Int) = (k : Int) := by rw [IntKind.wrap_i64]; omega
                have HKK : Hid (k = b.toNat + 11) := hk
                clear hk
                go_enter Tryd.func60, Tryd.ntmps60
                go_wp2_with fail
                go_quiet (fail)
                go_wp2_with fail
                refine bodyPost_ret (v := .tuple #[.int .i64 0, .int .i64 (k : Nat), .bool true]) (by simp [results, Tryd.results60, go_sem]) rfl ⟨by rw [HE.out]; simp only [saysV]; rw [← HKK.out]; rfl, ((Kept.refl _ w).alloc _).drewN _⟩
              · have HE : Hid (saysM (18, b) l = none) := hid (by unfold saysM; simp only; repeat (rw [if_neg (by omega)]))
                have hb4 : decide (b ≤ 127) = false := by simp; omega
                go_enter Tryd.func60, Tryd.ntmps60
                go_wp2_with fail
                refine bodyPost_ret (v := .tuple #[.int .i64 0, .int .i64 0, .bool false]) (by simp [results, Tryd.results60, go_sem]) rfl ⟨by rw [HE.out]; rfl, ((Kept.refl _ w).alloc _)⟩
            · have HE : Hid (saysM (18, b) l = none) := hid (by unfold saysM; simp only; repeat (rw [if_neg (by omega)]))
              have hb4 : decide (0 ≤ b) = false := by simp; omega
              go_enter Tryd.func60, Tryd.ntmps60
              go_wp2_with fail
              refine bodyPost_ret (v := .tuple #[.int .i64 0, .int .i64 0, .bool false]) (by simp [results, Tryd.results60, go_sem]) rfl ⟨by rw [HE.out]; rfl, ((Kept.refl _ w).alloc _)⟩
          · have HE : Hid (saysM (a, b) l = none) := hid (by unfold saysM; simp only; repeat (rw [if_neg (by omega)]))
            have e18 : (a == 18) = false := by simp; omega
            go_enter Tryd.func60, Tryd.ntmps60
            go_wp2_with fail
            refine bodyPost_ret (v := .tuple #[.int .i64 0, .int .i64 0, .bool false]) (by simp [results, Tryd.results60, go_sem]) rfl ⟨by rw [HE.out]; rfl, ((Kept.refl _ w).alloc _)⟩
  · have HE : Hid (saysM (a, b) l = none) := hid (by unfold saysM; simp only; repeat (rw [if_neg (by omega)]))
    have hda : decide (0 ≤ a) = false := by simp; omega
    have e16 : (a == 16) = false := by simp; omega
    have e17 : (a == 17) = false := by simp; omega
    have e18 : (a == 18) = false := by simp; omega
    go_enter Tryd.func60, Tryd.ntmps60
    go_wp2_with fail
    refine bodyPost_ret (v := .tuple #[.int .i64 0, .int .i64 0, .bool false]) (by simp [results, Tryd.results60, go_sem]) rfl ⟨by rw [HE.out]; rfl, ((Kept.refl _ w).alloc _)⟩

end Go.Proofs.YtofhlnpbflkdlaaDoor

/-
  append of whatever slice that can be read, nil among them, onto a row of one's own.
-/
namespace Go.Proofs.YtofhlnpbflkdlaaDoor
open Go.RowKit

theorem wpList_append_x {α : Type} {ops : Array Oper} {rest : List Oper} {o : Oper} {a : Act} {Q : Exit → Act → World → Prop} (w : World) (enc : α → Value) (hone : ∀ (l : List α), ∀ u ∈ l.map enc, u.oneCell' = true) (B sT eT : Nat) (z : Value) (bytes : Nat)
    (hU : Tryd.prog.underlying sT = some (.slice eT)) (hI : (Tryd.prog.info? eT).map (fun i => (i.zero, i.size, i.bytes)) = some (some z, 1, bytes)) (hz : z.cells.size = 1) (hby : bytes ≤ 24) (hgd : o.guard = none) (s x : Operand)
    (ho : o.op = .call { callee := .builtin .append, args := #[s, x], argTypes := #[sT, sT] })
    (v : Value) (xs : List α) (hs : a.eval s = v) (hrow : RowE B eT enc w v xs) (I : Nat → Prop) (ao : Option Addr) (n c : Nat) (cs : List α) (hx : a.eval x = .slice ao n c) (hsrc : SrcE enc w I (.slice ao n c) cs) (h0 : ao = none → c = 0) (hlen : xs.length + cs.length ≤ 1000000000) (hB : B ≤ w.heap.size)
    (h : ∀ v' w', RowE B eT enc w' v' (xs ++ cs) → w.grownBy w' v.ownBlock → wpList Tryd.prog ops Q rest (a.put o.dst v') w') : wpList Tryd.prog ops Q (o :: rest) a w := by
  obtain ⟨hn, hat⟩ := hsrc.at
  cases ao with
  | some ad =>
    refine wpList_append_e w enc hone B sT eT z bytes hU hI hz hby hgd s x ho v xs hs hrow ad n c cs hx hn.symm ?_ hlen hB h
    by_cases h0 : cs = []
    · subst h0; intro j u hu; simp at hu
    · obtain ⟨a', e, hb⟩ := hat h0
      injection e with e
      subst e
      exact hb
  | none =>
    have e0 : cs = [] := Classical.byContradiction (fun hne => by obtain ⟨_, e, _⟩ := hat hne; cases e)
    subst e0
    have hc := h0 rfl
    have hn0 : n = 0 := hn
    subst hc hn0
    obtain ⟨i0, hi, hz0, hz1, hz2⟩ := info_parts hI
    refine wpList_plain hgd fun K hK => ?_
    have hr := run_append_owned_none (P := Tryd.prog) w B sT o.type eT i0 1 hU hi v xs.length (xs.map enc) hrow
    unfold Oper.wp execOp
    simp only [ho, resolve, invoke, builtin, Sem.run_bind, Sem.run_pure, Result.andThen_ok, List.map_toArray, List.map_cons, List.map_nil, hs, hx, hr]
    exact hK _ _ (h v w (by simpa using hrow) (World.grownBy.refl _ _))

/-- The same of ints. -/
theorem wpList_append_ints {ops : Array Oper} {rest : List Oper} {o : Oper} {a : Act} {Q : Exit → Act → World → Prop} (w : World) (B : Nat) (hgd : o.guard = none) (s x : Operand)
    (ho : o.op = .call { callee := .builtin .append, args := #[s, x], argTypes := #[22, 22] })
    (v : Value) (xs : List Nat) (hs : a.eval s = v) (hrow : NRow B w v xs) (I : Nat → Prop) (ao : Option Addr) (n c : Nat) (cs : List Nat) (hx : a.eval x = .slice ao n c) (hsrc : SrcE natV w I (.slice ao n c) cs) (h0 : ao = none → c = 0) (hlen : xs.length + cs.length ≤ 1000000000) (hB : B ≤ w.heap.size)
    (h : ∀ v' w', NRow B w' v' (xs ++ cs) → w.grownBy w' v.ownBlock → wpList Tryd.prog ops Q rest (a.put o.dst v') w') : wpList Tryd.prog ops Q (o :: rest) a w :=
  wpList_append_x w natV natV_one B 22 3 (natV 0) 8 Tryd.underlying22 Tryd.infoN rfl (by decide) hgd s x ho v xs hs hrow I ao n c cs hx hsrc h0 hlen hB h

theorem SrcE.part {w : World} {I : Nat → Prop} {b o cap : Nat} {l : List Nat} (h : SrcE natV w I (.slice (some ⟨b, o, none⟩) l.length cap) l) (k : Nat) (hk : k ≤ l.length) : SrcE natV w I (.slice (some ⟨b, o, none⟩) k cap) (l.take k) := by
  obtain ⟨ao, cap', e, hc, hcell⟩ := h
  simp only [Value.slice.injEq] at e
  obtain ⟨rfl, _, rfl⟩ := e
  refine ⟨_, _, by rw [List.length_take, Nat.min_eq_left hk], by rw [List.length_take]; omega, fun hne => ?_⟩
  obtain ⟨b', o', e, h1, h2⟩ := hcell (by intro e; subst e; simp at hne)
  refine ⟨b', o', e, h1, fun j hj => ?_⟩
  rw [List.length_take] at hj
  rw [h2 j (by omega), List.getElem_take]

theorem SrcE.tail {w : World} {I : Nat → Prop} {b o cap : Nat} {l : List Nat} (h : SrcE natV w I (.slice (some ⟨b, o, none⟩) l.length cap) l) (k px : Nat) (hk : k ≤ l.length) (hp : k < l.length → px = o + k) : SrcE natV w I (.slice (some ⟨b, px, none⟩) (l.length - k) (cap - k)) (l.drop k) := by
  obtain ⟨ao, cap', e, hc, hcell⟩ := h
  simp only [Value.slice.injEq] at e
  obtain ⟨rfl, _, rfl⟩ := e
  refine ⟨_, _, by rw [List.length_drop], by rw [List.length_drop]; omega, fun hne => ?_⟩
  have hkl : k < l.length := by
    rcases Nat.lt_or_ge k l.length with h | h
    · exact h
    · rw [List.drop_eq_nil_of_le h] at hne; exact absurd rfl hne
  obtain ⟨b', o', e, h1, h2⟩ := hcell (by intro e; subst e; simp at hne)
  simp only [Option.some.injEq, Addr.mk.injEq, and_true] at e
  obtain ⟨rfl, rfl⟩ := e
  refine ⟨b, px, rfl, h1, fun j hj => ?_⟩
  rw [List.length_drop] at hj
  rw [hp hkl, Nat.add_assoc, h2 (k + j) (by omega), List.getElem_drop]

end Go.Proofs.YtofhlnpbflkdlaaDoor

/-
  The reference's With and Unpack.
-/
namespace Go.Proofs.YtofhlnpbflkdlaaDoor
open Go.RowKit

set_option maxRecDepth 100000 in
set_option maxHeartbeats 2000000 in
theorem with_no (w : World) (B : Nat) (v : Value) (l : List Nat) (a b : Int) (n : Nat) (hr : NRow B w v l) (hl : l.length ≤ 1000000) (hl15 : ∀ x ∈ l, x ≤ 15) (_hn : n ≤ 1000000) (h : withM l (a, b) n = none) :
    Calls Tryd.prog 41 #[v, .agg #[.int .i64 a, .int .i64 b], .int .i64 (n : Nat)] w fun e w' => e = .returned (.tuple #[.slice none 0 0, .int .i64 41]) ∧ Same w w' := by
  obtain ⟨ao, cap, hv, h1, h2, _⟩ := hr.shape
  subst hv
  have HR : Hid (NRow B w (.slice ao l.length cap) l) := hr
  have HSY := says_any (w.alloc (.cells #[.int .i64 a, .int .i64 b] 31)) _ _ l a b (SrcE.ofRow (World.ownsRow.alloc hr _)) hl
  have HW : Hid (withM l (a, b) n = none) := h
  have H15 : Hid (∀ x ∈ l, x ≤ 15) := hl15
  obtain ⟨L, hL⟩ : ∃ L, L = l.length := ⟨_, rfl⟩
  have HL : Hid (L = l.length) := hL
  rw [← hL] at hl HSY HR ⊢
  clear hr h hL h1 h2 hl15
  go_enter Tryd.func41, Tryd.ntmps41
  cases hsm : saysM (a, b) l with
  | none =>
    rw [hsm] at HSY
    unfold saysV at HSY
    go_wp2_with fail
    refine HSY.mono ?_
    rintro e w2 ⟨rfl, hk⟩
    have HK : Hid (Same w w2) := hid (Same.trans ((Kept.refl _ w).alloc _) hk)
    clear hk HSY hsm
    go_wp2_with fail
    go_ret2
    exact ⟨rfl, HK.out⟩
  | some p =>
    obtain ⟨x, k⟩ := p
    rw [hsm] at HSY
    have hk1 := saysM_le hsm H15.out
    have hbig : n < l.length + k := by
      have h := HW.out
      unfold withM at h
      rw [hsm] at h
      simp only at h
      split at h
      · assumption
      · cases h
    unfold saysV at HSY
    obtain ⟨t, ht⟩ : ∃ t, t = L + k := ⟨_, rfl⟩
    have htI : (L : Int) + (k : Int) = (t : Int) := by omega
    have htn : n < t := by have := HL.out; omega
    clear ht hbig hsm
    go_wp2_with fail
    refine HSY.mono ?_
    rintro e w2 ⟨rfl, hk⟩
    have HK : Hid (Same w w2) := hid (Same.trans ((Kept.refl _ w).alloc _) hk)
    clear hk HSY
    go_wp2_with fail
    go_ret2
    exact ⟨rfl, HK.out⟩

set_option maxRecDepth 100000 in
set_option maxHeartbeats 2000000 in
theorem with_yes (w : World) (B : Nat) (v : Value) (l m : List Nat) (a b : Int) (n : Nat) (hr : NRow B w v l) (hl : l.length ≤ 1000000) (hl15 : ∀ x ∈ l, x ≤ 15) (hn : n ≤ 1000000) (h : withM l (a, b) n = some m) :
    Calls Tryd.prog 41 #[v, .agg #[.int .i64 a, .int .i64 b], .int .i64 (n : Nat)] w fun e w' => ∃ v', e = .returned (.tuple #[v', .int .i64 0]) ∧ New w w' v' m := by
  obtain ⟨ao, cap, hv, h1, h2, _⟩ := hr.shape
  subst hv
  have HR : Hid (NRow B w (.slice ao l.length cap) l) := hr
  have HSY := says_any (w.alloc (.cells #[.int .i64 a, .int .i64 b] 31)) _ _ l a b (SrcE.ofRow (World.ownsRow.alloc hr _)) hl
  obtain ⟨x, k, hsm, hfit, hm⟩ : ∃ x k, saysM (a, b) l = some (x, k) ∧ l.length + k ≤ n ∧ m = l ++ List.replicate k x := by
    unfold withM at h
    split at h
    · cases h
    · rename_i x k hs
      split at h
      · cases h
      · simp only [Option.some.injEq] at h
        exact ⟨x, k, hs, by omega, h.symm⟩
  have hk1 := saysM_le hsm hl15
  rw [hsm] at HSY
  have HM : Hid (m = l ++ List.replicate k x) := hm
  have HC0 : Hid (ao = none → cap = 0) := h2
  obtain ⟨L, hL⟩ : ∃ L, L = l.length := ⟨_, rfl⟩
  have HL : Hid (L = l.length) := hL
  rw [← hL] at hl HSY HR hfit ⊢
  obtain ⟨t, ht⟩ : ∃ t, t = L + k := ⟨_, rfl⟩
  have htI : (L : Int) + (k : Int) = (t : Int) := by omega
  have htn : decide (n < t) = false := by simp; omega
  clear hr h hL h1 h2 hl15 hm hsm ht
  unfold saysV at HSY
  go_enter Tryd.func41, Tryd.ntmps41
  go_wp2_with fail
  refine HSY.mono ?_
  rintro e w2 ⟨rfl, hk⟩
  have HK : Hid (Same w w2) := hid (Same.trans ((Kept.refl _ w).alloc _) hk)
  have hsz := HK.out.size
  clear hk HSY
  go_wp2_with (at_builtin; refine wpList_append_ints _ w.heap.size rfl (.tmp 30) (.tmp 31) rfl (.slice none 0 0) [] rfl RowE.nil _ ao L cap l rfl (SrcE.ofRow (HR.out.same HK.out)) HC0.out (by have := HL.out; simp; omega) hsz ?_; intro v3 w3 hr3 hg3; have HR3 : Hid (NRow w.heap.size w3 v3 (l ++ List.replicate 0 x)) := hid (by simpa using hr3); have HK3 : Hid (Same w w3) := hid (HK.out.grown hg3 (fun j e => by cases e)); clear hr3 hg3)
  go_loopg [11, 12] k (fun q zv zi wr => ∃ (i : Nat), k - i ≤ q ∧ i ≤ k ∧ zi = .int .i64 (i : Nat) ∧ Hid (NRow w.heap.size wr zv (l ++ List.replicate i x)) ∧ Hid (Same w wr))
  case atStart => exact ⟨0, by omega, by omega, rfl, HR3, HK3⟩
  case round =>
    clear HR3 HK3
    obtain ⟨i, hq, hi, rfl, HV, HK4⟩ := hrel
    by_cases hlt : i < k
    · have hsz4 := HK4.out.size
      have HLN : Hid ((l ++ List.replicate i x).length + [x].length ≤ 1000000000) := hid (by have := HL.out; simp; omega)
      go_wp2_with (at_builtin; refine wpList_append_e _ natV natV_one w.heap.size 22 3 (natV 0) 8 Tryd.underlying22 Tryd.infoN rfl (by decide) rfl (.tmp 38) (.tmp 40) rfl u11 (l ++ List.replicate i x) rfl (World.ownsRow.alloc HV.out _) ⟨wr.heap.size, 0, none⟩ 1 1 [x] rfl rfl (cellsAt_new _ _ _) HLN.out (by simp; omega) ?_; intro v5 w5 hr5 hg5)
      have HV5 : Hid (NRow w.heap.size w5 v5 (l ++ List.replicate (i + 1) x)) := hid (by rw [List.replicate_succ', ← List.append_assoc]; exact hr5)
      have HK5 : Hid (Same w w5) := hid ((HK4.out.alloc _).grown hg5 (fun j e => .inr (HV.out.ge e)))
      clear hr5 hg5
      go_wp2_with fail
      go_roundg (gk - 1)
      case measure => omega
      case rel => exact ⟨i + 1, by omega, by omega, by go_num, HV5, HK5⟩
    · have hik : i = k := by omega
      have HV6 : Hid (New w wr u11 m) := hid ⟨by rw [HM.out, ← hik]; exact HV.out, HK4.out⟩
      clear hik
      go_wp2_with fail
      go_ret2
      exact ⟨_, rfl, HV6.out⟩

/-- An answer of Unpack: an error, or a new row. -/
def UnpA (w w' : World) (e : Ending) : Except Nat (List Nat) → Prop
  | .error c => e = .returned (.tuple #[.slice none 0 0, .int .i64 (c : Nat)]) ∧ Same w w'
  | .ok l => ∃ v', e = .returned (.tuple #[v', .int .i64 0]) ∧ New w w' v' l

set_option maxRecDepth 100000 in
set_option maxHeartbeats 2000000 in
theorem unpack_any (w : World) (v : Value) (I : Nat → Prop) (ss : List (Int × Int)) (nz : Int) (hs : StSrc w I v ss) (hlen : ss.length ≤ 10000000) :
    Calls Tryd.prog 16 #[v, .int .i64 nz] w fun e w' => UnpA w w' e (unpM ss nz) := by
  obtain ⟨ao, cap, rfl, hx1, hx2⟩ := id hs
  clear hx1 hx2
  have HS : Hid (StSrc w I (.slice ao ss.length cap) ss) := hs
  clear hs
  by_cases hneg : nz < 0
  · have HE : Hid (unpM ss nz = .error 1) := hid (by unfold unpM; rw [if_pos (.inl hneg)])
    go_enter Tryd.func16, Tryd.ntmps16
    go_wp2_with fail
    go_ret2
    rw [HE.out]
    exact ⟨rfl, Kept.refl _ _⟩
  · by_cases hbig : 316 < nz
    · have HE : Hid (unpM ss nz = .error 1) := hid (by unfold unpM; rw [if_pos (.inr hbig)])
      go_enter Tryd.func16, Tryd.ntmps16
      go_wp2_with fail
      go_ret2
      rw [HE.out]
      exact ⟨rfl, Kept.refl _ _⟩
    · obtain ⟨n, rfl⟩ : ∃ n : Nat, nz = (n : Int) := ⟨nz.toNat, by omega⟩
      have hn : n ≤ 316 := by omega
      have b1 : decide ((n : Int) < 0) = false := by simp
      have b2 : decide ((316 : Int) < (n : Int)) = false := by simp; omega
      have HU : Hid (unpM ss (n : Int) = match runM n [] ss with | none => .error 41 | some l => if l.length < n then .error 41 else .ok l) := hid (by
        unfold unpM
        rw [if_neg (by omega)]
        simp only [Int.toNat_natCast]
        all_goals rfl)
      clear hneg hbig
      go_enter Tryd.func16, Tryd.ntmps16
      go_wp2_with fail
      clear b1 b2
      go_loopg [6, 7] ss.length (fun q zl zi wr => ∃ (i : Nat) (l : List Nat), ss.length - i ≤ q ∧ i ≤ ss.length ∧ zi = .int .i64 (i : Nat) ∧ Hid (runM n [] (ss.take i) = some l ∧ l.length ≤ n ∧ ∀ x ∈ l, x ≤ 15) ∧ Hid (NRow w.heap.size wr zl l) ∧ Hid (Same w wr))
      case atStart => exact ⟨0, [], by omega, by omega, rfl, hid ⟨by simp [runM], by simp, by simp⟩, RowE.nil, Kept.refl _ _⟩
      case round =>
        obtain ⟨i, l, hq, hi, rfl, HRUN, HV, HK⟩ := hrel
        by_cases hlt : i < ss.length
        · obtain ⟨b, o, e1, _, hcell⟩ : ∃ b o, ao = some ⟨b, o, none⟩ ∧ True ∧ ∀ t (_ : t < 2), wr.cell? ⟨b, o + (i * 2 + t), none⟩ = (stC ss[i])[t]? := by
            obtain ⟨ao', cap', e1, _, e2⟩ := HS.out.kept stC_ok HK.out (fun _ _ _ f => f)
            injection e1 with e3 _ _
            subst e3
            obtain ⟨b, o, e4, _, e5⟩ := e2 (by intro e; rw [e] at hlt; simp at hlt)
            exact ⟨b, o, e4, trivial, e5 i hlt⟩
          subst e1
          obtain ⟨x, y, hxy⟩ : ∃ x y, ss[i] = (x, y) := ⟨_, _, rfl⟩
          rw [hxy] at hcell
          have c1 : wr.cell? ⟨b, o + i * 2, none⟩ = some (.int .i64 x) := hcell 0 (by decide)
          have c2 : wr.cell? ⟨b, o + i * 2 + 1, none⟩ = some (.int .i64 y) := hcell 1 (by decide)
          have HSN : Hid (runM n [] (ss.take (i + 1)) = withM l (x, y) n) := hid (by
            rw [List.take_succ_eq_append_getElem hlt, runM_snoc, HRUN.out.1, hxy]
            rfl)
          clear hcell hxy
          cases hw : withM l (x, y) n with
          | none =>
            have HW := with_no wr w.heap.size u6 l x y n HV.out (by have := HRUN.out.2.1; omega) HRUN.out.2.2 (by omega) hw
            have HE : Hid (unpM ss (n : Int) = .error 41) := hid (by
              have h := runM_none (n := n) (l := []) (ss.take (i + 1)) (ss.drop (i + 1)) (by rw [HSN.out, hw])
              rw [List.take_append_drop] at h
              rw [HU.out, h])
            clear hw
            go_wp2_with fail
            refine HW.mono ?_
            rintro e w2 ⟨rfl, hk2⟩
            have HK2 : Hid (Same w w2) := hid (Same.trans HK.out hk2)
            clear hk2 HW
            go_wp2_with fail
            first
              | (go_ret2; rw [HE.out]; exact ⟨rfl, HK2.out⟩)
              | (go_quiet (fail); go_wp2_with fail; go_ret2; rw [HE.out]; exact ⟨rfl, HK2.out.drewN _⟩)
          | some m =>
            have HW := with_yes wr w.heap.size u6 l m x y n HV.out (by have := HRUN.out.2.1; omega) HRUN.out.2.2 (by omega) hw
            have HM : Hid (runM n [] (ss.take (i + 1)) = some m ∧ m.length ≤ n ∧ ∀ x ∈ m, x ≤ 15) := hid ⟨by rw [HSN.out, hw], (withM_grows hw HRUN.out.2.2).2.1, (withM_grows hw HRUN.out.2.2).2.2⟩
            clear hw
            go_wp2_with fail
            refine HW.mono ?_
            rintro e w2 ⟨v2, rfl, hn2⟩
            have HK2 : Hid (Same w w2) := hid (Same.trans HK.out hn2.same)
            have HV2 : Hid (NRow w.heap.size w2 v2 m) := hid (RowE.base hn2.row HK.out.size)
            clear hn2 HW
            go_wp2_with fail
            go_roundg (gk - 1)
            case measure => omega
            case rel => exact ⟨i + 1, m, by omega, by omega, by go_num, HM, HV2, HK2⟩
        · have hrun : runM n [] ss = some l := by
            have h := HRUN.out.1
            rw [List.take_of_length_le (by omega)] at h
            exact h
          obtain ⟨ao2, cap2, hv2, _⟩ := HV.out.shape
          subst hv2
          obtain ⟨L, hL⟩ : ∃ L, L = l.length := ⟨_, rfl⟩
          rw [← hL] at HV ⊢
          by_cases hsh : L < n
          · have HE : Hid (unpM ss (n : Int) = .error 41) := hid (by rw [HU.out, hrun]; simp only; rw [if_pos (by omega)])
            clear hrun hL
            go_wp2_with fail
            go_ret2
            rw [HE.out]
            exact ⟨rfl, HK.out⟩
          · have HE : Hid (unpM ss (n : Int) = .ok l) := hid (by rw [HU.out, hrun]; simp only; rw [if_neg (by omega)])
            clear hrun hL
            go_wp2_with fail
            go_ret2
            rw [HE.out]
            exact ⟨_, rfl, HV.out, HK.out⟩

end Go.Proofs.YtofhlnpbflkdlaaDoor

/-
  A block of cells, whole: an object of some fields.
-/
namespace Go.Proofs.YtofhlnpbflkdlaaDoor
open Go.RowKit

/-- The block h holds just these cells, none of them frozen. -/
def Blk (w : World) (h : Nat) (cs : Array Value) (t : TypeId) : Prop := w.heap[h]? = some (.cells cs t (0, 0))

theorem Blk.lt {w : World} {h : Nat} {cs : Array Value} {t : TypeId} (b : Blk w h cs t) : h < w.heap.size := (Array.getElem?_eq_some_iff.1 b).1

theorem Blk.cell {w : World} {h : Nat} {cs : Array Value} {t : TypeId} (b : Blk w h cs t) (i : Nat) : w.cell? ⟨h, i, none⟩ = cs[i]? := by
  unfold Blk at b
  simp [World.cell?, b]

theorem Blk.frozen {w : World} {h : Nat} {cs : Array Value} {t : TypeId} (b : Blk w h cs t) (i : Nat) : w.frozen? ⟨h, i, none⟩ = false := by
  unfold Blk at b
  simp [World.frozen?, b]

theorem Blk.kept {F : Nat → Prop} {w w' : World} {h : Nat} {cs : Array Value} {t : TypeId} (b : Blk w h cs t) (hk : Kept F w w') (hF : ¬ F h) : Blk w' h cs t := by
  unfold Blk
  rw [hk.block h b.lt hF]
  exact b

theorem Blk.set {w : World} {h : Nat} {cs : Array Value} {t : TypeId} (b : Blk w h cs t) (i : Nat) (u : Value) : Blk (w.setCell ⟨h, i, none⟩ u) h (cs.setIfInBounds i u) t := by
  unfold Blk at b ⊢
  simp [World.setCell, Array.getElem?_modify, b]

theorem Blk.new (w : World) (cs : Array Value) (t : TypeId) : Blk (w.alloc (.cells cs t)) w.heap.size cs t := by
  unfold Blk World.alloc
  simp

theorem Blk.drewN {w : World} {h : Nat} {cs : Array Value} {t : TypeId} (b : Blk w h cs t) (n : Nat) : Blk (w.drewN n) h cs t := b

end Go.Proofs.YtofhlnpbflkdlaaDoor

/-
  The reference's Next, walked.
-/
namespace Go.Proofs.YtofhlnpbflkdlaaDoor
open Go.RowKit

theorem fit_step (r ls : List Nat) (c n : Nat) (hn : n < r.length) (hq : c + n < ls.length) (h : r.take n = (ls.drop c).take n) (he : r[n] = ls[c + n]) : r.take (n + 1) = (ls.drop c).take (n + 1) := by
  have hd : n < (ls.drop c).length := by rw [List.length_drop]; omega
  rw [List.take_succ_eq_append_getElem hn, List.take_succ_eq_append_getElem hd, h, List.getElem_drop, he]

theorem fit_no (r ls : List Nat) (c n : Nat) (hn : n < r.length) (h : ¬ c + n < ls.length ∨ ∃ hq : c + n < ls.length, r[n] ≠ ls[c + n]) : ¬ r <+: ls.drop c := by
  intro hp
  have hl := hp.length_le
  rw [List.length_drop] at hl
  rcases h with h | ⟨hq, hne⟩
  · omega
  · have := List.IsPrefix.getElem hp hn
    rw [List.getElem_drop] at this
    exact hne this

theorem beg_yes (r ls : List Nat) (c n : Nat) (_hn : n < r.length) (h : r.take n = (ls.drop c).take n) (he : c + n = ls.length) : ls.drop c <+: r := by
  rw [List.take_of_length_le (l := ls.drop c) (by rw [List.length_drop]; omega)] at h
  rw [← h]
  exact List.take_prefix _ _

theorem beg_no (r ls : List Nat) (c n : Nat) (hn : n < r.length) (hq : c + n < ls.length) (hne : r[n] ≠ ls[c + n]) : ¬ ls.drop c <+: r := by
  intro hp
  have hd : n < (ls.drop c).length := by rw [List.length_drop]; omega
  have := List.IsPrefix.getElem hp hd
  rw [List.getElem_drop] at this
  exact hne this.symm

/-- A flag that tells whether. -/
def Tells (B : Bool) (P : Prop) : Prop := (B = true ↔ P)

set_option maxRecDepth 100000 in
set_option maxHeartbeats 4000000 in
theorem rnext_any (w w0 : World) (go L : Nat) (ns : List Nat) (rs : List (Option Addr × Nat × Nat)) (v : Value) (I : Nat → Prop) (ls : List Nat) (c : Nat) (hR : RW w0 w go L ns (fun s => key ns s ≠ 0) rs) (hL : L = ns.length) (hl288 : L ≤ 288) (h15 : ∀ s, key ns s ≤ 15) (hs : Src w I v ls) (hlen : ls.length ≤ 100000000) (hc : c ≤ ls.length) :
    Calls Tryd.prog 68 #[.slice (some ⟨go, 0, none⟩) L L, v, .int .i64 (c : Nat)] w fun e w' => (∃ is k g : Nat, e = .returned (.tuple #[.int .i64 (is : Nat), .int .i64 (k : Nat), .int .i64 (g : Nat)]) ∧ RNext ns (ls.drop c) is k g) ∧ Same w w' := by
  obtain ⟨ao, cap, rfl, hsa⟩ := id hs
  have HS : Hid (Src w I (.slice ao ls.length cap) ls) := hs
  have HR : Hid (RW w0 w go L ns (fun s => key ns s ≠ 0) rs) := hR
  have HL : Hid (L = ns.length) := hL
  have HRL : Hid (rs.length = L) := hid hR.row.len
  have H15 : Hid (∀ s, key ns s ≤ 15) := h15
  clear hs hR hL hsa h15
  obtain ⟨M, hM⟩ : ∃ M, M = ls.length := ⟨_, rfl⟩
  rw [← hM] at HS hlen hc ⊢
  have HM : Hid (M = ls.length) := hM
  clear hM
  go_enter Tryd.func68, Tryd.ntmps68
  go_wp2_with fail
  go_loopg [9, 10] L (fun q zb zi wr => ∃ (i : Nat) (B : Bool), L - i ≤ q ∧ i ≤ L ∧ zi = .int .i64 (i : Nat) ∧ zb = .bool B ∧ Hid (∀ s, s < i → ¬ Fit ns (ls.drop c) s) ∧ Hid (Tells B (∃ s, s < i ∧ Beg ns (ls.drop c) s)) ∧ Hid (Same w wr))
  case atStart => exact ⟨0, false, by omega, by omega, rfl, rfl, hid (fun s h => by omega), hid ⟨(fun h => by cases h), (fun h => by obtain ⟨s, h, _⟩ := h; omega)⟩, Kept.refl _ _⟩
  case round =>
    obtain ⟨i, B, hq, hi, rfl, rfl, HF, HB, HK⟩ := hrel
    obtain ⟨gk0, hgk⟩ : ∃ x, x = gk := ⟨_, rfl⟩
    rw [← hgk] at hq
    have HG : Hid (gk0 = gk) := hgk
    clear hgk
    by_cases hlt : i < L
    · have hirs : i < rs.length := by have := HRL.out; omega
      have cr := (HR.out.row.same HK.out).cell i hirs
      by_cases hk0 : key ns i = 0
      · rw [HR.out.none' i hirs (fun h => h hk0)] at cr
        have cr2 : wr.cell? ⟨go, i, none⟩ = some (.slice none 0 0) := cr
        have HF2 : Hid (∀ s, s < i + 1 → ¬ Fit ns (ls.drop c) s) := hid (fun s h hf => by
          by_cases e : s = i
          · subst e; exact hf.1 hk0
          · exact HF.out s (by omega) hf)
        have HB2 : Hid (Tells B (∃ s, s < i + 1 ∧ Beg ns (ls.drop c) s)) := hid (by
          have hb' := HB.out
          unfold Tells at hb' ⊢
          rw [hb']
          constructor
          · rintro ⟨s, h1, h2⟩; exact ⟨s, by omega, h2⟩
          · rintro ⟨s, h1, h2⟩
            by_cases e : s = i
            · subst e; exact absurd hk0 h2.1
            · exact ⟨s, by omega, h2⟩)
        clear cr hk0
        go_wp2_with fail
        go_roundg (gk0 - 1)
        case measure => have := HG.out; omega
        case rel => exact ⟨i + 1, B, by omega, by omega, by go_num, rfl, HF2, HB2, HK⟩
      · have hrow : Row wr (slV rs[i]) (rowOf ns i) := (HR.out.have' i hirs hk0).1.kept HK.out (fun _ _ f => f)
        obtain ⟨ar, capr, hvr, hgr⟩ := hrow.shape
        have hrl := rowOf_length ns i
        obtain ⟨gr, hgr⟩ := hgr (by intro e; rw [e] at hrl; simp at hrl; omega)
        subst hgr
        rw [hvr] at cr hrow
        rw [hrl] at cr hrow
        obtain ⟨K, hK⟩ : ∃ K, K = key ns i := ⟨_, rfl⟩
        rw [← hK] at cr hrow hrl
        have hK0 : 0 < K := by omega
        have hK15 : K ≤ 15 := by rw [hK]; exact H15.out i
        have HRO : Hid (Row wr (.slice (some ⟨gr, 0, none⟩) (rowOf ns i).length capr) (rowOf ns i)) := hid (by rw [hrl]; exact hrow)
        have HRLN : Hid ((rowOf ns i).length = K) := hrl
        have HKY : Hid (K = key ns i ∧ key ns i ≠ 0) := hid ⟨hK, hk0⟩
        have HCR : Hid (wr.cell? ⟨go, i, none⟩ = some (.slice (some ⟨gr, 0, none⟩) K capr)) := cr
        have hnz : ((K : Int) == 0) = false := by simp; omega
        obtain ⟨w1, hw1⟩ : ∃ w1, w1 = wr := ⟨_, rfl⟩
        subst hw1
        clear hvr hrow hrl hK hk0
        go_wp2_with fail
        clear hnz cr
        go_loopg [11] K (fun q zn wr => ∃ (n : Nat), K - n ≤ q ∧ n ≤ K ∧ c + n ≤ M ∧ zn = .int .i64 (n : Nat) ∧ Hid ((rowOf ns i).take n = (ls.drop c).take n) ∧ Hid (Same w1 wr))
        case atStart => exact ⟨0, by omega, by omega, by omega, rfl, hid (by simp), Kept.refl _ _⟩
        case round =>
          obtain ⟨n, hq2, hnK, hcn, rfl, HT, HK2⟩ := hrel
          have cr : wr.cell? ⟨go, i, none⟩ = some (.slice (some ⟨gr, 0, none⟩) K capr) := HK2.out.cell HCR.out (fun h => h)
          obtain ⟨x, hx⟩ : ∃ x, x = c + n := ⟨_, rfl⟩
          have hxI : (c : Int) + (n : Int) = (x : Int) := by omega
          have hwx : IntKind.i64.wrap (x : Int) = (x : Int) := by rw [IntKind.wrap_i64]; omega
          have HX : Hid (x = c + n) := hx
          clear hx
          by_cases hnlt : n < K
          · have hnr : n < (rowOf ns i).length := by have := HRLN.out; omega
            have c1 : wr.cell? ⟨gr, n, none⟩ = some (.int .u8 ((rowOf ns i)[n] : Nat)) := HK2.out.cell (HRO.out.cell n hnr) (fun h => h)
            obtain ⟨y1, hy1⟩ : ∃ y, y = (rowOf ns i)[n] := ⟨_, rfl⟩
            rw [← hy1] at c1
            have hn1 : ((n : Int) == (K : Int)) = false := by simp; omega
            by_cases hxl : x < M
            · have hxl2 : c + n < ls.length := by have := HM.out; have := HX.out; omega
              obtain ⟨b, o, rfl, _, hcell⟩ : ∃ b o, ao = some ⟨b, o, none⟩ ∧ True ∧ wr.cell? ⟨b, o + x, none⟩ = some (.int .u8 (ls[c + n] : Nat)) := by
                obtain ⟨ao', cap', e1, e2⟩ := (HS.out.kept (Same.trans HK.out HK2.out) (fun _ _ _ f => f))
                injection e1 with e3 _ _
                subst e3
                obtain ⟨b, o, e4, _, e5⟩ := e2 (by intro e; rw [e] at hxl2; simp at hxl2)
                refine ⟨b, o, e4, trivial, ?_⟩
                rw [HX.out]
                exact e5 (c + n) hxl2
              obtain ⟨y2, hy2⟩ : ∃ y, y = ls[c + n] := ⟨_, rfl⟩
              rw [← hy2] at hcell
              by_cases he : y1 = y2
              · have hd : ((y1 : Int) == (y2 : Int)) = true := by simp [he]
                have HT2 : Hid ((rowOf ns i).take (n + 1) = (ls.drop c).take (n + 1)) := hid (fit_step _ _ c n hnr hxl2 HT.out (by rw [← hy1, ← hy2, he]))
                have hcn2 : c + (n + 1) ≤ M := by have := HX.out; omega
                clear hy1 hy2 he hn1
                go_wp2_with fail
                go_quiet (fail)
                go_wp2_with fail
                go_roundg (gk - 1)
                case measure => omega
                case rel => exact ⟨n + 1, by omega, by omega, hcn2, by go_num, HT2, hid (HK2.out.drewN _)⟩
              · have hd : ((y1 : Int) == (y2 : Int)) = false := by simp; omega
                have HNF : Hid (¬ Fit ns (ls.drop c) i ∧ ¬ Beg ns (ls.drop c) i) := hid ⟨fun h => fit_no _ _ c n hnr (.inr ⟨hxl2, by rw [← hy1, ← hy2]; exact he⟩) h.2, fun h => beg_no _ _ c n hnr hxl2 (by rw [← hy1, ← hy2]; exact he) h.2⟩
                have hxm : ((x : Int) == (M : Int)) = false := by simp; omega
                clear hy1 hy2 he
                have HF2 : Hid (∀ s, s < i + 1 → ¬ Fit ns (ls.drop c) s) := hid (fun s h hf => by
                  by_cases e : s = i
                  · subst e; exact HNF.out.1 hf
                  · exact HF.out s (by omega) hf)
                have HB2 : Hid (Tells B (∃ s, s < i + 1 ∧ Beg ns (ls.drop c) s)) := hid (by
                  have hb' := HB.out
                  unfold Tells at hb' ⊢
                  rw [hb']
                  constructor
                  · rintro ⟨s, h1, h2⟩; exact ⟨s, by omega, h2⟩
                  · rintro ⟨s, h1, h2⟩
                    by_cases e : s = i
                    · subst e; exact absurd h2 HNF.out.2
                    · exact ⟨s, by omega, h2⟩)
                go_wp2_with fail
                go_quiet (fail)
                cases B with
                | true =>
                  go_wp2_with fail
                  go_roundg (gk0 - 1)
                  case measure => have := HG.out; omega
                  case rel => exact ⟨i + 1, true, by omega, by omega, by go_num, rfl, HF2, HB2, hid (Same.trans HK.out (HK2.out.drewN _))⟩
                | false =>
                  go_wp2_with fail
                  go_roundg (gk0 - 1)
                  case measure => have := HG.out; omega
                  case rel => exact ⟨i + 1, false, by omega, by omega, by go_num, rfl, HF2, HB2, hid (Same.trans HK.out (HK2.out.drewN _))⟩
            · have hxm : ((x : Int) == (M : Int)) = true := by have := HX.out; simp; omega
              have hxd : decide (x < M) = false := by simp; omega
              have HNF : Hid (¬ Fit ns (ls.drop c) i ∧ Beg ns (ls.drop c) i) := hid ⟨fun h => fit_no _ _ c n hnr (.inl (by have := HM.out; have := HX.out; omega)) h.2, HKY.out.2, beg_yes _ _ c n hnr HT.out (by have := HM.out; have := HX.out; omega)⟩
              clear hy1 hxl
              have HF2 : Hid (∀ s, s < i + 1 → ¬ Fit ns (ls.drop c) s) := hid (fun s h hf => by
                by_cases e : s = i
                · subst e; exact HNF.out.1 hf
                · exact HF.out s (by omega) hf)
              have HB2 : Hid (Tells true (∃ s, s < i + 1 ∧ Beg ns (ls.drop c) s)) := hid ⟨fun _ => ⟨i, by omega, HNF.out.2⟩, fun _ => rfl⟩
              go_wp2_with fail
              go_quiet (fail)
              cases B with
              | true =>
                go_wp2_with fail
                go_roundg (gk0 - 1)
                case measure => have := HG.out; omega
                case rel => exact ⟨i + 1, true, by omega, by omega, by go_num, rfl, HF2, HB2, hid (Same.trans HK.out (HK2.out.drewN _))⟩
              | false =>
                go_wp2_with fail
                go_roundg (gk0 - 1)
                case measure => have := HG.out; omega
                case rel => exact ⟨i + 1, true, by omega, by omega, by go_num, rfl, HF2, HB2, hid (Same.trans HK.out (HK2.out.drewN _))⟩
          · have hnK2 : n = K := by omega
            have hnd : decide (n < K) = false := by simp; omega
            have hne : ((n : Int) == (K : Int)) = true := by simp; omega
            have HFIT : Hid (Fit ns (ls.drop c) i ∧ n = key ns i) := hid (by
              refine ⟨⟨HKY.out.2, ?_⟩, by rw [hnK2]; exact HKY.out.1⟩
              have h := HT.out
              rw [List.take_of_length_le (by have := HRLN.out; omega)] at h
              rw [h]
              exact List.take_prefix _ _)
            clear hnlt hnK2
            go_wp2_with fail
            go_quiet (fail)
            go_wp2_with fail
            refine bodyPost_ret (v := .tuple #[.int .i64 (i : Nat), .int .i64 (n : Nat), .int .i64 0]) (by simp [results, Tryd.results68, go_sem]) rfl ⟨⟨i, n, 0, rfl, .inl ⟨rfl, by have := HL.out; omega, HFIT.out.1, HFIT.out.2, HF.out⟩⟩, Same.trans HK.out (HK2.out.drewN _)⟩
    · have hil : i = L := by omega
      have hid' : decide (i < L) = false := by simp; omega
      have HF2 : Hid (∀ s, s < ns.length → ¬ Fit ns (ls.drop c) s) := hid (fun s h => HF.out s (by have := HL.out; omega))
      have HB2 : Hid (Tells B (∃ s, s < ns.length ∧ Beg ns (ls.drop c) s)) := hid (by have hb' := HB.out; rw [hil, HL.out] at hb'; exact hb')
      clear hil hlt
      cases B with
      | true =>
        go_wp2_with fail
        refine bodyPost_ret (v := .tuple #[.int .i64 0, .int .i64 0, .int .i64 10]) (by simp [results, Tryd.results68, go_sem]) rfl ⟨⟨0, 0, 10, rfl, .inr (.inl ⟨rfl, rfl, rfl, HF2.out, HB2.out.1 rfl⟩)⟩, HK.out⟩
      | false =>
        go_wp2_with fail
        refine bodyPost_ret (v := .tuple #[.int .i64 0, .int .i64 0, .int .i64 32]) (by simp [results, Tryd.results68, go_sem]) rfl ⟨⟨0, 0, 32, rfl, .inr (.inr ⟨rfl, rfl, rfl, HF2.out, fun s hs hb => by have := HB2.out.2 ⟨s, hs, hb⟩; cases this⟩)⟩, HK.out⟩

end Go.Proofs.YtofhlnpbflkdlaaDoor

/-
  The reader's inner function 'cut'.
-/
namespace Go.Proofs.YtofhlnpbflkdlaaDoor
open Go.RowKit

theorem cut_bits (V b u k got : Nat) (hV : V < 2 ^ got) (hb : b < 256) (hk : k ≤ 8) (hg : got + k ≤ 32) :
    bits .or .u32 (V : Int) (bits .and .u32 ((b : Int) % 4294967296 / 2 ^ u) ((2 ^ k - 1) % 4294967296) * 2 ^ got % 4294967296) = ((V + 2 ^ got * (b / 2 ^ u % 2 ^ k) : Nat) : Int) := by
  have hk2 : 2 ^ k ≤ 2 ^ 8 := Nat.pow_le_pow_right (by omega) hk
  have hk0 : 0 < 2 ^ k := Nat.two_pow_pos k
  have e1 : ((b : Int) % 4294967296 / 2 ^ u) = ((b / 2 ^ u : Nat) : Int) := by
    rw [show ((b : Int) % 4294967296) = (b : Int) by omega]; simp
  have e2 : (((2 : Int) ^ k - 1) % 4294967296) = ((2 ^ k - 1 : Nat) : Int) := by
    have : ((2 : Int) ^ k) = ((2 ^ k : Nat) : Int) := by simp
    rw [this]
    omega
  have h1 : b / 2 ^ u < 4294967296 := Nat.lt_of_le_of_lt (Nat.div_le_self _ _) (by omega)
  have h2 : 2 ^ k - 1 < 4294967296 := by omega
  rw [e1, e2, u32_and_nat _ _ h1 h2, and_mask]
  have hm : b / 2 ^ u % 2 ^ k < 2 ^ k := Nat.mod_lt _ hk0
  have hlt : b / 2 ^ u % 2 ^ k * 2 ^ got < 4294967296 := by
    have h3 : b / 2 ^ u % 2 ^ k * 2 ^ got < 2 ^ k * 2 ^ got := Nat.mul_lt_mul_of_pos_right hm (Nat.two_pow_pos _)
    have h4 : 2 ^ k * 2 ^ got ≤ 2 ^ 32 := by rw [← Nat.pow_add]; exact Nat.pow_le_pow_right (by omega) (by omega)
    omega
  have e3 : (((b / 2 ^ u % 2 ^ k : Nat) : Int) * 2 ^ got % 4294967296) = ((b / 2 ^ u % 2 ^ k * 2 ^ got : Nat) : Int) := by
    have : ((2 : Int) ^ got) = ((2 ^ got : Nat) : Int) := by simp
    rw [this, ← Int.natCast_mul]
    omega
  have hV32 : V < 4294967296 := by
    have : 2 ^ got ≤ 2 ^ 32 := Nat.pow_le_pow_right (by omega) (by omega)
    omega
  rw [e3, u32_or_nat _ _ hV32 hlt, Nat.mul_comm, or_add _ _ _ hV]

theorem cut_rel {w wr : World} {p : Nat} {s : Value} {bs : List Nat} {c n got k gk nq V b : Nat} (hs : St wr p s bs (c + got)) (hkp : Kept (· = p) w wr) (hlt : (c + got) / 8 < bs.length) (hb : b = bs[(c + got) / 8]) (hV : V = n256 bs / 2 ^ c % 2 ^ got)
    (hk : (c + got) % 8 + k ≤ 8) (hkn : got + k ≤ n) (hn : n ≤ 32) (hgk : n - (got + k) ≤ gk) {M G C : Int} (hM : M = bits .or .u32 (V : Int) (bits .and .u32 ((b : Int) % 4294967296 / 2 ^ ((c + got) % 8)) ((2 ^ k - 1) % 4294967296) * 2 ^ got % 4294967296))
    (hG : G = ((got + k : Nat) : Int)) (hC : C = ((c + (got + k) : Nat) : Int)) :
    ∃ got' : Nat, got' ≤ n ∧ n - got' ≤ gk ∧ Value.int .u32 M = .int .u32 (n256 bs / 2 ^ c % 2 ^ got' : Nat) ∧ Value.int .i64 G = .int .i64 (got' : Nat) ∧ St ((wr.drewN nq).setCell ⟨p, 1, none⟩ (.int .i64 C)) p s bs (c + got') ∧ Kept (· = p) w ((wr.drewN nq).setCell ⟨p, 1, none⟩ (.int .i64 C)) := by
  have hb8 : b < 256 := by rw [hb]; exact hs.byte _ (List.getElem_mem _)
  have hV2 : V < 2 ^ got := by rw [hV]; exact Nat.mod_lt _ (Nat.two_pow_pos _)
  have e := cut_step bs hs.byte c got k hk hlt
  subst hG hC
  refine ⟨got + k, hkn, hgk, ?_, rfl, (hs.drewN nq).setCount _, (hkp.drewN nq).setCell _ _ (.inl rfl)⟩
  rw [hM, cut_bits V b _ k got hV2 hb8 (by omega) (by omega), ← e, hb, hV]

set_option maxHeartbeats 1000000 in
theorem cut_any (w : World) (p : Nat) (s : Value) (bs : List Nat) (c n : Nat) (hst : St w p s bs c) (hn : n ≤ 32) (hc : c + n ≤ 8 * bs.length) (hlen : bs.length ≤ 100000000000) :
    Calls Tryd.prog 54 #[.pointer (some ⟨p, 0, none⟩), .int .i64 (n : Nat)] w fun e w' => e = .returned (.int .u32 (n256 bs / 2 ^ c % 2 ^ n : Nat)) ∧
      St w' p s bs (c + n) ∧ Kept (· = p) w w' := by
  go_enter Tryd.func54, Tryd.ntmps54
  go_wp2
  go_step3
  go_wp2
  go_step3
  go_wp2
  go_loopg [5, 6] n (fun k x y wr => ∃ got : Nat, got ≤ n ∧ n - got ≤ k ∧ x = .int .u32 (n256 bs / 2 ^ c % 2 ^ got : Nat) ∧ y = .int .i64 (got : Nat) ∧ St wr p s bs (c + got) ∧ Kept (· = p) w wr)
  case atStart => exact ⟨0, by omega, by omega, by simp [Nat.mod_one], rfl, hst, Kept.refl _ _⟩
  case round =>
    obtain ⟨got, hg1, hg2, rfl, rfl, hs, hk⟩ := hrel
    have HS : Hid (St wr p s bs (c + got)) := hs
    have HK : Hid (Kept (· = p) w wr) := hk
    by_cases h0 : got = n
    · subst h0
      clear hst hs
      go_wp2
      rw [Exit.noGoto_ret]
      go_ret
      exact ⟨rfl, HS.out, HK.out⟩
    · obtain ⟨ao, cap, hv, hg⟩ := hs.row.shape
      have hlt : (c + got) / 8 < bs.length := by omega
      obtain ⟨g, hao⟩ := hg (by intro e; rw [e] at hlt; simp at hlt)
      subst hao
      have hcell : wr.cell? ⟨g, (c + got) / 8, none⟩ = some (.int .u8 (bs[(c + got) / 8] : Nat)) := by
        have hr := hs.row; rw [hv] at hr; exact Row.cell hr _ hlt
      have hcb := hs.cb
      have hcc := hs.cc
      have hfc := hs.fc
      rw [hv] at hcb
      obtain ⟨u, hu⟩ : ∃ u, u = (c + got) % 8 := ⟨_, rfl⟩
      obtain ⟨b, hb⟩ : ∃ b, b = bs[(c + got) / 8] := ⟨_, rfl⟩
      rw [← hb] at hcell
      obtain ⟨V, hV⟩ : ∃ V, V = n256 bs / 2 ^ c % 2 ^ got := ⟨_, rfl⟩
      rw [← hV]
      have HB : Hid (b = bs[(c + got) / 8]) := hb
      have HU : Hid (V = n256 bs / 2 ^ c % 2 ^ got) := hV
      clear hst hs hk hv hg hu hb hV
      by_cases hp : 8 - (c + got) % 8 ≤ n - got
      · go_wp2
        go_quiet (fail)
        go_wp2
        go_roundg (gk - 1)
        case measure => omega
        case rel =>
          exact cut_rel (k := 8 - (c + got) % 8) HS.out HK.out hlt HB.out HU.out (by omega) (by omega) hn (by omega) rfl (by omega) (by omega)
      · go_wp2
        go_quiet (fail)
        go_wp2
        go_roundg (gk - 1)
        case measure => omega
        case rel =>
          exact cut_rel (k := n - got) HS.out HK.out hlt HB.out HU.out (by omega) (by omega) hn (by omega) rfl (by omega) (by omega)
end Go.Proofs.YtofhlnpbflkdlaaDoor

/-
  The writer's inner function 'lay'.
-/
namespace Go.Proofs.YtofhlnpbflkdlaaDoor
open Go.RowKit


/-- What holds at each round's head. -/
structure Lays (w0 w : World) (p : Nat) (v0 : Value) (X T : Nat) (v n : Nat) (s : Value) (bs : List Nat) (c : Nat) : Prop where
  st : St w p s bs c
  kept : Kept (Fp p v0) w0 w
  own : s.ownBlock = v0.ownBlock ∨ ∀ k, s.ownBlock = some k → w0.heap.size ≤ k
  sum : n256 bs + v * 2 ^ c = X
  cnt : c + n = T
  lo : c ≤ 8 * bs.length
  hi : 8 * bs.length ≤ c + 8
  hn : 8 * bs.length = c + 8 → 0 < n
  hv : v < 2 ^ n
  hx : n256 bs < 2 ^ c

theorem lays_app {w0 wr w1 : World} {p : Nat} {v0 s v' : Value} {X T v n c nq : Nat} {bs : List Nat} (h : Lays w0 wr p v0 X T v n s bs c) (h8 : 8 * bs.length = c) (h0 : 0 < n) {o : Obj}
    (hrow : Row w1 v' (bs ++ [0])) (hg : ((wr.drewN nq).alloc o).grownBy w1 s.ownBlock)
    (hv' : v'.ownBlock = s.ownBlock ∨ v'.ownBlock = some (((wr.drewN nq).alloc o).heap.size)) :
    Lays w0 (w1.setCell ⟨p, 0, none⟩ v') p v0 X T v n v' (bs ++ [0]) c := by
  have hk1 : Kept (fun k => s.ownBlock = some k) wr w1 := (((Kept.refl _ wr).drewN nq).alloc o).grown hg (fun k e => .inl e)
  have hsz : w0.heap.size ≤ wr.heap.size := h.kept.size
  have hlt := h.st.lt
  have hv : v'.ownBlock = s.ownBlock ∨ ∀ k, v'.ownBlock = some k → wr.heap.size ≤ k := by
    rcases hv' with e | e
    · exact .inl e
    · refine .inr (fun k e' => ?_)
      rw [e] at e'
      simp at e'
      omega
  have hne : v'.ownBlock ≠ some p := by
    rcases hv with e | e
    · rw [e]; exact h.st.ne
    · intro e'; have := e p e'; omega
  refine ⟨h.st.setBytes hk1 hrow hne ?_, ?_, ?_, ?_, h.cnt, by simp; omega, by simp; omega, fun _ => h0, h.hv, ?_⟩
  · intro b hb
    rcases List.mem_append.1 hb with hb | hb
    · exact h.st.byte b hb
    · simp at hb; omega
  · refine (Kept.trans (H := Fp p v0) h.kept hk1 (fun _ _ e => e) ?_).setCell _ _ (.inl (.inl rfl))
    intro x hx e
    rcases h.own with e' | e'
    · exact .inr (by rw [← e', e])
    · have := e' x e; omega
  · rcases hv with e | e
    · rw [e]; exact h.own
    · exact .inr (fun k e' => Nat.le_trans hsz (e k e'))
  · rw [n256_append]; simpa [n256] using h.sum
  · rw [n256_append]; simpa [n256] using h.hx

theorem lays_end {w0 wr : World} {p : Nat} {v0 s : Value} {X T v c : Nat} {bs : List Nat} (h : Lays w0 wr p v0 X T v 0 s bs c) (nq : Nat) : Lays w0 (wr.drewN nq) p v0 X T 0 0 s bs T := by
  have e : T = c := by have := h.cnt; omega
  have hv : v = 0 := by have := h.hv; simp at this; exact this
  subst e hv
  exact ⟨h.st.drewN nq, h.kept.drewN nq, h.own, h.sum, rfl, h.lo, h.hi, h.hn, by simp, h.hx⟩

theorem lays_put {w0 wr : World} {p : Nat} {v0 : Value} {X T v n c g cap b free : Nat} {bs : List Nat} (h : Lays w0 wr p v0 X T v n (.slice (some ⟨g, 0, none⟩) (bs.length + 1) cap) (bs ++ [b]) c)
    (hf : c + free = 8 * (bs.length + 1)) (hf0 : 0 < free) (hn : 0 < n) (nq : Nat) :
    Lays w0 (((wr.drewN nq).setCell ⟨g, bs.length, none⟩ (.int .u8 (b ||| (v * 2 ^ (8 - free) % 256) : Nat))).setCell ⟨p, 1, none⟩ (.int .i64 (c + min free n : Nat))) p v0 X T (v / 2 ^ min free n) (n - min free n)
      (.slice (some ⟨g, 0, none⟩) (bs.length + 1) cap) (bs ++ [b ||| (v * 2 ^ (8 - free) % 256)]) (c + min free n) := by
  have hf8 : free ≤ 8 := by have := h.hi; simp at this; omega
  have hb := last_lt bs b c free (by omega) hf8 h.hx
  have hx : b ||| (v * 2 ^ (8 - free) % 256) = b + 2 ^ (8 - free) * (v % 2 ^ free) := by rw [shl_byte v free hf8]; exact or_add _ _ _ hb
  have hx8 : b ||| (v * 2 ^ (8 - free) % 256) < 256 := by
    have h1 : b < 2 ^ 8 := h.st.byte b (by simp)
    have h2 : v * 2 ^ (8 - free) % 256 < 2 ^ 8 := Nat.mod_lt _ (by decide)
    exact Nat.or_lt_two_pow h1 h2
  have hrow0 : Row wr (.slice (some ⟨g, 0, none⟩) (bs.length + 1) cap) (bs ++ [b]) := h.st.row
  have hst := World.ownsRow.stored (n := bs.length + 1) (by simpa [Row] using hrow0) bs.length (.int .u8 (b ||| (v * 2 ^ (8 - free) % 256) : Nat))
  have hrow1 : Row (wr.setCell ⟨g, bs.length, none⟩ (.int .u8 (b ||| (v * 2 ^ (8 - free) % 256) : Nat))) (.slice (some ⟨g, 0, none⟩) (bs.length + 1) cap) (bs ++ [b ||| (v * 2 ^ (8 - free) % 256)]) := by
    have := hst.1
    rw [List.set_append_right _ _ (by simp)] at this
    simpa [Row, byteV] using this
  have hgp : g ≠ p := by have := h.st.ne; simpa [Value.ownBlock] using this
  have hk1 : Kept (· = g) wr (wr.setCell ⟨g, bs.length, none⟩ (.int .u8 (b ||| (v * 2 ^ (8 - free) % 256) : Nat))) := (Kept.refl _ wr).setCell _ _ (.inl rfl)
  have hs1 : St (wr.setCell ⟨g, bs.length, none⟩ (.int .u8 (b ||| (v * 2 ^ (8 - free) % 256) : Nat))) p (.slice (some ⟨g, 0, none⟩) (bs.length + 1) cap) (bs ++ [b ||| (v * 2 ^ (8 - free) % 256)]) c := by
    refine ⟨hk1.cell h.st.cb (Ne.symm hgp), hk1.cell h.st.cc (Ne.symm hgp), (hk1.frozen h.st.lt (Ne.symm hgp)).trans h.st.fb, (hk1.frozen h.st.lt (Ne.symm hgp)).trans h.st.fc, hrow1, h.st.ne, ?_⟩
    intro y hy
    rcases List.mem_append.1 hy with hy | hy
    · exact h.st.byte y (by simp [hy])
    · simp at hy; subst hy; exact hx8
  have hsum : n256 (bs ++ [b ||| (v * 2 ^ (8 - free) % 256)]) = n256 (bs ++ [b]) + 2 ^ c * (v % 2 ^ free) := by rw [hx]; exact last_set bs b c free _ (by omega) hf8
  refine ⟨(hs1.setCount (c + min free n)).drewN nq, ?_, h.own, ?_, ?_, ?_, ?_, ?_, ?_, ?_⟩
  · have hk2 := (Kept.refl (Fp p v0) (wr.setCell ⟨g, bs.length, none⟩ (.int .u8 (b ||| (v * 2 ^ (8 - free) % 256) : Nat)))).setCell ⟨p, 1, none⟩ (.int .i64 (c + min free n : Nat)) (.inl (.inl rfl))
    refine (Kept.trans (H := Fp p v0) ?_ hk2 (fun _ _ e => e) (fun _ _ e => e)).drewN nq
    refine Kept.trans (H := Fp p v0) h.kept hk1 (fun _ _ e => e) ?_
    intro x hx' e
    rcases h.own with e' | e'
    · exact .inr (by rw [← e', e]; rfl)
    · have := e' x (by rw [e]; rfl); omega
  · rw [hsum, lay_step _ _ _ _ _ h.hv]; exact h.sum
  · have := h.cnt; omega
  · simp; omega
  · simp; omega
  · intro e; simp at e; omega
  · have hv := h.hv
    rw [Nat.div_lt_iff_lt_mul (Nat.two_pow_pos _), ← Nat.pow_add, show n - min free n + min free n = n by omega]
    exact hv
  · rw [hsum, Nat.pow_add]
    have h1 := h.hx
    have h2 : v % 2 ^ free < 2 ^ min free n := by
      by_cases hfn : free ≤ n
      · rw [Nat.min_eq_left hfn]; exact Nat.mod_lt _ (Nat.two_pow_pos _)
      · rw [Nat.min_eq_right (by omega)]; exact Nat.lt_of_le_of_lt (Nat.mod_le _ _) h.hv
    have h3 : 2 ^ c * (v % 2 ^ free + 1) ≤ 2 ^ c * 2 ^ min free n := Nat.mul_le_mul_left _ h2
    rw [Nat.mul_add] at h3
    omega

theorem lays_rel {w0 wr : World} {p : Nat} {v0 s : Value} {X T v n c g cap b free m k : Nat} {bs bs1 : List Nat} (h : Lays w0 wr p v0 X T v n s bs1 c) (hs : s = .slice (some ⟨g, 0, none⟩) bs1.length cap) (hb : bs1 = bs ++ [b] ∧ m = bs.length)
    (hf : c + free = 8 * (m + 1)) (hf0 : 0 < free) (hn : 0 < n) (nq : Nat) {B V N C : Int} (hB : B = bits .or .u8 (b : Int) ((v : Int) * 2 ^ (8 - free) % 256)) (hV : V = (v : Int) / 2 ^ min free n) (hN : N = ((n - min free n : Nat) : Int)) (hC : C = ((c + min free n : Nat) : Int)) (hk : 2 * n - 1 ≤ k) :
    ∃ s' bs' c' v' n', Value.int .u32 V = Value.int .u32 (v' : Nat) ∧ Value.int .i64 N = Value.int .i64 (n' : Nat) ∧ (2 * n' + if c' = 8 * bs'.length then 1 else 0) ≤ k ∧
      Lays w0 (((wr.drewN nq).setCell ⟨g, m, none⟩ (.int .u8 B)).setCell ⟨p, 1, none⟩ (.int .i64 C)) p v0 X T v' n' s' bs' c' := by
  obtain ⟨rfl, rfl⟩ := hb
  rw [List.length_append, List.length_singleton] at hs
  subst hs
  have R := lays_put h hf hf0 hn nq
  have hb8 : b < 256 := h.st.byte b (by simp)
  have e : ((v : Int) * 2 ^ (8 - free) % 256) = ((v * 2 ^ (8 - free) % 256 : Nat) : Int) := by simp
  rw [e, u8_or_nat b _ hb8 (Nat.mod_lt _ (by decide))] at hB
  subst hB hN hC
  refine ⟨_, _, _, v / 2 ^ min free n, n - min free n, by rw [hV]; simp, rfl, ?_, R⟩
  split <;> omega

set_option maxHeartbeats 1000000 in
theorem lay_any (w : World) (p : Nat) (s : Value) (bs : List Nat) (c v n : Nat) (hst : St w p s bs c) (hv : v < 2 ^ n) (hn : n ≤ 32) (hc : c ≤ 1000000000000)
    (hlo : c ≤ 8 * bs.length) (hhi : 8 * bs.length < c + 8) (hx : n256 bs < 2 ^ c) :
    Calls Tryd.prog 43 #[.pointer (some ⟨p, 0, none⟩), .int .u32 v, .int .i64 n] w fun e w' => e = .returned (.tuple #[]) ∧
      ∃ s' bs', Lays w w' p s (n256 bs + v * 2 ^ c) (c + n) 0 0 s' bs' (c + n) := by
  go_enter Tryd.func43, Tryd.ntmps43
  go_wp2
  go_step3
  go_wp2
  go_step3
  go_wp2
  go_loopg [1, 2] (2 * n + 1) (fun k x y wr => ∃ s' bs' c' v' n', x = .int .u32 (v' : Nat) ∧ y = .int .i64 (n' : Nat) ∧ 2 * n' + (if c' = 8 * bs'.length then 1 else 0) ≤ k ∧ Lays w wr p s (n256 bs + v * 2 ^ c) (c + n) v' n' s' bs' c')
  case atStart => exact ⟨s, bs, c, v, n, rfl, rfl, by split <;> omega, hst, Kept.refl _ _, .inl rfl, rfl, rfl, hlo, by omega, by omega, hv, hx⟩
  case round =>
    obtain ⟨s1, bs1, c1, v1, n1, rfl, rfl, hk, hl⟩ := hrel
    have HL : Hid (Lays w wr p s (n256 bs + v * 2 ^ c) (c + n) v1 n1 s1 bs1 c1) := hl
    have hcc := hl.st.cc
    have hcb := hl.st.cb
    have hfb := hl.st.fb
    have hfc := hl.st.fc
    have hlo1 := hl.lo
    have hhi1 := hl.hi
    have hcn := hl.cnt
    obtain ⟨ao, cap, hs, hg⟩ := hl.st.row.shape
    have HS : Hid (s1 = Value.slice ao bs1.length cap) := hs
    have HK : Hid (2 * n1 + (if c1 = 8 * bs1.length then 1 else 0) ≤ gk) := hk
    rw [hs] at hcb
    obtain ⟨L, hL⟩ : ∃ L, L = bs1.length := ⟨_, rfl⟩
    rw [← hL] at hcb hlo1 hhi1
    have HLL : Hid (L = bs1.length) := hL
    clear hk hL hst hlo hhi hx hv hs hg hl
    have hcn' : c1 + n1 ≤ 1000000000032 := by omega
    clear hcn
    by_cases h0 : n1 = 0
    · go_wp2
      go_quiet (fail)
      go_wp2
      rw [Exit.noGoto_normal]
      go_end0
      have hl := HL.out
      subst h0
      exact ⟨rfl, s1, bs1, lays_end hl nq⟩
    · by_cases h8 : 8 * L = c1
      · go_wp2
        go_quiet (fail)
        have hrow : Row (wr.drewN nq) (.slice ao L cap) bs1 := by have := HL.out.st.row; rw [HS.out, ← HLL.out] at this; exact this
        have HR : Hid (Row ((wr.drewN nq).alloc (.cells #[.int .u8 0] 5)) (.slice ao L cap) bs1) := World.ownsRow.alloc hrow _
        have HLn : Hid (bs1.length + [0].length ≤ 1000000000000) := by have := HLL.out; show bs1.length + 1 ≤ _; omega
        clear hrow
        go_wp2_with (at_builtin; refine wpList_append_row _ rfl (.tmp 65) (.tmp 66) rfl (.slice ao L cap) bs1 rfl HR.out ⟨wr.heap.size, 0, none⟩ 1 1 [0] rfl rfl (bytesAt_new _ 0) HLn.out ?_)
        intro v' w1 hrow hgr hv'
        have hl := HL.out
        have hs := HS.out
        rw [← HLL.out] at hs
        rw [← hs] at hgr hv'
        have R := lays_app hl (by rw [← HLL.out]; exact h8) (by omega) hrow hgr (by simpa using hv')
        have hk1 : Kept (fun k => s1.ownBlock = some k) wr w1 := (((Kept.refl _ wr).drewN nq).alloc _).grown hgr (fun k e => .inl e)
        have hcb1 := hk1.cell hl.st.cb hl.st.ne
        have hfb1 := (hk1.frozen (p := ⟨p, 0, none⟩) hl.st.lt hl.st.ne).trans hl.st.fb
        have hm : 2 * n1 + 1 ≤ gk := by have := HK.out; rw [if_pos (by rw [← HLL.out]; omega)] at this; exact this
        obtain ⟨ao', cap', hs', _⟩ := Row.shape hrow
        have RR : Hid (Lays w (w1.setCell ⟨p, 0, none⟩ v') p s (n256 bs + v * 2 ^ c) (c + n) v1 n1 v' (bs1 ++ [0]) c1) := R
        have eL : (bs1 ++ [0]).length = bs1.length + 1 := by simp
        rw [eL] at hs'
        rw [hs'] at RR ⊢
        clear hrow hgr hv' hl hs R hk1 hs' HR eL
        go_wp2
        go_roundg (2 * n1)
        case measure => omega
        case rel => exact ⟨_, _, c1, v1, n1, rfl, rfl, by rw [if_neg (by rw [List.length_append]; have := HLL.out; simp; omega)]; omega, RR.out⟩
      · obtain ⟨bs2, b, hb⟩ : ∃ bs2 b, bs1 = bs2 ++ [b] := by
          have hne : bs1 ≠ [] := by intro e; have := HLL.out; rw [e] at this; simp at this; omega
          exact ⟨bs1.dropLast, bs1.getLast hne, (List.dropLast_concat_getLast hne).symm⟩
        obtain ⟨m, hm⟩ : ∃ m, m = bs2.length := ⟨_, rfl⟩
        have hLm : L = m + 1 := by rw [HLL.out, hb, hm]; simp
        subst hLm
        have hl := HL.out
        obtain ⟨g, hao, hcell, hfr⟩ : ∃ g, ao = some ⟨g, 0, none⟩ ∧ wr.cell? ⟨g, m, none⟩ = some (.int .u8 (b : Nat)) ∧ wr.frozen? ⟨g, m, none⟩ = false := by
          obtain ⟨ao', cap', e1, e2⟩ := hl.st.row.shape
          have e3 := HS.out
          rw [e1] at e3
          injection e3 with e3 e4 e5
          obtain ⟨g, e6⟩ := e2 (by rw [hb]; simp)
          subst e3 e5 e6
          have hr := hl.st.row
          rw [e1] at hr
          refine ⟨g, rfl, ?_, ?_⟩
          · rw [Row.cell hr m (by rw [hb, hm]; simp)]; simp [hb, hm]
          · exact World.ownsRow.frozenAt hr m
        subst hao
        have HB : Hid (bs1 = bs2 ++ [b] ∧ m = bs2.length) := ⟨hb, hm⟩
        clear hb hm hl
        obtain ⟨f, hf⟩ : ∃ f, c1 + f = 8 * (m + 1) := ⟨8 * (m + 1) - c1, by omega⟩
        have hgp : ¬ p = g := by intro e; have := HL.out.st.ne; rw [HS.out] at this; exact this (by rw [e]; rfl)
        by_cases hfn : f ≤ n1
        · go_wp2
          go_quiet (fail)
          go_wp2_with fail
          go_region
          go_wp2
          have hm : 2 * n1 ≤ gk := by have := HK.out; omega
          go_roundg (2 * n1 - 1)
          case measure => omega
          case rel =>
            have hmf : min f n1 = f := by omega
            exact lays_rel HL.out HS.out HB.out hf (by omega) (by omega) (nq + 1) (by rw [show (m + 1) * 8 - c1 = f by omega]) (by rw [hmf, show (m + 1) * 8 - c1 = f by omega]) (by omega) (by omega) (Nat.le_refl _)
        · go_wp2
          go_quiet (fail)
          go_wp2_with fail
          go_region
          go_wp2
          have hm : 2 * n1 ≤ gk := by have := HK.out; omega
          go_roundg (2 * n1 - 1)
          case measure => omega
          case rel =>
            have hmf : min f n1 = n1 := by omega
            exact lays_rel HL.out HS.out HB.out hf (by omega) (by omega) (nq + 1) (by rw [show (m + 1) * 8 - c1 = f by omega]) (by rw [hmf]) (by omega) (by omega) (Nat.le_refl _)
end Go.Proofs.YtofhlnpbflkdlaaDoor

/-
  The writer's calls.
-/
namespace Go.Proofs.YtofhlnpbflkdlaaDoor
open Go.RowKit

/-- A writer at block p with the bits of the number X, c of them. -/
structure Wr (w : World) (p : Nat) (s : Value) (X c : Nat) : Prop where
  ex : ∃ bs, St w p s bs c ∧ n256 bs = X ∧ c ≤ 8 * bs.length ∧ 8 * bs.length < c + 8
  lt : X < 2 ^ c

/-- Where the bytes lie: where they lay, or in new memory. -/
def Grew (w : World) (s s' : Value) : Prop := s'.ownBlock = s.ownBlock ∨ ∀ k, s'.ownBlock = some k → w.heap.size ≤ k

theorem Wr.kept {F : Nat → Prop} {w w' : World} {p : Nat} {s : Value} {X c : Nat} (h : Wr w p s X c) (hk : Kept F w w') (hn : ∀ k, Fp p s k → ¬ F k) : Wr w' p s X c := by
  obtain ⟨bs, h1, h2⟩ := h.ex
  exact ⟨⟨bs, h1.kept hk hn, h2⟩, h.lt⟩

theorem Wr.fp_lt {w : World} {p : Nat} {s : Value} {X c : Nat} (h : Wr w p s X c) {k : Nat} (hk : Fp p s k) : k < w.heap.size := by
  obtain ⟨bs, h1, _⟩ := h.ex
  exact h1.fp_lt hk

theorem newWriter_any (w : World) :
    Calls Tryd.prog 18 #[] w fun e w' => e = .returned (.pointer (some ⟨w.heap.size, 0, none⟩)) ∧ Wr w' w.heap.size (.slice none 0 0) 0 0 ∧ Kept (fun _ => False) w w' ∧ w'.heap.size = w.heap.size + 1 := by
  go_enter Tryd.func18, Tryd.ntmps18
  go_wp2
  go_ret
  refine ⟨rfl, ⟨⟨[], ⟨by simp, by simp, by simp, by simp, World.ownsRow_nil _ _ _ _, by simp [Value.ownBlock], by simp⟩, rfl, by simp, by simp⟩, by simp⟩, (Kept.refl _ w).alloc _, by simp⟩

set_option maxHeartbeats 400000 in
theorem fits_any (n : Int) (w : World) :
    Calls Tryd.prog 42 #[.int .i64 n] w fun e w' => e = .returned (.bool (decide (0 ≤ n ∧ n ≤ 32))) ∧ w' = w := by
  by_cases h0 : 0 ≤ n
  · by_cases h1 : n ≤ 32
    all_goals
      go_enter Tryd.func42, Tryd.ntmps42
      go_wp2
      go_ret
      exact ⟨by simp [h0, h1], rfl⟩
  · go_enter Tryd.func42, Tryd.ntmps42
    go_wp2
    go_ret
    exact ⟨by simp; omega, rfl⟩

theorem put_nil (v n : Int) (w : World) :
    Calls Tryd.prog 19 #[.pointer none, .int .u32 v, .int .i64 n] w fun e w' => e = .returned (.int .i64 3) ∧ w' = w := by
  go_enter Tryd.func19, Tryd.ntmps19
  go_wp2
  go_ret
  exact ⟨rfl, rfl⟩

set_option maxHeartbeats 400000 in
theorem put_far (p : Nat) (v n : Int) (w : World) (h : ¬ (0 ≤ n ∧ n ≤ 32)) :
    Calls Tryd.prog 19 #[.pointer (some ⟨p, 0, none⟩), .int .u32 v, .int .i64 n] w fun e w' => e = .returned (.int .i64 1) ∧ w' = w := by
  have hd : decide (0 ≤ n ∧ n ≤ 32) = false := by simpa using h
  clear h
  go_enter Tryd.func19, Tryd.ntmps19
  go_wp2_with (go_at_call 42; refine (fits_any _ _).mono ?_; rintro e w' ⟨rfl, rfl⟩; rw [hd])
  go_ret
  exact ⟨rfl, rfl⟩

set_option maxHeartbeats 400000 in
theorem put_wide (p v n : Nat) (w : World) (h : n ≤ 32) (hv : 2 ^ n ≤ v) :
    Calls Tryd.prog 19 #[.pointer (some ⟨p, 0, none⟩), .int .u32 (v : Nat), .int .i64 (n : Nat)] w fun e w' => e = .returned (.int .i64 1) ∧ w' = w := by
  have hd : decide (0 ≤ (n : Int) ∧ (n : Int) ≤ 32) = true := by simp; omega
  have hq : (v : Int) / 2 ^ n ≠ 0 := by
    rw [show ((v : Int) / 2 ^ n) = ((v / 2 ^ n : Nat) : Int) by simp]
    have : 1 ≤ v / 2 ^ n := (Nat.one_le_div_iff (Nat.two_pow_pos _)).2 hv
    omega
  go_enter Tryd.func19, Tryd.ntmps19
  go_wp2_with (go_at_call 42; refine (fits_any _ _).mono ?_; rintro e w' ⟨rfl, rfl⟩; rw [hd])
  go_ret
  exact ⟨rfl, rfl⟩

set_option maxHeartbeats 400000 in
theorem put_good (p v n X c : Nat) (s : Value) (w : World) (h : n ≤ 32) (hv : v < 2 ^ n) (hw : Wr w p s X c) (hc : c ≤ 1000000000000) :
    Calls Tryd.prog 19 #[.pointer (some ⟨p, 0, none⟩), .int .u32 (v : Nat), .int .i64 (n : Nat)] w fun e w' => e = .returned (.int .i64 0) ∧
      ∃ s', Wr w' p s' (X + v * 2 ^ c) (c + n) ∧ Kept (Fp p s) w w' ∧ Grew w s s' := by
  have hd : decide (0 ≤ (n : Int) ∧ (n : Int) ≤ 32) = true := by simp; omega
  have hq : (v : Int) / 2 ^ n = 0 := by
    rw [show ((v : Int) / 2 ^ n) = ((v / 2 ^ n : Nat) : Int) by simp, Nat.div_eq_of_lt hv]; rfl
  obtain ⟨bs, hst, hX, hlo, hhi⟩ := hw.ex
  have HX : Hid (n256 bs = X) := hX
  have HW : Hid (X < 2 ^ c) := hw.lt
  have HC := lay_any w p s bs c v n hst hv h hc hlo hhi (by rw [hX]; exact hw.lt)
  clear hX hw hst hlo hhi
  go_enter Tryd.func19, Tryd.ntmps19
  go_wp2_with (first | (go_at_call 42; refine (fits_any _ _).mono ?_; rintro e w' ⟨rfl, rfl⟩; rw [hd]) | (go_at_call 43; refine HC.mono ?_; rintro e w' ⟨rfl, s', bs', hl⟩))
  go_ret
  refine ⟨rfl, s', ⟨⟨bs', hl.st, ?_, hl.lo, ?_⟩, ?_⟩, hl.kept, hl.own⟩
  · have := hl.sum; rw [HX.out] at this; simpa using this
  · have := hl.hi; have := hl.hn; omega
  · have h1 := hl.sum
    have h2 := hl.hx
    rw [HX.out] at h1
    simp at h1
    omega

set_option maxHeartbeats 400000 in
theorem len_nil (w : World) :
    Calls Tryd.prog 22 #[.pointer none] w fun e w' => e = .returned (.int .i64 0) ∧ w' = w := by
  go_enter Tryd.func22, Tryd.ntmps22
  go_wp2
  go_ret
  exact ⟨rfl, rfl⟩

set_option maxHeartbeats 400000 in
theorem len_any (p : Nat) (c X : Nat) (s : Value) (w : World) (h : Wr w p s X c) :
    Calls Tryd.prog 22 #[.pointer (some ⟨p, 0, none⟩)] w fun e w' => e = .returned (.int .i64 (c : Nat)) ∧ w' = w := by
  obtain ⟨bs, hst, _⟩ := h.ex
  have hcc := hst.cc
  clear h hst
  go_enter Tryd.func22, Tryd.ntmps22
  go_wp2
  go_ret
  exact ⟨rfl, rfl⟩





set_option maxHeartbeats 400000 in
theorem wbytes_nil (w : World) :
    Calls Tryd.prog 24 #[.pointer none] w fun e w' => e = .returned (.slice none 0 0) ∧ w' = w := by
  go_enter Tryd.func24, Tryd.ntmps24
  go_wp2
  go_ret
  exact ⟨rfl, rfl⟩

end Go.Proofs.YtofhlnpbflkdlaaDoor
