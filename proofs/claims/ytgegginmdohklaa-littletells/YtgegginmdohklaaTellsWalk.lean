/-
  The walk of the law LittleTells.
-/
import Derived.Test.YtgegginmdohklaaSumsWalk
namespace Go.Proofs.Ytgegginmdohklaa
open Go.RowKit Go.Shelf Go.ChangeAt

/-- A row with i bytes from the place a on laid over by the lowest bytes of v. -/
def mix (cs : List Nat) (a v i : Nat) : List Nat := cs.mapIdx (fun j b => if a ≤ j ∧ j < a + i then b ^^^ (v / 256 ^ (j - a) % 256) else b)

theorem mix_length (cs : List Nat) (a v i : Nat) : (mix cs a v i).length = cs.length := by simp [mix]

theorem mix_get (cs : List Nat) (a v i j : Nat) (h : j < (mix cs a v i).length) : (mix cs a v i)[j] = if a ≤ j ∧ j < a + i then cs[j]'(by rw [mix_length] at h; exact h) ^^^ (v / 256 ^ (j - a) % 256) else cs[j]'(by rw [mix_length] at h; exact h) := by
  simp [mix]

theorem mix_zero (cs : List Nat) (a v : Nat) : mix cs a v 0 = cs := by
  apply List.ext_getElem
  · exact mix_length _ _ _ _
  · intro j h1 h2
    rw [mix_get, if_neg (by omega)]

theorem mix_step (cs : List Nat) (a v i : Nat) (h : a + i < cs.length) : (mix cs a v i).set (a + i) (cs[a + i] ^^^ (v / 256 ^ i % 256)) = mix cs a v (i + 1) := by
  apply List.ext_getElem
  · rw [List.length_set, mix_length, mix_length]
  · intro j h1 h2
    rw [List.getElem_set]
    split
    · rename_i e
      subst e
      rw [mix_get, if_pos (by omega), show a + i - a = i by omega]
    · rw [mix_get, mix_get]
      by_cases hj : a ≤ j ∧ j < a + i
      · rw [if_pos hj, if_pos (by omega)]
      · rw [if_neg hj, if_neg (by omega)]

theorem mix_lt (cs : List Nat) (hb : ∀ b ∈ cs, b < 256) (a v i : Nat) : ∀ b ∈ mix cs a v i, b < 256 := by
  intro b h
  obtain ⟨j, hj, rfl⟩ := List.mem_iff_getElem.1 h
  rw [mix_get]
  have h1 : cs[j]'(by rw [mix_length] at hj; exact hj) < 256 := hb _ (List.getElem_mem _)
  split
  · exact Nat.xor_lt_two_pow (n := 8) h1 (Nat.mod_lt _ (by decide))
  · exact h1

theorem leOf_get (v n k : Nat) (h : k < (leOf v n).length) : (leOf v n)[k] = v / 256 ^ k % 256 := by
  induction n with
  | zero => simp [leOf] at h
  | succ n ih =>
    have hl : (leOf v n).length = n := leOf_length v n
    by_cases hk : k < n
    · simp only [leOf]
      rw [List.getElem_append_left (by omega)]
      exact ih (by omega)
    · have : k = n := by rw [leOf_length] at h; omega
      subst this
      simp only [leOf]
      rw [List.getElem_append_right (by omega)]
      simp

theorem mix_diff (cs : List Nat) (a v i : Nat) (h : a + i ≤ cs.length) : List.zipWith (· ^^^ ·) (mix cs a v i) cs = List.replicate a 0 ++ leOf v i ++ List.replicate (cs.length - a - i) 0 := by
  apply List.ext_getElem
  · simp [mix_length, leOf_length]; omega
  · intro j h1 h2
    simp only [List.length_zipWith, mix_length, Nat.min_self] at h1
    rw [List.getElem_zipWith, mix_get]
    by_cases hj : a ≤ j ∧ j < a + i
    · rw [if_pos hj, List.getElem_append_left (by simp [leOf_length]; omega), List.getElem_append_right (by simp; omega), leOf_get]
      simp only [List.length_replicate]
      rw [Nat.xor_comm, ← Nat.xor_assoc, Nat.xor_self, Nat.zero_xor]
    · rw [if_neg hj, Nat.xor_self]
      by_cases hja : j < a
      · rw [List.getElem_append_left (by simp [leOf_length]; omega), List.getElem_append_left (by simp; omega)]
        simp
      · rw [List.getElem_append_right (by simp [leOf_length]; omega)]
        simp

/-- Is one of the lowest i bytes of v not nought? -/
def chg (v i : Nat) : Bool := (leOf v i).any (fun b => b != 0)

theorem chg_succ (v i : Nat) : chg v (i + 1) = (chg v i || (v / 256 ^ i % 256 != 0)) := by simp [chg, leOf]

theorem mix_same (cs : List Nat) (a v i : Nat) (h : chg v i = false) : mix cs a v i = cs := by
  apply List.ext_getElem
  · exact mix_length _ _ _ _
  · intro j h1 h2
    rw [mix_get]
    split
    · rename_i hj
      have hk : j - a < (leOf v i).length := by rw [leOf_length]; omega
      have h0 : (leOf v i)[j - a] = 0 := by
        have h3 := List.any_eq_false.1 h _ (List.getElem_mem hk)
        simpa using h3
      rw [leOf_get] at h0
      rw [h0, Nat.xor_zero]
    · rfl

/-- The check tells just whether something was changed. -/
theorem mix_tells (cs : List Nat) (hb : ∀ b ∈ cs, b < 256) (a v i : Nat) (h : a + i ≤ cs.length) (hi : i ≤ 4) : (more 0 (mix cs a v i) = more 0 cs) ↔ chg v i = false := by
  constructor
  · intro e
    have e1 := not32_inj (reg_lt (not32_lt _) _ (mix_lt cs hb a v i)) (reg_lt (not32_lt _) _ hb) e
    have e2 := reg_tells (not32 0) (mix cs a v i) cs (mix_length _ _ _ _) a (cs.length - a - i) (leOf v i) (leOf_lt v i) (by rw [leOf_length]; exact hi) (mix_diff cs a v i h) e1
    unfold chg
    rw [List.any_eq_false]
    intro b hb2
    simp [e2 b hb2]
  · intro e
    rw [mix_same cs a v i e]

theorem mix_dec (cs : List Nat) (hb : ∀ b ∈ cs, b < 256) (a v i : Nat) (h : a + i ≤ cs.length) (hi : i ≤ 4) : decide (((more 0 (mix cs a v i) : Nat) : Int) = ((more 0 cs : Nat) : Int)) = !chg v i := by
  have h1 := mix_tells cs hb a v i h hi
  cases hc : chg v i with
  | false => rw [h1.2 hc]; simp
  | true =>
    have : ¬ more 0 (mix cs a v i) = more 0 cs := fun e => by rw [h1.1 e] at hc; cases hc
    simp; omega

theorem mix_beq (cs : List Nat) (hb : ∀ b ∈ cs, b < 256) (a v i : Nat) (h : a + i ≤ cs.length) (hi : i ≤ 4) : (((more 0 (mix cs a v i) : Nat) : Int) == ((more 0 cs : Nat) : Int)) = !chg v i := by
  have h1 := mix_dec cs hb a v i h hi
  rw [← h1]
  rfl

theorem xor_byte (y x i : Nat) (hy : y < 256) : bits .xor .u8 (y : Int) ((x : Int) / 2 ^ (8 * i) % 256) = ((y ^^^ (x / 256 ^ i % 256) : Nat) : Int) := by
  have e : (x : Int) / 2 ^ (8 * i) % 256 = ((x / 256 ^ i % 256 : Nat) : Int) := by rw [pow8]; simp
  rw [e]
  exact u8_xor_nat y _ hy (Nat.mod_lt _ (by decide))

theorem chg_int (x i : Nat) : (((x : Int) / 2 ^ (8 * i) % 256) != 0) = (x / 256 ^ i % 256 != 0) := by
  have e : (x : Int) / 2 ^ (8 * i) % 256 = ((x / 256 ^ i % 256 : Nat) : Int) := by rw [pow8]; simp
  rw [e]
  by_cases h : x / 256 ^ i % 256 = 0
  · rw [h]; rfl
  · have h2 : ¬ ((x / 256 ^ i % 256 : Nat) : Int) = 0 := by omega
    rw [bne_iff_ne.2 h, bne_iff_ne.2 h2]

set_option maxHeartbeats 1000000 in
theorem tells_out (w : World) (z s : Int) (a0 : Option Addr) (len0 cap0 : Nat) (h : 16777216 < len0 ∨ z < 0 ∨ (len0 : Int) ≤ z ∨ s = 0) :
    Calls Try.prog 8 #[.slice a0 len0 cap0, .int .i64 z, .int .u32 s] w fun e w' => e = .returned (.bool true) ∧ Below w.heap.size w w' := by
  by_cases h0 : 16777216 < len0
  · have hd1 : decide (16777216 < (len0 : Int)) = true := by simp; omega
    clear h
    go_enter Try.func8, Try.ntmps8
    go_wp2_with fail
    refine (awake_any _).mono ?_
    rintro e w1 ⟨rfl, hb⟩
    go_wp2_with fail
    go_ret
    exact ⟨rfl, hb⟩
  · have hd1 : decide (16777216 < (len0 : Int)) = false := by simp; omega
    by_cases h1 : z < 0
    · have hd2 : decide (z < 0) = true := by simpa using h1
      clear h
      go_enter Try.func8, Try.ntmps8
      go_wp2_with fail
      refine (awake_any _).mono ?_
      rintro e w1 ⟨rfl, hb⟩
      go_wp2_with fail
      go_ret
      exact ⟨rfl, hb⟩
    · have hd2 : decide (z < 0) = false := by simpa using h1
      by_cases h2 : (len0 : Int) ≤ z
      · have hd3 : decide ((len0 : Int) ≤ z) = true := by simpa using h2
        clear h
        go_enter Try.func8, Try.ntmps8
        go_wp2_with fail
        refine (awake_any _).mono ?_
        rintro e w1 ⟨rfl, hb⟩
        go_wp2_with fail
        go_ret
        exact ⟨rfl, hb⟩
      · have hd3 : decide ((len0 : Int) ≤ z) = false := by simpa using h2
        have hs : s = 0 := by omega
        subst hs
        clear h
        go_enter Try.func8, Try.ntmps8
        go_wp2_with fail
        refine (awake_any _).mono ?_
        rintro e w1 ⟨rfl, hb⟩
        go_wp2_with fail
        go_ret
        exact ⟨rfl, hb⟩

set_option maxHeartbeats 2000000 in
theorem tells_walk (w : World) (a x : Nat) (_hx : x < 4294967296) (hx0 : ¬ x = 0) (v : Value) (cs : List Nat) (hsrc : Src w (fun k => k < w.heap.size) v cs) (hb : ∀ b ∈ cs, b < 256) (hlen : cs.length ≤ 16777216) (ha : a < cs.length) :
    Calls Try.prog 8 #[v, .int .i64 (a : Nat), .int .u32 (x : Nat)] w fun e w' => e = .returned (.bool true) ∧ Below w.heap.size w w' := by
  obtain ⟨ao, cap, rfl, _⟩ := id hsrc
  have HS : Hid (Src w (fun k => k < w.heap.size) (.slice ao cs.length cap) cs) := hsrc
  have HB : Hid (∀ b ∈ cs, b < 256) := hb
  have hd1 : decide (16777216 < (cs.length : Int)) = false := by simp; omega
  have hd2 : decide ((a : Int) < 0) = false := by simp
  have hd3 : decide (cs.length ≤ a) = false := by simp; omega
  have hd4 : ((x : Int) == 0) = false := by simp; omega
  clear hsrc hb
  go_enter Try.func8, Try.ntmps8
  go_wp2_with fail
  refine (lent_any _ _ _ cs HS.out (by omega)).mono ?_
  rintro e w1 ⟨g, rfl, hrow, hk1, hg⟩
  have HR1 : Hid (Row w1 (.slice (some ⟨g, 0, none⟩) cs.length (cs.length + 1)) cs) := Row.cut hrow
  have HK1 : Hid (Kept (Above w.heap.size) w w1) := hk1.mono (fun _ _ e => e.elim)
  clear hrow hk1 hd1 hd2 hd3 hd4
  go_wp2_with fail
  go_loopg [8, 9] 4 (fun k c z wr => ∃ i : Nat, i ≤ 4 ∧ a + i ≤ cs.length ∧ 4 - i ≤ k ∧ z = .int .i64 (i : Nat) ∧ c = .bool (chg x i) ∧ Row wr (.slice (some ⟨g, 0, none⟩) cs.length (cs.length + 1)) (mix cs a x i) ∧ Kept (Above w.heap.size) w wr)
  case atStart => exact ⟨0, by omega, by omega, by omega, rfl, rfl, by rw [mix_zero]; exact HR1.out, HK1.out⟩
  case round =>
    obtain ⟨i, hi, hil, hik, rfl, rfl, hr, hk⟩ := hrel
    have HR2 : Hid (Row wr (.slice (some ⟨g, 0, none⟩) cs.length (cs.length + 1)) (mix cs a x i)) := hr
    have HK2 : Hid (Kept (Above w.heap.size) w wr) := hk
    clear hk HR1 HK1
    by_cases hlt : i < 4 ∧ a + i < cs.length
    · obtain ⟨h1, h2⟩ := hlt
      have hje : a + i < (mix cs a x i).length := by rw [mix_length]; exact h2
      have hc : wr.cell? ⟨g, a + i, none⟩ = some (.int .u8 (cs[a + i] : Nat)) := by
        rw [Row.cell' hr _ hje, mix_get, if_neg (by omega)]
      obtain ⟨y, hy⟩ : ∃ y, y = cs[a + i] := ⟨_, rfl⟩
      have hy2 : y < 256 := by rw [hy]; exact HB.out _ (List.getElem_mem _)
      have HY : Hid (y = cs[a + i]) := hy
      rw [← hy] at hc
      have hf : wr.frozen? ⟨g, a + i, none⟩ = false := Row.frozen' hr _
      obtain ⟨c, hcc⟩ : ∃ c, c = chg x i := ⟨_, rfl⟩
      have HC : Hid (c = chg x i) := hcc
      rw [← hcc]
      clear hr hje hy hcc
      have HRX : Hid (Row (wr.setCell ⟨g, a + i, none⟩ (.int .u8 (bits .xor .u8 (y : Int) ((x : Int) / 2 ^ (8 * i) % 256)))) (.slice (some ⟨g, 0, none⟩) cs.length (cs.length + 1)) (mix cs a x (i + 1))) := by
        have h := Row.lay HR2.out (a + i) (y ^^^ (x / 256 ^ i % 256))
        have e := mix_step cs a x i h2
        rw [← HY.out] at e
        rw [e, ← xor_byte y x i hy2] at h
        exact h
      have HCH : Hid ((((x : Int) / 2 ^ (8 * i) % 256) != 0) = (x / 256 ^ i % 256 != 0)) := chg_int x i
      cases c with
      | true =>
        go_wp2_with fail
        go_region
        go_wp2_with fail
        go_roundg (gk - 1)
        case measure => omega
        case rel =>
          refine ⟨i + 1, by omega, by omega, by omega, by go_num, ?_, HRX.out, (HK2.out.setCell ⟨g, a + i, none⟩ _ (.inl (show Above w.heap.size g from hg))).drew⟩
          rw [chg_succ, ← HC.out]; rfl
      | false =>
        go_wp2_with fail
        go_region
        go_wp2_with fail
        go_roundg (gk - 1)
        case measure => omega
        case rel =>
          refine ⟨i + 1, by omega, by omega, by omega, by go_num, ?_, HRX.out, (HK2.out.setCell ⟨g, a + i, none⟩ _ (.inl (show Above w.heap.size g from hg))).drew⟩
          rw [chg_succ, ← HC.out, HCH.out]; rfl
    · by_cases h4 : i < 4
      · have h5 : ¬ a + i < cs.length := fun h => hlt ⟨h4, h⟩
        clear hlt
        go_wp2_with fail
        refine (awake_any _).mono ?_
        rintro e w3 ⟨rfl, hb3⟩
        have HR3 : Hid (Row w3 (.slice (some ⟨g, 0, none⟩) cs.length (cs.length + 1)) (mix cs a x i)) := HR2.out.kept (below_kept hb3 (fun _ => False)) (fun _ _ e => e)
        have HK3 : Hid (Kept (Above w.heap.size) w w3) := HK2.out.bel hb3
        clear hb3 HR2 HK2 hr
        go_wp2_with fail
        refine (lsum_any _ _ _ (mix cs a x i) (Src.ofRow HR3.out) (mix_lt cs HB.out a x i) (by rw [mix_length]; omega)).mono ?_
        rintro e w4 ⟨rfl, rfl⟩
        go_wp2_with fail
        refine (lsum_any _ _ _ cs (HS.out.low HK3.out) HB.out (by omega)).mono ?_
        rintro e w5 ⟨rfl, rfl⟩
        have HD := mix_beq cs HB.out a x i hil hi
        go_wp2_with fail
        go_ret
        exact ⟨rfl, kept_below HK3.out⟩
      · clear hlt
        go_wp2_with fail
        refine (awake_any _).mono ?_
        rintro e w3 ⟨rfl, hb3⟩
        have HR3 : Hid (Row w3 (.slice (some ⟨g, 0, none⟩) cs.length (cs.length + 1)) (mix cs a x i)) := HR2.out.kept (below_kept hb3 (fun _ => False)) (fun _ _ e => e)
        have HK3 : Hid (Kept (Above w.heap.size) w w3) := HK2.out.bel hb3
        clear hb3 HR2 HK2 hr
        go_wp2_with fail
        refine (lsum_any _ _ _ (mix cs a x i) (Src.ofRow HR3.out) (mix_lt cs HB.out a x i) (by rw [mix_length]; omega)).mono ?_
        rintro e w4 ⟨rfl, rfl⟩
        go_wp2_with fail
        refine (lsum_any _ _ _ cs (HS.out.low HK3.out) HB.out (by omega)).mono ?_
        rintro e w5 ⟨rfl, rfl⟩
        have HD := mix_beq cs HB.out a x i hil hi
        go_wp2_with fail
        go_ret
        exact ⟨rfl, kept_below HK3.out⟩

theorem littleTells_all (a0 : Option Addr) (len0 cap0 : Nat) (z0 : List Int) (a1 a2 : Int) (w : World) (w0 : IsRow .u8 w a0 len0 cap0 z0) (w1 : (Lit.int .i64 a1).wf = true) (w2 : (Lit.int .u32 a2).wf = true) :
    Calls Try.prog 8 #[.slice a0 len0 cap0, .int .i64 a1, .int .u32 a2] w fun e w' => e = .returned (.bool true) ∧ Below w.heap.size w w' := by
  by_cases h : 16777216 < len0 ∨ a1 < 0 ∨ (len0 : Int) ≤ a1 ∨ a2 = 0
  · exact tells_out w a1 a2 a0 len0 cap0 h
  · obtain ⟨bs, hs, hl, hb⟩ := w0.src
    have h0 := bounds_u32 w2
    obtain ⟨s, rfl⟩ : ∃ s : Nat, a2 = s := ⟨a2.toNat, by omega⟩
    obtain ⟨a, rfl⟩ : ∃ a : Nat, a1 = a := ⟨a1.toNat, by omega⟩
    exact tells_walk w a s (by omega) (by omega) _ bs hs hb (by omega) (by omega)

end Go.Proofs.Ytgegginmdohklaa
