/-
  Layer 19, the reference: numbers and texts that are cut.
-/
import Derived.Test.YtaefgnakdadgeaaWjB
namespace Go.Proofs.Ytaefgnakdadgeaa
open Go.RowKit

theorem n256_drop (x : List Nat) (i : Nat) (h : i < x.length) : n256 (x.drop i) = x[i] + 256 * n256 (x.drop (i + 1)) := by
  rw [List.drop_eq_getElem_cons h]
  rfl

/-- What small tells. -/
def SmC (N : Nat) (w w' : World) (c k : Nat) (y : List Nat) (bad : Bool) (e : Ending) : Prop :=
  ∃ V y' bad' a' cap', e = .returned (.int .i64 (V : Nat)) ∧ V < 256 ^ k ∧ Ct19 N w' c y' bad' a' cap' ∧ Kept (· = c) w w' ∧ Oc bad (nm8 k y) V y' bad'

set_option maxRecDepth 100000 in
set_option maxHeartbeats 1000000 in
theorem rsmall19 (N : Nat) (w : World) (c : Nat) (y : List Nat) (bad : Bool) (a : Option Addr) (cap k : Nat) (h : Ct19 N w c y bad a cap) (hk1 : 0 < k) (hk : k ≤ 4) :
    Calls Try.prog 44 #[.pointer (some ⟨c, 0, none⟩), .int .i64 (k : Nat)] w fun e w' => SmC N w w' c k y bad e := by
  have HT := rtake19 N w c y bad a cap k h (by omega)
  have hkw : IntKind.i64.wrap ((k : Int) - 1) = ((k : Nat) : Int) - 1 := by rw [IntKind.wrap_i64]; omega
  have HKK : Hid (0 < k ∧ k ≤ 4) := hid ⟨hk1, hk⟩
  clear h hk1 hk
  go_enter Try.func44, Try.ntmps44
  go_wp2_with fail
  refine HT.mono ?_
  rintro e w1 ⟨va, vc, x, y', bad', a', cap', rfl, hsx, hlx, hbx, hvc, hct, hk1, hoc⟩
  have HSX := hid hsx
  have HLX : Hid (x.length = k ∧ ∀ b ∈ x, b < 256) := hid ⟨hlx, hbx⟩
  have HCT := hid hct
  have HK1 := hid hk1
  have HOC := hid hoc
  have HVC := hid hvc
  clear hsx hlx hbx hvc hct hk1 hoc HT
  go_wp2_with fail
  go_loopg [6, 7] (k + 1) (fun g n z wr => ∃ (i : Nat) (j : Int) (V : Nat), j = (i : Int) - 1 ∧ i ≤ k ∧ i ≤ g ∧ z = .int .i64 j ∧ n = .int .i64 (V : Nat) ∧ V < 4294967296 ∧ wr = w1 ∧ Hid (V = n256 (x.drop i)))
  case atStart => exact ⟨k, (k : Int) - 1, 0, rfl, by omega, by omega, by first | rfl | (congr 1; omega), rfl, by decide, rfl, hid (by rw [List.drop_eq_nil_of_le (by have := HLX.out.1; omega)]; rfl)⟩
  case round =>
    obtain ⟨i, j, V, hj, hi, hg, rfl, rfl, hV, rfl, HV⟩ := hrel
    by_cases hlt : 0 < i
    · obtain ⟨i2, rfl⟩ : ∃ i2, i = i2 + 1 := ⟨i - 1, by omega⟩
      obtain rfl : j = (i2 : Int) := by omega
      obtain ⟨ao, cp, e9, hs9⟩ := HSX.out
      simp only [Value.slice.injEq] at e9
      obtain ⟨rfl, _, rfl⟩ := e9
      have hi2 : i2 < x.length := by have := HLX.out.1; omega
      obtain ⟨b, o, rfl, _, hce⟩ := hs9 (fun e => by rw [e] at hi2; simp at hi2)
      have c0 := hce i2 hi2
      obtain ⟨X, hX⟩ : ∃ X, X = x[i2]'hi2 := ⟨_, rfl⟩
      rw [← hX] at c0
      have hX256 : X < 256 := by rw [hX]; exact HLX.out.2 _ (List.getElem_mem _)
      obtain ⟨V2, hV2⟩ : ∃ V2, V2 = 256 * V + X := ⟨_, rfl⟩
      have HV2 : Hid (V2 = n256 (x.drop i2) ∧ V2 < 4294967296) := hid (by
        have h9 : V2 = n256 (x.drop i2) := by rw [n256_drop x i2 hi2, ← hX, hV2, HV.out]; omega
        refine ⟨h9, ?_⟩
        rw [h9]
        have h8 := n256_lt (x.drop i2) (fun b hb => HLX.out.2 b (List.mem_of_mem_drop hb))
        have h7 : (x.drop i2).length ≤ 4 := by rw [List.length_drop]; have := HLX.out.1; have := HKK.out; omega
        exact Nat.lt_of_lt_of_le h8 (Nat.le_trans (Nat.pow_le_pow_right (by decide) h7) (by decide)))
      have hVs : V < 16777216 := by have := HV2.out.2; omega
      obtain ⟨P, hP⟩ : ∃ P, P = 256 * V := ⟨_, rfl⟩
      have m1 : IntKind.i64.wrap (256 * (V : Int)) = (P : Int) := by rw [IntKind.wrap_i64]; omega
      have m2 : IntKind.i64.wrap ((P : Int) + (X : Int)) = (V2 : Int) := by rw [IntKind.wrap_i64]; omega
      have m3 : IntKind.i64.wrap (X : Int) = (X : Int) := by rw [IntKind.wrap_i64]; omega
      have m4 : IntKind.i64.wrap ((i2 : Int) - 1) = (i2 : Int) - 1 := by have := HKK.out; rw [IntKind.wrap_i64]; omega
      have b1 : decide ((0 : Int) ≤ (i2 : Int)) = true := by simp
      have i1 : (i2 : Int) < (k : Int) := by omega
      have i3 : (0 : Int) ≤ (i2 : Int) := by omega
      have hil : i2 < k := by omega
      clear hce hs9 hX hV2 hP hX256 hVs hV hj
      go_wp2_with fail
      go_roundg i2
      case measure => omega
      case rel => exact ⟨i2, (i2 : Int) - 1, V2, rfl, by omega, by omega, rfl, rfl, HV2.out.2, rfl, hid HV2.out.1⟩
    · obtain rfl : i = 0 := by omega
      have b1 : decide ((0 : Int) ≤ j) = false := by simp; omega
      clear hj
      go_wp2_with fail
      go_ret
      have h9 := HV.out
      rw [List.drop_zero] at h9
      refine ⟨V, y', bad', a', cap', rfl, ?_, HCT.out, HK1.out, ?_⟩
      · rw [h9, ← HLX.out.1]; exact n256_lt x HLX.out.2
      · rw [h9]
        refine ⟨HOC.out.1, fun hb => ?_⟩
        rcases HOC.out.2 hb with ⟨h1, h2⟩ | ⟨h1, h2⟩
        · exact .inl ⟨h1, nm19_of h2⟩
        · exact .inr ⟨h1, nm19_no h2⟩

/-- A number that is cut; a text. -/
def rdN (y : List Nat) : Option (Nat × List Nat) := bnd8 (nm8 4 y) fun q => if q.1 ≤ 1000000000 then some q else none
def rdT (m : Nat) (y : List Nat) : Option (ByteArray × List Nat) := bnd8 (nm8 2 y) fun q => if q.1 ≤ m then bnd8 (tk8 q.1 q.2) (fun s => some (txt s.1, s.2)) else none

theorem readF_num (cs : List Cel) (i : Nat) (y : List Nat) : readF cs (.num i) y = bnd8 (rdN y) (fun q => some (cs.set i (.n (q.1 : Nat)), q.2)) := by
  simp only [readF, rdN]
  cases nm8 4 y with
  | none => rfl
  | some q =>
    simp only [bnd8]
    by_cases h : q.1 ≤ 1000000000
    · rw [if_pos h, if_pos h]
    · rw [if_neg h, if_neg h]

theorem readF_txt (cs : List Cel) (i m : Nat) (y : List Nat) : readF cs (.txt i m) y = bnd8 (rdT m y) (fun q => some (cs.set i (.s q.1), q.2)) := by
  simp only [readF, rdT]
  cases nm8 2 y with
  | none => rfl
  | some q =>
    simp only [bnd8]
    by_cases h : q.1 ≤ m
    · rw [if_pos h, if_pos h]
      cases tk8 q.1 q.2 with
      | none => rfl
      | some s => rfl
    · rw [if_neg h, if_neg h]

/-- What number tells. -/
def NuC (N : Nat) (w w' : World) (c : Nat) (y : List Nat) (bad : Bool) (e : Ending) : Prop :=
  ∃ V y' bad' a' cap', e = .returned (.int .i64 (V : Nat)) ∧ Ct19 N w' c y' bad' a' cap' ∧ Kept (· = c) w w' ∧ Oc bad (rdN y) V y' bad'

theorem oc_num {bad : Bool} {y : List Nat} {V : Nat} {y' : List Nat} {bad' : Bool} (h : Oc bad (nm8 4 y) V y' bad') : Oc bad (rdN y) V y' (bad' || !win (V : Nat)) := by
  refine ⟨fun hb => by rw [h.1 hb]; rfl, fun hb => ?_⟩
  unfold rdN
  rcases h.2 hb with ⟨h1, h2⟩ | ⟨h1, h2⟩
  · rw [h2, h1]
    simp only [bnd8]
    by_cases hv : V ≤ 1000000000
    · have : win (V : Nat) = true := by unfold win; simp; omega
      rw [if_pos hv, this]
      exact .inl ⟨rfl, rfl⟩
    · have : win (V : Nat) = false := by unfold win; simp; omega
      rw [if_neg hv, this]
      exact .inr ⟨rfl, rfl⟩
  · rw [h2, h1]
    exact .inr ⟨rfl, rfl⟩

set_option maxRecDepth 100000 in
set_option maxHeartbeats 1000000 in
theorem rnum19 (N : Nat) (w : World) (c : Nat) (y : List Nat) (bad : Bool) (a : Option Addr) (cap : Nat) (h : Ct19 N w c y bad a cap) :
    Calls Try.prog 36 #[.pointer (some ⟨c, 0, none⟩)] w fun e w' => NuC N w w' c y bad e := by
  have HT := rsmall19 N w c y bad a cap 4 h (by decide) (by decide)
  clear h
  go_enter Try.func36, Try.ntmps36
  go_wp2_with fail
  refine HT.mono ?_
  rintro e w1 ⟨V, y', bad', a', cap', rfl, _, hct, hk1, hoc⟩
  have HCT := hid hct
  have HK1 := hid hk1
  have HOC := hid (oc_num hoc)
  obtain ⟨c0, c1, z0, z1⟩ := hct.blk.two
  have HWI := rwithin19 w1 (V : Nat)
  obtain ⟨B, hB⟩ : ∃ B, B = win (V : Nat) := ⟨_, rfl⟩
  rw [← hB] at HOC HWI
  clear hct hk1 hoc HT hB c0 z0
  cases bad' with
  | true =>
    go_wp2_with fail
    go_ret
    exact ⟨V, y', true, a', cap', rfl, HCT.out.mark.1, Kept.trans HK1.out HCT.out.mark.2 (fun _ _ f => f) (fun _ _ f => f), HOC.out⟩
  | false =>
    go_wp2_with fail
    refine HWI.mono ?_
    rintro e w2 ⟨rfl, hw2⟩
    subst hw2
    clear HWI
    go_wp2_with fail
    go_ret
    exact ⟨V, y', !B, a', cap', rfl, HCT.out.mark.1, Kept.trans HK1.out HCT.out.mark.2 (fun _ _ f => f) (fun _ _ f => f), HOC.out⟩

/-- What text tells. -/
def TxC (N : Nat) (w w' : World) (c m : Nat) (y : List Nat) (bad : Bool) (e : Ending) : Prop :=
  ∃ T y' bad' a' cap', e = .returned (.string T) ∧ Ct19 N w' c y' bad' a' cap' ∧ Kept (· = c) w w' ∧ Oc bad (rdT m y) T y' bad'

theorem oc_far {bad : Bool} {y : List Nat} {V m : Nat} {y' : List Nat} {bad' : Bool} {T : ByteArray} (h : Oc bad (nm8 2 y) V y' bad') (hm : m < V) : Oc bad (rdT m y) T y' true := by
  refine ⟨fun hb => rfl, fun hb => .inr ⟨rfl, ?_⟩⟩
  unfold rdT
  rcases h.2 hb with ⟨h1, h2⟩ | ⟨h1, h2⟩
  · rw [h2]
    simp only [bnd8]
    rw [if_neg (by omega)]
  · rw [h2]; rfl

theorem oc_txt {bad : Bool} {y : List Nat} {V m : Nat} {y' y2 x : List Nat} {bad' bad2 : Bool} (h : Oc bad (nm8 2 y) V y' bad') (hm : V ≤ m) (h2 : Oc bad' (tk8 V y') x y2 bad2) : Oc bad (rdT m y) (txt x) y2 bad2 := by
  refine ⟨fun hb => h2.1 (h.1 hb), fun hb => ?_⟩
  unfold rdT
  rcases h.2 hb with ⟨h3, h4⟩ | ⟨h3, h4⟩
  · rw [h4]
    simp only [bnd8]
    rw [if_pos hm]
    rcases h2.2 h3 with ⟨h5, h6⟩ | ⟨h5, h6⟩
    · rw [h6]; exact .inl ⟨h5, rfl⟩
    · rw [h6]; exact .inr ⟨h5, rfl⟩
  · rw [h4]
    exact .inr ⟨h2.1 h3, rfl⟩

set_option maxRecDepth 100000 in
set_option maxHeartbeats 1000000 in
theorem rtxt19 (N : Nat) (w : World) (c : Nat) (y : List Nat) (bad : Bool) (a : Option Addr) (cap m : Nat) (h : Ct19 N w c y bad a cap) :
    Calls Try.prog 37 #[.pointer (some ⟨c, 0, none⟩), .int .i64 (m : Nat)] w fun e w' => TxC N w w' c m y bad e := by
  have HT := rsmall19 N w c y bad a cap 2 h (by decide) (by decide)
  clear h
  go_enter Try.func37, Try.ntmps37
  go_wp2_with fail
  refine HT.mono ?_
  rintro e w1 ⟨V, y', bad', a', cap', rfl, hV, hct, hk1, hoc⟩
  have HCT := hid hct
  have HK1 := hid hk1
  have HOC := hid hoc
  have hV2 : V < 65536 := hV
  clear hct hk1 hoc HT hV
  by_cases hm : m < V
  · have b1 : decide ((m : Int) < (V : Int)) = true := by simp; omega
    have b2 : decide (m < V) = true := by simp; omega
    obtain ⟨c0, c1, z0, z1⟩ := HCT.out.blk.two
    have HM := hid hm
    clear hm c0 z0 hV2
    go_wp2_with fail
    go_ret
    exact ⟨⟨#[]⟩, y', true, a', cap', rfl, HCT.out.mark.1, Kept.trans HK1.out HCT.out.mark.2 (fun _ _ f => f) (fun _ _ f => f), oc_far HOC.out HM.out⟩
  · have b1 : decide ((m : Int) < (V : Int)) = false := by simp; omega
    have b2 : decide (m < V) = false := by simp; omega
    have HTK := rtake19 N w1 c y' bad' a' cap' V HCT.out (by omega)
    have HM : Hid (V ≤ m) := hid (by omega)
    clear hm hV2
    go_wp2_with fail
    refine HTK.mono ?_
    rintro e w2 ⟨va, vc, x, y2, bad2, a2, cap2, rfl, hsx, hlx, hbx, hvc, hct, hk2, hoc2⟩
    have hst := str8 (a := va) (c := vc) hsx hlx
    have HCT2 := hid hct
    have HK2 := hid (Kept.trans HK1.out hk2 (fun _ _ f => f) (fun _ _ f => f) : Kept (· = c) w w2)
    have HOC2 := hid (oc_txt HOC.out HM.out hoc2)
    clear hsx hlx hbx hvc hct hk2 hoc2 HTK
    go_wp2_with fail
    go_ret
    exact ⟨txt x, y2, bad2, a2, cap2, rfl, HCT2.out, HK2.out, HOC2.out⟩

end Go.Proofs.Ytaefgnakdadgeaa
