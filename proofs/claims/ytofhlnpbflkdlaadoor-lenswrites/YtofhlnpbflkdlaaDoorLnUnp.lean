/-
  The reference's With and Unpack.
-/
import Derived.Test.YtofhlnpbflkdlaaDoorLnRef
import Derived.Test.YtofhlnpbflkdlaaDoorRowX
namespace Go.Proofs.YtofhlnpbflkdlaaDoor
open Go.RowKit

set_option maxRecDepth 100000 in
set_option maxHeartbeats 2000000 in
theorem with_no (w : World) (B : Nat) (v : Value) (l : List Nat) (a b : Int) (n : Nat) (hr : NRow B w v l) (hl : l.length ≤ 1000000) (hl15 : ∀ x ∈ l, x ≤ 15) (_hn : n ≤ 1000000) (h : withM l (a, b) n = none) :
    Calls Tryd.prog 41 #[v, .agg #[.int .i64 a, .int .i64 b], .int .i64 (n : Nat)] w fun e w' => e = .returned (.tuple #[.slice none 0 0, .int .i64 41]) ∧ Same w w' := by
  obtain ⟨ao, cap, hv, h1, h2, _⟩ := hr.shape
  subst hv
  have HR : Hid (NRow B w (.slice ao l.length cap) l) := hr
  have HSY := says_any (w.alloc (.cells #[.int .i64 a, .int .i64 b] 31)) _ _ l a b (SrcE.ofRow (World.ownsRow.alloc hr _)) hl
  have HW : Hid (withM l (a, b) n = none) := h
  have H15 : Hid (∀ x ∈ l, x ≤ 15) := hl15
  obtain ⟨L, hL⟩ : ∃ L, L = l.length := ⟨_, rfl⟩
  have HL : Hid (L = l.length) := hL
  rw [← hL] at hl HSY HR ⊢
  clear hr h hL h1 h2 hl15
  go_enter Tryd.func41, Tryd.ntmps41
  cases hsm : saysM (a, b) l with
  | none =>
    rw [hsm] at HSY
    unfold saysV at HSY
    go_wp2_with fail
    refine HSY.mono ?_
    rintro e w2 ⟨rfl, hk⟩
    have HK : Hid (Same w w2) := hid (Same.trans ((Kept.refl _ w).alloc _) hk)
    clear hk HSY hsm
    go_wp2_with fail
    go_ret2
    exact ⟨rfl, HK.out⟩
  | some p =>
    obtain ⟨x, k⟩ := p
    rw [hsm] at HSY
    have hk1 := saysM_le hsm H15.out
    have hbig : n < l.length + k := by
      have h := HW.out
      unfold withM at h
      rw [hsm] at h
      simp only at h
      split at h
      · assumption
      · cases h
    unfold saysV at HSY
    obtain ⟨t, ht⟩ : ∃ t, t = L + k := ⟨_, rfl⟩
    have htI : (L : Int) + (k : Int) = (t : Int) := by omega
    have htn : n < t := by have := HL.out; omega
    clear ht hbig hsm
    go_wp2_with fail
    refine HSY.mono ?_
    rintro e w2 ⟨rfl, hk⟩
    have HK : Hid (Same w w2) := hid (Same.trans ((Kept.refl _ w).alloc _) hk)
    clear hk HSY
    go_wp2_with fail
    go_ret2
    exact ⟨rfl, HK.out⟩

set_option maxRecDepth 100000 in
set_option maxHeartbeats 2000000 in
theorem with_yes (w : World) (B : Nat) (v : Value) (l m : List Nat) (a b : Int) (n : Nat) (hr : NRow B w v l) (hl : l.length ≤ 1000000) (hl15 : ∀ x ∈ l, x ≤ 15) (hn : n ≤ 1000000) (h : withM l (a, b) n = some m) :
    Calls Tryd.prog 41 #[v, .agg #[.int .i64 a, .int .i64 b], .int .i64 (n : Nat)] w fun e w' => ∃ v', e = .returned (.tuple #[v', .int .i64 0]) ∧ New w w' v' m := by
  obtain ⟨ao, cap, hv, h1, h2, _⟩ := hr.shape
  subst hv
  have HR : Hid (NRow B w (.slice ao l.length cap) l) := hr
  have HSY := says_any (w.alloc (.cells #[.int .i64 a, .int .i64 b] 31)) _ _ l a b (SrcE.ofRow (World.ownsRow.alloc hr _)) hl
  obtain ⟨x, k, hsm, hfit, hm⟩ : ∃ x k, saysM (a, b) l = some (x, k) ∧ l.length + k ≤ n ∧ m = l ++ List.replicate k x := by
    unfold withM at h
    split at h
    · cases h
    · rename_i x k hs
      split at h
      · cases h
      · simp only [Option.some.injEq] at h
        exact ⟨x, k, hs, by omega, h.symm⟩
  have hk1 := saysM_le hsm hl15
  rw [hsm] at HSY
  have HM : Hid (m = l ++ List.replicate k x) := hm
  have HC0 : Hid (ao = none → cap = 0) := h2
  obtain ⟨L, hL⟩ : ∃ L, L = l.length := ⟨_, rfl⟩
  have HL : Hid (L = l.length) := hL
  rw [← hL] at hl HSY HR hfit ⊢
  obtain ⟨t, ht⟩ : ∃ t, t = L + k := ⟨_, rfl⟩
  have htI : (L : Int) + (k : Int) = (t : Int) := by omega
  have htn : decide (n < t) = false := by simp; omega
  clear hr h hL h1 h2 hl15 hm hsm ht
  unfold saysV at HSY
  go_enter Tryd.func41, Tryd.ntmps41
  go_wp2_with fail
  refine HSY.mono ?_
  rintro e w2 ⟨rfl, hk⟩
  have HK : Hid (Same w w2) := hid (Same.trans ((Kept.refl _ w).alloc _) hk)
  have hsz := HK.out.size
  clear hk HSY
  go_wp2_with (at_builtin; refine wpList_append_ints _ w.heap.size rfl (.tmp 30) (.tmp 31) rfl (.slice none 0 0) [] rfl RowE.nil _ ao L cap l rfl (SrcE.ofRow (HR.out.same HK.out)) HC0.out (by have := HL.out; simp; omega) hsz ?_; intro v3 w3 hr3 hg3; have HR3 : Hid (NRow w.heap.size w3 v3 (l ++ List.replicate 0 x)) := hid (by simpa using hr3); have HK3 : Hid (Same w w3) := hid (HK.out.grown hg3 (fun j e => by cases e)); clear hr3 hg3)
  go_loopg [11, 12] k (fun q zv zi wr => ∃ (i : Nat), k - i ≤ q ∧ i ≤ k ∧ zi = .int .i64 (i : Nat) ∧ Hid (NRow w.heap.size wr zv (l ++ List.replicate i x)) ∧ Hid (Same w wr))
  case atStart => exact ⟨0, by omega, by omega, rfl, HR3, HK3⟩
  case round =>
    clear HR3 HK3
    obtain ⟨i, hq, hi, rfl, HV, HK4⟩ := hrel
    by_cases hlt : i < k
    · have hsz4 := HK4.out.size
      have HLN : Hid ((l ++ List.replicate i x).length + [x].length ≤ 1000000000) := hid (by have := HL.out; simp; omega)
      go_wp2_with (at_builtin; refine wpList_append_e _ natV natV_one w.heap.size 22 3 (natV 0) 8 Tryd.underlying22 Tryd.infoN rfl (by decide) rfl (.tmp 38) (.tmp 40) rfl u11 (l ++ List.replicate i x) rfl (World.ownsRow.alloc HV.out _) ⟨wr.heap.size, 0, none⟩ 1 1 [x] rfl rfl (cellsAt_new _ _ _) HLN.out (by simp; omega) ?_; intro v5 w5 hr5 hg5)
      have HV5 : Hid (NRow w.heap.size w5 v5 (l ++ List.replicate (i + 1) x)) := hid (by rw [List.replicate_succ', ← List.append_assoc]; exact hr5)
      have HK5 : Hid (Same w w5) := hid ((HK4.out.alloc _).grown hg5 (fun j e => .inr (HV.out.ge e)))
      clear hr5 hg5
      go_wp2_with fail
      go_roundg (gk - 1)
      case measure => omega
      case rel => exact ⟨i + 1, by omega, by omega, by go_num, HV5, HK5⟩
    · have hik : i = k := by omega
      have HV6 : Hid (New w wr u11 m) := hid ⟨by rw [HM.out, ← hik]; exact HV.out, HK4.out⟩
      clear hik
      go_wp2_with fail
      go_ret2
      exact ⟨_, rfl, HV6.out⟩

/-- An answer of Unpack: an error, or a new row. -/
def UnpA (w w' : World) (e : Ending) : Except Nat (List Nat) → Prop
  | .error c => e = .returned (.tuple #[.slice none 0 0, .int .i64 (c : Nat)]) ∧ Same w w'
  | .ok l => ∃ v', e = .returned (.tuple #[v', .int .i64 0]) ∧ New w w' v' l

set_option maxRecDepth 100000 in
set_option maxHeartbeats 2000000 in
theorem unpack_any (w : World) (v : Value) (I : Nat → Prop) (ss : List (Int × Int)) (nz : Int) (hs : StSrc w I v ss) (hlen : ss.length ≤ 10000000) :
    Calls Tryd.prog 16 #[v, .int .i64 nz] w fun e w' => UnpA w w' e (unpM ss nz) := by
  obtain ⟨ao, cap, rfl, hx1, hx2⟩ := id hs
  clear hx1 hx2
  have HS : Hid (StSrc w I (.slice ao ss.length cap) ss) := hs
  clear hs
  by_cases hneg : nz < 0
  · have HE : Hid (unpM ss nz = .error 1) := hid (by unfold unpM; rw [if_pos (.inl hneg)])
    go_enter Tryd.func16, Tryd.ntmps16
    go_wp2_with fail
    go_ret2
    rw [HE.out]
    exact ⟨rfl, Kept.refl _ _⟩
  · by_cases hbig : 316 < nz
    · have HE : Hid (unpM ss nz = .error 1) := hid (by unfold unpM; rw [if_pos (.inr hbig)])
      go_enter Tryd.func16, Tryd.ntmps16
      go_wp2_with fail
      go_ret2
      rw [HE.out]
      exact ⟨rfl, Kept.refl _ _⟩
    · obtain ⟨n, rfl⟩ : ∃ n : Nat, nz = (n : Int) := ⟨nz.toNat, by omega⟩
      have hn : n ≤ 316 := by omega
      have b1 : decide ((n : Int) < 0) = false := by simp
      have b2 : decide ((316 : Int) < (n : Int)) = false := by simp; omega
      have HU : Hid (unpM ss (n : Int) = match runM n [] ss with | none => .error 41 | some l => if l.length < n then .error 41 else .ok l) := hid (by
        unfold unpM
        rw [if_neg (by omega)]
        simp only [Int.toNat_natCast]
        rfl)
      clear hneg hbig
      go_enter Tryd.func16, Tryd.ntmps16
      go_wp2_with fail
      clear b1 b2
      go_loopg [6, 7] ss.length (fun q zl zi wr => ∃ (i : Nat) (l : List Nat), ss.length - i ≤ q ∧ i ≤ ss.length ∧ zi = .int .i64 (i : Nat) ∧ Hid (runM n [] (ss.take i) = some l ∧ l.length ≤ n ∧ ∀ x ∈ l, x ≤ 15) ∧ Hid (NRow w.heap.size wr zl l) ∧ Hid (Same w wr))
      case atStart => exact ⟨0, [], by omega, by omega, rfl, hid ⟨by simp [runM], by simp, by simp⟩, RowE.nil, Kept.refl _ _⟩
      case round =>
        obtain ⟨i, l, hq, hi, rfl, HRUN, HV, HK⟩ := hrel
        by_cases hlt : i < ss.length
        · obtain ⟨b, o, e1, _, hcell⟩ : ∃ b o, ao = some ⟨b, o, none⟩ ∧ True ∧ ∀ t (_ : t < 2), wr.cell? ⟨b, o + (i * 2 + t), none⟩ = (stC ss[i])[t]? := by
            obtain ⟨ao', cap', e1, _, e2⟩ := HS.out.kept stC_ok HK.out (fun _ _ _ f => f)
            injection e1 with e3 _ _
            subst e3
            obtain ⟨b, o, e4, _, e5⟩ := e2 (by intro e; rw [e] at hlt; simp at hlt)
            exact ⟨b, o, e4, trivial, e5 i hlt⟩
          subst e1
          obtain ⟨x, y, hxy⟩ : ∃ x y, ss[i] = (x, y) := ⟨_, _, rfl⟩
          rw [hxy] at hcell
          have c1 : wr.cell? ⟨b, o + i * 2, none⟩ = some (.int .i64 x) := hcell 0 (by decide)
          have c2 : wr.cell? ⟨b, o + i * 2 + 1, none⟩ = some (.int .i64 y) := hcell 1 (by decide)
          have HSN : Hid (runM n [] (ss.take (i + 1)) = withM l (x, y) n) := hid (by
            rw [List.take_succ_eq_append_getElem hlt, runM_snoc, HRUN.out.1, hxy]
            rfl)
          clear hcell hxy
          cases hw : withM l (x, y) n with
          | none =>
            have HW := with_no wr w.heap.size u6 l x y n HV.out (by have := HRUN.out.2.1; omega) HRUN.out.2.2 (by omega) hw
            have HE : Hid (unpM ss (n : Int) = .error 41) := hid (by
              have h := runM_none (n := n) (l := []) (ss.take (i + 1)) (ss.drop (i + 1)) (by rw [HSN.out, hw])
              rw [List.take_append_drop] at h
              rw [HU.out, h])
            clear hw
            go_wp2_with fail
            refine HW.mono ?_
            rintro e w2 ⟨rfl, hk2⟩
            have HK2 : Hid (Same w w2) := hid (Same.trans HK.out hk2)
            clear hk2 HW
            go_wp2_with fail
            first
              | (go_ret2; rw [HE.out]; exact ⟨rfl, HK2.out⟩)
              | (go_quiet (fail); go_wp2_with fail; go_ret2; rw [HE.out]; exact ⟨rfl, HK2.out.drewN _⟩)
          | some m =>
            have HW := with_yes wr w.heap.size u6 l m x y n HV.out (by have := HRUN.out.2.1; omega) HRUN.out.2.2 (by omega) hw
            have HM : Hid (runM n [] (ss.take (i + 1)) = some m ∧ m.length ≤ n ∧ ∀ x ∈ m, x ≤ 15) := hid ⟨by rw [HSN.out, hw], (withM_grows hw HRUN.out.2.2).2.1, (withM_grows hw HRUN.out.2.2).2.2⟩
            clear hw
            go_wp2_with fail
            refine HW.mono ?_
            rintro e w2 ⟨v2, rfl, hn2⟩
            have HK2 : Hid (Same w w2) := hid (Same.trans HK.out hn2.same)
            have HV2 : Hid (NRow w.heap.size w2 v2 m) := hid (RowE.base hn2.row HK.out.size)
            clear hn2 HW
            go_wp2_with fail
            go_roundg (gk - 1)
            case measure => omega
            case rel => exact ⟨i + 1, m, by omega, by omega, by go_num, HM, HV2, HK2⟩
        · have hrun : runM n [] ss = some l := by
            have h := HRUN.out.1
            rw [List.take_of_length_le (by omega)] at h
            exact h
          obtain ⟨ao2, cap2, hv2, _⟩ := HV.out.shape
          subst hv2
          obtain ⟨L, hL⟩ : ∃ L, L = l.length := ⟨_, rfl⟩
          rw [← hL] at HV ⊢
          by_cases hsh : L < n
          · have HE : Hid (unpM ss (n : Int) = .error 41) := hid (by rw [HU.out, hrun]; simp only; rw [if_pos (by omega)])
            clear hrun hL
            go_wp2_with fail
            go_ret2
            rw [HE.out]
            exact ⟨rfl, HK.out⟩
          · have HE : Hid (unpM ss (n : Int) = .ok l) := hid (by rw [HU.out, hrun]; simp only; rw [if_neg (by omega)])
            clear hrun hL
            go_wp2_with fail
            go_ret2
            rw [HE.out]
            exact ⟨_, rfl, HV.out, HK.out⟩

end Go.Proofs.YtofhlnpbflkdlaaDoor
