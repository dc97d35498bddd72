/-
  The program's Unpack.
-/
import Derived.Test.YtofhlnpbflkdlabDoorLnShape
import Derived.Test.YtofhlnpbflkdlabDoorLnUnp
import Derived.Test.YtofhlnpbflkdlabDoorLnRep
namespace Go.Proofs.YtofhlnpbflkdlabDoor
open Go.RowKit

set_option maxRecDepth 100000 in
set_option maxHeartbeats 2000000 in
theorem lunpack_any (w : World) (v : Value) (I : Nat → Prop) (ss : List (Int × Int)) (nz : Int) (hs : StSrc w I v ss) (hlen : ss.length ≤ 10000000) :
    Calls Tryd.prog 8 #[v, .int .i64 nz] w fun e w' => UnpA w w' e (unpM ss nz) := by
  obtain ⟨ao, cap, rfl, hx1, hx2⟩ := id hs
  clear hx1 hx2
  have HS : Hid (StSrc w I (.slice ao ss.length cap) ss) := hs
  have HWI := within_any w nz 0 316
  clear hs
  by_cases hout : nz < 0 ∨ 316 < nz
  · have HE : Hid (unpM ss nz = .error 1) := hid (by unfold unpM; rw [if_pos hout])
    have hin : inB nz 0 316 = false := by
      unfold inB
      rcases hout with h | h
      · have : ¬ 0 ≤ nz := by omega
        simp [this]
      · have : ¬ nz ≤ 316 := by omega
        simp [this]
    rw [hin] at HWI
    clear hout hin
    go_enter Tryd.func8, Tryd.ntmps8
    go_wp2_with fail
    refine HWI.mono ?_
    rintro e w1 ⟨rfl, hw1⟩
    subst hw1
    clear HWI
    go_wp2_with fail
    go_ret2
    rw [HE.out]
    exact ⟨rfl, Kept.refl _ _⟩
  · obtain ⟨n, rfl⟩ : ∃ n : Nat, nz = (n : Int) := ⟨nz.toNat, by omega⟩
    have hn : n ≤ 316 := by omega
    have hin : inB (n : Int) 0 316 = true := by
      unfold inB
      have h1 : (0 : Int) ≤ (n : Int) := by omega
      have h2 : (n : Int) ≤ 316 := by omega
      simp [h1, h2]
    rw [hin] at HWI
    have HU : Hid (unpM ss (n : Int) = match runM n [] ss with | none => .error 41 | some l => if l.length < n then .error 41 else .ok l) := hid (by
      unfold unpM
      rw [if_neg (by omega)]
      simp only [Int.toNat_natCast]
      rfl)
    clear hout hin
    go_enter Tryd.func8, Tryd.ntmps8
    go_wp2_with fail
    refine HWI.mono ?_
    rintro e w1 ⟨rfl, hw1⟩
    subst hw1
    clear HWI
    go_wp2_with fail
    go_loopg [6, 8, 14] ss.length (fun q zl _ zi wr => ∃ (i : Nat) (l : List Nat), ss.length - i ≤ q ∧ i ≤ ss.length ∧ zi = .int .i64 (i : Nat) ∧ Hid (runM n [] (ss.take i) = some l ∧ l.length ≤ n ∧ ∀ x ∈ l, x ≤ 15) ∧ Hid (NRow w1.heap.size wr zl l) ∧ Hid (Same w1 wr))
    case atStart => exact ⟨0, [], by omega, by omega, rfl, hid ⟨by simp [runM], by simp, by simp⟩, RowE.nil, Kept.refl _ _⟩
    case round =>
      obtain ⟨i, l, hq, hi, rfl, HRUN, HV, HK⟩ := hrel
      by_cases hlt : i < ss.length
      · obtain ⟨b, o, e1, _, hcell⟩ : ∃ b o, ao = some ⟨b, o, none⟩ ∧ True ∧ ∀ t (_ : t < 2), wr.cell? ⟨b, o + (i * 2 + t), none⟩ = (stC ss[i])[t]? := by
          obtain ⟨ao', cap', e1, _, e2⟩ := HS.out.kept stC_ok HK.out (fun _ _ _ f => f)
          injection e1 with e3 _ _
          subst e3
          obtain ⟨b, o, e4, _, e5⟩ := e2 (by intro e; rw [e] at hlt; simp at hlt)
          exact ⟨b, o, e4, trivial, e5 i hlt⟩
        subst e1
        obtain ⟨x, y, hxy⟩ : ∃ x y, ss[i] = (x, y) := ⟨_, _, rfl⟩
        rw [hxy] at hcell
        have c1 : wr.cell? ⟨b, o + i * 2, none⟩ = some (.int .i64 x) := hcell 0 (by decide)
        have c2 : wr.cell? ⟨b, o + i * 2 + 1, none⟩ = some (.int .i64 y) := hcell 1 (by decide)
        have HSN : Hid (runM n [] (ss.take (i + 1)) = withM l (x, y) n) := hid (by
          rw [List.take_succ_eq_append_getElem hlt, runM_snoc, HRUN.out.1, hxy]
          rfl)
        have hll : l.length ≤ 1000000 := by have := HRUN.out.2.1; omega
        obtain ⟨a6, cap6, hv6, _⟩ := HV.out.shape
        subst hv6
        have HMS := fun W => mayStand_any W x y l.length n hll
        have HSAYS := fun (W : World) (hr : NRow w1.heap.size W (.slice a6 l.length cap6) l) (hB : w1.heap.size ≤ W.heap.size) (hm : mayB (x, y) l.length n) => say_any W w1.heap.size _ l x y n hr hB hll hm
        obtain ⟨L, hL⟩ : ∃ L, L = l.length := ⟨_, rfl⟩
        have HL : Hid (L = l.length) := hL
        rw [← hL] at HMS HSAYS HV hll ⊢
        clear hcell hxy hL
        by_cases hmay : mayB (x, y) L n
        · have HM : Hid (withM l (x, y) n = some (l ++ List.replicate (leastM x + y.toNat) (sayV x l))) := hid (withM_may (by rw [← HL.out]; exact hmay))
          have HMAY : Hid (mayB (x, y) L n) := hmay
          clear hmay
          obtain ⟨m, hm⟩ : ∃ m, m = l ++ List.replicate (leastM x + y.toNat) (sayV x l) := ⟨_, rfl⟩
          rw [← hm] at HM HSAYS
          have HMM : Hid (runM n [] (ss.take (i + 1)) = some m ∧ m.length ≤ n ∧ ∀ x ∈ m, x ≤ 15) := hid ⟨by rw [HSN.out, HM.out], (withM_grows HM.out HRUN.out.2.2).2.1, (withM_grows HM.out HRUN.out.2.2).2.2⟩
          clear hm
          go_wp2_with fail
          refine (HMS _).mono ?_
          rintro e w2 ⟨he, hk2⟩
          have he2 := he.yes HMAY.out
          subst he2
          have c3 : w2.cell? ⟨wr.heap.size, 0, none⟩ = some (.int .i64 x) := hk2.cell (by simp) (fun f => f)
          have c4 : w2.cell? ⟨wr.heap.size, 1, none⟩ = some (.int .i64 y) := hk2.cell (by simp) (fun f => f)
          have HK2 : Hid (Same wr w2) := hid (Same.trans ((Kept.refl _ wr).alloc _) hk2)
          have hsz2 : w1.heap.size ≤ w2.heap.size := by have h1 := HK.out.size; have h2 := HK2.out.size; omega
          have HSY := HSAYS w2 (HV.out.same HK2.out) hsz2 HMAY.out
          clear he hk2 HMS HSAYS
          go_wp2_with fail
          refine HSY.mono ?_
          rintro e w3 ⟨v3, rfl, hr3, hk3⟩
          have HV3 : Hid (NRow w1.heap.size w3 v3 m) := hr3
          have HK3 : Hid (Same w1 w3) := hid (Same.then (Same.trans HK.out HK2.out) hk3 (fun j hj e => by unfold Over at e; omega))
          clear hr3 hk3 HSY c3 c4
          go_wp2_with fail
          go_roundg (gk - 1)
          case measure => omega
          case rel => exact ⟨i + 1, m, by omega, by omega, by go_num, HMM, HV3, HK3⟩
        · have HM : Hid (withM l (x, y) n = none) := hid (withM_no (by rw [← HL.out]; exact hmay))
          have HMAY : Hid (¬ mayB (x, y) L n) := hmay
          have HE : Hid (unpM ss (n : Int) = .error 41) := hid (by
            have h := runM_none (n := n) (l := []) (ss.take (i + 1)) (ss.drop (i + 1)) (by rw [HSN.out, HM.out])
            rw [List.take_append_drop] at h
            rw [HU.out, h])
          clear hmay
          go_wp2_with fail
          refine (HMS _).mono ?_
          rintro e w2 ⟨he, hk2⟩
          have he2 := he.no HMAY.out
          subst he2
          have HK2 : Hid (Same w1 w2) := hid (Same.trans (HK.out.alloc _) hk2)
          clear he hk2 HMS HSAYS
          go_wp2_with fail
          go_ret2
          rw [HE.out]
          exact ⟨rfl, HK2.out⟩
      · have hrun : runM n [] ss = some l := by
          have h := HRUN.out.1
          rw [List.take_of_length_le (by omega)] at h
          exact h
        obtain ⟨ao2, cap2, hv2, _⟩ := HV.out.shape
        subst hv2
        obtain ⟨L, hL⟩ : ∃ L, L = l.length := ⟨_, rfl⟩
        rw [← hL] at HV ⊢
        by_cases hsh : L < n
        · have HE : Hid (unpM ss (n : Int) = .error 41) := hid (by rw [HU.out, hrun]; simp only; rw [if_pos (by omega)])
          clear hrun hL
          go_wp2_with fail
          go_ret2
          rw [HE.out]
          exact ⟨rfl, HK.out⟩
        · have HE : Hid (unpM ss (n : Int) = .ok l) := hid (by rw [HU.out, hrun]; simp only; rw [if_neg (by omega)])
          clear hrun hL
          go_wp2_with fail
          go_ret2
          rw [HE.out]
          exact ⟨_, rfl, HV.out, HK.out⟩

end Go.Proofs.YtofhlnpbflkdlabDoor
