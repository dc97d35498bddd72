/-
  The reference's Same and May.
-/
import Derived.Test.YtofhlnpbflkdlabDoorLnRef
namespace Go.Proofs.YtofhlnpbflkdlabDoor
open Go.RowKit

/-- One step of a source. -/
theorem StSrc.get {w : World} {I : Nat → Prop} {ao : Option Addr} {n cap : Nat} {ss : List (Int × Int)} (h : StSrc w I (.slice ao n cap) ss) (i : Nat) (hi : i < ss.length) : ∃ b o, ao = some ⟨b, o, none⟩ ∧ I b ∧ w.cell? ⟨b, o + i * 2, none⟩ = some (.int .i64 ss[i].1) ∧ w.cell? ⟨b, o + i * 2 + 1, none⟩ = some (.int .i64 ss[i].2) := by
  obtain ⟨ao', cap', e1, _, e2⟩ := h
  injection e1 with e3 _ _
  subst e3
  obtain ⟨b, o, e4, hI, e5⟩ := e2 (by intro e; rw [e] at hi; simp at hi)
  exact ⟨b, o, e4, hI, e5 i hi 0 (by decide), e5 i hi 1 (by decide)⟩

set_option maxRecDepth 100000 in
set_option maxHeartbeats 2000000 in
theorem same_any (va vb : Value) (I J : Nat → Prop) (xs ys : List (Int × Int)) (w : World) (ha : StSrc w I va xs) (hb : StSrc w J vb ys) (hx : xs.length ≤ 10000000) (hy : ys.length ≤ 10000000) :
    Calls Tryd.prog 10 #[va, vb] w fun e w' => e = .returned (.bool (decide (xs = ys))) ∧ Same w w' := by
  obtain ⟨ao, ca, rfl, hxa, hsa⟩ := id ha
  obtain ⟨bo, cb, rfl, hxb, hsb⟩ := id hb
  clear hxa hxb hsa hsb
  have HA : Hid (StSrc w I (.slice ao xs.length ca) xs) := ha
  have HB : Hid (StSrc w J (.slice bo ys.length cb) ys) := hb
  clear ha hb
  by_cases hl : xs.length = ys.length
  · have HL : Hid (xs.length = ys.length) := hl
    have hd : ((xs.length : Int) != (ys.length : Int)) = false := by simp [hl]
    clear hl
    go_enter Tryd.func10, Tryd.ntmps10
    go_wp2
    clear hd
    go_loopg [5] xs.length (fun k i wr => ∃ j : Nat, j ≤ xs.length ∧ xs.length - j ≤ k ∧ i = .int .i64 (j : Nat) ∧ Hid (Same w wr) ∧ Hid (xs.take j = ys.take j))
    case atStart => exact ⟨0, by omega, by omega, rfl, Kept.refl _ _, hid (by simp)⟩
    case round =>
      obtain ⟨j, hj, hjk, rfl, HK, HT⟩ := hrel
      by_cases hlt : j < xs.length
      · have hlt2 : j < ys.length := by have := HL.out; omega
        obtain ⟨a, oa, rfl, _, c1, c2⟩ := StSrc.get (HA.out.kept stC_ok HK.out (fun _ _ _ f => f)) j hlt
        obtain ⟨b, ob, rfl, _, d1, d2⟩ := StSrc.get (HB.out.kept stC_ok HK.out (fun _ _ _ f => f)) j hlt2
        obtain ⟨x1, x2, hx1⟩ : ∃ x1 x2, xs[j] = (x1, x2) := ⟨_, _, rfl⟩
        obtain ⟨y1, y2, hy1⟩ : ∃ y1 y2, ys[j] = (y1, y2) := ⟨_, _, rfl⟩
        rw [hx1] at c1 c2
        rw [hy1] at d1 d2
        have HX : Hid (xs[j] = (x1, x2)) := hx1
        have HY : Hid (ys[j] = (y1, y2)) := hy1
        clear hx1 hy1
        by_cases he : x1 = y1 ∧ x2 = y2
        · obtain ⟨rfl, rfl⟩ := he
          go_wp2
          go_quiet (fail)
          go_wp2
          go_roundg (gk - 1)
          case measure => omega
          case rel => exact ⟨j + 1, by omega, by omega, by go_num, hid (HK.out.drewN _), hid (by rw [List.take_succ_eq_append_getElem hlt, List.take_succ_eq_append_getElem hlt2, HT.out, HX.out, HY.out])⟩
        · have HE : Hid (¬ (x1 = y1 ∧ x2 = y2)) := he
          have hne : ¬ xs = ys := by
            intro e
            subst e
            have h := HX.out.symm.trans HY.out
            simp only [Prod.mk.injEq] at h
            exact he h
          have HNE : Hid (¬ xs = ys) := hne
          clear hne
          by_cases h1 : x1 = y1
          · have h2 : ¬ x2 = y2 := fun h => he ⟨h1, h⟩
            subst h1
            have e2 : (x2 == y2) = false := by simp [h2]
            have e3 : decide (x2 = y2) = false := by simp [h2]
            clear he
            go_wp2
            go_quiet (fail)
            go_wp2
            go_ret
            refine ⟨?_, HK.out.drewN _⟩
            simp [HNE.out]
          · have e2 : (x1 == y1) = false := by simp [h1]
            have e3 : decide (x1 = y1) = false := by simp [h1]
            clear he
            go_wp2
            go_quiet (fail)
            go_wp2
            go_ret
            refine ⟨?_, HK.out.drewN _⟩
            simp [HNE.out]
      · have hjl : j = xs.length := by omega
        subst hjl
        go_wp2
        go_ret
        refine ⟨?_, HK.out⟩
        have h1 := HT.out
        rw [List.take_of_length_le (Nat.le_refl _), List.take_of_length_le (by have := HL.out; omega)] at h1
        simp [h1]
  · have hd : ((xs.length : Int) != (ys.length : Int)) = true := by simp; omega
    have HNE : Hid (¬ xs = ys) := hid (fun e => hl (by rw [e]))
    clear hl
    go_enter Tryd.func10, Tryd.ntmps10
    go_wp2
    go_ret
    exact ⟨by simp [HNE.out], Kept.refl _ _⟩

end Go.Proofs.YtofhlnpbflkdlabDoor
