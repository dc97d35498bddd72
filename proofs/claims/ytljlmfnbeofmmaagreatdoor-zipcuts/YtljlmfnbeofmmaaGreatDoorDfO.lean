import Derived.Test.YtljlmfnbeofmmaaGreatDoorDfL
import Derived.Test.YtljlmfnbeofmmaaGreatDoorMtI
import Derived.Test.YtljlmfnbeofmmaaGreatDoorMtO
namespace Go.Proofs.YtljlmfnbeofmmaaGreatDoor
open Go.RowKit

def bestL (a b : List Nat) : List Nat := if b.length < a.length then b else a

theorem NB.later {wb w w' : World} {v : Value} {bs : List Nat} (h : NB wb w v bs) (hk : Same w w') : NB wb w' v bs := ⟨h.row.kept hk (fun _ _ f => f), h.byte, Same.trans h.same hk, h.new⟩
theorem NB.base {wa wb w : World} {v : Value} {bs : List Nat} (h : NB wb w v bs) (hk : Same wa wb) : NB wa w v bs := ⟨h.row, h.byte, Same.trans hk h.same, fun k e => Nat.le_trans hk.size (h.new k e)⟩

abbrev way1 (b : Nat) : Value := .func (.func 41) #[] #[.pointer (some ⟨b, 0, none⟩)]
abbrev way2 (b : Nat) : Value := .func (.func 43) #[] #[.pointer (some ⟨b, 0, none⟩)]
abbrev way3 (b : Nat) : Value := .func (.func 45) #[] #[.pointer (some ⟨b, 0, none⟩)]

set_option maxRecDepth 100000 in
set_option maxHeartbeats 400000 in
theorem least_any (w : World) (h b1 b2 : Nat) (P1 P2 P3 : List Nat → Prop)
  (c0 : w.cell? ⟨h, 0, none⟩ = some (way1 b1)) (c1 : w.cell? ⟨h, 1, none⟩ = some (way2 b2)) (c2 : w.cell? ⟨h, 2, none⟩ = some (way3 b2))
  (H1 : ∀ W, Same w W → Calls Tryz.prog 41 #[.pointer (some ⟨b1, 0, none⟩)] W fun e w' => ∃ v' x, e = .returned v' ∧ NB W w' v' x ∧ P1 x)
  (H2 : ∀ W, Same w W → Calls Tryz.prog 43 #[.pointer (some ⟨b2, 0, none⟩)] W fun e w' => ∃ v' x, e = .returned v' ∧ NB W w' v' x ∧ P2 x)
  (H3 : ∀ W, Same w W → Calls Tryz.prog 45 #[.pointer (some ⟨b2, 0, none⟩)] W fun e w' => ∃ v' x, e = .returned v' ∧ NB W w' v' x ∧ P3 x) :
  Calls Tryz.prog 40 #[.slice (some ⟨h, 0, none⟩) 3 3] w fun e w' => ∃ v' x1 x2 x3, e = .returned v' ∧ NB w w' v' (bestL (bestL x1 x2) x3) ∧ P1 x1 ∧ P2 x2 ∧ P3 x3 := by
 have HH1 := H1 w (Kept.refl _ w)
 have HH2 : Hid (∀ W, Same w W → Calls Tryz.prog 43 #[.pointer (some ⟨b2, 0, none⟩)] W fun e w' => ∃ v' x, e = .returned v' ∧ NB W w' v' x ∧ P2 x) := H2
 have HH3 : Hid (∀ W, Same w W → Calls Tryz.prog 45 #[.pointer (some ⟨b2, 0, none⟩)] W fun e w' => ∃ v' x, e = .returned v' ∧ NB W w' v' x ∧ P3 x) := H3
 clear H1 H2 H3
 go_enter Tryz.func40, Tryz.ntmps40
 go_wp2_with fail
 refine HH1.mono ?_
 rintro e w1 ⟨v1, x1, rfl, hn1, hp1⟩
 have HN1 : Hid (NB w w1 v1 x1) := hn1
 have HP1 : Hid (P1 x1) := hp1
 have d1 := hn1.same.cell c1 (fun f => f)
 have d2 := hn1.same.cell c2 (fun f => f)
 have HB2 := HH2.out w1 hn1.same
 obtain ⟨a1, p1, hv1, _⟩ := hn1.row.shape
 obtain ⟨L1, hL1⟩ : ∃ L, L = x1.length := ⟨_, rfl⟩
 rw [← hL1] at hv1
 subst hv1
 have HL1 : Hid (L1 = x1.length) := hL1
 clear hn1 hp1 HH1 HH2 hL1
 go_wp2_with fail
 refine wp_loop_rounds 3 ?_
 rw [rounds_succ]
 go_wp2_with fail
 refine HB2.mono ?_
 rintro e w2 ⟨v2, x2, rfl, hn2, hp2⟩
 have HK2 : Hid (Same w w2) := hid (Same.trans HN1.out.same hn2.same)
 have HN2 : Hid (NB w w2 (.slice a1 L1 p1) x1 ∧ NB w w2 v2 x2) := hid ⟨HN1.out.later hn2.same, hn2.base HN1.out.same⟩
 have HP2 : Hid (P2 x2) := hp2
 have d3 := hn2.same.cell d2 (fun f => f)
 have HB3 := HH3.out w2 HK2.out
 obtain ⟨a2, p2, hv2, _⟩ := hn2.row.shape
 obtain ⟨L2, hL2⟩ : ∃ L, L = x2.length := ⟨_, rfl⟩
 rw [← hL2] at hv2
 subst hv2
 have HL2 : Hid (L2 = x2.length) := hL2
 clear hn2 hp2 HB2 HH3 hL2 HN1
 have HX : Hid (∃ a L p, NB w w2 (.slice a L p) (bestL x1 x2) ∧ L = (bestL x1 x2).length ∧ (if L2 < L1 then (a, L, p) = (a2, L2, p2) else (a, L, p) = (a1, L1, p1))) := hid (by
  unfold bestL
  rw [← HL1.out, ← HL2.out]
  by_cases hlt : L2 < L1
  ·rw [if_pos hlt]
   exact ⟨a2, L2, p2, HN2.out.2, HL2.out, by rw [if_pos hlt]⟩
  ·rw [if_neg hlt]
   exact ⟨a1, L1, p1, HN2.out.1, HL1.out, by rw [if_neg hlt]⟩)
 obtain ⟨a, L, p, hnx, hLx, hif⟩ := HX.out
 have HNX : Hid (NB w w2 (.slice a L p) (bestL x1 x2) ∧ L = (bestL x1 x2).length) := hid ⟨hnx, hLx⟩
 clear HX hnx hLx
 by_cases hlt : L2 < L1
 all_goals
  first
   | rw [if_pos hlt] at hif
   | rw [if_neg hlt] at hif
  simp only [Prod.mk.injEq] at hif
  obtain ⟨rfl, rfl, rfl⟩ := hif
  clear HN2 HL1 HL2
  go_wp2_with fail
  rw [rounds_succ]
  go_wp2_with fail
  refine HB3.mono ?_
  rintro e w3 ⟨v3, x3, rfl, hn3, hp3⟩
  have HN3 : Hid (NB w w3 (.slice a L p) (bestL x1 x2) ∧ NB w w3 v3 x3) := hid ⟨HNX.out.1.later hn3.same, hn3.base HK2.out⟩
  have HP3 : Hid (P3 x3) := hp3
  obtain ⟨a3, p3, hv3, _⟩ := hn3.row.shape
  obtain ⟨L3, hL3⟩ : ∃ L, L = x3.length := ⟨_, rfl⟩
  rw [← hL3] at hv3
  subst hv3
  have HBB : Hid ((L3 < L → NB w w3 (.slice a3 L3 p3) (bestL (bestL x1 x2) x3)) ∧ (¬ L3 < L → NB w w3 (.slice a L p) (bestL (bestL x1 x2) x3))) := hid (by
   rw [HNX.out.2, hL3]
   refine ⟨fun h => ?_, fun h => ?_⟩
   ·rw [show bestL (bestL x1 x2) x3 = x3 from if_pos h]; rw [← hL3]; exact HN3.out.2
   ·rw [show bestL (bestL x1 x2) x3 = bestL x1 x2 from if_neg h]; rw [← HNX.out.2]; exact HN3.out.1)
  clear hn3 hp3 HB3 HNX HN3 hL3
  by_cases hlt2 : L3 < L
  ·go_wp2_with fail
   rw [rounds_succ]
   go_wp2_with fail
   go_ret
   exact ⟨_, x1, x2, x3, rfl, HBB.out.1 hlt2, HP1.out, HP2.out, HP3.out⟩
  ·go_wp2_with fail
   rw [rounds_succ]
   go_wp2_with fail
   go_ret
   exact ⟨_, x1, x2, x3, rfl, HBB.out.2 hlt2, HP1.out, HP2.out, HP3.out⟩

end Go.Proofs.YtljlmfnbeofmmaaGreatDoor
