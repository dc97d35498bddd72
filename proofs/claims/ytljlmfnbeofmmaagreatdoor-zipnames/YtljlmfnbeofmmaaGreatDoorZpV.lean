import Derived.Test.YtljlmfnbeofmmaaGreatDoorZpT
namespace Go.Proofs.YtljlmfnbeofmmaaGreatDoor
open Go.RowKit

def wrE (E : Nat → En) (i : Nat) : Nat := if nam8 (sb (E i).n) = false ∨ anyN E (E i).n i = true then 80 else if 8192 < (E i).d.size then 87 else 0

def wrAll (E : Nat → En) : Nat → Nat → Nat
 | 0, _ => 0
 | n + 1, i => if wrE E i = 0 then wrAll E n (i + 1) else wrE E i

def chkE (E : Nat → En) (n : Nat) : Nat := if 64 < n then 86 else wrAll E n 0

theorem wrAll_step (E : Nat → En) (n i : Nat) (hi : i < n) (h : wrE E i = 0) : wrAll E (n - i) i = wrAll E (n - (i + 1)) (i + 1) := by
 obtain ⟨k, hk⟩ : ∃ k, n - i = k + 1 := ⟨n - i - 1, by omega⟩
 rw [hk, wrAll, if_pos h]
 congr 1
 omega

theorem wrAll_bad (E : Nat → En) (n i : Nat) (hi : i < n) (h : wrE E i ≠ 0) : wrAll E (n - i) i = wrE E i := by
 obtain ⟨k, hk⟩ : ∃ k, n - i = k + 1 := ⟨n - i - 1, by omega⟩
 rw [hk, wrAll, if_neg h]

set_option maxRecDepth 100000 in
set_option maxHeartbeats 1000000 in
theorem checkw_any (w : World) (a : Option Addr) (len cap : Nat) (E : Nat → En) (hs : Ents w (fun _ => True) a len E) (hn : len ≤ 100000000) (hcap : len ≤ cap) (hx : Mxl w) :
  Calls Tryz.prog 33 #[.slice a len cap] w fun e w' => e = .returned (.int .i64 (chkE E len : Nat)) ∧ Same w w' := by
 by_cases hbig : 64 < len
 ·have b1 : (64 : Int) < (len : Int) := by omega
  have HE : Hid (chkE E len = 86) := hid (by unfold chkE; rw [if_pos hbig])
  clear hs hbig
  go_enter Tryz.func33, Tryz.ntmps33
  go_wp2_with fail
  go_ret
  exact ⟨by rw [HE.out]; rfl, Kept.refl _ _⟩
 ·have b1 : (len : Int) ≤ 64 := by omega
  have HE : Hid (chkE E len = wrAll E (len - 0) 0) := hid (by unfold chkE; rw [if_neg hbig]; rfl)
  have HS : Hid (Ents w (fun _ => True) a len E) := hs
  have HX : Hid (Mxl w) := hx
  clear hs hbig hx
  go_enter Tryz.func33, Tryz.ntmps33
  go_wp2_with fail
  go_loopg [10] len (fun k z wr => ∃ i : Nat, len - i ≤ k ∧ i ≤ len ∧ z = .int .i64 (i : Nat) ∧ Hid (chkE E len = wrAll E (len - i) i) ∧ Hid (Same w wr))
  case atStart => exact ⟨0, by omega, by omega, rfl, HE, hid (Kept.refl _ _)⟩
  case round =>
   obtain ⟨i, hk, hil, rfl, HF, HK⟩ := hrel
   by_cases hlt : i < len
   ·have hli : decide (i < len) = true := by simp; omega
    obtain ⟨b, o, ha, _, hc0, hc1⟩ := HS.out i hlt
    subst ha
    have hc0 := HK.out.cell hc0 (fun f => f)
    have hc1 := HK.out.cell hc1 (fun f => f)
    obtain ⟨y, hy⟩ : ∃ y, y = E i := ⟨_, rfl⟩
    rw [← hy] at hc0 hc1
    have HY : Hid (y = E i) := hy
    have hiw : IntKind.i64.wrap ((i : Int) + 1) = ((i + 1 : Nat) : Int) := by rw [IntKind.wrap_i64]; omega
    have HNM := name_any (wr.alloc (.cells #[.string y.n, .string y.d] 34)) y.n (HX.out.kept (Same.trans HK.out ((Kept.refl _ wr).alloc _)) (fun f => f))
    have HBX : Hid (Blk (wr.alloc (.cells #[.string y.n, .string y.d] 34)) wr.heap.size #[.string y.n, .string y.d] 34) := hid (Blk.new wr _ _)
    have HKA : Hid (Same w (wr.alloc (.cells #[.string y.n, .string y.d] 34))) := hid (Same.trans HK.out ((Kept.refl _ wr).alloc _))
    obtain ⟨xb, hxb⟩ : ∃ xb, xb = wr.heap.size := ⟨_, rfl⟩
    rw [← hxb] at HBX
    cases hnb : nam8 (sb y.n) with
    | false =>
     rw [hnb] at HNM
     have HW : Hid (wrE E i = 80) := hid (by unfold wrE; rw [← HY.out, hnb, if_pos (.inl rfl)])
     clear hy hnb
     go_wp2_with fail
     refine HNM.mono ?_
     rintro e w2 ⟨rfl, hk2⟩
     have HK2 : Hid (Same w w2) := hid (Same.trans HKA.out hk2)
     clear hk2 HNM
     go_wp2_with fail
     go_ret
     refine ⟨?_, HK2.out⟩
     rw [HF.out, wrAll_bad E len i hlt (by rw [HW.out]; decide), HW.out]
     rfl
    | true =>
     rw [hnb] at HNM
     have HNB : Hid (nam8 (sb y.n) = true) := hnb
     clear hy hnb
     have j1 : (0 : Int) ≤ (i : Int) := by omega
     have j2 : (i : Int) ≤ (cap : Int) := by omega
     go_wp2_with fail
     rw [← hxb]
     clear hxb
     refine HNM.mono ?_
     rintro e w2 ⟨rfl, hk2⟩
     have HK2 : Hid (Same w w2) := hid (Same.trans HKA.out hk2)
     have hb2 := HBX.out.kept hk2 (fun f => f)
     have x0 : w2.cell? ⟨xb, 0, none⟩ = some (.string y.n) := hb2.cell 0
     have x1 : w2.cell? ⟨xb, 1, none⟩ = some (.string y.d) := hb2.cell 1
     have HCT := fun cap' => econtains_any w2 (some ⟨b, o, none⟩) i cap' E y.n xb (fun _ => True) (fun j hj => (HS.out.kept HK2.out (fun _ _ f => f)) j (by omega)) x0 (by omega)
     have HBB : Hid (Blk w2 xb #[.string y.n, .string y.d] 34) := hb2
     clear hk2 HNM hb2
     cases han : anyN E y.n i with
     | true =>
      rw [han] at HCT
      have HW : Hid (wrE E i = 80) := hid (by unfold wrE; rw [← HY.out, if_pos (.inr han)])
      clear han
      go_wp2_with fail
      refine (HCT _).mono ?_
      rintro e w3 ⟨rfl, hk3⟩
      have HK3 : Hid (Same w w3) := hid (Same.trans HK2.out hk3)
      clear hk3 HCT
      go_wp2_with fail
      go_ret
      refine ⟨?_, HK3.out⟩
      rw [HF.out, wrAll_bad E len i hlt (by rw [HW.out]; decide), HW.out]
      rfl
     | false =>
      rw [han] at HCT
      have HAN : Hid (anyN E y.n i = false) := han
      clear han
      go_wp2_with fail
      refine (HCT _).mono ?_
      rintro e w3 ⟨rfl, hk3⟩
      have HK3 : Hid (Same w w3) := hid (Same.trans HK2.out hk3)
      have y1 : w3.cell? ⟨xb, 1, none⟩ = some (.string y.d) := hk3.cell x1 (fun f => f)
      clear hk3 HCT x0 x1
      by_cases hd : 8192 < y.d.size
      ·have hdI : (8192 : Int) < (y.d.size : Int) := by omega
       have HW : Hid (wrE E i = 87) := hid (by unfold wrE; rw [← HY.out, if_neg (by rw [HNB.out, HAN.out]; simp), if_pos hd])
       clear hd
       go_wp2_with fail
       go_ret
       refine ⟨?_, HK3.out⟩
       rw [HF.out, wrAll_bad E len i hlt (by rw [HW.out]; decide), HW.out]
       rfl
      ·have hdI : (y.d.size : Int) ≤ 8192 := by omega
       have HW : Hid (wrE E i = 0) := hid (by unfold wrE; rw [← HY.out, if_neg (by rw [HNB.out, HAN.out]; simp), if_neg hd])
       clear hd
       go_wp2_with fail
       go_roundg (gk - 1)
       case measure => omega
       case rel => exact ⟨i + 1, by omega, by omega, by go_num, hid (by rw [HF.out, wrAll_step E len i hlt HW.out]), HK3⟩
   ·have hli : decide (i < len) = false := by simp; omega
    obtain rfl : i = len := by omega
    go_wp2_with fail
    go_ret
    refine ⟨?_, HK.out⟩
    rw [HF.out, Nat.sub_self]
    rfl

end Go.Proofs.YtljlmfnbeofmmaaGreatDoor
