/-
  Of the proof: parts ZrC.
-/
import Derived.Test.YtljlmfnbeofmmaaGreatDoorJ23

namespace Go.Proofs.YtljlmfnbeofmmaaGreatDoor
open Go.RowKit

theorem sb_list (s : ByteArray) : sb s = s.toList.map UInt8.toNat := by rw [Lib.toList_data]; rfl

theorem map_beq (l : List UInt8) (r : List UInt8) : (l.map UInt8.toNat == r.map UInt8.toNat) = (l == r) := by
 by_cases h : l = r
 ·subst h; simp
 ·rw [beq_eq_false_iff_ne.2 h]
  refine beq_eq_false_iff_ne.2 (fun e => h ?_)
  have hi : Function.Injective UInt8.toNat := fun a b e => UInt8.toNat_inj.1 e
  exact List.map_inj_right (fun a b e => hi e) |>.1 e

theorem prt8_is (s : ByteArray) : prt8 (sb s) = (!(s.toList == []) && !(s.toList == [46]) && !(s.toList == [46, 46])) := by
 have h0 := map_beq s.toList []
 have h1 := map_beq s.toList [46]
 have h2 := map_beq s.toList [46, 46]
 unfold prt8
 rw [sb_list, ← h0, ← h1, ← h2]
 rfl

theorem sb_ext (s : ByteArray) (f i : Nat) : sb (s.extract f i) = ((sb s).take i).drop f := by
 unfold sb
 rw [ByteArray.data_extract, Array.toList_extract, List.extract_eq_take_drop, ← List.map_take, ← List.map_drop, List.drop_take]

theorem sb_at (s : ByteArray) (i : Nat) (h : i < s.size) : (sb s)[i]? = some s[i].toNat := by
 unfold sb
 rw [List.getElem?_map]
 have : s.data.toList[i]? = some s[i] := by
  rw [Array.getElem?_toList, Array.getElem?_eq_getElem h]
  rfl
 rw [this]
 rfl

theorem go8_step (cur l : List Nat) (i x : Nat) (h : l[i]? = some x) : go8 cur (l.drop i) = if x = 47 then prt8 cur && go8 [] (l.drop (i + 1)) else let8 x && go8 (cur ++ [x]) (l.drop (i + 1)) := by
 have hi := (List.getElem?_eq_some_iff.1 h).1
 have e := (List.getElem?_eq_some_iff.1 h).2
 rw [List.drop_eq_getElem_cons hi, e, go8]

theorem cur_step (l : List Nat) (f i x : Nat) (h : l[i]? = some x) (hf : f ≤ i) : (l.take (i + 1)).drop f = (l.take i).drop f ++ [x] := by
 have hi := (List.getElem?_eq_some_iff.1 h).1
 rw [List.take_add_one, h, List.drop_append_of_le_length (by rw [List.length_take]; omega)]
 rfl

set_option maxHeartbeats 400000 in
theorem rpart_any (w : World) (s : ByteArray) :
  Calls Tryz.prog 32 #[.string s] w fun e w' => e = .returned (.bool (prt8 (sb s))) ∧ w' = w := by
 have HP : Hid (prt8 (sb s) = (!(s.toList == []) && !(s.toList == [46]) && !(s.toList == [46, 46]))) := hid (prt8_is s)
 go_enter Tryz.func32, Tryz.ntmps32
 go_wp2_with fail
 all_goals
  go_ret
  refine ⟨?_, rfl⟩
  rw [HP.out]
  simp_all

set_option maxRecDepth 100000 in
set_option maxHeartbeats 1000000 in
theorem rname_any (w : World) (s : ByteArray) (hn : s.size ≤ 100000000) :
  Calls Tryz.prog 11 #[.string s] w fun e w' => e = .returned (.bool (nam8 (sb s))) ∧ w' = w := by
 obtain ⟨l, hl⟩ : ∃ l, l = sb s := ⟨_, rfl⟩
 obtain ⟨n, hnn⟩ : ∃ n, n = s.size := ⟨_, rfl⟩
 have HN : Hid (l = sb s ∧ n = s.size ∧ l.length = n) := hid ⟨hl, hnn, by rw [hl, sb_size, hnn]⟩
 rw [← hl]
 have hlen : (s.size : Int) = (n : Int) := by rw [hnn]
 have HG : Hid (nam8 l = (decide (n ≤ 64) && go8 [] l)) := hid (by rw [← HN.out.2.2, go8_nam])
 have hnb : n ≤ 100000000 := by omega
 clear hl hnn hn
 by_cases h1 : n < 1
 ·have HF : Hid (nam8 l = false) := hid (by
   have : l = [] := List.eq_nil_of_length_eq_zero (by have := HN.out; omega)
   rw [this]; rfl)
  go_enter Tryz.func11, Tryz.ntmps11
  go_wp2_with fail
  all_goals
   go_ret
   exact ⟨by rw [HF.out]; rfl, rfl⟩
 ·by_cases h2 : 64 < n
  ·have HF : Hid (nam8 l = false) := hid (by
    rw [HG.out, decide_eq_false (by omega)]; rfl)
   go_enter Tryz.func11, Tryz.ntmps11
   go_wp2_with fail
   all_goals
    go_ret
    exact ⟨by rw [HF.out]; rfl, rfl⟩
  ·have HF : Hid (nam8 l = go8 [] l) := hid (by rw [HG.out, decide_eq_true (by omega)]; rfl)
   clear HG
   go_enter Tryz.func11, Tryz.ntmps11
   go_wp2_with fail
   go_loopg [3, 4] (n + 1) (fun k z3 z4 wr => ∃ (f i : Nat), z3 = .int .i64 (f : Nat) ∧ z4 = .int .i64 (i : Nat) ∧ n + 1 - i ≤ k ∧ wr = w ∧ i ≤ n + 1 ∧ f ≤ i ∧ Hid ((i ≤ n → nam8 l = go8 ((l.take i).drop f) (l.drop i)) ∧ (i = n + 1 → nam8 l = true)))
   case atStart => exact ⟨0, 0, rfl, rfl, by omega, rfl, by omega, by omega, hid ⟨fun _ => by rw [HF.out]; rfl, fun h => by omega⟩⟩
   case round =>
    obtain ⟨f, i, rfl, rfl, hk, rfl, hi, hfi, HI⟩ := hrel
    have hiw : IntKind.i64.wrap ((i : Int) + 1) = ((i + 1 : Nat) : Int) := by rw [IntKind.wrap_i64]; omega
    have f0 : (0 : Int) ≤ (f : Int) := by omega
    have f1 : (f : Int) ≤ (i : Int) := by omega
    by_cases hin : i ≤ n
    ·have f2 : (i : Int) ≤ (n : Int) := by omega
     have b1 : decide ((i : Int) ≤ (n : Int)) = true := by simp; omega
     have b1' : decide (i ≤ n) = true := by simp; omega
     have HPT := rpart_any wr (s.extract f i)
     rw [sb_ext, ← HN.out.1] at HPT
     obtain ⟨cur, hcur⟩ : ∃ c, c = (l.take i).drop f := ⟨_, rfl⟩
     rw [← hcur] at HPT HI
     have HCU : Hid (cur = (l.take i).drop f) := hcur
     obtain ⟨T, hT⟩ : ∃ T, T = s.extract f i := ⟨_, rfl⟩
     rw [← hT] at HPT
     clear hcur
     by_cases hie : i = n
     ·have b2 : ((i : Int) == (n : Int)) = true := by simp; omega
      have HG : Hid (nam8 l = prt8 cur) := hid (by
       rw [HI.out.1 hin, List.drop_eq_nil_of_le (by have := HN.out; omega)]
       rfl)
      have HIE : Hid (i = n) := hie
      clear hie
      cases hp : prt8 cur with
      | true =>
       rw [hp] at HPT
       have HG : Hid (nam8 l = true) := hid (by rw [HG.out, hp])
       clear hp
       go_wp2_with fail
       try rw [← hT]
       refine HPT.mono ?_
       rintro e w2 ⟨rfl, hw2⟩
       subst hw2
       clear HPT
       go_wp2_with fail
       go_roundg (gk - 1)
       case measure => omega
       case rel => exact ⟨i + 1, i + 1, by go_num, by go_num, by omega, rfl, by omega, Nat.le_refl _, hid ⟨fun h => by have := HIE.out; omega, fun _ => HG.out⟩⟩
      | false =>
       rw [hp] at HPT
       have HG : Hid (nam8 l = false) := hid (by rw [HG.out, hp])
       clear hp
       go_wp2_with fail
       try rw [← hT]
       refine HPT.mono ?_
       rintro e w2 ⟨rfl, hw2⟩
       subst hw2
       clear HPT
       go_wp2_with fail
       go_ret
       exact ⟨by rw [HG.out]; rfl, rfl⟩
     ·have i1 : (0 : Int) ≤ (i : Int) := by omega
      have i2 : (i : Int) < (n : Int) := by omega
      have b2 : ((i : Int) == (n : Int)) = false := by simp; omega
      have hsz : i < s.size := by have := HN.out; omega
      have hat := sb_at s i hsz
      rw [← HN.out.1] at hat
      obtain ⟨x, hx⟩ : ∃ x, x = s[i].toNat := ⟨_, rfl⟩
      rw [← hx] at hat
      have HG : Hid (nam8 l = if x = 47 then prt8 cur && go8 [] (l.drop (i + 1)) else let8 x && go8 (cur ++ [x]) (l.drop (i + 1))) := hid (by rw [HI.out.1 hin]; exact go8_step cur l i x hat)
      have HCS : Hid ((l.take (i + 1)).drop f = cur ++ [x]) := hid (by rw [HCU.out]; exact cur_step l f i x hat hfi)
      have hxI : (s[i].toNat : Int) = (x : Int) := by rw [hx]
      clear hx hat hie HI HCU
      by_cases h47 : x = 47
      ·have b3 : ((x : Int) == 47) = true := by simp; omega
       have HG : Hid (nam8 l = (prt8 cur && go8 [] (l.drop (i + 1)))) := hid (by rw [HG.out, if_pos h47])
       clear h47
       cases hp : prt8 cur with
       | true =>
        rw [hp] at HPT
        have HG : Hid (nam8 l = go8 [] (l.drop (i + 1))) := hid (by rw [HG.out, hp]; rfl)
        clear hp
        go_wp2_with fail
        try rw [← hT]
        refine HPT.mono ?_
        rintro e w2 ⟨rfl, hw2⟩
        subst hw2
        clear HPT
        go_wp2_with fail
        go_roundg (gk - 1)
        case measure => omega
        case rel => exact ⟨i + 1, i + 1, by go_num, by go_num, by omega, rfl, by omega, Nat.le_refl _, hid ⟨fun h => by rw [show (l.take (i + 1)).drop (i + 1) = [] from List.drop_eq_nil_of_le (by rw [List.length_take]; omega)]; exact HG.out, fun h => by omega⟩⟩
       | false =>
        rw [hp] at HPT
        have HG : Hid (nam8 l = false) := hid (by rw [HG.out, hp]; rfl)
        clear hp
        go_wp2_with fail
        try rw [← hT]
        refine HPT.mono ?_
        rintro e w2 ⟨rfl, hw2⟩
        subst hw2
        clear HPT
        go_wp2_with fail
        go_ret
        exact ⟨by rw [HG.out]; rfl, rfl⟩
      ·have b3 : ((x : Int) == 47) = false := by simp; omega
       have HG : Hid (nam8 l = (let8 x && go8 (cur ++ [x]) (l.drop (i + 1)))) := hid (by rw [HG.out, if_neg h47])
       have HNX : Hid (let8 x = true → (i + 1 ≤ n → nam8 l = go8 ((l.take (i + 1)).drop f) (l.drop (i + 1))) ∧ (i + 1 = n + 1 → nam8 l = true)) := hid (fun h => ⟨fun _ => by rw [HG.out, h, HCS.out]; rfl, fun h => by omega⟩)
       have HNO : Hid (let8 x = false → nam8 l = false) := hid (fun h => by rw [HG.out, h]; rfl)
       have hcl : (97 ≤ x ∧ x ≤ 122) ∨ (48 ≤ x ∧ x ≤ 57) ∨ x = 46 ∨ x = 95 ∨ x = 45 ∨ (x < 48 ∧ x ≠ 45 ∧ x ≠ 46) ∨ (58 ≤ x ∧ x ≤ 96 ∧ x ≠ 95) ∨ 123 ≤ x := by omega
       clear h47 HG HPT hT HCS
       rcases hcl with hc | hc | hc | hc | hc | hc | hc | hc
       all_goals
        first | (have q1 : decide ((x : Int) < 97) = true := by simp; omega) | (have q1 : decide ((x : Int) < 97) = false := by simp; omega)
        first | (have q2 : decide (122 < (x : Int)) = true := by simp; omega) | (have q2 : decide (122 < (x : Int)) = false := by simp; omega)
        first | (have q3 : decide ((x : Int) < 48) = true := by simp; omega) | (have q3 : decide ((x : Int) < 48) = false := by simp; omega)
        first | (have q4 : decide (57 < (x : Int)) = true := by simp; omega) | (have q4 : decide (57 < (x : Int)) = false := by simp; omega)
        first | (have q5 : ((x : Int) != 46) = true := by simp; omega) | (have q5 : ((x : Int) != 46) = false := by simp; omega)
        first | (have q6 : ((x : Int) != 95) = true := by simp; omega) | (have q6 : ((x : Int) != 95) = false := by simp; omega)
        first | (have q7 : ((x : Int) != 45) = true := by simp; omega) | (have q7 : ((x : Int) != 45) = false := by simp; omega)
        first
         | (have HL : Hid (let8 x = true) := hid (by unfold let8; simp; omega)
            clear hc
            go_wp2_with fail
            go_roundg (gk - 1)
            case measure => omega
            case rel => exact ⟨f, i + 1, rfl, by go_num, by omega, rfl, by omega, by omega, hid (HNX.out HL.out)⟩)
         | (have HL : Hid (let8 x = false) := hid (by unfold let8; simp; omega)
            clear hc
            go_wp2_with fail
            go_ret
            exact ⟨by rw [HNO.out HL.out]; rfl, rfl⟩)
    ·have b1 : decide ((i : Int) ≤ (n : Int)) = false := by simp; omega
     have b1' : decide (i ≤ n) = false := by simp; omega
     have HG : Hid (nam8 l = true) := hid (HI.out.2 (by omega))
     clear hin
     go_wp2_with fail
     go_ret
     exact ⟨by rw [HG.out]; rfl, rfl⟩

end Go.Proofs.YtljlmfnbeofmmaaGreatDoor
