/-
  Joined: TkR, TkU, HmR, HmS, HmT, HmU, HmWholeLaw, HmV, TkS, TkT, TkV, TkPa.
-/
import Derived.Test.YtfhfnkhiomahfaaGreatDoorTkD
import Derived.Test.YtfhfnkhiomahfaaGreatDoorTkE
import Derived.Test.YtfhfnkhiomahfaaGreatDoorRec
import Derived.Test.YtfhfnkhiomahfaaGreatDoorJHm
import Derived.Test.YtfhfnkhiomahfaaGreatDoorHmF
import Derived.Test.YtfhfnkhiomahfaaGreatDoorHmH
import Derived.Test.YtfhfnkhiomahfaaGreatDoorHmQ
import Derived.Test.YtfhfnkhiomahfaaGreatDoorHmK
import Derived.Deep.RegionWith
import Derived.Deep.RegionHeld3
import Derived.Test.YtfhfnkhiomahfaaGreatDoorTkJ

/-
  Layer 16, the reference: Short, number, May, Body.
-/
namespace Go.Proofs.YtfhfnkhiomahfaaGreatDoor
open Go.RowKit Go.Shelf

/-- A byte of a text. -/
theorem str_index (s : ByteArray) (i : Nat) (hi : i < s.size) (W : World) : (Instr.index 9 (.string s) (.int .i64 (i : Nat))).run Tryz.prog W = .ok (.int .u8 ((s.data.toList.getD i 0).toNat : Nat)) W := by
  have hu := run_underlying (P := Tryz.prog) Tryz.underlying9 W
  have h3 : s.data.toList.getD i 0 = s.data[i]'hi := by
    rw [List.getD_eq_getElem?_getD, List.getElem?_eq_getElem (by simpa using hi)]
    simp
  rw [h3]
  simp [Instr.index, Sem.run_bind, asIntOf, hu]
  rw [show s[i]? = some (s[i]'hi) from getElem?_pos s i hi]
  rfl

/-- May this byte stand in a short name? As the reference asks. -/
def let6 (c : Nat) : Bool := (decide (97 ≤ c) && decide (c ≤ 122)) || (decide (48 ≤ c) && decide (c ≤ 57)) || c == 45

theorem let6_fin : ∀ n : Fin 256, lets14.contains (UInt8.ofNat n.val) = let6 n.val := by decide +kernel

theorem let6_is (b : UInt8) : lets14.contains b = let6 b.toNat := by
  have := let6_fin ⟨b.toNat, b.toNat_lt⟩
  simpa using this

theorem take_all_succ {l : List UInt8} {i : Nat} (hi : i < l.length) (f : UInt8 → Bool) : (l.take (i + 1)).all f = ((l.take i).all f && f (l.getD i 0)) := by
  rw [List.take_add_one, List.getElem?_eq_getElem hi, List.all_append, List.getD_eq_getElem?_getD, List.getElem?_eq_getElem hi]
  simp

set_option maxRecDepth 100000 in
set_option maxHeartbeats 1000000 in
theorem rshort_any (w : World) (s : ByteArray) : Calls Tryz.prog 45 #[.string s] w fun e w' => e = .returned (.bool (sho s)) ∧ Same w w' := by
  have hL : s.data.toList.length = s.size := Array.length_toList
  have HL := hid hL
  have hem : s.toList.isEmpty = decide (s.size = 0) := by
    rw [Lib.toList_data]
    by_cases h : s.size = 0
    · rw [decide_eq_true h, List.isEmpty_iff]; exact List.eq_nil_of_length_eq_zero (by omega)
    · rw [decide_eq_false h]
      cases hl : s.data.toList with
      | nil => rw [hl] at hL; simp at hL; omega
      | cons a r => rfl
  by_cases h0 : s.size < 1
  · have b1 : decide ((s.size : Int) < 1) = true := by simp; omega
    have hz : sho s = false := by unfold sho; rw [hem, decide_eq_true (by omega)]; rfl
    rw [hz]
    clear h0 hz hem hL
    go_enter Tryz.func45, Tryz.ntmps45
    go_wp2_with fail
    go_ret
    exact ⟨rfl, Kept.refl _ _⟩
  · have b1 : decide ((s.size : Int) < 1) = false := by simp; omega
    by_cases h16 : 16 < s.size
    · have b2 : decide ((16 : Int) < (s.size : Int)) = true := by simp; omega
      have hz : sho s = false := by unfold sho; rw [decide_eq_false (show ¬ s.size ≤ 16 by omega)]; simp
      rw [hz]
      clear h0 hz hem hL h16
      go_enter Tryz.func45, Tryz.ntmps45
      go_wp2_with fail
      go_ret
      exact ⟨rfl, Kept.refl _ _⟩
    · have b2 : decide ((16 : Int) < (s.size : Int)) = false := by simp; omega
      have hz : sho s = s.data.toList.all (lets14.contains ·) := by unfold sho; rw [hem, decide_eq_false (by omega), decide_eq_true (show s.size ≤ 16 by omega)]; rfl
      rw [hz]
      have H16 : Hid (s.size ≤ 16) := hid (by omega)
      clear h0 hz hem hL h16
      go_enter Tryz.func45, Tryz.ntmps45
      go_wp2_with fail
      go_loopg [3] s.size (fun qq z3 wr => ∃ i : Nat, z3 = .int .i64 (i : Nat) ∧ i ≤ s.size ∧ s.size - i ≤ qq ∧ Hid (wr = w) ∧ Hid ((s.data.toList.take i).all (lets14.contains ·) = true))
      case atStart => exact ⟨0, rfl, by omega, by omega, hid rfl, hid rfl⟩
      case round =>
        obtain ⟨i, rfl, hi, hiq, HW, HI⟩ := hrel
        by_cases hlt : i < s.size
        · have hix := fun W => str_index s i hlt W
          have HST := hid (take_all_succ (l := s.data.toList) (i := i) (by rw [HL.out]; exact hlt) (lets14.contains ·))
          obtain ⟨c, hc⟩ : ∃ c, c = (s.data.toList.getD i 0).toNat := ⟨_, rfl⟩
          have HLC : Hid (lets14.contains (s.data.toList.getD i 0) = let6 c) := hid (by rw [hc]; exact let6_is _)
          rw [← hc] at hix
          have hd1 : decide ((i : Int) < (s.size : Int)) = true := by simp; omega
          have hd2 : decide (i < s.size) = true := by simp; omega
          have HLT := hid hlt
          have hiw : IntKind.i64.wrap ((i : Int) + 1) = ((i + 1 : Nat) : Int) := by rw [IntKind.wrap_i64]; have := H16.out; omega
          have HNX : Hid (let6 c = true → (s.data.toList.take (i + 1)).all (lets14.contains ·) = true) := hid (fun h => by rw [HST.out, HI.out, HLC.out, h]; rfl)
          have HNO : Hid (let6 c = false → s.data.toList.all (lets14.contains ·) = false) := hid (fun h => by
            rw [List.all_eq_false]
            refine ⟨s.data.toList.getD i 0, ?_, by rw [HLC.out, h]; decide⟩
            rw [List.getD_eq_getElem?_getD, List.getElem?_eq_getElem (by rw [HL.out]; exact hlt)]
            exact List.getElem_mem _)
          clear hc hlt
          by_cases c1 : c < 97
          · have e1 : decide ((c : Int) < 97) = true := by simp; omega
            by_cases c2 : c < 48
            · have e2 : decide ((c : Int) < 48) = true := by simp; omega
              by_cases c3 : c = 45
              · have e3 : ((c : Int) != 45) = false := by rw [c3]; rfl
                have e3' : (c != 45) = false := by rw [c3]; rfl
                have HN := hid (HNX.out (by rw [c3]; rfl))
                clear c1 c2 c3
                go_wp2_with fail
                go_roundg (gk - 1)
                case measure => have := HLT.out; omega
                case rel => exact ⟨i + 1, by go_num, HLT.out, by omega, HW, HN⟩
              · have e3 : ((c : Int) != 45) = true := by simp; omega
                have e3' : (c != 45) = true := by simp; omega
                have HN := hid (HNO.out (by unfold let6; simp; omega))
                clear c1 c2 c3
                go_wp2_with fail
                go_ret
                exact ⟨by rw [HN.out]; rfl, by rw [HW.out]; exact Kept.refl _ _⟩
            · have e2 : decide ((c : Int) < 48) = false := by simp; omega
              by_cases c3 : 57 < c
              · have e3 : decide ((57 : Int) < (c : Int)) = true := by simp; omega
                have e4 : ((c : Int) != 45) = true := by simp; omega
                have e4' : (c != 45) = true := by simp; omega
                have HN := hid (HNO.out (by unfold let6; simp; omega))
                clear c1 c2 c3
                go_wp2_with fail
                go_ret
                exact ⟨by rw [HN.out]; rfl, by rw [HW.out]; exact Kept.refl _ _⟩
              · have e3 : decide ((57 : Int) < (c : Int)) = false := by simp; omega
                have HN := hid (HNX.out (by unfold let6; simp; omega))
                clear c1 c2 c3
                go_wp2_with fail
                go_roundg (gk - 1)
                case measure => have := HLT.out; omega
                case rel => exact ⟨i + 1, by go_num, HLT.out, by omega, HW, HN⟩
          · have e1 : decide ((c : Int) < 97) = false := by simp; omega
            by_cases c2 : 122 < c
            · have e2 : decide ((122 : Int) < (c : Int)) = true := by simp; omega
              have e3 : decide ((c : Int) < 48) = false := by simp; omega
              have e4 : decide ((57 : Int) < (c : Int)) = true := by simp; omega
              have e5 : ((c : Int) != 45) = true := by simp; omega
              have e5' : (c != 45) = true := by simp; omega
              have HN := hid (HNO.out (by unfold let6; simp; omega))
              clear c1 c2
              go_wp2_with fail
              go_ret
              exact ⟨by rw [HN.out]; rfl, by rw [HW.out]; exact Kept.refl _ _⟩
            · have e2 : decide ((122 : Int) < (c : Int)) = false := by simp; omega
              have HN := hid (HNX.out (by unfold let6; simp; omega))
              clear c1 c2
              go_wp2_with fail
              go_roundg (gk - 1)
              case measure => have := HLT.out; omega
              case rel => exact ⟨i + 1, by go_num, HLT.out, by omega, HW, HN⟩
        · have hd1 : decide ((i : Int) < (s.size : Int)) = false := by simp; omega
          have hd2 : decide (i < s.size) = false := by simp; omega
          have HE : Hid (s.data.toList.all (lets14.contains ·) = true) := hid (by
            have h9 := HI.out
            rw [List.take_of_length_le (by rw [HL.out]; omega)] at h9
            exact h9)
          clear hlt
          go_wp2_with fail
          go_ret
          exact ⟨by rw [HE.out]; rfl, by rw [HW.out]; exact Kept.refl _ _⟩

end Go.Proofs.YtfhfnkhiomahfaaGreatDoor

/-
  Layer 16, the reference: parts, value, mac.
-/
namespace Go.Proofs.YtfhfnkhiomahfaaGreatDoor
open Go.RowKit Go.Shelf

def stE (s : ByteArray) : List Value := [.string s]
theorem stE_ok : EncOk stE 1 := ⟨fun _ => rfl, fun x u hu => by simp [stE] at hu; rw [hu]; rfl, by decide⟩
theorem Tryz.infoStr16 : (Tryz.prog.info? 9).map (fun i => (i.zero, i.size, i.bytes)) = some (some (.string ⟨#[]⟩), 1, 16) := by kernel_rfl

theorem cellsAt_st (w : World) (s : ByteArray) : CellsAt (w.alloc (.cells #[.string s] 9)) ⟨w.heap.size, 0, none⟩ ([s].flatMap stE) := by
  intro j u hu
  have hb := Blk.new w #[.string s] 9
  match j with
  | 0 =>
    simp [stE] at hu
    subst hu
    exact hb.cell 0
  | j + 1 => simp [stE] at hu

theorem ext_data (s : ByteArray) (a b : Nat) : (s.extract a b).data.toList = (s.data.toList.drop a).take (b - a) := by
  simp [ByteArray.data_extract]

/-- What parts has found. -/
def PtI (l : List UInt8) (i f : Nat) (D : List ByteArray) : Prop :=
  (i ≤ l.length ∧ f ≤ i ∧ splC l = D.map (·.data.toList) ++ splC (l.drop f) ∧ 46 ∉ (l.drop f).take (i - f)) ∨ (i = l.length + 1 ∧ splC l = D.map (·.data.toList))

theorem PtI.cut {s : ByteArray} {i f : Nat} {D : List ByteArray} (h : PtI s.data.toList i f D) (hi : i ≤ s.data.toList.length) (hc : i = s.data.toList.length ∨ s.data.toList.getD i 0 = 46) : PtI s.data.toList (i + 1) (i + 1) (D ++ [s.extract f i]) := by
  rcases h with ⟨_, hf, he, hn⟩ | ⟨e, _⟩
  · by_cases hl : i = s.data.toList.length
    · right
      refine ⟨by omega, ?_⟩
      have h1 : (s.data.toList.drop f).take (i - f) = s.data.toList.drop f := List.take_of_length_le (by rw [List.length_drop]; omega)
      rw [h1] at hn
      rw [he, List.map_append, List.map_cons, List.map_nil, ext_data, h1, splC_one hn]
    · have hlt : i < s.data.toList.length := by omega
      have hc' : s.data.toList[i] = 46 := by
        rcases hc with e | e
        · exact absurd e hl
        · rw [List.getD_eq_getElem?_getD, List.getElem?_eq_getElem hlt] at e
          exact e
      left
      refine ⟨by omega, Nat.le_refl _, ?_, by simp⟩
      have h2 : s.data.toList.drop f = (s.data.toList.drop f).take (i - f) ++ 46 :: s.data.toList.drop (i + 1) := by
        have h3 := (List.take_append_drop (i - f) (s.data.toList.drop f)).symm
        rw [List.drop_drop, show f + (i - f) = i by omega, List.drop_eq_getElem_cons hlt, hc'] at h3
        exact h3
      have h4 : splC (s.data.toList.drop f) = (s.data.toList.drop f).take (i - f) :: splC (s.data.toList.drop (i + 1)) := by
        conv => lhs; rw [h2]
        exact splC_app hn
      rw [he, h4, List.map_append, List.map_cons, List.map_nil, ext_data]
      simp
  · omega

theorem PtI.go {l : List UInt8} {i f : Nat} {D : List ByteArray} (h : PtI l i f D) (hi : i < l.length) (hc : ¬ l.getD i 0 = 46) : PtI l (i + 1) f D := by
  rcases h with ⟨_, hf, he, hn⟩ | ⟨e, _⟩
  · left
    refine ⟨by omega, by omega, he, ?_⟩
    rw [show i + 1 - f = (i - f) + 1 by omega, List.take_add_one, List.getElem?_drop, show f + (i - f) = i by omega, List.getElem?_eq_getElem hi]
    rw [List.getD_eq_getElem?_getD, List.getElem?_eq_getElem hi] at hc
    simp only [Option.getD_some] at hc
    intro hm
    rcases List.mem_append.1 hm with hm | hm
    · exact hn hm
    · simp at hm; exact hc hm.symm
  · omega

set_option maxRecDepth 100000 in
set_option maxHeartbeats 1000000 in
theorem rparts_any (w : World) (s : ByteArray) (hs : s.size ≤ 1000) : Calls Tryz.prog 34 #[.string s] w fun e w' => ∃ v D, e = .returned v ∧ RowC w.heap.size 9 1 stE w' v D ∧ D.map (·.data.toList) = splC s.data.toList ∧ Same w w' := by
  have hL : s.data.toList.length = s.size := Array.length_toList
  have HL := hid hL
  have HS := hid hs
  clear hs hL
  go_enter Tryz.func34, Tryz.ntmps34
  go_wp2_with fail
  go_loopg [3, 4, 5] (s.size + 1) (fun qq z3 z4 z5 wr => ∃ (i f : Nat) (D : List ByteArray) (a : Option Addr) (n c : Nat), z5 = .int .i64 (i : Nat) ∧ z4 = .int .i64 (f : Nat) ∧ z3 = .slice a n c ∧ s.size + 1 - i ≤ qq ∧ i ≤ s.size + 1 ∧ f ≤ i ∧ Hid (PtI s.data.toList i f D ∧ RowC w.heap.size 9 1 stE wr (.slice a n c) D ∧ Same w wr ∧ D.length ≤ i))
  case atStart => exact ⟨0, 0, [], none, 0, 0, rfl, rfl, rfl, by omega, by omega, by omega, hid ⟨.inl ⟨Nat.zero_le _, Nat.le_refl _, by simp, by simp⟩, RowC.nil, Kept.refl _ _, by simp⟩⟩
  case round =>
    obtain ⟨i, f, D, a, n, c, rfl, rfl, rfl, hq, hi, hf, HI⟩ := hrel
    by_cases hle : i ≤ s.size
    · have d1 : decide ((i : Int) ≤ (s.size : Int)) = true := by simp; omega
      have d2 : decide (i ≤ s.size) = true := by simp; omega
      have hiw : IntKind.i64.wrap ((i : Int) + 1) = ((i + 1 : Nat) : Int) := by rw [IntKind.wrap_i64]; have := HS.out; omega
      by_cases hcut : i = s.size ∨ s.data.toList.getD i 0 = 46
      · have HNX := hid (HI.out.1.cut (by rw [HL.out]; exact hle) (by rw [HL.out]; exact hcut))
        have b1 : (f : Int) ≤ (i : Int) := by omega
        have b2 : (i : Int) ≤ (s.size : Int) := by omega
        have b3 : (0 : Int) ≤ (f : Int) := by omega
        have HLE : Hid (i ≤ s.size) := hle
        obtain ⟨pt, hpt⟩ : ∃ p, p = s.extract f i := ⟨_, rfl⟩
        rw [← hpt] at HNX
        have hpt' : s.extract f i = pt := hpt.symm
        clear hpt
        by_cases he : i = s.size
        case' pos =>
          have e1 : ((i : Int) == (s.size : Int)) = true := by simp; omega
          have e2 : (i == s.size) = true := by simp; omega
          clear he hle hcut
        case' neg =>
          have e1 : ((i : Int) == (s.size : Int)) = false := by simp; omega
          have e2 : (i == s.size) = false := by simp; omega
          have hix := fun W => str_index s i (by omega) W
          have h46 : (s.data.toList.getD i 0).toNat = 46 := by
            rcases hcut with e | e
            · exact absurd e he
            · rw [e]; rfl
          rw [h46] at hix
          clear he hle hcut h46
        all_goals
          go_wp2_with (at_builtin; refine wpList_append_c _ stE 1 stE_ok (by decide) w.heap.size 41 9 (.string ⟨#[]⟩) 16 Tryz.underlying41 Tryz.infoStr16 rfl (by decide) rfl (.tmp 22) (.tmp 27) rfl (.slice a n c) D rfl (HI.out.2.1.kept (show Same _ _ from (Kept.refl _ _).alloc _) (fun _ _ f => f)) ⟨wr.heap.size, 0, none⟩ 1 1 [pt] rfl rfl (cellsAt_st _ pt) (by have := HI.out.2.2.2; have := HS.out; have := HLE.out; simp only [List.length_singleton]; omega) (by have := HI.out.2.2.1.size; simp; omega) ?_; intro v5 w5 hr5 hg5; have HR5 : Hid (RowC w.heap.size 9 1 stE w5 v5 (D ++ [pt]) ∧ Same w w5) := hid ⟨hr5, Same.then (HI.out.2.2.1.alloc _) ((Kept.refl (fun k => (Value.slice a n c).ownBlock = some k) _).grown hg5 (fun k e => .inl e)) (fun k hk e => by have h9 := RowC.ge HI.out.2.1 e; omega)⟩; clear hr5 hg5)
          obtain ⟨a5, n5, c5, e5⟩ : ∃ a n c, v5 = Value.slice a n c := by obtain ⟨a, c, e, _⟩ := HR5.out.1.shape; exact ⟨a, _, c, e⟩
          subst e5
          go_wp2_with fail
          go_roundg (gk - 1)
          case measure => have := HLE.out; omega
          case rel => exact ⟨i + 1, i + 1, D ++ [pt], a5, n5, c5, by go_num, by go_num, rfl, by have := HLE.out; omega, by have := HLE.out; omega, Nat.le_refl _, hid ⟨HNX.out, HR5.out.1, HR5.out.2, by have := HI.out.2.2.2; simp; omega⟩⟩
      · have hlt : i < s.size := by
          by_cases e : i = s.size
          · exact absurd (.inl e) hcut
          · omega
        have hno : ¬ s.data.toList.getD i 0 = 46 := fun e => hcut (.inr e)
        have HNX := hid (HI.out.1.go (by rw [HL.out]; exact hlt) hno)
        have e1 : ((i : Int) == (s.size : Int)) = false := by simp; omega
        have e2 : (i == s.size) = false := by simp; omega
        have hix := fun W => str_index s i hlt W
        obtain ⟨x, hx⟩ : ∃ x, x = (s.data.toList.getD i 0).toNat := ⟨_, rfl⟩
        have hx46 : x ≠ 46 := fun e => hno (UInt8.toNat_inj.1 (by rw [← hx, e]; rfl))
        have e3 : ((x : Int) == 46) = false := by simp; omega
        have e4 : (x == 46) = false := by simp; omega
        rw [← hx] at hix
        have HLT := hid hlt
        clear hx hx46 hno hlt hcut hle
        go_wp2_with fail
        go_roundg (gk - 1)
        case measure => have := HLT.out; omega
        case rel => exact ⟨i + 1, f, D, a, n, c, by go_num, rfl, rfl, by have := HLT.out; omega, by have := HLT.out; omega, by omega, hid ⟨HNX.out, HI.out.2.1, HI.out.2.2.1, by have := HI.out.2.2.2; omega⟩⟩
    · have d1 : decide ((i : Int) ≤ (s.size : Int)) = false := by simp; omega
      have d2 : decide (i ≤ s.size) = false := by simp; omega
      have HE : Hid (D.map (·.data.toList) = splC s.data.toList) := hid (by
        rcases HI.out.1 with ⟨h1, _⟩ | ⟨_, h1⟩
        · rw [HL.out] at h1; exact absurd h1 hle
        · exact h1.symm)
      clear hle
      go_wp2_with fail
      go_ret
      exact ⟨_, D, rfl, HI.out.2.1, HE.out, HI.out.2.2.1⟩

theorem valF_take (l : List UInt8) (i : Nat) (hi : i < l.length) : valF 0 (l.take (i + 1)) = valF 0 (l.take i) * 10 + ((l.getD i 0).toNat - 48) := by
  unfold valF
  rw [List.take_add_one, List.foldl_append, List.getD_eq_getElem?_getD, List.getElem?_eq_getElem hi]
  rfl

theorem valF_small (l : List UInt8) (h : ∀ c ∈ l, isD c) : valF 0 l < 10 ^ l.length := by
  suffices H : ∀ (l : List UInt8) (a : Nat), (∀ c ∈ l, isD c) → valF a l < (a + 1) * 10 ^ l.length by
    have := H l 0 h
    simpa using this
  intro l
  induction l with
  | nil => intro a _; simp [valF]
  | cons c r ih =>
    intro a hd
    have hc := hd c (by simp)
    have h1 := ih (a * 10 + (c.toNat - 48)) (fun x hx => hd x (by simp [hx]))
    show valF (a * 10 + (c.toNat - 48)) r < _
    refine Nat.lt_of_lt_of_le h1 ?_
    rw [List.length_cons, Nat.pow_succ, Nat.mul_comm (10 ^ r.length) 10, ← Nat.mul_assoc]
    exact Nat.mul_le_mul_right _ (by have := hc.2; omega)

theorem valR_bad {l : List UInt8} (h : ¬ (l ≠ [] ∧ l.length ≤ 10 ∧ (l.length ≤ 1 ∨ l.head? ≠ some 48) ∧ ∀ c ∈ l, 48 ≤ c.toNat ∧ c.toNat ≤ 57)) : valR l = -1 := by unfold valR; rw [if_neg h]

theorem head_getD (l : List UInt8) (h : 0 < l.length) : l.head? = some (l.getD 0 0) := by
  cases l with
  | nil => simp at h
  | cons a r => rfl

set_option maxRecDepth 100000 in
set_option maxHeartbeats 1000000 in
theorem rvalue_any (w : World) (s : ByteArray) : Calls Tryz.prog 35 #[.string s] w fun e w' => e = .returned (.int .i64 (valR s.data.toList)) ∧ w' = w := by
  have hL : s.data.toList.length = s.size := Array.length_toList
  have HL := hid hL
  by_cases h1 : s.size < 1
  · have b1 : decide ((s.size : Int) < 1) = true := by simp; omega
    have hv := valR_bad (l := s.data.toList) (fun h => h.1 (List.eq_nil_of_length_eq_zero (by omega)))
    rw [hv]
    clear hL h1 hv
    go_enter Tryz.func35, Tryz.ntmps35
    go_wp2_with fail
    go_ret
    exact ⟨rfl, rfl⟩
  · have b1 : decide ((s.size : Int) < 1) = false := by simp; omega
    by_cases h10 : 10 < s.size
    · have b2 : decide ((10 : Int) < (s.size : Int)) = true := by simp; omega
      have hv := valR_bad (l := s.data.toList) (fun h => by have := h.2.1; omega)
      rw [hv]
      clear hL h1 h10 hv
      go_enter Tryz.func35, Tryz.ntmps35
      go_wp2_with fail
      go_ret
      exact ⟨rfl, rfl⟩
    · have b2 : decide ((10 : Int) < (s.size : Int)) = false := by simp; omega
      have hix0 := fun W => str_index s 0 (by omega) W
      obtain ⟨x0, hx0⟩ : ∃ x, x = (s.data.toList.getD 0 0).toNat := ⟨_, rfl⟩
      have hhd := head_getD s.data.toList (by omega)
      rw [← hx0] at hix0
      have hix0' : ∀ W, (Instr.index 9 (.string s) (.int .i64 0)).run Tryz.prog W = .ok (.int .u8 (x0 : Nat)) W := hix0
      clear hix0
      by_cases hz : 1 < s.size ∧ x0 = 48
      · have b3 : decide ((1 : Int) < (s.size : Int)) = true := by simp; omega
        have b4 : ((x0 : Int) == 48) = true := by simp; omega
        have b5 : (x0 == 48) = true := by simp; omega
        have hv := valR_bad (l := s.data.toList) (fun h => by
          rcases h.2.2.1 with e | e
          · omega
          · exact e (by rw [hhd]; congr 1; exact UInt8.toNat_inj.1 (by rw [← hx0, hz.2]; rfl)))
        rw [hv]
        clear hL h1 h10 hv hx0 hhd hz
        go_enter Tryz.func35, Tryz.ntmps35
        go_wp2_with fail
        go_ret
        exact ⟨rfl, rfl⟩
      · have d3 : decide ((1 : Int) < (s.size : Int)) = false ∨ (decide ((1 : Int) < (s.size : Int)) = true ∧ ((x0 : Int) == 48) = false ∧ (x0 == 48) = false) := by
          by_cases e : 1 < s.size
          · exact .inr ⟨by simp; omega, by simp; omega, by simp; omega⟩
          · exact .inl (by simp; omega)
        have HH : Hid (s.data.toList.length ≤ 1 ∨ s.data.toList.head? ≠ some 48) := hid (by
          by_cases e : 1 < s.size
          · right
            rw [hhd]
            intro e2
            injection e2 with e2
            exact hz ⟨e, by rw [hx0, e2]; rfl⟩
          · left; omega)
        have HS : Hid (1 ≤ s.size ∧ s.size ≤ 10) := hid (by omega)
        have HVR : Hid ((∀ c ∈ s.data.toList, isD c) → valR s.data.toList = (valF 0 s.data.toList : Nat)) := hid (fun hd => by unfold valR; rw [if_pos ⟨fun e => by rw [e] at hL; simp at hL; omega, by omega, HH.out, hd⟩])
        have HVB : Hid ((∃ c ∈ s.data.toList, ¬ isD c) → valR s.data.toList = -1) := hid (fun ⟨c, hc, hd⟩ => valR_bad (fun h => hd (h.2.2.2 c hc)))
        clear hL h1 h10 hx0 hhd hz
        go_enter Tryz.func35, Tryz.ntmps35
        rcases d3 with d3 | ⟨d3, d4, d5⟩
        all_goals
          go_wp2_with fail
          go_loopg [3, 4] s.size (fun qq z3 z4 wr => ∃ (i v : Nat), z4 = .int .i64 (i : Nat) ∧ z3 = .int .i64 (v : Nat) ∧ i ≤ s.size ∧ s.size - i ≤ qq ∧ Hid (v = valF 0 (s.data.toList.take i) ∧ (∀ c ∈ s.data.toList.take i, isD c) ∧ v < 100000000000) ∧ Hid (wr = w))
          case atStart => exact ⟨0, 0, rfl, rfl, by omega, by omega, hid ⟨rfl, fun c hc => (by cases hc), by omega⟩, hid rfl⟩
          case round =>
            obtain ⟨i, v, rfl, rfl, hi, hiq, HI, HW⟩ := hrel
            by_cases hlt : i < s.size
            · have e1 : decide ((i : Int) < (s.size : Int)) = true := by simp; omega
              have e2 : decide (i < s.size) = true := by simp; omega
              have hix := fun W => str_index s i hlt W
              have hiw : IntKind.i64.wrap ((i : Int) + 1) = ((i + 1 : Nat) : Int) := by rw [IntKind.wrap_i64]; have := HS.out; omega
              have HVT := hid (valF_take s.data.toList i (by rw [HL.out]; exact hlt))
              have hmem : s.data.toList.getD i 0 ∈ s.data.toList := by rw [List.getD_eq_getElem?_getD, List.getElem?_eq_getElem (by rw [HL.out]; exact hlt)]; exact List.getElem_mem _
              obtain ⟨ch, hch⟩ : ∃ c, c = s.data.toList.getD i 0 := ⟨_, rfl⟩
              obtain ⟨x, hx⟩ : ∃ x, x = ch.toNat := ⟨_, rfl⟩
              rw [← hch] at hix hmem HVT
              rw [← hx] at hix HVT
              have HLT := hid hlt
              by_cases c1 : x < 48
              · have f1 : decide ((x : Int) < 48) = true := by simp; omega
                have HE := hid (HVB.out ⟨ch, hmem, fun h => by have := h.1; omega⟩)
                clear hch hx hmem hlt c1
                go_wp2_with fail
                go_ret
                exact ⟨by rw [HE.out]; rfl, HW.out⟩
              · have f1 : decide ((x : Int) < 48) = false := by simp; omega
                by_cases c2 : 57 < x
                · have f2 : decide ((57 : Int) < (x : Int)) = true := by simp; omega
                  have HE := hid (HVB.out ⟨ch, hmem, fun h => by have := h.2; omega⟩)
                  clear hch hx hmem hlt c1 c2
                  go_wp2_with fail
                  go_ret
                  exact ⟨by rw [HE.out]; rfl, HW.out⟩
                · have f2 : decide ((57 : Int) < (x : Int)) = false := by simp; omega
                  obtain ⟨y, hy⟩ : ∃ y, y = x - 48 := ⟨_, rfl⟩
                  obtain ⟨t, ht⟩ : ∃ t, t = 10 * v := ⟨_, rfl⟩
                  obtain ⟨v2, hv2⟩ : ∃ v2, v2 = t + y := ⟨_, rfl⟩
                  have hv11 := HI.out.2.2
                  have g1 : (x : Int) - 48 = (y : Int) := by omega
                  have g2 : IntKind.u8.wrap (y : Int) = (y : Int) := by rw [IntKind.wrap_u8]; omega
                  have g2' : IntKind.i64.wrap (y : Int) = (y : Int) := by rw [IntKind.wrap_i64]; omega
                  have g3 : (10 : Int) * (v : Int) = (t : Int) := by omega
                  have g4 : IntKind.i64.wrap (t : Int) = (t : Int) := by rw [IntKind.wrap_i64]; omega
                  have g5 : (t : Int) + (y : Int) = (v2 : Int) := by omega
                  have g6 : IntKind.i64.wrap (v2 : Int) = (v2 : Int) := by rw [IntKind.wrap_i64]; omega
                  have HT1 : Hid (s.data.toList.take (i + 1) = s.data.toList.take i ++ [ch]) := hid (by rw [List.take_add_one, List.getElem?_eq_getElem (by rw [HL.out]; exact hlt), hch, List.getD_eq_getElem?_getD, List.getElem?_eq_getElem (by rw [HL.out]; exact hlt)]; rfl)
                  have HDs : Hid (∀ c ∈ s.data.toList.take (i + 1), isD c) := hid (fun c hc => by
                    rw [HT1.out] at hc
                    rcases List.mem_append.1 hc with hc | hc
                    · exact HI.out.2.1 c hc
                    · rw [List.mem_singleton] at hc; rw [hc]; exact ⟨by omega, by omega⟩)
                  have HNX : Hid (v2 = valF 0 (s.data.toList.take (i + 1)) ∧ (∀ c ∈ s.data.toList.take (i + 1), isD c) ∧ v2 < 100000000000) := hid (by
                    have hvv : v2 = valF 0 (s.data.toList.take (i + 1)) := by rw [HVT.out, ← HI.out.1]; omega
                    refine ⟨hvv, HDs.out, ?_⟩
                    have h9 := valF_small _ HDs.out
                    rw [← hvv] at h9
                    refine Nat.lt_of_lt_of_le h9 (Nat.le_trans (Nat.pow_le_pow_right (by decide) (show (s.data.toList.take (i + 1)).length ≤ 11 by rw [List.length_take, HL.out]; have := HS.out; omega)) (by decide)))
                  clear hch hx hmem hlt c1 c2 hy ht hv2 hv11
                  go_wp2_with fail
                  go_roundg (gk - 1)
                  case measure => have := HLT.out; omega
                  case rel => exact ⟨i + 1, v2, by go_num, rfl, HLT.out, by omega, HNX, HW⟩
            · have e1 : decide ((i : Int) < (s.size : Int)) = false := by simp; omega
              have e2 : decide (i < s.size) = false := by simp; omega
              have HE : Hid (valR s.data.toList = (v : Nat)) := hid (by
                have h9 := HI.out
                rw [List.take_of_length_le (by rw [HL.out]; omega)] at h9
                rw [HVR.out h9.2.1, ← h9.1])
              clear hlt
              go_wp2_with fail
              go_ret
              exact ⟨by rw [HE.out]; rfl, HW.out⟩

def hexB (c : Nat) : Bool := (decide (48 ≤ c) && decide (c ≤ 57)) || (decide (97 ≤ c) && decide (c ≤ 102))

theorem hexB_fin : ∀ n : Fin 256, hexs.contains (UInt8.ofNat n.val) = hexB n.val := by decide +kernel

theorem hexB_is (b : UInt8) : hexs.contains b = hexB b.toNat := by
  have := hexB_fin ⟨b.toNat, b.toNat_lt⟩
  simpa using this

set_option maxRecDepth 100000 in
set_option maxHeartbeats 1000000 in
theorem rmacB_any (w : World) (s : ByteArray) : Calls Tryz.prog 36 #[.string s] w fun e w' => e = .returned (.bool (isM s.data.toList)) ∧ w' = w := by
  have hL : s.data.toList.length = s.size := Array.length_toList
  have HL := hid hL
  by_cases h : s.size = 64
  · have b1 : ((s.size : Int) != 64) = false := by rw [h]; rfl
    have b2 : (s.size != 64) = false := by rw [h]; rfl
    have b1' : ((s.size : Int) == 64) = true := by rw [h]; rfl
    have b2' : (s.size == 64) = true := by rw [h]; rfl
    have HZ := hid h
    have HM : Hid (isM s.data.toList = s.data.toList.all (hexs.contains ·)) := hid (by unfold isM; rw [decide_eq_true (by rw [hL, h])]; rfl)
    clear hL h
    go_enter Tryz.func36, Tryz.ntmps36
    go_wp2_with fail
    go_loopg [3] 64 (fun qq z3 wr => ∃ i : Nat, z3 = .int .i64 (i : Nat) ∧ i ≤ 64 ∧ 64 - i ≤ qq ∧ Hid (wr = w) ∧ Hid ((s.data.toList.take i).all (hexs.contains ·) = true))
    case atStart => exact ⟨0, rfl, by omega, by omega, hid rfl, hid rfl⟩
    case round =>
      obtain ⟨i, rfl, hi, hiq, HW, HI⟩ := hrel
      by_cases hlt : i < 64
      · have hix := fun W => str_index s i (by rw [HZ.out]; exact hlt) W
        have HST := hid (take_all_succ (l := s.data.toList) (i := i) (by rw [HL.out, HZ.out]; exact hlt) (hexs.contains ·))
        obtain ⟨c, hc⟩ : ∃ c, c = (s.data.toList.getD i 0).toNat := ⟨_, rfl⟩
        have HLC : Hid (hexs.contains (s.data.toList.getD i 0) = hexB c) := hid (by rw [hc]; exact hexB_is _)
        rw [← hc] at hix
        have hd1 : decide ((i : Int) < 64) = true := by simp; omega
        have HLT := hid hlt
        have hiw : IntKind.i64.wrap ((i : Int) + 1) = ((i + 1 : Nat) : Int) := by rw [IntKind.wrap_i64]; omega
        have HNX : Hid (hexB c = true → (s.data.toList.take (i + 1)).all (hexs.contains ·) = true) := hid (fun h => by rw [HST.out, HI.out, HLC.out, h]; rfl)
        have HNO : Hid (hexB c = false → isM s.data.toList = false) := hid (fun h => by
          rw [HM.out, List.all_eq_false]
          refine ⟨s.data.toList.getD i 0, ?_, by rw [HLC.out, h]; decide⟩
          rw [List.getD_eq_getElem?_getD, List.getElem?_eq_getElem (by rw [HL.out, HZ.out]; exact hlt)]
          exact List.getElem_mem _)
        clear hc hlt b1 b2 b1' b2'
        by_cases c1 : c < 48
        · have e1 : decide ((c : Int) < 48) = true := by simp; omega
          have e2 : decide ((c : Int) < 97) = true := by simp; omega
          have HN := hid (HNO.out (by unfold hexB; simp; omega))
          clear c1
          go_wp2_with fail
          go_ret
          exact ⟨by rw [HN.out]; rfl, HW.out⟩
        · have e1 : decide ((c : Int) < 48) = false := by simp; omega
          by_cases c2 : 57 < c
          · have e2 : decide ((57 : Int) < (c : Int)) = true := by simp; omega
            by_cases c3 : c < 97
            · have e3 : decide ((c : Int) < 97) = true := by simp; omega
              have HN := hid (HNO.out (by unfold hexB; simp; omega))
              clear c1 c2 c3
              go_wp2_with fail
              go_ret
              exact ⟨by rw [HN.out]; rfl, HW.out⟩
            · have e3 : decide ((c : Int) < 97) = false := by simp; omega
              by_cases c4 : 102 < c
              · have e4 : decide ((102 : Int) < (c : Int)) = true := by simp; omega
                have HN := hid (HNO.out (by unfold hexB; simp; omega))
                clear c1 c2 c3 c4
                go_wp2_with fail
                go_ret
                exact ⟨by rw [HN.out]; rfl, HW.out⟩
              · have e4 : decide ((102 : Int) < (c : Int)) = false := by simp; omega
                have HN := hid (HNX.out (by unfold hexB; simp; omega))
                clear c1 c2 c3 c4
                go_wp2_with fail
                go_roundg (gk - 1)
                case measure => have := HLT.out; omega
                case rel => exact ⟨i + 1, by go_num, HLT.out, by omega, HW, HN⟩
          · have e2 : decide ((57 : Int) < (c : Int)) = false := by simp; omega
            have HN := hid (HNX.out (by unfold hexB; simp; omega))
            clear c1 c2
            go_wp2_with fail
            go_roundg (gk - 1)
            case measure => have := HLT.out; omega
            case rel => exact ⟨i + 1, by go_num, HLT.out, by omega, HW, HN⟩
      · obtain rfl : i = 64 := by omega
        have hd1 : decide ((64 : Int) < 64) = false := by decide
        have HE : Hid (isM s.data.toList = true) := hid (by
          have h9 := HI.out
          rw [List.take_of_length_le (by rw [HL.out, HZ.out]; exact Nat.le_refl _)] at h9
          rw [HM.out, h9])
        clear hlt b1 b2 b1' b2'
        go_wp2_with fail
        go_ret
        exact ⟨by rw [HE.out]; rfl, HW.out⟩
  · have b1 : ((s.size : Int) != 64) = true := by simp; omega
    have b2 : (s.size != 64) = true := by simpa using h
    have b1' : ((s.size : Int) == 64) = false := by simp; omega
    have b2' : (s.size == 64) = false := by simpa using h
    have hm : isM s.data.toList = false := by unfold isM; rw [decide_eq_false (by rw [hL]; exact h)]; rfl
    rw [hm]
    clear hL h hm
    go_enter Tryz.func36, Tryz.ntmps36
    go_wp2_with fail
    go_ret
    exact ⟨rfl, rfl⟩

end Go.Proofs.YtfhfnkhiomahfaaGreatDoor

/-
  The reference's schedule.
-/
namespace Go.Proofs.YtfhfnkhiomahfaaGreatDoor
open Go.RowKit

set_option maxRecDepth 100000 in
set_option maxHeartbeats 1000000 in
theorem rsched_any (w : World) (v : Value) (I : Nat → Prop) (b : List Nat) (hs : Src w I v b) (hI : ∀ k, I k → k < w.heap.size) (hb : ∀ x ∈ b, x < 256) (hl : b.length = 64) :
    Calls Tryz.prog 114 #[v] w fun e w' => e = .returned (.agg ((schW b).map wordV).toArray) ∧ Same w w' := by
  obtain ⟨ao, cap, rfl, hc⟩ := id hs
  obtain ⟨bb, o, rfl, hIb, hcell⟩ := hc (by intro e; rw [e] at hl; simp at hl)
  have HCL : Hid (∀ j, j < 64 → w.cell? ⟨bb, o + j, none⟩ = some (.int .u8 (b.getD j 0 : Nat))) := hid (fun j hj => by
    have h := hcell j (by omega)
    rw [h, List.getD_eq_getElem?_getD, List.getElem?_eq_getElem (by omega)]
    rfl)
  have hbb := hI bb hIb
  have HB := hid hb
  rw [hl]
  clear hs hc hcell hIb hI hb hl
  go_enter Tryz.func114, Tryz.ntmps114
  go_wp2_with (first
    | (with_reducible refine at_alloc 153 2 ?_; refine wpl_alloc 153 _ Tryz.zero64 ?_; intro w2 g2 hB2 hk2 hg2 hl2; have HB2 := hid hB2; have HK2 := hid hk2; clear hB2 hk2)
    | (with_reducible refine at_alloc 153 3 ?_; refine wpl_alloc 153 _ Tryz.zero64 ?_; intro w3 g3 hB3 hk3 hg3 hl3; have HB3 := hid hB3; have HK3 := hid hk3; clear hB3 hk3))
  have HK13 : Hid (Same w w3) := hid (HK2.out.trans HK3.out)
  have HB23 : Hid (Blk w3 g2 ((List.replicate 64 0).map wordV).toArray 153) := hid (HB2.out.kept HK3.out (fun f => f))
  have hg23 : g2 < g3 := by omega
  have hbg : bb ≠ g3 := by omega
  have hgw : w.heap.size ≤ g2 := by omega
  have HC3 : Hid (∀ j, j < 64 → w3.cell? ⟨bb, o + j, none⟩ = some (.int .u8 (b.getD j 0 : Nat))) := hid (fun j hj => HK13.out.cell (HCL.out j hj) (fun f => f))
  clear HB2 HK2 HK3 HCL hl3 hg3 hl2 hg2 hbb
  have HB0 : Hid (Blk w3 g3 ((accB b (4 * 0)).map wordV).toArray 153) := HB3
  clear HB3
  go_loopg [4, 5] 16 (fun k z _ wr => ∃ i : Nat, i ≤ 16 ∧ 16 - i ≤ k ∧ z = .int .i64 (i : Nat) ∧ Hid (Blk wr g3 ((accB b (4 * i)).map wordV).toArray 153) ∧ Hid (Kept (· = g3) w3 wr))
  case atStart => exact ⟨0, by omega, by omega, rfl, HB0, hid (Kept.refl _ _)⟩
  case round =>
    obtain ⟨i, hi, hik, rfl, HBi, HKi⟩ := hrel
    clear HB0
    by_cases hlt : i < 16
    · have HB4 : Hid (Blk wr g3 ((accB b (4 * i + 0)).map wordV).toArray 153) := HBi
      obtain ⟨gk0, hgk0⟩ : ∃ g, g = gk := ⟨_, rfl⟩
      subst hgk0
      clear HBi
      go_wp2_with fail
      go_loopg [5] 4 (fun k z wr => ∃ n : Nat, n ≤ 4 ∧ 4 - n ≤ k ∧ z = .int .i64 (n : Nat) ∧ Hid (Blk wr g3 ((accB b (4 * i + n)).map wordV).toArray 153) ∧ Hid (Kept (· = g3) w3 wr))
      case atStart => exact ⟨0, by omega, by omega, rfl, HB4, HKi⟩
      case round =>
        clear HB4 HKi
        obtain ⟨n, hn, hnk, rfl, HBn, HKn⟩ := hrel
        by_cases hlt2 : n < 4
        · obtain ⟨j, hj⟩ : ∃ j, j = 4 * i + n := ⟨_, rfl⟩
          obtain ⟨f, hf⟩ : ∃ f, f = 4 * i := ⟨_, rfl⟩
          have hji : j / 4 = i := by omega
          have hj64 : j < 64 := by omega
          have cb := HKn.out.cell (HC3.out j hj64) hbg
          have cw := HBn.out.wcell i (by rw [accB_length]; omega)
          have fw := HBn.out.frozen i
          rw [← hj] at cw
          have hy2 : (accB b j).getD i 0 < 16777216 := by have h := accB_get b HB.out j hj64; rw [hji] at h; exact h
          obtain ⟨x, hxe⟩ : ∃ x, x = b.getD j 0 := ⟨_, rfl⟩
          have hx2 : x < 256 := by rw [hxe]; exact getD_byte HB.out j
          obtain ⟨y, hye⟩ : ∃ y, y = (accB b j).getD i 0 := ⟨_, rfl⟩
          rw [← hxe] at cb
          rw [← hye] at cw hy2
          obtain ⟨y2, hy3⟩ : ∃ z, z = y * 256 := ⟨_, rfl⟩
          obtain ⟨z, hz⟩ : ∃ z, z = y * 256 + x := ⟨_, rfl⟩
          have HZ : Hid (accB b (4 * i + (n + 1)) = (accB b j).set i z) := hid (by rw [show 4 * i + (n + 1) = j + 1 by omega, accB, hji, ← hxe, ← hye, hz])
          rw [← hj] at HBn
          have m1 : 256 * (y : Int) = (y2 : Int) := by omega
          have m2 : IntKind.u32.wrap (y2 : Int) = (y2 : Int) := by rw [IntKind.wrap_u32']; omega
          have m3 : (y2 : Int) + (x : Int) = (z : Int) := by omega
          have m4 : IntKind.u32.wrap (z : Int) = (z : Int) := by rw [IntKind.wrap_u32']; omega
          have s1 : 4 * (i : Int) = (f : Int) := by omega
          have s2 : (f : Int) + (n : Int) = (j : Int) := by omega
          have w1 : IntKind.i64.wrap (f : Int) = (f : Int) := wrap_nat15 f (by omega)
          have w2 : IntKind.i64.wrap (j : Int) = (j : Int) := wrap_nat15 j (by omega)
          have p1 : (0 : Int) ≤ (i : Int) := by omega
          have p2 : (i : Int) < 64 := by omega
          have p3 : (0 : Int) ≤ (j : Int) := by omega
          have p4 : (j : Int) < 64 := by omega
          have p5 : (0 : Int) ≤ (x : Int) := by omega
          clear hj hf hji hxe hye hy3 hz hy2
          go_wp2_with fail
          go_region
          go_wp2_with fail
          go_roundg (gk - 1)
          case measure => omega
          case rel =>
            refine ⟨n + 1, by omega, by omega, by go_num, ?_, hid ((HKn.out.setCell _ _ (.inl rfl)).drew)⟩
            rw [HZ.out]
            exact hid (HBn.out.wset i z)
        · have hn4 : n = 4 := by omega
          subst hn4
          go_wp2_with fail
          go_roundg (gk0 - 1)
          case measure => omega
          case rel => exact ⟨i + 1, by omega, by omega, by go_num, by rw [show 4 * (i + 1) = 4 * i + 4 by omega]; exact HBn, HKn⟩
    · have hin : i = 16 := by omega
      subst hin
      rw [show 4 * 16 = 64 from rfl, accB_64] at HBi
      go_wp2_with fail
      go_loopg [6, 7, 8, 9, 10] 48 (fun k z _ _ _ _ wx => ∃ m : Nat, m ≤ 48 ∧ 48 - m ≤ k ∧ z = .int .i64 ((16 + m : Nat) : Int) ∧ Hid (Blk wx g3 ((extA b m).map wordV).toArray 153) ∧ Hid (Kept (· = g3) w3 wx))
      case atStart => exact ⟨0, by omega, by omega, rfl, HBi, HKi⟩
      case round =>
        clear HBi HKi
        obtain ⟨m, hm, hmk, rfl, HBm, HKm⟩ := hrel
        obtain ⟨j, hj⟩ : ∃ j, j = 16 + m := ⟨_, rfl⟩
        rw [← hj]
        by_cases hlt2 : m < 48
        · have hcj := HBm.out.wcell j (by rw [extA_length b m hm]; omega)
          have hfj := HBm.out.frozen j
          have HCE : Hid (∀ k, k < 16 + m → ∀ W, Same wr W → W.cell? ⟨g3, k, none⟩ = some (.int .u32 ((extW m (wdsB b 16)).getD k 0 : Nat))) := hid (fun k hk W hW => by
            have c := HBm.out.wcell k (by rw [extA_length b m hm]; omega)
            rw [extA_get b m _ hk] at c
            exact hW.cell c (fun f => f))
          have HJC : Hid (∀ W, Same wr W → Blk W g3 ((extA b m).map wordV).toArray 153) := hid (fun W hW => HBm.out.kept hW (fun f => f))
          have c15 := HCE.out (m + 1) (by omega) wr (Kept.refl _ _)
          have c2 := HCE.out (m + 14) (by omega) wr (Kept.refl _ _)
          have hwd := extW_wds (wdsB_wds b HB.out 16) m
          have v15 := hwd.get (m + 1)
          have v2 := hwd.get (m + 14)
          have hnx : nxW (extW m (wdsB b 16)) = add3 (add3 (add3 ((extW m (wdsB b 16)).getD m 0) (earF ((extW m (wdsB b 16)).getD (m + 1) 0))) ((extW m (wdsB b 16)).getD (m + 9) 0)) (latF ((extW m (wdsB b 16)).getD (m + 14) 0)) := by
            unfold nxW
            rw [extW_len, show 16 + m - 16 = m by omega, show 16 + m - 15 = m + 1 by omega, show 16 + m - 7 = m + 9 by omega, show 16 + m - 2 = m + 14 by omega]
          have HC16 := hid (HCE.out m (by omega))
          have HC7 := hid (HCE.out (m + 9) (by omega))
          have HNX := hid hnx
          obtain ⟨x16, hx16⟩ : ∃ x, x = (extW m (wdsB b 16)).getD m 0 := ⟨_, rfl⟩
          obtain ⟨x15, hx15⟩ : ∃ x, x = (extW m (wdsB b 16)).getD (m + 1) 0 := ⟨_, rfl⟩
          obtain ⟨x7, hx7⟩ : ∃ x, x = (extW m (wdsB b 16)).getD (m + 9) 0 := ⟨_, rfl⟩
          obtain ⟨x2, hx2⟩ : ∃ x, x = (extW m (wdsB b 16)).getD (m + 14) 0 := ⟨_, rfl⟩
          rw [← hx16, ← hx15, ← hx7, ← hx2] at HNX
          rw [← hx16] at HC16
          rw [← hx7] at HC7
          rw [← hx15] at c15 v15
          rw [← hx2] at c2 v2
          have HE := hid (ear_i x15 v15)
          have HLt := hid (lat_i x2 v2)
          obtain ⟨m1, hm1⟩ : ∃ x, x = m + 1 := ⟨_, rfl⟩
          obtain ⟨m9, hm9⟩ : ∃ x, x = m + 9 := ⟨_, rfl⟩
          obtain ⟨m14, hm14⟩ : ∃ x, x = m + 14 := ⟨_, rfl⟩
          rw [← hm1] at c15
          rw [← hm9] at HC7
          rw [← hm14] at c2
          have j16 : (j : Int) - 16 = (m : Int) := by omega
          have j15 : (j : Int) - 15 = (m1 : Int) := by omega
          have j7 : (j : Int) - 7 = (m9 : Int) := by omega
          have j2 : (j : Int) - 2 = (m14 : Int) := by omega
          have jj : j < 64 := by omega
          have k16 : m < 64 := by omega
          have k15 : m1 < 64 := by omega
          have k7 : m9 < 64 := by omega
          have k2 : m14 < 64 := by omega
          have p16 : (0 : Int) ≤ (m : Int) := by omega
          have p7 : (0 : Int) ≤ (m9 : Int) := by omega
          have pj : (0 : Int) ≤ (j : Int) := by omega
          have q16 : (m : Int) < 64 := by omega
          have q7 : (m9 : Int) < 64 := by omega
          have qj : (j : Int) < 64 := by omega
          have w16 : IntKind.i64.wrap (m : Int) = (m : Int) := wrap_nat15 m (by omega)
          have w7 : IntKind.i64.wrap (m9 : Int) = (m9 : Int) := wrap_nat15 m9 (by omega)
          have HJ : Hid (j = 16 + m) := hid hj
          have HM := hid hm
          have H1 := fun W => rturn_any W x15 7 v15 (by omega) (by omega)
          have H2 := fun W => rturn_any W x15 18 v15 (by omega) (by omega)
          have H3 := fun W => rturn_any W x2 17 v2 (by omega) (by omega)
          have H4 := fun W => rturn_any W x2 19 v2 (by omega) (by omega)
          clear hj hm1 hm9 hm14 hwd hnx hx16 hx15 hx7 hx2 v15 v2 HCE hcj hfj
          go_wp2_with fail
          refine (H1 _).mono ?_
          rintro e w5 ⟨rfl, q5, rfl⟩
          go_wp2_with fail
          refine (H2 _).mono ?_
          rintro e w6 ⟨rfl, q6, rfl⟩
          go_wp2_with fail
          refine (H3 _).mono ?_
          rintro e w7 ⟨rfl, q7', rfl⟩
          go_wp2_with fail
          refine (H4 _).mono ?_
          rintro e w8 ⟨rfl, q8, rfl⟩
          obtain ⟨w9, hw9⟩ : ∃ W, W = (wr.drewN (q5 + q6 + q7')).drewN q8 := ⟨_, rfl⟩
          have HK9 : Hid (Same wr w9) := hid (by rw [hw9]; exact ((Kept.refl _ wr).drewN _).drewN _)
          rw [← hw9, HE.out]
          clear hw9 H1 H2 H3 H4 c15 c2
          have d16 := HC16.out w9 HK9.out
          have d7 := HC7.out w9 HK9.out
          have hcj := (HJC.out w9 HK9.out).wcell j (by rw [extA_length b m HM.out]; omega)
          have hfj := (HJC.out w9 HK9.out).frozen j
          obtain ⟨e15, he15⟩ : ∃ x, x = earF x15 := ⟨_, rfl⟩
          obtain ⟨l2, hl2⟩ : ∃ x, x = latF x2 := ⟨_, rfl⟩
          rw [← he15, ← hl2] at HNX
          rw [← hl2] at HLt
          rw [← he15]
          have a1 : IntKind.u32.wrap ((x16 : Int) + (e15 : Int)) = ((add3 x16 e15 : Nat) : Int) := by unfold add3; rw [IntKind.wrap_u32']; omega
          obtain ⟨t1, ht1⟩ : ∃ x, x = add3 x16 e15 := ⟨_, rfl⟩
          have a2 : IntKind.u32.wrap ((t1 : Int) + (x7 : Int)) = ((add3 t1 x7 : Nat) : Int) := by unfold add3; rw [IntKind.wrap_u32']; omega
          obtain ⟨t2, ht2⟩ : ∃ x, x = add3 t1 x7 := ⟨_, rfl⟩
          have a3 : IntKind.u32.wrap ((t2 : Int) + (l2 : Int)) = ((add3 t2 l2 : Nat) : Int) := by unfold add3; rw [IntKind.wrap_u32']; omega
          obtain ⟨t3, ht3⟩ : ∃ x, x = add3 t2 l2 := ⟨_, rfl⟩
          rw [← ht1] at a1 HNX
          rw [← ht2] at a2 HNX
          rw [← ht3] at a3 HNX
          have hlt' := HLt.out
          clear he15 hl2 ht1 ht2 ht3
          go_wp2_with fail
          go_region
          go_wp2_with fail
          go_roundg (gk - 1)
          case measure => omega
          case rel =>
            refine ⟨m + 1, by omega, by omega, by rw [show 16 + (m + 1) = j + 1 by have := HJ.out; omega]; go_num, ?_, hid (((Kept.trans HKm.out HK9.out (fun _ _ e => e) (fun _ _ f => f.elim)).setCell _ _ (.inl rfl)).drew)⟩
            rw [← extA_next b m hlt2, HNX.out, ← HJ.out]
            exact hid ((HJC.out w9 HK9.out).wset j t3)
        · have hm48 : m = 48 := by omega
          subst hm48
          have hj64 : j = 64 := by omega
          subst hj64
          rw [extA_48] at HBm
          have HSL : Hid ((schW b).length = 64) := hid (schW_wds b HB.out).1
          clear hj
          go_wp2_with (first
            | (with_reducible refine at_load 153 77 ?_; refine wpl_load 153 64 _ Tryz.underlying153 rfl Tryz.size64 rfl HBm.out ((schW b).map wordV) (by simp [HSL.out]) (take_all15 (by simp [HSL.out])) ?_)
            | (with_reducible refine at_store 153 2 ?_; refine wpl_store 153 64 Tryz.size64 rfl (cells := (schW b).map wordV) rfl (HB23.out.kept HKm.out (by omega)) (by simp) (by simp [HSL.out]) (wordV_one _) ?_; intro w9 hB9 hk9 hs9; have HB9 := hid hB9; have HK9 := hid hk9; clear hB9 hk9 hs9))
          refine bodyPost_ret (results_cell15 rfl 64 _ Tryz.underlying153 rfl Tryz.size64 _ rfl HB9.out (by simp [HSL.out])) rfl ?_
          exact ⟨rfl, (HK13.out.then HKm.out (fun x hx e => by omega)).then HK9.out (fun x hx e => by omega)⟩

end Go.Proofs.YtfhfnkhiomahfaaGreatDoor

/-
  The reference's k and block.
-/
namespace Go.Proofs.YtfhfnkhiomahfaaGreatDoor
open Go.RowKit

set_option maxRecDepth 100000 in
theorem Tryz.builtK (w : World) : (Instr.build 153 (kL.zipIdx.map fun (x, i) => (i, Value.int .u32 (x : Nat))).toArray).run Tryz.prog w = .ok (.agg (kL.map wordV).toArray) w := by kernel_rfl

set_option maxRecDepth 100000 in
theorem builtK_at (a : Act) (w : World) (parts : Array (Nat × Operand)) (hp : parts = (kL.zipIdx.map fun (x, i) => (i, Operand.const (.int .u32 (x : Nat)))).toArray) : (Instr.build 153 (parts.map fun (i, x) => (i, a.eval x))).run Tryz.prog w = .ok (.agg (kL.map wordV).toArray) w := by
  have e : (parts.map fun (i, x) => (i, a.eval x)) = (kL.zipIdx.map fun (x, i) => (i, Value.int .u32 (x : Nat))).toArray := by
    rw [hp, List.map_toArray, List.map_map]
    rfl
  rw [e]
  exact Tryz.builtK w

set_option maxRecDepth 100000 in
set_option maxHeartbeats 400000 in
theorem rk_any (w : World) : Calls Tryz.prog 115 #[] w fun e w' => e = .returned (.agg (kL.map wordV).toArray) ∧ Same w w' := by
  go_enter Tryz.func115, Tryz.ntmps115
  go_wp2_with (first
    | (with_reducible refine at_alloc 153 0 ?_; refine wpl_alloc 153 _ Tryz.zero64 ?_; intro w2 g2 hB2 hk2 hg2 hl2; have HB2 := hid hB2; have HK2 := hid hk2; clear hB2 hk2)
    | (with_reducible refine at_build 153 ?_; refine wpl_build 153 (.agg (kL.map wordV).toArray) (builtK_at _ _ _ (by kernel_rfl)) ?_)
    | (with_reducible refine at_store 153 0 ?_; refine wpl_store 153 64 Tryz.size64 rfl (cells := kL.map wordV) rfl HB2.out (by simp) (by simp [kL_wds.len]) (wordV_one _) ?_; intro w9 hB9 hk9 hs9; have HB9 := hid hB9; have HK9 := hid hk9; clear hB9 hk9 hs9))
  refine bodyPost_ret (results_cell15 rfl 64 _ Tryz.underlying153 rfl Tryz.size64 _ rfl HB9.out (by simp [kL_wds.len])) rfl ?_
  exact ⟨rfl, HK2.out.then HK9.out (fun x hx e => by omega)⟩

theorem sumW_comm (x y : List Nat) : sumW x y = sumW y x := by
  unfold sumW
  refine List.map_congr_left (fun i _ => ?_)
  unfold add3
  rw [Nat.add_comm]

theorem tsum_i (h wi ch k w : Nat) : (((h : Int) + (wi : Int) + (ch : Int) + (k : Int)) % 4294967296 + (w : Int)) % 4294967296 = ((add3 (add3 (add3 (add3 h wi) ch) k) w : Nat) : Int) := by
  unfold add3
  omega

/-- A round's eight words, read and written as an array. -/
theorem blk_L {w : World} {g : Nat} {s : S8} {t : TypeId} (h : Blk w g (s.L.map wordV).toArray t) : w.cell? ⟨g, 0, none⟩ = some (.int .u32 (s.a : Nat)) ∧ w.cell? ⟨g, 1, none⟩ = some (.int .u32 (s.b : Nat)) ∧ w.cell? ⟨g, 2, none⟩ = some (.int .u32 (s.c : Nat)) ∧ w.cell? ⟨g, 3, none⟩ = some (.int .u32 (s.d : Nat)) ∧
    w.cell? ⟨g, 4, none⟩ = some (.int .u32 (s.e : Nat)) ∧ w.cell? ⟨g, 5, none⟩ = some (.int .u32 (s.f : Nat)) ∧ w.cell? ⟨g, 6, none⟩ = some (.int .u32 (s.g : Nat)) ∧ w.cell? ⟨g, 7, none⟩ = some (.int .u32 (s.h : Nat)) :=
  ⟨h.wcell 0 (by simp [S8.L]), h.wcell 1 (by simp [S8.L]), h.wcell 2 (by simp [S8.L]), h.wcell 3 (by simp [S8.L]), h.wcell 4 (by simp [S8.L]), h.wcell 5 (by simp [S8.L]), h.wcell 6 (by simp [S8.L]), h.wcell 7 (by simp [S8.L])⟩

set_option maxRecDepth 100000 in
set_option maxHeartbeats 1000000 in
theorem rblock_any (w : World) (hs : List Nat) (v : Value) (I : Nat → Prop) (b : List Nat) (hw : Wds 8 hs) (hsrc : Src w I v b) (hI : ∀ k, I k → k < w.heap.size) (hb : ∀ x ∈ b, x < 256) (hl : b.length = 64) :
    Calls Tryz.prog 91 #[.agg (hs.map wordV).toArray, v] w fun e w' => e = .returned (.agg ((mixF hs b).map wordV).toArray) ∧ Same w w' := by
  have HW := hid hw
  have HS := hid hsrc
  have HI := hid hI
  have HB := hid hb
  have HL := hid hl
  have HSW := hid (schW_wds b hb)
  clear hw hsrc hI hb hl
  go_enter Tryz.func91, Tryz.ntmps91
  go_wp2_with (first
    | (with_reducible refine at_box 125 ?_; refine wpl_box 125 (hs.map wordV).toArray rfl ?_; intro w1 g1 hB1 hk1 hg1 hl1; have HB1 := hid hB1; have HK1 := hid hk1; clear hB1 hk1)
    | (with_reducible refine at_alloc 125 4 ?_; refine wpl_alloc 125 _ Tryz.zeroW8 ?_; intro w2 g2 hB2 hk2 hg2 hl2; have HB2 := hid hB2; have HK2 := hid (HK1.out.trans hk2); have HB12 := hid (HB1.out.kept hk2 (fun f => f)); clear hB2 hk2))
  have hsz2 := HK2.out.size
  have hsz1 := HK1.out.size
  refine (rsched_any w2 v I b (HS.out.kept HK2.out (fun _ _ _ f => f)) (fun k hk => by have := HI.out k hk; omega) HB.out HL.out).mono ?_
  rintro e w3 ⟨rfl, hk3⟩
  have HK3 := hid hk3
  have hsz3 := hk3.size
  clear hk3
  go_wp2_with (first
    | (with_reducible refine at_alloc 153 5 ?_; refine wpl_alloc 153 _ Tryz.zero64 ?_; intro w4 g4 hB4 hk4 hg4 hl4; have HB4 := hid hB4; have HK4 := hid hk4; clear hB4 hk4)
    | (with_reducible refine at_store 153 5 ?_; refine wpl_store 153 64 Tryz.size64 rfl (cells := (schW b).map wordV) rfl HB4.out (by simp) (by simp [HSW.out.len]) (wordV_one _) ?_; intro w5 hB5 hk5 hs5; have HB5 := hid hB5; have HK5 : Hid (Same w2 w5) := hid ((HK3.out.trans HK4.out).then hk5 (fun x hx e => by omega)); clear hB5 hk5 HB4 HK4))
  have hl5 : g4 < w5.heap.size := by omega
  have hsz5 : w2.heap.size ≤ w5.heap.size := HK5.out.size
  clear hs5 hl4
  refine (rk_any w5).mono ?_
  rintro e w6 ⟨rfl, hk6⟩
  have HK6 := hid hk6
  have hsz6 := hk6.size
  clear hk6
  go_wp2_with (first
    | (with_reducible refine at_alloc 153 6 ?_; refine wpl_alloc 153 _ Tryz.zero64 ?_; intro w7 g7 hB7 hk7 hg7 hl7; have HB7 := hid hB7; have HK7 := hid hk7; clear hB7 hk7)
    | (with_reducible refine at_store 153 6 ?_; refine wpl_store 153 64 Tryz.size64 rfl (cells := kL.map wordV) rfl HB7.out (by simp) (by simp [kL_wds.len]) (wordV_one _) ?_; intro w8 hB8 hk8 hs8; have HB8 := hid hB8; have HK8 : Hid (Same w5 w8) := hid ((HK6.out.trans HK7.out).then hk8 (fun x hx e => by omega)); have hl8 : g7 < w8.heap.size := (by omega); clear hB8 hk8 HB7 HK7 hs8)
    | (with_reducible refine at_load 125 17 ?_; refine wpl_load 125 8 _ Tryz.underlying125 rfl Tryz.sizeW8 rfl ((HB12.out.kept HK5.out (fun f => f)).kept HK8.out (fun f => f)) (hs.map wordV) (by simp [HW.out.len]) (take_all15 (by simp [HW.out.len])) ?_)
    | (with_reducible refine at_alloc 125 7 ?_; refine wpl_alloc 125 _ Tryz.zeroW8 ?_; intro w9 g9 hB9 hk9 hg9 hl9; have HB9 := hid hB9; have HK9 := hid hk9; clear hB9 hk9)
    | (with_reducible refine at_store 125 7 ?_; refine wpl_store 125 8 Tryz.sizeW8 rfl (cells := hs.map wordV) rfl HB9.out (by simp) (by simp [HW.out.len]) (wordV_one _) ?_; intro w10 hB10 hk10 hs10; have HB10 := hid hB10; have HK10 : Hid (Same w8 w10) := hid (HK9.out.then hk10 (fun x hx e => by omega)); clear hB10 hk10 HB9 HK9 hs10))
  have HB1x := hid (((HB12.out.kept HK5.out (fun f => f)).kept HK8.out (fun f => f)).kept HK10.out (fun f => f))
  have HB2x := hid (((HB2.out.kept HK5.out (fun f => f)).kept HK8.out (fun f => f)).kept HK10.out (fun f => f))
  have HBW := hid ((HB5.out.kept HK8.out (fun f => f)).kept HK10.out (fun f => f))
  have HBK := hid (HB8.out.kept HK10.out (fun f => f))
  have HKW : Hid (Same w w10) := hid (((HK2.out.trans HK5.out).trans HK8.out).trans HK10.out)
  have hsz8 := HK8.out.size
  have n1 : g1 ≠ g9 := by omega
  have n2 : g2 ≠ g9 := by omega
  have n3 : g4 ≠ g9 := by omega
  have n4 : g7 ≠ g9 := by omega
  have n5 : w.heap.size ≤ g9 := by omega
  have n6 : w.heap.size ≤ g2 := by omega
  clear HB1 HB12 HB2 HB5 HB8 HK1 HK2 HK3 HK5 HK6 HK8 HK10 hsz1 hsz2 hsz3 hsz5 hsz6 hsz8 hl1 hl2 hl5 hl7 hl8 hl9 hg1 hg2 hg4 hg7 hg9
  obtain ⟨s0, hs0⟩ : ∃ s0, s0 = S8.of hs := ⟨_, rfl⟩
  have HS0 := hid hs0
  have HOK : Hid (∀ i, (rnds s0 (schW b) i).Ok) := hid (fun i => rnds_ok (by rw [hs0]; exact S8.of_ok HW.out) _ i)
  have HB0 : Hid (Blk w10 g9 ((rnds s0 (schW b) 0).L.map wordV).toArray 125) := hid (by show Blk w10 g9 (s0.L.map wordV).toArray _; rw [hs0, S8.of_L HW.out.len]; exact HB10.out)
  clear hs0 HB10
  obtain ⟨V, hV⟩ : ∃ V : Value, V = .agg (hs.map wordV).toArray := ⟨_, rfl⟩
  obtain ⟨V2, hV2⟩ : ∃ V : Value, V = .agg ((schW b).map wordV).toArray := ⟨_, rfl⟩
  obtain ⟨V3, hV3⟩ : ∃ V : Value, V = .agg (kL.map wordV).toArray := ⟨_, rfl⟩
  rw [← hV, ← hV2, ← hV3]
  clear hV hV2 hV3
  go_loopg [8, 9, 10, 11, 12] 64 (fun k z _ _ _ _ wr => ∃ i : Nat, i ≤ 64 ∧ 64 - i ≤ k ∧ z = .int .i64 (i : Nat) ∧ Hid (Blk wr g9 ((rnds s0 (schW b) i).L.map wordV).toArray 125) ∧ Hid (Kept (· = g9) w10 wr))
  case atStart => exact ⟨0, by omega, by omega, rfl, HB0, hid (Kept.refl _ _)⟩
  case round =>
    clear HB0
    obtain ⟨i, hi, hik, rfl, HBi, HKi⟩ := hrel
    obtain ⟨s, hs'⟩ : ∃ s, s = rnds s0 (schW b) i := ⟨_, rfl⟩
    have HSS := hid hs'
    rw [← hs'] at HBi
    clear hs'
    by_cases hlt : i < 64
    · have hok := HOK.out i
      rw [← HSS.out] at hok
      have HCC := hid (fun (W : World) (hW : Same wr W) => blk_L (HBi.out.kept hW (fun f => f)))
      have HCT := hid (fun (W : World) (hW : Same wr W) => ((HBK.out.kept HKi.out n4).kept hW (fun f => f)).wcell i (by rw [kL_wds.len]; exact hlt))
      have HCW := hid (fun (W : World) (hW : Same wr W) => ((HBW.out.kept HKi.out n3).kept hW (fun f => f)).wcell i (by rw [HSW.out.len]; exact hlt))
      have HRN : Hid (rnds s0 (schW b) (i + 1) = rnd s (kL.getD i 0) ((schW b).getD i 0)) := hid (by rw [rnds, ← HSS.out])
      unfold rnd at HRN
      obtain ⟨kk, hkk⟩ : ∃ x, x = kL.getD i 0 := ⟨_, rfl⟩
      obtain ⟨ww, hww⟩ : ∃ x, x = (schW b).getD i 0 := ⟨_, rfl⟩
      rw [← hkk] at HCT HRN
      rw [← hww] at HCW HRN
      clear hkk hww
      obtain ⟨oa, ob, oc, od, oe, of_, og, oh⟩ := hok
      obtain ⟨sa, sb, sc, sd, se, sf, sg, sh⟩ := s
      simp only [] at oa ob oc od oe of_ og oh
      obtain ⟨x0, x1, x2, x3, x4, x5, x6, x7⟩ := HCC.out wr (Kept.refl _ _)
      try simp only [] at x0 x1 x2 x3 x4 x5 x6 x7
      have ck := HCT.out wr (Kept.refl _ _)
      have cw := HCW.out wr (Kept.refl _ _)
      have p1 : (0 : Int) ≤ (i : Int) := by omega
      have p2 : (i : Int) < 64 := by omega
      go_wp2_with fail
      go_quiet (first
        | (go_at_call 116; exact Calls.quiet_of (rturn_any _ se _ oe (by decide) (by decide))))
      rw [show (if IntKind.u32.signed = true then (-1 : Int) else IntKind.u32.max) = IntKind.u32.max from rfl, wid_i se oe, cho_i se sf sg oe of_ og, tsum_i]
      obtain ⟨tt, htt⟩ : ∃ x, x = add3 (add3 (add3 (add3 sh (widF se)) (choF se sf sg)) kk) ww := ⟨_, rfl⟩
      rw [← htt]
      obtain ⟨w7, hw7⟩ : ∃ w7, w7 = wr.drewN nq := ⟨_, rfl⟩
      rw [← hw7]
      have HK7 : Hid (Same wr w7) := hid (by rw [hw7]; exact (Kept.refl _ _).drewN _)
      clear hw7 x0 x1 x2 x3 x4 x5 x6 x7 ck cw
      obtain ⟨x0, x1, x2, x3, x4, x5, x6, x7⟩ := HCC.out w7 HK7.out
      try simp only [] at x0 x1 x2 x3 x4 x5 x6 x7
      have HTT := hid htt
      clear htt
      go_wp2_with fail
      go_quiet (first
        | (go_at_call 116; exact Calls.quiet_of (rturn_any _ sa _ oa (by decide) (by decide))))
      rw [nar_i sa oa, mos_i sa sb sc oa ob oc, add_m (narF sa) (mosF sa sb sc)]
      obtain ⟨uu, huu⟩ : ∃ x, x = add3 (narF sa) (mosF sa sb sc) := ⟨_, rfl⟩
      rw [← huu]
      have HUU := hid huu
      obtain ⟨w8, hw8⟩ : ∃ w8, w8 = w7.drewN nq := ⟨_, rfl⟩
      rw [← hw8]
      have HK8 : Hid (Same wr w8) := hid (by rw [hw8]; exact HK7.out.drewN _)
      clear hw8 x0 x1 x2 x3 x4 x5 x6 x7 huu
      obtain ⟨x0, x1, x2, x3, x4, x5, x6, x7⟩ := HCC.out w8 HK8.out
      try simp only [] at x0 x1 x2 x3 x4 x5 x6 x7
      have HNL : Hid ((rnds s0 (schW b) (i + 1)).L.map wordV = [.int .u32 (((tt : Int) + (uu : Int)) % 4294967296), .int .u32 (sa : Nat), .int .u32 (sb : Nat), .int .u32 (sc : Nat), .int .u32 (((sd : Int) + (tt : Int)) % 4294967296), .int .u32 (se : Nat), .int .u32 (sf : Nat), .int .u32 (sg : Nat)]) := hid (by
        rw [HRN.out, add_m, add_m, HTT.out, HUU.out]
        rfl)
      have HNB : Hid (Blk w8 g9 ((⟨sa, sb, sc, sd, se, sf, sg, sh⟩ : S8).L.map wordV).toArray 125) := hid (HBi.out.kept HK8.out (fun f => f))
      go_wp2_with (first
        | (with_reducible refine at_store 125 7 ?_; refine wpl_store 125 8 Tryz.sizeW8 rfl (cells := [.int .u32 (((tt : Int) + (uu : Int)) % 4294967296), .int .u32 (sa : Nat), .int .u32 (sb : Nat), .int .u32 (sc : Nat), .int .u32 (((sd : Int) + (tt : Int)) % 4294967296), .int .u32 (se : Nat), .int .u32 (sf : Nat), .int .u32 (sg : Nat)]) rfl HNB.out rfl rfl (by rw [← HNL.out]; exact wordV_one _) ?_; intro w9 hB9 hk9 hs9; have HB9 : Hid (Blk w9 g9 ((rnds s0 (schW b) (i + 1)).L.map wordV).toArray 125) := hid (by rw [HNL.out]; exact hB9); have HK9 := hid hk9; clear hB9 hk9 hs9))
      go_roundg (gk - 1)
      case measure => omega
      case rel => exact ⟨i + 1, by omega, by omega, by go_num, HB9, hid (Kept.trans (Kept.trans HKi.out HK8.out (fun _ _ e => e) (fun _ _ f => f.elim)) HK9.out (fun _ _ e => e) (fun _ _ e => e))⟩
    · have hin : i = 64 := by omega
      subst hin
      have HML : Hid (mixF hs b = sumW s.L hs) := hid (by unfold mixF; rw [HSS.out, HS0.out]; exact sumW_comm _ _)
      have HB7 : Hid (Blk wr g9 ((sumA s.L hs 0).map wordV).toArray 125) := hid (by
        have e : sumA s.L hs 0 = s.L := by simp [sumA]
        rw [e]; exact HBi.out)
      have HSLL : Hid (s.L.length = 8) := hid rfl
      clear HBi HOK
      go_wp2_with fail
      go_loopg [13] 8 (fun k z wr => ∃ i : Nat, i ≤ 8 ∧ 8 - i ≤ k ∧ z = .int .i64 (i : Nat) ∧ Hid (Blk wr g9 ((sumA s.L hs i).map wordV).toArray 125) ∧ Hid (Kept (· = g9) w10 wr))
      case atStart => exact ⟨0, by omega, by omega, rfl, HB7, HKi⟩
      case round =>
        clear HB7 HKi
        obtain ⟨i, hi, hik, rfl, HBi, HKi⟩ := hrel
        by_cases hlt : i < 8
        · have c1 := HBi.out.wcell i (by unfold sumA; rw [List.length_append, List.length_take, List.length_drop, (sumW_wds _ _).len, HSLL.out]; omega)
          have f1 := HBi.out.frozen i
          have c2 := (HB1x.out.kept HKi.out n1).wcell i (by rw [HW.out.len]; exact hlt)
          have HN : Hid (sumA s.L hs (i + 1) = (sumA s.L hs i).set i (add3 (s.L.getD i 0) (hs.getD i 0))) := hid (sumA_next s.L hs i hlt HSLL.out).symm
          rw [sumA_get s.L hs i hlt] at c1
          obtain ⟨x, hxe⟩ : ∃ x, x = s.L.getD i 0 := ⟨_, rfl⟩
          obtain ⟨y, hye⟩ : ∃ x, x = hs.getD i 0 := ⟨_, rfl⟩
          rw [← hxe] at c1 HN
          rw [← hye] at c2 HN
          have hw := add_w x y
          obtain ⟨z, hz⟩ : ∃ z, z = add3 x y := ⟨_, rfl⟩
          rw [← hz] at hw HN
          have p1 : (0 : Int) ≤ (i : Int) := by omega
          have p2 : (i : Int) < 8 := by omega
          clear hxe hye hz
          go_wp2_with fail
          go_region
          go_wp2_with fail
          go_roundg (gk - 1)
          case measure => omega
          case rel =>
            refine ⟨i + 1, by omega, by omega, by go_num, ?_, hid ((HKi.out.setCell _ _ (.inl rfl)).drew)⟩
            have h9 := HBi.out.wset i z
            rw [← HN.out] at h9
            exact hid h9
        · have hin : i = 8 := by omega
          subst hin
          rw [sumA_8 _ _ HSLL.out, ← HML.out] at HBi
          go_wp2_with (first
            | (with_reducible refine at_load 125 113 ?_; refine wpl_load 125 8 _ Tryz.underlying125 rfl Tryz.sizeW8 rfl HBi.out ((mixF hs b).map wordV) (by simp [(mixF_wds hs b).len]) (take_all15 (by simp [(mixF_wds hs b).len])) ?_)
            | (with_reducible refine at_store 125 4 ?_; refine wpl_store 125 8 Tryz.sizeW8 rfl (cells := (mixF hs b).map wordV) rfl (HB2x.out.kept HKi.out n2) (by simp) (by simp [(mixF_wds hs b).len]) (wordV_one _) ?_; intro w9 hB9 hk9 hs9; have HB9 := hid hB9; have HK9 := hid hk9; clear hB9 hk9 hs9))
          refine bodyPost_ret (results_cell15 rfl 8 _ Tryz.underlying125 rfl Tryz.sizeW8 _ rfl HB9.out (by simp [(mixF_wds hs b).len])) rfl ?_
          exact ⟨rfl, (HKW.out.then HKi.out (fun x hx e => by omega)).then HK9.out (fun x hx e => by omega)⟩

end Go.Proofs.YtfhfnkhiomahfaaGreatDoor

/-
  The reference's padded.
-/
namespace Go.Proofs.YtfhfnkhiomahfaaGreatDoor
open Go.RowKit

/-- The last m bytes of a number of N bytes, noughts ahead. -/
def bkF (x N m : Nat) : List Nat := List.replicate (N - m) 0 ++ (beB x N).drop (N - m)

theorem bkF_length (x N m : Nat) (h : m ≤ N) : (bkF x N m).length = N := by
  unfold bkF
  rw [List.length_append, List.length_replicate, List.length_drop, beB_length]
  omega

theorem bkF_zero (x N : Nat) : bkF x N 0 = List.replicate N 0 := by
  unfold bkF
  rw [Nat.sub_zero, List.drop_of_length_le (by rw [beB_length]; exact Nat.le_refl _), List.append_nil]

theorem bkF_all (x N : Nat) : bkF x N N = beB x N := by
  unfold bkF
  rw [Nat.sub_self, List.replicate_zero, List.nil_append, List.drop_zero]

theorem bkF_next (x N m : Nat) (h : m < N) : (bkF x N m).set (N - 1 - m) (x / 256 ^ m % 256) = bkF x N (m + 1) := by
  unfold bkF
  have hl := beB_length x N
  have e1 : N - m = (N - (m + 1)) + 1 := by omega
  have e2 : N - 1 - m = N - (m + 1) := by omega
  rw [e2, e1, List.replicate_succ', List.append_assoc, List.set_append_right _ _ (by simp), List.length_replicate, Nat.sub_self, List.singleton_append, List.set_cons_zero]
  congr 1
  rw [List.drop_eq_getElem_cons (i := N - (m + 1)) (by omega)]
  congr 1
  have h2 := beB_get x N (N - (m + 1)) (by omega)
  rw [List.getD_eq_getElem?_getD, List.getElem?_eq_getElem (by omega), Option.getD_some, show N - 1 - (N - (m + 1)) = m by omega] at h2
  exact h2.symm

theorem Tryz.zeroB8 : (Tryz.prog.info? 157).bind (·.zero) = some (.agg ((List.replicate 8 0).map byteV).toArray) := by kernel_rfl

set_option maxRecDepth 100000 in
set_option maxHeartbeats 1000000 in
theorem rpadded_any (w : World) (aa : Option Addr) (n ca : Nat) (b : List Nat) (ha : Arg15 w (.slice aa n ca) b) (hl : b.length = n) (hn : n ≤ 1000000000) :
    Calls Tryz.prog 90 #[.slice aa n ca] w fun e w' => ∃ v, e = .returned v ∧ Fresh w w' v (padB b) := by
  have HA := hid ha
  have HL := hid hl
  obtain ⟨Z, hZ⟩ : ∃ Z, Z = zeN n := ⟨_, rfl⟩
  have hZ64 : Z < 64 := by rw [hZ]; unfold zeN; omega
  have HZ := hid hZ
  clear ha hl hZ
  go_enter Tryz.func90, Tryz.ntmps90
  go_wp2_with (at_builtin; (first
    | (refine wpList_append_any _ rfl (.tmp 7) (.tmp 8) rfl (.slice none 0 0) [] rfl (row_none15 _) (fun k => k < w.heap.size) (.slice aa n ca) b rfl HA.out.nil HA.out.src (by have := HL.out; simp; omega) ?_; intro v4 w4 hr4 hg4 hv4; have HF4 : Hid (Fresh w w4 v4 b) := hid ⟨by simpa using hr4, (Kept.refl _ _).grown hg4 (fun k e => by cases e), fun k hk => by rcases hv4 with q | q; (rw [q] at hk; cases hk); (rw [q] at hk; cases hk; exact Nat.le_refl _)⟩; clear hr4 hg4 hv4)
    | (refine wpList_append_row _ rfl (.tmp 10) (.tmp 11) rfl v4 b rfl (World.ownsRow.alloc HF4.out.row _) ⟨w4.heap.size, 0, none⟩ 1 1 [128] rfl rfl (bytesAt_int _ _ _ (by omega)) (by have := HL.out; simp; omega) ?_; intro v5 w5 hrow hgr hv'; have HF5 : Hid (Fresh w w5 v5 (b ++ 128 :: List.replicate 0 0)) := hid (HF4.out.app hrow hgr hv'); clear hrow hgr hv')))
  obtain ⟨a5, c5, e5, _⟩ := HF5.out.row.shape
  have hl5 : (b ++ 128 :: List.replicate 0 0).length = n + 1 := by have := HL.out; simp; omega
  rw [e5, hl5] at HF5
  rw [e5, hl5]
  clear e5 hl5
  go_loopg [3] Z (fun k o wr => ∃ (i l : Nat) (a : Option Addr) (c : Nat), i ≤ Z ∧ Z - i ≤ k ∧ l = n + 1 + i ∧ o = .slice a l c ∧ Hid (Fresh w wr (.slice a l c) (b ++ 128 :: List.replicate i 0)))
  case atStart => exact ⟨0, n + 1, a5, c5, by omega, by omega, rfl, rfl, HF5⟩
  case round =>
    clear HF5
    obtain ⟨i, l, a, c, hi, hik, hl, rfl, HF⟩ := hrel
    obtain ⟨t3, ht3⟩ : ∃ t, t = l % 64 := ⟨_, rfl⟩
    have i3 : (l : Int) % 64 = (t3 : Int) := by omega
    have i4 : Int.tmod (l : Int) 64 = (t3 : Int) := by rw [Int.tmod_eq_emod_of_nonneg (by omega)]; exact i3
    have HLL := hid hl
    have b3 : l ≤ 2000000000 := by omega
    by_cases hlt : i < Z
    · have h3 : t3 ≠ 56 := by have hz := HZ.out; rw [hz] at hlt; unfold zeN at hlt; omega
      have h4 : ((t3 : Int) != 56) = true := by simp; omega
      have h5 : ((t3 : Int) == 56) = false := by simp; omega
      have HL2 : Hid ((b ++ 128 :: List.replicate i 0).length + [0].length ≤ 1000000000000) := hid (by have := HL.out; simp; omega)
      clear hl ht3
      go_wp2_with (at_builtin; refine wpList_append_row _ rfl (.tmp 17) (.tmp 18) rfl (.slice a l c) (b ++ 128 :: List.replicate i 0) rfl (World.ownsRow.alloc HF.out.row _) ⟨wr.heap.size, 0, none⟩ 1 1 [0] rfl rfl (bytesAt_int _ _ _ (by omega)) HL2.out ?_; intro v' w1 hrow hgr hv'; have HF1 : Hid (Fresh w w1 v' (b ++ 128 :: List.replicate (i + 1) 0)) := hid (by have h := HF.out.app hrow hgr hv'; rw [show b ++ 128 :: List.replicate i 0 ++ [0] = b ++ 128 :: List.replicate (i + 1) 0 by rw [List.replicate_succ', List.append_assoc]; rfl] at h; exact h); obtain ⟨a9, c9, e9, _⟩ := HF1.out.row.shape; clear hrow hgr hv')
      go_roundg (gk - 1)
      case measure => omega
      case rel =>
        have h1 := HL.out
        have h2 := HLL.out
        have h3 : (b ++ 128 :: List.replicate (i + 1) 0).length = n + 1 + (i + 1) := by simp; omega
        refine ⟨i + 1, n + 1 + (i + 1), a9, c9, by omega, by omega, rfl, ?_, ?_⟩
        · first | (rw [e9, h3]) | (simp; omega)
        · rw [e9, h3] at HF1
          exact HF1
    · have h3 : t3 = 56 := by have hz := HZ.out
                              have hiz : i = Z := by omega
                              rw [hz] at hiz
                              unfold zeN at hiz
                              omega
      have hiz : i = Z := by omega
      subst h3
      rw [hiz] at HF
      obtain ⟨L, hL⟩ : ∃ L, L = 8 * n := ⟨_, rfl⟩
      have iL : 8 * (n : Int) = (L : Int) := by omega
      have bL : L ≤ 8000000000 := by omega
      have HT : Hid (padB b = (b ++ 128 :: List.replicate Z 0) ++ beB L 8) := hid (by
        unfold padB tailB
        rw [HL.out, ← HZ.out, ← hL, List.append_assoc]
        rfl)
      clear hL ht3 hiz hlt hik hi hl
      go_wp2_with (first
        | (with_reducible refine at_alloc 157 5 ?_; refine wpl_alloc 157 _ Tryz.zeroB8 ?_; intro w6 g6 hB6 hk6 hg6 hl6; have HB6 := hid hB6; have HK6 := hid hk6; clear hB6 hk6))
      clear i3 i4
      have HB7 : Hid (Blk w6 g6 ((bkF L 8 0).map byteV).toArray 157) := hid (by rw [bkF_zero]; exact HB6.out)
      have HF7 : Hid (Fresh w w6 (.slice a l c) (b ++ 128 :: List.replicate Z 0)) := hid (HF.out.later HK6.out (fun _ f => f.elim))
      have hrs := HF.out.kept.size
      have HNB : Hid (∀ k, (Value.slice a l c).ownBlock = some k → k ≠ g6) := hid (fun k hk e => by have := HF.out.row.lt hk; omega)
      clear HB6
      go_loopg [4, 6] 8 (fun q y z wr => ∃ (k : Nat), k ≤ 8 ∧ 8 - k ≤ q ∧ z = .int .i64 (7 - (k : Int)) ∧ y = .int .i64 ((L / 256 ^ k : Nat) : Int) ∧ Hid (Blk wr g6 ((bkF L 8 k).map byteV).toArray 157) ∧ Hid (Kept (· = g6) w6 wr))
      case atStart => exact ⟨0, by omega, by omega, by rfl, by simp, HB7, hid (Kept.refl _ _)⟩
      case round =>
        clear HB7
        obtain ⟨k, hk, hkq, rfl, rfl, HBk, HKk⟩ := hrel
        by_cases hlt : k < 8
        · obtain ⟨m, hm⟩ : ∃ m, m = 7 - k := ⟨_, rfl⟩
          have e1 : 7 - (k : Int) = (m : Int) := by omega
          obtain ⟨y, hy⟩ : ∃ y, y = L / 256 ^ k := ⟨_, rfl⟩
          have hyL : y ≤ 8000000000 := by rw [hy]; exact Nat.le_trans (Nat.div_le_self _ _) bL
          have HY1 : Hid (L / 256 ^ (k + 1) = y / 256) := hid (by rw [hy, Nat.div_div_eq_div_mul, Nat.pow_succ])
          have HNX := hid (bkF_next L 8 k hlt)
          rw [← hy, show 8 - 1 - k = m by omega] at HNX
          rw [← hy, e1]
          obtain ⟨z, hz⟩ : ∃ z, z = y % 256 := ⟨_, rfl⟩
          rw [← hz] at HNX
          have z1 : (y : Int) % 256 = (z : Int) := by omega
          have z2 : Int.tmod (y : Int) 256 = (z : Int) := by rw [Int.tmod_eq_emod_of_nonneg (by omega)]; exact z1
          obtain ⟨y2, hy2⟩ : ∃ y2, y2 = y / 256 := ⟨_, rfl⟩
          have z3 : (y : Int) / 256 = (y2 : Int) := by omega
          have z256 : z < 256 := by omega
          rw [← hy2] at HY1
          have cz := HBk.out.bcell m (by rw [bkF_length _ _ _ hk]; omega)
          have fz := HBk.out.frozen m
          have p1 : (0 : Int) ≤ (m : Int) := by omega
          have p2 : (m : Int) < 8 := by omega
          have p3 : m < 8 := by omega
          have HE1 : Hid (m = 7 - k) := hid hm
          clear hm hy hz hy2 e1
          go_wp2_with fail
          go_roundg (gk - 1)
          case measure => omega
          case rel =>
            refine ⟨k + 1, by omega, by omega, by have := HE1.out; congr 1; omega, by rw [HY1.out], ?_, hid (HKk.out.setCell _ _ (.inl rfl))⟩
            have h9 := HBk.out.bset m z
            rw [HNX.out] at h9
            exact hid h9
        · have hk8 : k = 8 := by omega
          subst hk8
          rw [bkF_all] at HBk
          have HFk : Hid (Row wr (.slice a l c) (b ++ 128 :: List.replicate Z 0)) := hid (HF7.out.row.kept HKk.out (fun k hk e => HNB.out k hk e))
          have HSk := hid (src_arr HBk.out 8 (beB_length L 8))
          have HKw : Hid (Same w wr) := hid (Same.then HF7.out.kept HKk.out (fun x hx e => by omega))
          go_wp2_with (at_builtin; refine wpList_append_any _ rfl (.tmp 34) (.tmp 35) rfl (.slice a l c) (b ++ 128 :: List.replicate Z 0) rfl HFk.out (· = g6) (.slice (some ⟨g6, 0, none⟩) 8 8) (beB L 8) rfl (fun n c e => by cases e) HSk.out (by have := HL.out; rw [beB_length]; simp; omega) ?_; intro v' w9 hrow hgr hv'; have HF9 : Hid (Fresh w w9 v' (padB b)) := hid (by rw [HT.out]; exact ⟨hrow, Kept.grown HKw.out hgr (fun k e => .inr (HF7.out.new k e)), fun k hk => by rcases hv' with q | q; (rw [q] at hk; exact HF7.out.new k hk); (rw [q] at hk; cases hk; exact HKw.out.size)⟩); clear hrow hgr hv')
          go_ret
          exact ⟨_, rfl, HF9.out⟩

end Go.Proofs.YtfhfnkhiomahfaaGreatDoor

/-
  The reference's Sum.
-/
namespace Go.Proofs.YtfhfnkhiomahfaaGreatDoor
open Go.RowKit

theorem Src.mid {w : World} {I : Nat → Prop} {b o n c : Nat} {cs : List Nat} (h : Src w I (.slice (some ⟨b, o, none⟩) n c) cs) (i c' : Nat) (hi : i + 64 ≤ cs.length) : Src w I (.slice (some ⟨b, o + i, none⟩) 64 c') ((cs.drop i).take 64) := by
  obtain ⟨ao, cap, e, hcc⟩ := h
  injection e with e1 e2 e3
  obtain ⟨b', o', e4, hI, hcell⟩ := hcc (by intro q; rw [q] at hi; simp at hi)
  subst e1
  injection e4 with e5
  injection e5 with e6 e7 _
  subst e6 e7
  have hlen : ((cs.drop i).take 64).length = 64 := by simp; omega
  refine ⟨_, _, by rw [hlen], fun _ => ⟨b, o + i, rfl, hI, fun j hj => ?_⟩⟩
  rw [hlen] at hj
  have := hcell (i + j) (by omega)
  rw [Nat.add_assoc, this]
  simp

theorem wrap_nat15' (n : Nat) (h : n < 2000000000) : IntKind.i64.wrap (n : Int) = (n : Int) := by
  simp [IntKind.wrap, IntKind.bits, IntKind.signed]
  omega

/-- The digest's words while they are laid. -/
def lwF (ws : List Nat) (i : Nat) : List Nat := List.replicate i 0 ++ ws.drop i
def loF (ws : List Nat) (i : Nat) : List Nat := (digB ws).take (4 * i) ++ List.replicate (32 - 4 * i) 0
def loG (ws : List Nat) (i m : Nat) : List Nat := (digB ws).take (4 * i) ++ (bkF (ws.getD i 0) 4 m ++ List.replicate (28 - 4 * i) 0)

theorem lwF_get (ws : List Nat) (i : Nat) : (lwF ws i).getD i 0 = ws.getD i 0 := by
  unfold lwF
  rw [List.getD_eq_getElem?_getD, List.getElem?_append_right (by simp), List.length_replicate, List.getElem?_drop, List.getD_eq_getElem?_getD]
  simp

theorem lwF_length (ws : List Nat) (i : Nat) (hi : i ≤ ws.length) : (lwF ws i).length = ws.length := by
  unfold lwF
  rw [List.length_append, List.length_replicate, List.length_drop]
  omega

theorem lwF_next (ws : List Nat) (i : Nat) (hi : i < ws.length) : (lwF ws i).set i 0 = lwF ws (i + 1) := by
  unfold lwF
  rw [List.set_append_right _ _ (by simp), List.length_replicate, Nat.sub_self, List.drop_eq_getElem_cons hi, List.set_cons_zero, List.replicate_succ', List.append_assoc]
  rfl

theorem loG_zero (ws : List Nat) (i : Nat) (hi : i < 8) : loG ws i 0 = loF ws i := by
  unfold loG loF
  rw [bkF_zero, List.replicate_append_replicate]
  congr 2
  omega

theorem dig_step (ws : List Nat) (i : Nat) (hi : i < ws.length) : (digB ws).take (4 * (i + 1)) = (digB ws).take (4 * i) ++ beB (ws.getD i 0) 4 := by
  induction ws generalizing i with
  | nil => simp at hi
  | cons x l ih =>
    have hd : digB (x :: l) = beB x 4 ++ digB l := rfl
    have hl := beB_length x 4
    rw [hd]
    cases i with
    | zero =>
      rw [List.take_append_of_le_length (by omega), List.take_of_length_le (by omega)]
      simp
    | succ i =>
      have h := ih i (by simpa using hi)
      rw [show 4 * (i + 1 + 1) = (beB x 4).length + 4 * (i + 1) by rw [hl]; omega, List.take_length_add_append, h, show 4 * (i + 1) = (beB x 4).length + 4 * i by rw [hl]; omega, List.take_length_add_append, List.append_assoc]
      rfl

theorem loG_four (ws : List Nat) (i : Nat) (hi : i < ws.length) : loG ws i 4 = loF ws (i + 1) := by
  unfold loG loF
  rw [bkF_all, dig_step ws i hi, List.append_assoc]
  congr 3
  omega

theorem loG_next (ws : List Nat) (i m : Nat) (hw : ws.length = 8) (hi : i < 8) (hm : m < 4) : (loG ws i m).set (4 * i + (3 - m)) (ws.getD i 0 / 256 ^ m % 256) = loG ws i (m + 1) := by
  unfold loG
  have h1 := digB_length hw
  have h2 : ((digB ws).take (4 * i)).length = 4 * i := by rw [List.length_take]; omega
  rw [List.set_append_right _ _ (by omega), h2, show 4 * i + (3 - m) - 4 * i = 4 - 1 - m by omega, List.set_append_left _ _ (by rw [bkF_length _ _ _ (by omega)]; omega), bkF_next _ _ _ hm]

theorem loG_length (ws : List Nat) (i m : Nat) (hw : ws.length = 8) (hi : i < 8) (hm : m ≤ 4) : (loG ws i m).length = 32 := by
  unfold loG
  have h1 := digB_length hw
  rw [List.length_append, List.length_append, List.length_take, bkF_length _ _ _ hm, List.length_replicate]
  omega

theorem loF_8 (ws : List Nat) (hw : ws.length = 8) : loF ws 8 = digB ws := by
  unfold loF
  have h1 := digB_length hw
  rw [List.take_of_length_le (by omega)]
  simp

theorem Tryz.builtIv (w : World) : (Instr.build 125 (ivL.zipIdx.map fun (x, i) => (i, Value.int .u32 (x : Nat))).toArray).run Tryz.prog w = .ok (.agg (ivL.map wordV).toArray) w := by kernel_rfl

theorem builtIv_at (a : Act) (w : World) (parts : Array (Nat × Operand)) (hp : parts = (ivL.zipIdx.map fun (x, i) => (i, Operand.const (.int .u32 (x : Nat)))).toArray) : (Instr.build 125 (parts.map fun (i, x) => (i, a.eval x))).run Tryz.prog w = .ok (.agg (ivL.map wordV).toArray) w := by
  have e : (parts.map fun (i, x) => (i, a.eval x)) = (ivL.zipIdx.map fun (x, i) => (i, Value.int .u32 (x : Nat))).toArray := by
    rw [hp, List.map_toArray, List.map_map]
    rfl
  rw [e]
  exact Tryz.builtIv w

set_option maxRecDepth 100000 in
set_option maxHeartbeats 1000000 in
theorem rsum_any (w : World) (aa : Option Addr) (n ca : Nat) (b : List Nat) (ha : Arg15 w (.slice aa n ca) b) (hl : b.length = n) (hn : n ≤ 500000000) :
    Calls Tryz.prog 63 #[.slice aa n ca] w fun e w' => e = .returned (.agg ((shaF b).map byteV).toArray) ∧ Same w w' := by
  have HA := hid ha
  have HL := hid hl
  clear ha hl
  go_enter Tryz.func63, Tryz.ntmps63
  go_wp2_with (first
    | (with_reducible refine at_alloc 86 2 ?_; refine wpl_alloc 86 _ Tryz.zero32 ?_; intro w2 g2 hB2 hk2 hg2 hl2; have HB2 := hid hB2; have HK2 := hid hk2; clear hB2 hk2)
    | (with_reducible refine at_build 125 ?_; refine wpl_build 125 (.agg (ivL.map wordV).toArray) (builtIv_at _ _ _ (by kernel_rfl)) ?_)
    | (with_reducible refine at_alloc 125 3 ?_; refine wpl_alloc 125 _ Tryz.zeroW8 ?_; intro w3 g3 hB3 hk3 hg3 hl3; have HB3 := hid hB3; have HK3 := hid hk3; clear hB3 hk3)
    | (with_reducible refine at_store 125 3 ?_; refine wpl_store 125 8 Tryz.sizeW8 rfl (cells := ivL.map wordV) rfl HB3.out (by simp) (by simp [ivL_wds.len]) (wordV_one _) ?_; intro w4 hB4 hk4 hs4; have HB4 := hid hB4; have HK4 : Hid (Same w2 w4) := hid (HK3.out.then hk4 (fun x hx e => by omega)); clear hB4 hk4 HB3 HK3))
  have hl4 : g3 < w4.heap.size := by omega
  clear hs4
  refine (rpadded_any w4 aa n ca b ((HA.out.same HK2.out).same HK4.out) HL.out (by omega)).mono ?_
  rintro e w5 ⟨v5, rfl, hF5⟩
  have HF5 := hid hF5
  obtain ⟨a5, c5, e5, ha5⟩ := hF5.row.shape
  have hne : padB b ≠ [] := by unfold padB tailB; simp
  obtain ⟨g5, rfl⟩ := ha5 hne
  rw [e5] at HF5
  obtain ⟨P, hP⟩ : ∃ P, P = padB b := ⟨_, rfl⟩
  have HPM : Hid (P.length % 64 = 0) := hid (by rw [hP]; exact padB_mod b)
  have HPB : Hid (∀ x ∈ P, x < 256) := hid (by rw [hP]; intro x hx; unfold padB at hx; exact (List.mem_append.1 hx).elim (HA.out.byt x) (tailB_lt _ x))
  have HPL : Hid (P.length ≤ 1000000000) := hid (by rw [hP]; unfold padB; rw [List.length_append, tailB_length]; unfold zeN; have := HL.out; omega)
  have HSF : Hid (shaF b = digB (blkS P (P.length / 64))) := hid (by rw [hP]; rfl)
  rw [← hP] at HF5 e5
  obtain ⟨N, hN⟩ : ∃ N, N = P.length := ⟨_, rfl⟩
  rw [e5]
  rw [← hN] at HF5 HPM HPL HSF ⊢
  have HNP := hid hN
  have HCP : Hid (N ≤ c5) := hid (by have h := HF5.out.row.cap; exact h _ _ _ rfl)
  have HK5 := hid HF5.out.kept
  have HB5 := hid (HB4.out.kept HF5.out.kept (fun f => f))
  have hl5 : g3 < w5.heap.size := by have := HF5.out.kept.size; omega
  have hg53 : w4.heap.size ≤ g5 := HF5.out.new g5 rfl
  clear e5 hP hN hF5 hne HB4
  have HB0 : Hid (Blk w5 g3 ((blkS P 0).map wordV).toArray 125) := HB5
  clear HB5
  go_wp2_with fail
  go_loopg [5] (N / 64) (fun k z wr => ∃ q : Nat, 64 * q ≤ N ∧ N / 64 - q ≤ k ∧ z = .int .i64 ((64 * q : Nat) : Int) ∧ Hid (Blk wr g3 ((blkS P q).map wordV).toArray 125) ∧ Hid (Kept (· = g3) w5 wr))
  case atStart => exact ⟨0, by omega, by omega, by rfl, HB0, hid (Kept.refl _ _)⟩
  case round =>
    clear HB0
    obtain ⟨q, hq, hqk, rfl, HBq, HKq⟩ := hrel
    obtain ⟨i, hi⟩ : ∃ i, i = 64 * q := ⟨_, rfl⟩
    rw [← hi]
    by_cases hlt : i < N
    · have hi64 : i + 64 ≤ N := by have := HPM.out; omega
      have hgk1 : 1 ≤ gk := by have := HPM.out; omega
      have HSB : Hid (∀ W, Same wr W → Src W (fun k => k = g5) (.slice (some ⟨g5, i, none⟩) 64 (c5 - i)) ((P.drop i).take 64)) := hid (fun W hW => by
        have h1 := (((Src.ofRow HF5.out.row).mono (J := fun k => k = g5) (fun k hk => by cases hk; rfl)).kept HKq.out (fun k hk _ e => by omega)).kept hW (fun _ _ _ f => f)
        have h2 := h1.mid i (c5 - i) (by rw [← HNP.out]; exact hi64)
        rw [Nat.zero_add] at h2
        exact h2)
      have hg5w : g5 < w5.heap.size := HF5.out.row.lt rfl
      have hwr := HKq.out.size
      obtain ⟨x, hx⟩ : ∃ x, x = S8.of (blkS P q) := ⟨_, rfl⟩
      have HXL : Hid (blkS P q = x.L) := hid (by rw [hx]; exact (S8.of_L (blkS_wds P q).len).symm)
      obtain ⟨y, hy⟩ : ∃ y, y = S8.of (blkS P (q + 1)) := ⟨_, rfl⟩
      have HYL : Hid (blkS P (q + 1) = y.L) := hid (by rw [hy]; exact (S8.of_L (blkS_wds P (q + 1)).len).symm)
      have HCB : Hid (∀ W, Same wr W → Calls Tryz.prog 91 #[.agg #[.int .u32 (x.a : Nat), .int .u32 (x.b : Nat), .int .u32 (x.c : Nat), .int .u32 (x.d : Nat), .int .u32 (x.e : Nat), .int .u32 (x.f : Nat), .int .u32 (x.g : Nat), .int .u32 (x.h : Nat)], .slice (some ⟨g5, i, none⟩) 64 (c5 - i)] W fun e w' => e = .returned (.agg #[.int .u32 (y.a : Nat), .int .u32 (y.b : Nat), .int .u32 (y.c : Nat), .int .u32 (y.d : Nat), .int .u32 (y.e : Nat), .int .u32 (y.f : Nat), .int .u32 (y.g : Nat), .int .u32 (y.h : Nat)]) ∧ Same W w') := hid (fun W hW => by
        have h := rblock_any W (blkS P q) _ _ _ (blkS_wds P q) (HSB.out W hW) (fun k hk => by have := hW.size; omega) (fun z hz => HPB.out z (List.mem_of_mem_drop (List.mem_of_mem_take hz))) (by have := HNP.out; simp; omega)
        have e : mixF (blkS P q) ((P.drop i).take 64) = y.L := by rw [← HYL.out, hi]; rfl
        rw [e, HXL.out] at h
        exact h)
      have HBX : Hid (∀ W, Same wr W → Blk W g3 (x.L.map wordV).toArray 125) := hid (fun W hW => by rw [← HXL.out]; exact HBq.out.kept hW (fun f => f))
      obtain ⟨x0, x1, x2, x3, x4, x5, x6, x7⟩ := blk_L (HBX.out wr (Kept.refl _ _))
      obtain ⟨j, hj⟩ : ∃ j, j = i + 64 := ⟨_, rfl⟩
      have i1 : (i : Int) + 64 = (j : Int) := by omega
      have i2 : IntKind.i64.wrap (j : Int) = (j : Int) := wrap_nat15' j (by have := HPL.out; omega)
      have p1 : (0 : Int) ≤ (i : Int) := by omega
      have p2 : (i : Int) ≤ (j : Int) := by omega
      have p3 : (j : Int) ≤ (c5 : Int) := by have := HCP.out; omega
      have p4 : (0 : Int) ≤ (j : Int) := by omega
      have hji : j - i = 64 := by omega
      have hci : ¬ c5 = i := by have := HCP.out; omega
      have p5 : i ≤ j := by omega
      have p6 : j ≤ c5 := by have := HCP.out; omega
      have HII : Hid (i = 64 * q) := hid hi
      have HJJ : Hid (j = 64 * (q + 1)) := hid (by omega)
      have HJN : Hid (64 * (q + 1) ≤ N) := hid (by omega)
      clear hi hx hy hj hq hi64
      go_wp2_with fail
      go_region_with (first
        | (go_at_call 91; refine (HCB.out _ ((Kept.refl _ wr).drew)).mono ?_; rintro e w6 ⟨rfl, hk6⟩; have HK6 : Hid (Same wr w6) := hid (Same.trans ((Kept.refl _ wr).drew) hk6); have hb6 := HBX.out w6 HK6.out; have y0 := hb6.wcell 0 (by simp [S8.L]); have y1 := hb6.wcell 1 (by simp [S8.L]); have y2 := hb6.wcell 2 (by simp [S8.L]); have y3 := hb6.wcell 3 (by simp [S8.L]); have y4 := hb6.wcell 4 (by simp [S8.L]); have y5 := hb6.wcell 5 (by simp [S8.L]); have y6 := hb6.wcell 6 (by simp [S8.L]); have y7 := hb6.wcell 7 (by simp [S8.L]); have f0 := hb6.frozen 0; have f1 := hb6.frozen 1; have f2 := hb6.frozen 2; have f3 := hb6.frozen 3; have f4 := hb6.frozen 4; have f5 := hb6.frozen 5; have f6 := hb6.frozen 6; have f7 := hb6.frozen 7; have HB6 := hid hb6; clear hb6 hk6))
      have hb7 := (((((((HB6.out.wset 0 y.a).wset 1 y.b).wset 2 y.c).wset 3 y.d).wset 4 y.e).wset 5 y.f).wset 6 y.g).wset 7 y.h
      have HB7 : Hid (Blk _ g3 ((blkS P (q + 1)).map wordV).toArray 125) := hid (by rw [HYL.out]; exact hb7)
      have HK7 := hid (((((((((Kept.mono HK6.out (G := (· = g3)) (fun _ _ f => f.elim)).setCell ⟨g3, 0, none⟩ (.int .u32 (y.a : Nat)) (.inl rfl)).setCell ⟨g3, 1, none⟩ (.int .u32 (y.b : Nat)) (.inl rfl)).setCell ⟨g3, 2, none⟩ (.int .u32 (y.c : Nat)) (.inl rfl)).setCell ⟨g3, 3, none⟩ (.int .u32 (y.d : Nat)) (.inl rfl)).setCell ⟨g3, 4, none⟩ (.int .u32 (y.e : Nat)) (.inl rfl)).setCell ⟨g3, 5, none⟩ (.int .u32 (y.f : Nat)) (.inl rfl)).setCell ⟨g3, 6, none⟩ (.int .u32 (y.g : Nat)) (.inl rfl)).setCell ⟨g3, 7, none⟩ (.int .u32 (y.h : Nat)) (.inl rfl))
      clear hb7 y0 y1 y2 y3 y4 y5 y6 y7 f0 f1 f2 f3 f4 f5 f6 f7 x0 x1 x2 x3 x4 x5 x6 x7
      go_wp2_with fail
      go_roundg (gk - 1)
      case measure => omega
      case rel =>
        exact ⟨q + 1, HJN.out, by omega, by rw [← HJJ.out], HB7, hid (Kept.trans HKq.out HK7.out (fun _ _ e => e) (fun _ _ e => e))⟩
    · have hqe : q = N / 64 := by have := HPM.out; omega
      rw [hqe] at HBq
      obtain ⟨ws, hws⟩ : ∃ ws, ws = blkS P (N / 64) := ⟨_, rfl⟩
      rw [← hws] at HBq HSF
      have HWS : Hid (Wds 8 ws) := hid (by rw [hws]; exact blkS_wds _ _)
      have HKw : Hid (Same w2 wr) := hid ((HK4.out.trans HK5.out).then HKq.out (fun x hx e => by omega))
      clear hws hqe
      go_wp2_with (first
        | (with_reducible refine at_alloc 86 6 ?_; refine wpl_alloc 86 _ Tryz.zero32 ?_; intro w6 g6 hB6 hk6 hg6 hl6; have HB6 := hid hB6; have HK6 := hid hk6; clear hB6 hk6))
      have HW0 : Hid (Blk w6 g3 ((lwF ws 0).map wordV).toArray 125) := hid (by
        have e : lwF ws 0 = ws := by simp [lwF]
        rw [e]; exact HBq.out.kept HK6.out (fun f => f))
      have HO0 : Hid (Blk w6 g6 ((loF ws 0).map byteV).toArray 86) := HB6
      have hg36 : g3 ≠ g6 := by have := HKq.out.size; omega
      have HKw6 : Hid (Same w2 w6) := hid (HKw.out.trans HK6.out)
      have hw2s := HK2.out.size
      have hkws := HKw.out.size
      have hg62 : w2.heap.size ≤ g6 := by omega
      have hg32 : w2.heap.size ≤ g3 := by omega
      clear HBq HB6
      go_loopg [7, 8] 8 (fun k z _ wr => ∃ i : Nat, i ≤ 8 ∧ 8 - i ≤ k ∧ z = .int .i64 (i : Nat) ∧ Hid (Blk wr g3 ((lwF ws i).map wordV).toArray 125) ∧ Hid (Blk wr g6 ((loF ws i).map byteV).toArray 86) ∧ Hid (Kept (fun k => k = g3 ∨ k = g6) w6 wr))
      case atStart => exact ⟨0, by omega, by omega, rfl, HW0, HO0, hid (Kept.refl _ _)⟩
      case round =>
        clear HW0 HO0
        obtain ⟨i, hi, hik, rfl, HWi, HOi, HKi⟩ := hrel
        by_cases hlt : i < 8
        · obtain ⟨X, hX⟩ : ∃ X, X = ws.getD i 0 := ⟨_, rfl⟩
          have HXX := hid hX
          have hX32 : X < 4294967296 := by rw [hX]; exact HWS.out.get i
          have HW1 : Hid (Blk wr g3 (((lwF ws i).set i (X / 256 ^ 0)).map wordV).toArray 125) := hid (by
            have e : (lwF ws i).set i (X / 256 ^ 0) = lwF ws i := by
              rw [Nat.pow_zero, Nat.div_one, hX, ← lwF_get ws i, List.getD_eq_getElem?_getD]
              have hl := lwF_length ws i (by rw [HWS.out.len]; exact hi)
              rw [HWS.out.len] at hl
              rw [List.getElem?_eq_getElem (by omega)]
              simp
            rw [e]; exact HWi.out)
          have HO1 : Hid (Blk wr g6 ((loG ws i 0).map byteV).toArray 86) := hid (by rw [loG_zero ws i hlt]; exact HOi.out)
          clear HWi HOi hX
          obtain ⟨gk0, hgk0⟩ : ∃ g, g = gk := ⟨_, rfl⟩
          subst hgk0
          go_wp2_with fail
          go_loopg [8] 4 (fun k z wr => ∃ m : Nat, m ≤ 4 ∧ 4 - m ≤ k ∧ z = .int .i64 (3 - (m : Int)) ∧ Hid (Blk wr g3 (((lwF ws i).set i (X / 256 ^ m)).map wordV).toArray 125) ∧ Hid (Blk wr g6 ((loG ws i m).map byteV).toArray 86) ∧ Hid (Kept (fun k => k = g3 ∨ k = g6) w6 wr))
          case atStart => exact ⟨0, by omega, by omega, by rfl, HW1, HO1, HKi⟩
          case round =>
            clear HW1 HO1 HKi
            obtain ⟨m, hm, hmk, rfl, HWm, HOm, HKm⟩ := hrel
            by_cases hlt2 : m < 4
            · obtain ⟨r, hr⟩ : ∃ r, r = 3 - m := ⟨_, rfl⟩
              obtain ⟨f, hf⟩ : ∃ f, f = 4 * i := ⟨_, rfl⟩
              obtain ⟨j, hj⟩ : ∃ j, j = f + r := ⟨_, rfl⟩
              have e1 : 3 - (m : Int) = (r : Int) := by omega
              have e2 : 4 * (i : Int) = (f : Int) := by omega
              have e3 : (f : Int) + (r : Int) = (j : Int) := by omega
              have hj32 : j < 32 := by omega
              have hj32i : (j : Int) < 32 := by omega
              have hj0 : (0 : Int) ≤ (j : Int) := by omega
              have hi8 : (i : Int) < 8 := by omega
              have hi0 : (0 : Int) ≤ (i : Int) := by omega
              obtain ⟨y, hy⟩ : ∃ y, y = X / 256 ^ m := ⟨_, rfl⟩
              have hy32 : y < 4294967296 := by rw [hy]; exact Nat.lt_of_le_of_lt (Nat.div_le_self _ _) hX32
              have HNX := hid (loG_next ws i m HWS.out.len hlt hlt2)
              rw [← HXX.out, ← hy, ← hr, ← hf, ← hj] at HNX
              obtain ⟨z, hz⟩ : ∃ z, z = y % 256 := ⟨_, rfl⟩
              rw [← hz] at HNX
              obtain ⟨y2, hy2⟩ : ∃ y2, y2 = y / 256 := ⟨_, rfl⟩
              have HY2 : Hid (X / 256 ^ (m + 1) = y2) := hid (by rw [hy2, hy, Nat.div_div_eq_div_mul, Nat.pow_succ])
              have z1 : (y : Int) % 256 = (z : Int) := by omega
              have z3 : (y : Int) / 256 = (y2 : Int) := by omega
              have z256 : z < 256 := by omega
              have cw := HWm.out.wcell i (by rw [List.length_set, lwF_length ws i (by rw [HWS.out.len]; exact hi), HWS.out.len]; exact hlt)
              have hgi : ((lwF ws i).set i (X / 256 ^ m)).getD i 0 = X / 256 ^ m := by
                have hl := lwF_length ws i (by rw [HWS.out.len]; exact hi)
                rw [HWS.out.len] at hl
                rw [List.getD_eq_getElem?_getD, List.getElem?_set_self (by omega)]
                rfl
              rw [hgi, ← hy] at cw
              have fw := HWm.out.frozen i
              have cb := HOm.out.bcell j (by rw [loG_length ws i m HWS.out.len hlt hm]; exact hj32)
              have fb := HOm.out.frozen j
              have HE : Hid (r = 3 - m) := hid hr
              rw [e1]
              clear hr hf hj hy hz hy2 hgi e1
              go_wp2_with fail
              go_roundg (gk - 1)
              case measure => omega
              case rel =>
                have k1 : Kept (· = g6) wr (wr.setCell ⟨g6, j, none⟩ (.int .u8 (z : Nat))) := (Kept.refl _ wr).setCell _ _ (.inl rfl)
                have h1 := (HWm.out.kept k1 hg36).wset i y2
                rw [List.set_set, ← HY2.out] at h1
                have h2 := HOm.out.bset j z
                rw [HNX.out] at h2
                have k2 : Kept (· = g3) (wr.setCell ⟨g6, j, none⟩ (.int .u8 (z : Nat))) ((wr.setCell ⟨g6, j, none⟩ (.int .u8 (z : Nat))).setCell ⟨g3, i, none⟩ (.int .u32 (y2 : Nat))) := (Kept.refl _ _).setCell _ _ (.inl rfl)
                have h3 := h2.kept k2 (fun e => hg36 e.symm)
                refine ⟨m + 1, by omega, by omega, by have := HE.out; congr 1; omega, ?_, hid h3, hid ((HKm.out.setCell _ _ (.inl (.inr rfl))).setCell _ _ (.inl (.inl rfl)))⟩
                rw [HY2.out] at h1 ⊢
                exact hid h1
            · have hm4 : m = 4 := by omega
              subst hm4
              have e0 : X / 256 ^ 4 = 0 := by
                have : (256 : Nat) ^ 4 = 4294967296 := by decide
                rw [this]; omega
              rw [e0, lwF_next ws i (by rw [HWS.out.len]; exact hlt)] at HWm
              rw [loG_four ws i (by rw [HWS.out.len]; exact hlt)] at HOm
              clear e0
              go_wp2_with fail
              go_roundg (gk0 - 1)
              case measure => omega
              case rel => exact ⟨i + 1, by omega, by omega, by go_num, HWm, HOm, HKm⟩
        · have hin : i = 8 := by omega
          subst hin
          rw [loF_8 ws HWS.out.len, ← HSF.out] at HOi
          have HB2i : Hid (Blk wr g2 ((List.replicate 32 0).map byteV).toArray 86) := hid ((HB2.out.kept HKw6.out (fun f => f)).kept HKi.out (by omega))
          have HKf : Hid (Same w2 wr) := hid (HKw6.out.then HKi.out (fun x hx e => by omega))
          go_wp2_with (first
            | (with_reducible refine at_load 86 49 ?_; refine wpl_load 86 32 _ Tryz.underlying86 rfl Tryz.size32 rfl HOi.out ((shaF b).map byteV) (by simp [shaF_length]) (take_all15 (by simp [shaF_length])) ?_)
            | (with_reducible refine at_store 86 2 ?_; refine wpl_store 86 32 Tryz.size32 rfl (cells := (shaF b).map byteV) rfl HB2i.out (by simp) (by simp [shaF_length]) (byteV_one _) ?_; intro w9 hB9 hk9 hs9; have HB9 := hid hB9; have HK9 := hid hk9; clear hB9 hk9 hs9))
          refine bodyPost_ret (results_cell15 rfl 32 _ Tryz.underlying86 rfl Tryz.size32 _ rfl HB9.out (by simp [shaF_length])) rfl ?_
          exact ⟨rfl, (HK2.out.trans HKf.out).then HK9.out (fun x hx e => by omega)⟩

end Go.Proofs.YtfhfnkhiomahfaaGreatDoor

/-
  HmacWhole's walk.
-/
namespace Go.Proofs.YtfhfnkhiomahfaaGreatDoor
open Go.RowKit

theorem kyB_zeros (K : List Nat) (i : Nat) (h : i = 0 ∨ K.length + i ≤ 64) : kyB (K ++ List.replicate i 0) = kyB K := by
  rcases h with rfl | h
  · simp
  · unfold kyB
    have h1 : ¬ 64 < (K ++ List.replicate i 0).length := by simp; omega
    have h2 : ¬ 64 < K.length := by omega
    simp only [if_neg h1, if_neg h2]
    rw [List.append_assoc, List.replicate_append_replicate]
    congr 2
    simp
    omega

theorem macF_zeros (K A : List Nat) (i : Nat) (h : i = 0 ∨ K.length + i ≤ 64) : macF (K ++ List.replicate i 0) A = macF K A := by
  unfold macF
  rw [kyB_zeros K i h]

theorem Fresh.arg {w w' : World} {v : Value} {bs : List Nat} (h : Fresh w w' v bs) (hb : ∀ x ∈ bs, x < 256) : Arg15 w' v bs := by
  refine ⟨(Src.ofRow h.row).mono (fun k e => h.row.lt e), h.row.cap, fun n c e => ?_, hb⟩
  rcases h.row.2 with ⟨e1, hn⟩ | ⟨g, cap, cur, e1, _⟩
  · rw [e] at e1
    injection e1 with _ e2 e3
    exact ⟨e2, e3⟩
  · rw [e] at e1
    cases e1



end Go.Proofs.YtfhfnkhiomahfaaGreatDoor

/-
  The reference's Mac.
-/
namespace Go.Proofs.YtfhfnkhiomahfaaGreatDoor
open Go.RowKit

/-- The first i bytes of the key's block, each xor pad. -/
def kpF (key : List Nat) (pad i : Nat) : List Nat := ((kyB key).take i).map (· ^^^ pad)

theorem kpF_next (key : List Nat) (pad i : Nat) (hi : i < 64) : kpF key pad (i + 1) = kpF key pad i ++ [(kyB key).getD i 0 ^^^ pad] := by
  unfold kpF
  have hl := kyB_length key
  rw [List.take_succ_eq_append_getElem (by omega), List.map_append, List.getD_eq_getElem?_getD, List.getElem?_eq_getElem (by omega)]
  rfl

theorem kpF_length (key : List Nat) (pad i : Nat) (hi : i ≤ 64) : (kpF key pad i).length = i := by
  unfold kpF
  rw [List.length_map, List.length_take, kyB_length]
  omega

theorem kpF_64 (key : List Nat) (pad : Nat) : kpF key pad 64 = (kyB key).map (· ^^^ pad) := by
  unfold kpF
  rw [List.take_of_length_le (by rw [kyB_length]; exact Nat.le_refl _)]

theorem kpF_lt (key : List Nat) (hb : ∀ x ∈ key, x < 256) (pad i : Nat) (hp : pad < 256) : ∀ x ∈ kpF key pad i, x < 256 := by
  intro x hx
  obtain ⟨y, hy, rfl⟩ := List.mem_map.1 hx
  exact xor8_lt (kyB_lt key hb y (List.mem_of_mem_take hy)) hp

theorem kyB_get (key kb : List Nat) (hk : kyB key = kb ++ List.replicate (64 - kb.length) 0) (i : Nat) : (kyB key).getD i 0 = kb.getD i 0 := by
  rw [hk, List.getD_eq_getElem?_getD, List.getD_eq_getElem?_getD]
  by_cases h : i < kb.length
  · rw [List.getElem?_append_left h]
  · rw [List.getElem?_append_right (by omega), List.getElem?_eq_none (l := kb) (by omega), List.getElem?_replicate]
    split <;> rfl

set_option maxRecDepth 100000 in
set_option maxHeartbeats 2000000 in
theorem rmac_any (w : World) (ak : Option Addr) (nk ck : Nat) (aa : Option Addr) (n ca : Nat) (key b : List Nat) (hk : Arg15 w (.slice ak nk ck) key) (hkl : key.length = nk) (hkn : nk ≤ 400000000) (ha : Arg15 w (.slice aa n ca) b) (hl : b.length = n) (hn : n ≤ 400000000) :
    Calls Tryz.prog 47 #[.slice ak nk ck, .slice aa n ca] w fun e w' => e = .returned (.agg ((macF key b).map byteV).toArray) ∧ Same w w' := by
  have HK := hid hk
  have HKL := hid hkl
  have HA := hid ha
  have HL := hid hl
  obtain ⟨kb, hkb⟩ : ∃ kb, kb = (if 64 < key.length then shaF key else key) := ⟨_, rfl⟩
  have HKB : Hid (kyB key = kb ++ List.replicate (64 - kb.length) 0) := hid (by rw [hkb]; rfl)
  have HBY : Hid (∀ x ∈ kb, x < 256) := hid (by
    rw [hkb]
    split
    · exact shaF_lt key
    · exact hk.byt)
  clear hk hkl ha hl
  go_enter Tryz.func47, Tryz.ntmps47
  by_cases h64 : 64 < nk
  case' pos =>
    have h64i : decide ((64 : Int) < (nk : Int)) = true := by simp; omega
    rw [if_pos (by rw [HKL.out]; exact h64)] at hkb
    go_wp2_with (first
      | (with_reducible refine at_alloc 86 4 ?_; refine wpl_alloc 86 _ Tryz.zero32 ?_; intro w2 g2 hB2 hk2 hg2 hl2; have HB2 := hid hB2; have HK2 := hid hk2; clear hB2 hk2))
    refine (rsum_any w2 ak nk ck key (HK.out.same HK2.out) HKL.out (by omega)).mono ?_
    rintro e w3 ⟨rfl, hk3⟩
    have HK3 := hid hk3
    have hs3 := hk3.size
    clear hk3
    go_upto_region 4 with (first
      | (with_reducible refine at_alloc 86 5 ?_; refine wpl_alloc 86 _ Tryz.zero32 ?_; intro w4 g4 hB4 hk4 hg4 hl4; have HB4 := hid hB4; have HK4 := hid hk4; clear hB4 hk4)
      | (with_reducible refine at_store 86 5 ?_; refine wpl_store 86 32 Tryz.size32 rfl (cells := (shaF key).map byteV) rfl HB4.out (by simp) (by simp [shaF_length]) (byteV_one _) ?_; intro w5 hB5 hk5 hs5; have HB5 := hid hB5; have HK5 : Hid (Same w2 w5) := hid ((HK3.out.trans HK4.out).then hk5 (fun x hx e => by omega)); clear hB5 hk5 hs5 HB4 HK4))
    have HKS : Hid (∃ J, Src w5 J (.slice (some ⟨g4, 0, none⟩) 32 32) kb ∧ ∀ k, J k → k < w5.heap.size) := hid ⟨_, (by rw [hkb]; exact src_arr HB5.out 32 (shaF_length key)), fun k hk => by rw [hk]; exact HB5.out.lt⟩
    have HN8 : Hid (kb.length = 32 ∧ 32 ≤ 64) := hid ⟨by rw [hkb]; exact shaF_length key, by omega⟩
    obtain ⟨n8, hn8⟩ : ∃ n, n = 32 := ⟨_, rfl⟩
    obtain ⟨a8, ha8⟩ : ∃ a : Option Addr, a = some ⟨g4, 0, none⟩ := ⟨_, rfl⟩
    rw [← ha8, ← hn8] at HKS
    rw [← hn8] at HN8
    rw [show Value.slice (some ⟨g4, 0, none⟩) 32 32 = .slice a8 n8 n8 by rw [ha8, hn8]]
    obtain ⟨c8, hc8⟩ : ∃ c, c = n8 := ⟨_, rfl⟩
    rw [show Value.slice a8 n8 n8 = .slice a8 n8 c8 by rw [hc8]] at HKS
    rw [show Value.slice a8 n8 n8 = .slice a8 n8 c8 by rw [hc8]]
    have HC8 : Hid (n8 ≤ c8) := hid (by omega)
    clear hn8 ha8 hc8 HB5 HK3 hs3 hl4 hg4 hkb h64i h64
  case' neg =>
    have h64i : decide ((64 : Int) < (nk : Int)) = false := by simp; omega
    rw [if_neg (by rw [HKL.out]; exact h64)] at hkb
    go_upto_region 4 with (first
      | (with_reducible refine at_alloc 86 4 ?_; refine wpl_alloc 86 _ Tryz.zero32 ?_; intro w2 g2 hB2 hk2 hg2 hl2; have HB2 := hid hB2; have HK2 := hid hk2; clear hB2 hk2))
    obtain ⟨w5, hw5⟩ : ∃ w5, w5 = w2 := ⟨_, rfl⟩
    have HK5 : Hid (Same w2 w5) := hid (by rw [hw5]; exact Kept.refl _ _)
    have HKS : Hid (∃ J, Src w5 J (.slice ak nk ck) kb ∧ ∀ k, J k → k < w5.heap.size) := hid ⟨_, (by rw [hkb, hw5]; exact (HK.out.same HK2.out).src), fun k hk => by rw [hw5]; exact hk⟩
    have HN8 : Hid (kb.length = nk ∧ nk ≤ 64) := hid ⟨by rw [hkb]; exact HKL.out, by omega⟩
    have HC8 : Hid (nk ≤ ck) := hid (HK.out.cap _ _ _ rfl)
    rw [← hw5]
    obtain ⟨n8, hn8⟩ : ∃ n, n = nk := ⟨_, rfl⟩
    obtain ⟨a8, ha8⟩ : ∃ a, a = ak := ⟨_, rfl⟩
    obtain ⟨c8, hc8⟩ : ∃ c, c = ck := ⟨_, rfl⟩
    rw [← hn8, ← ha8, ← hc8] at HKS
    rw [← hn8, ← hc8] at HC8
    rw [← hn8] at HN8
    rw [show Value.slice ak nk ck = .slice a8 n8 c8 by rw [hn8, ha8, hc8]]
    clear hn8 ha8 hc8 hkb h64i h64 hw5
  all_goals
    have h0 : Fresh w5 w5 (.slice none 0 0) [] := ⟨row_none15 _, Kept.refl _ _, fun k e => by cases e⟩
    have HF0 := hid h0
    clear h0
    go_wp2_with fail
    go_loopg [6, 7, 8, 9] 64 (fun k x y z _ wr => ∃ i : Nat, i ≤ 64 ∧ 64 - i ≤ k ∧ z = .int .i64 (i : Nat) ∧ Hid (Fresh w5 wr x (kpF key 54 i)) ∧ Hid (Fresh w5 wr y (kpF key 92 i)) ∧ Hid (∀ k, x.ownBlock = some k → y.ownBlock ≠ some k))
    case atStart => exact ⟨0, by omega, by omega, rfl, HF0, HF0, hid (fun k e => by cases e)⟩
    case round =>
      clear HF0
      obtain ⟨i, hi, hik, rfl, HX, HY, HXY⟩ := hrel
      by_cases hlt : i < 64
      · obtain ⟨x, hx⟩ : ∃ x, x = (kyB key).getD i 0 := ⟨_, rfl⟩
        have hxk : x = kb.getD i 0 := by rw [hx]; exact kyB_get key kb HKB.out i
        have hx256 : x < 256 := by rw [hxk]; exact getD_byte HBY.out i
        have HN1 := hid (kpF_next key 54 i hlt)
        have HN2 := hid (kpF_next key 92 i hlt)
        rw [← hx] at HN1 HN2
        have o1 : bits .xor .u8 (x : Int) 54 = ((x ^^^ 54 : Nat) : Int) := u8_xor_nat x 54 hx256 (by omega)
        have o2 : bits .xor .u8 (x : Int) 92 = ((x ^^^ 92 : Nat) : Int) := u8_xor_nat x 92 hx256 (by omega)
        obtain ⟨z1, hz1⟩ : ∃ z, z = x ^^^ 54 := ⟨_, rfl⟩
        obtain ⟨z2, hz2⟩ : ∃ z, z = x ^^^ 92 := ⟨_, rfl⟩
        rw [← hz1] at o1 HN1
        rw [← hz2] at o2 HN2
        have HLX : Hid ((kpF key 54 i).length + [z1].length ≤ 1000000000000) := hid (by rw [kpF_length _ _ _ hi]; simp; omega)
        have HLY : Hid ((kpF key 92 i).length + [z2].length ≤ 1000000000000) := hid (by rw [kpF_length _ _ _ hi]; simp; omega)
        by_cases hin : i < n8
        case' pos =>
          have c1 : ∃ bb o, a8 = some ⟨bb, o, none⟩ ∧ wr.cell? ⟨bb, o + i, none⟩ = some (.int .u8 (x : Nat)) := by
            obtain ⟨J, hS, hJ⟩ := HKS.out
            obtain ⟨ao, cp, e, hc⟩ := hS.kept HX.out.kept (fun _ _ _ f => f)
            injection e with e1 e2 e3
            obtain ⟨bb, o, e4, _, hcell⟩ := hc (by intro q; have := HN8.out.1; rw [q] at this; simp at this; omega)
            have h9 := hcell i (by rw [HN8.out.1]; exact hin)
            refine ⟨bb, o, by rw [e1, e4], ?_⟩
            rw [h9, hxk, List.getD_eq_getElem?_getD, List.getElem?_eq_getElem (by rw [HN8.out.1]; exact hin)]
            rfl
          obtain ⟨bb, o, rfl, c1⟩ := c1
          have q1 : decide ((i : Int) < (n8 : Int)) = true := by simp; omega
          clear hx hz1 hz2 hxk
        case' neg =>
          have hx0 : x = 0 := by rw [hxk, List.getD_eq_getElem?_getD, List.getElem?_eq_none (by rw [HN8.out.1]; omega)]; rfl
          have q1 : decide ((i : Int) < (n8 : Int)) = false := by simp; omega
          clear hx hz1 hz2 hxk
          subst hx0
        all_goals
          go_wp2_with (at_builtin; (first
            | (refine wpList_append_row _ rfl (.tmp 29) (.tmp 32) rfl u6 (kpF key 54 i) rfl (World.ownsRow.alloc HX.out.row _) ⟨wr.heap.size, 0, none⟩ 1 1 [z1] rfl rfl (bytesAt_int _ _ _ (by first | rfl | exact o1)) HLX.out ?_; intro v6 w6 hr6 hg6 hv6; have HX6 : Hid (Fresh w5 w6 v6 (kpF key 54 (i + 1))) := hid (by have h := HX.out.app hr6 hg6 hv6; rw [← HN1.out] at h; exact h); have HK6 : Hid (Kept (fun k => u6.ownBlock = some k) wr w6) := hid (Kept.grown ((Kept.refl _ wr).alloc _) hg6 (fun k e => .inl e)); have HY6 : Hid (Fresh w5 w6 u7 (kpF key 92 i)) := hid ⟨HY.out.row.kept HK6.out (fun k hk f => HXY.out k f hk), HX6.out.kept, HY.out.new⟩; have HXY6 : Hid (∀ k, v6.ownBlock = some k → u7.ownBlock ≠ some k) := hid (fun k hk e => by rcases hv6 with q | q; (exact HXY.out k (by rw [← q]; exact hk) e); (rw [q] at hk; have hlt := HY.out.row.lt e; injection hk with hk; rw [← hk, World.size_alloc] at hlt; omega)); clear hr6 hg6 hv6)
            | (refine wpList_append_row _ rfl (.tmp 34) (.tmp 37) rfl u7 (kpF key 92 i) rfl (World.ownsRow.alloc HY6.out.row _) ⟨w6.heap.size, 0, none⟩ 1 1 [z2] rfl rfl (bytesAt_int _ _ _ (by first | rfl | exact o2)) HLY.out ?_; intro v7 w7 hr7 hg7 hv7; have HY7 : Hid (Fresh w5 w7 v7 (kpF key 92 (i + 1))) := hid (by have h := HY6.out.app hr7 hg7 hv7; rw [← HN2.out] at h; exact h); have HK7 : Hid (Kept (fun k => u7.ownBlock = some k) w6 w7) := hid (Kept.grown ((Kept.refl _ w6).alloc _) hg7 (fun k e => .inl e)); have HX7 : Hid (Fresh w5 w7 v6 (kpF key 54 (i + 1))) := hid ⟨HX6.out.row.kept HK7.out (fun k hk f => HXY6.out k hk f), HY7.out.kept, HX6.out.new⟩; have HXY7 : Hid (∀ k, v6.ownBlock = some k → v7.ownBlock ≠ some k) := hid (fun k hk e => by rcases hv7 with q | q; (exact HXY6.out k hk (by rw [← q]; exact e)); (rw [q] at e; have hlt := HX6.out.row.lt hk; injection e with e; rw [← e, World.size_alloc] at hlt; omega)); clear hr7 hg7 hv7)))
          go_roundg (gk - 1)
          case measure => omega
          case rel => exact ⟨i + 1, by omega, by omega, by go_num, HX7, HY7, HXY7⟩
      · have hin : i = 64 := by omega
        subst hin
        rw [kpF_64] at HX HY
        obtain ⟨ki, hki⟩ : ∃ k, k = (kyB key).map (· ^^^ 54) := ⟨_, rfl⟩
        obtain ⟨ko, hko⟩ : ∃ k, k = (kyB key).map (· ^^^ 92) := ⟨_, rfl⟩
        have HKI : Hid (ki.length = 64 ∧ ∀ x ∈ ki, x < 256) := hid (by rw [hki]; exact ⟨by rw [List.length_map]; exact kyB_length key, fun x hx => by obtain ⟨y, hy, rfl⟩ := List.mem_map.1 hx; exact xor8_lt (kyB_lt key HK.out.byt y hy) (by omega)⟩)
        have HKO : Hid (ko.length = 64 ∧ ∀ x ∈ ko, x < 256) := hid (by rw [hko]; exact ⟨by rw [List.length_map]; exact kyB_length key, fun x hx => by obtain ⟨y, hy, rfl⟩ := List.mem_map.1 hx; exact xor8_lt (kyB_lt key HK.out.byt y hy) (by omega)⟩)
        have HMF : Hid (macF key b = shaF (ko ++ shaF (ki ++ b))) := hid (by rw [hki, hko]; rfl)
        rw [← hki] at HX
        rw [← hko] at HY
        clear hki hko
        have HKwr : Hid (Same w wr) := hid ((HK2.out.trans HK5.out).trans HX.out.kept)
        have HAr := hid (HA.out.same HKwr.out)
        go_wp2_with (at_builtin; refine wpList_append_any _ rfl (.tmp 39) (.tmp 40) rfl u6 ki rfl HX.out.row _ (.slice aa n ca) b rfl HA.out.nil HAr.out.src (by have := HL.out; rw [HKI.out.1]; omega) ?_; intro v6 w6 hr6 hg6 hv6; have HX6 : Hid (Fresh w5 w6 v6 (ki ++ b)) := hid (HX.out.app' hr6 hg6 hv6); have HK6 : Hid (Kept (fun k => u6.ownBlock = some k) wr w6) := hid (Kept.grown (Kept.refl _ wr) hg6 (fun k e => .inl e)); have HY6 : Hid (Fresh w5 w6 u7 ko) := hid ⟨HY.out.row.kept HK6.out (fun k hk f => HXY.out k f hk), HX6.out.kept, HY.out.new⟩; clear hr6 hg6 hv6)
        obtain ⟨a6, c6, e6, _⟩ := HX6.out.row.shape
        have HG6 := hid (HX6.out.arg (fun x hx => (List.mem_append.1 hx).elim (HKI.out.2 x) (HA.out.byt x)))
        rw [e6] at HG6 ⊢
        have HS1 := rsum_any w6 a6 (ki ++ b).length c6 (ki ++ b) HG6.out rfl (by have := HL.out; rw [List.length_append, HKI.out.1]; omega)
        refine HS1.mono ?_
        rintro e w7 ⟨rfl, hk7⟩
        obtain ⟨S, hS⟩ : ∃ S, S = shaF (ki ++ b) := ⟨_, rfl⟩
        have HSL : Hid (S.length = 32) := hid (by rw [hS]; exact shaF_length _)
        have HSB : Hid (∀ x ∈ S, x < 256) := hid (by rw [hS]; exact shaF_lt _)
        rw [← hS] at HMF ⊢
        have HK7 := hid hk7
        have hs7 := hk7.size
        have hs6 := HX6.out.kept.size
        have hs5 := HK5.out.size
        clear hk7 hS HS1 e6
        go_wp2_with (first
          | (with_reducible refine at_alloc 86 10 ?_; refine wpl_alloc 86 _ Tryz.zero32 ?_; intro w8 g8 hB8 hk8 hg8 hl8; have HB8 := hid hB8; have HK8 := hid hk8; clear hB8 hk8)
          | (with_reducible refine at_store 86 10 ?_; refine wpl_store 86 32 Tryz.size32 rfl (cells := S.map byteV) rfl HB8.out (by simp) (by simp [HSL.out]) (byteV_one _) ?_; intro w9 hB9 hk9 hs9; have HB9 := hid hB9; have HK9 : Hid (Same w6 w9) := hid ((HK7.out.trans HK8.out).then hk9 (fun x hx e => by omega)); clear hB9 hk9 hs9 HB8 HK8)
          | (at_builtin; refine wpList_append_any _ rfl (.tmp 43) (.tmp 44) rfl u7 ko rfl (HY6.out.later HK9.out (fun _ f => f.elim)).row _ (.slice (some ⟨g8, 0, none⟩) 32 32) S rfl (fun n c e => by cases e) (src_arr HB9.out 32 HSL.out) (by rw [HKO.out.1, HSL.out]; omega) ?_; intro v10 w10 hr10 hg10 hv10; have HY10 : Hid (Fresh w5 w10 v10 (ko ++ S)) := hid ((HY6.out.later HK9.out (fun _ f => f.elim)).app' hr10 hg10 hv10); clear hr10 hg10 hv10))
        obtain ⟨a10, c10, e10, _⟩ := HY10.out.row.shape
        have HG10 := hid (HY10.out.arg (fun x hx => (List.mem_append.1 hx).elim (HKO.out.2 x) (HSB.out x)))
        rw [e10] at HG10 ⊢
        have HS2 := rsum_any w10 a10 (ko ++ S).length c10 (ko ++ S) HG10.out rfl (by rw [List.length_append, HKO.out.1, HSL.out]; omega)
        refine HS2.mono ?_
        rintro e w11 ⟨rfl, hk11⟩
        rw [← HMF.out]
        have HKE : Hid (Same w2 w11) := hid ((HK5.out.trans HY10.out.kept).trans hk11)
        have HML : Hid ((macF key b).length = 32) := hid (shaF_length _)
        clear hk11 HS2 e10
        go_wp2_with (first
          | (with_reducible refine at_store 86 4 ?_; refine wpl_store 86 32 Tryz.size32 rfl (cells := (macF key b).map byteV) rfl (HB2.out.kept HKE.out (fun f => f)) (by simp) (by simp [HML.out]) (byteV_one _) ?_; intro w14 hB14 hk14 hs14; have HB14 := hid hB14; have HK14 := hid hk14; clear hB14 hk14 hs14))
        refine bodyPost_ret (results_cell15 rfl 32 _ Tryz.underlying86 rfl Tryz.size32 _ rfl HB14.out (by simp [HML.out])) rfl ?_
        exact ⟨rfl, (HK2.out.trans HKE.out).then HK14.out (fun x hx e => by omega)⟩

end Go.Proofs.YtfhfnkhiomahfaaGreatDoor

/-
  Layer 16, the reference: number, May, Body, Digits, Print.
-/
namespace Go.Proofs.YtfhfnkhiomahfaaGreatDoor
open Go.RowKit Go.Shelf

/-- Of the digits' text one digit. -/
theorem dig_cut (r : Nat) (h : r < 10) : (ByteArray.mk #[48, 49, 50, 51, 52, 53, 54, 55, 56, 57]).extract r (r + 1) = tx6 [UInt8.ofNat (48 + r)] := by
  have hq : r = 0 ∨ r = 1 ∨ r = 2 ∨ r = 3 ∨ r = 4 ∨ r = 5 ∨ r = 6 ∨ r = 7 ∨ r = 8 ∨ r = 9 := by omega
  rcases hq with rfl | rfl | rfl | rfl | rfl | rfl | rfl | rfl | rfl | rfl <;> rfl

theorem dec6_step (n : Nat) (h : 9 < n) (suf : List UInt8) : dec6 n ++ suf = dec6 (n / 10) ++ ([UInt8.ofNat (48 + n % 10)] ++ suf) := by rw [dec6_big (by omega), List.append_assoc]

set_option maxRecDepth 100000 in
set_option maxHeartbeats 1000000 in
theorem rnumber_any (w : World) (n : Nat) (hn : n < 100000000000) : Calls Tryz.prog 46 #[.int .i64 (n : Nat)] w fun e w' => e = .returned (.string (tx6 (dec6 n))) ∧ Same w w' := by
  obtain ⟨r, hr⟩ : ∃ r, r = n % 10 := ⟨_, rfl⟩
  obtain ⟨r1, hr1⟩ : ∃ r1, r1 = r + 1 := ⟨_, rfl⟩
  have m1 : (n : Int) % 10 = (r : Int) := by omega
  have m1t : Int.tmod (n : Int) 10 = (r : Int) := by rw [Int.tmod_eq_emod_of_nonneg (by omega)]; exact m1
  have m2 : (r : Int) + 1 = (r1 : Int) := by omega
  have m3 : IntKind.i64.wrap (r1 : Int) = (r1 : Int) := by rw [IntKind.wrap_i64]; omega
  have m3r : IntKind.i64.wrap (r : Int) = (r : Int) := by rw [IntKind.wrap_i64]; omega
  have m4 : (r : Int) ≤ (r1 : Int) := by omega
  have m5 : (r1 : Int) ≤ 10 := by omega
  have m4n : r ≤ r1 := by omega
  have m5n : r1 ≤ 10 := by omega
  have hc := dig_cut r (by omega)
  obtain ⟨dg, hdg⟩ : ∃ d, d = UInt8.ofNat (48 + r) := ⟨_, rfl⟩
  rw [← hr1, ← hdg] at hc
  have HR : Hid (dg = UInt8.ofNat (48 + n % 10)) := hid (by rw [hdg, hr])
  have HN := hid hn
  clear hr hr1 hn hdg
  go_enter Tryz.func46, Tryz.ntmps46
  go_wp2_with fail
  have HS0 : Hid (([dg] : List UInt8) = UInt8.ofNat (48 + n % 10) :: [] ∧ dec6 n = dec6 n ++ []) := hid ⟨by rw [HR.out], by simp⟩
  clear m1 m1t m2 m3 m3r m4 m5 m4n m5n hc
  go_loopg [0, 3] n (fun qq z0 z3 wr => ∃ (m : Nat) (suf l : List UInt8), z0 = .int .i64 (m : Nat) ∧ z3 = .string (tx6 l) ∧ m ≤ qq ∧ m ≤ n ∧ Hid (l = UInt8.ofNat (48 + m % 10) :: suf ∧ dec6 n = dec6 m ++ suf) ∧ Hid (wr = w))
  case atStart => exact ⟨n, [], _, rfl, rfl, Nat.le_refl _, Nat.le_refl _, HS0, hid rfl⟩
  case round =>
    obtain ⟨m, suf, l, rfl, rfl, hq, hmn, HI, HW⟩ := hrel
    clear HS0 HR
    by_cases h9 : 9 < m
    · have d1 : decide ((9 : Int) < (m : Int)) = true := by simp; omega
      obtain ⟨m2, hm2⟩ : ∃ x, x = m / 10 := ⟨_, rfl⟩
      obtain ⟨r, hr⟩ : ∃ r, r = m2 % 10 := ⟨_, rfl⟩
      obtain ⟨r1, hr1⟩ : ∃ r1, r1 = r + 1 := ⟨_, rfl⟩
      have q1 : (m : Int) / 10 = (m2 : Int) := by omega
      have q1t : Int.tdiv (m : Int) 10 = (m2 : Int) := by rw [Int.tdiv_eq_ediv_of_nonneg (by omega)]; exact q1
      have m1 : (m2 : Int) % 10 = (r : Int) := by omega
      have m1t : Int.tmod (m2 : Int) 10 = (r : Int) := by rw [Int.tmod_eq_emod_of_nonneg (by omega)]; exact m1
      have m2' : (r : Int) + 1 = (r1 : Int) := by omega
      have m3 : IntKind.i64.wrap (r1 : Int) = (r1 : Int) := by rw [IntKind.wrap_i64]; omega
      have m3r : IntKind.i64.wrap (r : Int) = (r : Int) := by rw [IntKind.wrap_i64]; omega
      have m3q : IntKind.i64.wrap (m2 : Int) = (m2 : Int) := by rw [IntKind.wrap_i64]; have := HN.out; omega
      have m4 : (r : Int) ≤ (r1 : Int) := by omega
      have m5 : (r1 : Int) ≤ 10 := by omega
      have m4n : r ≤ r1 := by omega
      have m5n : r1 ≤ 10 := by omega
      have hc := dig_cut r (by omega)
      obtain ⟨dg, hdg⟩ : ∃ d, d = UInt8.ofNat (48 + r) := ⟨_, rfl⟩
      rw [← hr1, ← hdg] at hc
      have HLN : Hid (l.length ≤ 12) := hid (by
        have h1 := dec6_len 10 n (by have := HN.out; omega)
        rw [HI.out.2, List.length_append] at h1
        rw [HI.out.1, List.length_cons]
        omega)
      have hadd := fun wx => run_string_add_sum (P := Tryz.prog) (w := wx) (tx6 [dg]) (tx6 l) (by rw [tx6_size, tx6_size]; have := HLN.out; simp; omega)
      rw [tx6_app] at hadd
      have HNX : Hid (([dg] ++ l : List UInt8) = UInt8.ofNat (48 + m2 % 10) :: l ∧ dec6 n = dec6 m2 ++ l) := hid ⟨by rw [hdg, hr]; rfl, by rw [HI.out.2, dec6_step m h9, hm2, HI.out.1]; rfl⟩
      have HMM : Hid (m2 < m ∧ m2 ≤ n) := hid (by omega)
      clear hr hr1 hm2 h9 hdg
      go_wp2_with fail
      go_roundg (gk - 1)
      case measure => have := HMM.out; omega
      case rel => exact ⟨m2, l, _, rfl, rfl, by have := HMM.out; omega, HMM.out.2, HNX, HW⟩
    · have d1 : decide ((9 : Int) < (m : Int)) = false := by simp; omega
      have HE : Hid (l = dec6 n) := hid (by rw [HI.out.2, dec6_small (by omega), HI.out.1, Nat.mod_eq_of_lt (by omega)]; rfl)
      clear h9
      go_wp2_with fail
      go_ret
      exact ⟨by rw [HE.out]; rfl, by rw [HW.out]; exact Kept.refl _ _⟩

end Go.Proofs.YtfhfnkhiomahfaaGreatDoor

/-
  Layer 16, the reference: May, Body, Digits, Print.
-/
namespace Go.Proofs.YtfhfnkhiomahfaaGreatDoor
open Go.RowKit Go.Shelf

set_option maxRecDepth 100000 in
set_option maxHeartbeats 400000 in
theorem rmay_any (w : World) (t : ByteArray) (u s : Int) (b : Bool) (hb : mayB t u s = b) : Calls Tryz.prog 27 #[clV t u s] w fun e w' => e = .returned (.bool b) ∧ Same w w' := by
  unfold clV
  obtain ⟨W1, hW1⟩ : ∃ W, W = w.alloc (.cells #[.string t, .int .i64 u, .int .i64 s] 23) := ⟨_, rfl⟩
  obtain ⟨xb, hxb⟩ : ∃ b, b = w.heap.size := ⟨_, rfl⟩
  have HK1 : Hid (Same w W1) := hid (by rw [hW1]; exact (Kept.refl _ w).alloc _)
  have HB : Hid (Blk W1 xb #[.string t, .int .i64 u, .int .i64 s] 23) := hid (by rw [hW1, hxb]; exact Blk.new w _ _)
  have x0 := HB.out.c3.1
  have HS := rshort_any W1 t
  have HBB := hid hb
  obtain ⟨sh, hsh⟩ : ∃ b, b = sho t := ⟨_, rfl⟩
  rw [← hsh] at HS
  have HSH := hid hsh
  clear hb hsh
  go_enter Tryz.func27, Tryz.ntmps27
  go_upto_region 1 with fail
  rw [← hW1, ← hxb]
  clear hW1 hxb
  go_wp2_with fail
  refine HS.mono ?_
  rintro e w2 ⟨rfl, hk2⟩
  have HB2 := hid (HB.out.kept hk2 (fun f => f))
  have HK2 := hid (Same.trans HK1.out hk2)
  obtain ⟨_, x1, x2, _, _, _⟩ := HB2.out.c3
  clear hk2 HS x0
  cases sh with
  | false =>
    have HF : Hid (b = false) := hid (by rw [← HBB.out]; unfold mayB; rw [← HSH.out]; rfl)
    go_wp2_with fail
    go_ret
    exact ⟨by rw [HF.out]; rfl, HK2.out⟩
  | true =>
    have HF : Hid (b = (decide (0 ≤ u ∧ u ≤ 1000000000) && decide (1 ≤ s ∧ s ≤ 1000000000))) := hid (by rw [← HBB.out]; unfold mayB; rw [← HSH.out]; rfl)
    by_cases h1 : 0 ≤ u
    · by_cases h2 : u ≤ 1000000000
      · by_cases h3 : 1 ≤ s
        · by_cases h4 : s ≤ 1000000000
          · have HG : Hid (b = true) := hid (by rw [HF.out]; simp [h1, h2, h3, h4])
            go_wp2_with fail
            go_ret
            exact ⟨by rw [HG.out]; rfl, HK2.out⟩
          · have HG : Hid (b = false) := hid (by rw [HF.out]; simp [h4])
            have e4 : decide (s ≤ 1000000000) = false := decide_eq_false h4
            go_wp2_with fail
            go_ret
            exact ⟨by rw [HG.out]; rfl, HK2.out⟩
        · have HG : Hid (b = false) := hid (by rw [HF.out]; simp [h3])
          have e3 : decide (1 ≤ s) = false := decide_eq_false h3
          go_wp2_with fail
          go_ret
          exact ⟨by rw [HG.out]; rfl, HK2.out⟩
      · have HG : Hid (b = false) := hid (by rw [HF.out]; simp [h2])
        have e2 : decide (u ≤ 1000000000) = false := decide_eq_false h2
        go_wp2_with fail
        go_ret
        exact ⟨by rw [HG.out]; rfl, HK2.out⟩
    · have HG : Hid (b = false) := hid (by rw [HF.out]; simp [h1])
      have e1 : decide (0 ≤ u) = false := decide_eq_false h1
      go_wp2_with fail
      go_ret
      exact ⟨by rw [HG.out]; rfl, HK2.out⟩

theorem bodyL_sum (t : ByteArray) (u s : Nat) : t ++ tx6 [46] ++ tx6 (dec6 u) ++ tx6 [46] ++ tx6 (dec6 s) = tx6 (bodL t u s) := by
  rw [← bodI_nat, ← body_sum, itoa_dec6, itoa_dec6]

theorem tokL_sum (t k : ByteArray) (u s : Nat) : tx6 (bodL t u s) ++ tx6 [46] ++ tx6 (macL k (bodL t u s)) = tx6 (tokL t u s k) := by
  rw [tx6_app, tx6_app]
  congr 1
  unfold tokL
  simp

set_option maxRecDepth 100000 in
set_option maxHeartbeats 400000 in
theorem rbody_any (w : World) (t : ByteArray) (u s : Nat) (ht : t.size ≤ 1000000000) (hu : u ≤ 1000000000) (hs : s ≤ 1000000000) :
    Calls Tryz.prog 28 #[clV t u s] w fun e w' => e = .returned (.string (tx6 (bodL t u s))) ∧ Same w w' := by
  unfold clV
  obtain ⟨W1, hW1⟩ : ∃ W, W = w.alloc (.cells #[.string t, .int .i64 (u : Nat), .int .i64 (s : Nat)] 23) := ⟨_, rfl⟩
  obtain ⟨xb, hxb⟩ : ∃ b, b = w.heap.size := ⟨_, rfl⟩
  have HK1 : Hid (Same w W1) := hid (by rw [hW1]; exact (Kept.refl _ w).alloc _)
  have HB : Hid (Blk W1 xb #[.string t, .int .i64 (u : Nat), .int .i64 (s : Nat)] 23) := hid (by rw [hW1, hxb]; exact Blk.new w _ _)
  have HI : Hid (∀ n : Nat, n ≤ 1000000000 → ∀ W, Same W1 W → Calls Tryz.prog 46 #[.int .i64 (n : Nat)] W fun e w' => e = .returned (.string (tx6 (dec6 n))) ∧ Same W w') := hid (fun n hn W _ => rnumber_any W n (by omega))
  have HL0 : Hid (∀ W, Same W1 W → (loadVar 9 ⟨xb, 0, none⟩).run Tryz.prog W = .ok (.string t) W) := hid (fun W hW => load_cell16 Tryz.underlying9 rfl ((HB.out.kept hW (fun f => f)).cell 0))
  have HL1 : Hid (∀ W, Same W1 W → (loadVar 3 ⟨xb, 1, none⟩).run Tryz.prog W = .ok (.int .i64 (u : Nat)) W) := hid (fun W hW => load_cell16 Tryz.underlying3 rfl ((HB.out.kept hW (fun f => f)).cell 1))
  have HL2 : Hid (∀ W, Same W1 W → (loadVar 3 ⟨xb, 2, none⟩).run Tryz.prog W = .ok (.int .i64 (s : Nat)) W) := hid (fun W hW => load_cell16 Tryz.underlying3 rfl ((HB.out.kept hW (fun f => f)).cell 2))
  have HU : Hid (∀ n : Nat, n ≤ 1000000000 → (tx6 (dec6 n)).size ≤ 21) := hid (fun n hn => by rw [tx6_size]; have := dec6_len 9 n (by omega); omega)
  have HZ : Hid (t.size ≤ 1000000000) := ht
  have HUU : Hid (u ≤ 1000000000 ∧ s ≤ 1000000000) := hid ⟨hu, hs⟩
  clear hu hs ht
  go_enter Tryz.func28, Tryz.ntmps28
  go_wp2_with fail
  rw [← hW1, ← hxb]
  clear hW1 hxb
  refine wp_region_same (by kernel_rfl) (by kernel_rfl) ?_
  refine wpq_value rfl (.pointer (some ⟨xb, 0, none⟩)) (fun W _ => by first | rfl | go_simp) ?_
  simp only [Act.put, List.setIfInBounds_toArray, List.set_cons_zero, List.set_cons_succ]
  refine wpq_value rfl (.string t) (fun W hW => run_load_op _ rfl (HL0.out W hW)) ?_
  simp only [Act.put, List.setIfInBounds_toArray, List.set_cons_zero, List.set_cons_succ]
  refine wpq_value rfl (.string (t ++ tx6 [46])) (fun W _ => run_add_op rfl rfl (by have := HZ.out; rw [tx6_size]; simp; omega)) ?_
  simp only [Act.put, List.setIfInBounds_toArray, List.set_cons_zero, List.set_cons_succ]
  refine wpq_value rfl (.pointer (some ⟨xb, 1, none⟩)) (fun W _ => by first | rfl | go_simp) ?_
  simp only [Act.put, List.setIfInBounds_toArray, List.set_cons_zero, List.set_cons_succ]
  refine wpq_value rfl (.int .i64 (u : Nat)) (fun W hW => run_load_op _ rfl (HL1.out W hW)) ?_
  simp only [Act.put, List.setIfInBounds_toArray, List.set_cons_zero, List.set_cons_succ]
  refine wpq_call rfl 46 #[.int .i64 (u : Nat)] (.string (tx6 (dec6 u))) (fun W => by go_simp) (calls_same (HI.out u HUU.out.1)) ?_
  simp only [Act.put, List.setIfInBounds_toArray, List.set_cons_zero, List.set_cons_succ]
  refine wpq_value rfl (.string (t ++ tx6 [46] ++ tx6 (dec6 u))) (fun W _ => run_add_op rfl rfl (by have := HZ.out; have := HU.out u HUU.out.1; rw [ByteArray.size_append, tx6_size [46]]; simp; omega)) ?_
  simp only [Act.put, List.setIfInBounds_toArray, List.set_cons_zero, List.set_cons_succ]
  refine wpq_value rfl (.string (t ++ tx6 [46] ++ tx6 (dec6 u) ++ tx6 [46])) (fun W _ => run_add_op rfl rfl (by have := HZ.out; have := HU.out u HUU.out.1; rw [ByteArray.size_append, ByteArray.size_append, tx6_size [46]]; simp; omega)) ?_
  simp only [Act.put, List.setIfInBounds_toArray, List.set_cons_zero, List.set_cons_succ]
  refine wpq_value rfl (.pointer (some ⟨xb, 2, none⟩)) (fun W _ => by first | rfl | go_simp) ?_
  simp only [Act.put, List.setIfInBounds_toArray, List.set_cons_zero, List.set_cons_succ]
  refine wpq_value rfl (.int .i64 (s : Nat)) (fun W hW => run_load_op _ rfl (HL2.out W hW)) ?_
  simp only [Act.put, List.setIfInBounds_toArray, List.set_cons_zero, List.set_cons_succ]
  refine wpq_call rfl 46 #[.int .i64 (s : Nat)] (.string (tx6 (dec6 s))) (fun W => by go_simp) (calls_same (HI.out s HUU.out.2)) ?_
  simp only [Act.put, List.setIfInBounds_toArray, List.set_cons_zero, List.set_cons_succ]
  refine wpq_value rfl (.string (tx6 (bodL t u s))) (fun W _ => by rw [← bodyL_sum]; exact run_add_op rfl rfl (by have := HZ.out; have := HU.out u HUU.out.1; have := HU.out s HUU.out.2; rw [ByteArray.size_append, ByteArray.size_append, ByteArray.size_append, tx6_size [46]]; simp; omega)) ?_
  simp only [Act.put, List.setIfInBounds_toArray, List.set_cons_zero, List.set_cons_succ]
  refine wpq_value rfl (.string (tx6 (bodL t u s))) (fun W _ => by first | rfl | go_simp) ?_
  simp only [Act.put, List.setIfInBounds_toArray, List.set_cons_zero, List.set_cons_succ]
  refine wpQuiet_nil ?_
  intro w9 hk9
  have HK9 : Hid (Same w w9) := hid (Same.trans HK1.out hk9)
  clear hk9
  go_wp2_with fail
  go_ret
  exact ⟨rfl, HK9.out⟩

theorem hex_cut (r : Nat) (h : r < 16) : (ByteArray.mk #[48, 49, 50, 51, 52, 53, 54, 55, 56, 57, 97, 98, 99, 100, 101, 102]).extract r (r + 1) = tx6 [hexs.getD r 0] := by
  have hq : r = 0 ∨ r = 1 ∨ r = 2 ∨ r = 3 ∨ r = 4 ∨ r = 5 ∨ r = 6 ∨ r = 7 ∨ r = 8 ∨ r = 9 ∨ r = 10 ∨ r = 11 ∨ r = 12 ∨ r = 13 ∨ r = 14 ∨ r = 15 := by omega
  rcases hq with rfl | rfl | rfl | rfl | rfl | rfl | rfl | rfl | rfl | rfl | rfl | rfl | rfl | rfl | rfl | rfl <;> rfl

theorem arg_bytes {w : World} {g G : Nat} {s : ByteArray} (h : Src w (fun k => k = g) (.slice (some ⟨g, 0, none⟩) s.size G) (sb s)) (hg : g < w.heap.size) (hG : s.size ≤ G) : Arg15 w (.slice (some ⟨g, 0, none⟩) s.size G) (sb s) :=
  ⟨h.mono (fun k e => by rw [e]; exact hg), fun a n c e => by injection e with _ e1 e2; omega, fun n c e => (by cases e), sb_lt s⟩

set_option maxRecDepth 100000 in
set_option maxHeartbeats 1000000 in
theorem rdigits_any (w : World) (bd : List UInt8) (k : ByteArray) (hk : k.size ≤ 100000000) (hb : bd.length ≤ 100000000) :
    Calls Tryz.prog 29 #[.string (tx6 bd), .string k] w fun e w' => e = .returned (.string (tx6 (macL k bd))) ∧ Same w w' := by
  obtain ⟨G1, W1, hcv1, hk1, hs1, hz1, hG1⟩ := bytes16 w k
  obtain ⟨g1, hg1⟩ : ∃ g, g = w.heap.size := ⟨_, rfl⟩
  obtain ⟨G2, W2, hcv2, hk2, hs2, hz2, hG2⟩ := bytes16 W1 (tx6 bd)
  obtain ⟨g2, hg2⟩ : ∃ g, g = W1.heap.size := ⟨_, rfl⟩
  rw [← hg1] at hcv1 hs1
  rw [← hg2] at hcv2 hs2
  have hsz : (tx6 bd).size = bd.length := tx6_size bd
  have HMA := rmac_any W2 (some ⟨g1, 0, none⟩) k.size G1 (some ⟨g2, 0, none⟩) (tx6 bd).size G2 (sb k) (sb (tx6 bd)) (arg_bytes (hs1.kept hk2 (fun _ _ _ f => f)) (by omega) hG1) (sb_size k) (by omega) (arg_bytes hs2 (by omega) hG2) (sb_size _) (by omega)
  have hsb : sb (tx6 bd) = natsL bd := by unfold sb; rw [tx6_data]; rfl
  obtain ⟨M, hM⟩ : ∃ M, M = macF (natsL k.data.toList) (natsL bd) := ⟨_, rfl⟩
  rw [show sb k = natsL k.data.toList from rfl, hsb, ← hM] at HMA
  have HMT : Hid (hexL M = macL k bd) := hid (by rw [hM]; rfl)
  have HML : Hid (M.length = 32 ∧ ∀ x ∈ M, x < 256) := hid ⟨by rw [hM]; exact shaF_length _, by rw [hM]; exact macF_lt _ _⟩
  have HK2 : Hid (Same w W2) := hid (Same.trans hk1 hk2)
  clear hk1 hs1 hz1 hG1 hk2 hs2 hz2 hG2 hg1 hg2 hsz hsb hM hk hb
  go_enter Tryz.func29, Tryz.ntmps29
  go_wp2_with fail
  refine HMA.mono ?_
  rintro e w3 ⟨rfl, hk3⟩
  have HK3 := hid (Same.trans HK2.out hk3)
  clear hk3 HMA hcv1 hcv2
  go_wp2_with (first
    | (with_reducible refine at_alloc 86 5 ?_; refine wpl_alloc 86 _ Tryz.zero32 ?_; intro w4 g5 hB4 hk4 hg4 hl4; have HB4 := hid hB4; have HK4 := hid hk4; clear hB4 hk4)
    | (with_reducible refine at_store 86 5 ?_; refine wpl_store 86 32 Tryz.size32 rfl (cells := M.map byteV) rfl HB4.out (by simp) (by simp [HML.out.1]) (byteV_one _) ?_; intro w5 hB5 hk5 hs5; have HB5 := hid hB5; have HK5 : Hid (Same w w5) := hid ((HK3.out.trans HK4.out).then hk5 (fun x hx e => by have := HK3.out.size; omega)); clear hB5 hk5 hs5 HB4 HK4))
  obtain ⟨V, hV⟩ : ∃ V : Value, V = .agg (M.map byteV).toArray := ⟨_, rfl⟩
  rw [← hV]
  clear hV hg4 hl4
  obtain ⟨HX, hHX⟩ : ∃ x : ByteArray, x = ⟨#[48, 49, 50, 51, 52, 53, 54, 55, 56, 57, 97, 98, 99, 100, 101, 102]⟩ := ⟨_, rfl⟩
  have hXz : HX.size = 16 := by rw [hHX]; rfl
  have HXC : Hid (∀ r, r < 16 → HX.extract r (r + 1) = tx6 [hexs.getD r 0]) := hid (fun r hr => by rw [hHX]; exact hex_cut r hr)
  rw [← hHX]
  clear hHX
  go_loopg [7, 8] 32 (fun k o z wr => ∃ (i : Nat) (cur : List UInt8), i ≤ 32 ∧ 32 - i ≤ k ∧ z = .int .i64 (i : Nat) ∧ o = .string (tx6 cur) ∧ Hid (cur = hexL (M.take i)) ∧ Hid (Same w5 wr))
  case atStart => exact ⟨0, [], by omega, by omega, rfl, rfl, hid rfl, hid (Kept.refl _ _)⟩
  case round =>
    obtain ⟨i, cur, hi, hik, rfl, rfl, HC, HW⟩ := hrel
    by_cases hlt : i < 32
    · obtain ⟨x, hx⟩ : ∃ x, x = M.getD i 0 := ⟨_, rfl⟩
      have hx256 : x < 256 := by rw [hx]; exact getD_byte HML.out.2 i
      have HLX : Hid (∀ W, Same wr W → (loadVar 5 ⟨g5, i, none⟩).run Tryz.prog W = .ok (.int .u8 (x : Nat)) W) := hid (fun W hW => load_cell16 Tryz.underlying5 rfl (by
        have h9 := (HB5.out.kept (Same.trans HW.out hW) (fun f => f)).bcell i (by rw [HML.out.1]; exact hlt)
        rw [← hx] at h9
        exact h9))
      obtain ⟨q, hq⟩ : ∃ q, q = x / 16 := ⟨_, rfl⟩
      obtain ⟨r, hr⟩ : ∃ r, r = x % 16 := ⟨_, rfl⟩
      obtain ⟨q1, hq1⟩ : ∃ q1, q1 = q + 1 := ⟨_, rfl⟩
      obtain ⟨r1, hr1⟩ : ∃ r1, r1 = r + 1 := ⟨_, rfl⟩
      obtain ⟨da, hda⟩ : ∃ d, d = hexs.getD q 0 := ⟨_, rfl⟩
      obtain ⟨db, hdb⟩ : ∃ d, d = hexs.getD r 0 := ⟨_, rfl⟩
      have hca := HXC.out q (by omega)
      have hcb := HXC.out r (by omega)
      rw [← hq1, ← hda] at hca
      rw [← hr1, ← hdb] at hcb
      have HNX : Hid (cur ++ [da] ++ [db] = hexL (M.take (i + 1))) := hid (by rw [hexL_take M i (by rw [HML.out.1]; exact hlt), ← HC.out, ← hx, hda, hdb, hq, hr]; simp)
      have HCL : Hid (cur.length ≤ 64) := hid (by rw [HC.out, hexL_length, List.length_take]; omega)
      have HZ1 : Hid ((tx6 cur).size + (tx6 [da]).size ≤ 9223372036854775807) := hid (by rw [tx6_size, tx6_size]; have := HCL.out; simp; omega)
      have HZ2 : Hid ((tx6 (cur ++ [da])).size + (tx6 [db]).size ≤ 9223372036854775807) := hid (by rw [tx6_size, tx6_size]; have := HCL.out; simp; omega)
      have v1 : (x : Int) / 16 = (q : Int) := by omega
      have v1t : Int.tdiv (x : Int) 16 = (q : Int) := by rw [Int.tdiv_eq_ediv_of_nonneg (by omega)]; exact v1
      have v2 : (x : Int) % 16 = (r : Int) := by omega
      have v2t : Int.tmod (x : Int) 16 = (r : Int) := by rw [Int.tmod_eq_emod_of_nonneg (by omega)]; exact v2
      have v3 : (q : Int) + 1 = (q1 : Int) := by omega
      have v4 : (r : Int) + 1 = (r1 : Int) := by omega
      have v5 : IntKind.u8.wrap (q : Int) = (q : Int) := by rw [IntKind.wrap_u8]; omega
      have v6 : IntKind.u8.wrap (r : Int) = (r : Int) := by rw [IntKind.wrap_u8]; omega
      have v7 : IntKind.u8.wrap (q1 : Int) = (q1 : Int) := by rw [IntKind.wrap_u8]; omega
      have v8 : IntKind.u8.wrap (r1 : Int) = (r1 : Int) := by rw [IntKind.wrap_u8]; omega
      have b1 : q ≤ q1 := by omega
      have b2 : q1 ≤ 16 := by omega
      have b3 : r ≤ r1 := by omega
      have b4 : r1 ≤ 16 := by omega
      have b1' : (q : Int) ≤ (q1 : Int) := by omega
      have b2' : (q1 : Int) ≤ 16 := by omega
      have b3' : (r : Int) ≤ (r1 : Int) := by omega
      have b4' : (r1 : Int) ≤ 16 := by omega
      have c1 : (0 : Int) ≤ (i : Int) := by omega
      have c2 : (i : Int) < 32 := by omega
      have HLT := hid hlt
      clear hx hq hr hq1 hr1 hda hdb hx256
      go_upto_region 7 with fail
      refine wp_region_same (by kernel_rfl) (by kernel_rfl) ?_
      refine wpq_value rfl (.string (tx6 cur)) (fun W _ => by first | rfl | go_simp) ?_
      simp only [Act.put, List.setIfInBounds_toArray, List.set_cons_zero, List.set_cons_succ]
      refine wpq_value rfl (.string HX) (fun W _ => by first | rfl | go_simp) ?_
      simp only [Act.put, List.setIfInBounds_toArray, List.set_cons_zero, List.set_cons_succ]
      refine wpq_value rfl (.int .i64 (i : Nat)) (fun W _ => by first | rfl | go_simp) ?_
      simp only [Act.put, List.setIfInBounds_toArray, List.set_cons_zero, List.set_cons_succ]
      refine wpq_value rfl (.pointer (some ⟨g5, i, none⟩)) (fun W _ => by first | rfl | go_simp) ?_
      simp only [Act.put, List.setIfInBounds_toArray, List.set_cons_zero, List.set_cons_succ]
      refine wpq_value rfl (.int .u8 (x : Nat)) (fun W hW => run_load_op _ rfl (HLX.out W hW)) ?_
      simp only [Act.put, List.setIfInBounds_toArray, List.set_cons_zero, List.set_cons_succ]
      refine wpq_value rfl (.int .u8 (q : Nat)) (fun W _ => by first | rfl | go_simp) ?_
      simp only [Act.put, List.setIfInBounds_toArray, List.set_cons_zero, List.set_cons_succ]
      refine wpq_value rfl (.int .i64 (i : Nat)) (fun W _ => by first | rfl | go_simp) ?_
      simp only [Act.put, List.setIfInBounds_toArray, List.set_cons_zero, List.set_cons_succ]
      refine wpq_value rfl (.pointer (some ⟨g5, i, none⟩)) (fun W _ => by first | rfl | go_simp) ?_
      simp only [Act.put, List.setIfInBounds_toArray, List.set_cons_zero, List.set_cons_succ]
      refine wpq_value rfl (.int .u8 (x : Nat)) (fun W hW => run_load_op _ rfl (HLX.out W hW)) ?_
      simp only [Act.put, List.setIfInBounds_toArray, List.set_cons_zero, List.set_cons_succ]
      refine wpq_value rfl (.int .u8 (q : Nat)) (fun W _ => by first | rfl | go_simp) ?_
      simp only [Act.put, List.setIfInBounds_toArray, List.set_cons_zero, List.set_cons_succ]
      refine wpq_value rfl (.int .u8 (q1 : Nat)) (fun W _ => by first | rfl | go_simp) ?_
      simp only [Act.put, List.setIfInBounds_toArray, List.set_cons_zero, List.set_cons_succ]
      refine wpq_value rfl (.string (tx6 [da])) (fun W _ => by first | rfl | go_simp) ?_
      simp only [Act.put, List.setIfInBounds_toArray, List.set_cons_zero, List.set_cons_succ]
      refine wpq_value rfl (.string (tx6 (cur ++ [da]))) (fun W _ => by rw [← tx6_app]; exact run_add_op rfl rfl HZ1.out) ?_
      simp only [Act.put, List.setIfInBounds_toArray, List.set_cons_zero, List.set_cons_succ]
      refine wpq_value rfl (.string HX) (fun W _ => by first | rfl | go_simp) ?_
      simp only [Act.put, List.setIfInBounds_toArray, List.set_cons_zero, List.set_cons_succ]
      refine wpq_value rfl (.int .i64 (i : Nat)) (fun W _ => by first | rfl | go_simp) ?_
      simp only [Act.put, List.setIfInBounds_toArray, List.set_cons_zero, List.set_cons_succ]
      refine wpq_value rfl (.pointer (some ⟨g5, i, none⟩)) (fun W _ => by first | rfl | go_simp) ?_
      simp only [Act.put, List.setIfInBounds_toArray, List.set_cons_zero, List.set_cons_succ]
      refine wpq_value rfl (.int .u8 (x : Nat)) (fun W hW => run_load_op _ rfl (HLX.out W hW)) ?_
      simp only [Act.put, List.setIfInBounds_toArray, List.set_cons_zero, List.set_cons_succ]
      refine wpq_value rfl (.int .u8 (r : Nat)) (fun W _ => by first | rfl | go_simp) ?_
      simp only [Act.put, List.setIfInBounds_toArray, List.set_cons_zero, List.set_cons_succ]
      refine wpq_value rfl (.int .i64 (i : Nat)) (fun W _ => by first | rfl | go_simp) ?_
      simp only [Act.put, List.setIfInBounds_toArray, List.set_cons_zero, List.set_cons_succ]
      refine wpq_value rfl (.pointer (some ⟨g5, i, none⟩)) (fun W _ => by first | rfl | go_simp) ?_
      simp only [Act.put, List.setIfInBounds_toArray, List.set_cons_zero, List.set_cons_succ]
      refine wpq_value rfl (.int .u8 (x : Nat)) (fun W hW => run_load_op _ rfl (HLX.out W hW)) ?_
      simp only [Act.put, List.setIfInBounds_toArray, List.set_cons_zero, List.set_cons_succ]
      refine wpq_value rfl (.int .u8 (r : Nat)) (fun W _ => by first | rfl | go_simp) ?_
      simp only [Act.put, List.setIfInBounds_toArray, List.set_cons_zero, List.set_cons_succ]
      refine wpq_value rfl (.int .u8 (r1 : Nat)) (fun W _ => by first | rfl | go_simp) ?_
      simp only [Act.put, List.setIfInBounds_toArray, List.set_cons_zero, List.set_cons_succ]
      refine wpq_value rfl (.string (tx6 [db])) (fun W _ => by first | rfl | go_simp) ?_
      simp only [Act.put, List.setIfInBounds_toArray, List.set_cons_zero, List.set_cons_succ]
      refine wpq_value rfl (.string (tx6 (cur ++ [da] ++ [db]))) (fun W _ => by rw [← tx6_app (cur ++ [da])]; exact run_add_op rfl rfl HZ2.out) ?_
      simp only [Act.put, List.setIfInBounds_toArray, List.set_cons_zero, List.set_cons_succ]
      refine wpq_value rfl (.string (tx6 (cur ++ [da] ++ [db]))) (fun W _ => by first | rfl | go_simp) ?_
      simp only [Act.put, List.setIfInBounds_toArray, List.set_cons_zero, List.set_cons_succ]
      refine wpQuiet_nil ?_
      intro w9 hk9
      have HK9 := hid (Same.trans HW.out hk9)
      clear hk9
      go_wp2_with fail
      go_roundg (gk - 1)
      case measure => have := HLT.out; omega
      case rel => exact ⟨i + 1, _, by have := HLT.out; omega, by omega, by go_num, rfl, HNX, HK9⟩
    · obtain rfl : i = 32 := by omega
      have hb : decide ((32 : Int) < 32) = false := by decide
      have HE : Hid (cur = macL k bd) := hid (by rw [HC.out, List.take_of_length_le (by rw [HML.out.1]; exact Nat.le_refl _), HMT.out])
      clear hlt
      go_wp2_with fail
      go_ret
      exact ⟨by rw [HE.out]; rfl, Same.trans HK5.out HW.out⟩

set_option maxRecDepth 100000 in
set_option maxHeartbeats 1000000 in
theorem rprint_ok (w : World) (t : ByteArray) (u s : Nat) (k : ByteArray) (hk : k.size ≤ 64) (hm : May6 t u s) :
    Calls Tryz.prog 11 #[clV t u s, .string k] w fun e w' => e = .returned (.tuple #[.string (tx6 (tokL t u s k)), .int .i64 0]) ∧ Same w w' := by
  obtain ⟨W1, hW1⟩ : ∃ W, W = w.alloc (.cells #[.string t, .int .i64 (u : Nat), .int .i64 (s : Nat)] 23) := ⟨_, rfl⟩
  obtain ⟨xb, hxb⟩ : ∃ b, b = w.heap.size := ⟨_, rfl⟩
  have HK1 : Hid (Same w W1) := hid (by rw [hW1]; exact (Kept.refl _ w).alloc _)
  have HB : Hid (Blk W1 xb #[.string t, .int .i64 (u : Nat), .int .i64 (s : Nat)] 23) := hid (by rw [hW1, hxb]; exact Blk.new w _ _)
  obtain ⟨x0, x1, x2, _, _, _⟩ := HB.out.c3
  have hts : t.size ≤ 16 := by have h1 := (sho_pt hm.1).2; have h2 : t.data.toList.length = t.size := Array.length_toList; omega
  have hus := hm.2
  have HM := rmay_any W1 t u s true (mayB_iff.2 hm)
  have HBO : Hid (∀ W, Same W1 W → Calls Tryz.prog 28 #[clV t u s] W fun e w' => e = .returned (.string (tx6 (bodL t u s))) ∧ Same W w') := hid (fun W _ => rbody_any W t u s (by omega) (by omega) (by omega))
  have hbl : (bodL t u s).length ≤ 200 := by rw [← bodI_nat]; have := bodI_length t u s (by omega) (by omega); omega
  have HDI : Hid (∀ W, Same W1 W → Calls Tryz.prog 29 #[.string (tx6 (bodL t u s)), .string k] W fun e w' => e = .returned (.string (tx6 (macL k (bodL t u s)))) ∧ Same W w') := hid (fun W _ => rdigits_any W (bodL t u s) k (by omega) (by omega))
  have HLD : Hid (∀ W, Same W1 W → (loadVar 23 ⟨xb, 0, none⟩).run Tryz.prog W = .ok (clV t u s) W) := hid (fun W hW => loadC16 (HB.out.kept hW (fun f => f)))
  have b1 : (k.size : Int) ≤ 64 := by omega
  have HBL : Hid ((tx6 (bodL t u s)).size ≤ 200000000) := hid (by rw [tx6_size]; omega)
  unfold clV at HM
  obtain ⟨cv, hcv⟩ : ∃ v, v = clV t u s := ⟨_, rfl⟩
  rw [← hcv] at HBO HLD
  unfold clV
  clear hk hm hcv hts hus hbl
  go_enter Tryz.func11, Tryz.ntmps11
  go_upto_region 1 with fail
  rw [← hW1, ← hxb]
  clear hW1 hxb
  go_wp2_with fail
  refine HM.mono ?_
  rintro e w2 ⟨rfl, hk2⟩
  have HK2 : Hid (Same W1 w2) := hk2
  clear hk2 HM
  go_wp2_with fail
  refine wp_region_same (by kernel_rfl) (by kernel_rfl) ?_
  refine wpq_value rfl (cv) (fun W hW => run_load_op _ rfl (HLD.out W (Same.trans HK2.out hW))) ?_
  simp only [Act.put, List.setIfInBounds_toArray, List.set_cons_zero, List.set_cons_succ]
  refine wpq_call rfl 28 #[cv] (.string (tx6 (bodL t u s))) (fun W => by go_simp) (calls_same (fun W hW => HBO.out W (Same.trans HK2.out hW))) ?_
  simp only [Act.put, List.setIfInBounds_toArray, List.set_cons_zero, List.set_cons_succ]
  refine wpq_value rfl (.string (tx6 (bodL t u s) ++ tx6 [46])) (fun W _ => run_add_op rfl rfl (by have := HBL.out; rw [tx6_size [46]]; simp; omega)) ?_
  simp only [Act.put, List.setIfInBounds_toArray, List.set_cons_zero, List.set_cons_succ]
  refine wpq_value rfl (cv) (fun W hW => run_load_op _ rfl (HLD.out W (Same.trans HK2.out hW))) ?_
  simp only [Act.put, List.setIfInBounds_toArray, List.set_cons_zero, List.set_cons_succ]
  refine wpq_call rfl 28 #[cv] (.string (tx6 (bodL t u s))) (fun W => by go_simp) (calls_same (fun W hW => HBO.out W (Same.trans HK2.out hW))) ?_
  simp only [Act.put, List.setIfInBounds_toArray, List.set_cons_zero, List.set_cons_succ]
  refine wpq_value rfl (.string k) (fun W _ => by first | rfl | go_simp) ?_
  simp only [Act.put, List.setIfInBounds_toArray, List.set_cons_zero, List.set_cons_succ]
  refine wpq_call rfl 29 #[.string (tx6 (bodL t u s)), .string k] (.string (tx6 (macL k (bodL t u s)))) (fun W => by go_simp) (calls_same (fun W hW => HDI.out W (Same.trans HK2.out hW))) ?_
  simp only [Act.put, List.setIfInBounds_toArray, List.set_cons_zero, List.set_cons_succ]
  refine wpq_value rfl (.string (tx6 (tokL t u s k))) (fun W _ => by rw [← tokL_sum]; exact run_add_op rfl rfl (by have := HBL.out; rw [ByteArray.size_append, tx6_size [46], tx6_size (macL _ _), macL_length]; simp; omega)) ?_
  simp only [Act.put, List.setIfInBounds_toArray, List.set_cons_zero, List.set_cons_succ]
  refine wpq_value rfl (.string (tx6 (tokL t u s k))) (fun W _ => by first | rfl | go_simp) ?_
  simp only [Act.put, List.setIfInBounds_toArray, List.set_cons_zero, List.set_cons_succ]
  refine wpq_value rfl (.int .i64 0) (fun W _ => by first | rfl | go_simp) ?_
  simp only [Act.put, List.setIfInBounds_toArray, List.set_cons_zero, List.set_cons_succ]
  refine wpQuiet_nil ?_
  intro w9 hk9
  have HK9 : Hid (Same w w9) := hid (Same.trans HK1.out (Same.trans HK2.out hk9))
  clear hk9
  go_wp2_with fail
  go_ret2
  exact ⟨rfl, HK9.out⟩

set_option maxRecDepth 100000 in
set_option maxHeartbeats 400000 in
theorem rprint_bad (w : World) (t : ByteArray) (u s : Int) (k : ByteArray) (hm : mayB t u s = false ∨ 64 < k.size) :
    Calls Tryz.prog 11 #[clV t u s, .string k] w fun e w' => e = .returned (.tuple #[.string ⟨#[]⟩, .int .i64 1]) ∧ Same w w' := by
  obtain ⟨W1, hW1⟩ : ∃ W, W = w.alloc (.cells #[.string t, .int .i64 u, .int .i64 s] 23) := ⟨_, rfl⟩
  obtain ⟨xb, hxb⟩ : ∃ b, b = w.heap.size := ⟨_, rfl⟩
  have HK1 : Hid (Same w W1) := hid (by rw [hW1]; exact (Kept.refl _ w).alloc _)
  have HB : Hid (Blk W1 xb #[.string t, .int .i64 u, .int .i64 s] 23) := hid (by rw [hW1, hxb]; exact Blk.new w _ _)
  obtain ⟨x0, x1, x2, _, _, _⟩ := HB.out.c3
  obtain ⟨mb, hmb⟩ : ∃ b, b = mayB t u s := ⟨_, rfl⟩
  have HM := rmay_any W1 t u s mb hmb.symm
  rw [← hmb] at hm
  have HMM := hid hm
  unfold clV at HM ⊢
  clear hmb hm
  go_enter Tryz.func11, Tryz.ntmps11
  go_upto_region 1 with fail
  rw [← hW1, ← hxb]
  clear hW1 hxb
  go_wp2_with fail
  refine HM.mono ?_
  rintro e w2 ⟨rfl, hk2⟩
  have HK2 : Hid (Same w w2) := Same.trans HK1.out hk2
  clear hk2 HM
  cases mb with
  | false =>
    go_wp2_with fail
    go_ret2
    exact ⟨rfl, HK2.out⟩
  | true =>
    have b1 : (64 : Int) < (k.size : Int) := by
      rcases HMM.out with e | e
      · cases e
      · omega
    go_wp2_with fail
    go_ret2
    exact ⟨rfl, HK2.out⟩

end Go.Proofs.YtfhfnkhiomahfaaGreatDoor

/-
  Layer 16, the reference: Parse.
-/
namespace Go.Proofs.YtfhfnkhiomahfaaGreatDoor
open Go.RowKit Go.Shelf

theorem rpar_prog {l : List UInt8} {p0 p1 p2 p3 : ByteArray} (h4 : splC l = [p0.data.toList, p1.data.toList, p2.data.toList, p3.data.toList]) :
    ∀ t u s m, ParR l t u s m → isM p3.data.toList = true ∧ mayB p0 (valR p1.data.toList) (valR p2.data.toList) = true := by
  intro t u s m h
  have e := h4.symm.trans h.spl
  simp only [List.cons.injEq, and_true] at e
  obtain ⟨e0, e1, e2, e3⟩ := e
  have e0' := data_inj e0
  subst e0'
  have hu := h.1.2.1
  have hs := h.1.2.2
  rw [e1, e2, e3, valR_dec u (by omega), valR_dec s (by omega)]
  exact ⟨h.2.1, mayB_iff.2 h.1⟩

theorem rpar_good {l : List UInt8} {p0 p1 p2 p3 : ByteArray} (h4 : splC l = [p0.data.toList, p1.data.toList, p2.data.toList, p3.data.toList]) (hi : isM p3.data.toList = true) (hm : mayB p0 (valR p1.data.toList) (valR p2.data.toList) = true) :
    ∃ u s : Nat, valR p1.data.toList = (u : Int) ∧ valR p2.data.toList = (s : Int) ∧ ParR l p0 u s p3.data.toList := by
  have hm' := mayB_iff.1 hm
  obtain ⟨u, hu⟩ : ∃ u : Nat, valR p1.data.toList = (u : Int) := ⟨(valR p1.data.toList).toNat, by have := hm'.2.1; omega⟩
  obtain ⟨s, hs⟩ : ∃ s : Nat, valR p2.data.toList = (s : Int) := ⟨(valR p2.data.toList).toNat, by have := hm'.2.2; omega⟩
  rw [hu, hs] at hm'
  exact ⟨u, s, hu, hs, par_mk h4 (dec_valR hu) (dec_valR hs) hm' hi⟩

set_option maxRecDepth 100000 in
set_option maxHeartbeats 1000000 in
theorem rparse_any (w : World) (s : ByteArray) : Calls Tryz.prog 13 #[.string s] w fun e w' => ParA s.data.toList e ∧ Same w w' := by
  obtain ⟨W1, hW1⟩ : ∃ W, W = w.alloc (.cells #[.string ⟨#[]⟩, .int .i64 0, .int .i64 0] 23) := ⟨_, rfl⟩
  obtain ⟨xb, hxb⟩ : ∃ b, b = w.heap.size := ⟨_, rfl⟩
  have HK1 : Hid (Same w W1 ∧ w.heap.size ≤ xb) := hid ⟨by rw [hW1]; exact (Kept.refl _ w).alloc _, by omega⟩
  have HB : Hid (Blk W1 xb #[.string ⟨#[]⟩, .int .i64 0, .int .i64 0] 23) := hid (by rw [hW1, hxb]; exact Blk.new w _ _)
  have HSL : Hid (s.data.toList.length = s.size) := hid Array.length_toList
  by_cases h256 : 256 < s.size
  · have HN : Hid (∀ t u s' m, ¬ ParR s.data.toList t u s' m) := hid (fun t u s' m hp => by have := hp.len; have := HSL.out; omega)
    have b1 : (256 : Int) < (s.size : Int) := by omega
    obtain ⟨y0, y1, y2, z0, z1, z2⟩ := HB.out.c3
    clear h256
    go_enter Tryz.func13, Tryz.ntmps13
    go_upto_region 1 with fail
    rw [← hW1, ← hxb]
    clear hW1 hxb
    go_wp2_with fail
    refine bodyPost_ret (v := .tuple #[clV ⟨#[]⟩ 0 0, .string ⟨#[]⟩, .int .i64 160]) (by rw [results_16 (p := 2) (a := 3) (b := 4) (ty := 23) rfl _ _ _ _ _ ⟨xb, 0, none⟩ _ rfl (loadC16 (set16 HB.out).1)]; rfl) rfl ?_
    exact ⟨.inr ⟨HN.out, rfl⟩, par_refuse HK1.out.1 HK1.out.2 HB.out⟩
  · have b1' : decide ((256 : Int) < (s.size : Int)) = false := by simp; omega
    have HSP := rparts_any W1 s (by omega)
    clear h256
    go_enter Tryz.func13, Tryz.ntmps13
    go_upto_region 1 with fail
    rw [← hW1, ← hxb]
    clear hW1 hxb
    go_wp2_with fail
    refine HSP.mono ?_
    rintro e w2 ⟨v, D, rfl, hr2, hD, hk2⟩
    obtain ⟨ao, cap, ev, hne, _, hcap⟩ := hr2.shape
    subst ev
    have HD := hid hD
    have HR2 := hid hr2
    have HB2 := hid (HB.out.kept hk2 (fun f => f))
    have HK2 := hid (Same.trans HK1.out.1 hk2)
    have HNE := hid hne
    obtain ⟨n, hn⟩ : ∃ n, n = D.length := ⟨_, rfl⟩
    rw [← hn] at HR2 ⊢
    clear hk2 HSP HB hr2 hD hne hcap
    by_cases h4 : n = 4
    case neg =>
      have b2 : ((n : Int) == 4) = false := by simp; omega
      have b3 : (n == 4) = false := by simpa using h4
      have b4 : ((n : Int) != 4) = true := by simp; omega
      have HN : Hid (∀ t u s' m, ¬ ParR s.data.toList t u s' m) := hid (fun t u s' m hp => by
        have e := HD.out.trans hp.spl
        have e2 := congrArg List.length e
        simp only [List.length_map, List.length_cons, List.length_nil] at e2
        omega)
      obtain ⟨y0, y1, y2, z0, z1, z2⟩ := HB2.out.c3
      clear h4 hn
      go_wp2_with fail
      refine bodyPost_ret (v := .tuple #[clV ⟨#[]⟩ 0 0, .string ⟨#[]⟩, .int .i64 160]) (by rw [results_16 (p := 2) (a := 3) (b := 4) (ty := 23) rfl _ _ _ _ _ ⟨xb, 0, none⟩ _ rfl (loadC16 (set16 HB2.out).1)]; rfl) rfl ?_
      exact ⟨.inr ⟨HN.out, rfl⟩, par_refuse HK2.out HK1.out.2 HB2.out⟩
    case pos =>
      subst h4
      obtain ⟨p0, p1, p2, p3, e4⟩ := list4 hn.symm
      subst e4
      simp only [List.map_cons, List.map_nil] at HD
      obtain ⟨g, rfl⟩ := HNE.out (by simp)
      have HPP := hid (rpar_prog HD.out.symm)
      have HPG := hid (rpar_good HD.out.symm)
      have HCL : Hid (∀ W, Same w2 W → W.cell? ⟨g, 0, none⟩ = some (.string p0) ∧ W.cell? ⟨g, 1, none⟩ = some (.string p1) ∧ W.cell? ⟨g, 2, none⟩ = some (.string p2) ∧ W.cell? ⟨g, 3, none⟩ = some (.string p3)) := hid (fun W hW => by
        have hb := HR2.out.kept hW (fun _ _ f => f)
        exact ⟨hb.cell stE_ok 0 0 (by simp) (by decide), hb.cell stE_ok 1 0 (by simp) (by decide), hb.cell stE_ok 2 0 (by simp) (by decide), hb.cell stE_ok 3 0 (by simp) (by decide)⟩)
      obtain ⟨k0, k1, k2, k3⟩ := HCL.out w2 (Kept.refl _ _)
      obtain ⟨u, hu⟩ : ∃ u, u = valR p1.data.toList := ⟨_, rfl⟩
      obtain ⟨v, hv⟩ : ∃ u, u = valR p2.data.toList := ⟨_, rfl⟩
      rw [← hu, ← hv] at HPP HPG
      have HUV : Hid (u = valR p1.data.toList ∧ v = valR p2.data.toList) := hid ⟨hu, hv⟩
      obtain ⟨W3, hW3⟩ : ∃ W, W = (w2.alloc (.cells #[.string p0, .int .i64 u, .int .i64 v] 23)).drew := ⟨_, rfl⟩
      obtain ⟨cb, hcb⟩ : ∃ b, b = w2.heap.size := ⟨_, rfl⟩
      have hk3 : Same w2 W3 := by rw [hW3]; exact ((Kept.refl _ w2).alloc _).drew
      have HC3 : Hid (Blk W3 cb #[.string p0, .int .i64 u, .int .i64 v] 23) := hid (by rw [hW3, hcb]; exact (Blk.new w2 _ _).kept (show Same _ (World.drew _) from (Kept.refl _ _).drew) (fun f => f))
      have HB3 := hid (HB2.out.kept hk3 (fun f => f))
      have HK3 := hid (Same.trans HK2.out hk3)
      have HCL3 : Hid (∀ W, Same W3 W → W.cell? ⟨g, 3, none⟩ = some (.string p3)) := hid (fun W hW => (HCL.out W (Same.trans hk3 hW)).2.2.2)
      have HW3 := hid hW3
      have HCB := hid hcb
      obtain ⟨mb, hmb⟩ : ∃ b, b = mayB p0 u v := ⟨_, rfl⟩
      obtain ⟨im, him⟩ : ∃ b, b = isM p3.data.toList := ⟨_, rfl⟩
      have HMB := rmay_any W3 p0 u v mb hmb.symm
      have HIM : Hid (∀ W, Calls Tryz.prog 36 #[.string p3] W fun e w' => e = .returned (.bool im) ∧ w' = W) := hid (fun W => by rw [him]; exact rmacB_any W p3)
      rw [← hmb, ← him] at HPP HPG
      unfold clV at HMB
      clear hn hu hv hk3 hW3 hcb hmb him
      go_upto_region 6 with fail
      go_region_held3 (fun w' => w'.cell? ⟨g, 0, none⟩ = some (.string p0) ∧ w'.cell? ⟨g, 1, none⟩ = some (.string p1) ∧ w'.cell? ⟨g, 2, none⟩ = some (.string p2))
        (first
          | go_keep
          | (go_split_ands; exact ⟨(show Same _ _ from (Kept.refl _ _).alloc _).cell (by assumption) (fun f => f), (show Same _ _ from (Kept.refl _ _).alloc _).cell (by assumption) (fun f => f), (show Same _ _ from (Kept.refl _ _).alloc _).cell (by assumption) (fun f => f)⟩))
        (first
          | (go_at_call 35; refine (rvalue_any _ _).mono ?_; rintro e wk ⟨rfl, rfl⟩))
      all_goals
        rw [← HUV.out.1, ← HUV.out.2, ← HW3.out, ← HCB.out]
        obtain ⟨c0, c1, c2, _, _, _⟩ := HC3.out.c3
        clear HW3 HCB k0 k1 k2 k3
        go_wp2_with fail
        refine HMB.mono ?_
        rintro e w4 ⟨rfl, hk4⟩
        have HC4 := hid (HC3.out.kept hk4 (fun f => f))
        have HB4 := hid (HB3.out.kept hk4 (fun f => f))
        have HK4 := hid (Same.trans HK3.out hk4)
        have k3 := HCL3.out w4 hk4
        obtain ⟨y0, y1, y2, z0, z1, z2⟩ := HB4.out.c3
        clear hk4 HMB c0 c1 c2
        cases mb with
        | false =>
          go_wp2_with fail
          refine bodyPost_ret (v := .tuple #[clV ⟨#[]⟩ 0 0, .string ⟨#[]⟩, .int .i64 160]) (by rw [results_16 (p := 2) (a := 3) (b := 4) (ty := 23) rfl _ _ _ _ _ ⟨xb, 0, none⟩ _ rfl (loadC16 (set16 HB4.out).1)]; rfl) rfl ?_
          exact ⟨.inr ⟨fun t u s' m hp => (by have := (HPP.out t u s' m hp).2; cases this), rfl⟩, par_refuse HK4.out HK1.out.2 HB4.out⟩
        | true =>
          go_wp2_with fail
          refine (HIM.out _).mono ?_
          rintro e w5 ⟨rfl, rfl⟩
          cases im with
          | false =>
            go_wp2_with fail
            refine bodyPost_ret (v := .tuple #[clV ⟨#[]⟩ 0 0, .string ⟨#[]⟩, .int .i64 160]) (by rw [results_16 (p := 2) (a := 3) (b := 4) (ty := 23) rfl _ _ _ _ _ ⟨xb, 0, none⟩ _ rfl (loadC16 (set16 HB4.out).1)]; rfl) rfl ?_
            exact ⟨.inr ⟨fun t u s' m hp => (by have := (HPP.out t u s' m hp).1; cases this), rfl⟩, par_refuse HK4.out HK1.out.2 HB4.out⟩
          | true =>
            have HG9 := hid (HPG.out (by simp) (by simp))
            obtain ⟨c0, c1, c2, _, _, _⟩ := HC4.out.c3
            go_wp2_with fail
            go_region
            go_wp2_with fail
            refine bodyPost_ret (v := .tuple #[clV p0 u v, .string p3, .int .i64 0]) (by rw [results_16 (p := 2) (a := 3) (b := 4) (ty := 23) rfl _ _ _ _ _ ⟨xb, 0, none⟩ _ rfl (loadC16 ((set16 (x0 := .string p0) (x1 := .int .i64 u) (x2 := .int .i64 v) HB4.out).1.kept (show Same _ (World.drew _) from (Kept.refl _ _).drew) (fun f => f)))]; rfl) rfl ?_
            obtain ⟨u', s', hu', hs', hp⟩ := HG9.out
            exact ⟨.inl ⟨p0, u', s', p3.data.toList, hp, by rw [hu', hs', tx6_of]⟩, (par_refuse HK4.out HK1.out.2 HB4.out).drew⟩

end Go.Proofs.YtfhfnkhiomahfaaGreatDoor

/-
  TokenParses' walk.
-/
namespace Go.Proofs.YtfhfnkhiomahfaaGreatDoor
open Go.RowKit Go.Shelf

theorem both_parse (w : World) (hW : W6 w) (x : ByteArray) : ∃ (t m : ByteArray) (u s z : Int), (∀ W, Same w W → Calls Tryz.prog 12 #[.string x] W fun e w' => e = .returned (.tuple #[.agg #[.string t, .int .i64 u, .int .i64 s], .string m, .int .i64 z]) ∧ Same W w') ∧ (∀ W, Same w W → Calls Tryz.prog 13 #[.string x] W fun e w' => e = .returned (.tuple #[.agg #[.string t, .int .i64 u, .int .i64 s], .string m, .int .i64 z]) ∧ Same W w') := by
  by_cases hp : ∃ t u s m, ParR x.data.toList t u s m
  · obtain ⟨t, u, s, m, hp⟩ := hp
    refine ⟨t, tx6 m, u, s, 0, fun W hk => parse_ok W (hW.same hk) x hp, fun W _ => (rparse_any W x).mono fun e w' ⟨ha, hk⟩ => ?_⟩
    rcases ha with ⟨t', u', s', m', hp', rfl⟩ | ⟨hn, _⟩
    · obtain ⟨rfl, rfl, rfl, rfl⟩ := hp.det hp'
      exact ⟨rfl, hk⟩
    · exact absurd hp (hn _ _ _ _)
  · refine ⟨⟨#[]⟩, ⟨#[]⟩, 0, 0, 160, fun W hk => parse_no W (hW.same hk) x (fun t u s m h => hp ⟨t, u, s, m, h⟩), fun W _ => (rparse_any W x).mono fun e w' ⟨ha, hk⟩ => ?_⟩
    rcases ha with ⟨t', u', s', m', hp', _⟩ | ⟨_, rfl⟩
    · exact absurd ⟨t', u', s', m', hp'⟩ hp
    · exact ⟨rfl, hk⟩

set_option maxRecDepth 100000 in
set_option maxHeartbeats 1000000 in
theorem parses16 (w : World) (hW : W6 w) (x : ByteArray) : Calls Tryz.prog 4 #[.string x] w fun e w' => e = .returned (.bool true) ∧ Same w w' := by
  have HW := hid hW
  by_cases hb : 1048576 < x.size
  · have b1 : (1048576 : Int) < (x.size : Int) := by omega
    have HA := awake_any w hW
    clear hb hW
    go_enter Tryz.func4, Tryz.ntmps4
    go_wp2_with fail
    refine HA.mono ?_
    rintro e w2 ⟨rfl, hk2⟩
    have HK2 := hid hk2
    clear hk2 HA
    go_wp2_with fail
    go_ret
    exact ⟨rfl, HK2.out⟩
  · have b1 : decide ((1048576 : Int) < (x.size : Int)) = false := by simp; omega
    obtain ⟨t, m, u, s, z, h1, h2⟩ := both_parse w hW x
    have H1 := hid h1
    have H2 := hid h2
    clear hb hW h1 h2
    go_enter Tryz.func4, Tryz.ntmps4
    go_wp2_with fail
    refine (H1.out w (Kept.refl _ _)).mono ?_
    rintro e w2 ⟨rfl, hk2⟩
    obtain ⟨W3, hW3⟩ : ∃ W, W = w2.alloc (.cells #[.string t, .int .i64 u, .int .i64 s] 23) := ⟨_, rfl⟩
    obtain ⟨g, hg⟩ : ∃ g, g = w2.heap.size := ⟨_, rfl⟩
    have HG : Hid (Blk W3 g #[.string t, .int .i64 u, .int .i64 s] 23) := hid (by rw [hW3, hg]; exact Blk.new w2 _ _)
    have HK3 : Hid (Same w W3) := hid (by rw [hW3]; exact hk2.alloc _)
    clear hk2
    go_upto_region 4 with fail
    rw [← hW3, ← hg]
    clear hW3 hg
    go_wp2_with fail
    refine (H2.out W3 HK3.out).mono ?_
    rintro e w4 ⟨rfl, hk4⟩
    obtain ⟨W5, hW5⟩ : ∃ W, W = w4.alloc (.cells #[.string t, .int .i64 u, .int .i64 s] 23) := ⟨_, rfl⟩
    obtain ⟨g2, hg2⟩ : ∃ g, g = w4.heap.size := ⟨_, rfl⟩
    have hk5 : Same W3 W5 := by rw [hW5]; exact hk4.alloc _
    have HG5 := hid (HG.out.kept hk5 (fun f => f))
    have HH5 : Hid (Blk W5 g2 #[.string t, .int .i64 u, .int .i64 s] 23) := hid (by rw [hW5, hg2]; exact Blk.new w4 _ _)
    have HK5 := hid (Same.trans HK3.out hk5)
    have HA := awake_any W5 (HW.out.same HK5.out)
    clear hk4 hk5
    go_upto_region 5 with fail
    rw [← hW5, ← hg2]
    clear hW5 hg2
    go_wp2_with fail
    refine HA.mono ?_
    rintro e w6 ⟨rfl, hk6⟩
    obtain ⟨a0, a1, a2, _, _, _⟩ := (HG5.out.kept hk6 (fun f => f)).c3
    obtain ⟨d0, d1, d2, _, _, _⟩ := (HH5.out.kept hk6 (fun f => f)).c3
    have HK6 := hid (Same.trans HK5.out hk6)
    clear hk6 HA
    go_wp2_with fail
    go_ret
    exact ⟨rfl, HK6.out⟩

theorem tokenParses_all (x : ByteArray) (W : World) (_hx : x.size ≤ maxLen) (hT : W6 W) :
    Calls Tryz.prog 4 #[.string x] W fun e W' => e = .returned (.bool true) ∧ Below W.heap.size W W' :=
  (parses16 W hT x).mono fun _ _ ⟨he, hk⟩ => ⟨he, Kept.below hk (Nat.le_refl _) (fun _ _ f => f)⟩

end Go.Proofs.YtfhfnkhiomahfaaGreatDoor
