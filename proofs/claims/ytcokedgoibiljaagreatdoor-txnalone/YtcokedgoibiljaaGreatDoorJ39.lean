/-
  Of the proof: parts ZpI.
-/
import Derived.RangeFuncBox
import Derived.Laws.BitsAllLaws
import Derived.RangeFuncLeaves
import Derived.Shelf.Abstract
import Derived.WalkKit
import Derived.OwnWalkIn
import Derived.TacticsInMore
import Derived.LoopNIn
import Derived.LoopIn
import Derived.WalkLawsBesides
import Derived.Laws.ResultCell
import Derived.Laws.BytesArg
import Derived.Laws.IdiomStrings
import Derived.Laws.AppendOwn
import Derived.Laws.StructEq
import Derived.Lib.Strings
import Derived.Deep.RegionHeld3
import Derived.RegionDies
import Derived.Lib.SplitLaws
import Derived.Test.YtcokedgoibiljaaGreatDoorJ3
import Derived.Test.YtcokedgoibiljaaGreatDoorJ25
import Derived.Test.YtcokedgoibiljaaGreatDoorJ2
import Derived.Test.YtcokedgoibiljaaGreatDoorJ28

/-
  The program's layer 8: names.
-/
namespace Go.Proofs.YtcokedgoibiljaaGreatDoor
open Go.RowKit

theorem splitK_eq (k : Nat) (l : List UInt8) : Lib.splitK [47] 0 (k + 1) (47 :: l) = [] :: Lib.splitK [47] 0 k l := by
  have h : Lib.index (47 :: l) [47] = 0 := by rw [Lib.index_one]; simp [Lib.indexByte]
  rw [Lib.splitK, h]
  simp

theorem splitK_ne (b : UInt8) (hb : b ≠ 47) (k : Nat) (l : List UInt8) : ∃ p ps, Lib.splitK [47] 0 k l = p :: ps ∧ Lib.splitK [47] 0 k (b :: l) = (b :: p) :: ps := by
  cases k with
  | zero => exact ⟨l, [], rfl, rfl⟩
  | succ k =>
    have h1 : Lib.index (b :: l) [47] = if Lib.index l [47] == -1 then -1 else Lib.index l [47] + 1 := by
      rw [Lib.index_one, Lib.index_one, Lib.indexByte, if_neg (by simpa using hb)]
    have hge := Lib.index_ge l [47]
    by_cases h : Lib.index l [47] = -1
    · refine ⟨l, [], ?_, ?_⟩
      · rw [Lib.splitK, if_pos (by simp [h])]
      · rw [Lib.splitK, h1, h]; simp
    · obtain ⟨i, hi⟩ : ∃ i : Nat, Lib.index l [47] = (i : Int) := ⟨(Lib.index l [47]).toNat, by omega⟩
      have hne : ¬ ((i : Int) == -1) = true := by simp
      refine ⟨l.take (i + 0), Lib.splitK [47] 0 k (l.drop (i + 1)), ?_, ?_⟩
      · rw [Lib.splitK, hi, if_neg hne]; simp
      · rw [Lib.splitK, h1, hi, if_neg hne, if_neg (by simp; omega)]
        have e : ((i : Int) + 1).toNat = i + 1 := by omega
        rw [e]
        simp

theorem split_spl (l : List UInt8) : (Lib.splitK [47] 0 (l.count 47) l).map (·.map UInt8.toNat) = spl8 (l.map UInt8.toNat) := by
  induction l with
  | nil => rfl
  | cons b r ih =>
    by_cases hb : b = 47
    · subst hb
      rw [List.count_cons_self, splitK_eq, List.map_cons, List.map_cons, spl8, if_pos (by decide), ih]
      rfl
    · obtain ⟨p, ps, h1, h2⟩ := splitK_ne b hb (r.count 47) r
      rw [List.count_cons_of_ne (by simpa using hb), h2, List.map_cons]
      rw [h1, List.map_cons] at ih
      have hb' : b.toNat ≠ 47 := fun e => hb (by have := congrArg UInt8.ofNat e; simpa using this)
      have e := spl8_cons hb' ih.symm
      show _ = spl8 (b.toNat :: List.map UInt8.toNat r)
      rw [e]
      rfl

def lets8 : List UInt8 := [97, 98, 99, 100, 101, 102, 103, 104, 105, 106, 107, 108, 109, 110, 111, 112, 113, 114, 115, 116, 117, 118, 119, 120, 121, 122, 48, 49, 50, 51, 52, 53, 54, 55, 56, 57, 46, 95, 45]

theorem lets_fin : ∀ n : Fin 256, lets8.contains (UInt8.ofNat n.val) = let8 n.val := by decide +kernel

theorem lets_is (b : UInt8) : lets8.contains b = let8 b.toNat := by
  have := lets_fin ⟨b.toNat, b.toNat_lt⟩
  simpa using this

theorem trim_nil (l : List UInt8) : Lib.trimS l lets8 = [] ↔ (l.map UInt8.toNat).all let8 = true := by
  have hall : (l.map UInt8.toNat).all let8 = l.all (lets8.contains ·) := by
    rw [List.all_map]
    congr 1
    funext b
    exact (lets_is b).symm
  rw [hall]
  unfold Lib.trimS Lib.trimLeftS Lib.trimRightS
  constructor
  · intro h
    have hd : ∀ (q : UInt8 → Bool) (m : List UInt8), m.dropWhile q = [] → m.all q = true := by
      intro q m hm
      induction m with
      | nil => rfl
      | cons x r ih =>
        rw [List.dropWhile_cons] at hm
        split at hm
        · rename_i hx; simp [hx, ih hm]
        · cases hm
    have h1 := hd _ _ h
    cases hr : l.reverse.dropWhile (lets8.contains ·) with
    | nil =>
      have := hd _ _ hr
      rw [List.all_reverse] at this
      exact this
    | cons x r =>
      exfalso
      have hx := List.head_dropWhile_not (p := (lets8.contains ·)) (l := l.reverse) (by rw [hr]; simp)
      have e : (l.reverse.dropWhile (lets8.contains ·)).head (by rw [hr]; simp) = x := by simp only [hr, List.head_cons]
      rw [e] at hx
      rw [hr] at h1
      have h2 : lets8.contains x = true := by
        rw [List.all_eq_true] at h1
        exact h1 x (by simp)
      rw [h2] at hx
      cases hx
  · intro h
    have hr : l.reverse.dropWhile (lets8.contains ·) = [] := by
      have h2 : l.reverse.all (lets8.contains ·) = true := by rw [List.all_reverse]; exact h
      generalize l.reverse = m at h2
      induction m with
      | nil => rfl
      | cons x r ih =>
        simp only [List.all_cons, Bool.and_eq_true] at h2
        rw [List.dropWhile_cons, if_pos h2.1]
        exact ih h2.2
    rw [hr]
    rfl

/-- The parts of a text. -/
def prts (s : ByteArray) : List ByteArray := Lib.splitB ⟨#[47]⟩ 0 (Lib.countB s ⟨#[47]⟩) s

theorem prts_spl (s : ByteArray) : (prts s).map sb = spl8 (sb s) := by
  have h := Lib.splitB_data ⟨#[47]⟩ 0 (Lib.countB s ⟨#[47]⟩) s
  have h2 := split_spl s.data.toList
  have e : Lib.countB s ⟨#[47]⟩ = s.data.toList.count 47 := Lib.count_one 47 _
  rw [← e, ← h, List.map_map] at h2
  exact h2

theorem prts_len (s : ByteArray) : (prts s).length = Lib.countB s ⟨#[47]⟩ + 1 := Lib.splitB_all ⟨#[47]⟩ (by decide) 0 _ s rfl

theorem map_toNat_inj : ∀ {l m : List UInt8}, l.map UInt8.toNat = m.map UInt8.toNat → l = m
  | [], [], _ => rfl
  | [], _ :: _, h => by simp at h
  | _ :: _, [], h => by simp at h
  | a :: l, b :: m, h => by
    simp only [List.map_cons, List.cons.injEq] at h
    rw [UInt8.toNat_inj.1 h.1, map_toNat_inj h.2]

/-- A part, as the program looks at it. -/
theorem part_is (t : ByteArray) : okp8 (sb t) = (!t.toList.isEmpty && !(t.toList == [46]) && !(t.toList == [46, 46]) && (⟨(Lib.trimS t.data.toList lets8).toArray⟩ : ByteArray).toList.isEmpty) := by
  have hm : ∀ l m : List UInt8, (l.map UInt8.toNat == m.map UInt8.toNat) = (l == m) := by
    intro l m
    by_cases h : l = m
    · subst h; simp
    · have h2 : l.map UInt8.toNat ≠ m.map UInt8.toNat := fun e => h (map_toNat_inj e)
      rw [beq_eq_false_iff_ne.2 h, beq_eq_false_iff_ne.2 h2]
  have h0 : t.toList.isEmpty = (sb t == []) := by
    rw [Lib.toList_data]
    have := hm t.data.toList []
    unfold sb
    rw [show ([] : List Nat) = ([] : List UInt8).map UInt8.toNat from rfl, this]
    cases t.data.toList <;> rfl
  have h1 : (t.toList == [46]) = (sb t == [46]) := by rw [Lib.toList_data]; exact (hm t.data.toList [46]).symm
  have h2 : (t.toList == [46, 46]) = (sb t == [46, 46]) := by rw [Lib.toList_data]; exact (hm t.data.toList [46, 46]).symm
  have h3 : (⟨(Lib.trimS t.data.toList lets8).toArray⟩ : ByteArray).toList.isEmpty = (sb t).all let8 := by
    rw [Lib.toList_data]
    show (Lib.trimS t.data.toList lets8).isEmpty = _
    have := trim_nil t.data.toList
    unfold sb
    cases h4 : (List.map UInt8.toNat t.data.toList).all let8 with
    | true => rw [this.2 h4]; rfl
    | false =>
      cases h5 : Lib.trimS t.data.toList lets8 with
      | nil => rw [this.1 h5] at h4; cases h4
      | cons x r => rfl
  rw [h0, h1, h2, h3]
  rfl

theorem nam_bad {s t : ByteArray} {n i : Nat} (h : nam8 (sb s) = (prts s).all (fun t => okp8 (sb t))) (hn : n = (prts s).length) (ht : t = (prts s).getD i ⟨#[]⟩ ∧ i < n) (hb : okp8 (sb t) = false) : nam8 (sb s) = false := by
  rw [h, List.all_eq_false]
  refine ⟨t, ?_, by rw [hb]; simp⟩
  rw [ht.1, List.getD_eq_getElem?_getD, List.getElem?_eq_getElem (by omega)]
  exact List.getElem_mem _

theorem spl8_len (l : List Nat) : ∀ p ∈ spl8 l, p.length ≤ l.length := by
  induction l with
  | nil => intro p hp; simp [spl8] at hp; subst hp; simp
  | cons c r ih =>
    intro p hp
    by_cases hc : c = 47
    · rw [spl8, if_pos hc] at hp
      rcases List.mem_cons.1 hp with rfl | hp
      · simp
      · have := ih p hp; simp; omega
    · obtain ⟨q, qs, hq⟩ := spl8_ne r
      rw [spl8_cons hc hq] at hp
      rcases List.mem_cons.1 hp with rfl | hp
      · have := ih q (by rw [hq]; simp); simp; omega
      · have := ih p (by rw [hq]; simp [hp]); simp; omega

theorem prt_size {s t : ByteArray} {i n : Nat} (hn : n = (prts s).length) (ht : t = (prts s).getD i ⟨#[]⟩ ∧ i < n) : t.size ≤ s.size := by
  have h1 : sb t ∈ spl8 (sb s) := by
    rw [← prts_spl]
    refine List.mem_map.2 ⟨t, ?_, rfl⟩
    rw [ht.1, List.getD_eq_getElem?_getD, List.getElem?_eq_getElem (by omega)]
    exact List.getElem_mem _
  have := spl8_len _ _ h1
  rw [sb_size, sb_size] at this
  exact this

set_option maxRecDepth 100000 in
set_option maxHeartbeats 400000 in
theorem name_any (w : World) (s : ByteArray) (hx : Mxl w) :
    Calls Tryz.prog 107 #[.string s] w fun e w' => e = .returned (.bool (nam8 (sb s))) ∧ Same w w' := by
  obtain ⟨mx, hmx⟩ := hx
  have hsz := sb_size s
  by_cases hbig : 64 < s.size
  · have b1 : (64 : Int) < (s.size : Int) := by omega
    have HN : Hid (nam8 (sb s) = false) := hid (by unfold nam8; rw [hsz]; simp; omega)
    clear hmx hsz hbig
    go_enter Tryz.func107, Tryz.ntmps107
    go_wp2_with fail
    go_ret
    exact ⟨by rw [HN.out]; rfl, Kept.refl _ _⟩
  · have b1 : (s.size : Int) ≤ (64 : Int) := by omega
    obtain ⟨n, hn⟩ : ∃ n, n = (prts s).length := ⟨_, rfl⟩
    have hcn : Lib.countB s ⟨#[47]⟩ + 1 = n := by rw [hn, prts_len]
    have HSP := Any.strings_Split Tryz.lays146 (by kernel_rfl) s ⟨#[47]⟩ mx w (by omega) hmx (by decide)
    rw [hcn] at HSP
    have HN : Hid (nam8 (sb s) = (prts s).all (fun t => okp8 (sb t))) := hid (by
      unfold nam8
      rw [hsz, ← prts_spl, List.all_map]
      have : decide (s.size ≤ 64) = true := by simp; omega
      rw [this]; rfl)
    have HLN : Hid (n = (prts s).length ∧ n ≤ 65) := hid ⟨hn, by rw [← hcn]; have := Lib.countB_le ⟨#[47]⟩ (by decide) s.size s (Nat.le_refl _); omega⟩
    obtain ⟨h0, hh0⟩ : ∃ h0, h0 = w.heap.size := ⟨_, rfl⟩
    rw [← hh0] at HSP
    have HCL : Hid (∀ j, j < n → (w.alloc (.cells ((prts s).map Value.string).toArray 9)).cell? ⟨h0, j, none⟩ = some (.string ((prts s).getD j ⟨#[]⟩))) := hid (by
      intro j hj
      have hb := Blk.new w ((prts s).map Value.string).toArray 9
      have h9 := hb.cell j
      rw [hh0, h9]
      simp [List.getD_eq_getElem?_getD, List.getElem?_eq_getElem (show j < (prts s).length by omega)])
    clear hmx hsz hbig hn hcn
    go_enter Tryz.func107, Tryz.ntmps107
    go_wp2_with fail
    refine HSP.mono ?_
    rintro x w1 ⟨rfl, hw1⟩
    have HK1 : Hid (Same w w1) := hid (by rw [hw1]; exact (Kept.refl _ _).alloc _)
    have HC1 : Hid (∀ j, j < n → w1.cell? ⟨h0, j, none⟩ = some (.string ((prts s).getD j ⟨#[]⟩))) := hid (by rw [hw1]; exact HCL.out)
    clear hw1 HCL hh0 HSP
    go_wp2_with fail
    go_loopg [11] n (fun qq z11 wr => ∃ i : Nat, z11 = .int .i64 (i : Nat) ∧ i ≤ n ∧ n - i ≤ qq ∧ Hid (∀ j, j < i → okp8 (sb ((prts s).getD j ⟨#[]⟩)) = true) ∧ Hid (Same w1 wr))
    case atStart => exact ⟨0, rfl, by omega, by omega, hid (fun j hj => by omega), hid (Kept.refl _ _)⟩
    case round =>
      obtain ⟨i, rfl, hi1, hiq, HOK, HKi⟩ := hrel
      by_cases hi : i < n
      · have hli : decide (i < n) = true := by simp; omega
        obtain ⟨t, ht⟩ : ∃ t, t = (prts s).getD i ⟨#[]⟩ := ⟨_, rfl⟩
        have hc := HKi.out.cell (HC1.out i hi) (fun f => f)
        rw [← ht] at hc
        have HP : Hid _ := hid (part_is t)
        have HTT : Hid (t = (prts s).getD i ⟨#[]⟩ ∧ i < n) := hid ⟨ht, hi⟩
        have hiw : IntKind.i64.wrap ((i : Int) + 1) = ((i + 1 : Nat) : Int) := by rw [IntKind.wrap_i64]; have := HLN.out.2; omega
        have h64 : n ≤ 65 := HLN.out.2
        clear ht HC1
        cases B1 : t.toList.isEmpty with
        | true =>
          go_wp2_with fail
          go_ret
          refine ⟨?_, Same.trans HK1.out HKi.out⟩
          rw [nam_bad HN.out HLN.out.1 HTT.out (by rw [HP.out, B1]; rfl)]
          rfl
        | false =>
          cases B2 : (t.toList == [46]) with
          | true =>
            go_wp2_with fail
            go_ret
            refine ⟨?_, Same.trans HK1.out HKi.out⟩
            rw [nam_bad HN.out HLN.out.1 HTT.out (by rw [HP.out, B1, B2]; rfl)]
            rfl
          | false =>
            cases B3 : (t.toList == [46, 46]) with
            | true =>
              go_wp2_with fail
              go_ret
              refine ⟨?_, Same.trans HK1.out HKi.out⟩
              rw [nam_bad HN.out HLN.out.1 HTT.out (by rw [HP.out, B1, B2, B3]; rfl)]
              rfl
            | false =>
              have HTR := Any.strings_Trim_laid Tryz.lays160 (by kernel_rfl) t ⟨#[97, 98, 99, 100, 101, 102, 103, 104, 105, 106, 107, 108, 109, 110, 111, 112, 113, 114, 115, 116, 117, 118, 119, 120, 121, 122, 48, 49, 50, 51, 52, 53, 54, 55, 56, 57, 46, 95, 45]⟩ wr (by have := prt_size HLN.out.1 HTT.out; omega) (by decide) (ascii_of_all (by decide))
              go_wp2_with fail
              refine HTR.mono ?_
              rintro x w2 ⟨rfl, hb2⟩
              have HK2 : Hid (Same wr w2) := hid (Kept.ofBelow hb2)
              obtain ⟨tr, htr⟩ : ∃ tr : ByteArray, tr = ⟨(Lib.trimS t.data.toList lets8).toArray⟩ := ⟨_, rfl⟩
              have HP : Hid (okp8 (sb t) = (!t.toList.isEmpty && !(t.toList == [46]) && !(t.toList == [46, 46]) && tr.toList.isEmpty)) := hid (by rw [htr]; exact HP.out)
              rw [show (⟨(Lib.trimS t.data.toList (ByteArray.mk #[97, 98, 99, 100, 101, 102, 103, 104, 105, 106, 107, 108, 109, 110, 111, 112, 113, 114, 115, 116, 117, 118, 119, 120, 121, 122, 48, 49, 50, 51, 52, 53, 54, 55, 56, 57, 46, 95, 45]).data.toList).toArray⟩ : ByteArray) = tr from htr.symm]
              clear htr hb2 HTR
              cases B4 : tr.toList.isEmpty with
              | false =>
                go_wp2_with fail
                go_ret
                refine ⟨?_, Same.trans HK1.out (Same.trans HKi.out HK2.out)⟩
                rw [nam_bad HN.out HLN.out.1 HTT.out (by rw [HP.out, B1, B2, B3, B4]; rfl)]
                rfl
              | true =>
                go_wp2_with fail
                have HO2 : Hid (∀ j, j < i + 1 → okp8 (sb ((prts s).getD j ⟨#[]⟩)) = true) := hid (by
                  intro j hj
                  by_cases e : j < i
                  · exact HOK.out j e
                  · obtain rfl : j = i := by omega
                    rw [← HTT.out.1, HP.out, B1, B2, B3, B4]
                    rfl)
                go_roundg (gk - 1)
                case measure => omega
                case rel => exact ⟨i + 1, by go_num, by omega, by omega, HO2, hid (Same.trans HKi.out HK2.out)⟩
      · have hli : decide (i < n) = false := by simp; omega
        obtain rfl : i = n := by omega
        clear HC1
        go_wp2_with fail
        go_ret
        refine ⟨?_, Same.trans HK1.out HKi.out⟩
        have h9 : nam8 (sb s) = true := by
          rw [HN.out, List.all_eq_true]
          intro t ht
          obtain ⟨j, hj, e⟩ := List.getElem_of_mem ht
          have := HOK.out j (by have := HLN.out; omega)
          rw [List.getD_eq_getElem?_getD, List.getElem?_eq_getElem hj, e] at this
          exact this
        rw [h9]
        rfl

end Go.Proofs.YtcokedgoibiljaaGreatDoor
