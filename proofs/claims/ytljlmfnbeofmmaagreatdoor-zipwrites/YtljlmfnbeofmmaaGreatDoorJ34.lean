/-
  Of the proof: parts ZpI, ZpT, ZrC, ZpV, ZpY, ZpZ.
-/
import Derived.Lib.SplitLaws
import Derived.Test.YtljlmfnbeofmmaaGreatDoorJ33
import Derived.Test.YtljlmfnbeofmmaaGreatDoorJ5

namespace Go.Proofs.YtljlmfnbeofmmaaGreatDoor
open Go.RowKit

theorem splitK_eq (k : Nat) (l : List UInt8) : Lib.splitK [47] 0 (k + 1) (47 :: l) = [] :: Lib.splitK [47] 0 k l := by
 have h : Lib.index (47 :: l) [47] = 0 := by rw [Lib.index_one]; simp [Lib.indexByte]
 rw [Lib.splitK, h]
 simp

theorem splitK_ne (b : UInt8) (hb : b ≠ 47) (k : Nat) (l : List UInt8) : ∃ p ps, Lib.splitK [47] 0 k l = p :: ps ∧ Lib.splitK [47] 0 k (b :: l) = (b :: p) :: ps := by
 cases k with
 | zero => exact ⟨l, [], rfl, rfl⟩
 | succ k =>
  have h1 : Lib.index (b :: l) [47] = if Lib.index l [47] == -1 then -1 else Lib.index l [47] + 1 := by
   rw [Lib.index_one, Lib.index_one, Lib.indexByte, if_neg (by simpa using hb)]
  have hge := Lib.index_ge l [47]
  by_cases h : Lib.index l [47] = -1
  ·refine ⟨l, [], ?_, ?_⟩
   ·rw [Lib.splitK, if_pos (by simp [h])]
   ·rw [Lib.splitK, h1, h]; simp
  ·obtain ⟨i, hi⟩ : ∃ i : Nat, Lib.index l [47] = (i : Int) := ⟨(Lib.index l [47]).toNat, by omega⟩
   have hne : ¬ ((i : Int) == -1) = true := by simp
   refine ⟨l.take (i + 0), Lib.splitK [47] 0 k (l.drop (i + 1)), ?_, ?_⟩
   ·rw [Lib.splitK, hi, if_neg hne]; simp
   ·rw [Lib.splitK, h1, hi, if_neg hne, if_neg (by simp; omega)]
    have e : ((i : Int) + 1).toNat = i + 1 := by omega
    rw [e]
    simp

theorem split_spl (l : List UInt8) : (Lib.splitK [47] 0 (l.count 47) l).map (·.map UInt8.toNat) = spl8 (l.map UInt8.toNat) := by
 induction l with
 | nil => rfl
 | cons b r ih =>
  by_cases hb : b = 47
  ·subst hb
   rw [List.count_cons_self, splitK_eq, List.map_cons, List.map_cons, spl8, if_pos (by decide), ih]
   rfl
  ·obtain ⟨p, ps, h1, h2⟩ := splitK_ne b hb (r.count 47) r
   rw [List.count_cons_of_ne (by simpa using hb), h2, List.map_cons]
   rw [h1, List.map_cons] at ih
   have hb' : b.toNat ≠ 47 := fun e => hb (by have := congrArg UInt8.ofNat e; simpa using this)
   have e := spl8_cons hb' ih.symm
   show _ = spl8 (b.toNat :: List.map UInt8.toNat r)
   rw [e]
   rfl

def lets8 : List UInt8 := [97, 98, 99, 100, 101, 102, 103, 104, 105, 106, 107, 108, 109, 110, 111, 112, 113, 114, 115, 116, 117, 118, 119, 120, 121, 122, 48, 49, 50, 51, 52, 53, 54, 55, 56, 57, 46, 95, 45]

theorem lets_fin : ∀ n : Fin 256, lets8.contains (UInt8.ofNat n.val) = let8 n.val := by decide +kernel

theorem lets_is (b : UInt8) : lets8.contains b = let8 b.toNat := by
 have := lets_fin ⟨b.toNat, b.toNat_lt⟩
 simpa using this

theorem trim_nil (l : List UInt8) : Lib.trimS l lets8 = [] ↔ (l.map UInt8.toNat).all let8 = true := by
 have hall : (l.map UInt8.toNat).all let8 = l.all (lets8.contains ·) := by
  rw [List.all_map]
  congr 1
  funext b
  exact (lets_is b).symm
 rw [hall]
 unfold Lib.trimS Lib.trimLeftS Lib.trimRightS
 constructor
 ·intro h
  have hd : ∀ (q : UInt8 → Bool) (m : List UInt8), m.dropWhile q = [] → m.all q = true := by
   intro q m hm
   induction m with
   | nil => rfl
   | cons x r ih =>
    rw [List.dropWhile_cons] at hm
    split at hm
    ·rename_i hx; simp [hx, ih hm]
    ·cases hm
  have h1 := hd _ _ h
  cases hr : l.reverse.dropWhile (lets8.contains ·) with
  | nil =>
   have := hd _ _ hr
   rw [List.all_reverse] at this
   exact this
  | cons x r =>
   exfalso
   have hx := List.head_dropWhile_not (p := (lets8.contains ·)) (l := l.reverse) (by rw [hr]; simp)
   have e : (l.reverse.dropWhile (lets8.contains ·)).head (by rw [hr]; simp) = x := by simp only [hr, List.head_cons]
   rw [e] at hx
   rw [hr] at h1
   have h2 : lets8.contains x = true := by
    rw [List.all_eq_true] at h1
    exact h1 x (by simp)
   rw [h2] at hx
   cases hx
 ·intro h
  have hr : l.reverse.dropWhile (lets8.contains ·) = [] := by
   have h2 : l.reverse.all (lets8.contains ·) = true := by rw [List.all_reverse]; exact h
   generalize l.reverse = m at h2
   induction m with
   | nil => rfl
   | cons x r ih =>
    simp only [List.all_cons, Bool.and_eq_true] at h2
    rw [List.dropWhile_cons, if_pos h2.1]
    exact ih h2.2
  rw [hr]
  rfl

def Mxl (w : World) : Prop := ∃ m : Int, w.cell? ⟨1, 0, none⟩ = some (.int .i64 m)

theorem Mxl.kept {F : Nat → Prop} {w w' : World} (h : Mxl w) (hk : Kept F w w') (hF : ¬ F 1) : Mxl w' := by
 obtain ⟨m, hm⟩ := h
 exact ⟨m, hk.cell hm hF⟩

def prts (s : ByteArray) : List ByteArray := Lib.splitB ⟨#[47]⟩ 0 (Lib.countB s ⟨#[47]⟩) s

theorem prts_spl (s : ByteArray) : (prts s).map sb = spl8 (sb s) := by
 have h := Lib.splitB_data ⟨#[47]⟩ 0 (Lib.countB s ⟨#[47]⟩) s
 have h2 := split_spl s.data.toList
 have e : Lib.countB s ⟨#[47]⟩ = s.data.toList.count 47 := Lib.count_one 47 _
 rw [← e, ← h, List.map_map] at h2
 exact h2

theorem prts_len (s : ByteArray) : (prts s).length = Lib.countB s ⟨#[47]⟩ + 1 := Lib.splitB_all ⟨#[47]⟩ (by decide) 0 _ s rfl

theorem map_toNat_inj : ∀ {l m : List UInt8}, l.map UInt8.toNat = m.map UInt8.toNat → l = m
 | [], [], _ => rfl
 | [], _ :: _, h => by simp at h
 | _ :: _, [], h => by simp at h
 | a :: l, b :: m, h => by
  simp only [List.map_cons, List.cons.injEq] at h
  rw [UInt8.toNat_inj.1 h.1, map_toNat_inj h.2]

theorem part_is (t : ByteArray) : okp8 (sb t) = (!t.toList.isEmpty && !(t.toList == [46]) && !(t.toList == [46, 46]) && (⟨(Lib.trimS t.data.toList lets8).toArray⟩ : ByteArray).toList.isEmpty) := by
 have hm : ∀ l m : List UInt8, (l.map UInt8.toNat == m.map UInt8.toNat) = (l == m) := by
  intro l m
  by_cases h : l = m
  ·subst h; simp
  ·have h2 : l.map UInt8.toNat ≠ m.map UInt8.toNat := fun e => h (map_toNat_inj e)
   rw [beq_eq_false_iff_ne.2 h, beq_eq_false_iff_ne.2 h2]
 have h0 : t.toList.isEmpty = (sb t == []) := by
  rw [Lib.toList_data]
  have := hm t.data.toList []
  unfold sb
  rw [show ([] : List Nat) = ([] : List UInt8).map UInt8.toNat from rfl, this]
  cases t.data.toList <;> rfl
 have h1 : (t.toList == [46]) = (sb t == [46]) := by rw [Lib.toList_data]; exact (hm t.data.toList [46]).symm
 have h2 : (t.toList == [46, 46]) = (sb t == [46, 46]) := by rw [Lib.toList_data]; exact (hm t.data.toList [46, 46]).symm
 have h3 : (⟨(Lib.trimS t.data.toList lets8).toArray⟩ : ByteArray).toList.isEmpty = (sb t).all let8 := by
  rw [Lib.toList_data]
  show (Lib.trimS t.data.toList lets8).isEmpty = _
  have := trim_nil t.data.toList
  unfold sb
  cases h4 : (List.map UInt8.toNat t.data.toList).all let8 with
  | true => rw [this.2 h4]; rfl
  | false =>
   cases h5 : Lib.trimS t.data.toList lets8 with
   | nil => rw [this.1 h5] at h4; cases h4
   | cons x r => rfl
 rw [h0, h1, h2, h3]
 rfl

theorem nam_bad {s t : ByteArray} {n i : Nat} (h : nam8 (sb s) = (prts s).all (fun t => okp8 (sb t))) (hn : n = (prts s).length) (ht : t = (prts s).getD i ⟨#[]⟩ ∧ i < n) (hb : okp8 (sb t) = false) : nam8 (sb s) = false := by
 rw [h, List.all_eq_false]
 refine ⟨t, ?_, by rw [hb]; simp⟩
 rw [ht.1, List.getD_eq_getElem?_getD, List.getElem?_eq_getElem (by omega)]
 exact List.getElem_mem _

theorem spl8_len (l : List Nat) : ∀ p ∈ spl8 l, p.length ≤ l.length := by
 induction l with
 | nil => intro p hp; simp [spl8] at hp; subst hp; simp
 | cons c r ih =>
  intro p hp
  by_cases hc : c = 47
  ·rw [spl8, if_pos hc] at hp
   rcases List.mem_cons.1 hp with rfl | hp
   ·simp
   ·have := ih p hp; simp; omega
  ·obtain ⟨q, qs, hq⟩ := spl8_ne r
   rw [spl8_cons hc hq] at hp
   rcases List.mem_cons.1 hp with rfl | hp
   ·have := ih q (by rw [hq]; simp); simp; omega
   ·have := ih p (by rw [hq]; simp [hp]); simp; omega

theorem prt_size {s t : ByteArray} {i n : Nat} (hn : n = (prts s).length) (ht : t = (prts s).getD i ⟨#[]⟩ ∧ i < n) : t.size ≤ s.size := by
 have h1 : sb t ∈ spl8 (sb s) := by
  rw [← prts_spl]
  refine List.mem_map.2 ⟨t, ?_, rfl⟩
  rw [ht.1, List.getD_eq_getElem?_getD, List.getElem?_eq_getElem (by omega)]
  exact List.getElem_mem _
 have := spl8_len _ _ h1
 rw [sb_size, sb_size] at this
 exact this

set_option maxRecDepth 100000 in
set_option maxHeartbeats 400000 in
theorem name_any (w : World) (s : ByteArray) (hx : Mxl w) :
  Calls Tryz.prog 10 #[.string s] w fun e w' => e = .returned (.bool (nam8 (sb s))) ∧ Same w w' := by
 obtain ⟨mx, hmx⟩ := hx
 have hsz := sb_size s
 by_cases hbig : 64 < s.size
 ·have b1 : (64 : Int) < (s.size : Int) := by omega
  have HN : Hid (nam8 (sb s) = false) := hid (by unfold nam8; rw [hsz]; simp; omega)
  clear hmx hsz hbig
  go_enter Tryz.func10, Tryz.ntmps10
  go_wp2_with fail
  go_ret
  exact ⟨by rw [HN.out]; rfl, Kept.refl _ _⟩
 ·have b1 : (s.size : Int) ≤ (64 : Int) := by omega
  obtain ⟨n, hn⟩ : ∃ n, n = (prts s).length := ⟨_, rfl⟩
  have hcn : Lib.countB s ⟨#[47]⟩ + 1 = n := by rw [hn, prts_len]
  have HSP := Any.strings_Split Tryz.lays146 (by kernel_rfl) s ⟨#[47]⟩ mx w (by omega) hmx (by decide)
  rw [hcn] at HSP
  have HN : Hid (nam8 (sb s) = (prts s).all (fun t => okp8 (sb t))) := hid (by
   unfold nam8
   rw [hsz, ← prts_spl, List.all_map]
   have : decide (s.size ≤ 64) = true := by simp; omega
   rw [this]; rfl)
  have HLN : Hid (n = (prts s).length ∧ n ≤ 65) := hid ⟨hn, by rw [← hcn]; have := Lib.countB_le ⟨#[47]⟩ (by decide) s.size s (Nat.le_refl _); omega⟩
  obtain ⟨h0, hh0⟩ : ∃ h0, h0 = w.heap.size := ⟨_, rfl⟩
  rw [← hh0] at HSP
  have HCL : Hid (∀ j, j < n → (w.alloc (.cells ((prts s).map Value.string).toArray 9)).cell? ⟨h0, j, none⟩ = some (.string ((prts s).getD j ⟨#[]⟩))) := hid (by
   intro j hj
   have hb := Blk.new w ((prts s).map Value.string).toArray 9
   have h9 := hb.cell j
   rw [hh0, h9]
   simp [List.getD_eq_getElem?_getD, List.getElem?_eq_getElem (show j < (prts s).length by omega)])
  clear hmx hsz hbig hn hcn
  go_enter Tryz.func10, Tryz.ntmps10
  go_wp2_with fail
  refine HSP.mono ?_
  rintro x w1 ⟨rfl, hw1⟩
  have HK1 : Hid (Same w w1) := hid (by rw [hw1]; exact (Kept.refl _ _).alloc _)
  have HC1 : Hid (∀ j, j < n → w1.cell? ⟨h0, j, none⟩ = some (.string ((prts s).getD j ⟨#[]⟩))) := hid (by rw [hw1]; exact HCL.out)
  clear hw1 HCL hh0 HSP
  go_wp2_with fail
  go_loopg [11] n (fun qq z11 wr => ∃ i : Nat, z11 = .int .i64 (i : Nat) ∧ i ≤ n ∧ n - i ≤ qq ∧ Hid (∀ j, j < i → okp8 (sb ((prts s).getD j ⟨#[]⟩)) = true) ∧ Hid (Same w1 wr))
  case atStart => exact ⟨0, rfl, by omega, by omega, hid (fun j hj => by omega), hid (Kept.refl _ _)⟩
  case round =>
   obtain ⟨i, rfl, hi1, hiq, HOK, HKi⟩ := hrel
   by_cases hi : i < n
   ·have hli : decide (i < n) = true := by simp; omega
    obtain ⟨t, ht⟩ : ∃ t, t = (prts s).getD i ⟨#[]⟩ := ⟨_, rfl⟩
    have hc := HKi.out.cell (HC1.out i hi) (fun f => f)
    rw [← ht] at hc
    have HP : Hid _ := hid (part_is t)
    have HTT : Hid (t = (prts s).getD i ⟨#[]⟩ ∧ i < n) := hid ⟨ht, hi⟩
    have hiw : IntKind.i64.wrap ((i : Int) + 1) = ((i + 1 : Nat) : Int) := by rw [IntKind.wrap_i64]; have := HLN.out.2; omega
    have h64 : n ≤ 65 := HLN.out.2
    clear ht HC1
    cases B1 : t.toList.isEmpty with
    | true =>
     go_wp2_with fail
     go_ret
     refine ⟨?_, Same.trans HK1.out HKi.out⟩
     rw [nam_bad HN.out HLN.out.1 HTT.out (by rw [HP.out, B1]; rfl)]
     rfl
    | false =>
     cases B2 : (t.toList == [46]) with
     | true =>
      go_wp2_with fail
      go_ret
      refine ⟨?_, Same.trans HK1.out HKi.out⟩
      rw [nam_bad HN.out HLN.out.1 HTT.out (by rw [HP.out, B1, B2]; rfl)]
      rfl
     | false =>
      cases B3 : (t.toList == [46, 46]) with
      | true =>
       go_wp2_with fail
       go_ret
       refine ⟨?_, Same.trans HK1.out HKi.out⟩
       rw [nam_bad HN.out HLN.out.1 HTT.out (by rw [HP.out, B1, B2, B3]; rfl)]
       rfl
      | false =>
       have HTR := Any.strings_Trim_laid Tryz.lays160 (by kernel_rfl) t ⟨#[97, 98, 99, 100, 101, 102, 103, 104, 105, 106, 107, 108, 109, 110, 111, 112, 113, 114, 115, 116, 117, 118, 119, 120, 121, 122, 48, 49, 50, 51, 52, 53, 54, 55, 56, 57, 46, 95, 45]⟩ wr (by have := prt_size HLN.out.1 HTT.out; omega) (by decide) (ascii_of_all (by decide))
       go_wp2_with fail
       refine HTR.mono ?_
       rintro x w2 ⟨rfl, hb2⟩
       have HK2 : Hid (Same wr w2) := hid (Kept.ofBelow hb2)
       obtain ⟨tr, htr⟩ : ∃ tr : ByteArray, tr = ⟨(Lib.trimS t.data.toList lets8).toArray⟩ := ⟨_, rfl⟩
       have HP : Hid (okp8 (sb t) = (!t.toList.isEmpty && !(t.toList == [46]) && !(t.toList == [46, 46]) && tr.toList.isEmpty)) := hid (by rw [htr]; exact HP.out)
       rw [show (⟨(Lib.trimS t.data.toList (ByteArray.mk #[97, 98, 99, 100, 101, 102, 103, 104, 105, 106, 107, 108, 109, 110, 111, 112, 113, 114, 115, 116, 117, 118, 119, 120, 121, 122, 48, 49, 50, 51, 52, 53, 54, 55, 56, 57, 46, 95, 45]).data.toList).toArray⟩ : ByteArray) = tr from htr.symm]
       clear htr hb2 HTR
       cases B4 : tr.toList.isEmpty with
       | false =>
        go_wp2_with fail
        go_ret
        refine ⟨?_, Same.trans HK1.out (Same.trans HKi.out HK2.out)⟩
        rw [nam_bad HN.out HLN.out.1 HTT.out (by rw [HP.out, B1, B2, B3, B4]; rfl)]
        rfl
       | true =>
        go_wp2_with fail
        have HO2 : Hid (∀ j, j < i + 1 → okp8 (sb ((prts s).getD j ⟨#[]⟩)) = true) := hid (by
         intro j hj
         by_cases e : j < i
         ·exact HOK.out j e
         ·obtain rfl : j = i := by omega
          rw [← HTT.out.1, HP.out, B1, B2, B3, B4]
          rfl)
        go_roundg (gk - 1)
        case measure => omega
        case rel => exact ⟨i + 1, by go_num, by omega, by omega, HO2, hid (Same.trans HKi.out HK2.out)⟩
   ·have hli : decide (i < n) = false := by simp; omega
    obtain rfl : i = n := by omega
    clear HC1
    go_wp2_with fail
    go_ret
    refine ⟨?_, Same.trans HK1.out HKi.out⟩
    have h9 : nam8 (sb s) = true := by
     rw [HN.out, List.all_eq_true]
     intro t ht
     obtain ⟨j, hj, e⟩ := List.getElem_of_mem ht
     have := HOK.out j (by have := HLN.out; omega)
     rw [List.getD_eq_getElem?_getD, List.getElem?_eq_getElem hj, e] at this
     exact this
    rw [h9]
    rfl

end Go.Proofs.YtljlmfnbeofmmaaGreatDoor

namespace Go.Proofs.YtljlmfnbeofmmaaGreatDoor
open Go.RowKit

structure En where
 n : ByteArray
 d : ByteArray

instance : Inhabited En := ⟨⟨⟨#[]⟩, ⟨#[]⟩⟩⟩

def Ents (w : World) (I : Nat → Prop) (a : Option Addr) (len : Nat) (E : Nat → En) : Prop :=
 ∀ j, j < len → ∃ b o, a = some ⟨b, o, none⟩ ∧ I b ∧ w.cell? ⟨b, o + j * 2, none⟩ = some (.string (E j).n) ∧ w.cell? ⟨b, o + j * 2 + 1, none⟩ = some (.string (E j).d)

theorem Ents.kept {F I : Nat → Prop} {w w' : World} {a : Option Addr} {len : Nat} {E : Nat → En} (h : Ents w I a len E) (hk : Kept F w w') (hF : ∀ b, I b → ¬ F b) : Ents w' I a len E := by
 intro j hj
 obtain ⟨b, o, h1, h2, h3, h4⟩ := h j hj
 exact ⟨b, o, h1, h2, hk.cell h3 (hF b h2), hk.cell h4 (hF b h2)⟩

theorem str_beq (s t : ByteArray) : (s.toList == t.toList) = decide (s = t) := by
 rw [Lib.toList_data, Lib.toList_data]
 by_cases h : s = t
 ·subst h; simp
 ·simp only [h, decide_false]
  refine beq_eq_false_iff_ne.2 (fun e => h ?_)
  cases s
  cases t
  simp only at e
  rw [Array.toList_inj] at e
  rw [e]

set_option maxHeartbeats 400000 in
theorem enamed_any (w : World) (y : En) (s : ByteArray) (g : Nat) (hg : w.cell? ⟨g, 0, none⟩ = some (.string s)) :
  Calls Tryz.prog 72 #[.agg #[.string y.n, .string y.d], .pointer (some ⟨g, 0, none⟩)] w fun e w' => e = .returned (.bool (decide (y.n = s))) ∧ Same w w' := by
 have hg9 : ∀ o, (w.alloc o).cell? ⟨g, 0, none⟩ = some (.string s) := fun o => (show Same w (w.alloc o) from (Kept.refl _ w).alloc o).cell hg (fun f => f)
 have hq := str_beq y.n s
 obtain ⟨B, hB⟩ : ∃ B, B = decide (y.n = s) := ⟨_, rfl⟩
 rw [← hB] at hq ⊢
 clear hB
 go_enter Tryz.func72, Tryz.ntmps72
 go_wp2_with fail
 go_ret
 exact ⟨rfl, (Kept.refl _ w).alloc _⟩

abbrev enamedV (g : Nat) : Value := .func (.func 72) #[] #[.pointer (some ⟨g, 0, none⟩)]

def anyN (E : Nat → En) (s : ByteArray) : Nat → Bool
 | 0 => false
 | n + 1 => anyN E s n || decide ((E n).n = s)

theorem anyN_at {E : Nat → En} {s : ByteArray} {n i : Nat} (hi : i < n) (h : (E i).n = s) : anyN E s n = true := by
 induction n with
 | zero => omega
 | succ n ih =>
  unfold anyN
  by_cases e : i < n
  ·rw [ih e]; rfl
  ·obtain rfl : i = n := by omega
   simp [h]

set_option maxRecDepth 100000 in
set_option maxHeartbeats 1000000 in
theorem eindex_any (w : World) (a : Option Addr) (len cap : Nat) (E : Nat → En) (s : ByteArray) (g : Nat) (I : Nat → Prop) (hs : Ents w I a len E) (hg : w.cell? ⟨g, 0, none⟩ = some (.string s)) (hn : len ≤ 10000000) :
  Calls Tryz.prog 108 #[.slice a len cap, enamedV g] w fun e w' => (∃ z : Int, e = .returned (.int .i64 z) ∧ decide (0 ≤ z) = anyN E s len) ∧ Same w w' := by
 have HS : Hid (Ents w I a len E) := hs
 have HG : Hid (w.cell? ⟨g, 0, none⟩ = some (.string s)) := hg
 clear hs hg
 go_enter Tryz.func108, Tryz.ntmps108
 go_wp2_with fail
 go_loopg [8] len (fun k z wr => ∃ i : Nat, len - i ≤ k ∧ i ≤ len ∧ z = .int .i64 (i : Nat) ∧ Hid (anyN E s i = false) ∧ Hid (Same w wr))
 case atStart => exact ⟨0, by omega, by omega, rfl, hid rfl, hid (Kept.refl _ _)⟩
 case round =>
  obtain ⟨i, hk, hil, rfl, HF, HK⟩ := hrel
  by_cases hlt : i < len
  ·have hli : decide (i < len) = true := by simp; omega
   obtain ⟨b, o, ha, _, hc0, hc1⟩ := HS.out i hlt
   subst ha
   have hc0 := HK.out.cell hc0 (fun f => f)
   have hc1 := HK.out.cell hc1 (fun f => f)
   obtain ⟨y, hy⟩ : ∃ y, y = E i := ⟨_, rfl⟩
   rw [← hy] at hc0 hc1
   have HY : Hid (y = E i) := hy
   have HC := enamed_any wr y s g (HK.out.cell HG.out (fun f => f))
   have hiw : IntKind.i64.wrap ((i : Int) + 1) = ((i + 1 : Nat) : Int) := by rw [IntKind.wrap_i64]; omega
   clear hy
   cases hb : decide (y.n = s) with
   | true =>
    rw [hb] at HC
    have HB : Hid (y.n = s) := hid (of_decide_eq_true hb)
    clear hb
    go_wp2_with fail
    refine HC.mono ?_
    rintro e w2 ⟨rfl, hk2⟩
    have HK2 : Hid (Same w w2) := hid (Same.trans HK.out hk2)
    clear hk2 HC
    go_wp2_with fail
    go_ret
    refine ⟨⟨_, rfl, ?_⟩, HK2.out⟩
    rw [anyN_at hlt (by rw [← HY.out]; exact HB.out)]
    simp
   | false =>
    rw [hb] at HC
    have HB : Hid (decide (y.n = s) = false) := hb
    clear hb
    go_wp2_with fail
    refine HC.mono ?_
    rintro e w2 ⟨rfl, hk2⟩
    have HK2 : Hid (Same w w2) := hid (Same.trans HK.out hk2)
    clear hk2 HC
    go_wp2_with fail
    go_roundg (gk - 1)
    case measure => omega
    case rel => exact ⟨i + 1, by omega, by omega, by go_num, hid (by unfold anyN; rw [HF.out, ← HY.out, HB.out]; rfl), HK2⟩
  ·have hli : decide (i < len) = false := by simp; omega
   obtain rfl : i = len := by omega
   go_wp2_with fail
   go_ret
   refine ⟨⟨_, rfl, ?_⟩, HK.out⟩
   rw [HF.out]
   simp

set_option maxHeartbeats 1000000 in
theorem econtains_any (w : World) (a : Option Addr) (len cap : Nat) (E : Nat → En) (s : ByteArray) (g : Nat) (I : Nat → Prop) (hs : Ents w I a len E) (hg : w.cell? ⟨g, 0, none⟩ = some (.string s)) (hn : len ≤ 10000000) :
  Calls Tryz.prog 71 #[.slice a len cap, enamedV g] w fun e w' => e = .returned (.bool (anyN E s len)) ∧ Same w w' := by
 have H := eindex_any w a len cap E s g I hs hg hn
 clear hs hg
 go_enter Tryz.func71, Tryz.ntmps71
 go_wp2_with fail
 refine H.mono ?_
 rintro e w2 ⟨⟨z, rfl, hz⟩, hk⟩
 have HZ : Hid (decide (0 ≤ z) = anyN E s len) := hz
 have HK : Hid (Same w w2) := hk
 clear hz hk H
 go_wp2_with fail
 go_ret
 exact ⟨by rw [← HZ.out]; rfl, HK.out⟩

end Go.Proofs.YtljlmfnbeofmmaaGreatDoor

namespace Go.Proofs.YtljlmfnbeofmmaaGreatDoor
open Go.RowKit

theorem sb_list (s : ByteArray) : sb s = s.toList.map UInt8.toNat := by rw [Lib.toList_data]; rfl

theorem map_beq (l : List UInt8) (r : List UInt8) : (l.map UInt8.toNat == r.map UInt8.toNat) = (l == r) := by
 by_cases h : l = r
 ·subst h; simp
 ·rw [beq_eq_false_iff_ne.2 h]
  refine beq_eq_false_iff_ne.2 (fun e => h ?_)
  have hi : Function.Injective UInt8.toNat := fun a b e => UInt8.toNat_inj.1 e
  exact List.map_inj_right (fun a b e => hi e) |>.1 e

theorem prt8_is (s : ByteArray) : prt8 (sb s) = (!(s.toList == []) && !(s.toList == [46]) && !(s.toList == [46, 46])) := by
 have h0 := map_beq s.toList []
 have h1 := map_beq s.toList [46]
 have h2 := map_beq s.toList [46, 46]
 unfold prt8
 rw [sb_list, ← h0, ← h1, ← h2]
 rfl

theorem sb_ext (s : ByteArray) (f i : Nat) : sb (s.extract f i) = ((sb s).take i).drop f := by
 unfold sb
 rw [ByteArray.data_extract, Array.toList_extract, List.extract_eq_take_drop, ← List.map_take, ← List.map_drop, List.drop_take]

theorem sb_at (s : ByteArray) (i : Nat) (h : i < s.size) : (sb s)[i]? = some s[i].toNat := by
 unfold sb
 rw [List.getElem?_map]
 have : s.data.toList[i]? = some s[i] := by
  rw [Array.getElem?_toList, Array.getElem?_eq_getElem h]
  rfl
 rw [this]
 rfl

theorem go8_step (cur l : List Nat) (i x : Nat) (h : l[i]? = some x) : go8 cur (l.drop i) = if x = 47 then prt8 cur && go8 [] (l.drop (i + 1)) else let8 x && go8 (cur ++ [x]) (l.drop (i + 1)) := by
 have hi := (List.getElem?_eq_some_iff.1 h).1
 have e := (List.getElem?_eq_some_iff.1 h).2
 rw [List.drop_eq_getElem_cons hi, e, go8]

theorem cur_step (l : List Nat) (f i x : Nat) (h : l[i]? = some x) (hf : f ≤ i) : (l.take (i + 1)).drop f = (l.take i).drop f ++ [x] := by
 have hi := (List.getElem?_eq_some_iff.1 h).1
 rw [List.take_add_one, h, List.drop_append_of_le_length (by rw [List.length_take]; omega)]
 rfl

set_option maxHeartbeats 400000 in
theorem rpart_any (w : World) (s : ByteArray) :
  Calls Tryz.prog 32 #[.string s] w fun e w' => e = .returned (.bool (prt8 (sb s))) ∧ w' = w := by
 have HP : Hid (prt8 (sb s) = (!(s.toList == []) && !(s.toList == [46]) && !(s.toList == [46, 46]))) := hid (prt8_is s)
 go_enter Tryz.func32, Tryz.ntmps32
 go_wp2_with fail
 all_goals
  go_ret
  refine ⟨?_, rfl⟩
  rw [HP.out]
  simp_all

set_option maxRecDepth 100000 in
set_option maxHeartbeats 1000000 in
theorem rname_any (w : World) (s : ByteArray) (hn : s.size ≤ 100000000) :
  Calls Tryz.prog 11 #[.string s] w fun e w' => e = .returned (.bool (nam8 (sb s))) ∧ w' = w := by
 obtain ⟨l, hl⟩ : ∃ l, l = sb s := ⟨_, rfl⟩
 obtain ⟨n, hnn⟩ : ∃ n, n = s.size := ⟨_, rfl⟩
 have HN : Hid (l = sb s ∧ n = s.size ∧ l.length = n) := hid ⟨hl, hnn, by rw [hl, sb_size, hnn]⟩
 rw [← hl]
 have hlen : (s.size : Int) = (n : Int) := by rw [hnn]
 have HG : Hid (nam8 l = (decide (n ≤ 64) && go8 [] l)) := hid (by rw [← HN.out.2.2, go8_nam])
 have hnb : n ≤ 100000000 := by omega
 clear hl hnn hn
 by_cases h1 : n < 1
 ·have HF : Hid (nam8 l = false) := hid (by
   have : l = [] := List.eq_nil_of_length_eq_zero (by have := HN.out; omega)
   rw [this]; rfl)
  go_enter Tryz.func11, Tryz.ntmps11
  go_wp2_with fail
  all_goals
   go_ret
   exact ⟨by rw [HF.out]; rfl, rfl⟩
 ·by_cases h2 : 64 < n
  ·have HF : Hid (nam8 l = false) := hid (by
    rw [HG.out, decide_eq_false (by omega)]; rfl)
   go_enter Tryz.func11, Tryz.ntmps11
   go_wp2_with fail
   all_goals
    go_ret
    exact ⟨by rw [HF.out]; rfl, rfl⟩
  ·have HF : Hid (nam8 l = go8 [] l) := hid (by rw [HG.out, decide_eq_true (by omega)]; rfl)
   clear HG
   go_enter Tryz.func11, Tryz.ntmps11
   go_wp2_with fail
   go_loopg [3, 4] (n + 1) (fun k z3 z4 wr => ∃ (f i : Nat), z3 = .int .i64 (f : Nat) ∧ z4 = .int .i64 (i : Nat) ∧ n + 1 - i ≤ k ∧ wr = w ∧ i ≤ n + 1 ∧ f ≤ i ∧ Hid ((i ≤ n → nam8 l = go8 ((l.take i).drop f) (l.drop i)) ∧ (i = n + 1 → nam8 l = true)))
   case atStart => exact ⟨0, 0, rfl, rfl, by omega, rfl, by omega, by omega, hid ⟨fun _ => by rw [HF.out]; rfl, fun h => by omega⟩⟩
   case round =>
    obtain ⟨f, i, rfl, rfl, hk, rfl, hi, hfi, HI⟩ := hrel
    have hiw : IntKind.i64.wrap ((i : Int) + 1) = ((i + 1 : Nat) : Int) := by rw [IntKind.wrap_i64]; omega
    have f0 : (0 : Int) ≤ (f : Int) := by omega
    have f1 : (f : Int) ≤ (i : Int) := by omega
    by_cases hin : i ≤ n
    ·have f2 : (i : Int) ≤ (n : Int) := by omega
     have b1 : decide ((i : Int) ≤ (n : Int)) = true := by simp; omega
     have b1' : decide (i ≤ n) = true := by simp; omega
     have HPT := rpart_any wr (s.extract f i)
     rw [sb_ext, ← HN.out.1] at HPT
     obtain ⟨cur, hcur⟩ : ∃ c, c = (l.take i).drop f := ⟨_, rfl⟩
     rw [← hcur] at HPT HI
     have HCU : Hid (cur = (l.take i).drop f) := hcur
     obtain ⟨T, hT⟩ : ∃ T, T = s.extract f i := ⟨_, rfl⟩
     rw [← hT] at HPT
     clear hcur
     by_cases hie : i = n
     ·have b2 : ((i : Int) == (n : Int)) = true := by simp; omega
      have HG : Hid (nam8 l = prt8 cur) := hid (by
       rw [HI.out.1 hin, List.drop_eq_nil_of_le (by have := HN.out; omega)]
       rfl)
      have HIE : Hid (i = n) := hie
      clear hie
      cases hp : prt8 cur with
      | true =>
       rw [hp] at HPT
       have HG : Hid (nam8 l = true) := hid (by rw [HG.out, hp])
       clear hp
       go_wp2_with fail
       try rw [← hT]
       refine HPT.mono ?_
       rintro e w2 ⟨rfl, hw2⟩
       subst hw2
       clear HPT
       go_wp2_with fail
       go_roundg (gk - 1)
       case measure => omega
       case rel => exact ⟨i + 1, i + 1, by go_num, by go_num, by omega, rfl, by omega, Nat.le_refl _, hid ⟨fun h => by have := HIE.out; omega, fun _ => HG.out⟩⟩
      | false =>
       rw [hp] at HPT
       have HG : Hid (nam8 l = false) := hid (by rw [HG.out, hp])
       clear hp
       go_wp2_with fail
       try rw [← hT]
       refine HPT.mono ?_
       rintro e w2 ⟨rfl, hw2⟩
       subst hw2
       clear HPT
       go_wp2_with fail
       go_ret
       exact ⟨by rw [HG.out]; rfl, rfl⟩
     ·have i1 : (0 : Int) ≤ (i : Int) := by omega
      have i2 : (i : Int) < (n : Int) := by omega
      have b2 : ((i : Int) == (n : Int)) = false := by simp; omega
      have hsz : i < s.size := by have := HN.out; omega
      have hat := sb_at s i hsz
      rw [← HN.out.1] at hat
      obtain ⟨x, hx⟩ : ∃ x, x = s[i].toNat := ⟨_, rfl⟩
      rw [← hx] at hat
      have HG : Hid (nam8 l = if x = 47 then prt8 cur && go8 [] (l.drop (i + 1)) else let8 x && go8 (cur ++ [x]) (l.drop (i + 1))) := hid (by rw [HI.out.1 hin]; exact go8_step cur l i x hat)
      have HCS : Hid ((l.take (i + 1)).drop f = cur ++ [x]) := hid (by rw [HCU.out]; exact cur_step l f i x hat hfi)
      have hxI : (s[i].toNat : Int) = (x : Int) := by rw [hx]
      clear hx hat hie HI HCU
      by_cases h47 : x = 47
      ·have b3 : ((x : Int) == 47) = true := by simp; omega
       have HG : Hid (nam8 l = (prt8 cur && go8 [] (l.drop (i + 1)))) := hid (by rw [HG.out, if_pos h47])
       clear h47
       cases hp : prt8 cur with
       | true =>
        rw [hp] at HPT
        have HG : Hid (nam8 l = go8 [] (l.drop (i + 1))) := hid (by rw [HG.out, hp]; rfl)
        clear hp
        go_wp2_with fail
        try rw [← hT]
        refine HPT.mono ?_
        rintro e w2 ⟨rfl, hw2⟩
        subst hw2
        clear HPT
        go_wp2_with fail
        go_roundg (gk - 1)
        case measure => omega
        case rel => exact ⟨i + 1, i + 1, by go_num, by go_num, by omega, rfl, by omega, Nat.le_refl _, hid ⟨fun h => by rw [show (l.take (i + 1)).drop (i + 1) = [] from List.drop_eq_nil_of_le (by rw [List.length_take]; omega)]; exact HG.out, fun h => by omega⟩⟩
       | false =>
        rw [hp] at HPT
        have HG : Hid (nam8 l = false) := hid (by rw [HG.out, hp]; rfl)
        clear hp
        go_wp2_with fail
        try rw [← hT]
        refine HPT.mono ?_
        rintro e w2 ⟨rfl, hw2⟩
        subst hw2
        clear HPT
        go_wp2_with fail
        go_ret
        exact ⟨by rw [HG.out]; rfl, rfl⟩
      ·have b3 : ((x : Int) == 47) = false := by simp; omega
       have HG : Hid (nam8 l = (let8 x && go8 (cur ++ [x]) (l.drop (i + 1)))) := hid (by rw [HG.out, if_neg h47])
       have HNX : Hid (let8 x = true → (i + 1 ≤ n → nam8 l = go8 ((l.take (i + 1)).drop f) (l.drop (i + 1))) ∧ (i + 1 = n + 1 → nam8 l = true)) := hid (fun h => ⟨fun _ => by rw [HG.out, h, HCS.out]; rfl, fun h => by omega⟩)
       have HNO : Hid (let8 x = false → nam8 l = false) := hid (fun h => by rw [HG.out, h]; rfl)
       have hcl : (97 ≤ x ∧ x ≤ 122) ∨ (48 ≤ x ∧ x ≤ 57) ∨ x = 46 ∨ x = 95 ∨ x = 45 ∨ (x < 48 ∧ x ≠ 45 ∧ x ≠ 46) ∨ (58 ≤ x ∧ x ≤ 96 ∧ x ≠ 95) ∨ 123 ≤ x := by omega
       clear h47 HG HPT hT HCS
       rcases hcl with hc | hc | hc | hc | hc | hc | hc | hc
       all_goals
        first | (have q1 : decide ((x : Int) < 97) = true := by simp; omega) | (have q1 : decide ((x : Int) < 97) = false := by simp; omega)
        first | (have q2 : decide (122 < (x : Int)) = true := by simp; omega) | (have q2 : decide (122 < (x : Int)) = false := by simp; omega)
        first | (have q3 : decide ((x : Int) < 48) = true := by simp; omega) | (have q3 : decide ((x : Int) < 48) = false := by simp; omega)
        first | (have q4 : decide (57 < (x : Int)) = true := by simp; omega) | (have q4 : decide (57 < (x : Int)) = false := by simp; omega)
        first | (have q5 : ((x : Int) != 46) = true := by simp; omega) | (have q5 : ((x : Int) != 46) = false := by simp; omega)
        first | (have q6 : ((x : Int) != 95) = true := by simp; omega) | (have q6 : ((x : Int) != 95) = false := by simp; omega)
        first | (have q7 : ((x : Int) != 45) = true := by simp; omega) | (have q7 : ((x : Int) != 45) = false := by simp; omega)
        first
         | (have HL : Hid (let8 x = true) := hid (by unfold let8; simp; omega)
            clear hc
            go_wp2_with fail
            go_roundg (gk - 1)
            case measure => omega
            case rel => exact ⟨f, i + 1, rfl, by go_num, by omega, rfl, by omega, by omega, hid (HNX.out HL.out)⟩)
         | (have HL : Hid (let8 x = false) := hid (by unfold let8; simp; omega)
            clear hc
            go_wp2_with fail
            go_ret
            exact ⟨by rw [HNO.out HL.out]; rfl, rfl⟩)
    ·have b1 : decide ((i : Int) ≤ (n : Int)) = false := by simp; omega
     have b1' : decide (i ≤ n) = false := by simp; omega
     have HG : Hid (nam8 l = true) := hid (HI.out.2 (by omega))
     clear hin
     go_wp2_with fail
     go_ret
     exact ⟨by rw [HG.out]; rfl, rfl⟩

end Go.Proofs.YtljlmfnbeofmmaaGreatDoor

namespace Go.Proofs.YtljlmfnbeofmmaaGreatDoor
open Go.RowKit

def wrE (E : Nat → En) (i : Nat) : Nat := if nam8 (sb (E i).n) = false ∨ anyN E (E i).n i = true then 80 else if 8192 < (E i).d.size then 87 else 0

def wrAll (E : Nat → En) : Nat → Nat → Nat
 | 0, _ => 0
 | n + 1, i => if wrE E i = 0 then wrAll E n (i + 1) else wrE E i

def chkE (E : Nat → En) (n : Nat) : Nat := if 64 < n then 86 else wrAll E n 0

theorem wrAll_step (E : Nat → En) (n i : Nat) (hi : i < n) (h : wrE E i = 0) : wrAll E (n - i) i = wrAll E (n - (i + 1)) (i + 1) := by
 obtain ⟨k, hk⟩ : ∃ k, n - i = k + 1 := ⟨n - i - 1, by omega⟩
 rw [hk, wrAll, if_pos h]
 congr 1
 omega

theorem wrAll_bad (E : Nat → En) (n i : Nat) (hi : i < n) (h : wrE E i ≠ 0) : wrAll E (n - i) i = wrE E i := by
 obtain ⟨k, hk⟩ : ∃ k, n - i = k + 1 := ⟨n - i - 1, by omega⟩
 rw [hk, wrAll, if_neg h]

set_option maxRecDepth 100000 in
set_option maxHeartbeats 1000000 in
theorem checkw_any (w : World) (a : Option Addr) (len cap : Nat) (E : Nat → En) (hs : Ents w (fun _ => True) a len E) (hn : len ≤ 100000000) (hcap : len ≤ cap) (hx : Mxl w) :
  Calls Tryz.prog 33 #[.slice a len cap] w fun e w' => e = .returned (.int .i64 (chkE E len : Nat)) ∧ Same w w' := by
 by_cases hbig : 64 < len
 ·have b1 : (64 : Int) < (len : Int) := by omega
  have HE : Hid (chkE E len = 86) := hid (by unfold chkE; rw [if_pos hbig])
  clear hs hbig
  go_enter Tryz.func33, Tryz.ntmps33
  go_wp2_with fail
  go_ret
  exact ⟨by rw [HE.out]; rfl, Kept.refl _ _⟩
 ·have b1 : (len : Int) ≤ 64 := by omega
  have HE : Hid (chkE E len = wrAll E (len - 0) 0) := hid (by unfold chkE; rw [if_neg hbig]; rfl)
  have HS : Hid (Ents w (fun _ => True) a len E) := hs
  have HX : Hid (Mxl w) := hx
  clear hs hbig hx
  go_enter Tryz.func33, Tryz.ntmps33
  go_wp2_with fail
  go_loopg [10] len (fun k z wr => ∃ i : Nat, len - i ≤ k ∧ i ≤ len ∧ z = .int .i64 (i : Nat) ∧ Hid (chkE E len = wrAll E (len - i) i) ∧ Hid (Same w wr))
  case atStart => exact ⟨0, by omega, by omega, rfl, HE, hid (Kept.refl _ _)⟩
  case round =>
   obtain ⟨i, hk, hil, rfl, HF, HK⟩ := hrel
   by_cases hlt : i < len
   ·have hli : decide (i < len) = true := by simp; omega
    obtain ⟨b, o, ha, _, hc0, hc1⟩ := HS.out i hlt
    subst ha
    have hc0 := HK.out.cell hc0 (fun f => f)
    have hc1 := HK.out.cell hc1 (fun f => f)
    obtain ⟨y, hy⟩ : ∃ y, y = E i := ⟨_, rfl⟩
    rw [← hy] at hc0 hc1
    have HY : Hid (y = E i) := hy
    have hiw : IntKind.i64.wrap ((i : Int) + 1) = ((i + 1 : Nat) : Int) := by rw [IntKind.wrap_i64]; omega
    have HNM := name_any (wr.alloc (.cells #[.string y.n, .string y.d] 34)) y.n (HX.out.kept (Same.trans HK.out ((Kept.refl _ wr).alloc _)) (fun f => f))
    have HBX : Hid (Blk (wr.alloc (.cells #[.string y.n, .string y.d] 34)) wr.heap.size #[.string y.n, .string y.d] 34) := hid (Blk.new wr _ _)
    have HKA : Hid (Same w (wr.alloc (.cells #[.string y.n, .string y.d] 34))) := hid (Same.trans HK.out ((Kept.refl _ wr).alloc _))
    obtain ⟨xb, hxb⟩ : ∃ xb, xb = wr.heap.size := ⟨_, rfl⟩
    rw [← hxb] at HBX
    cases hnb : nam8 (sb y.n) with
    | false =>
     rw [hnb] at HNM
     have HW : Hid (wrE E i = 80) := hid (by unfold wrE; rw [← HY.out, hnb, if_pos (.inl rfl)])
     clear hy hnb
     go_wp2_with fail
     refine HNM.mono ?_
     rintro e w2 ⟨rfl, hk2⟩
     have HK2 : Hid (Same w w2) := hid (Same.trans HKA.out hk2)
     clear hk2 HNM
     go_wp2_with fail
     go_ret
     refine ⟨?_, HK2.out⟩
     rw [HF.out, wrAll_bad E len i hlt (by rw [HW.out]; decide), HW.out]
     rfl
    | true =>
     rw [hnb] at HNM
     have HNB : Hid (nam8 (sb y.n) = true) := hnb
     clear hy hnb
     have j1 : (0 : Int) ≤ (i : Int) := by omega
     have j2 : (i : Int) ≤ (cap : Int) := by omega
     go_wp2_with fail
     rw [← hxb]
     clear hxb
     refine HNM.mono ?_
     rintro e w2 ⟨rfl, hk2⟩
     have HK2 : Hid (Same w w2) := hid (Same.trans HKA.out hk2)
     have hb2 := HBX.out.kept hk2 (fun f => f)
     have x0 : w2.cell? ⟨xb, 0, none⟩ = some (.string y.n) := hb2.cell 0
     have x1 : w2.cell? ⟨xb, 1, none⟩ = some (.string y.d) := hb2.cell 1
     have HCT := fun cap' => econtains_any w2 (some ⟨b, o, none⟩) i cap' E y.n xb (fun _ => True) (fun j hj => (HS.out.kept HK2.out (fun _ _ f => f)) j (by omega)) x0 (by omega)
     have HBB : Hid (Blk w2 xb #[.string y.n, .string y.d] 34) := hb2
     clear hk2 HNM hb2
     cases han : anyN E y.n i with
     | true =>
      rw [han] at HCT
      have HW : Hid (wrE E i = 80) := hid (by unfold wrE; rw [← HY.out, if_pos (.inr han)])
      clear han
      go_wp2_with fail
      refine (HCT _).mono ?_
      rintro e w3 ⟨rfl, hk3⟩
      have HK3 : Hid (Same w w3) := hid (Same.trans HK2.out hk3)
      clear hk3 HCT
      go_wp2_with fail
      go_ret
      refine ⟨?_, HK3.out⟩
      rw [HF.out, wrAll_bad E len i hlt (by rw [HW.out]; decide), HW.out]
      rfl
     | false =>
      rw [han] at HCT
      have HAN : Hid (anyN E y.n i = false) := han
      clear han
      go_wp2_with fail
      refine (HCT _).mono ?_
      rintro e w3 ⟨rfl, hk3⟩
      have HK3 : Hid (Same w w3) := hid (Same.trans HK2.out hk3)
      have y1 : w3.cell? ⟨xb, 1, none⟩ = some (.string y.d) := hk3.cell x1 (fun f => f)
      clear hk3 HCT x0 x1
      by_cases hd : 8192 < y.d.size
      ·have hdI : (8192 : Int) < (y.d.size : Int) := by omega
       have HW : Hid (wrE E i = 87) := hid (by unfold wrE; rw [← HY.out, if_neg (by rw [HNB.out, HAN.out]; simp), if_pos hd])
       clear hd
       go_wp2_with fail
       go_ret
       refine ⟨?_, HK3.out⟩
       rw [HF.out, wrAll_bad E len i hlt (by rw [HW.out]; decide), HW.out]
       rfl
      ·have hdI : (y.d.size : Int) ≤ 8192 := by omega
       have HW : Hid (wrE E i = 0) := hid (by unfold wrE; rw [← HY.out, if_neg (by rw [HNB.out, HAN.out]; simp), if_neg hd])
       clear hd
       go_wp2_with fail
       go_roundg (gk - 1)
       case measure => omega
       case rel => exact ⟨i + 1, by omega, by omega, by go_num, hid (by rw [HF.out, wrAll_step E len i hlt HW.out]), HK3⟩
   ·have hli : decide (i < len) = false := by simp; omega
    obtain rfl : i = len := by omega
    go_wp2_with fail
    go_ret
    refine ⟨?_, HK.out⟩
    rw [HF.out, Nat.sub_self]
    rfl

end Go.Proofs.YtljlmfnbeofmmaaGreatDoor

namespace Go.Proofs.YtljlmfnbeofmmaaGreatDoor
open Go.RowKit

def Itms (w : World) (a : Option Addr) (len : Nat) (M : Nat → Mk) (V : Nat → Value) : Prop :=
 ∀ j, j < len → ∃ b o, a = some ⟨b, o, none⟩ ∧ w.cell? ⟨b, o + j * 6, none⟩ = some (.int .u16 ((M j).way : Nat)) ∧ w.cell? ⟨b, o + j * 6 + 1, none⟩ = some (.int .u32 ((M j).sum : Nat)) ∧ w.cell? ⟨b, o + j * 6 + 2, none⟩ = some (.int .u32 ((M j).packed : Nat)) ∧ w.cell? ⟨b, o + j * 6 + 3, none⟩ = some (.int .u32 ((M j).size : Nat)) ∧ w.cell? ⟨b, o + j * 6 + 4, none⟩ = some (.string (txt (M j).name)) ∧ w.cell? ⟨b, o + j * 6 + 5, none⟩ = some (V j)

theorem Itms.kept {w w' : World} {a : Option Addr} {len : Nat} {M : Nat → Mk} {V : Nat → Value} (h : Itms w a len M V) (hk : Same w w') : Itms w' a len M V := by
 intro j hj
 obtain ⟨b, o, h0, h1, h2, h3, h4, h5, h6⟩ := h j hj
 exact ⟨b, o, h0, hk.cell h1 (fun f => f), hk.cell h2 (fun f => f), hk.cell h3 (fun f => f), hk.cell h4 (fun f => f), hk.cell h5 (fun f => f), hk.cell h6 (fun f => f)⟩

def fstP (p : Nat → Bool) : Nat → Nat → Nat
 | 0, i => i
 | n + 1, i => if p i then i else fstP p n (i + 1)

theorem fstP_hit (p : Nat → Bool) (n i : Nat) (hi : i < n) (h : p i = true) : fstP p (n - i) i = i := by
 obtain ⟨k, hk⟩ : ∃ k, n - i = k + 1 := ⟨n - i - 1, by omega⟩
 rw [hk, fstP, if_pos h]

theorem fstP_step (p : Nat → Bool) (n i : Nat) (hi : i < n) (h : p i = false) : fstP p (n - i) i = fstP p (n - (i + 1)) (i + 1) := by
 obtain ⟨k, hk⟩ : ∃ k, n - i = k + 1 := ⟨n - i - 1, by omega⟩
 rw [hk, fstP, if_neg (by rw [h]; decide)]
 congr 1
 omega

def ixP (p : Nat → Bool) (len : Nat) : Int := if fstP p len 0 < len then (fstP p len 0 : Int) else -1

set_option maxRecDepth 100000 in
set_option maxHeartbeats 1000000 in
theorem zindex_any (w : World) (a : Option Addr) (len cap : Nat) (M : Nat → Mk) (V : Nat → Value) (f g : Nat) (p : Nat → Bool) (hs : Itms w a len M V) (hn : len ≤ 10000000) (hmf : ∀ args w, (callFunc f args).run Tryz.prog w = .ok (.enter f args) w)
  (hp : ∀ i wx, i < len → Same w wx → Calls Tryz.prog f #[.agg (itZ (M i) (V i)), .pointer (some ⟨g, 0, none⟩)] wx fun e w' => e = .returned (.bool (p i)) ∧ Same wx w') :
  Calls Tryz.prog 56 #[.slice a len cap, .func (.func f) #[] #[.pointer (some ⟨g, 0, none⟩)]] w fun e w' => e = .returned (.int .i64 (ixP p len)) ∧ Same w w' := by
 have HS : Hid (Itms w a len M V) := hs
 have HP : Hid (∀ i wx, i < len → Same w wx → Calls Tryz.prog f #[.agg (itZ (M i) (V i)), .pointer (some ⟨g, 0, none⟩)] wx fun e w' => e = .returned (.bool (p i)) ∧ Same wx w') := hp
 clear hs hp
 go_enter Tryz.func56, Tryz.ntmps56
 go_wp2_with fail
 go_loopg [8] len (fun k z wr => ∃ i : Nat, len - i ≤ k ∧ i ≤ len ∧ z = .int .i64 (i : Nat) ∧ Hid (fstP p len 0 = fstP p (len - i) i) ∧ Hid (Same w wr))
 case atStart => exact ⟨0, by omega, by omega, rfl, hid rfl, hid (Kept.refl _ _)⟩
 case round =>
  obtain ⟨i, hk, hil, rfl, HF, HK⟩ := hrel
  by_cases hlt : i < len
  ·have hli : decide (i < len) = true := by simp; omega
   obtain ⟨b, o, ha, k0, k1, k2, k3, k4, k5⟩ := (HS.out.kept HK.out) i hlt
   subst ha
   have HC := HP.out i wr hlt HK.out
   unfold itZ at HC
   obtain ⟨m, hm⟩ : ∃ m, m = M i := ⟨_, rfl⟩
   obtain ⟨v, hv⟩ : ∃ v, v = V i := ⟨_, rfl⟩
   rw [← hm] at k0 k1 k2 k3 k4 HC
   rw [← hv] at k5 HC
   have hiw : IntKind.i64.wrap ((i : Int) + 1) = ((i + 1 : Nat) : Int) := by rw [IntKind.wrap_i64]; omega
   clear hm hv
   cases hb : p i with
   | true =>
    rw [hb] at HC
    have HB : Hid (p i = true) := hb
    clear hb
    go_wp2_with fail
    refine HC.mono ?_
    rintro e w2 ⟨rfl, hk2⟩
    have HK2 : Hid (Same w w2) := hid (Same.trans HK.out hk2)
    clear hk2 HC
    go_wp2_with fail
    go_ret
    refine ⟨?_, HK2.out⟩
    have h9 : fstP p len 0 = i := by rw [HF.out, fstP_hit p len i hlt HB.out]
    have h8 : ixP p len = (i : Int) := by unfold ixP; rw [h9, if_pos hlt]
    rw [h8]
    rfl
   | false =>
    rw [hb] at HC
    have HB : Hid (p i = false) := hb
    clear hb
    go_wp2_with fail
    refine HC.mono ?_
    rintro e w2 ⟨rfl, hk2⟩
    have HK2 : Hid (Same w w2) := hid (Same.trans HK.out hk2)
    clear hk2 HC
    go_wp2_with fail
    go_roundg (gk - 1)
    case measure => omega
    case rel => exact ⟨i + 1, by omega, by omega, by go_num, hid (by rw [HF.out, fstP_step p len i hlt HB.out]), HK2⟩
  ·have hli : decide (i < len) = false := by simp; omega
   obtain rfl : i = len := by omega
   go_wp2_with fail
   go_ret
   refine ⟨?_, HK.out⟩
   have h9 : fstP p i 0 = i := by rw [HF.out, Nat.sub_self]; rfl
   have h8 : ixP p i = -1 := by unfold ixP; rw [h9, if_neg (by omega)]
   rw [h8]
   rfl

end Go.Proofs.YtljlmfnbeofmmaaGreatDoor

namespace Go.Proofs.YtljlmfnbeofmmaaGreatDoor
open Go.RowKit

theorem fstP_lt (p : Nat → Bool) (n i : Nat) : (fstP p n i < n + i) ↔ ∃ j, i ≤ j ∧ j < n + i ∧ p j = true := by
 induction n generalizing i with
 | zero => simp [fstP]; intro j h1 h2; omega
 | succ n ih =>
  unfold fstP
  by_cases h : p i = true
  ·rw [if_pos h]
   exact ⟨fun _ => ⟨i, Nat.le_refl _, by omega, h⟩, fun _ => by omega⟩
  ·rw [if_neg h, show n + 1 + i = n + (i + 1) by omega, ih (i + 1)]
   constructor
   ·rintro ⟨j, h1, h2, h3⟩; exact ⟨j, by omega, h2, h3⟩
   ·rintro ⟨j, h1, h2, h3⟩
    refine ⟨j, ?_, h2, h3⟩
    rcases Nat.lt_or_ge i j with h4 | h4
    ·omega
    ·exact absurd h3 (by rw [show j = i by omega]; exact h)

def nmsOf (M : Nat → Mk) (len : Nat) : List (List Nat) := (List.range len).map (fun j => (M j).name)

theorem fstP_names (M : Nat → Mk) (len : Nat) (s : List Nat) : decide (0 ≤ ixP (fun i => decide ((M i).name = s)) len) = decide (s ∈ nmsOf M len) := by
 have h := fstP_lt (fun i => decide ((M i).name = s)) len 0
 have h2 : s ∈ nmsOf M len ↔ ∃ j, j < len ∧ (M j).name = s := by simp [nmsOf]
 unfold ixP
 by_cases h3 : fstP (fun i => decide ((M i).name = s)) len 0 < len
 ·rw [if_pos h3]
  obtain ⟨j, _, h5, h6⟩ := h.1 h3
  have : s ∈ nmsOf M len := h2.2 ⟨j, by omega, of_decide_eq_true h6⟩
  simp [this]
 ·rw [if_neg h3]
  have : ¬ s ∈ nmsOf M len := fun h9 => by
   obtain ⟨j, h5, h6⟩ := h2.1 h9
   exact h3 (h.2 ⟨j, Nat.zero_le _, by omega, decide_eq_true h6⟩)
  simp [this]

theorem Tryz.enters138 : ∀ args w, (callFunc 138 args).run Tryz.prog w = .ok (.enter 138 args) w := enters_of Tryz.func138 (by kernel_rfl) rfl

set_option maxHeartbeats 1000000 in
theorem zcontains_any (w : World) (a : Option Addr) (len cap : Nat) (M : Nat → Mk) (V : Nat → Value) (g : Nat) (m : Mk) (hs : Itms w a len M V) (hn : len ≤ 10000000) (hg : LabBk w g m) (hb : ∀ b ∈ m.name, b < 256) (hM : ∀ i, i < len → ∀ b ∈ (M i).name, b < 256) :
  Calls Tryz.prog 139 #[.slice a len cap, .func (.func 138) #[] #[.pointer (some ⟨g, 0, none⟩)]] w fun e w' => e = .returned (.bool (decide (m.name ∈ nmsOf M len))) ∧ Same w w' := by
 have H := zindex_any w a len cap M V 138 g (fun i => decide ((M i).name = m.name)) hs hn Tryz.enters138 (fun i wx hi hk => named_any wx (M i) m (V i) g ((hg.kept hk).cells.2.2.2.2) (hM i hi) hb)
 have HZ := fstP_names M len m.name
 clear hs hg hb hM
 obtain ⟨z, hz⟩ : ∃ z, z = ixP (fun i => decide ((M i).name = m.name)) len := ⟨_, rfl⟩
 rw [← hz] at H HZ
 have HZ : Hid (decide (0 ≤ z) = decide (m.name ∈ nmsOf M len)) := HZ
 clear hz
 go_enter Tryz.func139, Tryz.ntmps139
 go_wp2_with fail
 refine H.mono ?_
 rintro e w2 ⟨rfl, hk⟩
 have HK : Hid (Same w w2) := hk
 clear hk H
 go_wp2_with fail
 go_ret
 exact ⟨by rw [← HZ.out]; rfl, HK.out⟩

def LblA (w w' : World) (n : Nat) (e : Ending) : Prop := (n = 0 → e = .returned (.tuple #[])) ∧ (n ≠ 0 → e = pan8 n) ∧ Same w w'

theorem LblA.ok {w w' : World} {n : Nat} {e : Ending} (h : n = 0) (he : e = .returned (.tuple #[])) (hk : Same w w') : LblA w w' n e := ⟨fun _ => he, fun h9 => absurd h h9, hk⟩

theorem LblA.no {w w' : World} {n k : Nat} {e : Ending} (h : n = k) (hk0 : k ≠ 0) (he : e = pan8 k) (hk : Same w w') : LblA w w' n e := ⟨fun h9 => absurd (h ▸ h9) hk0, fun _ => by rw [h]; exact he, hk⟩

set_option maxRecDepth 100000 in
set_option maxHeartbeats 1000000 in
theorem checkLabel_any (w : World) (m : Mk) (a : Option Addr) (len cap : Nat) (M : Nat → Mk) (V : Nat → Value) (hs : Itms w a len M V) (hn : len ≤ 10000000) (hb : ∀ b ∈ m.name, b < 256) (hM : ∀ i, i < len → ∀ b ∈ (M i).name, b < 256) (hx : Mxl w) :
  Calls Tryz.prog 93 #[.agg (mkZ m), .slice a len cap] w fun e w' => LblA w w' (chk8 m (nmsOf M len)) e := by
 obtain ⟨W1, hW1⟩ : ∃ W, W = w.alloc (.cells #[.int .u16 (m.way : Nat), .int .u32 (m.sum : Nat), .int .u32 (m.packed : Nat), .int .u32 (m.size : Nat), .string (txt m.name)] 60) := ⟨_, rfl⟩
 obtain ⟨mb, hmb⟩ : ∃ b, b = w.heap.size := ⟨_, rfl⟩
 have HK1 : Hid (Same w W1) := hid (by rw [hW1]; exact (Kept.refl _ w).alloc _)
 have HL1 : Hid (LabBk W1 mb m) := hid (by rw [hW1, hmb]; exact Blk.new w _ _)
 have HNM := name_any W1 (txt m.name) (hx.kept HK1.out (fun f => f))
 rw [sb_txt m.name hb] at HNM
 have HCT := fun wx (hk : Same w wx) (hl : LabBk wx mb m) => zcontains_any wx a len cap M V mb m (hs.kept hk) hn hl hb hM
 have HCT : Hid _ := hid HCT
 obtain ⟨N, hN⟩ : ∃ N, N = nmsOf M len := ⟨_, rfl⟩
 rw [← hN] at HCT ⊢
 clear hs hn hb hM hx hN
 unfold mkZ
 go_enter Tryz.func93, Tryz.ntmps93
 go_wp2_with fail
 rw [← hW1, ← hmb]
 clear hW1 hmb
 cases hnb : nam8 m.name with
 | false =>
  rw [hnb] at HNM
  have HE : Hid (chk8 m N = 80) := hid (by unfold chk8; rw [if_pos (.inl hnb)])
  clear hnb
  refine HNM.mono ?_
  rintro e w2 ⟨rfl, hk2⟩
  have HK2 : Hid (Same w w2) := hid (Same.trans HK1.out hk2)
  have HO := need_bad w2 80
  clear hk2 HNM
  go_wp2_with fail
  refine HO.mono ?_
  rintro e w3 ⟨rfl, hw3⟩
  subst hw3
  clear HO
  unfold pan8
  go_wp2_with fail
  exact ⟨rfl, LblA.no HE.out (by decide) rfl HK2.out⟩
 | true =>
  rw [hnb] at HNM
  refine HNM.mono ?_
  rintro e w2 ⟨rfl, hk2⟩
  have HK2 : Hid (Same w w2) := hid (Same.trans HK1.out hk2)
  have HL2 : Hid (LabBk w2 mb m) := hid (HL1.out.kept hk2)
  have HC2 := HCT.out w2 HK2.out HL2.out
  clear hk2 HNM HL1
  by_cases hmem : m.name ∈ N
  ·have HE : Hid (chk8 m N = 80) := hid (by unfold chk8; rw [if_pos (.inr hmem)])
   rw [decide_eq_true hmem] at HC2
   clear hmem hnb
   go_wp2_with fail
   refine HC2.mono ?_
   rintro e w3 ⟨rfl, hk3⟩
   have HK3 : Hid (Same w w3) := hid (Same.trans HK2.out hk3)
   have HO := need_bad w3 80
   clear hk3 HC2
   go_wp2_with fail
   refine HO.mono ?_
   rintro e w4 ⟨rfl, hw4⟩
   subst hw4
   clear HO
   unfold pan8
   go_wp2_with fail
   exact ⟨rfl, LblA.no HE.out (by decide) rfl HK3.out⟩
  ·have HE0 : Hid (¬ (nam8 m.name = false ∨ m.name ∈ N)) := hid (by rw [hnb]; simp [hmem])
   rw [decide_eq_false hmem] at HC2
   clear hmem hnb
   go_wp2_with fail
   refine HC2.mono ?_
   rintro e w3 ⟨rfl, hk3⟩
   have HK3 : Hid (Same w w3) := hid (Same.trans HK2.out hk3)
   obtain ⟨c0, c1, c2, c3, c4⟩ := (HL2.out.kept hk3).cells
   have HO := need_ok w3 (.int .i64 80)
   clear hk3 HC2
   go_wp2_with fail
   refine HO.mono ?_
   rintro e w4 ⟨rfl, hw4⟩
   subst hw4
   clear HO HCT
   have HE1 := HE0.out
   by_cases q0 : m.way = 0 ∨ m.way = 8
   ·have q0n : ¬ (m.way ≠ 0 ∧ m.way ≠ 8) := by omega
    have wb : (((m.way : Int) == 0) || ((m.way : Int) == 8)) = true := by rcases q0 with h | h <;> simp [h]
    rcases q0 with q0 | q0
    ·have w0 : ((m.way : Int) == 0) = true := by simp; omega
     have w8 : ((m.way : Int) == 8) = false := by simp; omega
     clear wb
     have HO := need_ok w4 (.int .i64 82)
     go_wp2_with fail
     refine HO.mono ?_
     rintro e w5 ⟨rfl, hw5⟩
     subst hw5
     clear HO
     by_cases q1 : 8192 < m.size
     ·have HE : Hid (chk8 m N = 87) := hid (by unfold chk8; rw [if_neg HE1, if_neg q0n, if_pos (.inl q1)])
      have s1 : decide ((m.size : Int) ≤ 8192) = false := by simp; omega
      have s1' : decide (m.size ≤ 8192) = false := by simp; omega
      clear q0n HE1
      have HO := need_bad w5 87
      go_wp2_with fail
      refine HO.mono ?_
      rintro e w6 ⟨rfl, hw6⟩
      subst hw6
      clear HO
      unfold pan8
      go_wp2_with fail
      exact ⟨rfl, LblA.no HE.out (by decide) rfl HK3.out⟩
     ·have s1 : decide ((m.size : Int) ≤ 8192) = true := by simp; omega
      have s1' : decide (m.size ≤ 8192) = true := by simp; omega
      by_cases q2 : 16384 < m.packed
      ·have HE : Hid (chk8 m N = 87) := hid (by unfold chk8; rw [if_neg HE1, if_neg q0n, if_pos (.inr q2)])
       have s2 : decide ((m.packed : Int) ≤ 16384) = false := by simp; omega
       have s2' : decide (m.packed ≤ 16384) = false := by simp; omega
       clear q0n HE1
       have HO := need_bad w5 87
       go_wp2_with fail
       refine HO.mono ?_
       rintro e w6 ⟨rfl, hw6⟩
       subst hw6
       clear HO
       unfold pan8
       go_wp2_with fail
       exact ⟨rfl, LblA.no HE.out (by decide) rfl HK3.out⟩
      ·have s2 : decide ((m.packed : Int) ≤ 16384) = true := by simp; omega
       have s2' : decide (m.packed ≤ 16384) = true := by simp; omega
       have q3 : ¬ (8192 < m.size ∨ 16384 < m.packed) := by omega
       have HO := need_ok w5 (.int .i64 87)
       go_wp2_with fail
       refine HO.mono ?_
       rintro e w6 ⟨rfl, hw6⟩
       subst hw6
       clear HO
       by_cases q4 : m.packed = m.size
       ·have HE : Hid (chk8 m N = 0) := hid (by unfold chk8; rw [if_neg HE1, if_neg q0n, if_neg q3, if_neg (fun h => h.2 q4)])
        have s4 : ((m.packed : Int) == (m.size : Int)) = true := by simp; omega
        clear q0n HE1 q3
        have HO := need_ok w6 (.int .i64 81)
        go_wp2_with fail
        refine HO.mono ?_
        rintro e w7 ⟨rfl, hw7⟩
        subst hw7
        clear HO
        go_wp2_with fail
        go_end0
        exact LblA.ok HE.out rfl HK3.out
       ·have HE : Hid (chk8 m N = 81) := hid (by unfold chk8; rw [if_neg HE1, if_neg q0n, if_neg q3, if_pos ⟨by omega, q4⟩])
        have s4 : ((m.packed : Int) == (m.size : Int)) = false := by simp; omega
        clear q0n HE1 q3
        have HO := need_bad w6 81
        go_wp2_with fail
        refine HO.mono ?_
        rintro e w7 ⟨rfl, hw7⟩
        subst hw7
        clear HO
        unfold pan8
        go_wp2_with fail
        exact ⟨rfl, LblA.no HE.out (by decide) rfl HK3.out⟩
    ·have w0 : ((m.way : Int) == 0) = false := by simp; omega
     have w8 : ((m.way : Int) == 8) = true := by simp; omega
     clear wb
     have HO := need_ok w4 (.int .i64 82)
     go_wp2_with fail
     refine HO.mono ?_
     rintro e w5 ⟨rfl, hw5⟩
     subst hw5
     clear HO
     by_cases q1 : 8192 < m.size
     ·have HE : Hid (chk8 m N = 87) := hid (by unfold chk8; rw [if_neg HE1, if_neg q0n, if_pos (.inl q1)])
      have s1 : decide ((m.size : Int) ≤ 8192) = false := by simp; omega
      have s1' : decide (m.size ≤ 8192) = false := by simp; omega
      clear q0n HE1
      have HO := need_bad w5 87
      go_wp2_with fail
      refine HO.mono ?_
      rintro e w6 ⟨rfl, hw6⟩
      subst hw6
      clear HO
      unfold pan8
      go_wp2_with fail
      exact ⟨rfl, LblA.no HE.out (by decide) rfl HK3.out⟩
     ·have s1 : decide ((m.size : Int) ≤ 8192) = true := by simp; omega
      have s1' : decide (m.size ≤ 8192) = true := by simp; omega
      by_cases q2 : 16384 < m.packed
      ·have HE : Hid (chk8 m N = 87) := hid (by unfold chk8; rw [if_neg HE1, if_neg q0n, if_pos (.inr q2)])
       have s2 : decide ((m.packed : Int) ≤ 16384) = false := by simp; omega
       have s2' : decide (m.packed ≤ 16384) = false := by simp; omega
       clear q0n HE1
       have HO := need_bad w5 87
       go_wp2_with fail
       refine HO.mono ?_
       rintro e w6 ⟨rfl, hw6⟩
       subst hw6
       clear HO
       unfold pan8
       go_wp2_with fail
       exact ⟨rfl, LblA.no HE.out (by decide) rfl HK3.out⟩
      ·have s2 : decide ((m.packed : Int) ≤ 16384) = true := by simp; omega
       have s2' : decide (m.packed ≤ 16384) = true := by simp; omega
       have q3 : ¬ (8192 < m.size ∨ 16384 < m.packed) := by omega
       have HO := need_ok w5 (.int .i64 87)
       go_wp2_with fail
       refine HO.mono ?_
       rintro e w6 ⟨rfl, hw6⟩
       subst hw6
       clear HO
       have HE : Hid (chk8 m N = 0) := hid (by unfold chk8; rw [if_neg HE1, if_neg q0n, if_neg q3, if_neg (fun h => h.1 q0)])
       clear q0n HE1 q3
       have HO := need_ok w6 (.int .i64 81)
       go_wp2_with fail
       refine HO.mono ?_
       rintro e w7 ⟨rfl, hw7⟩
       subst hw7
       clear HO
       go_wp2_with fail
       go_end0
       exact LblA.ok HE.out rfl HK3.out
   ·have HE : Hid (chk8 m N = 82) := hid (by unfold chk8; rw [if_neg HE1, if_pos (by omega)])
    have w0 : ((m.way : Int) == 0) = false := by simp; omega
    have w8 : ((m.way : Int) == 8) = false := by simp; omega
    clear HE1
    have HO := need_bad w4 82
    go_wp2_with fail
    refine HO.mono ?_
    rintro e w5 ⟨rfl, hw5⟩
    subst hw5
    clear HO
    unfold pan8
    go_wp2_with fail
    exact ⟨rfl, LblA.no HE.out (by decide) rfl HK3.out⟩

end Go.Proofs.YtljlmfnbeofmmaaGreatDoor
