/-
  The program's padded and Mac.
-/
import Derived.Test.YtfhfnkhiomahfaaGreatDoorHmK
namespace Go.Proofs.YtfhfnkhiomahfaaGreatDoor
open Go.RowKit

/-- The first i bytes xor pad. -/
def xorA (kb : List Nat) (pad i : Nat) : List Nat := (kb.map (· ^^^ pad)).take i ++ kb.drop i

theorem xorA_length (kb : List Nat) (pad i : Nat) : (xorA kb pad i).length = kb.length := by simp [xorA]; omega

theorem xorA_get (kb : List Nat) (pad i : Nat) (hi : i < kb.length) : (xorA kb pad i).getD i 0 = kb.getD i 0 := by
  unfold xorA
  rw [List.getD_eq_getElem?_getD, List.getElem?_append_right (by simp; omega), show ((kb.map (· ^^^ pad)).take i).length = i by simp; omega, List.getElem?_drop, List.getD_eq_getElem?_getD]
  congr 2
  omega

theorem xorA_next (kb : List Nat) (pad i : Nat) (hi : i < kb.length) : (xorA kb pad i).set i (kb.getD i 0 ^^^ pad) = xorA kb pad (i + 1) := by
  unfold xorA
  rw [List.set_append_right _ _ (by simp; omega), show ((kb.map (· ^^^ pad)).take i).length = i by simp; omega, Nat.sub_self, List.drop_eq_getElem_cons hi, List.set_cons_zero, List.take_succ_eq_append_getElem (by simpa using hi), List.append_assoc, List.singleton_append]
  rw [List.getD_eq_getElem?_getD, List.getElem?_eq_getElem hi]
  simp

theorem xor8_lt {a b : Nat} (ha : a < 256) (hb : b < 256) : a ^^^ b < 256 := by
  have e : (256 : Nat) = 2 ^ 8 := by decide
  rw [e] at *
  exact Nat.xor_lt_two_pow ha hb

set_option maxRecDepth 100000 in
set_option maxHeartbeats 1000000 in
theorem padded_any (w : World) (kb : List Nat) (pad : Nat) (hl : kb.length = 64) (hb : ∀ x ∈ kb, x < 256) (hp : pad < 256) (hT : Tab15 w) :
    Calls Tryz.prog 60 #[.agg (kb.map byteV).toArray, .int .u8 (pad : Nat)] w fun e w' => ∃ p, e = .returned (.pointer (some ⟨p, 0, none⟩)) ∧ Hs w' p (kb.map (· ^^^ pad)) ∧ Same w w' ∧ w.heap.size ≤ p := by
  have HL := hid hl
  have HBY := hid hb
  have HT := hid hT
  clear hl hb hT
  go_enter Tryz.func60, Tryz.ntmps60
  go_wp2_with (first
    | (with_reducible refine at_box 98 ?_; refine wpl_box 98 (kb.map byteV).toArray rfl ?_; intro w1 g1 hB1 hk1 hg1 hl1; have HB1 := hid hB1; have HK1 := hid hk1; clear hB1 hk1))
  obtain ⟨V, hV⟩ : ∃ V : Value, V = .agg (kb.map byteV).toArray := ⟨_, rfl⟩
  rw [← hV]
  clear hV
  have hg1w := HK1.out.size
  go_loopg [5, 7] 64 (fun k _ z wr => ∃ i : Nat, i ≤ 64 ∧ 64 - i ≤ k ∧ z = .int .i64 (i : Nat) ∧ Hid (Blk wr g1 ((xorA kb pad i).map byteV).toArray 98) ∧ Hid (Kept (· = g1) w1 wr))
  case atStart =>
    have e : xorA kb pad 0 = kb := by simp [xorA]
    exact ⟨0, by omega, by omega, rfl, hid (by rw [e]; exact HB1.out), hid (Kept.refl _ _)⟩
  case round =>
    clear HB1
    obtain ⟨i, hi, hik, rfl, HBi, HKi⟩ := hrel
    by_cases hlt : i < 64
    · have c1 := HBi.out.bcell i (by rw [xorA_length, HL.out]; exact hlt)
      rw [xorA_get kb pad i (by rw [HL.out]; exact hlt)] at c1
      have f1 := HBi.out.frozen i
      obtain ⟨x, hx⟩ : ∃ x, x = kb.getD i 0 := ⟨_, rfl⟩
      have HN : Hid (xorA kb pad (i + 1) = (xorA kb pad i).set i (x ^^^ pad)) := hid (by rw [hx]; exact (xorA_next kb pad i (by rw [HL.out]; exact hlt)).symm)
      have hx2 : x < 256 := by rw [hx]; exact getD_byte HBY.out i
      rw [← hx] at c1
      have hxo : bits .xor .u8 (x : Int) (pad : Int) = ((x ^^^ pad : Nat) : Int) := u8_xor_nat x pad hx2 hp
      obtain ⟨y, hy⟩ : ∃ y, y = x ^^^ pad := ⟨_, rfl⟩
      rw [← hy] at hxo HN
      clear hx hy
      go_wp2_with fail
      go_roundg (gk - 1)
      case measure => omega
      case rel =>
        refine ⟨i + 1, by omega, by omega, by go_num, ?_, hid (HKi.out.setCell _ _ (.inl rfl))⟩
        rw [HN.out]
        exact hid (HBi.out.bset i y)
    · have hin : i = 64 := by omega
      subst hin
      have e : xorA kb pad 64 = kb.map (· ^^^ pad) := by
        unfold xorA
        rw [List.take_of_length_le (by simp [HL.out]), List.drop_of_length_le (by rw [HL.out]; exact Nat.le_refl _), List.append_nil]
      rw [e] at HBi
      clear e
      have HKW : Hid (Same w wr) := hid (HK1.out.then HKi.out (fun x hx e => by omega))
      go_wp2_with fail
      refine (hnew_any wr).mono ?_
      rintro e w3 ⟨p, rfl, hH3, hk3, hp3⟩
      have HT3 := hid ((HT.out.kept HKW.out (fun f => f)).kept hk3 (fun f => f))
      have HPN : Hid (p ≠ 2) := hid (by have := (HT.out.kept HKW.out (fun f => f)).lt; omega)
      have hsi := HKi.out.size
      have HKL := hid (show (kb.map (· ^^^ pad)).length = 64 by rw [List.length_map]; exact HL.out)
      have HKB := hid (show ∀ x ∈ kb.map (· ^^^ pad), x < 256 from fun x hx => by obtain ⟨y, hy, rfl⟩ := List.mem_map.1 hx; exact xor8_lt (HBY.out y hy) hp)
      have HW := hwrite_any w3 p [] (.slice (some ⟨g1, 0, none⟩) 64 64) (· = g1) (kb.map (· ^^^ pad)) hH3 (src_arr (HBi.out.kept hk3 (fun f => f)) 64 HKL.out) (fun k hk e => by omega) (fun a n c e => by injection e; omega) HKB.out HT3.out HPN.out (by rw [HKL.out]; simp)
      have HK3 := hid hk3
      clear hH3 hk3
      go_wp2_with fail
      refine HW.mono ?_
      rintro e w4 ⟨⟨u, rfl⟩, hH4, hk4⟩
      have H4 := hid hH4
      have HK4 := hid hk4
      clear hH4 hk4 HW
      have hsw := HKW.out.size
      go_wp2_with fail
      go_ret
      exact ⟨p, rfl, H4.out, (HKW.out.trans HK3.out).then HK4.out (fun x hx e => by omega), by omega⟩

set_option maxRecDepth 100000 in
set_option maxHeartbeats 1000000 in
theorem pmac_any (w : World) (kv v : Value) (I J : Nat → Prop) (key bs : List Nat) (hk : Src w J kv key) (hJ : ∀ k, J k → k < w.heap.size) (hkc : ∀ a n c, kv = .slice a n c → n ≤ c) (hkb : ∀ x ∈ key, x < 256) (hkl : key.length ≤ 400000000)
    (hsrc : Src w I v bs) (hI : ∀ k, I k → k < w.heap.size) (hcap : ∀ a n c, v = .slice a n c → n ≤ c) (hb : ∀ x ∈ bs, x < 256) (hlen : bs.length ≤ 400000000) (hT : Tab15 w) :
    Calls Tryz.prog 44 #[kv, v] w fun e w' => e = .returned (.agg ((macF key bs).map byteV).toArray) ∧ Same w w' := by
  have HKS := hid hk
  have HJ := hid hJ
  have HKC := hid hkc
  have HKY := hid hkb
  have HKL := hid hkl
  have HS := hid hsrc
  have HI := hid hI
  have HC := hid hcap
  have HBY := hid hb
  have HT := hid hT
  have HLE := hid hlen
  clear hk hJ hkc hkb hkl hsrc hI hcap hb hT hlen
  go_enter Tryz.func44, Tryz.ntmps44
  go_wp2_with (first
    | (with_reducible refine at_alloc 86 4 ?_; refine wpl_alloc 86 _ Tryz.zero32 ?_; intro w2 g2 hB2 hk2 hg2 hl2; have HB2 := hid hB2; have HK2 := hid hk2; clear hB2 hk2))
  have hsz2 := HK2.out.size
  refine (blockOf_any w2 kv J key (HKS.out.kept HK2.out (fun _ _ _ f => f)) (fun k hk => by have := HJ.out k hk; omega) HKC.out HKY.out (HT.out.kept HK2.out (fun f => f)) HKL.out).mono ?_
  rintro e w3 ⟨rfl, hk3⟩
  have HK3 := hid hk3
  clear hk3
  have hsz3 := HK3.out.size
  go_wp2_with (first
    | (with_reducible refine at_alloc 98 5 ?_; refine wpl_alloc 98 _ Tryz.zeroB64 ?_; intro w4 g4 hB4 hk4 hg4 hl4; have HB4 := hid hB4; have HK4 := hid hk4; clear hB4 hk4)
    | (with_reducible refine at_store 98 5 ?_; refine wpl_store 98 64 Tryz.sizeB64 rfl (cells := (kyB key).map byteV) rfl HB4.out (by simp) (by simp [kyB_length]) (byteV_one _) ?_; intro w5 hB5 hk5 hs5; have HB5 := hid hB5; have HK5 : Hid (Same w2 w5) := hid ((HK3.out.trans HK4.out).then hk5 (fun x hx e => by omega)); clear hB5 hk5 HB4 HK4)
    | (with_reducible refine at_load 98 11 ?_; refine wpl_load 98 64 _ Tryz.underlying98 rfl Tryz.sizeB64 rfl HB5.out ((kyB key).map byteV) (by simp [kyB_length]) (take_all15 (by simp [kyB_length])) ?_))
  have HKT := hid (kyB_length key)
  have HKD := hid (kyB_lt key HKY.out)
  have HT5 : Hid (Tab15 w5) := hid ((HT.out.kept HK2.out (fun f => f)).kept HK5.out (fun f => f))
  refine (padded_any w5 (kyB key) 54 HKT.out HKD.out (by omega) HT5.out).mono ?_
  rintro e w6 ⟨p6, rfl, hH6, hk6, hp6⟩
  have HK6 := hid hk6
  have hsz6 := hk6.size
  have HT6 : Hid (Tab15 w6) := hid (HT5.out.kept hk6 (fun f => f))
  have HPN : Hid (p6 ≠ 2) := hid (by have := HT5.out.lt; omega)
  have hsz5 := HK5.out.size
  have HKM := hid (show ((kyB key).map (· ^^^ 54)).length = 64 by rw [List.length_map]; exact HKT.out)
  have HW := hwrite_any w6 p6 _ v I bs hH6 (((HS.out.kept HK2.out (fun _ _ _ f => f)).kept HK5.out (fun _ _ _ f => f)).kept hk6 (fun _ _ _ f => f)) (fun k hk e => by have := HI.out k hk; omega) HC.out HBY.out HT6.out HPN.out (by rw [HKM.out]; have := HLE.out; omega)
  clear hH6 hk6
  go_wp2_with fail
  refine HW.mono ?_
  rintro e w7 ⟨⟨u, rfl⟩, hH7, hk7⟩
  have HK7 := hid hk7
  have HT7 : Hid (Tab15 w7) := hid (HT6.out.kept hk7 (fun e => HPN.out e.symm))
  have HU := hsum_any w7 p6 _ hH7 HT7.out (by rw [List.length_append, HKM.out]; have := HLE.out; omega)
  clear hH7 hk7 HW
  go_wp2_with fail
  refine HU.mono ?_
  rintro e w8 ⟨rfl, hk8⟩
  obtain ⟨inn, hinn⟩ : ∃ x, x = shaF ((kyB key).map (· ^^^ 54) ++ bs) := ⟨_, rfl⟩
  rw [← hinn]
  have HIN := hid hinn
  have HIL : Hid (inn.length = 32) := hid (by rw [hinn]; exact shaF_length _)
  have HIB : Hid (∀ x ∈ inn, x < 256) := hid (by rw [hinn]; exact shaF_lt _)
  have HK58 : Hid (Same w5 w8) := hid ((HK6.out.then HK7.out (fun x hx e => by omega)).trans hk8)
  have hsz8 := HK58.out.size
  clear hinn hk8 HU
  go_wp2_with (first
    | (with_reducible refine at_alloc 86 7 ?_; refine wpl_alloc 86 _ Tryz.zero32 ?_; intro w9 g9 hB9 hk9 hg9 hl9; have HB9 := hid hB9; have HK9 := hid hk9; clear hB9 hk9)
    | (with_reducible refine at_store 86 7 ?_; refine wpl_store 86 32 Tryz.size32 rfl (cells := inn.map byteV) rfl HB9.out (by simp) (by simp [HIL.out]) (byteV_one _) ?_; intro w10 hB10 hk10 hs10; have HB10 := hid hB10; have HK10 : Hid (Same w5 w10) := hid ((HK58.out.trans HK9.out).then hk10 (fun x hx e => by omega)); clear hB10 hk10 HB9 HK9)
    | (with_reducible refine at_load 98 18 ?_; refine wpl_load 98 64 _ Tryz.underlying98 rfl Tryz.sizeB64 rfl (HB5.out.kept HK10.out (fun f => f)) ((kyB key).map byteV) (by simp [kyB_length]) (take_all15 (by simp [kyB_length])) ?_))
  have HT10 : Hid (Tab15 w10) := hid (HT5.out.kept HK10.out (fun f => f))
  refine (padded_any w10 (kyB key) 92 HKT.out HKD.out (by omega) HT10.out).mono ?_
  rintro e w11 ⟨p11, rfl, hH11, hk11, hp11⟩
  have HK11 := hid hk11
  have HT11 : Hid (Tab15 w11) := hid (HT10.out.kept hk11 (fun f => f))
  have HPN2 : Hid (p11 ≠ 2) := hid (by have := HT10.out.lt; omega)
  have HKM2 := hid (show ((kyB key).map (· ^^^ 92)).length = 64 by rw [List.length_map]; exact HKT.out)
  have HW2 := hwrite_any w11 p11 _ (.slice (some ⟨g9, 0, none⟩) 32 32) (· = g9) inn hH11 (src_arr (HB10.out.kept hk11 (fun f => f)) 32 HIL.out) (fun k hk e => by omega) (fun a n c e => by injection e; omega) HIB.out HT11.out HPN2.out (by rw [HKM2.out, HIL.out]; omega)
  clear hH11 hk11
  go_wp2_with fail
  refine HW2.mono ?_
  rintro e w12 ⟨⟨u2, rfl⟩, hH12, hk12⟩
  have HK12 := hid hk12
  have HU2 := hsum_any w12 p11 _ hH12 (HT11.out.kept hk12 (fun e => HPN2.out e.symm)) (by rw [List.length_append, HKM2.out, HIL.out]; omega)
  clear hH12 hk12 HW2
  go_wp2_with fail
  refine HU2.mono ?_
  rintro e w13 ⟨rfl, hk13⟩
  have HMF : Hid (shaF ((kyB key).map (· ^^^ 92) ++ inn) = macF key bs) := hid (by rw [HIN.out]; rfl)
  rw [HMF.out]
  have hszA := HK10.out.size
  have HKE : Hid (Same w2 w13) := hid (((HK5.out.trans HK10.out).trans (HK11.out.then HK12.out (fun x hx e => by omega))).trans hk13)
  have HML : Hid ((macF key bs).length = 32) := hid (shaF_length _)
  clear hk13 HU2
  go_wp2_with (first
    | (with_reducible refine at_store 86 4 ?_; refine wpl_store 86 32 Tryz.size32 rfl (cells := (macF key bs).map byteV) rfl (HB2.out.kept HKE.out (fun f => f)) (by simp) (by simp [HML.out]) (byteV_one _) ?_; intro w14 hB14 hk14 hs14; have HB14 := hid hB14; have HK14 := hid hk14; clear hB14 hk14 hs14))
  refine bodyPost_ret (results_cell15 rfl 32 _ Tryz.underlying86 rfl Tryz.size32 _ rfl HB14.out (by simp [HML.out])) rfl ?_
  exact ⟨rfl, (HK2.out.trans HKE.out).then HK14.out (fun x hx e => by omega)⟩

end Go.Proofs.YtfhfnkhiomahfaaGreatDoor
