import Derived.Test.YtljlmfnbeofmmaaGreatDoorLnMany
import Derived.Test.YtljlmfnbeofmmaaGreatDoorLnPack2
namespace Go.Proofs.YtljlmfnbeofmmaaGreatDoor
open Go.RowKit

theorem sayM_ne (v n : Nat) (h : 1 ≤ n) : sayM v n ≠ [] := by
 unfold sayM
 split
 ·by_cases h11 : 11 ≤ n
  ·rw [zerosM_big n h11]; simp
  ·by_cases h3 : 3 ≤ n
   ·rw [zerosM_mid n (by omega) h3]; simp
   ·rw [zerosM_few n (by omega)]
    cases n with
    | zero => omega
    | succ n => simp [List.replicate_succ]
 ·simp

theorem SrcE.tail2 {w : World} {I : Nat → Prop} {b o cap : Nat} {l : List Nat} (h : SrcE natV w I (.slice (some ⟨b, o, none⟩) l.length cap) l) (k : Nat) (hk : k ≤ l.length) :
  SrcE natV w I (.slice (if cap = k then some ⟨b, o, none⟩ else some ⟨b, o + k, none⟩) (l.length - k) (cap - k)) (l.drop k) := by
 obtain ⟨ao, cap', e, hc, _⟩ := id h
 simp only [Value.slice.injEq] at e
 obtain ⟨_, _, rfl⟩ := e
 split
 ·exact h.tail k o hk (fun h2 => by omega)
 ·exact h.tail k (o + k) hk (fun _ => rfl)

theorem RowC.at {α : Type} {B t k : Nat} {enc : α → List Value} (ok : EncOk enc k) {w : World} {g n cap : Nat} {xs : List α} (h : RowC B t k enc w (.slice (some ⟨g, 0, none⟩) n cap) xs) : CellsAt w ⟨g, 0, none⟩ (xs.flatMap enc) := by
 have hl := h.len
 subst hl
 intro j u hu
 have hj : j < (xs.flatMap enc).length := (List.getElem?_eq_some_iff.1 hu).1
 rw [flat_length ok] at hj
 have e : (⟨g, 0, none⟩ : Addr).add j = ⟨g, j, none⟩ := by unfold Addr.add; split <;> simp_all
 rw [e, h.cellAt j hj, hu]

set_option maxRecDepth 100000 in
set_option maxHeartbeats 2000000 in
theorem lpack_good (w : World) (v : Value) (I : Nat → Prop) (zs : List Int) (ns : List Nat) (hs : SrcE intV w I v zs) (hl : zs.length ≤ 316) (hok : lensOk zs = true) (hns : ns = zs.map Int.toNat) :
  Calls Tryz.prog 128 #[v] w fun e w' => ∃ v', e = .returned (.tuple #[v', .int .i64 0]) ∧ StRow w.heap.size w' v' (packM ns) ∧ Same w w' := by
 have hb := (lensOk_iff zs).1 hok
 have eN : ns.map natV = zs.map intV := by
  rw [hns, List.map_map]
  refine List.map_congr_left (fun z hz => ?_)
  simp only [Function.comp, natV, intV]
  rw [Int.toNat_of_nonneg (hb z hz).1]
 obtain ⟨ao, cap, rfl, hx1, hx2⟩ := id hs
 clear hx1 hx2
 have HCT := lcontains_any w _ I zs hs (by omega)
 rw [hok] at HCT
 have HS : Hid (SrcE natV w I (.slice ao zs.length cap) ns) := hid (hs.recode eN)
 have hnl : zs.length = ns.length := by rw [hns]; simp
 obtain ⟨L, hL⟩ : ∃ L, L = zs.length := ⟨_, rfl⟩
 rw [← hL] at HCT HS hl ⊢
 have HL : Hid (L = ns.length) := hid (by omega)
 have b1 : decide ((316 : Int) < (L : Int)) = false := by simp; omega
 clear hs hb hok hns eN hnl hL
 go_enter Tryz.func128, Tryz.ntmps128
 go_wp2_with fail
 refine HCT.mono ?_
 rintro e w1 ⟨rfl, hw1⟩
 subst hw1
 clear HCT
 go_wp2_with fail
 clear b1
 go_loopg [0, 5, 6] L (fun q zl zo _ wr => ∃ (i d : Nat) (a2 : Option Addr) (c2 : Nat) (ss : List (Int × Int)), d ≤ q ∧ i + d = L ∧ zl = .slice a2 d c2 ∧ Hid (SrcE natV w1 I (.slice a2 d c2) (ns.drop i)) ∧ Hid (packM ns = ss ++ packM (ns.drop i) ∧ ss.length ≤ i) ∧ Hid (StRow w1.heap.size wr zo ss) ∧ Hid (Same w1 wr))
 case atStart => exact ⟨0, L, ao, cap, [], by omega, by omega, rfl, hid (by simpa using HS.out), hid ⟨by simp, by simp⟩, RowC.nil, Kept.refl _ _⟩
 case round =>
  clear HS
  obtain ⟨i, d, a2, c2, ss, hq, hi, rfl, HS, HP, HO, HK⟩ := hrel
  by_cases hlt : 0 < d
  ·have hin : i < ns.length := by have := HL.out; omega
   have hdr : ns.drop i = ns[i] :: ns.drop (i + 1) := List.drop_eq_getElem_cons hin
   obtain ⟨y, hy⟩ : ∃ y, y = ns[i] := ⟨_, rfl⟩
   rw [← hy] at hdr
   obtain ⟨r, hr⟩ : ∃ r, r = ns.drop (i + 1) := ⟨_, rfl⟩
   rw [← hr] at hdr
   have hlen : (y :: r).length = d := by rw [← hdr, List.length_drop]; have := HL.out; omega
   have hS2 := HS.out
   rw [hdr] at hS2
   obtain ⟨b, o, cap', e, _, _, cx⟩ := hS2.get 0 (by simp)
   simp only [Value.slice.injEq] at e
   obtain ⟨rfl, hxe, rfl⟩ := e
   clear hxe
   have cx2 : wr.cell? ⟨b, o, none⟩ = some (.int .i64 (y : Nat)) := HK.out.cell cx (fun f => f)
   rw [← hlen] at hS2
   have HAL := alike_any wr b o c2 I y r (hS2.same HK.out) (by omega)
   have hf := frontN_le y r
   obtain ⟨n, hn⟩ : ∃ n, n = 1 + frontN y r := ⟨_, rfl⟩
   have hn1 : 1 ≤ n := by omega
   have hnl : n ≤ d := by simp at hlen; omega
   have HT2 : Hid (SrcE natV w1 I (.slice (if c2 = n then some ⟨b, o, none⟩ else some ⟨b, o + n, none⟩) (d - n) (c2 - n)) (ns.drop (i + n))) := hid (by
    have h := hS2.tail2 n (by omega)
    rw [hlen, ← hdr, List.drop_drop] at h
    exact h)
   have HP2 : Hid (packM ns = ss ++ (sayM y n ++ packM (ns.drop (i + n)))) := hid (by
    rw [HP.out.1]
    have h := packM_next ns i n hin (by rw [← hy, ← hr]; exact hn)
    rw [← hy] at h
    rw [h])
   have HSL : Hid ((sayM y n).length ≤ n ∧ sayM y n ≠ []) := hid ⟨sayM_len y n hn1, sayM_ne y n hn1⟩
   rw [← hn, hlen] at HAL
   clear hlen hdr hy hr hS2 cx hn hf
   go_wp2_with fail
   refine HAL.mono ?_
   rintro e w2 ⟨rfl, hk2⟩
   have HK2 : Hid (Same wr w2) := hk2
   have cx3 : w2.cell? ⟨b, o, none⟩ = some (.int .i64 (y : Nat)) := hk2.cell cx2 (fun f => f)
   have HPR := packRow_any w2 y n (by omega) hn1
   clear hk2 HAL cx2
   go_wp2_with fail
   refine HPR.mono ?_
   rintro e w3 ⟨v3, rfl, hr3, hk3⟩
   obtain ⟨ao3, cap3, hv3, hg3, _⟩ := hr3.shape
   obtain ⟨g3, rfl⟩ := hg3 HSL.out.2
   subst hv3
   obtain ⟨m3, hm3⟩ : ∃ m, m = (sayM y n).length := ⟨_, rfl⟩
   rw [← hm3] at hr3 ⊢
   have HR3 : Hid (StRow w2.heap.size w3 (.slice (some ⟨g3, 0, none⟩) m3 cap3) (sayM y n)) := hr3
   have HK3 : Hid (Same wr w3) := hid (Same.trans HK2.out hk3)
   have HC3 : Hid (CellsAt w3 ⟨g3, 0, none⟩ ((sayM y n).flatMap stC)) := hid (RowC.at stC_ok hr3)
   have HM3 : Hid ((sayM y n).length = m3) := hid hm3.symm
   have hlen4 : ss.length + (sayM y n).length ≤ 1000 := by have h1 := HP.out.2; have h2 := HSL.out.1; omega
   have hsz3 : w1.heap.size ≤ w3.heap.size := by have h1 := HK.out.size; have h2 := HK3.out.size; omega
   clear hr3 hk3 HPR hm3 hg3 cx3
   have hn0 : (0 : Int) ≤ (n : Int) := by omega
   go_wp2_with (at_builtin; refine wpList_append_c _ stC 2 stC_ok (by decide) w1.heap.size 172 220 (.agg #[.int .i64 0, .int .i64 0]) 16 Tryz.underlying172 Tryz.infoSt rfl (by decide) rfl (.tmp 20) (.tmp 25) rfl u5 ss rfl (RowC.kept HO.out HK3.out (fun _ _ f => f)) ⟨g3, 0, none⟩ m3 cap3 (sayM y n) rfl HM3.out HC3.out (by omega) hsz3 ?_; intro v5 w5 hr5 hg5; have HR5 : Hid (StRow w1.heap.size w5 v5 (ss ++ sayM y n)) := hr5; have HK5 : Hid (Same w1 w5) := hid ((Same.trans HK.out HK3.out).grown hg5 (fun j e => .inr (HO.out.ge e))); clear hr5 hg5)
   all_goals
    go_roundg (gk - 1)
    case measure => omega
    case rel => exact ⟨i + n, d - n, _, _, ss ++ sayM y n, by omega, by omega, rfl, hid (by first | simpa using HT2.out | simpa [*] using HT2.out), hid ⟨by rw [HP2.out, List.append_assoc], by have h1 := HP.out.2; have h2 := HSL.out.1; simp; omega⟩, HR5, HK5⟩
  ·have hdd : d = 0 := by omega
   have HE : Hid (packM ns = ss) := hid (by rw [HP.out.1, List.drop_eq_nil_of_le (by have := HL.out; omega)]; simp [packM])
   subst hdd
   clear hlt
   go_wp2_with fail
   go_ret2
   exact ⟨_, rfl, by rw [HE.out]; exact HO.out, HK.out⟩

set_option maxHeartbeats 1000000 in
theorem lpack_bad (w : World) (v : Value) (I : Nat → Prop) (zs : List Int) (hs : SrcE intV w I v zs) (hn : zs.length ≤ 10000000) (hb : 316 < zs.length ∨ lensOk zs = false) :
  Calls Tryz.prog 128 #[v] w fun e w' => e = .returned (.tuple #[.slice none 0 0, .int .i64 1]) ∧ Same w w' := by
 obtain ⟨ao, cap, rfl, hx1, hx2⟩ := id hs
 clear hx1 hx2
 have HCT := lcontains_any w _ I zs hs hn
 clear hs
 by_cases hl : 316 < zs.length
 ·have b1 : decide ((316 : Int) < (zs.length : Int)) = true := by simp; omega
  clear hb hl
  go_enter Tryz.func128, Tryz.ntmps128
  go_wp2_with fail
  go_ret2
  exact ⟨rfl, Kept.refl _ _⟩
 ·have b1 : decide ((316 : Int) < (zs.length : Int)) = false := by simp; omega
  have hok : lensOk zs = false := by rcases hb with h | h; omega; exact h
  rw [hok] at HCT
  clear hb hl hok
  go_enter Tryz.func128, Tryz.ntmps128
  go_wp2_with fail
  refine HCT.mono ?_
  rintro e w1 ⟨rfl, hw1⟩
  subst hw1
  clear HCT
  go_wp2_with fail
  go_ret2
  exact ⟨rfl, Kept.refl _ _⟩

theorem lpack_any (w : World) (v : Value) (I : Nat → Prop) (zs : List Int) (hs : SrcE intV w I v zs) (hn : zs.length ≤ 10000000) :
  Calls Tryz.prog 128 #[v] w fun e w' => PackA w w' e (packA zs) := by
 by_cases hb : 316 < zs.length ∨ lensOk zs = false
 ·rw [packA_bad hb]
  exact lpack_bad w v I zs hs hn hb
 ·have h2 : lensOk zs = true := by
   cases h : lensOk zs with
   | true => rfl
   | false => exact absurd (.inr h) hb
  have h1 : zs.length ≤ 316 := Nat.le_of_not_lt (fun h => hb (.inl h))
  rw [packA_good h1 h2]
  exact lpack_good w v I zs _ hs h1 h2 rfl

end Go.Proofs.YtljlmfnbeofmmaaGreatDoor
