import Derived.Test.YtljlmfnbeofmmaaGreatDoorHLen2
import Derived.Test.YtljlmfnbeofmmaaGreatDoorHChk
namespace Go.Proofs.YtljlmfnbeofmmaaGreatDoor
open Go.RowKit

def limL (ns : List Nat) (most : Nat) : List Nat :=
 if (ris ns).length ≤ 1 then outP ns (fun _ => 1) else outP ns (gain (wsOf ns) (most - 1) (2 * (wsOf ns).length - 2))

theorem limL_length (ns : List Nat) (most : Nat) : (limL ns most).length = ns.length := by unfold limL; split <;> exact outP_length _ _

theorem wrap_pow (k : Nat) (h : k ≤ 15) : wrap64 ((2 : Int) ^ k) = ((2 ^ k : Nat) : Int) := by
 have h1 : (2 : Int) ^ k = ((2 ^ k : Nat) : Int) := by simp
 have h2 : 2 ^ k ≤ 2 ^ 15 := Nat.pow_le_pow_right (by omega) h
 have h3 : (2 : Nat) ^ 15 = 32768 := by decide
 rw [h1]
 generalize 2 ^ k = q at *
 unfold wrap64
 omega

set_option maxRecDepth 100000 in
set_option maxHeartbeats 2000000 in
theorem limit_good (w : World) (v : Value) (I : Nat → Prop) (zs : List Int) (ns : List Nat) (most : Nat) (hs : SrcE intV w I v zs) (hok : okAll zs 0 1000000000000 = true) (hns : ns = zs.map Int.toNat) (h1 : 1 ≤ most) (h15 : most ≤ 15) (hfit : (ris ns).length ≤ 2 ^ most) :
  Calls Tryz.prog 126 #[v, .int .i64 (most : Nat)] w fun e w' => (∃ g n cap, e = .returned (.tuple #[.slice (some ⟨g, 0, none⟩) n cap, .int .i64 0]) ∧ NRow 0 w' (.slice (some ⟨g, 0, none⟩) n cap) (limL ns most) ∧ w.heap.size ≤ g) ∧ Same w w' := by
 obtain ⟨eN, h0, h288, hle⟩ := okAll_nat hok
 have HC := all_any w v I zs 0 1000000000000 hs (by omega)
 rw [hok] at HC
 rw [← hns] at eN hle
 obtain ⟨av, capv, hvv, hx1, hx2⟩ := id hs
 clear hx1 hx2
 subst hvv
 have HS : Hid (SrcE natV w (fun k => I k ∧ k < w.heap.size) (.slice av zs.length capv) ns) := hid (hs.recode eN).low
 have hnl : zs.length = ns.length := by rw [hns]; simp
 have hrl : (ris ns).length ≤ 288 := by have := ris_length ns; omega
 have HLE : Hid (∀ n ∈ ns, n ≤ 1000000000000) := hid (fun n hn => by have := hle n hn; omega)
 have g1 : decide ((most : Int) < 1) = false := by simp; omega
 have g2 : decide ((15 : Int) < (most : Int)) = false := by simp; omega
 clear hs hok eN hle hns
 generalize zs.length = n at *
 have HN : Hid (n = ns.length) := hnl
 clear hnl
 go_enter Tryz.func126, Tryz.ntmps126
 go_wp2_with fail
 refine HC.mono ?_
 rintro e w2 ⟨rfl, hk⟩
 have HK : Hid (Same w w2) := hk
 clear hk HC
 have HRI := rising_any w2 _ _ ns (HS.out.same HK.out) (by have := HN.out; omega)
 go_wp2_with fail
 refine HRI.mono ?_
 rintro e w3 ⟨v3, rfl, hn3⟩
 obtain ⟨a3, c3, hv3, _⟩ := hn3.row.shape
 subst hv3
 have HK3 : Hid (Same w w3) := hid (Same.trans HK.out hn3.same)
 have HN3 : Hid (NRow w2.heap.size w3 (.slice a3 (ris ns).length c3) (ris ns)) := hid hn3.row
 have hs2 := HK.out.size
 have hs3 := HK3.out.size
 clear hn3 HRI
 obtain ⟨rl, hrle⟩ : ∃ rl, rl = (ris ns).length := ⟨_, rfl⟩
 have HRL : Hid (rl = (ris ns).length) := hrle
 rw [← hrle] at HN3 hrl hfit ⊢
 clear hrle
 obtain ⟨pw, hpw⟩ : ∃ pw, pw = 2 ^ most := ⟨_, rfl⟩
 have hwr := wrap_pow most h15
 rw [← hpw] at hwr
 have HPW : Hid (pw = 2 ^ most) := hpw
 rw [← hpw] at hfit
 clear hpw
 have hfb : decide (pw < rl) = false := by simp; omega
 by_cases hr0 : rl = 0
 ·have HF : Hid (limL ns most = List.replicate n 0) := hid (by
   unfold limL
   rw [← HRL.out, if_pos (by omega), HN.out, ← outP_zero]
   exact outP_congr ns _ _ (fun i hi => by rw [← HRL.out] at hi; omega))
  go_wp2_with (at_make; refine wpList_make_e _ natV 0 w3.heap.size 117 3 8 Tryz.underlying117 Tryz.infoN rfl (by decide) rfl _ _ rfl _ _ _ _ n rfl rfl rfl rfl (by omega) (Nat.le_refl _) ?_; intro w4 hr4 hg4 hs4; have HR4 : Hid (NRow w3.heap.size w4 (.slice (some ⟨w3.heap.size, 0, none⟩) n n) (List.replicate n 0)) := hr4; have HK4 : Hid (Same w3 w4) := hid ((Kept.refl _ w3).grown hg4 (by simp)); clear hr4 hg4)
  go_ret2
  exact ⟨⟨_, _, _, rfl, by rw [HF.out]; exact RowE.base HR4.out (Nat.zero_le _), by omega⟩, Same.trans HK3.out HK4.out⟩
 ·have hd0 : ((rl : Int) == 0) = false := by simp; omega
  by_cases hr1 : rl = 1
  ·have hd1 : ((rl : Int) == 1) = true := by simp; omega
   have hp0 : 0 < (ris ns).length := by have := HRL.out; omega
   obtain ⟨s, hs⟩ : ∃ s, s = (ris ns)[0] := ⟨_, rfl⟩
   have hsr := mem_ris.1 (by rw [hs]; exact List.getElem_mem _ : s ∈ ris ns)
   have hsn : s < n := by have := HN.out; omega
   obtain ⟨b, o, cap', e5, _, _, c5⟩ := (SrcE.ofRow HN3.out).get 0 hp0
   simp only [Value.slice.injEq] at e5
   obtain ⟨rfl, hxe, rfl⟩ := e5
   clear hxe
   rw [← hs] at c5
   unfold natV at c5
   rw [Nat.add_zero] at c5
   have HR5 : Hid (∀ w4, NRow w3.heap.size w4 (.slice (some ⟨w3.heap.size, 0, none⟩) n n) (List.replicate n 0) → NRow w3.heap.size (w4.setCell ⟨w3.heap.size, s, none⟩ (.int .i64 1)) (.slice (some ⟨w3.heap.size, 0, none⟩) n n) (limL ns most)) := hid (by
    intro w4 hr4
    have h := hr4.lay s 1
    rw [HN.out, ← outP_zero, hs, outP_set ns _ 0 1 hp0, ← hs, ← HN.out] at h
    unfold limL
    rw [← HRL.out, if_pos (by omega), outP_congr ns (fun _ => 1) (fun i => if i = 0 then 1 else 0) (fun i hi => by rw [← HRL.out] at hi; rw [if_pos (show i = 0 by omega)])]
    exact h)
   clear hs hsr hd0 hr0
   have hl1 : 0 < rl := by omega
   clear hr1
   go_wp2_with (at_make; refine wpList_make_e _ natV 0 w3.heap.size 117 3 8 Tryz.underlying117 Tryz.infoN rfl (by decide) rfl _ _ rfl _ _ _ _ n rfl rfl rfl rfl (by omega) (Nat.le_refl _) ?_; intro w4 hr4 hg4 hs4; have HR4 : Hid (NRow w3.heap.size w4 (.slice (some ⟨w3.heap.size, 0, none⟩) n n) (List.replicate n 0)) := hr4; have HK4 : Hid (Same w3 w4) := hid ((Kept.refl _ w3).grown hg4 (by simp)); have c6 := HK4.out.cell c5 (fun h => h); have cy : w4.cell? ⟨w3.heap.size, s, none⟩ = some (.int .i64 0) := (hr4.cell s (by simpa using hsn)).trans (by simp [natV]); have fy := hr4.frozen s; clear hr4 hg4)
   go_ret2
   exact ⟨⟨_, _, _, rfl, RowE.base (HR5.out w4 HR4.out) (Nat.zero_le _), by omega⟩, Same.then (Same.trans HK3.out HK4.out) ((Kept.refl (· = w3.heap.size) w4).setCell ⟨w3.heap.size, s, none⟩ _ (.inl rfl)) (fun x hx e => by omega)⟩
  ·have hd1 : ((rl : Int) == 1) = false := by simp; omega
   have hm2 : 2 ≤ (ris ns).length := by have := HRL.out; omega
   have hns288 : ns.length ≤ 288 := by have := HN.out; omega
   go_wp2_with (at_make; refine wpList_make_e _ natV 0 w3.heap.size 117 3 8 Tryz.underlying117 Tryz.infoN rfl (by decide) rfl _ _ rfl _ _ _ _ n rfl rfl rfl rfl (by omega) (Nat.le_refl _) ?_; intro w4 hr4 hg4 hs4; have HR4 : Hid (NRow w3.heap.size w4 (.slice (some ⟨w3.heap.size, 0, none⟩) n n) (List.replicate n 0)) := hr4; have HK4 : Hid (Same w3 w4) := hid ((Kept.refl _ w3).grown hg4 (by simp)); clear hr4 hg4)
   have HLV := levels_any w4 (.slice a3 rl c3) (.slice av n capv) (fun k => (I k ∧ k < w.heap.size) ∨ (Value.slice a3 rl c3).ownBlock = some k) ns most (SrcE.mono (SrcE.ofRow (HN3.out.same HK4.out)) (fun k h => .inr h)) (SrcE.mono (HS.out.same (Same.trans HK3.out HK4.out)) (fun k h => .inl h))
    (by intro e; rw [e] at hm2; simp at hm2) hns288 HLE.out h1 h15
   refine HLV.mono ?_
   rintro e w5 ⟨⟨gl, capl, vs, rfl, hl5, hlev5, hcl⟩, hk5⟩
   have HLN := lengthen_any w5 ns most w3.heap.size n n gl capl (.slice a3 rl c3) (fun k => (Value.slice a3 rl c3).ownBlock = some k) w4.heap.size w3.heap.size vs (HR4.out.same hk5) HN.out hns288 (SrcE.ofRow ((HN3.out.same HK4.out).same hk5)) (fun k hk e => by
     have h1 := HN3.out.lt hk
     omega) hl5 hlev5 hm2 h1 h15 (by rw [← HRL.out, ← HPW.out]; exact hfit)
   have HK5 : Hid (Same w4 w5) := hk5
   clear hl5 hlev5 hk5 HLV
   go_wp2_with fail
   refine HLN.mono ?_
   rintro e w6 ⟨⟨v6, rfl⟩, hr6, hk6⟩
   have HR6 : Hid (NRow 0 w6 (.slice (some ⟨w3.heap.size, 0, none⟩) n n) (limL ns most)) := hid (by
    unfold limL
    rw [if_neg (by omega)]
    exact hr6)
   have HK6 : Hid (Same w w6) := hid (Same.then (Same.trans HK3.out (Same.trans HK4.out HK5.out)) hk6 (fun x hx e => by omega))
   clear hr6 hk6 HLN
   go_wp2_with fail
   go_ret2
   exact ⟨⟨_, _, _, rfl, HR6.out, by omega⟩, HK6.out⟩

end Go.Proofs.YtljlmfnbeofmmaaGreatDoor
