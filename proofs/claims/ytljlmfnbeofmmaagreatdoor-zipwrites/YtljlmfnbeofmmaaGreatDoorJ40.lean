/-
  Of the proof: parts LnWs, LnWr, LnWrt, LnWrg.
-/
import Derived.Deep.RegionHeld3
import Derived.Test.YtljlmfnbeofmmaaGreatDoorJ39
import Derived.Test.YtljlmfnbeofmmaaGreatDoorJ27
import Derived.Test.YtljlmfnbeofmmaaGreatDoorJ29
import Derived.Test.YtljlmfnbeofmmaaGreatDoorJ11

namespace Go.Proofs.YtljlmfnbeofmmaaGreatDoor
open Go.RowKit

structure WS (wb w : World) (p : Nat) (s0 s : Value) (X : List Nat) : Prop where
 wr : Wr w p s (n2 X) X.length
 bit : ∀ b ∈ X, b < 2
 kept : Kept (Fp p s0) wb w
 own : ∀ k, s.ownBlock = some k → s0.ownBlock = some k ∨ wb.heap.size ≤ k

theorem WS.start {w : World} {p : Nat} {s : Value} {X : List Nat} (h : Wr w p s (n2 X) X.length) (hb : ∀ b ∈ X, b < 2) : WS w w p s s X := ⟨h, hb, Kept.refl _ _, fun _ e => .inl e⟩

theorem WS.same {wb w w' : World} {p : Nat} {s0 s : Value} {X : List Nat} (h : WS wb w p s0 s X) (hk : Same w w') : WS wb w' p s0 s X :=
 ⟨h.wr.kept hk (fun _ _ f => f), h.bit, Kept.trans h.kept hk (fun _ _ x => x) (fun _ _ f => f.elim), h.own⟩

theorem WS.base {wa wb w : World} {p : Nat} {s0 s : Value} {X : List Nat} (h : WS wb w p s0 s X) (hk : Same wa wb) : WS wa w p s0 s X :=
 ⟨h.wr, h.bit, Kept.trans (hk.mono (fun _ _ f => f.elim)) h.kept (fun _ _ x => x) (fun _ _ x => x), fun k e => by
  rcases h.own k e with h1 | h1
  ·exact .inl h1
  ·exact .inr (Nat.le_trans hk.size h1)⟩

theorem ws_put (wb w : World) (p : Nat) (s0 s : Value) (X : List Nat) (v n : Nat) (h : WS wb w p s0 s X) (hn : n ≤ 32) (hv : v < 2 ^ n) (hc : X.length ≤ 1000000000) :
  Calls Tryz.prog 81 #[.pointer (some ⟨p, 0, none⟩), .int .u32 (v : Nat), .int .i64 (n : Nat)] w fun e w' => e = .returned (.int .i64 0) ∧ (∃ s', WS wb w' p s0 s' (X ++ bitsOf v n)) ∧ Kept (Fp p s) w w' := by
 refine (put_good p v n _ _ s w hn hv h.wr (by omega)).mono ?_
 rintro e w' ⟨rfl, s', hw, hk, hg⟩
 refine ⟨rfl, ⟨s', ?_, ?_, ?_, ?_⟩, hk⟩
 ·rw [n2_put X v n hv, List.length_append, bitsOf_length]
  exact hw
 ·intro b hb
  rcases List.mem_append.1 hb with h1 | h1
  ·exact h.bit b h1
  ·exact bitsOf_lt _ _ b h1
 ·refine Kept.trans h.kept hk (fun _ _ x => x) (fun k hk2 hf => ?_)
  rcases hf with e | e
  ·exact .inl e
  ·rcases h.own k e with h1 | h1
   ·exact .inr h1
   ·omega
 ·intro k e
  rcases hg with h1 | h1
  ·exact h.own k (by rw [← h1]; exact e)
  ·exact .inr (Nat.le_trans h.kept.size (h1 k e))

theorem snoc_ind {α : Type} {p : List α → Prop} (h0 : p []) (h1 : ∀ r s, p r → p (r ++ [s])) (l : List α) : p l := by
 have h : ∀ m : List α, p m.reverse := by
  intro m
  induction m with
  | nil => simpa using h0
  | cons a r ih => rw [List.reverse_cons]; exact h1 _ _ ih
 simpa using h l.reverse

def cntF (ss : List (Int × Int)) : List Nat := ss.foldl (fun l s => l.set s.1.toNat (l.getD s.1.toNat 0 + 1)) (List.replicate 19 0)

theorem cntF_snoc (ss : List (Int × Int)) (s : Int × Int) : cntF (ss ++ [s]) = (cntF ss).set s.1.toNat ((cntF ss).getD s.1.toNat 0 + 1) := by
 unfold cntF
 rw [List.foldl_append]
 rfl

theorem cntF_length (ss : List (Int × Int)) : (cntF ss).length = 19 := by
 refine snoc_ind (p := fun l => (cntF l).length = 19) ?_ ?_ ss
 ·simp [cntF]
 ·intro r s ih
  rw [cntF_snoc, List.length_set, ih]

theorem cntF_le (ss : List (Int × Int)) : ∀ x ∈ cntF ss, x ≤ ss.length := by
 refine snoc_ind (p := fun l => ∀ x ∈ cntF l, x ≤ l.length) ?_ ?_ ss
 ·intro x hx; have := List.eq_of_mem_replicate hx; omega
 ·intro r s ih x hx
  rw [cntF_snoc] at hx
  rw [List.length_append, List.length_singleton]
  rcases List.mem_or_eq_of_mem_set hx with h | h
  ·have := ih x h; omega
  ·have : (cntF r).getD s.1.toNat 0 ≤ r.length := by
    by_cases hl : s.1.toNat < (cntF r).length
    ·rw [List.getD_eq_getElem?_getD, List.getElem?_eq_getElem hl]
     exact ih _ (List.getElem_mem hl)
    ·rw [List.getD_eq_getElem?_getD, List.getElem?_eq_none (by omega)]
     exact Nat.zero_le _
   omega

theorem cntF_key (ss : List (Int × Int)) (s : Int × Int) (hs : s ∈ ss) (h18 : s.1.toNat < 19) : key (cntF ss) s.1.toNat ≠ 0 := by
 revert hs
 refine snoc_ind (p := fun l => s ∈ l → key (cntF l) s.1.toNat ≠ 0) ?_ ?_ ss
 ·intro h; simp at h
 ·intro r t ih hs
  unfold key
  rw [cntF_snoc]
  have hl := cntF_length r
  by_cases e : t.1.toNat = s.1.toNat
  ·rw [e, List.getD_eq_getElem?_getD, List.getElem?_set_self (by omega)]
   simp
  ·rw [List.getD_eq_getElem?_getD, List.getElem?_set_ne e, ← List.getD_eq_getElem?_getD]
   rcases List.mem_append.1 hs with h | h
   ·exact ih h
   ·simp at h; subst h; exact absurd rfl e

theorem lim_key (ns : List Nat) (most s : Nat) (hs : s < ns.length) (hk : key ns s ≠ 0) (hfit : (ris ns).length ≤ 2 ^ most) (h1 : 1 ≤ most) (h15 : most ≤ 15) : key (limL ns most) s ≠ 0 := by
 have hl : s < (limL ns most).length := by rw [limL_length]; exact hs
 rw [key_get hl, limL_get, if_neg hk]
 split
 ·omega
 ·rename_i h2
  have hm : Many ns most := ⟨by omega, hfit, h1, h15⟩
  have hr : s ∈ ris ns := mem_ris.2 ⟨hs, hk⟩
  have := hm.pos ((ris ns).idxOf s) (List.idxOf_lt_length_of_mem hr)
  omega

def chosen (ss : List (Int × Int)) : List Nat := limL (cntF ss) 7

theorem chosen_fit (ss : List (Int × Int)) : (ris (cntF ss)).length ≤ 2 ^ 7 := by
 have h1 := ris_length (cntF ss)
 have h2 := cntF_length ss
 omega

theorem chosen_length (ss : List (Int × Int)) : (chosen ss).length = 19 := by unfold chosen; rw [limL_length, cntF_length]
theorem chosen_le (ss : List (Int × Int)) : ∀ x ∈ chosen ss, x ≤ 7 := lim_le _ 7 (chosen_fit ss) (by decide) (by decide)
theorem chosen_key (ss : List (Int × Int)) (s : Int × Int) (hs : s ∈ ss) (h18 : s.1.toNat < 19) : key (chosen ss) s.1.toNat ≠ 0 := lim_key _ 7 _ (by rw [cntF_length]; exact h18) (cntF_key ss s hs h18) (chosen_fit ss) (by decide) (by decide)
theorem chosen_ok (ss : List (Int × Int)) (s : Int × Int) (hs : s ∈ ss) (h18 : s.1.toNat < 19) : chkN (chosen ss) = 0 := by
 refine lim_check _ 7 ?_ (chosen_fit ss) (by decide) (by decide)
 exact List.length_pos_of_mem (mem_ris.2 ⟨by rw [cntF_length]; exact h18, cntF_key ss s hs h18⟩)

set_option maxRecDepth 100000 in
set_option maxHeartbeats 2000000 in
theorem codeLengths_any (w : World) (v : Value) (I : Nat → Prop) (ss : List (Int × Int)) (hs : StSrc w I v ss) (hst : ∀ s ∈ ss, 0 ≤ s.1 ∧ s.1 ≤ 18) (hlen : ss.length ≤ 1000) :
  Calls Tryz.prog 129 #[v] w fun e w' => (∃ g n cap, e = .returned (.slice (some ⟨g, 0, none⟩) n cap) ∧ NRow 0 w' (.slice (some ⟨g, 0, none⟩) n cap) (chosen ss) ∧ w.heap.size ≤ g) ∧ Same w w' := by
 obtain ⟨ao, cap, rfl, hx1, hx2⟩ := id hs
 clear hx1 hx2
 have HS : Hid (StSrc w I (.slice ao ss.length cap) ss) := hs
 have HST : Hid (∀ s ∈ ss, 0 ≤ s.1 ∧ s.1 ≤ 18) := hst
 clear hs hst
 go_enter Tryz.func129, Tryz.ntmps129
 go_wp2_with (at_make; refine wpList_make_e _ natV 0 w.heap.size 117 3 8 Tryz.underlying117 Tryz.infoN rfl (by decide) rfl _ _ rfl _ _ _ _ 19 rfl rfl rfl rfl (by decide) (Nat.le_refl _) ?_; intro w3 hr3 hg3 hs3; have HR3 : Hid (NRow w.heap.size w3 (.slice (some ⟨w.heap.size, 0, none⟩) 19 19) (cntF [])) := hid hr3; have HK3 : Hid (Same w w3) := hid ((Kept.refl _ w).grown hg3 (fun j e => by cases e)); clear hr3 hg3)
 go_loopg [5, 11] ss.length (fun q _ zi wr => ∃ (i : Nat), ss.length - i ≤ q ∧ i ≤ ss.length ∧ zi = .int .i64 (i : Nat) ∧ Hid (NRow w.heap.size wr (.slice (some ⟨w.heap.size, 0, none⟩) 19 19) (cntF (ss.take i))) ∧ Hid (Same w wr))
 case atStart => exact ⟨0, by omega, by omega, rfl, hid (by simpa using HR3.out), HK3⟩
 case round =>
  clear HR3 HK3 hs3
  obtain ⟨i, hq, hi, rfl, HV, HK⟩ := hrel
  by_cases hlt : i < ss.length
  ·obtain ⟨b, o, rfl, _, c1, c2⟩ := StSrc.get (n := ss.length) (cap := cap) (SrcC.kept stC_ok HS.out HK.out (fun _ _ _ f => f)) i hlt
   have hxr := HST.out _ (List.getElem_mem hlt)
   obtain ⟨x, hx⟩ : ∃ x : Nat, ss[i].1 = (x : Int) := ⟨ss[i].1.toNat, by omega⟩
   obtain ⟨y, hy⟩ : ∃ y, y = ss[i].2 := ⟨_, rfl⟩
   rw [hx] at c1 hxr
   rw [← hy] at c2
   have hx18 : x < 19 := by omega
   have HSN : Hid (cntF (ss.take (i + 1)) = (cntF (ss.take i)).set x ((cntF (ss.take i)).getD x 0 + 1)) := hid (by rw [List.take_succ_eq_append_getElem hlt, cntF_snoc, hx, Int.toNat_natCast])
   have hcl := cntF_length (ss.take i)
   obtain ⟨old, hold⟩ : ∃ old, old = (cntF (ss.take i)).getD x 0 := ⟨_, rfl⟩
   have hold2 : old ≤ 1000 := by
    have h := cntF_le (ss.take i) (cntF (ss.take i))[x] (List.getElem_mem (by omega))
    rw [hold, List.getD_eq_getElem?_getD, List.getElem?_eq_getElem (by omega)]
    simp only [Option.getD_some]
    rw [List.length_take] at h
    omega
   have cl0 : wr.cell? ⟨w.heap.size, x, none⟩ = some (.int .i64 (old : Nat)) := by
    have h := HV.out.cell x (by omega)
    rw [h, hold, List.getD_eq_getElem?_getD, List.getElem?_eq_getElem (by omega)]
    rfl
   obtain ⟨W2, hW2⟩ : ∃ W2, W2 = wr.alloc (.cells #[.int .i64 (x : Nat), .int .i64 y] 220) := ⟨_, rfl⟩
   have hk2 : Same wr W2 := by rw [hW2]; exact (Kept.refl _ wr).alloc _
   have HV2 : Hid (NRow w.heap.size W2 (.slice (some ⟨w.heap.size, 0, none⟩) 19 19) (cntF (ss.take i))) := hid (HV.out.same hk2)
   have hszw := HK.out.size
   have hne : wr.heap.size ≠ w.heap.size := by have := HV.out.lt (k := w.heap.size) rfl; omega
   have fl : wr.frozen? ⟨w.heap.size, x, none⟩ = false := HV.out.frozen x
   have cl2 : W2.cell? ⟨w.heap.size, x, none⟩ = some (.int .i64 (old : Nat)) := hk2.cell cl0 (fun f => f)
   have fl2 : W2.frozen? ⟨w.heap.size, x, none⟩ = false := HV2.out.frozen x
   rw [hW2] at cl2 fl2
   have HVN : Hid (NRow w.heap.size (W2.setCell ⟨w.heap.size, x, none⟩ (.int .i64 ((old + 1 : Nat) : Int))) (.slice (some ⟨w.heap.size, 0, none⟩) 19 19) (cntF (ss.take (i + 1)))) := hid (by rw [HSN.out, ← hold]; exact HV2.out.lay x (old + 1))
   have HKN : Hid (Same w (W2.setCell ⟨w.heap.size, x, none⟩ (.int .i64 ((old + 1 : Nat) : Int)))) := hid ((Same.trans HK.out hk2).setCell _ _ (.inr (Nat.le_refl _)))
   rw [hW2] at HVN HKN
   obtain ⟨o1, ho1⟩ : ∃ o1, o1 = old + 1 := ⟨_, rfl⟩
   have ho1I : (old : Int) + 1 = (o1 : Int) := by omega
   have ho1w : IntKind.i64.wrap (o1 : Int) = (o1 : Int) := by rw [IntKind.wrap_i64]; omega
   rw [← ho1] at HVN HKN
   clear hx hy hxr hold hk2 HV2 hW2 ho1 hcl HV
   go_wp2_with fail
   go_roundg (gk - 1)
   case measure => omega
   case rel => exact ⟨i + 1, by omega, by omega, by go_num, HVN, HKN⟩
  ·have e1 : ss.take i = ss := List.take_of_length_le (by omega)
   rw [e1] at HV
   have hcl := cntF_length ss
   have hsrc : SrcE intV wr _ (.slice (some ⟨w.heap.size, 0, none⟩) 19 19) ((cntF ss).map (fun (n : Nat) => (n : Int))) := (SrcE.ofRow HV.out).recode (by rw [List.map_map]; rfl)
   have hok : okAll ((cntF ss).map (fun (n : Nat) => (n : Int))) 0 1000000000000 = true := by
    unfold okAll
    have h1 : ((cntF ss).map (fun (n : Nat) => (n : Int))).length = 19 := by rw [List.length_map, hcl]
    rw [h1]
    have h2 : ((cntF ss).map (fun (n : Nat) => (n : Int))).any (badI 0 1000000000000) = false := by
     rw [List.any_eq_false]
     intro z hz
     obtain ⟨n, hn, rfl⟩ := List.mem_map.1 hz
     have := cntF_le ss n hn
     simp [badI]
     omega
    rw [h2]
    decide
   have hnat : cntF ss = ((cntF ss).map (fun (n : Nat) => (n : Int))).map Int.toNat := by
    rw [List.map_map]
    conv => lhs; rw [← List.map_id (cntF ss)]
    exact List.map_congr_left (fun x _ => by simp)
   have HLM := limit_good wr _ _ _ (cntF ss) 7 hsrc hok hnat (by decide) (by decide) (chosen_fit ss)
   have hszw := HK.out.size
   clear hsrc hok hnat hcl e1 HV
   go_wp2_with fail
   refine HLM.mono ?_
   rintro e w5 ⟨⟨g, n, c5, rfl, hr5, hg5⟩, hk5⟩
   have HR5 : Hid (NRow 0 w5 (.slice (some ⟨g, 0, none⟩) n c5) (chosen ss)) := hr5
   have HK5 : Hid (Same w w5) := hid (Same.trans HK.out hk5)
   clear hr5 hk5 HLM
   go_wp2_with fail
   go_ret
   exact ⟨⟨g, n, c5, rfl, HR5.out, by omega⟩, HK5.out⟩

end Go.Proofs.YtljlmfnbeofmmaaGreatDoor

namespace Go.Proofs.YtljlmfnbeofmmaaGreatDoor
open Go.RowKit

set_option maxRecDepth 100000 in
set_option maxHeartbeats 2000000 in
theorem coming_any (w : World) (g cap : Nat) (cs : List Nat) (hr : NRow 0 w (.slice (some ⟨g, 0, none⟩) 19 cap) cs) (hT : Tab w) :
  Calls Tryz.prog 130 #[.slice (some ⟨g, 0, none⟩) 19 cap] w fun e w' => e = .returned (.int .i64 (comeN cs 19 : Nat)) ∧ w' = w := by
 have hcl := hr.len
 have HR : Hid (NRow 0 w (.slice (some ⟨g, 0, none⟩) 19 cap) cs) := hr
 have HT : Hid (Tab w) := hT
 clear hr hT
 go_enter Tryz.func130, Tryz.ntmps130
 go_wp2_with fail
 go_loopg [3] 19 (fun q z wr => ∃ (k : Nat), k ≤ q ∧ 4 ≤ k ∧ k ≤ 19 ∧ z = .int .i64 (k : Nat) ∧ Hid (comeN cs 19 = comeN cs k) ∧ wr = w)
 case atStart => exact ⟨19, by omega, by omega, by omega, rfl, rfl, rfl⟩
 case round =>
  obtain ⟨k, hq, hk4, hk19, rfl, HC, hw⟩ := hrel
  subst hw
  by_cases hgt : 4 < k
  ·obtain ⟨j, rfl⟩ : ∃ j, k = j + 1 := ⟨k - 1, by omega⟩
   have ct := HT.out j (by omega)
   have ho18 := ord_le j (by omega)
   obtain ⟨oi, hoi⟩ : ∃ x, x = ord.getD j 0 := ⟨_, rfl⟩
   rw [← hoi] at ct ho18
   obtain ⟨x, hx⟩ : ∃ x, x = cs.getD oi 0 := ⟨_, rfl⟩
   have cl : wr.cell? ⟨g, oi, none⟩ = some (.int .i64 (x : Nat)) := by
    have h := HR.out.cell oi (by omega)
    rw [h, hx, List.getD_eq_getElem?_getD, List.getElem?_eq_getElem (by omega)]
    rfl
   have HCJ : Hid (comeN cs (j + 1) = if x = 0 then comeN cs j else j + 1) := hid (by
    rw [comeN, ← hoi, ← hx]
    by_cases h0 : x = 0
    ·rw [if_pos ⟨hgt, h0⟩, if_pos h0]
    ·rw [if_neg (fun h => h0 h.2), if_neg h0])
   obtain ⟨j1, hj1⟩ : ∃ j1, j1 = j + 1 := ⟨_, rfl⟩
   rw [← hj1] at HC HCJ hq hk4 hk19 hgt ⊢
   have hjI : (j1 : Int) - 1 = (j : Int) := by omega
   have hjw : IntKind.i64.wrap (j : Int) = (j : Int) := by rw [IntKind.wrap_i64]; omega
   have hj19 : j < 19 := by omega
   have HJ : Hid (j1 = j + 1) := hj1
   clear hx hoi hj1
   by_cases h0 : x = 0
   ·have HC2 : Hid (comeN cs 19 = comeN cs j) := hid (by rw [HC.out, HCJ.out, if_pos h0])
    subst h0
    go_wp2_with fail
    go_roundg (gk - 1)
    case measure => omega
    case rel => exact ⟨j, by have := HJ.out; omega, by have := HJ.out; omega, by omega, rfl, HC2, rfl⟩
   ·have HC2 : Hid (comeN cs 19 = j1) := hid (by rw [HC.out, HCJ.out, if_neg h0, HJ.out])
    have hx0 : ((x : Int) == 0) = false := by simp; omega
    clear h0
    go_wp2_with fail
    go_ret
    exact ⟨by rw [HC2.out]; rfl, rfl⟩
  ·have hk : k = 4 := by omega
   subst hk
   have HC2 : Hid (comeN cs 19 = 4) := hid (by rw [HC.out]; rfl)
   go_wp2_with fail
   go_ret
   exact ⟨by rw [HC2.out]; rfl, rfl⟩

theorem WS.trans {wb w w1 w' : World} {p : Nat} {s0 s s' : Value} {X Y : List Nat} (h : WS wb w p s0 s X) (hk : Same w w1) (h2 : WS w1 w' p s s' Y) : WS wb w' p s0 s' Y := by
 have hf : ∀ k, k < wb.heap.size → Fp p s k → Fp p s0 k := fun k hk hf => by
  rcases hf with e | e
  ·exact .inl e
  ·rcases h.own k e with h1 | h1
   ·exact .inr h1
   ·omega
 refine ⟨h2.wr, h2.bit, Kept.trans (Kept.trans h.kept hk (fun _ _ x => x) (fun _ _ f => f.elim)) h2.kept (fun _ _ x => x) (fun k hk2 x => hf k hk2 x), fun k e => ?_⟩
 rcases h2.own k e with h1 | h1
 ·exact h.own k h1
 ·exact .inr (by have := h.kept.size; have := hk.size; omega)

theorem row_bits (cs : List Nat) (s : Nat) (hk : key cs s ≠ 0) : bitsOf (cdOf cs s) (key cs s) = rowOf cs s := by
 have e : cdOf cs s = n2 (rowOf cs s) := by unfold cdOf; rw [if_neg hk, rowOf_n2]
 refine n2_inj _ _ (by rw [bitsOf_length, rowOf_length]) (bitsOf_lt _ _) (rowOf_bit cs s) ?_
 rw [bitsOf_n2, e, Nat.mod_eq_of_lt]
 have := n2_lt (rowOf cs s) (rowOf_bit cs s)
 rw [rowOf_length] at this
 exact this

theorem cd_lt (cs : List Nat) (s : Nat) (hk : key cs s ≠ 0) : cdOf cs s < 2 ^ key cs s := by
 have e : cdOf cs s = n2 (rowOf cs s) := by unfold cdOf; rw [if_neg hk, rowOf_n2]
 rw [e]
 have := n2_lt (rowOf cs s) (rowOf_bit cs s)
 rw [rowOf_length] at this
 exact this

theorem codesL_get (cs : List Nat) (s : Nat) (h : s < (codesL cs).length) : (codesL cs)[s] = cdOf cs s := by simp [codesL]

set_option maxRecDepth 100000 in
set_option maxHeartbeats 4000000 in
theorem writeSteps_any (w : World) (p g cap : Nat) (s : Value) (X : List Nat) (v : Value) (I : Nat → Prop) (cs : List Nat) (sn : List (Nat × Nat)) (hw : WS w w p s s X) (hX : X.length ≤ 1000000) (hs : StSrc w I v (sn.map (fun x => ((x.1 : Int), (x.2 : Int))))) (hI : ∀ k, I k → ¬ Fp p s k)
  (hr : NRow 0 w (.slice (some ⟨g, 0, none⟩) 19 cap) cs) (hg : ¬ Fp p s g) (h7 : ∀ x ∈ cs, x ≤ 7) (hok : chkN cs = 0) (hst : StepsOk cs sn) (hsn : sn.length ≤ 1000) :
  Calls Tryz.prog 131 #[.pointer (some ⟨p, 0, none⟩), v, .slice (some ⟨g, 0, none⟩) 19 cap] w fun e w' => (∃ u, e = .returned u) ∧ ∃ s', WS w w' p s s' (X ++ sn.flatMap (stepBits cs)) := by
 have hcl := hr.len
 obtain ⟨ao, cv, rfl, hx1, hx2⟩ := id hs
 clear hx1 hx2
 rw [List.length_map] at hs ⊢
 have HC := codes_good w _ _ (cs.map (fun (n : Nat) => (n : Int))) cs ((SrcE.ofRow hr).recode (by rw [List.map_map]; rfl)) (chk_good cs hcl h7 hok) (by rw [chk_codes cs hcl h7]; exact hok)
 have HW : Hid (WS w w p s s X) := hw
 have HS : Hid (StSrc w I (.slice ao sn.length cv) (sn.map (fun x => ((x.1 : Int), (x.2 : Int))))) := hs
 have HI : Hid (∀ k, I k → ¬ Fp p s k) := hI
 have HR : Hid (NRow 0 w (.slice (some ⟨g, 0, none⟩) 19 cap) cs) := hr
 have HG : Hid (¬ Fp p s g) := hg
 have HST : Hid (StepsOk cs sn) := hst
 have H7 : Hid (∀ x ∈ cs, x ≤ 7) := h7
 have HFP : Hid (∀ k, Fp p s k → k < w.heap.size) := hid (fun k h => hw.wr.fp_lt h)
 clear hw hs hI hr hg h7 hok hst
 go_enter Tryz.func131, Tryz.ntmps131
 go_wp2_with fail
 refine HC.mono ?_
 rintro e w1 ⟨⟨gc, nc, capc, rfl, hrc⟩, hk1⟩
 have hnc := hrc.len
 rw [codesL_length, hcl] at hnc
 subst hnc
 have HRC : Hid (WRow w.heap.size w1 (.slice (some ⟨gc, 0, none⟩) 19 capc) (codesL cs)) := hrc
 have HK1 : Hid (Same w w1) := hk1
 have HW1 : Hid (WS w1 w1 p s s X) := hid (WS.start (HW.out.wr.kept hk1 (fun _ _ f => f)) HW.out.bit)
 have hsz1 := hk1.size
 have HGC : Hid (w.heap.size ≤ gc) := hid (hrc.ge (k := gc) rfl)
 clear hrc hk1 HC
 go_wp2_with fail
 go_loopg [9, 10, 11, 19] sn.length (fun q _ _ _ zi wr => ∃ (i : Nat) (si : Value), sn.length - i ≤ q ∧ i ≤ sn.length ∧ zi = .int .i64 (i : Nat) ∧ Hid (WS w1 wr p s si (X ++ (sn.take i).flatMap (stepBits cs)) ∧ (X ++ (sn.take i).flatMap (stepBits cs)).length ≤ 1000000 + 14 * i))
 case atStart => exact ⟨0, s, by omega, by omega, rfl, hid ⟨by simpa using HW1.out, by simpa using hX⟩⟩
 case round =>
  clear HW1
  obtain ⟨i, si, hq, hi, rfl, HWI⟩ := hrel
  by_cases hlt : i < sn.length
  ·have hkw := HWI.out.1.kept
   obtain ⟨b, o, rfl, _, c1, c2⟩ := StSrc.get (n := sn.length) (cap := cv) (SrcC.kept stC_ok (SrcC.kept stC_ok HS.out HK1.out (fun _ _ _ f => f)) hkw (fun k h _ => HI.out k h)) i (by simpa using hlt)
   have hsti := HST.out _ (List.getElem_mem hlt)
   simp only [List.getElem_map] at c1 c2
   obtain ⟨x, hx⟩ : ∃ x, x = sn[i].1 := ⟨_, rfl⟩
   obtain ⟨y, hy⟩ : ∃ y, y = sn[i].2 := ⟨_, rfl⟩
   rw [← hx] at c1 hsti
   rw [← hy] at c2 hsti
   obtain ⟨hx19, hkey, hy2⟩ := hsti
   rw [hcl] at hx19
   have hk7 : key cs x ≤ 7 := by rw [key_get (by omega)]; exact H7.out _ (List.getElem_mem _)
   have hcd := cd_lt cs x hkey
   have hxb7 := xbits_le x
   have HBITS : Hid (X ++ (sn.take (i + 1)).flatMap (stepBits cs) = X ++ (sn.take i).flatMap (stepBits cs) ++ bitsOf (cdOf cs x) (key cs x) ++ bitsOf y (xbits x)) := hid (by
    rw [List.take_succ_eq_append_getElem hlt, List.flatMap_append, row_bits cs x hkey]
    simp [stepBits, hx, hy])
   have cg : wr.cell? ⟨g, x, none⟩ = some (.int .i64 (key cs x : Nat)) := by
    have h := (HR.out.same HK1.out).kept hkw (fun k e f => by simp [Value.ownBlock] at e; subst e; exact HG.out f)
    rw [h.cell x (by omega), key_get (by omega)]
    rfl
   have cc : wr.cell? ⟨gc, x, none⟩ = some (.int .u32 (cdOf cs x : Nat)) := by
    have h := HRC.out.kept hkw (fun k e f => by simp [Value.ownBlock] at e; subst e; have := HFP.out gc f; have := HGC.out; omega)
    rw [h.cell x (by rw [codesL_length]; omega), codesL_get]
    rfl
   obtain ⟨kx, hkx⟩ : ∃ kx, kx = key cs x := ⟨_, rfl⟩
   obtain ⟨cx, hcx⟩ : ∃ cx, cx = cdOf cs x := ⟨_, rfl⟩
   obtain ⟨xb, hxb⟩ : ∃ xb, xb = xbits x := ⟨_, rfl⟩
   have HSH := fun W2 => shape_any W2 (x : Int)
   rw [widthM_nat] at HSH
   rw [← hkx] at cg hk7 hcd HBITS
   rw [← hcx] at cc hcd HBITS
   rw [← hxb] at HSH hy2 hxb7 HBITS
   have hyw : y < 2 ^ 7 := Nat.lt_of_lt_of_le hy2 (Nat.pow_le_pow_right (by decide) hxb7)
   have hyc : IntKind.u32.wrap (y : Int) = (y : Int) := by rw [IntKind.wrap_u32]; omega
   have HP1 : Hid (∀ W, Same wr W → Calls Tryz.prog 81 #[.pointer (some ⟨p, 0, none⟩), .int .u32 (cx : Nat), .int .i64 (kx : Nat)] W fun e w' => e = .returned (.int .i64 0) ∧ (∃ s', WS w1 w' p s s' (X ++ (sn.take i).flatMap (stepBits cs) ++ bitsOf cx kx)) ∧ Kept (Fp p si) W w') := hid (fun W hk => ws_put w1 W p s si _ cx kx (HWI.out.1.same hk) (by omega) hcd (by have := HWI.out.2; omega))
   have HFI : Hid (∀ k, Fp p si k → k < wr.heap.size) := hid (fun k h => HWI.out.1.wr.fp_lt h)
   have HLN : Hid ((X ++ (sn.take i).flatMap (stepBits cs)).length ≤ 1000000 + 14 * i) := HWI.out.2
   have hgr : g < wr.heap.size := World.block_lt_of_cell? wr _ cg
   have hgcr : gc < wr.heap.size := World.block_lt_of_cell? wr _ cc
   have HFW : Hid (∀ k, k = g ∨ k = gc ∨ k = wr.heap.size → ¬ Fp p si k) := hid (fun k hk hf => by
    rcases hk with rfl | rfl | rfl
    ·rcases hf with e | e
     ·exact HG.out (.inl e)
     ·rcases HWI.out.1.own _ e with h1 | h1
      ·exact HG.out (.inr h1)
      ·have := HR.out.lt (k := k) rfl; omega
    ·rcases hf with e | e
     ·have := HFP.out k (.inl e); have := HGC.out; omega
     ·rcases HWI.out.1.own _ e with h1 | h1
      ·have := HFP.out k (.inr h1); have := HGC.out; omega
      ·have := HRC.out.lt (k := k) rfl; omega
    ·have := HFI.out _ hf; omega)
   have i1 : (0 : Int) ≤ (x : Int) := by omega
   have i2 : (x : Int) < 19 := by omega
   have HY : Hid (y < 2 ^ xb) := hy2
   clear hkx hcx hxb hx hy hkey hkw hcd hy2
   go_wp2_with fail
   refine (HSH _).mono ?_
   rintro e w2 ⟨rfl, hw2⟩
   have HK2 : Hid (Same wr w2) := hid (by rw [hw2]; exact (Kept.refl _ wr).alloc _)
   have d1 : w2.cell? ⟨wr.heap.size, 0, none⟩ = some (.int .i64 (x : Nat)) := by rw [hw2]; simp
   have d2 : w2.cell? ⟨wr.heap.size, 1, none⟩ = some (.int .i64 (y : Nat)) := by rw [hw2]; simp
   have d3 : w2.cell? ⟨g, x, none⟩ = some (.int .i64 (kx : Nat)) := HK2.out.cell cg (fun f => f)
   have d4 : w2.cell? ⟨gc, x, none⟩ = some (.int .u32 (cx : Nat)) := HK2.out.cell cc (fun f => f)
   clear hw2 HSH cg cc c1 c2
   go_wp2_with fail
   go_region_held3 (fun w' => w'.cell? ⟨wr.heap.size, 0, none⟩ = some (.int .i64 (x : Nat)) ∧ w'.cell? ⟨wr.heap.size, 1, none⟩ = some (.int .i64 (y : Nat)) ∧ w'.cell? ⟨g, x, none⟩ = some (.int .i64 (kx : Nat)) ∧ w'.cell? ⟨gc, x, none⟩ = some (.int .u32 (cx : Nat)))
    (first
     | (go_split_ands; exact ⟨hk5.cell (by assumption) (HFW.out _ (.inr (.inr rfl))), hk5.cell (by assumption) (HFW.out _ (.inr (.inr rfl))), hk5.cell (by assumption) (HFW.out _ (.inl rfl)), hk5.cell (by assumption) (HFW.out _ (.inr (.inl rfl)))⟩)
     | go_keep)
    (first
     | (go_at_call 81; refine (HP1.out _ (Same.trans HK2.out ((Kept.refl _ w2).drew))).mono ?_; rintro e w5 ⟨rfl, ⟨s5, hws5⟩, hk5⟩))
   all_goals
    have f2 : w5.cell? ⟨wr.heap.size, 1, none⟩ = some (.int .i64 (y : Nat)) := hk5.cell (show w2.drew.cell? ⟨wr.heap.size, 1, none⟩ = some (.int .i64 (y : Nat)) from d2) (HFW.out _ (.inr (.inr rfl)))
    have HP2 := ws_put w1 w5 p s s5 _ y xb hws5 (by omega) HY.out (by have := HLN.out; rw [List.length_append, bitsOf_length]; omega)
    clear hws5 hk5 d1 d2 d3 d4
    go_wp2_with fail
    refine HP2.mono ?_
    rintro e w6 ⟨rfl, ⟨s6, hws6⟩, hk6⟩
    have HW6 : Hid (WS w1 w6 p s s6 (X ++ (sn.take (i + 1)).flatMap (stepBits cs)) ∧ (X ++ (sn.take (i + 1)).flatMap (stepBits cs)).length ≤ 1000000 + 14 * (i + 1)) := hid ⟨by rw [HBITS.out]; exact hws6, by rw [HBITS.out, List.length_append, List.length_append, bitsOf_length, bitsOf_length]; have := HLN.out; omega⟩
    clear hws6 hk6 HP2
    go_wp2_with fail
    go_roundg (gk - 1)
    case measure => omega
    case rel => exact ⟨i + 1, s6, by omega, by omega, by go_num, HW6⟩
  ·have e1 : sn.take i = sn := List.take_of_length_le (by omega)
   rw [e1] at HWI
   clear e1
   go_wp2_with fail
   go_end0
   exact ⟨⟨_, rfl⟩, si, WS.trans HW.out HK1.out HWI.out.1⟩

end Go.Proofs.YtljlmfnbeofmmaaGreatDoor

namespace Go.Proofs.YtljlmfnbeofmmaaGreatDoor
open Go.RowKit

theorem packM_ne (l : List Nat) (h : l ≠ []) : packM l ≠ [] := by
 cases l with
 | nil => exact absurd rfl h
 | cons v r =>
  rw [packM_cons]
  intro e
  exact sayM_ne v (1 + frontN v r) (by omega) (List.append_eq_nil_iff.1 e).1

theorem head_ok (xs ys : List Nat) (hx : ∀ n ∈ xs, n ≤ 15) (hy : ∀ n ∈ ys, n ≤ 15) (h1 : 257 ≤ xs.length) (h2 : xs.length ≤ 286) (h3 : 1 ≤ ys.length) (h4 : ys.length ≤ 30) :
  HeadOk xs ys (comeN (chosen (packM (xs ++ ys))) 19) (chosen (packM (xs ++ ys))) (packN (xs ++ ys)) := by
 have h15 : ∀ n ∈ xs ++ ys, n ≤ 15 := fun n hn => by
  rcases List.mem_append.1 hn with h | h
  ·exact hx n h
  ·exact hy n h
 have hlen : (xs ++ ys).length ≤ 316 := by rw [List.length_append]; omega
 have hne : xs ++ ys ≠ [] := fun e => by have := congrArg List.length e; rw [List.length_append, List.length_nil] at this; omega
 have his := packM_is (xs ++ ys) h15
 have hc := comeN_ge (chosen (packM (xs ++ ys))) 19 (by decide)
 obtain ⟨s0, hs0⟩ := List.exists_mem_of_ne_nil _ (packM_ne _ hne)
 refine ⟨h1, h2, h3, h4, hc.1, hc.2, chosen_length _, chosen_le _, chosen_ok _ s0 hs0 (by have := his s0 hs0; have := this.1; have := (his s0 hs0).2.1; omega), fun j hj hj2 => comeN_rest _ 19 j hj hj2, ?_, ?_⟩
 ·intro s hs
  obtain ⟨t, ht, rfl⟩ := List.mem_map.1 hs
  have hi := his t ht
  have hlt : t.1.toNat < 19 := by have := hi.1; have := hi.2.1; omega
  exact ⟨by rw [chosen_length]; exact hlt, chosen_key _ t ht hlt, hi.2.2.2⟩
 ·rw [packN_cast _ h15, runM_pack _ _ [] h15 (by simp)]
  simp

theorem lensOk_append (xs ys : List Int) : lensOk (xs ++ ys) = (lensOk xs && lensOk ys) := by
 unfold lensOk
 rw [List.any_append, Bool.not_or]

end Go.Proofs.YtljlmfnbeofmmaaGreatDoor

namespace Go.Proofs.YtljlmfnbeofmmaaGreatDoor
open Go.RowKit
def WroteF (w w' : World) (p : Nat) (s : Value) (X : List Nat) (xs ys : List Nat) : Prop :=
 ∃ s' many cs sn, (cs = chosen (packM (xs ++ ys)) ∧ many = comeN cs 19 ∧ sn = packN (xs ++ ys)) ∧ HeadOk xs ys many cs sn ∧ sn.length ≤ xs.length + ys.length ∧ WS w w' p s s' (X ++ headBits xs.length ys.length many cs sn)

theorem mayM_parts {zl zd : List Int} (h : mayM zl zd = true) : 257 ≤ zl.length ∧ zl.length ≤ 286 ∧ 1 ≤ zd.length ∧ zd.length ≤ 30 ∧ lensOk zl = true ∧ lensOk zd = true := by
 unfold mayM at h
 simp only [Bool.and_eq_true, decide_eq_true_eq] at h
 obtain ⟨⟨⟨⟨⟨h1, h2⟩, h3⟩, h4⟩, h5⟩, h6⟩ := h
 exact ⟨h1, h2, h3, h4, h5, h6⟩

theorem small_le {zl : List Int} (h : lensOk zl = true) : ∀ n ∈ zl.map Int.toNat, n ≤ 15 := by
 have hb := (lensOk_iff zl).1 h
 intro x hx
 obtain ⟨z, hz, rfl⟩ := List.mem_map.1 hx
 have := hb z hz
 omega

set_option maxRecDepth 100000 in
set_option maxHeartbeats 4000000 in
theorem lwrite_fn (w : World) (p : Nat) (s : Value) (X : List Nat) (al ad : Option Addr) (L cl D cd : Nat) (I J : Nat → Prop) (zl zd : List Int) (hA : SrcE intV w I (.slice al L cl) zl) (hB : SrcE intV w J (.slice ad D cd) zd) (hm : mayM zl zd = true)
  (hws : WS w w p s s X) (hX : X.length ≤ 100000) (hT : Tab w) (hpg : ¬ Fp p s 0) :
  Calls Tryz.prog 88 #[.pointer (some ⟨p, 0, none⟩), .slice al L cl, .slice ad D cd] w fun e w' => e = .returned (.int .i64 0) ∧ WroteF w w' p s X (zl.map Int.toNat) (zd.map Int.toNat) := by
 have hll := hA.at.1
 have hdl := hB.at.1
 obtain ⟨h1, h2, h3, h4, hokl, hokd⟩ := mayM_parts hm
 rw [← hll] at h1 h2
 rw [← hdl] at h3 h4
 have HHD := head_ok (zl.map Int.toNat) (zd.map Int.toNat) (small_le hokl) (small_le hokd) (by rw [List.length_map, ← hll]; exact h1) (by rw [List.length_map, ← hll]; exact h2) (by rw [List.length_map, ← hdl]; exact h3) (by rw [List.length_map, ← hdl]; exact h4)
 rw [← List.map_append] at HHD
 have hpn := packN_length ((zl ++ zd).map Int.toNat)
 have h15 : ∀ n ∈ (zl ++ zd).map Int.toNat, n ≤ 15 := small_le (by rw [lensOk_append, hokl, hokd]; rfl)
 have hcast := packN_cast ((zl ++ zd).map Int.toNat) h15
 have his := packM_is ((zl ++ zd).map Int.toNat) h15
 obtain ⟨ns, hns⟩ : ∃ ns, ns = (zl ++ zd).map Int.toNat := ⟨_, rfl⟩
 have hnl : ns.length = L + D := by rw [hns, List.length_map, List.length_append, ← hll, ← hdl]
 have hxl : (zl.map Int.toNat).length = L := by rw [List.length_map, ← hll]
 have hyl : (zd.map Int.toNat).length = D := by rw [List.length_map, ← hdl]
 rw [← hns] at HHD hpn hcast his
 obtain ⟨cs, hcs⟩ : ∃ cs, cs = chosen (packM ns) := ⟨_, rfl⟩
 rw [← hcs] at HHD
 obtain ⟨come, hcome⟩ : ∃ x, x = comeN cs 19 := ⟨_, rfl⟩
 rw [← hcome] at HHD
 have HHO : Hid (HeadOk (zl.map Int.toNat) (zd.map Int.toNat) come cs (packN ns)) := HHD
 have hc4 := HHD.m1
 have hc19 := HHD.m2
 have HWI1 := fun W => within_any W (L : Int) 257 286
 have HWI2 := fun W => within_any W (D : Int) 1 30
 have e1 : inB (L : Int) 257 286 = true := by
  unfold inB
  have h1 : (257 : Int) ≤ (L : Int) := by omega
  have h2 : (L : Int) ≤ 286 := by omega
  simp [h1, h2]
 have e2 : inB (D : Int) 1 30 = true := by
  unfold inB
  have h1 : (1 : Int) ≤ (D : Int) := by omega
  have h2 : (D : Int) ≤ 30 := by omega
  simp [h1, h2]
 rw [e1] at HWI1
 rw [e2] at HWI2
 obtain ⟨b1, o1, rfl⟩ : ∃ b o, al = some ⟨b, o, none⟩ := by
  obtain ⟨b1, o1, _, e3, _⟩ := hA.get 0 (by omega)
  simp only [Value.slice.injEq] at e3
  exact ⟨b1, o1, e3.1⟩
 obtain ⟨b2, o2, rfl⟩ : ∃ b o, ad = some ⟨b, o, none⟩ := by
  obtain ⟨b2, o2, _, e4, _⟩ := hB.get 0 (by omega)
  simp only [Value.slice.injEq] at e4
  exact ⟨b2, o2, e4.1⟩
 obtain ⟨W, hW⟩ : ∃ W, W = w.alloc (.cells #[.slice (some ⟨b1, o1, none⟩) L cl, .slice (some ⟨b2, o2, none⟩) D cd] 117) := ⟨_, rfl⟩
 have hk0 : Same w W := by rw [hW]; exact (Kept.refl _ w).alloc _
 have HCC := lconcat_any W w.heap.size L cl D cd ⟨b1, o1, none⟩ ⟨b2, o2, none⟩ I J zl zd (by rw [hW]; simp) (by rw [hW]; simp) (hA.same hk0) (hB.same hk0) (by omega) (by omega) (by omega)
 have HK0 : Hid (Same w W) := hk0
 have HPA : Hid (packA (zl ++ zd) = .ok (packM ns)) := hid (by rw [packA_good (by rw [List.length_append]; omega) (by rw [lensOk_append, hokl, hokd]; rfl), ← hns])
 have HLN : Hid ((zl ++ zd).length ≤ 10000000) := hid (by rw [List.length_append]; omega)
 have HIS : Hid (∀ t ∈ packM ns, 0 ≤ t.1 ∧ t.1 ≤ 18) := hid (fun t ht => ⟨(his t ht).1, (his t ht).2.1⟩)
 have HPL : Hid ((packM ns).length ≤ 1000) := hid (by have := packM_len ns; omega)
 have HPN : Hid ((packN ns).length ≤ L + D) := hid (by omega)
 have HCAST : Hid ((packN ns).map (fun x => ((x.1 : Int), (x.2 : Int))) = packM ns) := hcast
 have HCS : Hid (cs = chosen (packM ns)) := hcs
 have HNS : Hid (ns = zl.map Int.toNat ++ zd.map Int.toNat) := hid (by rw [hns, List.map_append])
 have HCO : Hid (come = comeN cs 19) := hcome
 have HXY : Hid ((zl.map Int.toNat).length = L ∧ (zd.map Int.toNat).length = D) := hid ⟨hxl, hyl⟩
 have HWS : Hid (WS w w p s s X) := hws
 have HT : Hid (Tab w) := hT
 have HPG : Hid (¬ Fp p s 0) := hpg
 have HFP : Hid (∀ k, Fp p s k → k < w.heap.size) := hid (fun k h => hws.wr.fp_lt h)
 obtain ⟨l1, hl1⟩ : ∃ x, x = L - 257 := ⟨_, rfl⟩
 obtain ⟨d1, hd1⟩ : ∃ x, x = D - 1 := ⟨_, rfl⟩
 obtain ⟨c1, hc1⟩ : ∃ x, x = come - 4 := ⟨_, rfl⟩
 have HVAL : Hid (l1 = L - 257 ∧ d1 = D - 1 ∧ c1 = come - 4) := hid ⟨hl1, hd1, hc1⟩
 have hl1I : (L : Int) - 257 = (l1 : Int) := by omega
 have hd1I : (D : Int) - 1 = (d1 : Int) := by omega
 have hc1I : (come : Int) - 4 = (c1 : Int) := by omega
 have hl1b : l1 < 2 ^ 5 := by omega
 have hd1b : d1 < 2 ^ 5 := by omega
 have hc1b : c1 < 2 ^ 4 := by omega
 have hl1w : IntKind.u32.wrap (l1 : Int) = (l1 : Int) := by rw [IntKind.wrap_u32]; omega
 have hd1w : IntKind.u32.wrap (d1 : Int) = (d1 : Int) := by rw [IntKind.wrap_u32]; omega
 have hc1w : IntKind.u32.wrap (c1 : Int) = (c1 : Int) := by rw [IntKind.wrap_u32]; omega
 clear hA hB hm hk0 hokl hokd hll hdl HHD hpn h15 hcast his hns hcs hcome hws hT hpg hnl hxl hyl hl1 hd1 hc1 e1 e2 h3 h4
 go_enter Tryz.func88, Tryz.ntmps88
 go_wp2_with fail
 refine (HWI1 _).mono ?_
 rintro e wx ⟨rfl, hwx⟩
 subst hwx
 go_wp2_with fail
 refine (HWI2 _).mono ?_
 rintro e w0 ⟨rfl, hw0⟩
 subst hw0
 clear HWI1 HWI2
 go_wp2_with fail
 rw [← hW]
 clear hW
 refine HCC.mono ?_
 rintro e w3 ⟨v3, rfl, hr3, hk3⟩
 have HK3 : Hid (Same w0 w3) := hid (Same.trans HK0.out hk3)
 have HPK := lpack_any w3 _ _ _ (SrcE.ofRow hr3) HLN.out
 rw [HPA.out] at HPK
 clear hr3 hk3 HCC
 go_wp2_with fail
 refine HPK.mono ?_
 rintro e w4 ⟨v4, rfl, hr4, hk4⟩
 have HR4 : Hid (StRow w3.heap.size w4 v4 (packM ns)) := hr4
 have HK4 : Hid (Same w0 w4) := hid (Same.trans HK3.out hk4)
 have HCL := codeLengths_any w4 _ _ (packM ns) (SrcC.ofRow stC_ok hr4) HIS.out HPL.out
 rw [← HCS.out] at HCL
 clear hr4 hk4 HPK
 go_wp2_with fail
 refine HCL.mono ?_
 rintro e w5 ⟨⟨g, ng, capg, rfl, hrg, hgg⟩, hk5⟩
 have hng := hrg.len
 rw [HCS.out, chosen_length] at hng
 subst hng
 have HRG : Hid (NRow 0 w5 (.slice (some ⟨g, 0, none⟩) 19 capg) cs) := hrg
 have HK5 : Hid (Same w0 w5) := hid (Same.trans HK4.out hk5)
 have HR5 : Hid (StRow w3.heap.size w5 v4 (packM ns)) := hid (RowC.kept HR4.out hk5 (fun _ _ f => f))
 have HT5 : Hid (Tab w5) := hid (HT.out.kept HK5.out (fun f => f))
 have HCM := coming_any w5 g capg cs hrg HT5.out
 rw [← HCO.out] at HCM
 have HG5 : Hid (w4.heap.size ≤ g ∧ g < w5.heap.size) := hid ⟨hgg, hrg.lt (k := g) rfl⟩
 have hsz3 := HK3.out.size
 have hsz4 := HK4.out.size
 have hsz5 := HK5.out.size
 have HV4 : Hid (∀ k, v4.ownBlock = some k → w3.heap.size ≤ k ∧ k < w5.heap.size) := hid (fun k e => ⟨HR5.out.ge e, HR5.out.lt e⟩)
 have HWS5 : Hid (WS w5 w5 p s s X) := hid (WS.start (HWS.out.wr.kept HK5.out (fun _ _ f => f)) HWS.out.bit)
 clear hrg hk5 hgg HCL
 go_wp2_with fail
 refine HCM.mono ?_
 rintro e w6 ⟨rfl, hw6⟩
 subst hw6
 have HP1 := ws_put w6 w6 p s s X l1 5 HWS5.out (by decide) hl1b (by omega)
 clear HCM
 go_wp2_with fail
 refine HP1.mono ?_
 rintro e w7 ⟨rfl, ⟨s7, hws7⟩, _⟩
 have HP2 := ws_put w6 w7 p s s7 _ d1 5 hws7 (by decide) hd1b (by rw [List.length_append, bitsOf_length]; omega)
 clear HP1
 go_wp2_with fail
 refine HP2.mono ?_
 rintro e w8 ⟨rfl, ⟨s8, hws8⟩, _⟩
 have HP3 := ws_put w6 w8 p s s8 _ c1 4 hws8 (by decide) hc1b (by rw [List.length_append, List.length_append, bitsOf_length, bitsOf_length]; omega)
 clear HP2 hws7
 go_wp2_with fail
 refine HP3.mono ?_
 rintro e w9 ⟨rfl, ⟨s9, hws9⟩, _⟩
 obtain ⟨X3, hX3⟩ : ∃ X3, X3 = X ++ bitsOf l1 5 ++ bitsOf d1 5 ++ bitsOf c1 4 := ⟨_, rfl⟩
 rw [← hX3] at hws9
 have HX3 : Hid (X3 = X ++ bitsOf l1 5 ++ bitsOf d1 5 ++ bitsOf c1 4 ∧ X3.length ≤ 100014) := hid ⟨hX3, by rw [hX3]; simp only [List.length_append, bitsOf_length]; omega⟩
 have HWS9 : Hid (WS w6 w9 p s s9 X3) := hws9
 clear HP3 hws8 hws9 hX3
 go_wp2_with fail
 go_loopg [11, 57] come (fun q _ zi wr => ∃ (i : Nat) (si : Value), come - i ≤ q ∧ i ≤ come ∧ zi = .int .i64 (i : Nat) ∧ Hid (WS w6 wr p s si (X3 ++ codeBits cs i)))
 case atStart => exact ⟨0, s9, by omega, by omega, rfl, hid (by simpa [codeBits] using HWS9.out)⟩
 case round =>
  clear HWS9
  obtain ⟨i, si, hq, hi, rfl, HWI⟩ := hrel
  have hkw := HWI.out.kept
  by_cases hlt : i < come
  ·have ct := (HT5.out.kept hkw HPG.out) i (by omega)
   have ho18 := ord_le i (by omega)
   obtain ⟨oi, hoi⟩ : ∃ x, x = ord.getD i 0 := ⟨_, rfl⟩
   rw [← hoi] at ct ho18
   have HRW : Hid (NRow 0 wr (.slice (some ⟨g, 0, none⟩) 19 capg) cs) := hid (HRG.out.kept hkw (fun k e f => by simp [Value.ownBlock] at e; subst e; have h1 := HFP.out _ f; have h2 := HG5.out; omega))
   have hcl := HRG.out.len
   obtain ⟨x, hx⟩ : ∃ x, x = cs.getD oi 0 := ⟨_, rfl⟩
   have hxe : x = cs[oi]'(by omega) := by rw [hx, List.getD_eq_getElem?_getD, List.getElem?_eq_getElem (by omega)]; rfl
   have hx7 : x ≤ 7 := by rw [hxe]; exact HHO.out.c7 _ (List.getElem_mem _)
   have cg : wr.cell? ⟨g, oi, none⟩ = some (.int .i64 (x : Nat)) := by rw [HRW.out.cell oi (by omega), hxe]; rfl
   have hxw : IntKind.u32.wrap (x : Int) = (x : Int) := by rw [IntKind.wrap_u32]; omega
   have HPT := ws_put w6 wr p s si _ x 3 HWI.out (by decide) (by omega) (by rw [List.length_append, codeBits_length]; have := HX3.out.2; omega)
   have HBT : Hid (X3 ++ codeBits cs (i + 1) = X3 ++ codeBits cs i ++ bitsOf x 3) := hid (by rw [codeBits, ← hoi, ← hx, List.append_assoc])
   clear hx hxe hoi hkw HRW
   go_wp2_with fail
   refine HPT.mono ?_
   rintro e wy ⟨rfl, ⟨sy, hwsy⟩, _⟩
   have HWY : Hid (WS w6 wy p s sy (X3 ++ codeBits cs (i + 1))) := hid (by rw [HBT.out]; exact hwsy)
   clear hwsy HPT ct cg
   go_wp2_with fail
   go_roundg (gk - 1)
   case measure => omega
   case rel => exact ⟨i + 1, sy, by omega, by omega, by go_num, HWY⟩
  ·have hic : i = come := by omega
   subst hic
   clear hq hlt
   have HFS : Hid (∀ k, Fp p si k → k < w0.heap.size ∨ w6.heap.size ≤ k) := hid (fun k hf => by
    rcases hf with e | e
    ·exact .inl (HFP.out k (.inl e))
    ·rcases HWI.out.own k e with h | h
     ·exact .inl (HFP.out k (.inr h))
     ·exact .inr h)
   have hrow : StRow w3.heap.size wr v4 (packM ns) := RowC.kept HR5.out hkw (fun k e f => by have h1 := HFP.out k f; have h2 := (HV4.out k e).1; omega)
   have hcsr : NRow 0 wr (.slice (some ⟨g, 0, none⟩) 19 capg) cs := HRG.out.kept hkw (fun k e f => by simp [Value.ownBlock] at e; subst e; have h1 := HFP.out _ f; have h2 := HG5.out; omega)
   have hsrc : StSrc wr (fun k => v4.ownBlock = some k) v4 ((packN ns).map (fun x => ((x.1 : Int), (x.2 : Int)))) := by rw [HCAST.out]; exact SrcC.ofRow stC_ok hrow
   have HWT := writeSteps_any wr p g capg si (X3 ++ codeBits cs i) v4 _ cs (packN ns) (WS.start HWI.out.wr HWI.out.bit) (by rw [List.length_append, codeBits_length]; have := HX3.out.2; omega) hsrc
    (fun k e f => by have h1 := HV4.out k e; have h2 := HFS.out k f; omega) hcsr (fun f => by have h1 := HG5.out; have h2 := HFS.out g f; omega) HHO.out.c7 HHO.out.ok HHO.out.st (by have := HPN.out; omega)
   clear hrow hcsr hsrc hkw
   go_wp2_with fail
   refine HWT.mono ?_
   rintro e wz ⟨⟨u, rfl⟩, sz, hwz⟩
   have HWZ : Hid (WS w0 wz p s sz (X ++ headBits L D i cs (packN ns))) := hid (by
    have h := (WS.trans HWI.out (Kept.refl _ wr) hwz).base HK5.out
    have e : X ++ headBits L D i cs (packN ns) = X3 ++ codeBits cs i ++ (packN ns).flatMap (stepBits cs) := by
     rw [HX3.out.1, HVAL.out.1, HVAL.out.2.1, HVAL.out.2.2]
     unfold headBits
     simp only [List.append_assoc]
    rw [e]
    exact h)
   clear hwz HWT
   go_wp2_with fail
   go_ret
   refine ⟨rfl, sz, i, cs, packN ns, ⟨by rw [← HNS.out]; exact HCS.out, HCO.out, by rw [← HNS.out]⟩, HHO.out, ?_, ?_⟩
   ·rw [HXY.out.1, HXY.out.2]; exact HPN.out
   ·rw [HXY.out.1, HXY.out.2]; exact HWZ.out

end Go.Proofs.YtljlmfnbeofmmaaGreatDoor
