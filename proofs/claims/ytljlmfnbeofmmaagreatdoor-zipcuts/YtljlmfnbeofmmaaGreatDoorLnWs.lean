import Derived.Test.YtljlmfnbeofmmaaGreatDoorLnCat
import Derived.Test.YtljlmfnbeofmmaaGreatDoorLnTc
import Derived.Test.YtljlmfnbeofmmaaGreatDoorHFairM
import Derived.Test.YtljlmfnbeofmmaaGreatDoorLnSame
namespace Go.Proofs.YtljlmfnbeofmmaaGreatDoor
open Go.RowKit

structure WS (wb w : World) (p : Nat) (s0 s : Value) (X : List Nat) : Prop where
 wr : Wr w p s (n2 X) X.length
 bit : ∀ b ∈ X, b < 2
 kept : Kept (Fp p s0) wb w
 own : ∀ k, s.ownBlock = some k → s0.ownBlock = some k ∨ wb.heap.size ≤ k

theorem WS.start {w : World} {p : Nat} {s : Value} {X : List Nat} (h : Wr w p s (n2 X) X.length) (hb : ∀ b ∈ X, b < 2) : WS w w p s s X := ⟨h, hb, Kept.refl _ _, fun _ e => .inl e⟩

theorem WS.same {wb w w' : World} {p : Nat} {s0 s : Value} {X : List Nat} (h : WS wb w p s0 s X) (hk : Same w w') : WS wb w' p s0 s X :=
 ⟨h.wr.kept hk (fun _ _ f => f), h.bit, Kept.trans h.kept hk (fun _ _ x => x) (fun _ _ f => f.elim), h.own⟩

theorem WS.base {wa wb w : World} {p : Nat} {s0 s : Value} {X : List Nat} (h : WS wb w p s0 s X) (hk : Same wa wb) : WS wa w p s0 s X :=
 ⟨h.wr, h.bit, Kept.trans (hk.mono (fun _ _ f => f.elim)) h.kept (fun _ _ x => x) (fun _ _ x => x), fun k e => by
  rcases h.own k e with h1 | h1
  ·exact .inl h1
  ·exact .inr (Nat.le_trans hk.size h1)⟩

theorem ws_put (wb w : World) (p : Nat) (s0 s : Value) (X : List Nat) (v n : Nat) (h : WS wb w p s0 s X) (hn : n ≤ 32) (hv : v < 2 ^ n) (hc : X.length ≤ 1000000000) :
  Calls Tryz.prog 81 #[.pointer (some ⟨p, 0, none⟩), .int .u32 (v : Nat), .int .i64 (n : Nat)] w fun e w' => e = .returned (.int .i64 0) ∧ (∃ s', WS wb w' p s0 s' (X ++ bitsOf v n)) ∧ Kept (Fp p s) w w' := by
 refine (put_good p v n _ _ s w hn hv h.wr (by omega)).mono ?_
 rintro e w' ⟨rfl, s', hw, hk, hg⟩
 refine ⟨rfl, ⟨s', ?_, ?_, ?_, ?_⟩, hk⟩
 ·rw [n2_put X v n hv, List.length_append, bitsOf_length]
  exact hw
 ·intro b hb
  rcases List.mem_append.1 hb with h1 | h1
  ·exact h.bit b h1
  ·exact bitsOf_lt _ _ b h1
 ·refine Kept.trans h.kept hk (fun _ _ x => x) (fun k hk2 hf => ?_)
  rcases hf with e | e
  ·exact .inl e
  ·rcases h.own k e with h1 | h1
   ·exact .inr h1
   ·omega
 ·intro k e
  rcases hg with h1 | h1
  ·exact h.own k (by rw [← h1]; exact e)
  ·exact .inr (Nat.le_trans h.kept.size (h1 k e))

theorem snoc_ind {α : Type} {p : List α → Prop} (h0 : p []) (h1 : ∀ r s, p r → p (r ++ [s])) (l : List α) : p l := by
 have h : ∀ m : List α, p m.reverse := by
  intro m
  induction m with
  | nil => simpa using h0
  | cons a r ih => rw [List.reverse_cons]; exact h1 _ _ ih
 simpa using h l.reverse

def cntF (ss : List (Int × Int)) : List Nat := ss.foldl (fun l s => l.set s.1.toNat (l.getD s.1.toNat 0 + 1)) (List.replicate 19 0)

theorem cntF_snoc (ss : List (Int × Int)) (s : Int × Int) : cntF (ss ++ [s]) = (cntF ss).set s.1.toNat ((cntF ss).getD s.1.toNat 0 + 1) := by
 unfold cntF
 rw [List.foldl_append]
 rfl

theorem cntF_length (ss : List (Int × Int)) : (cntF ss).length = 19 := by
 refine snoc_ind (p := fun l => (cntF l).length = 19) ?_ ?_ ss
 ·simp [cntF]
 ·intro r s ih
  rw [cntF_snoc, List.length_set, ih]

theorem cntF_le (ss : List (Int × Int)) : ∀ x ∈ cntF ss, x ≤ ss.length := by
 refine snoc_ind (p := fun l => ∀ x ∈ cntF l, x ≤ l.length) ?_ ?_ ss
 ·intro x hx; have := List.eq_of_mem_replicate hx; omega
 ·intro r s ih x hx
  rw [cntF_snoc] at hx
  rw [List.length_append, List.length_singleton]
  rcases List.mem_or_eq_of_mem_set hx with h | h
  ·have := ih x h; omega
  ·have : (cntF r).getD s.1.toNat 0 ≤ r.length := by
    by_cases hl : s.1.toNat < (cntF r).length
    ·rw [List.getD_eq_getElem?_getD, List.getElem?_eq_getElem hl]
     exact ih _ (List.getElem_mem hl)
    ·rw [List.getD_eq_getElem?_getD, List.getElem?_eq_none (by omega)]
     exact Nat.zero_le _
   omega

theorem cntF_key (ss : List (Int × Int)) (s : Int × Int) (hs : s ∈ ss) (h18 : s.1.toNat < 19) : key (cntF ss) s.1.toNat ≠ 0 := by
 revert hs
 refine snoc_ind (p := fun l => s ∈ l → key (cntF l) s.1.toNat ≠ 0) ?_ ?_ ss
 ·intro h; simp at h
 ·intro r t ih hs
  unfold key
  rw [cntF_snoc]
  have hl := cntF_length r
  by_cases e : t.1.toNat = s.1.toNat
  ·rw [e, List.getD_eq_getElem?_getD, List.getElem?_set_self (by omega)]
   simp
  ·rw [List.getD_eq_getElem?_getD, List.getElem?_set_ne e, ← List.getD_eq_getElem?_getD]
   rcases List.mem_append.1 hs with h | h
   ·exact ih h
   ·simp at h; subst h; exact absurd rfl e

theorem lim_key (ns : List Nat) (most s : Nat) (hs : s < ns.length) (hk : key ns s ≠ 0) (hfit : (ris ns).length ≤ 2 ^ most) (h1 : 1 ≤ most) (h15 : most ≤ 15) : key (limL ns most) s ≠ 0 := by
 have hl : s < (limL ns most).length := by rw [limL_length]; exact hs
 rw [key_get hl, limL_get, if_neg hk]
 split
 ·omega
 ·rename_i h2
  have hm : Many ns most := ⟨by omega, hfit, h1, h15⟩
  have hr : s ∈ ris ns := mem_ris.2 ⟨hs, hk⟩
  have := hm.pos ((ris ns).idxOf s) (List.idxOf_lt_length_of_mem hr)
  omega

def chosen (ss : List (Int × Int)) : List Nat := limL (cntF ss) 7

theorem chosen_fit (ss : List (Int × Int)) : (ris (cntF ss)).length ≤ 2 ^ 7 := by
 have h1 := ris_length (cntF ss)
 have h2 := cntF_length ss
 omega

theorem chosen_length (ss : List (Int × Int)) : (chosen ss).length = 19 := by unfold chosen; rw [limL_length, cntF_length]
theorem chosen_le (ss : List (Int × Int)) : ∀ x ∈ chosen ss, x ≤ 7 := lim_le _ 7 (chosen_fit ss) (by decide) (by decide)
theorem chosen_key (ss : List (Int × Int)) (s : Int × Int) (hs : s ∈ ss) (h18 : s.1.toNat < 19) : key (chosen ss) s.1.toNat ≠ 0 := lim_key _ 7 _ (by rw [cntF_length]; exact h18) (cntF_key ss s hs h18) (chosen_fit ss) (by decide) (by decide)
theorem chosen_ok (ss : List (Int × Int)) (s : Int × Int) (hs : s ∈ ss) (h18 : s.1.toNat < 19) : chkN (chosen ss) = 0 := by
 refine lim_check _ 7 ?_ (chosen_fit ss) (by decide) (by decide)
 exact List.length_pos_of_mem (mem_ris.2 ⟨by rw [cntF_length]; exact h18, cntF_key ss s hs h18⟩)

set_option maxRecDepth 100000 in
set_option maxHeartbeats 2000000 in
theorem codeLengths_any (w : World) (v : Value) (I : Nat → Prop) (ss : List (Int × Int)) (hs : StSrc w I v ss) (hst : ∀ s ∈ ss, 0 ≤ s.1 ∧ s.1 ≤ 18) (hlen : ss.length ≤ 1000) :
  Calls Tryz.prog 129 #[v] w fun e w' => (∃ g n cap, e = .returned (.slice (some ⟨g, 0, none⟩) n cap) ∧ NRow 0 w' (.slice (some ⟨g, 0, none⟩) n cap) (chosen ss) ∧ w.heap.size ≤ g) ∧ Same w w' := by
 obtain ⟨ao, cap, rfl, hx1, hx2⟩ := id hs
 clear hx1 hx2
 have HS : Hid (StSrc w I (.slice ao ss.length cap) ss) := hs
 have HST : Hid (∀ s ∈ ss, 0 ≤ s.1 ∧ s.1 ≤ 18) := hst
 clear hs hst
 go_enter Tryz.func129, Tryz.ntmps129
 go_wp2_with (at_make; refine wpList_make_e _ natV 0 w.heap.size 117 3 8 Tryz.underlying117 Tryz.infoN rfl (by decide) rfl _ _ rfl _ _ _ _ 19 rfl rfl rfl rfl (by decide) (Nat.le_refl _) ?_; intro w3 hr3 hg3 hs3; have HR3 : Hid (NRow w.heap.size w3 (.slice (some ⟨w.heap.size, 0, none⟩) 19 19) (cntF [])) := hid hr3; have HK3 : Hid (Same w w3) := hid ((Kept.refl _ w).grown hg3 (fun j e => by cases e)); clear hr3 hg3)
 go_loopg [5, 11] ss.length (fun q _ zi wr => ∃ (i : Nat), ss.length - i ≤ q ∧ i ≤ ss.length ∧ zi = .int .i64 (i : Nat) ∧ Hid (NRow w.heap.size wr (.slice (some ⟨w.heap.size, 0, none⟩) 19 19) (cntF (ss.take i))) ∧ Hid (Same w wr))
 case atStart => exact ⟨0, by omega, by omega, rfl, hid (by simpa using HR3.out), HK3⟩
 case round =>
  clear HR3 HK3 hs3
  obtain ⟨i, hq, hi, rfl, HV, HK⟩ := hrel
  by_cases hlt : i < ss.length
  ·obtain ⟨b, o, rfl, _, c1, c2⟩ := StSrc.get (n := ss.length) (cap := cap) (SrcC.kept stC_ok HS.out HK.out (fun _ _ _ f => f)) i hlt
   have hxr := HST.out _ (List.getElem_mem hlt)
   obtain ⟨x, hx⟩ : ∃ x : Nat, ss[i].1 = (x : Int) := ⟨ss[i].1.toNat, by omega⟩
   obtain ⟨y, hy⟩ : ∃ y, y = ss[i].2 := ⟨_, rfl⟩
   rw [hx] at c1 hxr
   rw [← hy] at c2
   have hx18 : x < 19 := by omega
   have HSN : Hid (cntF (ss.take (i + 1)) = (cntF (ss.take i)).set x ((cntF (ss.take i)).getD x 0 + 1)) := hid (by rw [List.take_succ_eq_append_getElem hlt, cntF_snoc, hx, Int.toNat_natCast])
   have hcl := cntF_length (ss.take i)
   obtain ⟨old, hold⟩ : ∃ old, old = (cntF (ss.take i)).getD x 0 := ⟨_, rfl⟩
   have hold2 : old ≤ 1000 := by
    have h := cntF_le (ss.take i) (cntF (ss.take i))[x] (List.getElem_mem (by omega))
    rw [hold, List.getD_eq_getElem?_getD, List.getElem?_eq_getElem (by omega)]
    simp only [Option.getD_some]
    rw [List.length_take] at h
    omega
   have cl0 : wr.cell? ⟨w.heap.size, x, none⟩ = some (.int .i64 (old : Nat)) := by
    have h := HV.out.cell x (by omega)
    rw [h, hold, List.getD_eq_getElem?_getD, List.getElem?_eq_getElem (by omega)]
    rfl
   obtain ⟨W2, hW2⟩ : ∃ W2, W2 = wr.alloc (.cells #[.int .i64 (x : Nat), .int .i64 y] 220) := ⟨_, rfl⟩
   have hk2 : Same wr W2 := by rw [hW2]; exact (Kept.refl _ wr).alloc _
   have HV2 : Hid (NRow w.heap.size W2 (.slice (some ⟨w.heap.size, 0, none⟩) 19 19) (cntF (ss.take i))) := hid (HV.out.same hk2)
   have hszw := HK.out.size
   have hne : wr.heap.size ≠ w.heap.size := by have := HV.out.lt (k := w.heap.size) rfl; omega
   have fl : wr.frozen? ⟨w.heap.size, x, none⟩ = false := HV.out.frozen x
   have cl2 : W2.cell? ⟨w.heap.size, x, none⟩ = some (.int .i64 (old : Nat)) := hk2.cell cl0 (fun f => f)
   have fl2 : W2.frozen? ⟨w.heap.size, x, none⟩ = false := HV2.out.frozen x
   rw [hW2] at cl2 fl2
   have HVN : Hid (NRow w.heap.size (W2.setCell ⟨w.heap.size, x, none⟩ (.int .i64 ((old + 1 : Nat) : Int))) (.slice (some ⟨w.heap.size, 0, none⟩) 19 19) (cntF (ss.take (i + 1)))) := hid (by rw [HSN.out, ← hold]; exact HV2.out.lay x (old + 1))
   have HKN : Hid (Same w (W2.setCell ⟨w.heap.size, x, none⟩ (.int .i64 ((old + 1 : Nat) : Int)))) := hid ((Same.trans HK.out hk2).setCell _ _ (.inr (Nat.le_refl _)))
   rw [hW2] at HVN HKN
   obtain ⟨o1, ho1⟩ : ∃ o1, o1 = old + 1 := ⟨_, rfl⟩
   have ho1I : (old : Int) + 1 = (o1 : Int) := by omega
   have ho1w : IntKind.i64.wrap (o1 : Int) = (o1 : Int) := by rw [IntKind.wrap_i64]; omega
   rw [← ho1] at HVN HKN
   clear hx hy hxr hold hk2 HV2 hW2 ho1 hcl HV
   go_wp2_with fail
   go_roundg (gk - 1)
   case measure => omega
   case rel => exact ⟨i + 1, by omega, by omega, by go_num, HVN, HKN⟩
  ·have e1 : ss.take i = ss := List.take_of_length_le (by omega)
   rw [e1] at HV
   have hcl := cntF_length ss
   have hsrc : SrcE intV wr _ (.slice (some ⟨w.heap.size, 0, none⟩) 19 19) ((cntF ss).map (fun (n : Nat) => (n : Int))) := (SrcE.ofRow HV.out).recode (by rw [List.map_map]; rfl)
   have hok : okAll ((cntF ss).map (fun (n : Nat) => (n : Int))) 0 1000000000000 = true := by
    unfold okAll
    have h1 : ((cntF ss).map (fun (n : Nat) => (n : Int))).length = 19 := by rw [List.length_map, hcl]
    rw [h1]
    have h2 : ((cntF ss).map (fun (n : Nat) => (n : Int))).any (badI 0 1000000000000) = false := by
     rw [List.any_eq_false]
     intro z hz
     obtain ⟨n, hn, rfl⟩ := List.mem_map.1 hz
     have := cntF_le ss n hn
     simp [badI]
     omega
    rw [h2]
    decide
   have hnat : cntF ss = ((cntF ss).map (fun (n : Nat) => (n : Int))).map Int.toNat := by
    rw [List.map_map]
    conv => lhs; rw [← List.map_id (cntF ss)]
    exact List.map_congr_left (fun x _ => by simp)
   have HLM := limit_good wr _ _ _ (cntF ss) 7 hsrc hok hnat (by decide) (by decide) (chosen_fit ss)
   have hszw := HK.out.size
   clear hsrc hok hnat hcl e1 HV
   go_wp2_with fail
   refine HLM.mono ?_
   rintro e w5 ⟨⟨g, n, c5, rfl, hr5, hg5⟩, hk5⟩
   have HR5 : Hid (NRow 0 w5 (.slice (some ⟨g, 0, none⟩) n c5) (chosen ss)) := hr5
   have HK5 : Hid (Same w w5) := hid (Same.trans HK.out hk5)
   clear hr5 hk5 HLM
   go_wp2_with fail
   go_ret
   exact ⟨⟨g, n, c5, rfl, HR5.out, by omega⟩, HK5.out⟩

end Go.Proofs.YtljlmfnbeofmmaaGreatDoor
