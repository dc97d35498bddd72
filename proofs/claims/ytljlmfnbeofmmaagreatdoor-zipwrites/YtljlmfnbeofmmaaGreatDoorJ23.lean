/-
  Of the proof: parts MtH.
-/
import Derived.Stop.RegionWithIn
import Derived.Test.YtljlmfnbeofmmaaGreatDoorJ22

namespace Go.Proofs.YtljlmfnbeofmmaaGreatDoor
open Go.RowKit Go.Shelf

attribute [local go_sem] Oper.semAt_some

def ownM (data : List Nat) : List Nat := if 16384 < data.length then [] else data

theorem ownM_le (data : List Nat) : (ownM data).length ≤ 16384 := by
 unfold ownM; split
 ·simp
 ·omega

theorem findM_own (data : List Nat) : findM data = tokM (ownM data) (ownM data).length 0 := by
 unfold findM ownM
 split
 ·rfl
 ·rfl

set_option maxRecDepth 100000 in
set_option maxHeartbeats 1000000 in
theorem mall_any (w : World) (v : Value) (I : Nat → Prop) (data : List Nat) (hs : Src w I v data) (hlen : data.length ≤ 10000000) :
  Calls Tryz.prog 78 #[v] w fun e w' => ∃ bx vo, e = .returned (.func (.func 112) #[] #[.pointer (some ⟨bx, 0, none⟩)]) ∧ w'.cell? ⟨bx, 0, none⟩ = some vo ∧ Row w' vo (ownM data) ∧ w.heap.size ≤ bx ∧ (∀ k, vo.ownBlock = some k → w.heap.size ≤ k ∧ k ≠ bx) ∧ Same w w' := by
 obtain ⟨ao, cap, rfl, _⟩ := id hs
 by_cases hbig : 16384 < data.length
 ·have HO : Hid (ownM data = []) := hid (by unfold ownM; rw [if_pos hbig])
  have HC := pclone_any w (.slice none 0 0) (fun _ => False) [] ⟨none, 0, rfl, fun h => absurd rfl h⟩ (by simp)
  obtain ⟨L, hL⟩ : ∃ L, L = data.length := ⟨_, rfl⟩
  rw [← hL] at hbig hlen ⊢
  clear hs hL
  go_enter Tryz.func78, Tryz.ntmps78
  go_wp2_with fail
  refine HC.mono ?_
  rintro e w1 ⟨v1, rfl, hf⟩
  have HF : Hid (Fresh w w1 v1 []) := hf
  obtain ⟨a1, c1, hv1, _⟩ := hf.row.shape
  subst hv1
  clear hf HC
  go_wp2_with fail
  go_ret
  refine ⟨_, _, rfl, by simp, by rw [HO.out]; exact HF.out.row.kept ((Kept.refl (fun _ => False) w1).alloc _) (fun _ _ f => f), HF.out.kept.size, fun k e => ⟨HF.out.new k e, ?_⟩, HF.out.kept.alloc _⟩
  have := HF.out.row.lt e
  omega
 ·have HO : Hid (ownM data = data) := hid (by unfold ownM; rw [if_neg hbig])
  have HC := pclone_any w _ I data hs (by omega)
  obtain ⟨L, hL⟩ : ∃ L, L = data.length := ⟨_, rfl⟩
  rw [← hL] at hbig hlen HC ⊢
  clear hs hL
  go_enter Tryz.func78, Tryz.ntmps78
  go_wp2_with fail
  refine HC.mono ?_
  rintro e w1 ⟨v1, rfl, hf⟩
  have HF : Hid (Fresh w w1 v1 data) := hf
  obtain ⟨a1, c1, hv1, _⟩ := hf.row.shape
  generalize data.length = n1 at hv1
  subst hv1
  clear hf HC
  go_wp2_with fail
  go_ret
  refine ⟨_, _, rfl, by simp, by rw [HO.out]; exact HF.out.row.kept ((Kept.refl (fun _ => False) w1).alloc _) (fun _ _ f => f), HF.out.kept.size, fun k e => ⟨HF.out.new k e, ?_⟩, HF.out.kept.alloc _⟩
  have := HF.out.row.lt e
  omega

set_option maxRecDepth 100000 in
set_option maxHeartbeats 2000000 in
theorem miter_in (F : Fence) (hF : FreeF F) (n : Nat) (l : Nat) (go : Nat → Bool) (fp : World → Nat → Prop) (J : Nat → World → Prop) (data : List Nat) (bx : Nat) (vo : Value) (hlen : data.length ≤ 16384) (hb : ∀ b ∈ data, b < 256)
  (B0 : Nat) (hJs : ∀ k W W' G, J k W → Kept G W W' → (∀ j, fp W j → ¬ G j) → (∀ j, G j → B0 ≤ j) → J k W') (hfs : ∀ k W W' G, J k W → Kept G W W' → (∀ j, fp W j → ¬ G j) → ∀ j, fp W' j ↔ fp W j) (hlt : ∀ k W j, J k W → fp W j → j < W.heap.size)
  (hY : ∀ k W1, k < (tokM data data.length 0).length → (k = 0 ∨ go (k - 1) = true) → J k W1 → YieldAt F (n - 1 - 1) Tryz.prog l (tokVals (tokM data data.length 0) k) W1 fun e W' => e = .returned (.bool (go k)) ∧ J (k + 1) W' ∧ Kf fp W1 W')
  (W : World) (hB0 : B0 ≤ W.heap.size) (h0 : J 0 W) (hbx : W.cell? ⟨bx, 0, none⟩ = some vo) (hr : Row W vo data) (hn : ∀ k, vo.ownBlock = some k → ¬ fp W k) :
  CallsIn F n Tryz.prog 112 #[.func (.yield l) #[] #[], .pointer (some ⟨bx, 0, none⟩)] W fun e W' => (∃ v, e = .returned v) ∧ ∃ M, M ≤ (tokM data data.length 0).length ∧ (M = (tokM data data.length 0).length ∨ (0 < M ∧ go (M - 1) = false)) ∧ J M W' := by
 have hro := hF.ro
 obtain ⟨ao, cap, rfl, _⟩ := hr.shape
 refine callsIn_of_wp Tryz.func112 rfl (hF.fn _) ?_ hro
 simp only [Tryz.ntmps112, List.size_toArray, List.length_cons, List.length_nil, Nat.reduceAdd, Nat.reduceSub, Array.replicate_succ, Array.replicate_zero, List.push_toArray, List.append_toArray, List.nil_append, List.cons_append]
 have HCH : Hid (∀ W', Same W W' → CallsIn F (n - 1) Tryz.prog 113 #[.slice ao data.length cap] W' fun e w' => ∃ aa na ca, e = .returned (.slice aa na ca) ∧ IRow W'.heap.size w' (.slice aa na ca) (chM data) ∧ Same W' w') := hid (fun W' hk => hF.calls ((mchains_any W' _ _ data (Src.ofRow (hr.kept hk (fun _ _ f => f))) hb (by omega)).mono (fun e w' h => by
  obtain ⟨v', rfl, hr', hk'⟩ := h
  obtain ⟨aa, ca, rfl, _⟩ := hr'.shape
  exact ⟨aa, _, ca, rfl, hr', hk'⟩)))
 have HR : Hid (Row W (.slice ao data.length cap) data) := hr
 have HN : Hid (∀ k, (Value.slice ao data.length cap).ownBlock = some k → ¬ fp W k) := hn
 have HJ0 : Hid (J 0 W) := h0
 have HJS := hid hJs
 have HFS := hid hfs
 have HLT := hid hlt
 have HY := hid hY
 have HLE : Hid (data.length ≤ 16384) := hlen
 have HTELL : Hid (∀ (W' : World) (v3 : Value), Same W W' → IRow W.heap.size W' v3 (chM data) → CallsIn F (n - 1) Tryz.prog 114 #[.agg #[.slice ao data.length cap, v3], .func (.yield l) #[] #[]] W' fun e W' => (∃ v, e = .returned v) ∧ ∃ M, M ≤ (tokM data data.length 0).length ∧ (M = (tokM data data.length 0).length ∨ (0 < M ∧ go (M - 1) = false)) ∧ J M W') := hid (fun W' v3 hk hr3 => by
  obtain ⟨aa, ca, rfl, _⟩ := hr3.shape
  have hf := HFS.out 0 W W' _ HJ0.out hk (fun _ _ f => f)
  refine mtell_in F hF (n - 1) l go fp J data ao data.length cap aa (chM data).length ca rfl (by rw [chM_length]) (by have := HLE.out; omega) B0 HJS.out HFS.out HLT.out (by have := HY.out; simpa using this) W' (Nat.le_trans hB0 hk.size) (HJS.out 0 W W' _ HJ0.out hk (fun _ _ f => f) (fun _ f => f.elim)) ?_ ?_
  ·refine (Src.ofRow (HR.out.kept hk (fun _ _ f => f))).mono (fun j hj => ⟨fun f => HN.out j hj ((hf j).1 f), Nat.lt_of_lt_of_le (HR.out.lt hj) hk.size⟩)
  ·refine (SrcE.ofRow hr3).mono' (fun j hj => ⟨fun f => ?_, hr3.lt hj⟩)
   have h1 := HLT.out 0 W j HJ0.out ((hf j).1 f)
   have h2 := hr3.ge hj
   omega)
 obtain ⟨L, hL⟩ : ∃ L, L = data.length := ⟨_, rfl⟩
 have HLL : Hid (L = data.length) := hL
 rw [← hL] at hbx HCH HTELL
 have HKD : Hid (∀ m, Same W (W.drewN m)) := hid (fun m => (Kept.refl _ W).drewN m)
 have HKD1 : Hid (Same W W.drew) := hid ((Kept.refl _ W).drew)
 clear hr hn h0 hJs hfs hlt hY hlen hb hL
 have hf30 := hF.fn 113
 have hf31 := hF.fn 114
 have hdn := hF.dn
 gi_wp2
 gi_region_with (first
  | (gi_at_call 113; first | refine ⟨hF.fn _, hF.dp, (HCH.out _ (by first | exact HKD1.out | exact HKD.out _ | exact Kept.refl _ _)).mono ?_⟩ | refine (HCH.out _ (by first | exact HKD1.out | exact HKD.out _ | exact Kept.refl _ _)).mono ?_; rintro e w3 ⟨a3, n3, c3, rfl, hr3, hk3⟩; have hbx3 := hk3.cell (HKD1.out.cell hbx (fun f => f)) (fun f => f))
  | (gi_at_call 114; refine (HTELL.out _ _ (Same.trans HKD1.out hk3) (by have h9 := hr3; simpa using h9)).mono ?_; rintro e w4 ⟨⟨v4, rfl⟩, h4⟩))
 all_goals
  gi_wp2
  go_end0
  exact ⟨⟨_, rfl⟩, by rw [← HLL.out]; exact h4⟩

end Go.Proofs.YtljlmfnbeofmmaaGreatDoor
