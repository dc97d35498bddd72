import Derived.Test.YtljlmfnbeofmmaaGreatDoorDfD
import Derived.Test.YtljlmfnbeofmmaaGreatDoorInHm
import Derived.Deep.RegionHeld3
namespace Go.Proofs.YtljlmfnbeofmmaaGreatDoor
open Go.RowKit

structure BookIn (w : World) (J : Nat → Prop) (cv lv : Value) (ns : List Nat) : Prop where
 codes : SrcE wordV w J cv (codesL ns)
 lens : SrcE natV w J lv ns

theorem BookIn.kept {F : Nat → Prop} {w w' : World} {J : Nat → Prop} {cv lv : Value} {ns : List Nat} (h : BookIn w J cv lv ns) (hk : Kept F w w') (hn : ∀ k, J k → ¬ F k) : BookIn w' J cv lv ns :=
 ⟨h.codes.kept hk (fun k hj _ => hn k hj), h.lens.kept hk (fun k hj _ => hn k hj)⟩

set_option maxRecDepth 100000 in
set_option maxHeartbeats 400000 in
theorem blay_any (wb w : World) (p : Nat) (s0 s : Value) (X : List Nat) (ns : List Nat) (J : Nat → Prop) (cv lv : Value) (m : MK) (hw : WS wb w p s0 s X) (hb : BookIn w J cv lv ns) (hJ : ∀ k, J k → ¬ Fp p s k) (h15 : ∀ x, key ns x ≤ 15) (hm : m.sym < ns.length) (hk : key ns m.sym ≠ 0) (hx : m.extra < 2 ^ m.width) (hwd : m.width ≤ 16) (hX : X.length ≤ 100000000) :
  Calls Tryz.prog 119 #[.agg #[cv, lv], .pointer (some ⟨p, 0, none⟩), mkV m] w fun e w' => (∃ u, e = .returned u) ∧ ∃ s', WS wb w' p s0 s' (X ++ mkBits ns m) := by
 obtain ⟨sy, ex, wd⟩ := m
 simp only at hm hk hx hwd
 unfold mkV mkBits
 simp only
 obtain ⟨b1, o1, cp1, e1, hj1, _, c1⟩ := hb.codes.get sy (by rw [codesL_length]; exact hm)
 obtain ⟨b2, o2, cp2, e2, hj2, _, c2⟩ := hb.lens.get sy hm
 rw [codesL_get] at c1
 rw [codesL_length] at e1
 subst e1 e2
 obtain ⟨C, hC⟩ : ∃ C, cdOf ns sy = C := ⟨_, rfl⟩
 obtain ⟨k, hkk⟩ : ∃ k, key ns sy = k := ⟨_, rfl⟩
 have hkg : ns[sy] = k := by rw [← hkk, key_get hm]
 have hC2 := cd_lt ns sy hk
 have hrb := row_bits ns sy hk
 have hk15 := h15 sy
 rw [hC, hkk] at hC2 hrb
 rw [hkk] at hk15
 rw [hC] at c1
 rw [hkg] at c2
 unfold wordV at c1
 unfold natV at c2
 obtain ⟨L, hL⟩ : ∃ L, ns.length = L := ⟨_, rfl⟩
 rw [hL] at hm ⊢
 obtain ⟨W, hW⟩ : ∃ W, W = (w.alloc (.cells #[.slice (some ⟨b1, o1, none⟩) L cp1, .slice (some ⟨b2, o2, none⟩) L cp2] 160)).alloc (.cells #[.int .i64 (sy : Nat), .int .u32 (ex : Nat), .int .i64 (wd : Nat)] 164) := ⟨_, rfl⟩
 have hkW : Same w W := by rw [hW]; exact ((Kept.refl _ w).alloc _).alloc _
 have HA : Hid (Blk W w.heap.size #[.slice (some ⟨b1, o1, none⟩) L cp1, .slice (some ⟨b2, o2, none⟩) L cp2] 160) := hid (by rw [hW]; exact (Blk.new w _ _).kept ((Kept.refl (fun _ => False) _).alloc _) (fun f => f))
 have HB : Hid (Blk W (w.heap.size + 1) #[.int .i64 (sy : Nat), .int .u32 (ex : Nat), .int .i64 (wd : Nat)] 164) := hid (by rw [hW]; have h := Blk.new (w.alloc (.cells #[.slice (some ⟨b1, o1, none⟩) L cp1, .slice (some ⟨b2, o2, none⟩) L cp2] 160)) #[.int .i64 (sy : Nat), .int .u32 (ex : Nat), .int .i64 (wd : Nat)] 164; rw [World.size_alloc] at h; exact h)
 have a0 := HA.out.cell 0
 have a1 := HA.out.cell 1
 have m0 := HB.out.cell 0
 simp at a0 a1 m0
 have d1 : W.cell? ⟨b1, o1 + sy, none⟩ = some (.int .u32 (C : Nat)) := hkW.cell c1 (fun f => f)
 have d2 : W.cell? ⟨b2, o2 + sy, none⟩ = some (.int .i64 (k : Nat)) := hkW.cell c2 (fun f => f)
 have HP1 : Hid (∀ W2, Same W W2 → Calls Tryz.prog 81 #[.pointer (some ⟨p, 0, none⟩), .int .u32 (C : Nat), .int .i64 (k : Nat)] W2 fun e w' => e = .returned (.int .i64 0) ∧ (∃ s', WS wb w' p s0 s' (X ++ bitsOf C k)) ∧ Kept (Fp p s) W2 w') := hid (fun W2 hk2 => ws_put wb W2 p s0 s X C k (hw.same (Same.trans hkW hk2)) (by omega) hC2 (by omega))
 have HFW : Hid (∀ j, J j → ¬ Fp p s j) := hJ
 have HFP : Hid (∀ j, Fp p s j → j < w.heap.size) := hid (fun j f => hw.wr.fp_lt f)
 have HRB : Hid (bitsOf C k = rowOf ns sy) := hrb
 have HXL : Hid (X.length ≤ 100000000 ∧ k ≤ 15) := hid ⟨hX, hk15⟩
 have HEX : Hid (ex < 2 ^ wd ∧ wd ≤ 16) := hid ⟨hx, hwd⟩
 have q1 : sy < L := hm
 have q2 : (0 : Int) ≤ (sy : Int) := by omega
 have q3 : (sy : Int) < (L : Int) := by omega
 have HJ1 : Hid (¬ Fp p s b1) := hid (HFW.out b1 hj1)
 have HJ2 : Hid (¬ Fp p s b2) := hid (HFW.out b2 hj2)
 have HJ3 : Hid (¬ Fp p s w.heap.size) := hid (fun f => by have := HFP.out _ f; omega)
 have HJ4 : Hid (¬ Fp p s (w.heap.size + 1)) := hid (fun f => by have := HFP.out _ f; omega)
 clear hw hb h15 hk hx hwd hX c1 c2 hC hkk hkg hC2 hrb hk15 hL hkW hm hJ
 go_enter Tryz.func119, Tryz.ntmps119
 go_wp2_with fail
 rw [← hW]
 clear hW
 go_region_held3 (fun w' => w'.cell? ⟨w.heap.size, 0, none⟩ = some (.slice (some ⟨b1, o1, none⟩) L cp1) ∧ w'.cell? ⟨w.heap.size, 1, none⟩ = some (.slice (some ⟨b2, o2, none⟩) L cp2) ∧ w'.cell? ⟨w.heap.size + 1, 0, none⟩ = some (.int .i64 (sy : Nat)) ∧ w'.cell? ⟨b1, o1 + sy, none⟩ = some (.int .u32 (C : Nat)) ∧ w'.cell? ⟨b2, o2 + sy, none⟩ = some (.int .i64 (k : Nat)))
  (first
   | (go_split_ands; exact ⟨hk5.cell (by assumption) HJ3.out, hk5.cell (by assumption) HJ3.out, hk5.cell (by assumption) HJ4.out, hk5.cell (by assumption) HJ1.out, hk5.cell (by assumption) HJ2.out⟩)
   | go_keep)
  (first
   | (go_at_call 81; refine (HP1.out _ ((Kept.refl _ W).drew)).mono ?_; rintro e w5 ⟨rfl, ⟨s5, hws5⟩, hk5⟩))
 all_goals
  have hB5 : Blk w5 (w.heap.size + 1) #[.int .i64 (sy : Nat), .int .u32 (ex : Nat), .int .i64 (wd : Nat)] 164 := Blk.kept (show Blk W.drew (w.heap.size + 1) #[.int .i64 (sy : Nat), .int .u32 (ex : Nat), .int .i64 (wd : Nat)] 164 from HB.out) hk5 HJ4.out
  have e1 := hB5.cell 1
  have e2 := hB5.cell 2
  simp at e1 e2
  have HP2 := ws_put wb w5 p s0 s5 _ ex wd hws5 (by have := HEX.out; omega) HEX.out.1 (by rw [List.length_append, bitsOf_length]; have := HXL.out; omega)
  clear hws5 hk5 hB5 a0 a1 m0 d1 d2
  go_wp2_with fail
  refine HP2.mono ?_
  rintro e w6 ⟨rfl, ⟨s6, hws6⟩, _⟩
  have HW6 : Hid (WS wb w6 p s0 s6 (X ++ (rowOf ns sy ++ bitsOf ex wd))) := hid (by rw [← HRB.out, ← List.append_assoc]; exact hws6)
  clear hws6 HP2
  go_wp2_with fail
  go_end0
  exact ⟨⟨_, rfl⟩, s6, HW6.out⟩

theorem lok_good {ns : List Nat} (h : Lok ns) : Good (ns.map (fun (n : Nat) => (n : Int))) ns ∧ chk (ns.map (fun (n : Nat) => (n : Int))) = 0 := by
 have h9 := chk_nats ns h.pos h.max h.le
 have h8 := h.ok
 exact ⟨⟨by rw [List.map_map]; rfl, by rw [List.length_map], h.pos, h.max, h.le, h8, rfl⟩, by rw [h9]; exact h8⟩

set_option maxRecDepth 100000 in
set_option maxHeartbeats 400000 in
theorem newBook_good (w : World) (a : Option Addr) (n c : Nat) (I : Nat → Prop) (ns : List Nat) (hs : SrcE natV w I (.slice a n c) ns) (hl : Lok ns) :
  Calls Tryz.prog 118 #[.slice a n c] w fun e w' => ∃ cv, e = .returned (.agg #[cv, .slice a n c]) ∧ SrcE wordV w' (fun k => w.heap.size ≤ k ∧ k < w'.heap.size) cv (codesL ns) ∧ Same w w' := by
 obtain ⟨W, hW⟩ : ∃ W, W = w.alloc (.cells #[.slice none 0 0, .slice none 0 0] 160) := ⟨_, rfl⟩
 have hkW : Same w W := by rw [hW]; exact (Kept.refl _ w).alloc _
 have HB : Hid (Blk W w.heap.size #[.slice none 0 0, .slice none 0 0] 160) := hid (by rw [hW]; exact Blk.new w _ _)
 have HC := codes_good W (.slice a n c) I _ ns ((hs.same hkW).recode (enc' := intV) (by rw [List.map_map]; rfl)) (lok_good hl).1 (lok_good hl).2
 have HK : Hid (Same w W) := hkW
 clear hs hl hkW
 go_enter Tryz.func118, Tryz.ntmps118
 go_wp2_with fail
 rw [← hW]
 clear hW
 refine HC.mono ?_
 rintro e w1 ⟨⟨g, n1, c1, rfl, hr1⟩, hk1⟩
 have HB1 : Hid (Blk w1 w.heap.size #[.slice none 0 0, .slice none 0 0] 160) := hid (HB.out.kept hk1 (fun f => f))
 have HR1 : Hid (WRow W.heap.size w1 (.slice (some ⟨g, 0, none⟩) n1 c1) (codesL ns)) := hr1
 have HK1 : Hid (Same w w1) := hid (Same.trans HK.out hk1)
 have HGE : Hid (W.heap.size ≤ g ∧ w.heap.size < W.heap.size ∧ g < w1.heap.size) := hid ⟨hr1.ge rfl, HB.out.lt, hr1.lt rfl⟩
 have b0 := HB1.out.cell 0
 have b1 := HB1.out.cell 1
 have f0 := HB1.out.frozen 0
 have f1 := HB1.out.frozen 1
 simp at b0 b1
 clear hr1 hk1 HC
 go_wp2_with fail
 have hb3 := (HB1.out.set 0 (.slice (some ⟨g, 0, none⟩) n1 c1)).set 1 (.slice a n c)
 have d0 := hb3.cell 0
 have d1 := hb3.cell 1
 simp at d0 d1
 refine bodyPost_ret (v := .agg #[.slice (some ⟨g, 0, none⟩) n1 c1, .slice a n c]) (by rw [results_cell_one rfl]; simp [go_sem, d0, d1]) rfl ?_
 have hk2 : Kept (· = w.heap.size) w1 ((w1.setCell ⟨w.heap.size, 0, none⟩ (.slice (some ⟨g, 0, none⟩) n1 c1)).setCell ⟨w.heap.size, 1, none⟩ (.slice a n c)) := ((Kept.refl (· = w.heap.size) w1).setCell ⟨w.heap.size, 0, none⟩ _ (.inl rfl)).setCell ⟨w.heap.size, 1, none⟩ _ (.inl rfl)
 refine ⟨_, rfl, ((SrcE.ofRow HR1.out).kept hk2 (fun k e _ e2 => ?_)).mono (fun k e => ?_), Same.then HK1.out hk2 (fun k hk e => by omega)⟩
 ·have e1 : g = k := by simpa [Value.ownBlock] using e
  have := HGE.out
  omega
 ·have e1 : g = k := by simpa [Value.ownBlock] using e
  have := HGE.out
  have := hk2.size
  omega

set_option maxRecDepth 100000 in
set_option maxHeartbeats 400000 in
theorem newBook_bad (w : World) (a : Option Addr) (n c : Nat) (I : Nat → Prop) (ns : List Nat) (hs : SrcE natV w I (.slice a n c) ns) (hlen : ns.length ≤ 1000000) (hne : chk (ns.map (fun (n : Nat) => (n : Int))) ≠ 0) :
  Calls Tryz.prog 118 #[.slice a n c] w fun e w' => e = .returned (.agg #[.slice none 0 0, .slice a n c]) ∧ Same w w' := by
 obtain ⟨W, hW⟩ : ∃ W, W = w.alloc (.cells #[.slice none 0 0, .slice none 0 0] 160) := ⟨_, rfl⟩
 have hkW : Same w W := by rw [hW]; exact (Kept.refl _ w).alloc _
 have HB : Hid (Blk W w.heap.size #[.slice none 0 0, .slice none 0 0] 160) := hid (by rw [hW]; exact Blk.new w _ _)
 have HC := codes_bad W (.slice a n c) I (ns.map (fun (n : Nat) => (n : Int))) ((hs.same hkW).recode (enc' := intV) (by rw [List.map_map]; rfl)) (by rw [List.length_map]; exact hlen) hne
 generalize chk (ns.map (fun (n : Nat) => (n : Int))) = ck at HC
 have HK : Hid (Same w W) := hkW
 clear hs hlen hkW hne
 go_enter Tryz.func118, Tryz.ntmps118
 go_wp2_with fail
 rw [← hW]
 clear hW
 refine HC.mono ?_
 rintro e w1 ⟨rfl, hk1⟩
 have HB1 : Hid (Blk w1 w.heap.size #[.slice none 0 0, .slice none 0 0] 160) := hid (HB.out.kept hk1 (fun f => f))
 have HK1 : Hid (Same w w1) := hid (Same.trans HK.out hk1)
 have b0 := HB1.out.cell 0
 have b1 := HB1.out.cell 1
 have f0 := HB1.out.frozen 0
 have f1 := HB1.out.frozen 1
 simp at b0 b1
 clear hk1 HC
 go_wp2_with fail
 have hb3 := (HB1.out.set 0 (.slice none 0 0)).set 1 (.slice a n c)
 have d0 := hb3.cell 0
 have d1 := hb3.cell 1
 simp at d0 d1
 refine bodyPost_ret (v := .agg #[.slice none 0 0, .slice a n c]) (by rw [results_cell_one rfl]; simp [go_sem, d0, d1]) rfl ?_
 exact ⟨rfl, (HK1.out.setCell _ _ (.inr (Nat.le_refl _))).setCell _ _ (.inr (Nat.le_refl _))⟩

end Go.Proofs.YtljlmfnbeofmmaaGreatDoor
