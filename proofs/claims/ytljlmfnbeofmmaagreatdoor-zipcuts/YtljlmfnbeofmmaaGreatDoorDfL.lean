import Derived.Test.YtljlmfnbeofmmaaGreatDoorDfK
namespace Go.Proofs.YtljlmfnbeofmmaaGreatDoor
open Go.RowKit

theorem head_len7 {lit dist : List Nat} {many : Nat} {cs : List Nat} {sn : List (Nat × Nat)} (h : HeadOk lit dist many cs sn) (hl : sn.length ≤ 316) : (headBits lit.length dist.length many cs sn).length ≤ 10000 := by
 have h1 : ∀ ss : List (Nat × Nat), (ss.flatMap (stepBits cs)).length ≤ 14 * ss.length := fun ss => by
  induction ss with
  | nil => simp
  | cons s r ih =>
   rw [List.flatMap_cons, List.length_append, stepBits_length, List.length_cons]
   have h2 := key_le h.c7 s.1
   have h3 : xbits s.1 ≤ 7 := by unfold xbits; split <;> (try split) <;> (try split) <;> omega
   omega
 have h4 := h1 sn
 have h5 := h.m2
 unfold headBits
 simp only [List.length_append, bitsOf_length, codeBits_length]
 omega

def dynB (ts : List TK) : List Nat := dynBits (choL (litC ts)) (choL (distC ts)) (comeN (chosen (packM (choL (litC ts) ++ choL (distC ts)))) 19) (chosen (packM (choL (litC ts) ++ choL (distC ts)))) (packN (choL (litC ts) ++ choL (distC ts))) ts

def DynHead (ts : List TK) : Prop := HeadOk (choL (litC ts)) (choL (distC ts)) (comeN (chosen (packM (choL (litC ts) ++ choL (distC ts)))) 19) (chosen (packM (choL (litC ts) ++ choL (distC ts)))) (packN (choL (litC ts) ++ choL (distC ts)))

theorem map_nat (l : List Nat) : (l.map (fun (n : Nat) => (n : Int))).map Int.toNat = l := by
 rw [List.map_map]
 conv => rhs; rw [← List.map_id l]
 exact List.map_congr_left (fun n _ => by simp)

theorem tab_lt {w : World} (h : Tab w) : 0 < w.heap.size := World.block_lt_of_cell? w _ (h 0 (by decide))

set_option maxRecDepth 100000 in
set_option maxHeartbeats 400000 in
theorem dynamic_any (w : World) (v : Value) (I : Nat → Prop) (ts : List TK) (n : Nat) (hs : TkSrc w I v ts) (hm : measT 16384 ts 0 = .ok n) (hb : ∀ t ∈ ts, t.lit < 256) (hT : Tab w) :
  Calls Tryz.prog 46 #[v] w fun e w' => ∃ v' bs, e = .returned v' ∧ NB w w' v' bs ∧ Packs bs (dynB ts) ∧ DynHead ts := by
 have hdy := dyn_ok hm hb
 have HCN := count_any w v I ts n hs hm hb
 have HC1 : Hid (∀ W u J, SrcE natV W J u (litC ts) → Calls Tryz.prog 87 #[u] W fun e w' => ∃ v', e = .returned v' ∧ NRow W.heap.size w' v' (choL (litC ts)) ∧ Same W w') := hid (fun W u J h => choose_any W u J _ h (by rw [hdy.ll]; decide) (by rw [hdy.ll]; decide) hdy.lc)
 have HC2 : Hid (∀ W u J, SrcE natV W J u (distC ts) → Calls Tryz.prog 87 #[u] W fun e w' => ∃ v', e = .returned v' ∧ NRow W.heap.size w' v' (choL (distC ts)) ∧ Same W w') := hid (fun W u J h => choose_any W u J _ h (by rw [hdy.dl]; decide) (by rw [hdy.dl]; decide) hdy.dc)
 have HLT : Hid ((ts.flatMap (tokBits (choL (litC ts)) (choL (distC ts)))).length + key (choL (litC ts)) 256 ≤ 1000000) := hid (by
  have h1 := toksBits_len (key_le hdy.ok.lit.le) (key_le hdy.ok.le) ts (fun t ht => tokIn hm hdy.toks t ht)
  have h2 := measT_count hm
  have h3 := key_le hdy.ok.lit.le 256
  omega)
 have HLY : Hid (∀ w3 w4 p s l d X, NW w w3 p s X → Same w3 w4 → X.length ≤ 100000 → SrcE natV w4 (Off w4 p s) l (choL (litC ts)) → SrcE natV w4 (Off w4 p s) d (choL (distC ts)) → Calls Tryz.prog 83 #[.pointer (some ⟨p, 0, none⟩), v, l, d] w4 fun e w' => (∃ u, e = .returned u) ∧ ∃ s', NW w w' p s' (X ++ (ts.flatMap (tokBits (choL (litC ts)) (choL (distC ts))) ++ rowOf (choL (litC ts)) 256))) := hid (fun w3 w4 p s l d X h1 h2 hX h3 h4 => by
  have h5 := h1.same' h2
  refine (layTokens_any w4 p s _ v l d ts _ _ n h5.wr h5.bit hX (TkSrc.off hs h5) h3 h4 hdy.ok hdy.toks hm).mono ?_
  rintro e w' ⟨he, s', h6⟩
  exact ⟨he, s', h5.ws h6⟩)
 have HWR : Hid (∀ w3 p s X al ad cl cd I J, NW w w3 p s X → X.length ≤ 100 → SrcE natV w3 I (.slice al (choL (litC ts)).length cl) (choL (litC ts)) → SrcE natV w3 J (.slice ad (choL (distC ts)).length cd) (choL (distC ts)) → Calls Tryz.prog 88 #[.pointer (some ⟨p, 0, none⟩), .slice al (choL (litC ts)).length cl, .slice ad (choL (distC ts)).length cd] w3 fun e w' => e = .returned (.int .i64 0) ∧ WroteF w3 w' p s X (choL (litC ts)) (choL (distC ts))) := hid (fun w3 p s X al ad cl cd I J h1 hX h2 h3 => by
  have h9 := lwrite_fn w3 p s X al ad _ cl _ cd I J _ _ (h2.recode (enc' := intV) (ys := (choL (litC ts)).map (fun (n : Nat) => (n : Int))) (by rw [List.map_map]; rfl)) (h3.recode (enc' := intV) (ys := (choL (distC ts)).map (fun (n : Nat) => (n : Int))) (by rw [List.map_map]; rfl)) hdy.may (WS.start h1.wr h1.bit) (by omega) (hT.kept h1.same (fun f => f)) (fun f => by have := h1.own _ f; have := tab_lt hT; omega)
  rw [map_nat, map_nat] at h9
  exact h9)
 have HLEN : Hid ((choL (litC ts)).length + (choL (distC ts)).length ≤ 316) := hid (by
  have h1 := (cho_is (litC ts) (by rw [hdy.ll]; decide) (by rw [hdy.ll]; decide)).max
  have h2 := (cho_is (distC ts) (by rw [hdy.dl]; decide) (by rw [hdy.dl]; decide)).max
  rw [hdy.ll] at h1
  rw [hdy.dl] at h2
  omega)
 have HGO : Hid (∀ X, dynB ts = X → True) := hid (fun _ _ => trivial)
 clear hs hm hb hT hdy HGO
 go_enter Tryz.func46, Tryz.ntmps46
 go_wp2_with fail
 refine HCN.mono ?_
 rintro e w1 ⟨vl, vd, rfl, hl, hd, hk1⟩
 have HL1 : Hid (NRow w.heap.size w1 vl (litC ts)) := hl
 have HD1 : Hid (NRow w.heap.size w1 vd (distC ts)) := hd
 have HK1 : Hid (Same w w1) := hk1
 have HA := HC1.out w1 vl _ (SrcE.ofRow hl)
 clear hl hd hk1 HCN HC1
 go_wp2_with fail
 refine HA.mono ?_
 rintro e w2 ⟨cl, rfl, hl, hk2⟩
 have HL2 : Hid (NRow w1.heap.size w2 cl (choL (litC ts))) := hl
 have HK2 : Hid (Same w1 w2) := hk2
 have HB := HC2.out w2 vd _ (SrcE.ofRow (HD1.out.same hk2))
 clear hl hk2 HA HC2
 go_wp2_with fail
 refine HB.mono ?_
 rintro e w3 ⟨cd, rfl, hd, hk3⟩
 have HL3 : Hid (NRow w1.heap.size w3 cl (choL (litC ts))) := hid (HL2.out.same hk3)
 have HD3 : Hid (NRow w2.heap.size w3 cd (choL (distC ts))) := hd
 have HK3 : Hid (Same w w3) := hid (Same.trans HK1.out (Same.trans HK2.out hk3))
 have HB0 := begin_any w3 2 (by decide)
 clear hd hk3 HB HL2 HL1 HD1
 go_wp2_with fail
 refine HB0.mono ?_
 rintro e w4 ⟨p, s, rfl, hw4⟩
 obtain ⟨a1, cp1, hv1, _⟩ := HL3.out.shape
 obtain ⟨a2, cp2, hv2, _⟩ := HD3.out.shape
 subst hv1 hv2
 have HW4 : Hid (NW w w4 p s ([1] ++ bitsOf 2 2)) := hid ⟨hw4.wr, hw4.bit, Same.trans HK3.out hw4.same, fun k f => Nat.le_trans HK3.out.size (hw4.own k f)⟩
 have HL4 : Hid (NRow w1.heap.size w4 (.slice a1 (choL (litC ts)).length cp1) (choL (litC ts)) ∧ ∀ k, (Value.slice a1 (choL (litC ts)).length cp1).ownBlock = some k → Off w4 p s k) := hid ⟨HL3.out.same hw4.same, fun k e => by
  have h := HL3.out.lt e
  exact ⟨Nat.lt_of_lt_of_le h hw4.same.size, fun f => by have := hw4.own k f; omega⟩⟩
 have HD4 : Hid (NRow w2.heap.size w4 (.slice a2 (choL (distC ts)).length cp2) (choL (distC ts)) ∧ ∀ k, (Value.slice a2 (choL (distC ts)).length cp2).ownBlock = some k → Off w4 p s k) := hid ⟨HD3.out.same hw4.same, fun k e => by
  have h := HD3.out.lt e
  exact ⟨Nat.lt_of_lt_of_le h hw4.same.size, fun f => by have := hw4.own k f; omega⟩⟩
 have HW := HWR.out w4 p s _ a1 a2 cp1 cp2 _ _ HW4.out (by simp [bitsOf]) (SrcE.ofRow HL4.out.1) (SrcE.ofRow HD4.out.1)
 clear hw4 HB0 HL3 HD3 HWR HK1 HK2 HK3
 go_wp2_with fail
 refine HW.mono ?_
 rintro e w5 ⟨rfl, s5, many, cs, sn, ⟨e1, e2, e3⟩, hho, hsn, hws⟩
 subst e1 e2 e3
 have HHO : Hid (DynHead ts) := hho
 have HHL := head_len7 hho (Nat.le_trans hsn HLEN.out)
 have hw5 := HW4.out.ws hws
 have HLA := HLY.out w5 w5 p s5 _ _ _ hw5 (Kept.refl _ _) (by rw [List.length_append, List.length_append, bitsOf_length]; simp; omega)
  (((SrcE.ofRow HL4.out.1).kept hws.kept (fun k e _ => (HL4.out.2 k e).2)).mono (fun k e => ⟨Nat.lt_of_lt_of_le (HL4.out.2 k e).1 hws.kept.size, hws.off (HL4.out.2 k e)⟩))
  (((SrcE.ofRow HD4.out.1).kept hws.kept (fun k e _ => (HD4.out.2 k e).2)).mono (fun k e => ⟨Nat.lt_of_lt_of_le (HD4.out.2 k e).1 hws.kept.size, hws.off (HD4.out.2 k e)⟩))
 have eq : [1] ++ bitsOf 2 2 ++ headBits (choL (litC ts)).length (choL (distC ts)).length (comeN (chosen (packM (choL (litC ts) ++ choL (distC ts)))) 19) (chosen (packM (choL (litC ts) ++ choL (distC ts)))) (packN (choL (litC ts) ++ choL (distC ts))) ++ (ts.flatMap (tokBits (choL (litC ts)) (choL (distC ts))) ++ rowOf (choL (litC ts)) 256) = dynB ts := by
  unfold dynB dynBits
  rw [List.append_assoc]
  rfl
 have HDL : Hid ((dynB ts).length ≤ 10000000) := hid (by
  rw [← eq]
  have := HLT.out
  simp only [List.length_append, rowOf_length, bitsOf_length, List.length_cons, List.length_nil]
  omega)
 rw [eq] at HLA
 clear hws hho hsn HHL hw5 HW HLY HW4 HL4 HD4 eq
 go_wp2_with fail
 refine HLA.mono ?_
 rintro e w6 ⟨⟨u6, rfl⟩, s6, hw6⟩
 have HBY := hw6.bytes w w6 p s6 _ (by have := HDL.out; omega)
 have HBT : Hid (∀ b ∈ dynB ts, b < 2) := hid hw6.bit
 clear hw6 HLA
 go_wp2_with fail
 refine HBY.mono ?_
 rintro e w7 ⟨v7, bs, rfl, hnb, hn5, hl5⟩
 have HE : Hid (NB w w7 v7 bs ∧ Packs bs (dynB ts)) := hid ⟨hnb, pad_of bs _ hnb.byte HBT.out hn5 hl5⟩
 obtain ⟨a5, c5, hv5, _⟩ := hnb.row.shape
 subst hv5
 clear hnb hn5 hl5 HBY
 go_wp2_with fail
 go_ret
 exact ⟨_, bs, rfl, HE.out.1, HE.out.2, HHO.out⟩

end Go.Proofs.YtljlmfnbeofmmaaGreatDoor
