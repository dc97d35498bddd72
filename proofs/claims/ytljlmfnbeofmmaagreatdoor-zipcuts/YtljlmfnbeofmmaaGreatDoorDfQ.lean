import Derived.Test.YtljlmfnbeofmmaaGreatDoorDfO
namespace Go.Proofs.YtljlmfnbeofmmaaGreatDoor
open Go.RowKit

theorem tokM_byte {data : List Nat} (hb : ∀ b ∈ data, b < 256) (f i : Nat) : ∀ t ∈ tokM data f i, t.lit < 256 := by
 induction f generalizing i with
 | zero => intro t ht; simp [tokM] at ht
 | succ f ih =>
  intro t ht
  unfold tokM at ht
  split at ht
  ·rename_i hi
   split at ht
   ·rcases List.mem_cons.1 ht with rfl | h
    ·simp only
     rw [List.getD_eq_getElem?_getD, List.getElem?_eq_getElem hi]
     exact hb _ (List.getElem_mem _)
    ·exact ih _ t h
   ·rcases List.mem_cons.1 ht with rfl | h
    ·show 0 < 256
     decide
    ·exact ih _ t h
  ·simp at ht

theorem findM_ok {data : List Nat} (hb : ∀ b ∈ data, b < 256) (hl : data.length ≤ 16384) : measT 16384 (findM data) 0 = .ok data.length ∧ (∀ t ∈ findM data, t.lit < 256) ∧ expT (findM data) [] = data := by
 rw [findM_small hl]
 exact ⟨measT_data (by omega) (Nat.zero_le _) hl, tokM_byte hb _ _, by have := expT_data (data := data) (f := data.length) (i := 0) (by omega) (Nat.zero_le _); simpa using this⟩

def PFix (ts : List TK) (x : List Nat) : Prop := Packs x (fixBits ts) ∧ ∀ b ∈ x, b < 256
def PDyn (ts : List TK) (x : List Nat) : Prop := (Packs x (dynB ts) ∧ ∀ b ∈ x, b < 256) ∧ DynHead ts

set_option maxRecDepth 100000 in
set_option maxHeartbeats 400000 in
theorem way1_any (w : World) (b : Nat) (v : Value) (I : Nat → Prop) (data : List Nat) (hc : w.cell? ⟨b, 0, none⟩ = some v) (hs : Src w I v data) (hb : ∀ b ∈ data, b < 256) (hnil : ∀ n c, v = .slice none n c → n = 0 ∧ c = 0) (hlen : data.length ≤ 16384) :
  Calls Tryz.prog 41 #[.pointer (some ⟨b, 0, none⟩)] w fun e w' => ∃ v' x, e = .returned v' ∧ NB w w' v' x ∧ x = storeB data := by
 have HS := stored_any w v I data hs hb hnil hlen
 clear hs hb hnil hlen
 go_enter Tryz.func41, Tryz.ntmps41
 go_wp2_with fail
 refine HS.mono ?_
 rintro e w1 ⟨v1, rfl, hn⟩
 have HN : Hid (NB w w1 v1 (storeB data)) := hn
 obtain ⟨a1, p1, hv1, _⟩ := hn.row.shape
 subst hv1
 clear hn HS
 go_wp2_with fail
 go_ret
 exact ⟨_, _, rfl, HN.out, rfl⟩

set_option maxRecDepth 100000 in
set_option maxHeartbeats 400000 in
theorem way2_any (w : World) (b : Nat) (v : Value) (I : Nat → Prop) (ts : List TK) (n : Nat) (hc : w.cell? ⟨b, 0, none⟩ = some v) (hs : TkSrc w I v ts) (hm : measT 16384 ts 0 = .ok n) (hb : ∀ t ∈ ts, t.lit < 256) :
  Calls Tryz.prog 43 #[.pointer (some ⟨b, 0, none⟩)] w fun e w' => ∃ v' x, e = .returned v' ∧ NB w w' v' x ∧ PFix ts x := by
 have HS := fixed_any w v I ts n hs hm hb
 clear hs hm hb
 go_enter Tryz.func43, Tryz.ntmps43
 go_wp2_with fail
 refine HS.mono ?_
 rintro e w1 ⟨v1, bs, rfl, hn, hp⟩
 have HN : Hid (NB w w1 v1 bs ∧ PFix ts bs) := hid ⟨hn, hp, hn.byte⟩
 obtain ⟨a1, p1, hv1, _⟩ := hn.row.shape
 subst hv1
 clear hn hp HS
 go_wp2_with fail
 go_ret
 exact ⟨_, _, rfl, HN.out.1, HN.out.2⟩

set_option maxRecDepth 100000 in
set_option maxHeartbeats 400000 in
theorem way3_any (w : World) (b : Nat) (v : Value) (I : Nat → Prop) (ts : List TK) (n : Nat) (hc : w.cell? ⟨b, 0, none⟩ = some v) (hs : TkSrc w I v ts) (hm : measT 16384 ts 0 = .ok n) (hb : ∀ t ∈ ts, t.lit < 256) (hT : Tab w) :
  Calls Tryz.prog 45 #[.pointer (some ⟨b, 0, none⟩)] w fun e w' => ∃ v' x, e = .returned v' ∧ NB w w' v' x ∧ PDyn ts x := by
 have HS := dynamic_any w v I ts n hs hm hb hT
 clear hs hm hb hT
 go_enter Tryz.func45, Tryz.ntmps45
 go_wp2_with fail
 refine HS.mono ?_
 rintro e w1 ⟨v1, bs, rfl, hn, hp, hh⟩
 have HN : Hid (NB w w1 v1 bs ∧ PDyn ts bs) := hid ⟨hn, ⟨hp, hn.byte⟩, hh⟩
 obtain ⟨a1, p1, hv1, _⟩ := hn.row.shape
 subst hv1
 clear hn hp hh HS
 go_wp2_with fail
 go_ret
 exact ⟨_, _, rfl, HN.out.1, HN.out.2⟩

def PDef (data bs : List Nat) : Prop := ∃ x2 x3, bs = bestL (bestL (storeB data) x2) x3 ∧ PFix (findM data) x2 ∧ PDyn (findM data) x3

set_option maxRecDepth 100000 in
set_option maxHeartbeats 400000 in
theorem deflate_any (w : World) (v : Value) (I : Nat → Prop) (data : List Nat) (hs : Src w I v data) (hb : ∀ b ∈ data, b < 256) (hnil : ∀ n c, v = .slice none n c → n = 0 ∧ c = 0) (hlen : data.length ≤ 16384) (hT : Tab w) :
  Calls Tryz.prog 15 #[v] w fun e w' => ∃ v' bs, e = .returned (.tuple #[v', .int .i64 0]) ∧ NB w w' v' bs ∧ PDef data bs := by
 obtain ⟨hfm, hfb, _⟩ := findM_ok hb hlen
 obtain ⟨av, cv, hvv, _⟩ := id hs
 obtain ⟨n, hn⟩ : ∃ n, data.length = n := ⟨_, rfl⟩
 rw [hn] at hvv
 subst hvv
 obtain ⟨W, hW⟩ : ∃ W, W = w.alloc (.cells #[.slice av n cv] 26) := ⟨_, rfl⟩
 have hkW : Same w W := by rw [hW]; exact (Kept.refl _ w).alloc _
 have HKW : Hid (Same w W) := hkW
 have HBW : Hid (Blk W w.heap.size #[.slice av n cv] 26) := hid (by rw [hW]; exact Blk.new w _ _)
 have HSW : Hid (Src W I (.slice av n cv) data) := hid (hs.kept hkW (fun _ _ _ f => f))
 have HF := mfind_any W (.slice av n cv) I data HSW.out hb (by omega)
 have HW1 : Hid (∀ W2, Same W W2 → Calls Tryz.prog 41 #[.pointer (some ⟨w.heap.size, 0, none⟩)] W2 fun e w' => ∃ v' x, e = .returned v' ∧ NB W2 w' v' x ∧ x = storeB data) := hid (fun W2 h2 => way1_any W2 _ _ I data (by have := (HBW.out.kept h2 (fun f => f)).cell 0; simpa using this) (HSW.out.kept h2 (fun _ _ _ f => f)) hb hnil hlen)
 have HW2 : Hid (∀ W2 v2 b J, W2.cell? ⟨b, 0, none⟩ = some v2 → TkSrc W2 J v2 (findM data) → Calls Tryz.prog 43 #[.pointer (some ⟨b, 0, none⟩)] W2 fun e w' => ∃ v' x, e = .returned v' ∧ NB W2 w' v' x ∧ PFix (findM data) x) := hid (fun W2 v2 b J h1 h2 => way2_any W2 b v2 J _ _ h1 h2 hfm hfb)
 have HW3 : Hid (∀ W2 v2 b J, Same w W2 → W2.cell? ⟨b, 0, none⟩ = some v2 → TkSrc W2 J v2 (findM data) → Calls Tryz.prog 45 #[.pointer (some ⟨b, 0, none⟩)] W2 fun e w' => ∃ v' x, e = .returned v' ∧ NB W2 w' v' x ∧ PDyn (findM data) x) := hid (fun W2 v2 b J h0 h1 h2 => way3_any W2 b v2 J _ _ h1 h2 hfm hfb (hT.kept h0 (fun f => f)))
 have b0 := HBW.out.cell 0
 simp at b0
 have hn16 : n ≤ 16384 := by omega
 clear hs hb hnil hlen hT hfm hfb hn hkW
 go_enter Tryz.func15, Tryz.ntmps15
 go_wp2_with fail
 rw [← hW]
 clear hW
 refine HF.mono ?_
 rintro e w1 ⟨v1, rfl, hr1, hk1⟩
 have HR1 : Hid (TkRow W.heap.size w1 v1 (findM data)) := hr1
 have HK1 : Hid (Same W w1) := hk1
 have hshape : ∃ a n c, v1 = .slice a n c := by
  obtain ⟨a, c, e, _⟩ := SrcC.ofRow tkC_ok hr1
  exact ⟨a, _, c, e⟩
 obtain ⟨a1, n1, c1, rfl⟩ := hshape
 clear hr1 hk1 HF b0
 obtain ⟨Wb, hWb⟩ : ∃ W, W = w1.alloc (.cells #[.slice a1 n1 c1] 67) := ⟨_, rfl⟩
 have hkb : Same w1 Wb := by rw [hWb]; exact (Kept.refl _ w1).alloc _
 have HBb : Hid (Blk Wb w1.heap.size #[.slice a1 n1 c1] 67) := hid (by rw [hWb]; exact Blk.new w1 _ _)
 obtain ⟨Wc, hWc⟩ : ∃ W, W = Wb.alloc (.cells #[way1 w.heap.size, way2 w1.heap.size, way3 w1.heap.size] 70) := ⟨_, rfl⟩
 have hkc : Same Wb Wc := by rw [hWc]; exact (Kept.refl _ Wb).alloc _
 have HSb : Hid (TkSrc Wc (fun _ => True) (.slice a1 n1 c1) (findM data)) := hid ((SrcC.kept tkC_ok (SrcC.ofRow tkC_ok HR1.out) (Same.trans hkb hkc) (fun _ _ _ f => f)).mono (fun _ _ => trivial))
 have HKc : Hid (Same W Wc) := hid (Same.trans HK1.out (Same.trans hkb hkc))
 have HBc : Hid (Blk Wc Wb.heap.size #[way1 w.heap.size, way2 w1.heap.size, way3 w1.heap.size] 70) := hid (by rw [hWc]; exact Blk.new Wb _ _)
 have HBt : Hid (Blk Wc w1.heap.size #[.slice a1 n1 c1] 67) := hid (HBb.out.kept hkc (fun f => f))
 have HL := least_any Wc Wb.heap.size w.heap.size w1.heap.size (fun x => x = storeB data) (PFix (findM data)) (PDyn (findM data))
  (by have := HBc.out.cell 0; simpa using this) (by have := HBc.out.cell 1; simpa using this) (by have := HBc.out.cell 2; simpa using this)
  (fun W2 h2 => HW1.out W2 (Same.trans HKc.out h2))
  (fun W2 h2 => HW2.out W2 _ _ _ (by have := (HBt.out.kept h2 (fun f => f)).cell 0; simpa using this) (SrcC.kept tkC_ok HSb.out h2 (fun _ _ _ f => f)))
  (fun W2 h2 => HW3.out W2 _ _ _ (Same.trans HKW.out (Same.trans HKc.out h2)) (by have := (HBt.out.kept h2 (fun f => f)).cell 0; simpa using this) (SrcC.kept tkC_ok HSb.out h2 (fun _ _ _ f => f)))
 have hszb : Wb.heap.size = w1.heap.size + 1 := by rw [hWb, World.size_alloc]
 have HKN : Hid (Same w Wc) := hid (Same.trans HKW.out HKc.out)
 clear hkb hkc HR1 HW1 HW2 HW3 HSb HBc HBt HBb
 go_wp2_with fail
 rw [← hWb, ← hWc, ← hszb]
 clear hWb hWc hszb
 refine HL.mono ?_
 rintro e w2 ⟨v2, x1, x2, x3, rfl, hn2, rfl, hp2, hp3⟩
 have HE : Hid (NB w w2 v2 (bestL (bestL (storeB data) x2) x3) ∧ PDef data (bestL (bestL (storeB data) x2) x3)) := hid ⟨hn2.base HKN.out, x2, x3, rfl, hp2, hp3⟩
 obtain ⟨a2, p2, hv2, _⟩ := hn2.row.shape
 subst hv2
 clear hn2 hp2 hp3 HL
 go_wp2_with fail
 go_ret2
 exact ⟨_, _, rfl, HE.out.1, HE.out.2⟩

end Go.Proofs.YtljlmfnbeofmmaaGreatDoor
