import Derived.Test.YtljlmfnbeofmmaaGreatDoorZpP
namespace Go.Proofs.YtljlmfnbeofmmaaGreatDoor
open Go.RowKit

theorem nums_new (k : IntKind) (w : World) (vs : List Nat) (t : TypeId) : Nums k (w.alloc (.cells (vs.map (fun x => Value.int k (x : Nat))).toArray t)) w.heap.size vs := by
 intro j hj
 have hb := (Blk.new w (vs.map (fun x => Value.int k (x : Nat))).toArray t).cell j
 rw [hb]
 simp [List.getD_eq_getElem?_getD, List.getElem?_eq_getElem hj]

def LabBk (w : World) (b : Nat) (m : Mk) : Prop := Blk w b #[.int .u16 (m.way : Nat), .int .u32 (m.sum : Nat), .int .u32 (m.packed : Nat), .int .u32 (m.size : Nat), .string (txt m.name)] 60

theorem LabBk.cells {w : World} {b : Nat} {m : Mk} (h : LabBk w b m) : w.cell? ⟨b, 0, none⟩ = some (.int .u16 (m.way : Nat)) ∧ w.cell? ⟨b, 1, none⟩ = some (.int .u32 (m.sum : Nat)) ∧ w.cell? ⟨b, 2, none⟩ = some (.int .u32 (m.packed : Nat)) ∧ w.cell? ⟨b, 3, none⟩ = some (.int .u32 (m.size : Nat)) ∧ w.cell? ⟨b, 4, none⟩ = some (.string (txt m.name)) :=
 ⟨Blk.cell h 0, Blk.cell h 1, Blk.cell h 2, Blk.cell h 3, Blk.cell h 4⟩

theorem LabBk.kept {w w' : World} {b : Nat} {m : Mk} (h : LabBk w b m) (hk : Same w w') : LabBk w' b m := Blk.kept h hk (fun f => f)

theorem labB_is (m : Mk) : les 2 [20, 0, m.way, 0, 33] ++ les 4 [m.sum, m.packed, m.size] ++ les 2 [m.name.length, 0] = labB m := by
 simp [les, labB]

set_option maxRecDepth 100000 in
set_option maxHeartbeats 400000 in
theorem layLabel_any (w : World) (v : Value) (I : Nat → Prop) (cs : List Nat) (m : Mk) (hs : Src w I v cs) (hm : MkOk m) (hlen : cs.length ≤ 1000000) :
  Calls Tryz.prog 75 #[v, .agg (mkZ m)] w fun e w' => ∃ v', e = .returned v' ∧ Fresh w w' v' (cs ++ labB m) := by
 obtain ⟨W1, hW1⟩ : ∃ W, W = w.alloc (.cells #[.int .u16 (m.way : Nat), .int .u32 (m.sum : Nat), .int .u32 (m.packed : Nat), .int .u32 (m.size : Nat), .string (txt m.name)] 60) := ⟨_, rfl⟩
 obtain ⟨mb, hmb⟩ : ∃ b, b = w.heap.size := ⟨_, rfl⟩
 have hsz : W1.heap.size = mb + 1 := by rw [hW1, hmb, World.size_alloc]
 have HK1 : Hid (Same w W1) := hid (by rw [hW1]; exact (Kept.refl _ w).alloc _)
 have HL1 : Hid (LabBk W1 mb m) := hid (by rw [hW1, hmb]; exact Blk.new w _ _)
 have HM : Hid (MkOk m ∧ cs.length ≤ 1000000) := hid ⟨hm, hlen⟩
 have hka : ∀ o, Same W1 (W1.alloc o) := fun o => (Kept.refl _ W1).alloc o
 have hn1 := nums_new .u16 W1 [20, 0, m.way, 0, 33] 58
 have H1 := put16s_any _ v I cs W1.heap.size [20, 0, m.way, 0, 33] 5 rfl (hs.kept (Same.trans HK1.out (hka _)) (fun _ _ _ f => f)) hn1 (by intro x hx; have := hm.way; simp at hx; omega) (by omega) (by decide)
 rw [hsz] at H1
 have HKA : Hid (Same W1 (W1.alloc (.cells (List.map (fun x => Value.int .u16 (x : Nat)) [20, 0, m.way, 0, 33]).toArray 58))) := hid (hka _)
 clear hs hn1 hka hm hlen hsz
 unfold mkZ
 go_enter Tryz.func75, Tryz.ntmps75
 go_wp2_with fail
 rw [← hW1, ← hmb]
 clear hW1 hmb
 refine H1.mono ?_
 rintro e w2 ⟨v2, rfl, _, _, hf2⟩
 have hf2 := hf2 (by decide)
 have hk2 : Same W1 w2 := Same.trans HKA.out hf2.kept
 have HK2 : Hid (Same w w2) := hid (Same.trans HK1.out hk2)
 have HL2 : Hid (LabBk w2 mb m) := hid (HL1.out.kept hk2)
 obtain ⟨c0, c1, c2, c3, c4⟩ := HL2.out.cells
 have hka : ∀ o, Same w2 (w2.alloc o) := fun o => (Kept.refl _ w2).alloc o
 have hn2 := nums_new .u32 w2 [m.sum, m.packed, m.size] 48
 have H2 := put32s_any _ v2 _ (cs ++ les 2 [20, 0, m.way, 0, 33]) w2.heap.size [m.sum, m.packed, m.size] 3 rfl ((Src.ofRow hf2.row).kept (hka _) (fun _ _ _ f => f)) hn2 (by intro x hx; have := HM.out.1.sum; have := HM.out.1.packed; have := HM.out.1.size; simp at hx; omega) (by rw [List.length_append, les_length]; have := HM.out.2; simp; omega) (by decide)
 have HKA2 : Hid (Same w2 (w2.alloc (.cells (List.map (fun x => Value.int .u32 (x : Nat)) [m.sum, m.packed, m.size]).toArray 48))) := hid (hka _)
 clear hn2 hka hf2 hk2 H1 HKA HL1 HK1
 go_wp2_with fail
 refine H2.mono ?_
 rintro e w3 ⟨v3, rfl, _, _, hf3⟩
 have hf3 := hf3 (by decide)
 have hk3 : Same w2 w3 := Same.trans HKA2.out hf3.kept
 have HK3 : Hid (Same w w3) := hid (Same.trans HK2.out hk3)
 have HL3 : Hid (LabBk w3 mb m) := hid (HL2.out.kept hk3)
 obtain ⟨d0, d1, d2, d3, d4⟩ := HL3.out.cells
 obtain ⟨nl, hnl⟩ : ∃ n, n = m.name.length := ⟨_, rfl⟩
 have htx : ((txt m.name).size : Int) = (nl : Int) := by rw [hnl, txt_size]
 have htn : (txt m.name).size = nl := by rw [hnl, txt_size]
 have hw16 : IntKind.u16.wrap (nl : Int) = (nl : Int) := by rw [IntKind.wrap_u16]; have := HM.out.1.name; omega
 have HNL : Hid (nl = m.name.length) := hnl
 have hka : ∀ o, Same w3 (w3.alloc o) := fun o => (Kept.refl _ w3).alloc o
 have hn3 := nums_new .u16 w3 [nl, 0] 58
 have H3 := put16s_any _ v3 _ (cs ++ les 2 [20, 0, m.way, 0, 33] ++ les 4 [m.sum, m.packed, m.size]) w3.heap.size [nl, 0] 2 rfl ((Src.ofRow hf3.row).kept (hka _) (fun _ _ _ f => f)) hn3 (by intro x hx; have := HM.out.1.name; simp at hx; omega) (by rw [List.length_append, List.length_append, les_length, les_length]; have := HM.out.2; simp; omega) (by decide)
 have HKA3 : Hid (Same w3 (w3.alloc (.cells (List.map (fun x => Value.int .u16 (x : Nat)) [nl, 0]).toArray 58))) := hid (hka _)
 clear hn3 hka hf3 hk3 H2 HKA2 HL2 HK2 c0 c1 c2 c3 c4 hnl
 go_wp2_with fail
 refine H3.mono ?_
 rintro e w4 ⟨v4, rfl, _, _, hf4⟩
 have hf4 := hf4 (by decide)
 have HF4 : Hid (Fresh w w4 v4 (cs ++ labB m)) := hid (by
  refine ⟨?_, Same.trans HK3.out (Same.trans HKA3.out hf4.kept), fun k e => Nat.le_trans (Same.trans HK3.out HKA3.out).size (hf4.new k e)⟩
  have h9 := hf4.row
  rw [HNL.out] at h9
  rw [← labB_is, ← List.append_assoc, ← List.append_assoc]
  exact h9)
 clear hf4 H3
 go_wp2_with fail
 go_ret
 exact ⟨_, rfl, HF4.out⟩

end Go.Proofs.YtljlmfnbeofmmaaGreatDoor
