/-
  Layer 13: New, Read, List, Put, Delete, Own, At.
-/
import Derived.Test.YtlfibbghkdbomaaVaB
import Derived.Deep.RegionHeld3
import Derived.BigQuiet
import Derived.Laws.ResultCell
namespace Go.Proofs.Ytlfibbghkdbomaa
open Go.RowKit Go.Maps Go.Sort

set_option maxHeartbeats 400000 in
theorem vnew_any (w : World) (t : Int) : Calls Try.prog 7 #[.int .i64 t] w fun e w' => ∃ p mr ml ms, e = .returned (.pointer (some ⟨p, 0, none⟩)) ∧ Vk 0 w' p mr ml ms ⟨t, [], [], []⟩ ∧ (w.heap.size ≤ p ∧ w.heap.size ≤ mr ∧ w.heap.size ≤ ml ∧ w.heap.size ≤ ms) ∧ Same w w' := by
  have hmm := @run_makeMap Try.prog
  go_enter Try.func7, Try.ntmps7
  go_wp2_with fail
  go_ret
  obtain ⟨b, hb⟩ : ∃ b, b = w.heap.size := ⟨_, rfl⟩
  have e1 : (w.alloc (.map #[] 0)).heap.size = b + 1 := by rw [World.size_alloc, hb]
  have e2 : ((w.alloc (.map #[] 0)).alloc (.map #[] 0)).heap.size = b + 2 := by rw [World.size_alloc, e1]
  have e3 : (((w.alloc (.map #[] 0)).alloc (.map #[] 0)).alloc (.map #[] 0)).heap.size = b + 3 := by rw [World.size_alloc, e2]
  have m1 : MpG 24 unitElem kK unD (w.alloc (.map #[] 0)) b [] := by rw [hb]; exact MpG.new w
  have m2 : MpG 26 unitElem kB unD ((w.alloc (.map #[] 0)).alloc (.map #[] 0)) (b + 1) [] := by rw [← e1]; exact MpG.new _
  have m3 : MpG 24 wrR kK wrD (((w.alloc (.map #[] 0)).alloc (.map #[] 0)).alloc (.map #[] 0)) (b + 2) [] := by rw [← e2]; exact MpG.new _
  have sm : ∀ (u : World) (o : Obj), Same u (u.alloc o) := fun u o => (Kept.refl _ u).alloc o
  refine ⟨b + 3, b, b + 1, b + 2, by rw [hb]; rfl, ?_, by omega, ((((Kept.refl _ w).alloc _).alloc _).alloc _).alloc _⟩
  refine { blk := ?_, rm := (((m1.kept (sm _ _) (fun f => f)).kept (sm _ _) (fun f => f)).kept (sm _ _) (fun f => f)), lm := ((m2.kept (sm _ _) (fun f => f)).kept (sm _ _) (fun f => f)), sm := m3.kept (sm _ _) (fun f => f), own := fun x hx => (by cases hx), ne := by omega, lens := ⟨Nat.le_refl _, Nat.le_refl _, Nat.le_refl _⟩, big := by decide }
  have h9 := Blk.new (((w.alloc (.map #[] 0)).alloc (.map #[] 0)).alloc (.map #[] 0)) #[.int .i64 t, .map (some w.heap.size), .map (some (w.heap.size + 1)), .map (some (w.heap.size + 2))] 64
  rw [e3] at h9
  rw [hb] at h9 ⊢
  exact h9

set_option maxHeartbeats 400000 in
theorem vat_nil (w : World) : Calls Try.prog 9 #[.pointer none] w fun e w' => e = .returned (.int .i64 0) ∧ w' = w := by
  go_enter Try.func9, Try.ntmps9
  go_wp2_with fail
  go_ret
  exact ⟨rfl, rfl⟩

set_option maxHeartbeats 400000 in
theorem vread_nil (w : World) (a b c : ByteArray) : Calls Try.prog 14 #[.pointer none, .agg #[.string a, .string b, .string c]] w fun e w' => e = .returned (.tuple #[]) ∧ Same w w' := by
  go_enter Try.func14, Try.ntmps14
  go_wp2_with fail
  go_end0
  exact ⟨rfl, (Kept.refl _ w).alloc _⟩

set_option maxHeartbeats 400000 in
theorem vlist_nil (w : World) (a b : ByteArray) : Calls Try.prog 15 #[.pointer none, .agg #[.string a, .string b]] w fun e w' => e = .returned (.tuple #[]) ∧ Same w w' := by
  go_enter Try.func15, Try.ntmps15
  go_wp2_with fail
  go_end0
  exact ⟨rfl, (Kept.refl _ w).alloc _⟩

set_option maxHeartbeats 400000 in
theorem vstage_nil (w : World) (r : Wr) : Calls Try.prog 33 #[.pointer none, .agg #[.string r.b.tn, .string r.b.ar, .string r.n.s, .bool r.there, .string r.data]] w fun e w' => e = .returned (.tuple #[]) ∧ Same w w' := by
  go_enter Try.func33, Try.ntmps33
  go_wp2_with fail
  go_end0
  exact ⟨rfl, (Kept.refl _ w).alloc _⟩

set_option maxHeartbeats 400000 in
theorem vown_nil (w : World) (a b c : ByteArray) : Calls Try.prog 18 #[.pointer none, .agg #[.string a, .string b, .string c]] w fun e w' => e = .returned (.tuple #[.agg (wrE wr0).toArray, .bool false]) ∧ Same w w' := by
  go_enter Try.func18, Try.ntmps18
  go_wp2_with fail
  refine bodyPost_ret (v := .tuple #[.agg (wrE wr0).toArray, .bool false]) (by rw [results_cell_tmp rfl]; simp [go_sem, wrE, wr0]) rfl ?_
  exact ⟨rfl, ((Kept.refl _ w).alloc _).alloc _⟩

section
variable {K : Nat} {w : World} {p mr ml ms : Nat} {s : Vst}

set_option maxHeartbeats 400000 in
theorem vat_any (h : Vk K w p mr ml ms s) : Calls Try.prog 9 #[.pointer (some ⟨p, 0, none⟩)] w fun e w' => e = .returned (.int .i64 s.t) ∧ w' = w := by
  have c0 : w.cell? ⟨p, 0, none⟩ = some (.int .i64 s.t) := h.blk.cell 0
  clear h
  go_enter Try.func9, Try.ntmps9
  go_wp2_with fail
  go_ret
  exact ⟨rfl, rfl⟩

set_option maxHeartbeats 1000000 in
theorem vread_any (h : Vk K w p mr ml ms s) (k : Ke) (hK : K + 1 ≤ 100000) : Calls Try.prog 14 #[.pointer (some ⟨p, 0, none⟩), .agg #[.string k.1.tn, .string k.1.ar, .string k.2.s]] w fun e w' => e = .returned (.tuple #[]) ∧ Vk (K + 1) w' p mr ml ms { s with rd := putG kK k () s.rd } ∧ Kept (· = mr) w w' := by
  obtain ⟨wA, hwA⟩ : ∃ W, W = w.alloc (.cells #[.string k.1.tn, .string k.1.ar, .string k.2.s] 24) := ⟨_, rfl⟩
  obtain ⟨xb, hxb⟩ : ∃ x, x = w.heap.size := ⟨_, rfl⟩
  have BA : Blk wA xb #[.string k.1.tn, .string k.1.ar, .string k.2.s] 24 := by rw [hwA, hxb]; exact Blk.new w _ _
  have hka : Same w wA := by rw [hwA]; exact (Kept.refl _ w).alloc _
  have hA := (h.same hka).same (w' := wA.drew) (Kept.refl _ wA).drew
  obtain ⟨w', hup, hv, hk⟩ := hA.putR k hK
  have HF : Hid (Vk (K + 1) w' p mr ml ms { s with rd := putG kK k () s.rd } ∧ Kept (· = mr) w w') := hid ⟨hv, Kept.trans (F := fun _ => False) (hka.drew) hk (fun _ _ f => f.elim) (fun _ _ e => e)⟩
  have c0 := BA.cell 0
  have c1 := BA.cell 1
  have c2 := BA.cell 2
  have p1 : wA.cell? ⟨p, 1, none⟩ = some (.map (some mr)) := (h.same hka).blk.cell 1
  simp at c0 c1 c2
  clear h BA hka hA hv hk
  go_enter Try.func14, Try.ntmps14
  go_wp2_with fail
  rw [← hwA, ← hxb]
  clear hwA hxb
  go_region
  go_wp2_with fail
  go_end0
  exact ⟨rfl, HF.out⟩

set_option maxHeartbeats 1000000 in
theorem vlist_any (h : Vk K w p mr ml ms s) (b : Bx) (hK : K + 1 ≤ 100000) : Calls Try.prog 15 #[.pointer (some ⟨p, 0, none⟩), .agg #[.string b.tn, .string b.ar]] w fun e w' => e = .returned (.tuple #[]) ∧ Vk (K + 1) w' p mr ml ms { s with ls := putG kB b () s.ls } ∧ Kept (· = ml) w w' := by
  obtain ⟨wA, hwA⟩ : ∃ W, W = w.alloc (.cells #[.string b.tn, .string b.ar] 26) := ⟨_, rfl⟩
  obtain ⟨xb, hxb⟩ : ∃ x, x = w.heap.size := ⟨_, rfl⟩
  have BA : Blk wA xb #[.string b.tn, .string b.ar] 26 := by rw [hwA, hxb]; exact Blk.new w _ _
  have hka : Same w wA := by rw [hwA]; exact (Kept.refl _ w).alloc _
  have hA := (h.same hka).same (w' := wA.drew) (Kept.refl _ wA).drew
  obtain ⟨w', hup, hv, hk⟩ := hA.putL b hK
  have HF : Hid (Vk (K + 1) w' p mr ml ms { s with ls := putG kB b () s.ls } ∧ Kept (· = ml) w w') := hid ⟨hv, Kept.trans (F := fun _ => False) (hka.drew) hk (fun _ _ f => f.elim) (fun _ _ e => e)⟩
  have c0 := BA.cell 0
  have c1 := BA.cell 1
  have p1 : wA.cell? ⟨p, 2, none⟩ = some (.map (some ml)) := (h.same hka).blk.cell 2
  simp at c0 c1
  clear h BA hka hA hv hk
  go_enter Try.func15, Try.ntmps15
  go_wp2_with fail
  rw [← hwA, ← hxb]
  clear hwA hxb
  go_region
  go_wp2_with fail
  go_end0
  exact ⟨rfl, HF.out⟩

set_option maxHeartbeats 1000000 in
theorem vstage_any (h : Vk K w p mr ml ms s) (r : Wr) (hK : K + 1 ≤ 100000) : Calls Try.prog 33 #[.pointer (some ⟨p, 0, none⟩), .agg #[.string r.b.tn, .string r.b.ar, .string r.n.s, .bool r.there, .string r.data]] w fun e w' => e = .returned (.tuple #[]) ∧ Vk (K + 1) w' p mr ml ms { s with st := putG kK (keO r) r s.st } ∧ Kept (· = ms) w w' := by
  obtain ⟨wA, hwA⟩ : ∃ W, W = w.alloc (.cells #[.string r.b.tn, .string r.b.ar, .string r.n.s, .bool r.there, .string r.data] 51) := ⟨_, rfl⟩
  obtain ⟨xb, hxb⟩ : ∃ x, x = w.heap.size := ⟨_, rfl⟩
  have BA : Blk wA xb #[.string r.b.tn, .string r.b.ar, .string r.n.s, .bool r.there, .string r.data] 51 := by rw [hwA, hxb]; exact Blk.new w _ _
  have hka : Same w wA := by rw [hwA]; exact (Kept.refl _ w).alloc _
  have hA := (h.same hka).same (w' := wA.drew) (Kept.refl _ wA).drew
  obtain ⟨w', hup, hv, hk⟩ := hA.putS r hK
  have HF : Hid (Vk (K + 1) w' p mr ml ms { s with st := putG kK (keO r) r s.st } ∧ Kept (· = ms) w w') := hid ⟨hv, Kept.trans (F := fun _ => False) (hka.drew) hk (fun _ _ f => f.elim) (fun _ _ e => e)⟩
  have c0 := BA.cell 0
  have c1 := BA.cell 1
  have c2 := BA.cell 2
  have c3 := BA.cell 3
  have c4 := BA.cell 4
  have p1 : wA.cell? ⟨p, 3, none⟩ = some (.map (some ms)) := (h.same hka).blk.cell 3
  simp at c0 c1 c2 c3 c4
  clear h BA hka hA hv hk
  go_enter Try.func33, Try.ntmps33
  go_wp2_with fail
  rw [← hwA, ← hxb]
  clear hwA hxb
  go_region
  go_wp2_with fail
  go_end0
  exact ⟨rfl, HF.out⟩

set_option maxHeartbeats 1000000 in
theorem vput_any (h : Vk K w p mr ml ms s) (k : Ke) (d : ByteArray) (hd : d.size ≤ maxLen) (hK : K + 1 ≤ 100000) : Calls Try.prog 16 #[.pointer (some ⟨p, 0, none⟩), .agg #[.string k.1.tn, .string k.1.ar, .string k.2.s], .string d] w fun e w' => e = .returned (.tuple #[]) ∧ Vk (K + 1) w' p mr ml ms { s with st := putG kK k ⟨k.1, k.2, true, d, hd⟩ s.st } ∧ Kept (· = ms) w w' := by
  have HS : Hid (∀ w', Same w w' → Calls Try.prog 33 #[.pointer (some ⟨p, 0, none⟩), .agg #[.string k.1.tn, .string k.1.ar, .string k.2.s, .bool true, .string d]] w' fun e w2 => e = .returned (.tuple #[]) ∧ Vk (K + 1) w2 p mr ml ms { s with st := putG kK k ⟨k.1, k.2, true, d, hd⟩ s.st } ∧ Kept (· = ms) w w2) := hid (fun w' hk => (vstage_any (h.same hk) ⟨k.1, k.2, true, d, hd⟩ hK).mono (fun e w2 h2 => ⟨h2.1, h2.2.1, Kept.trans hk h2.2.2 (fun _ _ f => f.elim) (fun _ _ e => e)⟩))
  clear h
  go_enter Try.func16, Try.ntmps16
  go_wp2_with fail
  refine (HS.out _ ((Kept.refl _ w).alloc _)).mono ?_
  rintro e w2 ⟨rfl, h2⟩
  go_wp2_with fail
  go_end0
  exact ⟨rfl, h2⟩

set_option maxHeartbeats 1000000 in
theorem vdel_any (h : Vk K w p mr ml ms s) (k : Ke) (hK : K + 1 ≤ 100000) : Calls Try.prog 17 #[.pointer (some ⟨p, 0, none⟩), .agg #[.string k.1.tn, .string k.1.ar, .string k.2.s]] w fun e w' => e = .returned (.tuple #[]) ∧ Vk (K + 1) w' p mr ml ms { s with st := putG kK k ⟨k.1, k.2, false, ⟨#[]⟩, by decide⟩ s.st } ∧ Kept (· = ms) w w' := by
  have HS : Hid (∀ w', Same w w' → Calls Try.prog 33 #[.pointer (some ⟨p, 0, none⟩), .agg #[.string k.1.tn, .string k.1.ar, .string k.2.s, .bool false, .string ⟨#[]⟩]] w' fun e w2 => e = .returned (.tuple #[]) ∧ Vk (K + 1) w2 p mr ml ms { s with st := putG kK k ⟨k.1, k.2, false, ⟨#[]⟩, by decide⟩ s.st } ∧ Kept (· = ms) w w2) := hid (fun w' hk => (vstage_any (h.same hk) ⟨k.1, k.2, false, ⟨#[]⟩, by decide⟩ hK).mono (fun e w2 h2 => ⟨h2.1, h2.2.1, Kept.trans hk h2.2.2 (fun _ _ f => f.elim) (fun _ _ e => e)⟩))
  clear h
  go_enter Try.func17, Try.ntmps17
  go_wp2_with fail
  refine (HS.out _ ((Kept.refl _ w).alloc _)).mono ?_
  rintro e w2 ⟨rfl, h2⟩
  go_wp2_with fail
  go_end0
  exact ⟨rfl, h2⟩

set_option maxRecDepth 100000 in
set_option maxHeartbeats 1000000 in
theorem vown_any (h : Vk K w p mr ml ms s) (k : Ke) : Calls Try.prog 18 #[.pointer (some ⟨p, 0, none⟩), .agg #[.string k.1.tn, .string k.1.ar, .string k.2.s]] w fun e w' => e = .returned (.tuple #[.agg (wrE ((getG k s.st).getD wr0)).toArray, .bool (getG k s.st).isSome]) ∧ Same w w' := by
  obtain ⟨wA, hwA⟩ : ∃ W, W = (w.alloc (.cells #[.string k.1.tn, .string k.1.ar, .string k.2.s] 24)).alloc (.cells #[.string ⟨#[]⟩, .string ⟨#[]⟩, .string ⟨#[]⟩, .bool false, .string ⟨#[]⟩] 51) := ⟨_, rfl⟩
  obtain ⟨xb, hxb⟩ : ∃ x, x = w.heap.size := ⟨_, rfl⟩
  have BA : Blk wA xb #[.string k.1.tn, .string k.1.ar, .string k.2.s] 24 := by rw [hwA, hxb]; exact (Blk.new w _ _).kept (F := fun _ => False) ((Kept.refl _ _).alloc _) (fun f => f)
  have BB : Blk wA (xb + 1) #[.string ⟨#[]⟩, .string ⟨#[]⟩, .string ⟨#[]⟩, .bool false, .string ⟨#[]⟩] 51 := by
    rw [hwA, hxb]
    have := Blk.new (w.alloc (.cells #[.string k.1.tn, .string k.1.ar, .string k.2.s] 24)) #[.string ⟨#[]⟩, .string ⟨#[]⟩, .string ⟨#[]⟩, .bool false, .string ⟨#[]⟩] 51
    rwa [World.size_alloc] at this
  have hka : Same w wA := by rw [hwA]; exact ((Kept.refl _ w).alloc _).alloc _
  obtain ⟨r, hr⟩ : ∃ r, r = (getG k s.st).getD wr0 := ⟨_, rfl⟩
  obtain ⟨ok, hok⟩ : ∃ b, b = (getG k s.st).isSome := ⟨_, rfl⟩
  have l1 := ((h.same hka).same (w' := wA.drew) (Kept.refl _ wA).drew).lookS k
  rw [← hr, ← hok] at l1 ⊢
  obtain ⟨wB, hwB⟩ : ∃ W, W = wA.alloc (.cells #[.string ⟨#[]⟩, .string ⟨#[]⟩, .string ⟨#[]⟩, .bool false, .string ⟨#[]⟩] 51) := ⟨_, rfl⟩
  have hkb : Same wA wB := by rw [hwB]; exact (Kept.refl _ wA).alloc _
  have l1' := (((h.same hka).same hkb).same (w' := wB.drew) (Kept.refl _ wB).drew).lookS k
  rw [← hr, ← hok] at l1'
  have BA' := BA.kept hkb (fun f => f)
  have c0 := BA.cell 0
  have c1 := BA.cell 1
  have c2 := BA.cell 2
  have p1 : wA.cell? ⟨p, 3, none⟩ = some (.map (some ms)) := (h.same hka).blk.cell 3
  have c0' := BA'.cell 0
  have c1' := BA'.cell 1
  have c2' := BA'.cell 2
  have p1' : wB.cell? ⟨p, 3, none⟩ = some (.map (some ms)) := ((h.same hka).same hkb).blk.cell 3
  simp at c0 c1 c2 c0' c1' c2'
  rw [hwB] at c0' c1' c2' p1' l1'
  have HB : Hid (Blk wA (xb + 1) #[.string ⟨#[]⟩, .string ⟨#[]⟩, .string ⟨#[]⟩, .bool false, .string ⟨#[]⟩] 51) := BB
  have HK : Hid (Same w wA ∧ xb = w.heap.size) := hid ⟨hka, hxb⟩
  obtain ⟨wC, hwC⟩ : ∃ W, W = wA.alloc (.cells #[.string r.b.tn, .string r.b.ar, .string r.n.s, .bool r.there, .string r.data] 51) := ⟨_, rfl⟩
  have hkc : Same wA wC := by rw [hwC]; exact (Kept.refl _ wA).alloc _
  have BD := HB.out.kept hkc (fun f => f)
  have HBD : Hid (Blk wC (xb + 1) #[.string ⟨#[]⟩, .string ⟨#[]⟩, .string ⟨#[]⟩, .bool false, .string ⟨#[]⟩] 51 ∧ Same wA wC) := hid ⟨BD, hkc⟩
  have e0 := BD.cell 0
  have e1 := BD.cell 1
  have e2 := BD.cell 2
  have e3 := BD.cell 3
  have e4 := BD.cell 4
  have z0 := BD.frozen 0
  have z1 := BD.frozen 1
  have z2 := BD.frozen 2
  have z3 := BD.frozen 3
  have z4 := BD.frozen 4
  simp at e0 e1 e2 e3 e4
  rw [hwC] at e0 e1 e2 e3 e4 z0 z1 z2 z3 z4
  clear h BA BA' hka hr hok BB hwB hkb BD hkc
  unfold wrE at l1 l1'
  go_enter Try.func18, Try.ntmps18
  go_wp2_with fail
  rw [← hwA, ← hxb]
  clear hwA hxb
  go_region
  all_goals go_wp2_with fail
  all_goals
    have BF := ((((HBD.out.1.set 0 (.string r.b.tn)).set 1 (.string r.b.ar)).set 2 (.string r.n.s)).set 3 (.bool r.there)).set 4 (.string r.data)
    have hkf : Kept (· = xb + 1) wC (((((wC.setCell ⟨xb + 1, 0, none⟩ (.string r.b.tn)).setCell ⟨xb + 1, 1, none⟩ (.string r.b.ar)).setCell ⟨xb + 1, 2, none⟩ (.string r.n.s)).setCell ⟨xb + 1, 3, none⟩ (.bool r.there)).setCell ⟨xb + 1, 4, none⟩ (.string r.data)) := (((((Kept.refl (fun k => k = xb + 1) wC).setCell _ _ (.inl rfl)).setCell _ _ (.inl rfl)).setCell _ _ (.inl rfl)).setCell _ _ (.inl rfl)).setCell _ _ (.inl rfl)
    simp at BF
    rw [← hwC]
    obtain ⟨wF, hwF⟩ : ∃ W, W = (((((wC.setCell ⟨xb + 1, 0, none⟩ (.string r.b.tn)).setCell ⟨xb + 1, 1, none⟩ (.string r.b.ar)).setCell ⟨xb + 1, 2, none⟩ (.string r.n.s)).setCell ⟨xb + 1, 3, none⟩ (.bool r.there)).setCell ⟨xb + 1, 4, none⟩ (.string r.data)) := ⟨_, rfl⟩
    rw [← hwF] at BF hkf ⊢
    have BF := BF.kept (F := fun _ => False) (w' := wF.drew) (Kept.refl _ _).drew (fun f => f)
    have f0 := BF.cell 0
    have f1 := BF.cell 1
    have f2 := BF.cell 2
    have f3 := BF.cell 3
    have f4 := BF.cell 4
    simp at f0 f1 f2 f3 f4
    refine bodyPost_ret (v := .tuple #[.agg (wrE r).toArray, .bool ok]) (by rw [results_cell_tmp rfl]; simp [go_sem, wrE, f0, f1, f2, f3, f4]) rfl ?_
    exact ⟨rfl, Kept.trans (Same.trans HK.out.1 HBD.out.2) hkf.drew (fun _ _ f => f) (fun k hlt e => by have := HK.out.2; omega)⟩

end

end Go.Proofs.Ytlfibbghkdbomaa
