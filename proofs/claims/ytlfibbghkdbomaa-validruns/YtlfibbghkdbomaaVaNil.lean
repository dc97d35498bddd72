/-
  Layer 13's law ValidNil: no set answers so.
-/
import Derived.Test.YtlfibbghkdbomaaVaL
namespace Go.Proofs.Ytlfibbghkdbomaa
open Go.RowKit Go.Maps Go.Sort Go.Shelf

set_option maxHeartbeats 400000 in
theorem vput_nil (w : World) (a b c d : ByteArray) (ha : a.size ≤ maxLen) (hb : b.size ≤ maxLen) (hc : c.size ≤ maxLen) (hd : d.size ≤ maxLen) : Calls Try.prog 16 #[.pointer none, .agg #[.string a, .string b, .string c], .string d] w fun e w' => e = .returned (.tuple #[]) ∧ Same w w' := by
  have HS : Hid (∀ w', Calls Try.prog 33 #[.pointer none, .agg #[.string a, .string b, .string c, .bool true, .string d]] w' fun e w2 => e = .returned (.tuple #[]) ∧ Same w' w2) := hid (fun w' => vstage_nil w' ⟨⟨a, b, ha, hb⟩, ⟨c, hc⟩, true, d, hd⟩)
  clear ha hb hc hd
  go_enter Try.func16, Try.ntmps16
  go_wp2_with fail
  refine (HS.out _).mono ?_
  rintro e w2 ⟨rfl, h2⟩
  go_wp2_with fail
  go_end0
  exact ⟨rfl, Same.trans ((Kept.refl _ w).alloc _) h2⟩

set_option maxHeartbeats 400000 in
theorem vdel_nil (w : World) (a b c : ByteArray) (ha : a.size ≤ maxLen) (hb : b.size ≤ maxLen) (hc : c.size ≤ maxLen) : Calls Try.prog 17 #[.pointer none, .agg #[.string a, .string b, .string c]] w fun e w' => e = .returned (.tuple #[]) ∧ Same w w' := by
  have HS : Hid (∀ w', Calls Try.prog 33 #[.pointer none, .agg #[.string a, .string b, .string c, .bool false, .string ⟨#[]⟩]] w' fun e w2 => e = .returned (.tuple #[]) ∧ Same w' w2) := hid (fun w' => vstage_nil w' ⟨⟨a, b, ha, hb⟩, ⟨c, hc⟩, false, ⟨#[]⟩, by decide⟩)
  clear ha hb hc
  go_enter Try.func17, Try.ntmps17
  go_wp2_with fail
  refine (HS.out _).mono ?_
  rintro e w2 ⟨rfl, h2⟩
  go_wp2_with fail
  go_end0
  exact ⟨rfl, Same.trans ((Kept.refl _ w).alloc _) h2⟩

theorem Same.bel13 {w w' : World} (h : Same w w') : Below w.heap.size w w' := h.below (Nat.le_refl _) (fun _ _ f => f)

set_option maxRecDepth 100000 in
set_option maxHeartbeats 2000000 in
theorem validNil_all (b : Bx) (n : Nm) (x : Cm) (w : World) (_h : CmOk w (fun k => k < w.heap.size) x) :
    Calls Try.prog 6 #[.agg (kyC b n).toArray, .agg (cmC x).toArray] w fun e w' => e = .returned (.bool true) ∧ Below w.heap.size w w' := by
  suffices H : Calls Try.prog 6 #[.agg (kyC b n).toArray, .agg (cmC x).toArray] w fun e w' => e = .returned (.bool true) ∧ Same w w' from H.mono (fun e w' h => ⟨h.1, h.2.bel13⟩)
  clear _h
  obtain ⟨ct, ca, cn, cc, ws⟩ := x
  show Calls Try.prog 6 #[.agg #[.string b.tn, .string b.ar, .string n.s], .agg #[.int .i64 ct, .slice ca cn cc]] w _
  obtain ⟨wA, hwA⟩ : ∃ W, W = (w.alloc (.cells #[.string b.tn, .string b.ar, .string n.s] 24)).alloc (.cells #[.int .i64 ct, .slice ca cn cc] 45) := ⟨_, rfl⟩
  obtain ⟨xb, hxb⟩ : ∃ y, y = w.heap.size := ⟨_, rfl⟩
  have HKA : Hid (Same w wA) := hid (by rw [hwA]; exact ((Kept.refl _ w).alloc _).alloc _)
  have B1 : Blk wA xb #[.string b.tn, .string b.ar, .string n.s] 24 := by rw [hwA, hxb]; exact (Blk.new w _ _).kept (F := fun _ => False) ((Kept.refl _ _).alloc _) (fun f => f)
  have B2 : Blk wA (xb + 1) #[.int .i64 ct, .slice ca cn cc] 45 := by
    rw [hwA, hxb]
    have := Blk.new (w.alloc (.cells #[.string b.tn, .string b.ar, .string n.s] 24)) #[.int .i64 ct, .slice ca cn cc] 45
    rwa [World.size_alloc] at this
  have HC : Hid (∀ w', Same wA w' → w'.cell? ⟨xb, 0, none⟩ = some (.string b.tn) ∧ w'.cell? ⟨xb, 1, none⟩ = some (.string b.ar) ∧ w'.cell? ⟨xb, 2, none⟩ = some (.string n.s) ∧ w'.cell? ⟨xb + 1, 0, none⟩ = some (.int .i64 ct) ∧ w'.cell? ⟨xb + 1, 1, none⟩ = some (.slice ca cn cc)) := hid (fun w' hk => by
    have h1 := B1.kept hk (fun f => f)
    have h2 := B2.kept hk (fun f => f)
    exact ⟨h1.cell 0, h1.cell 1, h1.cell 2, h2.cell 0, h2.cell 1⟩)
  have HZ : Hid (b.tn.size ≤ maxLen ∧ b.ar.size ≤ maxLen ∧ n.s.size ≤ maxLen) := hid ⟨b.ok.1, b.ok.2, n.ok⟩
  clear B1 B2
  obtain ⟨c0, c1, c2, d0, d1⟩ := HC.out wA (Kept.refl _ _)
  rw [hwA, hxb] at c0 c1 c2 d0 d1
  go_enter Try.func6, Try.ntmps6
  go_wp2_with fail
  rw [← hwA, ← hxb]
  clear c0 c1 c2 d0 d1 hwA hxb
  refine (vread_nil wA _ _ _).mono ?_
  rintro e w1 ⟨rfl, hk1⟩
  have HK1 : Hid (Same wA w1) := hk1
  obtain ⟨c0, c1, c2, d0, d1⟩ := HC.out w1 hk1
  clear hk1
  go_wp2_with fail
  refine (vlist_nil w1 _ _).mono ?_
  rintro e w2 ⟨rfl, hk2⟩
  have HK2 : Hid (Same wA w2) := hid (HK1.out.trans hk2)
  clear c0 c1 c2 d0 d1 HK1 hk2
  obtain ⟨c0, c1, c2, d0, d1⟩ := HC.out w2 HK2.out
  go_wp2_with fail
  refine (vput_nil w2 _ _ _ _ HZ.out.1 HZ.out.2.1 HZ.out.2.2 (by decide)).mono ?_
  rintro e w3 ⟨rfl, hk3⟩
  have HK3 : Hid (Same wA w3) := hid (HK2.out.trans hk3)
  clear c0 c1 c2 d0 d1 HK2 hk3
  obtain ⟨c0, c1, c2, d0, d1⟩ := HC.out w3 HK3.out
  go_wp2_with fail
  refine (vdel_nil w3 _ _ _ HZ.out.1 HZ.out.2.1 HZ.out.2.2).mono ?_
  rintro e w4 ⟨rfl, hk4⟩
  have HK4 : Hid (Same wA w4) := hid (HK3.out.trans hk4)
  clear c0 c1 c2 d0 d1 HK3 hk4
  obtain ⟨c0, c1, c2, d0, d1⟩ := HC.out w4 HK4.out
  go_wp2_with fail
  refine (vown_nil w4 _ _ _).mono ?_
  rintro e w5 ⟨rfl, hk5⟩
  have HK5 : Hid (Same wA w5) := hid (HK4.out.trans hk5)
  clear c0 c1 c2 d0 d1 HK4 hk5
  obtain ⟨w6, hw6⟩ : ∃ W, W = w5.alloc (.cells #[.string ⟨#[]⟩, .string ⟨#[]⟩, .string ⟨#[]⟩, .bool false, .string ⟨#[]⟩] 51) := ⟨_, rfl⟩
  obtain ⟨yb, hyb⟩ : ∃ y, y = w5.heap.size := ⟨_, rfl⟩
  have BW : Blk w6 yb #[.string ⟨#[]⟩, .string ⟨#[]⟩, .string ⟨#[]⟩, .bool false, .string ⟨#[]⟩] 51 := by rw [hw6, hyb]; exact Blk.new w5 _ _
  have HW : Hid (∀ w', Same w6 w' → w'.cell? ⟨yb, 0, none⟩ = some (.string ⟨#[]⟩) ∧ w'.cell? ⟨yb, 1, none⟩ = some (.string ⟨#[]⟩) ∧ w'.cell? ⟨yb, 2, none⟩ = some (.string ⟨#[]⟩) ∧ w'.cell? ⟨yb, 3, none⟩ = some (.bool false) ∧ w'.cell? ⟨yb, 4, none⟩ = some (.string ⟨#[]⟩)) := hid (fun w' hk => by
    have h1 := BW.kept hk (fun f => f)
    exact ⟨h1.cell 0, h1.cell 1, h1.cell 2, h1.cell 3, h1.cell 4⟩)
  have HK6 : Hid (Same wA w6) := hid (by rw [hw6]; exact HK5.out.alloc _)
  obtain ⟨c0, c1, c2, d0, d1⟩ := HC.out w6 HK6.out
  rw [hw6] at d0 d1
  have e9 : wrE wr0 = [.string ⟨#[]⟩, .string ⟨#[]⟩, .string ⟨#[]⟩, .bool false, .string ⟨#[]⟩] := rfl
  rw [e9]
  clear BW c0 c1 c2 HK5 e9
  go_wp2_with fail
  rw [← hw6, ← hyb]
  clear d0 d1 hw6 hyb
  refine (vcheck_nil _ _).mono ?_
  rintro e w7 ⟨rfl, hw7⟩
  have hk7 : Same w6 w7 := by rw [hw7]; exact (Kept.refl _ _).alloc _
  have HK7 : Hid (Same w6 w7) := hk7
  clear hk7 hw7
  go_wp2_with fail
  refine (vawake_any w7).mono ?_
  rintro e w8 ⟨rfl, hk8⟩
  have HK8 : Hid (Same w6 w8) := hid (HK7.out.trans hk8)
  obtain ⟨f0, f1, f2, f3, f4⟩ := HW.out w8 HK8.out
  clear hk8 HK7
  go_wp2_with fail
  refine (vwrites_nil _).mono ?_
  rintro e w9 ⟨rfl, hw9⟩
  have HK9 : Hid (Same w6 w9) := hid (by rw [hw9]; exact HK8.out)
  clear f0 f1 f2 f3 f4 HK8 hw9
  go_wp2_with fail
  refine (vat_nil _).mono ?_
  rintro e w10 ⟨rfl, hw10⟩
  have HK10 : Hid (Same w6 w10) := hid (by rw [hw10]; exact HK9.out)
  obtain ⟨c0, c1, c2, d0, d1⟩ := HC.out w10 (HK6.out.trans HK10.out)
  clear HK9 hw10
  go_wp2_with fail
  refine (vclash_nil _ _ _).mono ?_
  rintro e w11 ⟨rfl, hk11⟩
  have HK11 : Hid (Same w w11) := hid (((HKA.out.trans HK6.out).trans HK10.out).trans hk11)
  clear c0 c1 c2 d0 d1 HK10 hk11
  go_wp2_with fail
  go_ret
  exact ⟨rfl, HK11.out⟩

end Go.Proofs.Ytlfibbghkdbomaa
