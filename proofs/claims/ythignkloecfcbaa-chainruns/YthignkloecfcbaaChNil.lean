/-
  Layer 12's law ChainNil: no store answers so.
-/
import Derived.Test.YthignkloecfcbaaChT
namespace Go.Proofs.Ythignkloecfcbaa
open Go.RowKit Go.Maps Go.Sort

set_option maxHeartbeats 400000 in
theorem list_nil (w : World) (a b : ByteArray) (t : Int) : Calls Try.prog 21 #[.pointer none, .agg #[.string a, .string b], .int .i64 t] w fun e w' => e = .returned (.slice none 0 0) ∧ Same w w' := by
  go_enter Try.func21, Try.ntmps21
  go_wp2_with fail
  go_ret
  exact ⟨rfl, (Kept.refl _ w).alloc _⟩

set_option maxHeartbeats 400000 in
theorem dump_nil (w : World) (t : Int) : Calls Try.prog 15 #[.pointer none, .int .i64 t] w fun e w' => e = .returned (.slice none 0 0) ∧ Same w w' := by
  go_enter Try.func15, Try.ntmps15
  go_wp2_with fail
  go_ret
  exact ⟨rfl, Kept.refl _ w⟩

set_option maxHeartbeats 400000 in
theorem box_any (w : World) (a b c : ByteArray) :
    Calls Try.prog 22 #[.agg #[.string a, .string b, .string c]] w fun e w' => e = .returned (.agg #[.string a, .string b]) ∧ Same w w' := by
  go_enter Try.func22, Try.ntmps22
  go_wp2_with fail
  refine bodyPost_ret (v := .agg #[.string a, .string b]) (by rw [results_cellC rfl]; simp [go_sem]) rfl ?_
  exact ⟨rfl, ((Kept.refl _ w).alloc _).alloc _⟩

theorem now_nilS (w : World) : Calls Try.prog 13 #[.pointer none] w fun e w' => e = .returned (.int .i64 0) ∧ Same w w' := (now_nil w).mono (fun _ _ h => ⟨h.1, by rw [h.2]; exact Kept.refl _ _⟩)
theorem prune_nilS (w : World) (t : Int) : Calls Try.prog 19 #[.pointer none, .int .i64 t] w fun e w' => e = .returned (.int .i64 0) ∧ Same w w' := (prune_nil w t).mono (fun _ _ h => ⟨h.1, by rw [h.2]; exact Kept.refl _ _⟩)
theorem versions_nilS (w : World) : Calls Try.prog 18 #[.pointer none] w fun e w' => e = .returned (.int .i64 0) ∧ Same w w' := (versions_nil w).mono (fun _ _ h => ⟨h.1, by rw [h.2]; exact Kept.refl _ _⟩)

theorem Same.bel12 {w w' : World} (h : Same w w') : Below w.heap.size w w' := h.below (Nat.le_refl _) (fun _ _ f => f)

set_option maxRecDepth 100000 in
set_option maxHeartbeats 2000000 in
theorem chainNil_all (x : Oc) (w : World) (_h : OcOk w (fun k => k < w.heap.size) x) :
    Calls Try.prog 7 #[.agg (ocC x).toArray] w fun e w' => e = .returned (.bool true) ∧ Below w.heap.size w w' := by
  suffices H : Calls Try.prog 7 #[.agg (ocC x).toArray] w fun e w' => e = .returned (.bool true) ∧ Same w w' from H.mono (fun e w' h => ⟨h.1, h.2.bel12⟩)
  clear _h
  obtain ⟨k, ⟨ct, ca, cn, cc, ws⟩, b, n, t⟩ := x
  show Calls Try.prog 7 #[.agg #[.int .i64 k, .int .i64 ct, .slice ca cn cc, .string b.tn, .string b.ar, .string n.s, .int .i64 t]] w _
  obtain ⟨wA, hwA⟩ : ∃ W, W = w.alloc (.cells #[.int .i64 k, .int .i64 ct, .slice ca cn cc, .string b.tn, .string b.ar, .string n.s, .int .i64 t] 38) := ⟨_, rfl⟩
  obtain ⟨xb, hxb⟩ : ∃ y, y = w.heap.size := ⟨_, rfl⟩
  have HKA : Hid (Same w wA) := hid (by rw [hwA]; exact (Kept.refl _ w).alloc _)
  have BA : Hid (Blk wA xb #[.int .i64 k, .int .i64 ct, .slice ca cn cc, .string b.tn, .string b.ar, .string n.s, .int .i64 t] 38) := hid (by rw [hwA, hxb]; exact Blk.new w _ _)
  have hc : ∀ w', Same wA w' → w'.cell? ⟨xb, 1, none⟩ = some (.int .i64 ct) ∧ w'.cell? ⟨xb, 2, none⟩ = some (.slice ca cn cc) ∧ w'.cell? ⟨xb, 3, none⟩ = some (.string b.tn) ∧ w'.cell? ⟨xb, 4, none⟩ = some (.string b.ar) ∧ w'.cell? ⟨xb, 5, none⟩ = some (.string n.s) ∧ w'.cell? ⟨xb, 6, none⟩ = some (.int .i64 t) := fun w' hk => by
    have h1 := BA.out.kept hk (fun f => f)
    exact ⟨h1.cell 1, h1.cell 2, h1.cell 3, h1.cell 4, h1.cell 5, h1.cell 6⟩
  have HC := hid hc
  clear hc
  obtain ⟨c1, c2, c3, c4, c5, c6⟩ := HC.out wA (Kept.refl _ _)
  go_enter Try.func7, Try.ntmps7
  go_wp2_with fail
  rw [← hwA, ← hxb]
  clear hwA hxb
  refine (get_nil wA _ _ _ _).mono ?_
  rintro e w1 ⟨rfl, hk1⟩
  obtain ⟨c1, c2, c3, c4, c5, c6⟩ := HC.out w1 hk1
  have HK1 : Hid (Same wA w1) := hk1
  clear hk1
  go_upto_region 3 with fail
  go_region_held3 (fun w' => w'.cell? ⟨xb, 1, none⟩ = some (.int .i64 ct) ∧ w'.cell? ⟨xb, 2, none⟩ = some (.slice ca cn cc) ∧ w'.cell? ⟨xb, 3, none⟩ = some (.string b.tn) ∧ w'.cell? ⟨xb, 4, none⟩ = some (.string b.ar) ∧ w'.cell? ⟨xb, 5, none⟩ = some (.string n.s) ∧ w'.cell? ⟨xb, 6, none⟩ = some (.int .i64 t))
    (first
      | (go_split_ands; exact ⟨ha.cell (by assumption) (fun f => f), ha.cell (by assumption) (fun f => f), ha.cell (by assumption) (fun f => f), ha.cell (by assumption) (fun f => f), ha.cell (by assumption) (fun f => f), ha.cell (by assumption) (fun f => f)⟩)
      | (go_split_ands; exact ⟨hp.cell (by assumption) (fun f => f), hp.cell (by assumption) (fun f => f), hp.cell (by assumption) (fun f => f), hp.cell (by assumption) (fun f => f), hp.cell (by assumption) (fun f => f), hp.cell (by assumption) (fun f => f)⟩)
      | (go_split_ands; exact ⟨hb.cell (by assumption) (fun f => f), hb.cell (by assumption) (fun f => f), hb.cell (by assumption) (fun f => f), hb.cell (by assumption) (fun f => f), hb.cell (by assumption) (fun f => f), hb.cell (by assumption) (fun f => f)⟩)
      | (go_split_ands; exact ⟨hl.cell (by assumption) (fun f => f), hl.cell (by assumption) (fun f => f), hl.cell (by assumption) (fun f => f), hl.cell (by assumption) (fun f => f), hl.cell (by assumption) (fun f => f), hl.cell (by assumption) (fun f => f)⟩)
      | (go_split_ands; exact ⟨hla.cell (by assumption) (fun f => f), hla.cell (by assumption) (fun f => f), hla.cell (by assumption) (fun f => f), hla.cell (by assumption) (fun f => f), hla.cell (by assumption) (fun f => f), hla.cell (by assumption) (fun f => f)⟩)
      | (go_split_ands; exact ⟨hn.cell (by assumption) (fun f => f), hn.cell (by assumption) (fun f => f), hn.cell (by assumption) (fun f => f), hn.cell (by assumption) (fun f => f), hn.cell (by assumption) (fun f => f), hn.cell (by assumption) (fun f => f)⟩)
      | (go_split_ands; exact ⟨hpr.cell (by assumption) (fun f => f), hpr.cell (by assumption) (fun f => f), hpr.cell (by assumption) (fun f => f), hpr.cell (by assumption) (fun f => f), hpr.cell (by assumption) (fun f => f), hpr.cell (by assumption) (fun f => f)⟩)
      | (go_split_ands; exact ⟨hv.cell (by assumption) (fun f => f), hv.cell (by assumption) (fun f => f), hv.cell (by assumption) (fun f => f), hv.cell (by assumption) (fun f => f), hv.cell (by assumption) (fun f => f), hv.cell (by assumption) (fun f => f)⟩)
      | (go_split_ands; exact ⟨hd.cell (by assumption) (fun f => f), hd.cell (by assumption) (fun f => f), hd.cell (by assumption) (fun f => f), hd.cell (by assumption) (fun f => f), hd.cell (by assumption) (fun f => f), hd.cell (by assumption) (fun f => f)⟩)
      | go_keep)
    (first
      | (go_at_call 9; refine (cawake_any _).mono ?_; rintro e wa ⟨rfl, ha⟩)
      | (go_at_call 16; refine (cput_nil _ ct ca cn cc).mono ?_; rintro e wp ⟨rfl, hp⟩)
      | (go_at_call 22; refine (box_any _ b.tn b.ar n.s).mono ?_; rintro e wb ⟨rfl, hb⟩)
      | (go_at_call 21; refine (list_nil _ b.tn b.ar t).mono ?_; rintro e wl ⟨rfl, hl⟩)
      | (go_at_call 23; refine (last_nil _ b.tn b.ar n.s).mono ?_; rintro e wla ⟨rfl, hla⟩)
      | (go_at_call 13; refine (now_nilS _).mono ?_; rintro e wn ⟨rfl, hn⟩)
      | (go_at_call 19; refine (prune_nilS _ t).mono ?_; rintro e wpr ⟨rfl, hpr⟩)
      | (go_at_call 18; refine (versions_nilS _).mono ?_; rintro e wv ⟨rfl, hv⟩)
      | (go_at_call 15; refine (dump_nil _ t).mono ?_; rintro e wd ⟨rfl, hd⟩))
  go_wp2_with fail
  go_ret
  exact ⟨rfl, (((((((((HKA.out.trans HK1.out).trans (Kept.undrewC ha)).trans hp).trans hb).trans hl).trans hla).trans hn).trans hpr).trans hv).trans hd⟩

end Go.Proofs.Ythignkloecfcbaa
