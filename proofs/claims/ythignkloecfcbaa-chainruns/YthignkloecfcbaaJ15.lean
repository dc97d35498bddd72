/-
  Of the proof: parts ChT, ChU, ChNil.
-/
import Derived.Deep.Slices
import Derived.Deep.Strs
import Derived.Test.YthignkloecfcbaaJ12
import Derived.Test.YthignkloecfcbaaJ14

/-
  Layer 12's law: scripts, commits and keys that came in.
-/
namespace Go.Proofs.Ythignkloecfcbaa
open Go.ChangeShapes Go.WideShapes Go.ChangeAt Go.RowKit Go.Deep Go.Maps

/-- A call of a script. -/
structure Oc where
  k : Int
  cm : Cm
  b : Bx
  nm : Nm
  t : Int

instance : Inhabited Oc := ⟨⟨0, ⟨0, none, 0, 0, []⟩, bxA, nmA, 0⟩⟩

structure OcOk (W : World) (I : Nat → Prop) (x : Oc) : Prop where
  cm : CmOk W I x.cm
  kn : -9223372036854775808 ≤ x.k ∧ x.k ≤ 9223372036854775807
  num : -9223372036854775808 ≤ x.t ∧ x.t ≤ 9223372036854775807

theorem OcOk.kept {W W' : World} {I F : Nat → Prop} {x : Oc} (h : OcOk W I x) (hk : Kept F W W') (hF : ∀ k, I k → k < W.heap.size → ¬ F k) : OcOk W' I x := ⟨h.cm.kept hk hF, h.kn, h.num⟩

def ocC (x : Oc) : List Value := [.int .i64 x.k, .int .i64 x.cm.t, .slice x.cm.a x.cm.n x.cm.c, .string x.b.tn, .string x.b.ar, .string x.nm.s, .int .i64 x.t]

/-- A script. -/
def Ops12 (W : World) (I : Nat → Prop) (a : Option Addr) (len : Nat) (O : Nat → Oc) : Prop :=
  ∀ j, j < len → OcOk W I (O j) ∧ ∃ b o, a = some ⟨b, o, none⟩ ∧ I b ∧ b < W.heap.size ∧ ∀ i u, (ocC (O j))[i]? = some u → W.cell? ⟨b, o + j * 7 + i, none⟩ = some u

theorem Ops12.kept {W W' : World} {I F : Nat → Prop} {a : Option Addr} {len : Nat} {O : Nat → Oc} (h : Ops12 W I a len O) (hk : Kept F W W') (hF : ∀ k, I k → k < W.heap.size → ¬ F k) : Ops12 W' I a len O := fun j hj => by
  obtain ⟨h1, b, o, h2, h3, h4, h5⟩ := h j hj
  exact ⟨h1.kept hk hF, b, o, h2, h3, Nat.lt_of_lt_of_le h4 hk.size, fun i u e => hk.cell (h5 i u e) (hF b h3 h4)⟩

theorem Try.cells12o : Try.prog.cellsOf 38 = 7 := by kernel_rfl

section
variable {H : Type} {enc : TypeId × Value → H} {W : World} {fuel : Nat} {x : DataW H × List MemPlace}

theorem seven12 {w : World} {base : Nat} {x : Addr} {cs : List Value} (h : w.cells? base x 7 = some cs) : ∃ u0 u1 u2 u3 u4 u5 u6, cs = [u0, u1, u2, u3, u4, u5, u6] ∧ ∀ i u, cs[i]? = some u → w.cell? (x.add i) = some u := by
  obtain ⟨_, hl, hc⟩ := World.cells?_some h
  have h2 : ∀ i u, cs[i]? = some u → w.cell? (x.add i) = some u := fun i u e => by
    have hi : i < 7 := by rw [← hl]; exact (List.getElem?_eq_some_iff.1 e).1
    rw [← e]
    exact hc i hi
  match cs, hl with
  | [u0, u1, u2, u3, u4, u5, u6], _ => exact ⟨u0, u1, u2, u3, u4, u5, u6, rfl, h2⟩

theorem op_of {k0 k1 k2 k3 k4 k5 k6 : Value} (h : DataW.trod enc Try.prog W 0 (fun _ => true) true fuel 38 [k0, k1, k2, k3, k4, k5, k6] = some x) : ∃ o : Oc, [k0, k1, k2, k3, k4, k5, k6] = ocC o ∧ OcOk W (fun k => k < W.heap.size) o := by
  obtain ⟨xs, n', _, _, _, hlen, hf⟩ := DataW.trod_struct Try.underlying38 h
  match xs, hlen with
  | [y0, y1, y2, y3], _ =>
    have c1 := Try.cells12i
    have c2 := Try.cells12c
    have c3 := Try.cells12k
    have t0 : DataW.trod enc Try.prog W 0 (fun _ => true) true n' 3 [k0] = some y0 := by simpa [c1, c2, c3] using hf 0 _ rfl
    have t1 : DataW.trod enc Try.prog W 0 (fun _ => true) true n' 34 [k1, k2] = some y1 := by simpa [c1, c2, c3] using hf 1 _ rfl
    have t2 : DataW.trod enc Try.prog W 0 (fun _ => true) true n' 36 [k3, k4, k5] = some y2 := by simpa [c1, c2, c3] using hf 2 _ rfl
    have t3 : DataW.trod enc Try.prog W 0 (fun _ => true) true n' 3 [k6] = some y3 := by simpa [c1, c2, c3] using hf 3 _ rfl
    obtain ⟨q0, e0, _, w0⟩ := DataW.trod_int Try.underlying3 t0
    obtain ⟨q3, e3, _, w3⟩ := DataW.trod_int Try.underlying3 t3
    obtain ⟨c, e4, e5, hc⟩ := commit_of t1
    obtain ⟨b, n, e6, e7, e8⟩ := key_of t2
    simp only [List.cons.injEq, and_true] at e0 e3
    subst e0 e3 e4 e5 e6 e7 e8
    exact ⟨⟨q0, c, b, n, q3⟩, rfl, hc, wf12 w0, wf12 w3⟩

theorem ops12_of {a : Option Addr} {len cap : Nat} (h : DataW.trod enc Try.prog W 0 (fun _ => true) true fuel 22 [.slice a len cap] = some x) : ∃ O : Nat → Oc, Ops12 W (fun k => k < W.heap.size) a len O := by
  rcases open_slice Try.underlying22 h with ⟨hcs, _⟩ | ⟨x0, l, c, m, n, D, Pl, hcs, _, hl, _, hm, hxx, hx⟩
  · simp only [List.cons.injEq, Value.slice.injEq, and_true] at hcs
    obtain ⟨rfl, rfl, rfl⟩ := hcs
    exact ⟨fun _ => default, fun j hj => by omega⟩
  · simp only [List.cons.injEq, Value.slice.injEq, and_true] at hcs
    obtain ⟨rfl, rfl, rfl⟩ := hcs
    simp only [if_true] at hm
    subst hm
    rw [Try.cells12o] at hx
    refine choose_lt (α := Oc) (p := fun j y => OcOk W (fun k => k < W.heap.size) y ∧ ∃ b o, some x0 = some ⟨b, o, none⟩ ∧ b < W.heap.size ∧ b < W.heap.size ∧ ∀ i u, (ocC y)[i]? = some u → W.cell? ⟨b, o + j * 7 + i, none⟩ = some u) (fun j hj => ?_)
    obtain ⟨cs, hc, ht⟩ := hx j (by omega)
    obtain ⟨u0, u1, u2, u3, u4, u5, u6, rfl, hcell⟩ := seven12 hc
    obtain ⟨r, hr, hok⟩ := op_of ht
    rw [hr] at hcell
    have h00 := hcell 0 (.int .i64 r.k) rfl
    rw [add_zero12] at h00
    obtain ⟨b, o, rfl⟩ : ∃ b o, x0 = ⟨b, o, none⟩ := by
      obtain ⟨cs0, hc0, _⟩ := hx 0 (by omega)
      obtain ⟨v0, v1, v2, v3, v4, v5, v6, rfl, hcell0⟩ := seven12 hc0
      have h01 := hcell0 0 v0 rfl
      rw [Nat.zero_mul, add_zero12, add_zero12] at h01
      exact ⟨x0.block, x0.off, spot_none h01⟩
    rw [addAt] at h00
    refine ⟨r, hok, b, o, rfl, World.block_lt_of_cell? W _ h00, World.block_lt_of_cell? W _ h00, fun i u e => ?_⟩
    have h9 := hcell i u e
    rw [addAt, addAt] at h9
    exact h9

end

end Go.Proofs.Ythignkloecfcbaa

/-
  Layer 12's law: arguments that are structs.
-/
namespace Go.Proofs.Ythignkloecfcbaa
open Go.ChangeShapes Go.WideShapes Go.ChangeAt Go.RowKit Go.Deep Go.Maps

section
variable {H : Type} {enc : TypeId × Value → H} {W : World} {fuel : Nat} {x : DataW H × List MemPlace} {cs : Array Value}

theorem op_arg (hs : cs.size = Try.prog.cellsOf 38) (h : DataW.trod enc Try.prog W 0 (fun _ => true) true fuel 38 (Value.agg cs).cells.toList = some x) : ∃ o : Oc, cs = (ocC o).toArray ∧ OcOk W (fun k => k < W.heap.size) o := by
  rw [Try.cells12o] at hs
  obtain ⟨l⟩ := cs
  simp only [List.size_toArray] at hs
  rcases l with _ | ⟨a, _ | ⟨b, _ | ⟨c, _ | ⟨d, _ | ⟨e, _ | ⟨f, _ | ⟨g, _ | ⟨q, r⟩⟩⟩⟩⟩⟩⟩⟩
  all_goals try (simp at hs; done)
  obtain ⟨o, h1, h2⟩ := op_of (k0 := a) (k1 := b) (k2 := c) (k3 := d) (k4 := e) (k5 := f) (k6 := g) h
  exact ⟨o, by rw [h1], h2⟩

end

end Go.Proofs.Ythignkloecfcbaa

/-
  Layer 12's law ChainNil: no store answers so.
-/
namespace Go.Proofs.Ythignkloecfcbaa
open Go.RowKit Go.Maps Go.Sort

set_option maxHeartbeats 400000 in
theorem list_nil (w : World) (a b : ByteArray) (t : Int) : Calls Try.prog 21 #[.pointer none, .agg #[.string a, .string b], .int .i64 t] w fun e w' => e = .returned (.slice none 0 0) ∧ Same w w' := by
  go_enter Try.func21, Try.ntmps21
  go_wp2_with fail
  go_ret
  exact ⟨rfl, (Kept.refl _ w).alloc _⟩

set_option maxHeartbeats 400000 in
theorem dump_nil (w : World) (t : Int) : Calls Try.prog 15 #[.pointer none, .int .i64 t] w fun e w' => e = .returned (.slice none 0 0) ∧ Same w w' := by
  go_enter Try.func15, Try.ntmps15
  go_wp2_with fail
  go_ret
  exact ⟨rfl, Kept.refl _ w⟩

set_option maxHeartbeats 400000 in
theorem box_any (w : World) (a b c : ByteArray) :
    Calls Try.prog 22 #[.agg #[.string a, .string b, .string c]] w fun e w' => e = .returned (.agg #[.string a, .string b]) ∧ Same w w' := by
  go_enter Try.func22, Try.ntmps22
  go_wp2_with fail
  refine bodyPost_ret (v := .agg #[.string a, .string b]) (by rw [results_cellC rfl]; simp [go_sem]) rfl ?_
  exact ⟨rfl, ((Kept.refl _ w).alloc _).alloc _⟩

theorem now_nilS (w : World) : Calls Try.prog 13 #[.pointer none] w fun e w' => e = .returned (.int .i64 0) ∧ Same w w' := (now_nil w).mono (fun _ _ h => ⟨h.1, by rw [h.2]; exact Kept.refl _ _⟩)
theorem prune_nilS (w : World) (t : Int) : Calls Try.prog 19 #[.pointer none, .int .i64 t] w fun e w' => e = .returned (.int .i64 0) ∧ Same w w' := (prune_nil w t).mono (fun _ _ h => ⟨h.1, by rw [h.2]; exact Kept.refl _ _⟩)
theorem versions_nilS (w : World) : Calls Try.prog 18 #[.pointer none] w fun e w' => e = .returned (.int .i64 0) ∧ Same w w' := (versions_nil w).mono (fun _ _ h => ⟨h.1, by rw [h.2]; exact Kept.refl _ _⟩)

theorem Same.bel12 {w w' : World} (h : Same w w') : Below w.heap.size w w' := h.below (Nat.le_refl _) (fun _ _ f => f)

set_option maxRecDepth 100000 in
set_option maxHeartbeats 2000000 in
theorem chainNil_all (x : Oc) (w : World) (_h : OcOk w (fun k => k < w.heap.size) x) :
    Calls Try.prog 7 #[.agg (ocC x).toArray] w fun e w' => e = .returned (.bool true) ∧ Below w.heap.size w w' := by
  suffices H : Calls Try.prog 7 #[.agg (ocC x).toArray] w fun e w' => e = .returned (.bool true) ∧ Same w w' from H.mono (fun e w' h => ⟨h.1, h.2.bel12⟩)
  clear _h
  obtain ⟨k, ⟨ct, ca, cn, cc, ws⟩, b, n, t⟩ := x
  show Calls Try.prog 7 #[.agg #[.int .i64 k, .int .i64 ct, .slice ca cn cc, .string b.tn, .string b.ar, .string n.s, .int .i64 t]] w _
  obtain ⟨wA, hwA⟩ : ∃ W, W = w.alloc (.cells #[.int .i64 k, .int .i64 ct, .slice ca cn cc, .string b.tn, .string b.ar, .string n.s, .int .i64 t] 38) := ⟨_, rfl⟩
  obtain ⟨xb, hxb⟩ : ∃ y, y = w.heap.size := ⟨_, rfl⟩
  have HKA : Hid (Same w wA) := hid (by rw [hwA]; exact (Kept.refl _ w).alloc _)
  have BA : Hid (Blk wA xb #[.int .i64 k, .int .i64 ct, .slice ca cn cc, .string b.tn, .string b.ar, .string n.s, .int .i64 t] 38) := hid (by rw [hwA, hxb]; exact Blk.new w _ _)
  have hc : ∀ w', Same wA w' → w'.cell? ⟨xb, 1, none⟩ = some (.int .i64 ct) ∧ w'.cell? ⟨xb, 2, none⟩ = some (.slice ca cn cc) ∧ w'.cell? ⟨xb, 3, none⟩ = some (.string b.tn) ∧ w'.cell? ⟨xb, 4, none⟩ = some (.string b.ar) ∧ w'.cell? ⟨xb, 5, none⟩ = some (.string n.s) ∧ w'.cell? ⟨xb, 6, none⟩ = some (.int .i64 t) := fun w' hk => by
    have h1 := BA.out.kept hk (fun f => f)
    exact ⟨h1.cell 1, h1.cell 2, h1.cell 3, h1.cell 4, h1.cell 5, h1.cell 6⟩
  have HC := hid hc
  clear hc
  obtain ⟨c1, c2, c3, c4, c5, c6⟩ := HC.out wA (Kept.refl _ _)
  go_enter Try.func7, Try.ntmps7
  go_wp2_with fail
  rw [← hwA, ← hxb]
  clear hwA hxb
  refine (get_nil wA _ _ _ _).mono ?_
  rintro e w1 ⟨rfl, hk1⟩
  obtain ⟨c1, c2, c3, c4, c5, c6⟩ := HC.out w1 hk1
  have HK1 : Hid (Same wA w1) := hk1
  clear hk1
  go_upto_region 3 with fail
  go_region_held3 (fun w' => w'.cell? ⟨xb, 1, none⟩ = some (.int .i64 ct) ∧ w'.cell? ⟨xb, 2, none⟩ = some (.slice ca cn cc) ∧ w'.cell? ⟨xb, 3, none⟩ = some (.string b.tn) ∧ w'.cell? ⟨xb, 4, none⟩ = some (.string b.ar) ∧ w'.cell? ⟨xb, 5, none⟩ = some (.string n.s) ∧ w'.cell? ⟨xb, 6, none⟩ = some (.int .i64 t))
    (first
      | (go_split_ands; exact ⟨ha.cell (by assumption) (fun f => f), ha.cell (by assumption) (fun f => f), ha.cell (by assumption) (fun f => f), ha.cell (by assumption) (fun f => f), ha.cell (by assumption) (fun f => f), ha.cell (by assumption) (fun f => f)⟩)
      | (go_split_ands; exact ⟨hp.cell (by assumption) (fun f => f), hp.cell (by assumption) (fun f => f), hp.cell (by assumption) (fun f => f), hp.cell (by assumption) (fun f => f), hp.cell (by assumption) (fun f => f), hp.cell (by assumption) (fun f => f)⟩)
      | (go_split_ands; exact ⟨hb.cell (by assumption) (fun f => f), hb.cell (by assumption) (fun f => f), hb.cell (by assumption) (fun f => f), hb.cell (by assumption) (fun f => f), hb.cell (by assumption) (fun f => f), hb.cell (by assumption) (fun f => f)⟩)
      | (go_split_ands; exact ⟨hl.cell (by assumption) (fun f => f), hl.cell (by assumption) (fun f => f), hl.cell (by assumption) (fun f => f), hl.cell (by assumption) (fun f => f), hl.cell (by assumption) (fun f => f), hl.cell (by assumption) (fun f => f)⟩)
      | (go_split_ands; exact ⟨hla.cell (by assumption) (fun f => f), hla.cell (by assumption) (fun f => f), hla.cell (by assumption) (fun f => f), hla.cell (by assumption) (fun f => f), hla.cell (by assumption) (fun f => f), hla.cell (by assumption) (fun f => f)⟩)
      | (go_split_ands; exact ⟨hn.cell (by assumption) (fun f => f), hn.cell (by assumption) (fun f => f), hn.cell (by assumption) (fun f => f), hn.cell (by assumption) (fun f => f), hn.cell (by assumption) (fun f => f), hn.cell (by assumption) (fun f => f)⟩)
      | (go_split_ands; exact ⟨hpr.cell (by assumption) (fun f => f), hpr.cell (by assumption) (fun f => f), hpr.cell (by assumption) (fun f => f), hpr.cell (by assumption) (fun f => f), hpr.cell (by assumption) (fun f => f), hpr.cell (by assumption) (fun f => f)⟩)
      | (go_split_ands; exact ⟨hv.cell (by assumption) (fun f => f), hv.cell (by assumption) (fun f => f), hv.cell (by assumption) (fun f => f), hv.cell (by assumption) (fun f => f), hv.cell (by assumption) (fun f => f), hv.cell (by assumption) (fun f => f)⟩)
      | (go_split_ands; exact ⟨hd.cell (by assumption) (fun f => f), hd.cell (by assumption) (fun f => f), hd.cell (by assumption) (fun f => f), hd.cell (by assumption) (fun f => f), hd.cell (by assumption) (fun f => f), hd.cell (by assumption) (fun f => f)⟩)
      | go_keep)
    (first
      | (go_at_call 9; refine (cawake_any _).mono ?_; rintro e wa ⟨rfl, ha⟩)
      | (go_at_call 16; refine (cput_nil _ ct ca cn cc).mono ?_; rintro e wp ⟨rfl, hp⟩)
      | (go_at_call 22; refine (box_any _ b.tn b.ar n.s).mono ?_; rintro e wb ⟨rfl, hb⟩)
      | (go_at_call 21; refine (list_nil _ b.tn b.ar t).mono ?_; rintro e wl ⟨rfl, hl⟩)
      | (go_at_call 23; refine (last_nil _ b.tn b.ar n.s).mono ?_; rintro e wla ⟨rfl, hla⟩)
      | (go_at_call 13; refine (now_nilS _).mono ?_; rintro e wn ⟨rfl, hn⟩)
      | (go_at_call 19; refine (prune_nilS _ t).mono ?_; rintro e wpr ⟨rfl, hpr⟩)
      | (go_at_call 18; refine (versions_nilS _).mono ?_; rintro e wv ⟨rfl, hv⟩)
      | (go_at_call 15; refine (dump_nil _ t).mono ?_; rintro e wd ⟨rfl, hd⟩))
  go_wp2_with fail
  go_ret
  exact ⟨rfl, (((((((((HKA.out.trans HK1.out).trans (Kept.undrewC ha)).trans hp).trans hb).trans hl).trans hla).trans hn).trans hpr).trans hv).trans hd⟩

end Go.Proofs.Ythignkloecfcbaa
