/-
  Layer 13's law ValidBox: who lists an archive clashes with what is written there, who reads an entry with what writes it.
-/
import Derived.Test.YtlfibbghkdbomaaVaNil
namespace Go.Proofs.Ytlfibbghkdbomaa
open Go.RowKit Go.Maps Go.Sort Go.Shelf

theorem box_any13 (t : Int) (b : Bx) (ws : List Wr) (h : t < t + 1) : claM (lsM (mv0 t) b) (t + 1) ws = ws.any (fun r => decide (b = r.b)) := by
  unfold claM
  rw [show (lsM (mv0 t) b).t = t from rfl, decide_eq_true h, Bool.true_and]
  refine congrArg (fun f => List.any ws f) (funext fun r => ?_)
  show (false || if b = r.b then true else false) = _
  by_cases e : b = r.b
  · rw [if_pos e, decide_eq_true e]; rfl
  · rw [if_neg e, decide_eq_false e]; rfl

theorem key_any13 (t : Int) (k : Ke) (ws : List Wr) (h : t < t + 1) : claM (rdM (mv0 t) k) (t + 1) ws = ws.any (fun r => decide (k = keO r)) := by
  unfold claM
  rw [show (rdM (mv0 t) k).t = t from rfl, decide_eq_true h, Bool.true_and]
  refine congrArg (fun f => List.any ws f) (funext fun r => ?_)
  show ((if k = keO r then true else false) || false) = _
  by_cases e : k = keO r
  · rw [if_pos e, decide_eq_true e]; rfl
  · rw [if_neg e, decide_eq_false e]; rfl

/-- A row of two writes, of one. -/
theorem srcV_two {w : World} {x : Nat} {r q : Wr} (h : Blk w x (wrE r ++ wrE q).toArray 51) : SrcC 5 wrE w (fun _ => True) (.slice (some ⟨x, 0, none⟩) 2 2) [r, q] := by
  refine ⟨_, _, rfl, Nat.le_refl _, fun _ => ⟨x, 0, rfl, trivial, fun j hj i hi => ?_⟩⟩
  have hf := flat_get wrE_ok [r, q] j i hj hi
  rw [h.cell, ← hf]
  simp

theorem streq13 (s t : ByteArray) : (s.toList == t.toList) = decide (s = t) := by
  by_cases h : s = t
  · rw [h]; simp
  · have h2 : ¬ s.toList = t.toList := fun e => h (by
      rw [Lib.toList_data, Lib.toList_data] at e
      exact bytes_inj e)
    rw [decide_eq_false h]
    simp [h2]

def wOf (k : Ke) : Wr := ⟨k.1, k.2, false, ⟨#[]⟩, by decide⟩

set_option maxRecDepth 100000 in
set_option maxHeartbeats 4000000 in
theorem validBox_all (t : Int) (b : Bx) (n : Nm) (b' : Bx) (n' : Nm) (w : World) (ht : (Lit.int .i64 t).wf = true) :
    Calls Try.prog 5 #[.int .i64 t, .agg (kyC b n).toArray, .agg (kyC b' n').toArray] w fun e w' => e = .returned (.bool true) ∧ Below w.heap.size w w' := by
  suffices H : Calls Try.prog 5 #[.int .i64 t, .agg (kyC b n).toArray, .agg (kyC b' n').toArray] w fun e w' => e = .returned (.bool true) ∧ Same w w' from H.mono (fun e w' h => ⟨h.1, h.2.bel13⟩)
  have hnum := wf12 ht
  clear ht
  show Calls Try.prog 5 #[.int .i64 t, .agg #[.string b.tn, .string b.ar, .string n.s], .agg #[.string b'.tn, .string b'.ar, .string n'.s]] w _
  by_cases hbig : 4611686018427387904 ≤ t
  · have hd : decide (4611686018427387904 ≤ t) = true := decide_eq_true hbig
    clear hbig hnum
    go_enter Try.func5, Try.ntmps5
    go_wp2_with fail
    go_ret
    exact ⟨rfl, ((Kept.refl _ w).alloc _).alloc _⟩
  · have hd : decide (4611686018427387904 ≤ t) = false := decide_eq_false hbig
    obtain ⟨t1, ht1⟩ : ∃ x, x = t + 1 := ⟨_, rfl⟩
    have htw : IntKind.i64.wrap (t + 1) = t1 := by rw [IntKind.wrap_i64, ht1]; omega
    have HT : Hid (t1 = t + 1 ∧ t < t + 1 ∧ -9223372036854775808 ≤ t1 ∧ t1 ≤ 9223372036854775807) := hid ⟨ht1, by omega, by omega, by omega⟩
    clear hbig hnum ht1
    obtain ⟨wA, hwA⟩ : ∃ W, W = (w.alloc (.cells #[.string b.tn, .string b.ar, .string n.s] 24)).alloc (.cells #[.string b'.tn, .string b'.ar, .string n'.s] 24) := ⟨_, rfl⟩
    obtain ⟨xb, hxb⟩ : ∃ y, y = w.heap.size := ⟨_, rfl⟩
    have HKA : Hid (Same w wA) := hid (by rw [hwA]; exact ((Kept.refl _ w).alloc _).alloc _)
    have B1 : Blk wA xb #[.string b.tn, .string b.ar, .string n.s] 24 := by rw [hwA, hxb]; exact (Blk.new w _ _).kept (F := fun _ => False) ((Kept.refl _ _).alloc _) (fun f => f)
    have B2 : Blk wA (xb + 1) #[.string b'.tn, .string b'.ar, .string n'.s] 24 := by
      rw [hwA, hxb]
      have := Blk.new (w.alloc (.cells #[.string b.tn, .string b.ar, .string n.s] 24)) #[.string b'.tn, .string b'.ar, .string n'.s] 24
      rwa [World.size_alloc] at this
    have HC : Hid (∀ w', Same wA w' → w'.cell? ⟨xb, 0, none⟩ = some (.string b.tn) ∧ w'.cell? ⟨xb, 1, none⟩ = some (.string b.ar) ∧ w'.cell? ⟨xb, 2, none⟩ = some (.string n.s) ∧ w'.cell? ⟨xb + 1, 0, none⟩ = some (.string b'.tn) ∧ w'.cell? ⟨xb + 1, 1, none⟩ = some (.string b'.ar) ∧ w'.cell? ⟨xb + 1, 2, none⟩ = some (.string n'.s)) := hid (fun w' hk => by
      have h1 := B1.kept hk (fun f => f)
      have h2 := B2.kept hk (fun f => f)
      exact ⟨h1.cell 0, h1.cell 1, h1.cell 2, h2.cell 0, h2.cell 1, h2.cell 2⟩)
    clear B1 B2
    go_enter Try.func5, Try.ntmps5
    go_wp2_with fail
    rw [← hwA, ← hxb]
    clear hwA hxb
    refine (xvnew wA t).mono ?_
    rintro e w1 ⟨p, J, rfl, hx1, hJ1, hk1⟩
    have H1 : Hid (Vx 0 w1 p J (mv0 t) ∧ (∀ k, J k → wA.heap.size ≤ k) ∧ Same wA w1) := hid ⟨hx1, hJ1, hk1⟩
    clear hx1 hJ1 hk1
    go_wp2_with fail
    refine (xvnew w1 t).mono ?_
    rintro e w2 ⟨p', J', rfl, hx2, hJ2, hk2⟩
    have H2 : Hid (Vx 0 w2 p J (mv0 t) ∧ Vx 0 w2 p' J' (mv0 t) ∧ (∀ k, J k → wA.heap.size ≤ k) ∧ (∀ k, J' k → wA.heap.size ≤ k) ∧ (∀ k, J k → ¬ J' k) ∧ Same wA w2) := hid ⟨H1.out.1.same hk2, hx2, H1.out.2.1, fun k hk => Nat.le_trans H1.out.2.2.size (hJ2 k hk), fun k h1 h2 => by have := H1.out.1.lt k h1; have := hJ2 k h2; omega, H1.out.2.2.trans hk2⟩
    clear hx2 hJ2 hk2 H1
    obtain ⟨c0, c1, c2, d0, d1, d2⟩ := HC.out w2 H2.out.2.2.2.2.2
    go_wp2_with fail
    refine (xvlist H2.out.1 b (by decide)).mono ?_
    rintro e w3 ⟨rfl, hx3, hk3⟩
    have H3 : Hid (Vx 1 w3 p J (lsM (mv0 t) b) ∧ Vx 0 w3 p' J' (mv0 t) ∧ (∀ k, J k → ¬ J' k) ∧ (∀ k, J' k → wA.heap.size ≤ k) ∧ Same wA w3) := hid ⟨hx3, H2.out.2.1.kept hk3 (fun k h1 h2 => H2.out.2.2.2.2.1 k h2 h1), H2.out.2.2.2.2.1, H2.out.2.2.2.1, Kept.trans H2.out.2.2.2.2.2 hk3 (fun _ _ f => f) (fun k hlt e => by have := H2.out.2.2.1 k e; omega)⟩
    clear hx3 hk3 H2 c0 c1 c2 d0 d1 d2
    obtain ⟨c0, c1, c2, d0, d1, d2⟩ := HC.out w3 H3.out.2.2.2.2
    go_wp2_with fail
    refine (xvread H3.out.2.1 (b, n) (by decide)).mono ?_
    rintro e w4 ⟨rfl, hx4, hk4⟩
    have H4 : Hid (Vx 1 w4 p J (lsM (mv0 t) b) ∧ Vx 1 w4 p' J' (rdM (mv0 t) (b, n)) ∧ Same wA w4) := hid ⟨H3.out.1.kept hk4 (fun k h1 h2 => H3.out.2.2.1 k h1 h2), hx4, Kept.trans H3.out.2.2.2.2 hk4 (fun _ _ f => f) (fun k hlt e => by have := H3.out.2.2.2.1 k e; omega)⟩
    clear hx4 hk4 H3 c0 c1 c2 d0 d1 d2
    obtain ⟨c0, c1, c2, d0, d1, d2⟩ := HC.out w4 H4.out.2.2
    go_upto_region 10 with fail
    obtain ⟨w5, hw5⟩ : ∃ W, W = w4.alloc (.cells #[.string b'.tn, .string b'.ar, .string n'.s, .bool false, .string ⟨#[]⟩, .string b.tn, .string b.ar, .string n.s, .bool false, .string ⟨#[]⟩] 51) := ⟨_, rfl⟩
    obtain ⟨g1, hg1⟩ : ∃ x, x = w4.heap.size := ⟨_, rfl⟩
    have HS5 : Hid (Same w4 w5 ∧ w5.heap.size = g1 + 1 ∧ SrcC 5 wrE w5 (fun _ => True) (.slice (some ⟨g1, 0, none⟩) 2 2) [wOf (b', n'), wOf (b, n)]) := hid ⟨by rw [hw5]; exact (Kept.refl _ _).alloc _, by rw [hw5, hg1]; simp, srcV_two (by rw [hw5, hg1]; exact Blk.new w4 _ _)⟩
    rw [← hw5, ← hg1]
    clear hw5 hg1
    obtain ⟨w6, hw6⟩ : ∃ W, W = w5.alloc (.cells #[.int .i64 t1, .slice (some ⟨g1, 0, none⟩) 2 2] 45) := ⟨_, rfl⟩
    have hk6 : Same w5 w6 := by rw [hw6]; exact (Kept.refl _ _).alloc _
    have HS6 : Hid (Same w4 w6 ∧ w6.heap.size = g1 + 1 + 1 ∧ SrcC 5 wrE w6 (fun _ => True) (.slice (some ⟨g1, 0, none⟩) 2 2) [wOf (b', n'), wOf (b, n)] ∧ Blk w6 (g1 + 1) #[.int .i64 t1, .slice (some ⟨g1, 0, none⟩) 2 2] 45) := hid ⟨HS5.out.1.trans hk6, by rw [hw6, ← HS5.out.2.1]; simp, HS5.out.2.2.kept wrE_ok hk6 (fun _ _ _ f => f), by rw [hw6, ← HS5.out.2.1]; exact Blk.new w5 _ _⟩
    rw [← hw6]
    clear hw6 hk6 HS5 c0 c1 c2 d0 d1 d2
    obtain ⟨c0, c1, c2, d0, d1, d2⟩ := HC.out w6 (H4.out.2.2.trans HS6.out.1)
    go_upto_region 11 with fail
    obtain ⟨w7, hw7⟩ : ∃ W, W = w6.alloc (.cells #[.string b'.tn, .string b'.ar, .string n'.s, .bool false, .string ⟨#[]⟩] 51) := ⟨_, rfl⟩
    obtain ⟨g2, hg2⟩ : ∃ x, x = w6.heap.size := ⟨_, rfl⟩
    have HS7 : Hid (Same w6 w7 ∧ w7.heap.size = g2 + 1 ∧ SrcC 5 wrE w7 (fun _ => True) (.slice (some ⟨g2, 0, none⟩) 1 1) [wOf (b', n')]) := hid ⟨by rw [hw7]; exact (Kept.refl _ _).alloc _, by rw [hw7, hg2]; simp, srcV_one (by rw [hw7, hg2]; exact Blk.new w6 _ _)⟩
    rw [← hw7, ← hg2]
    clear hw7 hg2
    obtain ⟨w8, hw8⟩ : ∃ W, W = w7.alloc (.cells #[.int .i64 t1, .slice (some ⟨g2, 0, none⟩) 1 1] 45) := ⟨_, rfl⟩
    have hk8 : Same w7 w8 := by rw [hw8]; exact (Kept.refl _ _).alloc _
    have hb8 : Blk w8 (g2 + 1) #[.int .i64 t1, .slice (some ⟨g2, 0, none⟩) 1 1] 45 := by rw [hw8, ← HS7.out.2.1]; exact Blk.new w7 _ _
    have hk68 := HS7.out.1.trans hk8
    have HQ : Hid (∀ w', Same w8 w' → Calls Try.prog 13 #[.pointer (some ⟨p, 0, none⟩), .agg #[.int .i64 t1, .slice (some ⟨g1, 0, none⟩) 2 2]] w' (fun e w2 => e = .returned (.bool true) ∧ Same w' w2) ∧ Calls Try.prog 13 #[.pointer (some ⟨p', 0, none⟩), .agg #[.int .i64 t1, .slice (some ⟨g1, 0, none⟩) 2 2]] w' (fun e w2 => e = .returned (.bool true) ∧ Same w' w2) ∧ Calls Try.prog 13 #[.pointer (some ⟨p, 0, none⟩), .agg #[.int .i64 t1, .slice (some ⟨g2, 0, none⟩) 1 1]] w' (fun e w2 => e = .returned (.bool (decide (b = b'))) ∧ Same w' w2) ∧ Calls Try.prog 13 #[.pointer (some ⟨p', 0, none⟩), .agg #[.int .i64 t1, .slice (some ⟨g2, 0, none⟩) 1 1]] w' (fun e w2 => e = .returned (.bool (decide ((b, n) = (b', n')))) ∧ Same w' w2)) := hid (fun w' hk => by
      have hk4 : Same w4 w' := (HS6.out.1.trans hk68).trans hk
      have h1 := H4.out.1.same hk4
      have h2 := H4.out.2.1.same hk4
      have hsc := HS6.out.2.2.1.kept wrE_ok (hk68.trans hk) (fun _ _ _ f => f)
      have hsd := HS7.out.2.2.kept wrE_ok (hk8.trans hk) (fun _ _ _ f => f)
      refine ⟨?_, ?_, ?_, ?_⟩
      · have h9 := xvclash h1 t1 _ _ _ hsc (by simp)
        rw [HT.out.1, box_any13 t b _ HT.out.2.1] at h9
        rw [HT.out.1]
        have e9 : ([wOf (b', n'), wOf (b, n)].any fun r => decide (b = r.b)) = true := by simp [wOf]
        rw [e9] at h9
        exact h9
      · have h9 := xvclash h2 t1 _ _ _ hsc (by simp)
        rw [HT.out.1, key_any13 t (b, n) _ HT.out.2.1] at h9
        rw [HT.out.1]
        have e9 : ([wOf (b', n'), wOf (b, n)].any fun r => decide ((b, n) = keO r)) = true := by simp [wOf, keO]
        rw [e9] at h9
        exact h9
      · have h9 := xvclash h1 t1 _ _ _ hsd (by simp)
        rw [HT.out.1, box_any13 t b _ HT.out.2.1] at h9
        rw [HT.out.1]
        have e9 : ([wOf (b', n')].any fun r => decide (b = r.b)) = decide (b = b') := by simp [wOf]
        rw [e9] at h9
        exact h9
      · have h9 := xvclash h2 t1 _ _ _ hsd (by simp)
        rw [HT.out.1, key_any13 t (b, n) _ HT.out.2.1] at h9
        rw [HT.out.1]
        have e9 : ([wOf (b', n')].any fun r => decide ((b, n) = keO r)) = decide ((b, n) = (b', n')) := by simp [wOf, keO]
        rw [e9] at h9
        exact h9)
    have HK8 : Hid (Same w w8) := hid (((HKA.out.trans H4.out.2.2).trans HS6.out.1).trans hk68)
    obtain ⟨al, hal⟩ : ∃ x, x = decide (b = b') := ⟨_, rfl⟩
    obtain ⟨kk, hkk⟩ : ∃ x, x = decide ((b, n) = (b', n')) := ⟨_, rfl⟩
    rw [← hal, ← hkk] at HQ
    have s1 := streq13 b'.tn b.tn
    have s2 := streq13 b'.ar b.ar
    have s3 := streq13 n'.s n.s
    have hb6 := HS6.out.2.2.2.kept hk68 (fun f => f)
    rw [← hw8]
    clear c0 c1 c2 d0 d1 d2
    obtain ⟨c0, c1, c2, d0, d1, d2⟩ := HC.out w8 ((H4.out.2.2.trans HS6.out.1).trans hk68)
    have m0 : w8.cell? ⟨g1 + 1, 0, none⟩ = some (.int .i64 t1) := hb6.cell 0
    have m1 : w8.cell? ⟨g1 + 1, 1, none⟩ = some (.slice (some ⟨g1, 0, none⟩) 2 2) := hb6.cell 1
    have m2 : w8.cell? ⟨g2 + 1, 0, none⟩ = some (.int .i64 t1) := hb8.cell 0
    have m3 : w8.cell? ⟨g2 + 1, 1, none⟩ = some (.slice (some ⟨g2, 0, none⟩) 1 1) := hb8.cell 1
    clear hw8 hk8 hb8 hk68 HS7 HS6 H4 hb6 HC HKA HT htw
    obtain ⟨q1, e1⟩ : ∃ x, x = decide (b'.tn = b.tn) := ⟨_, rfl⟩
    obtain ⟨q2, e2⟩ : ∃ x, x = decide (b'.ar = b.ar) := ⟨_, rfl⟩
    obtain ⟨q3, e3⟩ : ∃ x, x = decide (n'.s = n.s) := ⟨_, rfl⟩
    have HAL : al = (q1 && q2) := by
      rw [hal, e1, e2, ← Bool.decide_and]
      exact decide_eq_decide.2 ⟨fun e => by rw [e]; exact ⟨rfl, rfl⟩, fun e => Bx.ext' e.1.symm e.2.symm⟩
    have HKK0 : kk = (q1 && q2 && q3) := by
      rw [hkk, e1, e2, e3, ← Bool.decide_and, ← Bool.decide_and]
      exact decide_eq_decide.2 ⟨fun e => by cases e; exact ⟨⟨rfl, rfl⟩, rfl⟩, fun e => Prod.ext (Bx.ext' e.1.1.symm e.1.2.symm) (Nm.ext' e.2.symm)⟩
    rw [← e1] at s1
    rw [← e2] at s2
    rw [← e3] at s3
    rw [HAL, HKK0] at HQ
    clear e1 e2 e3 hal hkk HAL HKK0
    have hcase : q1 = false ∨ (q1 = true ∧ q2 = false) ∨ (q1 = true ∧ q2 = true ∧ q3 = false) ∨ (q1 = true ∧ q2 = true ∧ q3 = true) := by cases q1 <;> cases q2 <;> cases q3 <;> simp
    rcases hcase with rfl | ⟨rfl, rfl⟩ | ⟨rfl, rfl, rfl⟩ | ⟨rfl, rfl, rfl⟩
    all_goals simp only [Bool.false_and, Bool.true_and, Bool.and_false] at HQ
    all_goals go_upto_region 12 with fail
    all_goals go_region_held3 (fun w' => w'.cell? ⟨xb, 0, none⟩ = some (.string b.tn) ∧ w'.cell? ⟨xb, 1, none⟩ = some (.string b.ar) ∧ w'.cell? ⟨xb, 2, none⟩ = some (.string n.s) ∧ w'.cell? ⟨xb + 1, 0, none⟩ = some (.string b'.tn) ∧ w'.cell? ⟨xb + 1, 1, none⟩ = some (.string b'.ar) ∧ w'.cell? ⟨xb + 1, 2, none⟩ = some (.string n'.s) ∧ w'.cell? ⟨g1 + 1, 0, none⟩ = some (.int .i64 t1) ∧ w'.cell? ⟨g1 + 1, 1, none⟩ = some (.slice (some ⟨g1, 0, none⟩) 2 2) ∧ w'.cell? ⟨g2 + 1, 0, none⟩ = some (.int .i64 t1) ∧ w'.cell? ⟨g2 + 1, 1, none⟩ = some (.slice (some ⟨g2, 0, none⟩) 1 1))
      (first
        | (go_split_ands; exact ⟨hkc.cell (by assumption) (fun f => f), hkc.cell (by assumption) (fun f => f), hkc.cell (by assumption) (fun f => f), hkc.cell (by assumption) (fun f => f), hkc.cell (by assumption) (fun f => f), hkc.cell (by assumption) (fun f => f), hkc.cell (by assumption) (fun f => f), hkc.cell (by assumption) (fun f => f), hkc.cell (by assumption) (fun f => f), hkc.cell (by assumption) (fun f => f)⟩)
        | go_keep)
      (first
        | (go_at_call 10; refine (vawake_any _).mono ?_; rintro e wk ⟨rfl, hkc⟩; have HKK : Hid (Same w8 wk) := hid (by first | exact HKK.out.trans hkc | exact HKK.out.trans (Kept.undrewV hkc) | exact Kept.undrewV hkc | exact hkc))
        | (go_at_call 13; with_reducible refine ((HQ.out _ (by first | exact HKK.out | exact HKK.out.drew | exact (Kept.refl _ _).drew | exact Kept.refl _ _)).1).mono ?_; rintro e wk ⟨rfl, hkc⟩; have HKK : Hid (Same w8 wk) := hid (by first | exact HKK.out.trans hkc | exact HKK.out.trans (Kept.undrewV hkc) | exact Kept.undrewV hkc | exact hkc))
        | (go_at_call 13; with_reducible refine ((HQ.out _ (by first | exact HKK.out | exact HKK.out.drew | exact (Kept.refl _ _).drew | exact Kept.refl _ _)).2.1).mono ?_; rintro e wk ⟨rfl, hkc⟩; have HKK : Hid (Same w8 wk) := hid (by first | exact HKK.out.trans hkc | exact HKK.out.trans (Kept.undrewV hkc) | exact Kept.undrewV hkc | exact hkc))
        | (go_at_call 13; with_reducible refine ((HQ.out _ (by first | exact HKK.out | exact HKK.out.drew | exact (Kept.refl _ _).drew | exact Kept.refl _ _)).2.2.1).mono ?_; rintro e wk ⟨rfl, hkc⟩; have HKK : Hid (Same w8 wk) := hid (by first | exact HKK.out.trans hkc | exact HKK.out.trans (Kept.undrewV hkc) | exact Kept.undrewV hkc | exact hkc))
        | (go_at_call 13; with_reducible refine ((HQ.out _ (by first | exact HKK.out | exact HKK.out.drew | exact (Kept.refl _ _).drew | exact Kept.refl _ _)).2.2.2).mono ?_; rintro e wk ⟨rfl, hkc⟩; have HKK : Hid (Same w8 wk) := hid (by first | exact HKK.out.trans hkc | exact HKK.out.trans (Kept.undrewV hkc) | exact Kept.undrewV hkc | exact hkc)))
    all_goals have HF : Hid (Same w wk) := hid (HK8.out.trans HKK.out)
    all_goals clear HQ hkc HKK c0 c1 c2 d0 d1 d2 m0 m1 m2 m3
    all_goals go_wp2_with fail
    all_goals go_ret
    all_goals exact ⟨rfl, HF.out⟩

end Go.Proofs.Ytlfibbghkdbomaa
