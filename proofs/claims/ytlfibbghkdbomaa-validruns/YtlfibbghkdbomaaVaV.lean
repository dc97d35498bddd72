/-
  Layer 13: the reference's Own; two rows of writes held against one another.
-/
import Derived.Test.YtlfibbghkdbomaaVaU
namespace Go.Proofs.Ytlfibbghkdbomaa
open Go.RowKit Go.Maps Go.Sort Go.Shelf

/-- A write stored into a block of its own. -/
def setW (W : World) (rb : Nat) (r : Wr) : World := ((((W.setCell ⟨rb, 0, none⟩ (.string r.b.tn)).setCell ⟨rb, 1, none⟩ (.string r.b.ar)).setCell ⟨rb, 2, none⟩ (.string r.n.s)).setCell ⟨rb, 3, none⟩ (.bool r.there)).setCell ⟨rb, 4, none⟩ (.string r.data)

theorem setW_blk {W : World} {rb : Nat} {q : Wr} {t : TypeId} (h : Blk W rb (wrE q).toArray t) (r : Wr) : Blk (setW W rb r) rb (wrE r).toArray t := by
  have h9 := ((((h.set 0 (.string r.b.tn)).set 1 (.string r.b.ar)).set 2 (.string r.n.s)).set 3 (.bool r.there)).set 4 (.string r.data)
  unfold setW
  simpa [wrE] using h9

theorem setW_kept (W : World) (rb : Nat) (r : Wr) : Kept (fun k => k = rb) W (setW W rb r) := (((((Kept.refl (fun k => k = rb) W).setCell _ _ (.inl rfl)).setCell _ _ (.inl rfl)).setCell _ _ (.inl rfl)).setCell _ _ (.inl rfl)).setCell _ _ (.inl rfl)

def ownR (s : Rs) (k : Ke) : Option Wr := s.st.find? (fun r => decide (keO r = k))

section
variable {N : Nat} {w : World} {p : Nat} {s : Rs} {v1 v2 v3 : Value}

set_option maxRecDepth 100000 in
set_option maxHeartbeats 2000000 in
theorem rown_any (h : Rv N w p s v1 v2 v3) (k : Ke) : Calls Try.prog 21 #[.pointer (some ⟨p, 0, none⟩), .agg #[.string k.1.tn, .string k.1.ar, .string k.2.s]] w fun e w' => e = .returned (.tuple #[.agg (wrE ((ownR s k).getD wr0)).toArray, .bool (ownR s k).isSome]) ∧ Same w w' := by
  obtain ⟨wA, hwA⟩ : ∃ W, W = (w.alloc (.cells #[.string k.1.tn, .string k.1.ar, .string k.2.s] 24)).alloc (.cells #[.string ⟨#[]⟩, .string ⟨#[]⟩, .string ⟨#[]⟩, .bool false, .string ⟨#[]⟩] 51) := ⟨_, rfl⟩
  obtain ⟨xb, hxb⟩ : ∃ y, y = w.heap.size := ⟨_, rfl⟩
  have hka : Same w wA := by rw [hwA]; exact ((Kept.refl _ w).alloc _).alloc _
  have B1 : Blk wA xb #[.string k.1.tn, .string k.1.ar, .string k.2.s] 24 := by rw [hwA, hxb]; exact (Blk.new w _ _).kept (F := fun _ => False) ((Kept.refl _ _).alloc _) (fun f => f)
  have B2 : Blk wA (xb + 1) (wrE wr0).toArray 51 := by
    rw [hwA, hxb]
    have := Blk.new (w.alloc (.cells #[.string k.1.tn, .string k.1.ar, .string k.2.s] 24)) (wrE wr0).toArray 51
    rwa [World.size_alloc] at this
  obtain ⟨a3, c3, hv3, hg3, _⟩ := h.r3.shape
  obtain ⟨l3, hl3⟩ : ∃ n, n = s.st.length := ⟨_, rfl⟩
  rw [← hl3] at hv3
  subst hv3
  have HC : Hid (∀ w', Same wA w' → w'.cell? ⟨xb, 0, none⟩ = some (.string k.1.tn) ∧ w'.cell? ⟨xb, 1, none⟩ = some (.string k.1.ar) ∧ w'.cell? ⟨xb, 2, none⟩ = some (.string k.2.s) ∧ w'.cell? ⟨p, 3, none⟩ = some (.slice a3 l3 c3)) := hid (fun w' hk => by
    have h1 := B1.kept hk (fun f => f)
    have h2 := (h.same (hka.trans hk)).blk
    exact ⟨h1.cell 0, h1.cell 1, h1.cell 2, h2.cell 3⟩)
  have HW : Hid (∀ w', Same wA w' → Blk w' (xb + 1) (wrE wr0).toArray 51) := hid (fun w' hk => B2.kept hk (fun f => f))
  have HR : Hid (∀ w', Same wA w' → RowC N 51 5 wrE w' (.slice a3 l3 c3) s.st) := hid (fun w' hk => (h.same (hka.trans hk)).r3)
  have HG : Hid ((s.st ≠ [] → ∃ g, a3 = some ⟨g, 0, none⟩) ∧ l3 = s.st.length ∧ l3 ≤ 100000) := hid ⟨hg3, hl3, by rw [hl3]; exact h.lens.2.2⟩
  have HK : Hid (Same w wA ∧ xb = w.heap.size) := hid ⟨hka, hxb⟩
  clear h hka B1 B2 hg3 hl3
  go_enter Try.func21, Try.ntmps21
  go_wp2_with fail
  rw [← hwA, ← hxb]
  clear hwA hxb
  go_loopg [6] l3 (fun q z wr => ∃ i : Nat, l3 - i ≤ q ∧ i ≤ l3 ∧ z = .int .i64 (i : Nat) ∧ Hid (∀ j (hj : j < i) (hj2 : j < s.st.length), keO s.st[j] ≠ k) ∧ Hid (Same wA wr))
  case atStart => exact ⟨0, by omega, by omega, rfl, hid (fun j hj _ => by omega), hid (Kept.refl _ _)⟩
  case round =>
    obtain ⟨i, hq, hil, rfl, HF, HS⟩ := hrel
    obtain ⟨b0, b1, b2, p3⟩ := HC.out wr HS.out
    by_cases hlt : i < l3
    · have hli : decide (i < l3) = true := decide_eq_true hlt
      have hli2 : (i : Int) < (l3 : Int) := by omega
      have hlt2 : i < s.st.length := by have := HG.out.2.1; omega
      obtain ⟨g, hg⟩ := HG.out.1 (fun e => by rw [e] at hlt2; simp at hlt2)
      subst hg
      obtain ⟨y, hy⟩ : ∃ y, y = s.st[i] := ⟨_, rfl⟩
      have hrow := HR.out wr HS.out
      have hcw : ∀ q u, q < 5 → (wrE y)[q]? = some u → wr.cell? ⟨g, i * 5 + q, none⟩ = some u := fun q u hq e => by rw [RowC.cell wrE_ok hrow i q hlt2 hq, ← hy, e]
      have k0 := hcw 0 (.string y.b.tn) (by decide) rfl
      have k1 := hcw 1 (.string y.b.ar) (by decide) rfl
      have k2 := hcw 2 (.string y.n.s) (by decide) rfl
      have k3 := hcw 3 (.bool y.there) (by decide) rfl
      have k4 := hcw 4 (.string y.data) (by decide) rfl
      rw [Nat.add_zero] at k0
      have hiw : IntKind.i64.wrap ((i : Int) + 1) = ((i + 1 : Nat) : Int) := by have := HG.out.2.2; rw [IntKind.wrap_i64]; omega
      have s1 := streq13 y.b.tn k.1.tn
      have s2 := streq13 y.b.ar k.1.ar
      have s3 := streq13 y.n.s k.2.s
      have HY : Hid (y = s.st[i]) := hy
      clear hrow hcw hy
      by_cases hm : y.b.tn = k.1.tn ∧ y.b.ar = k.1.ar ∧ y.n.s = k.2.s
      · obtain ⟨m1, m2, m3⟩ := hm
        have HE : Hid (ownR s k = some y) := hid (by
          unfold ownR
          rw [List.find?_eq_some_iff_getElem]
          refine ⟨decide_eq_true (Prod.ext (Bx.ext' m1 m2) (Nm.ext' m3)), i, hlt2, HY.out.symm, fun j hj => ?_⟩
          have := HF.out j hj (by omega)
          simp [this])
        rw [decide_eq_true m1] at s1
        rw [decide_eq_true m2] at s2
        rw [decide_eq_true m3] at s3
        have hb := HW.out wr HS.out
        have e0 : wr.cell? ⟨xb + 1, 0, none⟩ = some (.string ⟨#[]⟩) := hb.cell 0
        have e1 : wr.cell? ⟨xb + 1, 1, none⟩ = some (.string ⟨#[]⟩) := hb.cell 1
        have e2 : wr.cell? ⟨xb + 1, 2, none⟩ = some (.string ⟨#[]⟩) := hb.cell 2
        have e3 : wr.cell? ⟨xb + 1, 3, none⟩ = some (.bool false) := hb.cell 3
        have e4 : wr.cell? ⟨xb + 1, 4, none⟩ = some (.string ⟨#[]⟩) := hb.cell 4
        have z0 := hb.frozen 0
        have z1 := hb.frozen 1
        have z2 := hb.frozen 2
        have z3 := hb.frozen 3
        have z4 := hb.frozen 4
        have HB := hid hb
        clear m1 m2 m3 hb
        go_wp2_with fail
        go_region
        all_goals go_wp2_with fail
        all_goals
          have BF := (setW_blk HB.out y).kept (F := fun _ => False) (w' := (setW wr (xb + 1) y).drew) (Kept.refl _ _).drew (fun f => f)
          have hkf := setW_kept wr (xb + 1) y
          obtain ⟨wF, hwF⟩ : ∃ W, W = setW wr (xb + 1) y := ⟨_, rfl⟩
          rw [← hwF] at BF hkf
          unfold setW at hwF
          rw [← hwF]
          have f0 : wF.drew.cell? ⟨xb + 1, 0, none⟩ = some (.string y.b.tn) := BF.cell 0
          have f1 : wF.drew.cell? ⟨xb + 1, 1, none⟩ = some (.string y.b.ar) := BF.cell 1
          have f2 : wF.drew.cell? ⟨xb + 1, 2, none⟩ = some (.string y.n.s) := BF.cell 2
          have f3 : wF.drew.cell? ⟨xb + 1, 3, none⟩ = some (.bool y.there) := BF.cell 3
          have f4 : wF.drew.cell? ⟨xb + 1, 4, none⟩ = some (.string y.data) := BF.cell 4
          refine bodyPost_ret (v := .tuple #[.agg (wrE y).toArray, .bool true]) (by rw [results_cell_tmp rfl]; simp at f0 f1 f2 f3 f4; simp [go_sem, wrE, f0, f1, f2, f3, f4]) rfl ?_
          exact ⟨by rw [HE.out]; rfl, Kept.trans (Same.trans HK.out.1 HS.out) hkf.drew (fun _ _ f => f) (fun k hlt e => by have := HK.out.2; omega)⟩
      · have HE : Hid (∀ j (hj : j < i + 1) (hj2 : j < s.st.length), keO s.st[j] ≠ k) := hid (fun j hj hj2 => by
          rcases Nat.lt_or_ge j i with h1 | h1
          · exact HF.out j h1 hj2
          · obtain rfl : j = i := by omega
            rw [← HY.out]
            exact fun e => hm (by rw [← e]; exact ⟨rfl, rfl, rfl⟩))
        obtain ⟨d1, e1⟩ : ∃ r, r = decide (y.b.tn = k.1.tn) := ⟨_, rfl⟩
        obtain ⟨d2, e2⟩ : ∃ r, r = decide (y.b.ar = k.1.ar) := ⟨_, rfl⟩
        obtain ⟨d3, e3⟩ : ∃ r, r = decide (y.n.s = k.2.s) := ⟨_, rfl⟩
        rw [← e1] at s1
        rw [← e2] at s2
        rw [← e3] at s3
        have hd : ¬ (d1 = true ∧ d2 = true ∧ d3 = true) := fun e => hm ⟨of_decide_eq_true (e1.symm.trans e.1), of_decide_eq_true (e2.symm.trans e.2.1), of_decide_eq_true (e3.symm.trans e.2.2)⟩
        have hf := (four13 d1 d2 d3).resolve_right hd
        clear e1 e2 e3 hm hd HF
        rcases hf with rfl | ⟨rfl, rfl⟩ | ⟨rfl, rfl, rfl⟩
        all_goals
          go_wp2_with fail
          go_region
          all_goals go_wp2_with fail
          all_goals go_roundg (gk - 1)
          all_goals first
            | (case measure => omega)
            | skip
          all_goals exact ⟨i + 1, by omega, by omega, by go_num, HE, hid HS.out.drew⟩
    · have hli : decide (i < l3) = false := decide_eq_false hlt
      obtain rfl : i = l3 := by omega
      have HE : Hid (ownR s k = none) := hid (by
        unfold ownR
        rw [List.find?_eq_none]
        intro x hx
        obtain ⟨j, hj, rfl⟩ := List.mem_iff_getElem.1 hx
        have := HF.out j (by have := HG.out.2.1; omega) hj
        simpa using this)
      have hb := HW.out wr HS.out
      have e0 : wr.cell? ⟨xb + 1, 0, none⟩ = some (.string ⟨#[]⟩) := hb.cell 0
      have e1 : wr.cell? ⟨xb + 1, 1, none⟩ = some (.string ⟨#[]⟩) := hb.cell 1
      have e2 : wr.cell? ⟨xb + 1, 2, none⟩ = some (.string ⟨#[]⟩) := hb.cell 2
      have e3 : wr.cell? ⟨xb + 1, 3, none⟩ = some (.bool false) := hb.cell 3
      have e4 : wr.cell? ⟨xb + 1, 4, none⟩ = some (.string ⟨#[]⟩) := hb.cell 4
      have z0 := hb.frozen 0
      have z1 := hb.frozen 1
      have z2 := hb.frozen 2
      have z3 := hb.frozen 3
      have z4 := hb.frozen 4
      have HB := hid hb
      clear hb
      go_wp2_with fail
      have BF := setW_blk HB.out wr0
      have hkf := setW_kept wr (xb + 1) wr0
      obtain ⟨wF, hwF⟩ : ∃ W, W = setW wr (xb + 1) wr0 := ⟨_, rfl⟩
      rw [← hwF] at BF hkf
      have hwF2 : wF = ((((wr.setCell ⟨xb + 1, 0, none⟩ (.string ⟨#[]⟩)).setCell ⟨xb + 1, 1, none⟩ (.string ⟨#[]⟩)).setCell ⟨xb + 1, 2, none⟩ (.string ⟨#[]⟩)).setCell ⟨xb + 1, 3, none⟩ (.bool false)).setCell ⟨xb + 1, 4, none⟩ (.string ⟨#[]⟩) := hwF
      rw [← hwF2]
      have f0 : wF.cell? ⟨xb + 1, 0, none⟩ = some (.string ⟨#[]⟩) := BF.cell 0
      have f1 : wF.cell? ⟨xb + 1, 1, none⟩ = some (.string ⟨#[]⟩) := BF.cell 1
      have f2 : wF.cell? ⟨xb + 1, 2, none⟩ = some (.string ⟨#[]⟩) := BF.cell 2
      have f3 : wF.cell? ⟨xb + 1, 3, none⟩ = some (.bool false) := BF.cell 3
      have f4 : wF.cell? ⟨xb + 1, 4, none⟩ = some (.string ⟨#[]⟩) := BF.cell 4
      refine bodyPost_ret (v := .tuple #[.agg (wrE wr0).toArray, .bool false]) (by rw [results_cell_tmp rfl]; simp [go_sem, wrE, wr0, f0, f1, f2, f3, f4]) rfl ?_
      exact ⟨by rw [HE.out]; rfl, Kept.trans (Same.trans HK.out.1 HS.out) hkf (fun _ _ f => f) (fun k hlt e => by have := HK.out.2; omega)⟩

end

end Go.Proofs.Ytlfibbghkdbomaa
