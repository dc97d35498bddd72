/-
  Layer 13's law: a step that only asks.
-/
import Derived.Test.YtlfibbghkdbomaaVaY
namespace Go.Proofs.Ytlfibbghkdbomaa
open Go.RowKit Go.Maps Go.Sort Go.Shelf

section
variable {K N : Nat} {w : World} {p : Nat} {J : Nat → Prop} {M : Mv} {rp : Nat} {s : Rs}

theorem T13.asked (h : T13 K N w p J M rp s) (hK : K + 1 ≤ 100000) {w0 w' : World} (hk0 : Same w0 w) (_hN : N ≤ w0.heap.size) (hk : Same w w') : S13 (K + 1) N w0 p J M.t rp w' :=
  ⟨M, s, (h.same hk).more hK, rfl, (hk0.trans hk).mono (fun _ _ f => f.elim)⟩

set_option maxRecDepth 100000 in
set_option maxHeartbeats 4000000 in
theorem vstep5 (h : T13 K N w p J M rp s) (hK : K + 1 ≤ 100000) (o : Ov) (ho : OvOk w (fun k => k < N) o) (hk : o.k = 5) : Calls Try.prog 8 #[.pointer (some ⟨p, 0, none⟩), .pointer (some ⟨rp, 0, none⟩), .agg (ovC o).toArray] w fun e w' => e = .returned (.bool true) ∧ S13 (K + 1) N w p J M.t rp w' := by
  obtain ⟨k, ky, bx, d, ca, cn, cc, cs⟩ := o
  obtain rfl : k = 5 := hk
  show Calls Try.prog 8 #[.pointer (some ⟨p, 0, none⟩), .pointer (some ⟨rp, 0, none⟩), .agg #[.int .i64 5, .string ky.1.tn, .string ky.1.ar, .string ky.2.s, .string bx.tn, .string bx.ar, .string d, .slice ca cn cc]] w _
  obtain ⟨wA, hwA⟩ : ∃ W, W = w.alloc (.cells #[.int .i64 5, .string ky.1.tn, .string ky.1.ar, .string ky.2.s, .string bx.tn, .string bx.ar, .string d, .slice ca cn cc] 29) := ⟨_, rfl⟩
  obtain ⟨xb, hxb⟩ : ∃ y, y = w.heap.size := ⟨_, rfl⟩
  have hka : Same w wA := by rw [hwA]; exact (Kept.refl _ w).alloc _
  have HB : Hid (OvBk wA xb ⟨5, ky, bx, d, ca, cn, cc, cs⟩) := hid (by rw [hwA, hxb]; exact Blk.new w _ _)
  have HT : Hid (T13 K N wA p J M rp s) := hid (h.same hka)
  have HO : Hid (OvOk wA (fun k => k < N) ⟨5, ky, bx, d, ca, cn, cc, cs⟩) := hid (ho.kept hka (fun _ _ _ f => f))
  have HN : Hid (N ≤ w.heap.size) := hid (by obtain ⟨_, _, _, h9⟩ := h; exact h9.2.2.2.2.2.2.2)
  have HK : Hid (Same w wA ∧ K + 1 ≤ 100000 ∧ xb = w.heap.size) := hid ⟨hka, hK, hxb⟩
  have hdz : d.size ≤ maxLen := ho.dz
  have HDZ := hid hdz
  obtain ⟨c0, c1, c2, c3, c4, c5, c6, c7⟩ := HB.out.cells
  clear h hka ho hK
  rw [hwA, hxb] at c0 c1 c2 c3 c4 c5 c6 c7
  obtain ⟨v1, v2, v3, hx, hr, hJ, hrel, hl1, hl2, hl3, hNA⟩ := HT.out
  have HX := hid hx
  have HR := hid hr
  have HJ : Hid (∀ k, J k → N ≤ k) := hJ
  have HL : Hid (Rel13 M s ∧ s.rs.length ≤ K ∧ s.ls.length ≤ K ∧ s.st.length ≤ K ∧ N ≤ wA.heap.size) := hid ⟨hrel, hl1, hl2, hl3, hNA⟩
  clear hx hr hJ hrel hl1 hl2 hl3 hNA hdz
  go_enter Try.func8, Try.ntmps8
  go_wp2_with fail
  rw [← hwA, ← hxb]
  clear hwA hxb c0 c1 c2 c3 c4 c5 c6 c7
  obtain ⟨y, hy⟩ : ∃ y, y = (M.st ky).getD wr0 := ⟨_, rfl⟩
  obtain ⟨ok, hok⟩ : ∃ b, b = (M.st ky).isSome := ⟨_, rfl⟩
  have HO1 := xvown HX.out ky
  have HO2 : Hid (∀ w', Same wA w' → Calls Try.prog 21 #[.pointer (some ⟨rp, 0, none⟩), .agg #[.string ky.1.tn, .string ky.1.ar, .string ky.2.s]] w' fun e w2 => e = .returned (.tuple #[.agg #[.string y.b.tn, .string y.b.ar, .string y.n.s, .bool y.there, .string y.data], .bool ok]) ∧ Same w' w2) := hid (fun w' hk => by
    have h9 := rown_any (HR.out.same hk) ky
    rw [← HL.out.1.own HX.out ky, ← hy, ← hok] at h9
    exact h9)
  rw [← hy, ← hok] at HO1
  unfold wrE at HO1
  clear hy hok
  refine HO1.mono ?_
  rintro e w1 ⟨rfl, hk1⟩
  have HK1 : Hid (Same wA w1) := hk1
  obtain ⟨w2, hw2⟩ : ∃ W, W = w1.alloc (.cells #[.string y.b.tn, .string y.b.ar, .string y.n.s, .bool y.there, .string y.data] 51) := ⟨_, rfl⟩
  obtain ⟨g1, hg1⟩ : ∃ x, x = w1.heap.size := ⟨_, rfl⟩
  have HB2 : Hid (Blk w2 g1 #[.string y.b.tn, .string y.b.ar, .string y.n.s, .bool y.there, .string y.data] 51 ∧ Same wA w2) := hid ⟨by rw [hw2, hg1]; exact Blk.new w1 _ _, by rw [hw2]; exact hk1.alloc _⟩
  obtain ⟨c0, c1, c2, c3, c4, c5, c6, c7⟩ := (show OvBk w2 xb _ from HB.out.kept HB2.out.2 (fun f => f)).cells
  simp only at c0 c1 c2 c3 c4 c5 c6 c7
  have HO3 := HO2.out w2 HB2.out.2
  rw [hw2] at c0 c1 c2 c3 c4 c5 c6 c7
  clear hk1 HO1
  go_wp2_with fail
  rw [← hw2, ← hg1]
  clear hw2 hg1 c0 c1 c2 c3 c4 c5 c6 c7
  refine HO3.mono ?_
  rintro e w3 ⟨rfl, hk3⟩
  have hb3 := (HB2.out.1.kept hk3 (fun f => f)).kept (F := fun _ => False) (w' := w3.alloc (.cells #[.string y.b.tn, .string y.b.ar, .string y.n.s, .bool y.there, .string y.data] 51)) ((Kept.refl _ _).alloc _) (fun f => f)
  have HK3 : Hid (Same wA w3) := hid (HB2.out.2.trans hk3)
  have e0 := hb3.cell 0
  have e1 := hb3.cell 1
  have e2 := hb3.cell 2
  have e3 := hb3.cell 3
  have e4 := hb3.cell 4
  simp only [List.getElem?_toArray, List.getElem?_cons_zero, List.getElem?_cons_succ] at e0 e1 e2 e3 e4
  clear hk3 HO3 hb3
  go_wp2_with fail
  go_ret
  exact ⟨by simp, HT.out.asked HK.out.2.1 HK.out.1 HN.out (HK3.out.alloc _)⟩

set_option maxRecDepth 100000 in
set_option maxHeartbeats 4000000 in
theorem vstep6 (h : T13 K N w p J M rp s) (hK : K + 1 ≤ 100000) (o : Ov) (ho : OvOk w (fun k => k < N) o) (hk : o.k = 6) : Calls Try.prog 8 #[.pointer (some ⟨p, 0, none⟩), .pointer (some ⟨rp, 0, none⟩), .agg (ovC o).toArray] w fun e w' => e = .returned (.bool true) ∧ S13 (K + 1) N w p J M.t rp w' := by
  obtain ⟨k, ky, bx, d, ca, cn, cc, cs⟩ := o
  obtain rfl : k = 6 := hk
  show Calls Try.prog 8 #[.pointer (some ⟨p, 0, none⟩), .pointer (some ⟨rp, 0, none⟩), .agg #[.int .i64 6, .string ky.1.tn, .string ky.1.ar, .string ky.2.s, .string bx.tn, .string bx.ar, .string d, .slice ca cn cc]] w _
  obtain ⟨wA, hwA⟩ : ∃ W, W = w.alloc (.cells #[.int .i64 6, .string ky.1.tn, .string ky.1.ar, .string ky.2.s, .string bx.tn, .string bx.ar, .string d, .slice ca cn cc] 29) := ⟨_, rfl⟩
  obtain ⟨xb, hxb⟩ : ∃ y, y = w.heap.size := ⟨_, rfl⟩
  have hka : Same w wA := by rw [hwA]; exact (Kept.refl _ w).alloc _
  have HB : Hid (OvBk wA xb ⟨6, ky, bx, d, ca, cn, cc, cs⟩) := hid (by rw [hwA, hxb]; exact Blk.new w _ _)
  have HT : Hid (T13 K N wA p J M rp s) := hid (h.same hka)
  have HO : Hid (OvOk wA (fun k => k < N) ⟨6, ky, bx, d, ca, cn, cc, cs⟩) := hid (ho.kept hka (fun _ _ _ f => f))
  have HN : Hid (N ≤ w.heap.size) := hid (by obtain ⟨_, _, _, h9⟩ := h; exact h9.2.2.2.2.2.2.2)
  have HK : Hid (Same w wA ∧ K + 1 ≤ 100000 ∧ xb = w.heap.size) := hid ⟨hka, hK, hxb⟩
  have hdz : d.size ≤ maxLen := ho.dz
  have HDZ := hid hdz
  obtain ⟨c0, c1, c2, c3, c4, c5, c6, c7⟩ := HB.out.cells
  clear h hka ho hK
  rw [hwA, hxb] at c0 c1 c2 c3 c4 c5 c6 c7
  obtain ⟨v1, v2, v3, hx, hr, hJ, hrel, hl1, hl2, hl3, hNA⟩ := HT.out
  have HX := hid hx
  have HR := hid hr
  have HJ : Hid (∀ k, J k → N ≤ k) := hJ
  have HL : Hid (Rel13 M s ∧ s.rs.length ≤ K ∧ s.ls.length ≤ K ∧ s.st.length ≤ K ∧ N ≤ wA.heap.size) := hid ⟨hrel, hl1, hl2, hl3, hNA⟩
  clear hx hr hJ hrel hl1 hl2 hl3 hNA hdz
  go_enter Try.func8, Try.ntmps8
  go_wp2_with fail
  rw [← hwA, ← hxb]
  clear hwA hxb c0 c1 c2 c3 c4 c5 c6 c7
  have HC6 : Hid (∀ w', Same wA w' → Cms w' (fun k => k < N) (.slice ca cn cc) cs) := hid (fun w' hk => HO.out.cms.same hk)
  have HLC : Hid (cs.length = cn) := hid HO.out.len
  obtain ⟨r1, hr1⟩ : ∃ z, z = (chkM M cs).1 := ⟨_, rfl⟩
  obtain ⟨r2, hr2⟩ : ∃ z, z = (chkM M cs).2 := ⟨_, rfl⟩
  have HO1 := xvcheck HX.out (.slice ca cn cc) cs _ (HC6.out wA (Kept.refl _ _))
  have HO2 : Hid (∀ w', Same wA w' → Calls Try.prog 22 #[.pointer (some ⟨rp, 0, none⟩), .slice ca cn cc] w' fun e w2 => e = .returned (.tuple #[.int .i64 r1, .int .i64 r2]) ∧ Same w' w2) := hid (fun w' hk => by
    have h9 := rcheck_any (HR.out.same hk) (.slice ca cn cc) cs _ (HC6.out w' hk)
    rw [← HL.out.1.chk HX.out cs, ← hr1, ← hr2] at h9
    exact h9)
  rw [← hr1, ← hr2] at HO1
  have n1 : (r1 != r1) = false := by simp
  have n2 : (r2 != r2) = false := by simp
  clear hr1 hr2
  refine HO1.mono ?_
  rintro e w1 ⟨rfl, hk1⟩
  have HK1 : Hid (Same wA w1) := hk1
  obtain ⟨c0, c1, c2, c3, c4, c5, c6, c7⟩ := (show OvBk w1 xb _ from HB.out.kept hk1 (fun f => f)).cells
  simp only at c0 c1 c2 c3 c4 c5 c6 c7
  have HO3 := HO2.out w1 hk1
  clear hk1 HO1
  go_wp2_with fail
  refine HO3.mono ?_
  rintro e w2 ⟨rfl, hk2⟩
  have HK2 : Hid (Same wA w2) := hid (HK1.out.trans hk2)
  clear hk2 HO3 c0 c1 c2 c3 c4 c5 c6 c7 HK1
  go_wp2_with fail
  go_loopg [15] cn (fun q z wr => ∃ i : Nat, cn - i ≤ q ∧ i ≤ cn ∧ z = .int .i64 (i : Nat) ∧ Hid (Same wA wr))
  case atStart => exact ⟨0, by omega, by omega, rfl, HK2⟩
  case round =>
    obtain ⟨i, hq, hil, rfl, HS⟩ := hrel
    obtain ⟨c0, c1, c2, c3, c4, c5, c6, c7⟩ := (show OvBk wr xb _ from HB.out.kept HS.out (fun f => f)).cells
    simp only at c0 c1 c2 c3 c4 c5 c6 c7
    by_cases hlt : i < cn
    · have hli : decide (i < cn) = true := decide_eq_true hlt
      have hli2 : (i : Int) < (cn : Int) := by omega
      have hlt2 : i < cs.length := by have := HLC.out; omega
      have hcm := HC6.out wr HS.out
      obtain ⟨ao, cap, hsl, _, hcel⟩ := hcm.src
      obtain ⟨b, o, hao, _, hcc⟩ := hcel (fun e => by rw [e] at hlt2; simp at hlt2)
      simp only [Value.slice.injEq] at hsl
      have ha : ca = some ⟨b, o, none⟩ := by rw [hsl.1, hao]
      subst ha
      obtain ⟨y, hy⟩ : ∃ y, y = cs[i] := ⟨_, rfl⟩
      have k0 : wr.cell? ⟨b, o + (i * 2 + 0), none⟩ = some (.int .i64 y.t) := by rw [hcc i hlt2 0 (by decide), ← hy]; rfl
      have k1 : wr.cell? ⟨b, o + (i * 2 + 1), none⟩ = some (.slice y.a y.n y.c) := by rw [hcc i hlt2 1 (by decide), ← hy]; rfl
      rw [Nat.add_zero] at k0
      simp only [← Nat.add_assoc] at k1
      have hiw : IntKind.i64.wrap ((i : Int) + 1) = ((i + 1 : Nat) : Int) := by have := hcm.big; rw [IntKind.wrap_i64]; omega
      obtain ⟨cl, hcl⟩ : ∃ z, z = claM M y.t y.ws := ⟨_, rfl⟩
      have hyc : y ∈ cs := by rw [hy]; exact List.getElem_mem _
      have HQ : Hid (∀ w', Same wr w' → Calls Try.prog 13 #[.pointer (some ⟨p, 0, none⟩), .agg #[.int .i64 y.t, .slice y.a y.n y.c]] w' (fun e w2 => e = .returned (.bool cl) ∧ Same w' w2) ∧ Calls Try.prog 23 #[.pointer (some ⟨rp, 0, none⟩), .agg #[.int .i64 y.t, .slice y.a y.n y.c]] w' (fun e w2 => e = .returned (.bool cl) ∧ Same w' w2)) := hid (fun w' hk => by
        have hcy := ((HC6.out w' (HS.out.trans hk)).ok y hyc)
        refine ⟨?_, ?_⟩
        · have h9 := xvclash (HX.out.same (HS.out.trans hk)) y.t _ y.ws _ hcy.src hcy.big
          rw [← hcl] at h9
          exact h9
        · have h9 := rclash_any (HR.out.same (HS.out.trans hk)) y _ hcy
          rw [← HL.out.1.cla, ← hcl] at h9
          exact h9)
      have n3 : (cl != cl) = false := by simp
      clear hcm hcel hcc hsl hao hy hcl hyc
      go_wp2_with fail
      go_region_held3 (fun w' => w'.cell? ⟨xb, 7, none⟩ = some (.slice (some ⟨b, o, none⟩) cn cc) ∧ w'.cell? ⟨b, o + i * 2, none⟩ = some (.int .i64 y.t) ∧ w'.cell? ⟨b, o + i * 2 + 1, none⟩ = some (.slice y.a y.n y.c))
        (first
          | (go_split_ands; exact ⟨hkc.cell (by assumption) (fun f => f), hkc.cell (by assumption) (fun f => f), hkc.cell (by assumption) (fun f => f)⟩)
          | go_keep)
        (first
          | (go_at_call 13; refine ((HQ.out _ (by first | exact HKK.out | exact HKK.out.drew | exact (Kept.refl _ _).drew | exact Kept.refl _ _)).1).mono ?_; rintro e wk ⟨rfl, hkc⟩; have HKK : Hid (Same wr wk) := hid (by first | exact HKK.out.trans hkc | exact HKK.out.trans (Kept.undrewV hkc) | exact Kept.undrewV hkc | exact hkc))
          | (go_at_call 23; refine ((HQ.out _ (by first | exact HKK.out | exact HKK.out.drew | exact (Kept.refl _ _).drew | exact Kept.refl _ _)).2).mono ?_; rintro e wk ⟨rfl, hkc⟩; have HKK : Hid (Same wr wk) := hid (by first | exact HKK.out.trans hkc | exact HKK.out.trans (Kept.undrewV hkc) | exact Kept.undrewV hkc | exact hkc)))
      have HFS : Hid (Same wA wk) := hid (HS.out.trans HKK.out)
      clear hkc HKK k0 k1 c0 c1 c2 c3 c4 c5 c6 c7
      go_wp2_with fail
      go_roundg (gk - 1)
      case measure => omega
      case rel => exact ⟨i + 1, by omega, by omega, by go_num, HFS⟩
    · have hli : decide (i < cn) = false := decide_eq_false hlt
      go_wp2_with fail
      go_ret
      exact ⟨rfl, HT.out.asked HK.out.2.1 HK.out.1 HN.out HS.out⟩

set_option maxRecDepth 100000 in
set_option maxHeartbeats 4000000 in
theorem vstep7 (h : T13 K N w p J M rp s) (hK : K + 1 ≤ 100000) (o : Ov) (ho : OvOk w (fun k => k < N) o) (hk : ¬ o.k = 1 ∧ ¬ o.k = 2 ∧ ¬ o.k = 3 ∧ ¬ o.k = 4 ∧ ¬ o.k = 5 ∧ ¬ o.k = 6) : Calls Try.prog 8 #[.pointer (some ⟨p, 0, none⟩), .pointer (some ⟨rp, 0, none⟩), .agg (ovC o).toArray] w fun e w' => e = .returned (.bool true) ∧ S13 (K + 1) N w p J M.t rp w' := by
  obtain ⟨k, ky, bx, d, ca, cn, cc, cs⟩ := o
  have q1 : ((k : Int) == 1) = false := by simpa using hk.1
  have q2 : ((k : Int) == 2) = false := by simpa using hk.2.1
  have q3 : ((k : Int) == 3) = false := by simpa using hk.2.2.1
  have q4 : ((k : Int) == 4) = false := by simpa using hk.2.2.2.1
  have q5 : ((k : Int) == 5) = false := by simpa using hk.2.2.2.2.1
  have q6 : ((k : Int) == 6) = false := by simpa using hk.2.2.2.2.2
  clear hk
  show Calls Try.prog 8 #[.pointer (some ⟨p, 0, none⟩), .pointer (some ⟨rp, 0, none⟩), .agg #[.int .i64 k, .string ky.1.tn, .string ky.1.ar, .string ky.2.s, .string bx.tn, .string bx.ar, .string d, .slice ca cn cc]] w _
  obtain ⟨wA, hwA⟩ : ∃ W, W = w.alloc (.cells #[.int .i64 k, .string ky.1.tn, .string ky.1.ar, .string ky.2.s, .string bx.tn, .string bx.ar, .string d, .slice ca cn cc] 29) := ⟨_, rfl⟩
  obtain ⟨xb, hxb⟩ : ∃ y, y = w.heap.size := ⟨_, rfl⟩
  have hka : Same w wA := by rw [hwA]; exact (Kept.refl _ w).alloc _
  have HB : Hid (OvBk wA xb ⟨k, ky, bx, d, ca, cn, cc, cs⟩) := hid (by rw [hwA, hxb]; exact Blk.new w _ _)
  have HT : Hid (T13 K N wA p J M rp s) := hid (h.same hka)
  have HO : Hid (OvOk wA (fun k => k < N) ⟨k, ky, bx, d, ca, cn, cc, cs⟩) := hid (ho.kept hka (fun _ _ _ f => f))
  have HN : Hid (N ≤ w.heap.size) := hid (by obtain ⟨_, _, _, h9⟩ := h; exact h9.2.2.2.2.2.2.2)
  have HK : Hid (Same w wA ∧ K + 1 ≤ 100000 ∧ xb = w.heap.size) := hid ⟨hka, hK, hxb⟩
  have hdz : d.size ≤ maxLen := ho.dz
  have HDZ := hid hdz
  obtain ⟨c0, c1, c2, c3, c4, c5, c6, c7⟩ := HB.out.cells
  clear h hka ho hK
  rw [hwA, hxb] at c0 c1 c2 c3 c4 c5 c6 c7
  obtain ⟨v1, v2, v3, hx, hr, hJ, hrel, hl1, hl2, hl3, hNA⟩ := HT.out
  have HX := hid hx
  have HR := hid hr
  have HJ : Hid (∀ k, J k → N ≤ k) := hJ
  have HL : Hid (Rel13 M s ∧ s.rs.length ≤ K ∧ s.ls.length ≤ K ∧ s.st.length ≤ K ∧ N ≤ wA.heap.size) := hid ⟨hrel, hl1, hl2, hl3, hNA⟩
  clear hx hr hJ hrel hl1 hl2 hl3 hNA hdz
  go_enter Try.func8, Try.ntmps8
  go_wp2_with fail
  rw [← hwA, ← hxb]
  clear hwA hxb c0 c1 c2 c3 c4 c5 c6 c7
  refine (xvwrites HX.out).mono ?_
  rintro e w1 ⟨v, xs, rfl, hst, hrow, hk1, hxl⟩
  have hxs : xs = s.st := hst.det HL.out.1.st
  have HK1 : Hid (Same wA w1) := hk1
  have HKW := kwrites_true w1 _ _ v v3 xs hrow (by rw [hxs]; exact (HR.out.same hk1).r3) hxl
  have p3 : w1.cell? ⟨rp, 3, none⟩ = some v3 := (HR.out.same hk1).blk.cell 3
  obtain ⟨a3, q3, hv3, _⟩ := HR.out.r3.shape
  obtain ⟨l3, hl3⟩ : ∃ n, n = s.st.length := ⟨_, rfl⟩
  rw [← hl3] at hv3
  obtain ⟨a, c, hv, hg, _⟩ := hrow.shape
  obtain ⟨n, hn⟩ : ∃ n, n = xs.length := ⟨_, rfl⟩
  rw [← hn] at hv hxl
  have HRW : Hid (RowC wA.heap.size 51 5 wrE w1 v xs) := hrow
  subst hv hv3
  have HG : Hid ((xs ≠ [] → ∃ g, a = some ⟨g, 0, none⟩) ∧ n = xs.length ∧ n ≤ 100000) := hid ⟨hg, hn, hxl⟩
  clear hst hrow hk1 hxl hl3 hg hn hxs
  go_wp2_with fail
  refine HKW.mono ?_
  rintro e w2 ⟨rfl, hk2⟩
  have HK2 : Hid (Same wA w2) := hid (HK1.out.trans hk2)
  have HR2 : Hid (RowC wA.heap.size 51 5 wrE w2 (.slice a n c) xs) := hid (HRW.out.kept hk2 (fun _ _ f => f))
  clear hk2 HKW p3 HRW HK1
  go_wp2_with fail
  have HC2 : Hid (∀ g, a = some ⟨g, 0, none⟩ → wA.heap.size ≤ g ∧ ∃ cur : Array Value, Blk w2 g cur 51 ∧ n * 5 ≤ cur.size) := hid (fun g e => by
    subst e
    rcases HR2.out.2 with ⟨h9, _⟩ | ⟨g', cap, cur, h9, hb9, hg9, hn9, hm9, hs9, _⟩
    · cases h9
    · simp only [Value.slice.injEq, Option.some.injEq, Addr.mk.injEq, and_true] at h9
      obtain ⟨rfl, e1, e2⟩ := h9
      refine ⟨hb9, cur, hg9, ?_⟩
      rw [hs9, e1]
      exact Nat.mul_le_mul_right _ hn9)
  go_loopg [18] n (fun q z wr => ∃ i : Nat, n - i ≤ q ∧ i ≤ n ∧ z = .int .i64 (i : Nat) ∧ Hid (Same wA wr ∧ ∀ g, a = some ⟨g, 0, none⟩ → wA.heap.size ≤ g ∧ ∃ cur : Array Value, Blk wr g cur 51 ∧ n * 5 ≤ cur.size))
  case atStart => exact ⟨0, by omega, by omega, rfl, hid ⟨HK2.out, HC2.out⟩⟩
  case round =>
    obtain ⟨i, hq, hil, rfl, HS⟩ := hrel
    by_cases hlt : i < n
    · have hli : decide (i < n) = true := decide_eq_true hlt
      have hli2 : (i : Int) < (n : Int) := by omega
      obtain ⟨g, hg⟩ := HG.out.1 (fun e => by have h9 := HG.out.2.1; rw [e] at h9; simp at h9; omega)
      subst hg
      obtain ⟨hge, cur, hbk, hsz⟩ := HS.out.2 g rfl
      have hcell : ∀ q, q < 5 → ∃ u, wr.cell? ⟨g, i * 5 + q, none⟩ = some u := fun q hq => ⟨_, (hbk.cell (i * 5 + q)).trans (Array.getElem?_eq_getElem (by omega))⟩
      obtain ⟨u0, k0⟩ := hcell 0 (by decide)
      obtain ⟨u1, k1⟩ := hcell 1 (by decide)
      obtain ⟨u2, k2⟩ := hcell 2 (by decide)
      obtain ⟨u3, k3⟩ := hcell 3 (by decide)
      obtain ⟨u4, k4⟩ := hcell 4 (by decide)
      have z0 := hbk.frozen (i * 5)
      have z1 := hbk.frozen (i * 5 + 1)
      have z2 := hbk.frozen (i * 5 + 2)
      have z3 := hbk.frozen (i * 5 + 3)
      have z4 := hbk.frozen (i * 5 + 4)
      rw [Nat.add_zero] at k0
      have hiw : IntKind.i64.wrap ((i : Int) + 1) = ((i + 1 : Nat) : Int) := by have := HG.out.2.2; rw [IntKind.wrap_i64]; omega
      have HB9 : Hid (Blk wr g cur 51 ∧ n * 5 ≤ cur.size ∧ wA.heap.size ≤ g) := hid ⟨hbk, hsz, hge⟩
      clear hbk hsz hge hcell
      go_wp2_with fail
      go_roundg (gk - 1)
      case measure => omega
      case rel =>
        refine ⟨i + 1, by omega, by omega, by go_num, hid ⟨?_, fun g' e => ?_⟩⟩
        · exact Kept.trans HS.out.1 ((((((Kept.refl (fun k => k = g) wr).setCell _ _ (.inl rfl)).setCell _ _ (.inl rfl)).setCell _ _ (.inl rfl)).setCell _ _ (.inl rfl)).setCell _ _ (.inl rfl)) (fun _ _ f => f) (fun k hlt9 e => by have := HB9.out.2.2; omega)
        · cases e
          exact ⟨HB9.out.2.2, _, ((((HB9.out.1.set (i * 5) _).set (i * 5 + 1) _).set (i * 5 + 2) _).set (i * 5 + 3) _).set (i * 5 + 4) _, by simpa using HB9.out.2.1⟩
    · have hli : decide (i < n) = false := decide_eq_false hlt
      go_wp2_with fail
      go_ret
      exact ⟨rfl, HT.out.asked HK.out.2.1 HK.out.1 HN.out HS.out.1⟩

theorem vstep_any (h : T13 K N w p J M rp s) (hK : K + 1 ≤ 100000) (o : Ov) (ho : OvOk w (fun k => k < N) o) : Calls Try.prog 8 #[.pointer (some ⟨p, 0, none⟩), .pointer (some ⟨rp, 0, none⟩), .agg (ovC o).toArray] w fun e w' => e = .returned (.bool true) ∧ S13 (K + 1) N w p J M.t rp w' := by
  rcases kinds13 o.k with (e | e | e | e | e | e) | e
  · exact vstep1 h hK o ho e
  · exact vstep2 h hK o ho e
  · exact vstep3 h hK o ho e
  · exact vstep4 h hK o ho e
  · exact vstep5 h hK o ho e
  · exact vstep6 h hK o ho e
  · exact vstep7 h hK o ho e

end

end Go.Proofs.Ytlfibbghkdbomaa
