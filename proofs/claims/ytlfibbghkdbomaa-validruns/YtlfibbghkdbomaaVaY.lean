/-
  Layer 13's law: a step.
-/
import Derived.Test.YtlfibbghkdbomaaVaX
namespace Go.Proofs.Ytlfibbghkdbomaa
open Go.RowKit Go.Maps Go.Sort Go.Shelf

theorem rowT_ne {w : World} {B t k B' t' k' : Nat} {α β : Type} {en : α → List Value} {en' : β → List Value} {v v' : Value} {xs : List α} {ys : List β} (h : RowC B t k en w v xs) (h' : RowC B' t' k' en' w v' ys) (ht : t ≠ t') {j : Nat} (e : v.ownBlock = some j) : ¬ v'.ownBlock = some j := by
  intro e'
  rcases h.2 with ⟨rfl, _⟩ | ⟨g, cap, cur, rfl, _, hg, _⟩
  · cases e
  · rcases h'.2 with ⟨rfl, _⟩ | ⟨g', cap', cur', rfl, _, hg', _⟩
    · cases e'
    · simp only [Value.ownBlock, Option.some.injEq] at e e'
      rw [e] at hg
      rw [e', hg] at hg'
      simp only [Option.some.injEq, Obj.cells.injEq] at hg'
      exact ht hg'.2.1

/-- Which kind of call. -/
theorem kinds13 (k : Int) : (k = 1 ∨ k = 2 ∨ k = 3 ∨ k = 4 ∨ k = 5 ∨ k = 6) ∨ (¬ k = 1 ∧ ¬ k = 2 ∧ ¬ k = 3 ∧ ¬ k = 4 ∧ ¬ k = 5 ∧ ¬ k = 6) := by omega

section
variable {K N : Nat} {w : World} {p : Nat} {J : Nat → Prop} {M : Mv} {rp : Nat} {s : Rs}

theorem T13.same (h : T13 K N w p J M rp s) {w' : World} (hk : Same w w') : T13 K N w' p J M rp s := by
  obtain ⟨v1, v2, v3, h1, h2, h3, h4, h5, h6, h7, h8⟩ := h
  exact ⟨v1, v2, v3, h1.same hk, h2.same hk, h3, h4, h5, h6, h7, Nat.le_trans h8 hk.size⟩

theorem T13.more (h : T13 K N w p J M rp s) (hK : K + 1 ≤ 100000) : T13 (K + 1) N w p J M rp s := by
  obtain ⟨v1, v2, v3, h1, h2, h3, h4, h5, h6, h7, h8⟩ := h
  exact ⟨v1, v2, v3, h1.more (by omega) hK, h2, h3, h4, by omega, by omega, by omega, h8⟩

/-- The program's call, then the reference's. -/
theorem T13.first (h : T13 K N w p J M rp s) {K' : Nat} {M' : Mv} {w' : World} (hx : Vx K' w' p J M') (hk : Kept J w w') : ∃ v1 v2 v3, Vx K' w' p J M' ∧ Rv N w' rp s v1 v2 v3 ∧ (∀ k, J k → N ≤ k) ∧ Rel13 M s ∧ s.rs.length ≤ K ∧ s.ls.length ≤ K ∧ s.st.length ≤ K ∧ N ≤ w'.heap.size := by
  obtain ⟨v1, v2, v3, h1, h2, h3, h4, h5, h6, h7, h8⟩ := h
  exact ⟨v1, v2, v3, hx, h2.keptJ h1 hk, h3, h4, h5, h6, h7, Nat.le_trans h8 hk.size⟩

/-- The cells of a call that lies in a block of its own. -/
def OvBk (W : World) (xb : Nat) (o : Ov) : Prop := Blk W xb (ovC o).toArray 29

theorem OvBk.cells {W : World} {xb : Nat} {o : Ov} (h : OvBk W xb o) : W.cell? ⟨xb, 0, none⟩ = some (.int .i64 o.k) ∧ W.cell? ⟨xb, 1, none⟩ = some (.string o.ky.1.tn) ∧ W.cell? ⟨xb, 2, none⟩ = some (.string o.ky.1.ar) ∧ W.cell? ⟨xb, 3, none⟩ = some (.string o.ky.2.s) ∧ W.cell? ⟨xb, 4, none⟩ = some (.string o.bx.tn) ∧ W.cell? ⟨xb, 5, none⟩ = some (.string o.bx.ar) ∧ W.cell? ⟨xb, 6, none⟩ = some (.string o.d) ∧ W.cell? ⟨xb, 7, none⟩ = some (.slice o.ca o.cn o.cc) :=
  ⟨h.cell 0, h.cell 1, h.cell 2, h.cell 3, h.cell 4, h.cell 5, h.cell 6, h.cell 7⟩

set_option maxRecDepth 100000 in
set_option maxHeartbeats 4000000 in
theorem vstep3 (h : T13 K N w p J M rp s) (hK : K + 1 ≤ 100000) (o : Ov) (ho : OvOk w (fun k => k < N) o) (hk : o.k = 3) : Calls Try.prog 8 #[.pointer (some ⟨p, 0, none⟩), .pointer (some ⟨rp, 0, none⟩), .agg (ovC o).toArray] w fun e w' => e = .returned (.bool true) ∧ S13 (K + 1) N w p J M.t rp w' := by
  obtain ⟨k, ky, bx, d, ca, cn, cc, cs⟩ := o
  obtain rfl : k = 3 := hk
  show Calls Try.prog 8 #[.pointer (some ⟨p, 0, none⟩), .pointer (some ⟨rp, 0, none⟩), .agg #[.int .i64 3, .string ky.1.tn, .string ky.1.ar, .string ky.2.s, .string bx.tn, .string bx.ar, .string d, .slice ca cn cc]] w _
  obtain ⟨wA, hwA⟩ : ∃ W, W = w.alloc (.cells #[.int .i64 3, .string ky.1.tn, .string ky.1.ar, .string ky.2.s, .string bx.tn, .string bx.ar, .string d, .slice ca cn cc] 29) := ⟨_, rfl⟩
  obtain ⟨xb, hxb⟩ : ∃ y, y = w.heap.size := ⟨_, rfl⟩
  have hka : Same w wA := by rw [hwA]; exact (Kept.refl _ w).alloc _
  have HB : Hid (OvBk wA xb ⟨3, ky, bx, d, ca, cn, cc, cs⟩) := hid (by rw [hwA, hxb]; exact Blk.new w _ _)
  have HT : Hid (T13 K N wA p J M rp s) := hid (h.same hka)
  have HO : Hid (OvOk wA (fun k => k < N) ⟨3, ky, bx, d, ca, cn, cc, cs⟩) := hid (ho.kept hka (fun _ _ _ f => f))
  have HN : Hid (N ≤ w.heap.size) := hid (by obtain ⟨_, _, _, h9⟩ := h; exact h9.2.2.2.2.2.2.2)
  have HK : Hid (Same w wA ∧ K + 1 ≤ 100000 ∧ xb = w.heap.size) := hid ⟨hka, hK, hxb⟩
  have hdz : d.size ≤ maxLen := ho.dz
  have HDZ := hid hdz
  obtain ⟨c0, c1, c2, c3, c4, c5, c6, c7⟩ := HB.out.cells
  clear h hka ho hK
  rw [hwA, hxb] at c0 c1 c2 c3 c4 c5 c6 c7
  obtain ⟨v1, v2, v3, hx, hr, hJ, hrel, hl1, hl2, hl3, hNA⟩ := HT.out
  have HX := hid hx
  have HR := hid hr
  have HJ : Hid (∀ k, J k → N ≤ k) := hJ
  have HL : Hid (Rel13 M s ∧ s.rs.length ≤ K ∧ s.ls.length ≤ K ∧ s.st.length ≤ K ∧ N ≤ wA.heap.size) := hid ⟨hrel, hl1, hl2, hl3, hNA⟩
  clear hx hr hJ hrel hl1 hl2 hl3 hNA hdz
  go_enter Try.func8, Try.ntmps8
  go_wp2_with fail
  rw [← hwA, ← hxb]
  clear hwA hxb c0 c1 c2 c3 c4 c5 c6 c7
  refine (xvput HX.out ky d HDZ.out HK.out.2.1).mono ?_
  rintro e w1 ⟨rfl, hx1, hk1⟩
  have HX1 := hid hx1
  have HK1 : Hid (Kept J wA w1) := hk1
  have HR1 := hid (HR.out.keptJ HX.out hk1)
  clear hx1 hk1
  obtain ⟨c0, c1, c2, c3, c4, c5, c6, c7⟩ := (show OvBk w1 xb _ from HB.out.kept HK1.out (HX.out.off_blk HB.out (by decide))).cells
  simp only at c0 c1 c2 c3 c4 c5 c6 c7
  have HST := rstage_any HR1.out (Nat.le_trans HL.out.2.2.2.2 HK1.out.size) (by have := HL.out.2.2.2.1; have := HK.out.2.1; omega) ⟨ky.1, ky.2, true, d, HDZ.out⟩
  go_wp2_with fail
  refine HST.mono ?_
  rintro e w2 ⟨rfl, v3', hr2, hk2⟩
  have HF : Hid (S13 (K + 1) N w p J M.t rp w2) := hid (by
    refine ⟨stM M ⟨ky.1, ky.2, true, d, HDZ.out⟩, _, ⟨v1, v2, v3', HX1.out.kept hk2 (fun j h1 e => HX1.out.off_blk HR1.out.blk (by decide) (by rw [← e]; exact h1)), hr2, HJ.out, HL.out.1.stage ⟨ky.1, ky.2, true, d, HDZ.out⟩, by have := HL.out.2.1; show s.rs.length ≤ K + 1; omega, by have := HL.out.2.2.1; show s.ls.length ≤ K + 1; omega, ?_, Nat.le_trans HL.out.2.2.2.2 (Nat.le_trans HK1.out.size hk2.size)⟩, rfl, ?_⟩
    · have := insS_len ⟨ky.1, ky.2, true, d, HDZ.out⟩ s.st
      have := HL.out.2.2.2.1
      show (insS ⟨ky.1, ky.2, true, d, HDZ.out⟩ s.st).length ≤ K + 1
      omega
    · exact Kept.trans (Kept.trans HK.out.1 HK1.out (fun _ _ f => f.elim) (fun j _ e => HJ.out j e)) hk2 (fun _ _ e => e) (fun j _ e => by rw [e]; exact HR1.out.np))
  clear HST hr2 hk2 c0 c1 c2 c3 c4 c5 c6 c7
  go_wp2_with fail
  go_ret
  exact ⟨rfl, HF.out⟩

set_option maxRecDepth 100000 in
set_option maxHeartbeats 4000000 in
theorem vstep4 (h : T13 K N w p J M rp s) (hK : K + 1 ≤ 100000) (o : Ov) (ho : OvOk w (fun k => k < N) o) (hk : o.k = 4) : Calls Try.prog 8 #[.pointer (some ⟨p, 0, none⟩), .pointer (some ⟨rp, 0, none⟩), .agg (ovC o).toArray] w fun e w' => e = .returned (.bool true) ∧ S13 (K + 1) N w p J M.t rp w' := by
  obtain ⟨k, ky, bx, d, ca, cn, cc, cs⟩ := o
  obtain rfl : k = 4 := hk
  show Calls Try.prog 8 #[.pointer (some ⟨p, 0, none⟩), .pointer (some ⟨rp, 0, none⟩), .agg #[.int .i64 4, .string ky.1.tn, .string ky.1.ar, .string ky.2.s, .string bx.tn, .string bx.ar, .string d, .slice ca cn cc]] w _
  obtain ⟨wA, hwA⟩ : ∃ W, W = w.alloc (.cells #[.int .i64 4, .string ky.1.tn, .string ky.1.ar, .string ky.2.s, .string bx.tn, .string bx.ar, .string d, .slice ca cn cc] 29) := ⟨_, rfl⟩
  obtain ⟨xb, hxb⟩ : ∃ y, y = w.heap.size := ⟨_, rfl⟩
  have hka : Same w wA := by rw [hwA]; exact (Kept.refl _ w).alloc _
  have HB : Hid (OvBk wA xb ⟨4, ky, bx, d, ca, cn, cc, cs⟩) := hid (by rw [hwA, hxb]; exact Blk.new w _ _)
  have HT : Hid (T13 K N wA p J M rp s) := hid (h.same hka)
  have HO : Hid (OvOk wA (fun k => k < N) ⟨4, ky, bx, d, ca, cn, cc, cs⟩) := hid (ho.kept hka (fun _ _ _ f => f))
  have HN : Hid (N ≤ w.heap.size) := hid (by obtain ⟨_, _, _, h9⟩ := h; exact h9.2.2.2.2.2.2.2)
  have HK : Hid (Same w wA ∧ K + 1 ≤ 100000 ∧ xb = w.heap.size) := hid ⟨hka, hK, hxb⟩
  have hdz : d.size ≤ maxLen := ho.dz
  have HDZ := hid hdz
  obtain ⟨c0, c1, c2, c3, c4, c5, c6, c7⟩ := HB.out.cells
  clear h hka ho hK
  rw [hwA, hxb] at c0 c1 c2 c3 c4 c5 c6 c7
  obtain ⟨v1, v2, v3, hx, hr, hJ, hrel, hl1, hl2, hl3, hNA⟩ := HT.out
  have HX := hid hx
  have HR := hid hr
  have HJ : Hid (∀ k, J k → N ≤ k) := hJ
  have HL : Hid (Rel13 M s ∧ s.rs.length ≤ K ∧ s.ls.length ≤ K ∧ s.st.length ≤ K ∧ N ≤ wA.heap.size) := hid ⟨hrel, hl1, hl2, hl3, hNA⟩
  clear hx hr hJ hrel hl1 hl2 hl3 hNA hdz
  go_enter Try.func8, Try.ntmps8
  go_wp2_with fail
  rw [← hwA, ← hxb]
  clear hwA hxb c0 c1 c2 c3 c4 c5 c6 c7
  refine (xvdel HX.out ky HK.out.2.1).mono ?_
  rintro e w1 ⟨rfl, hx1, hk1⟩
  have HX1 := hid hx1
  have HK1 : Hid (Kept J wA w1) := hk1
  have HR1 := hid (HR.out.keptJ HX.out hk1)
  clear hx1 hk1
  obtain ⟨c0, c1, c2, c3, c4, c5, c6, c7⟩ := (show OvBk w1 xb _ from HB.out.kept HK1.out (HX.out.off_blk HB.out (by decide))).cells
  simp only at c0 c1 c2 c3 c4 c5 c6 c7
  have HST := rstage_any HR1.out (Nat.le_trans HL.out.2.2.2.2 HK1.out.size) (by have := HL.out.2.2.2.1; have := HK.out.2.1; omega) ⟨ky.1, ky.2, false, ⟨#[]⟩, by decide⟩
  go_wp2_with fail
  refine HST.mono ?_
  rintro e w2 ⟨rfl, v3', hr2, hk2⟩
  have HF : Hid (S13 (K + 1) N w p J M.t rp w2) := hid (by
    refine ⟨stM M ⟨ky.1, ky.2, false, ⟨#[]⟩, by decide⟩, _, ⟨v1, v2, v3', HX1.out.kept hk2 (fun j h1 e => HX1.out.off_blk HR1.out.blk (by decide) (by rw [← e]; exact h1)), hr2, HJ.out, HL.out.1.stage ⟨ky.1, ky.2, false, ⟨#[]⟩, by decide⟩, by have := HL.out.2.1; show s.rs.length ≤ K + 1; omega, by have := HL.out.2.2.1; show s.ls.length ≤ K + 1; omega, ?_, Nat.le_trans HL.out.2.2.2.2 (Nat.le_trans HK1.out.size hk2.size)⟩, rfl, ?_⟩
    · have := insS_len ⟨ky.1, ky.2, false, ⟨#[]⟩, by decide⟩ s.st
      have := HL.out.2.2.2.1
      show (insS ⟨ky.1, ky.2, false, ⟨#[]⟩, by decide⟩ s.st).length ≤ K + 1
      omega
    · exact Kept.trans (Kept.trans HK.out.1 HK1.out (fun _ _ f => f.elim) (fun j _ e => HJ.out j e)) hk2 (fun _ _ e => e) (fun j _ e => by rw [e]; exact HR1.out.np))
  clear HST hr2 hk2 c0 c1 c2 c3 c4 c5 c6 c7
  go_wp2_with fail
  go_ret
  exact ⟨rfl, HF.out⟩

set_option maxRecDepth 100000 in
set_option maxHeartbeats 4000000 in
theorem vstep1 (h : T13 K N w p J M rp s) (hK : K + 1 ≤ 100000) (o : Ov) (ho : OvOk w (fun k => k < N) o) (hk : o.k = 1) : Calls Try.prog 8 #[.pointer (some ⟨p, 0, none⟩), .pointer (some ⟨rp, 0, none⟩), .agg (ovC o).toArray] w fun e w' => e = .returned (.bool true) ∧ S13 (K + 1) N w p J M.t rp w' := by
  obtain ⟨k, ky, bx, d, ca, cn, cc, cs⟩ := o
  obtain rfl : k = 1 := hk
  show Calls Try.prog 8 #[.pointer (some ⟨p, 0, none⟩), .pointer (some ⟨rp, 0, none⟩), .agg #[.int .i64 1, .string ky.1.tn, .string ky.1.ar, .string ky.2.s, .string bx.tn, .string bx.ar, .string d, .slice ca cn cc]] w _
  obtain ⟨wA, hwA⟩ : ∃ W, W = w.alloc (.cells #[.int .i64 1, .string ky.1.tn, .string ky.1.ar, .string ky.2.s, .string bx.tn, .string bx.ar, .string d, .slice ca cn cc] 29) := ⟨_, rfl⟩
  obtain ⟨xb, hxb⟩ : ∃ y, y = w.heap.size := ⟨_, rfl⟩
  have hka : Same w wA := by rw [hwA]; exact (Kept.refl _ w).alloc _
  have HB : Hid (OvBk wA xb ⟨1, ky, bx, d, ca, cn, cc, cs⟩) := hid (by rw [hwA, hxb]; exact Blk.new w _ _)
  have HT : Hid (T13 K N wA p J M rp s) := hid (h.same hka)
  have HO : Hid (OvOk wA (fun k => k < N) ⟨1, ky, bx, d, ca, cn, cc, cs⟩) := hid (ho.kept hka (fun _ _ _ f => f))
  have HN : Hid (N ≤ w.heap.size) := hid (by obtain ⟨_, _, _, h9⟩ := h; exact h9.2.2.2.2.2.2.2)
  have HK : Hid (Same w wA ∧ K + 1 ≤ 100000 ∧ xb = w.heap.size) := hid ⟨hka, hK, hxb⟩
  have hdz : d.size ≤ maxLen := ho.dz
  have HDZ := hid hdz
  obtain ⟨c0, c1, c2, c3, c4, c5, c6, c7⟩ := HB.out.cells
  clear h hka ho hK
  rw [hwA, hxb] at c0 c1 c2 c3 c4 c5 c6 c7
  obtain ⟨v1, v2, v3, hx, hr, hJ, hrel, hl1, hl2, hl3, hNA⟩ := HT.out
  have HX := hid hx
  have HR := hid hr
  have HJ : Hid (∀ k, J k → N ≤ k) := hJ
  have HL : Hid (Rel13 M s ∧ s.rs.length ≤ K ∧ s.ls.length ≤ K ∧ s.st.length ≤ K ∧ N ≤ wA.heap.size) := hid ⟨hrel, hl1, hl2, hl3, hNA⟩
  clear hx hr hJ hrel hl1 hl2 hl3 hNA hdz
  go_enter Try.func8, Try.ntmps8
  go_wp2_with fail
  rw [← hwA, ← hxb]
  clear hwA hxb c0 c1 c2 c3 c4 c5 c6 c7
  refine (xvread HX.out ky HK.out.2.1).mono ?_
  rintro e w1 ⟨rfl, hx1, hk1⟩
  have HX1 := hid hx1
  have HK1 : Hid (Kept J wA w1) := hk1
  have HR1 := hid (HR.out.keptJ HX.out hk1)
  clear hx1 hk1
  obtain ⟨c0, c1, c2, c3, c4, c5, c6, c7⟩ := (show OvBk w1 xb _ from HB.out.kept HK1.out (HX.out.off_blk HB.out (by decide))).cells
  simp only at c0 c1 c2 c3 c4 c5 c6 c7
  obtain ⟨a9, q9, hv9, _⟩ := HR1.out.r1.shape
  obtain ⟨l9, hl9⟩ : ∃ n, n = s.rs.length := ⟨_, rfl⟩
  rw [← hl9] at hv9
  subst hv9
  have HRW : Hid (∀ w', Same w1 w' → RowC N 24 3 keE w' (.slice a9 l9 q9) s.rs) := hid (fun w' hk => (HR1.out.same hk).r1)
  have d3 : w1.cell? ⟨rp, 1, none⟩ = some (.slice a9 l9 q9) := HR1.out.blk.cell 1
  have z3 : w1.frozen? ⟨rp, 1, none⟩ = false := HR1.out.blk.frozen 1
  have HBK := hid HR1.out.blk
  have d3a : (w1.alloc (.cells #[.string ky.1.tn, .string ky.1.ar, .string ky.2.s] 24)).cell? ⟨rp, 1, none⟩ = some (.slice a9 l9 q9) := (show Same w1 _ from (Kept.refl _ _).alloc _).cell d3 (fun f => f)
  have HOD : Hid (∀ k, (Value.slice a9 l9 q9).ownBlock = some k → k ≠ rp) := hid (fun k e e2 => rowKey_ne HR1.out.r1 HR1.out.blk (by decide) (by rw [← e2]; exact e))
  have HSZ : Hid (N ≤ w1.heap.size) := hid (Nat.le_trans HL.out.2.2.2.2 HK1.out.size)
  clear hl9
  go_upto_region 11 with fail
  go_region_law (refine step_append_13 keE 3 keE_ok N 33 24 (.agg #[.string ⟨#[]⟩, .string ⟨#[]⟩, .string ⟨#[]⟩]) 48 Try.underlying33 Try.infoKe rfl (by decide) (by rfl) (.tmp 50) (.tmp 53) (by rfl) (.slice a9 l9 q9) s.rs (by rfl) (HRW.out _ (by first | exact ((Kept.refl _ _).drew).alloc _ | exact ((Kept.refl _ _).alloc _).drew | exact (Kept.refl _ _).alloc _)) ⟨w1.heap.size, 0, none⟩ 1 1 [ky] (by rfl) (by rfl) (cellsAt_ke _ ky) (by have := HL.out; have := HK.out.2.1; simp; omega) (by have := HSZ.out; simp; omega) ?_; intro v5 w5 hr5 hg5; have hk5 : Kept (fun k => (Value.slice a9 l9 q9).ownBlock = some k) w1 w5 := Kept.trans (show Same w1 (w1.alloc (.cells #[.string ky.1.tn, .string ky.1.ar, .string ky.2.s] 24)).drew from ((Kept.refl _ _).alloc _).drew) ((Kept.refl _ _).grown hg5 (fun k e => .inl e)) (fun _ _ f => f.elim) (fun _ _ e => e); have z5 := (HBK.out.kept hk5 (fun e => HOD.out rp e rfl)).frozen 1; have d5 := (HBK.out.kept hk5 (fun e => HOD.out rp e rfl)).cell 1; simp at d5; obtain ⟨a5, n5, q5, e5⟩ : ∃ a n q, v5 = Value.slice a n q := (by obtain ⟨a, q, e, _⟩ := hr5.shape; exact ⟨a, _, q, e⟩); subst e5; clear hg5)
  all_goals
    have HF : Hid (S13 (K + 1) N w p J M.t rp (w5.setCell ⟨rp, 1, none⟩ (.slice a5 n5 q5))) := hid (by
      have hkp : Kept (fun k => k = rp) w5 (w5.setCell ⟨rp, 1, none⟩ (.slice a5 n5 q5)) := (Kept.refl _ w5).setCell _ _ (.inl rfl)
      have hk6 : Kept (fun k => (Value.slice a9 l9 q9).ownBlock = some k ∨ k = rp) w1 (w5.setCell ⟨rp, 1, none⟩ (.slice a5 n5 q5)) := Kept.trans hk5 hkp (fun _ _ e => .inl e) (fun _ _ e => .inr e)
      have hbb := HR1.out.blk.kept hk5 (fun e => HOD.out rp e rfl)
      refine ⟨rdM M ky, { s with rs := s.rs ++ [ky] }, ⟨.slice a5 n5 q5, v2, v3, HX1.out.kept hk6 (fun j h1 e => ?_), ?_, HJ.out, HL.out.1.read ky, ?_, ?_, ?_, Nat.le_trans HSZ.out hk6.size⟩, rfl, ?_⟩
      · rcases e with e | e
        · exact HX1.out.off_row HR1.out.r1 (by decide) e h1
        · subst e; exact HX1.out.off_blk HR1.out.blk (by decide) h1
      · exact { blk := by have h9 := hbb.set 1 (.slice a5 n5 q5); simpa using h9, r1 := ((show RowC N _ _ _ w5 _ _ from hr5).kept hkp (fun j e e2 => by subst e2; exact rowKey_ne (show RowC N _ _ _ w5 _ _ from hr5) hbb (by decide) e)), r2 := (HR1.out.r2.kept hk6 (fun j e e2 => e2.elim (fun e3 => rowT_ne HR1.out.r2 HR1.out.r1 (by decide) e e3) (fun e3 => rowKey_ne HR1.out.r2 HR1.out.blk (by decide) (by rw [← e3]; exact e)))), r3 := (HR1.out.r3.kept hk6 (fun j e e2 => e2.elim (fun e3 => rowT_ne HR1.out.r3 HR1.out.r1 (by decide) e e3) (fun e3 => rowKey_ne HR1.out.r3 HR1.out.blk (by decide) (by rw [← e3]; exact e)))), np := HR1.out.np, lens := ⟨by have := HL.out.2.1; have := HK.out.2.1; show (s.rs ++ [ky]).length ≤ 100000; simp; omega, HR1.out.lens.2.1, HR1.out.lens.2.2⟩ }
      · have := HL.out.2.1; show (s.rs ++ [ky]).length ≤ K + 1; simp; omega
      · have := HL.out.2.2.1; show s.ls.length ≤ K + 1; omega
      · have := HL.out.2.2.2.1; show s.st.length ≤ K + 1; omega
      · refine Kept.trans (Kept.trans HK.out.1 HK1.out (fun _ _ f => f.elim) (fun j _ e => HJ.out j e)) hk6 (fun _ _ e => e) (fun j _ e => ?_)
        rcases e with e | e
        · exact HR1.out.r1.ge e
        · rw [e]; exact HR1.out.np)
    clear hr5 hk5 z5 d5
    go_wp2_with fail
    go_ret
    exact ⟨rfl, HF.out⟩

set_option maxRecDepth 100000 in
set_option maxHeartbeats 4000000 in
theorem vstep2 (h : T13 K N w p J M rp s) (hK : K + 1 ≤ 100000) (o : Ov) (ho : OvOk w (fun k => k < N) o) (hk : o.k = 2) : Calls Try.prog 8 #[.pointer (some ⟨p, 0, none⟩), .pointer (some ⟨rp, 0, none⟩), .agg (ovC o).toArray] w fun e w' => e = .returned (.bool true) ∧ S13 (K + 1) N w p J M.t rp w' := by
  obtain ⟨k, ky, bx, d, ca, cn, cc, cs⟩ := o
  obtain rfl : k = 2 := hk
  show Calls Try.prog 8 #[.pointer (some ⟨p, 0, none⟩), .pointer (some ⟨rp, 0, none⟩), .agg #[.int .i64 2, .string ky.1.tn, .string ky.1.ar, .string ky.2.s, .string bx.tn, .string bx.ar, .string d, .slice ca cn cc]] w _
  obtain ⟨wA, hwA⟩ : ∃ W, W = w.alloc (.cells #[.int .i64 2, .string ky.1.tn, .string ky.1.ar, .string ky.2.s, .string bx.tn, .string bx.ar, .string d, .slice ca cn cc] 29) := ⟨_, rfl⟩
  obtain ⟨xb, hxb⟩ : ∃ y, y = w.heap.size := ⟨_, rfl⟩
  have hka : Same w wA := by rw [hwA]; exact (Kept.refl _ w).alloc _
  have HB : Hid (OvBk wA xb ⟨2, ky, bx, d, ca, cn, cc, cs⟩) := hid (by rw [hwA, hxb]; exact Blk.new w _ _)
  have HT : Hid (T13 K N wA p J M rp s) := hid (h.same hka)
  have HO : Hid (OvOk wA (fun k => k < N) ⟨2, ky, bx, d, ca, cn, cc, cs⟩) := hid (ho.kept hka (fun _ _ _ f => f))
  have HN : Hid (N ≤ w.heap.size) := hid (by obtain ⟨_, _, _, h9⟩ := h; exact h9.2.2.2.2.2.2.2)
  have HK : Hid (Same w wA ∧ K + 1 ≤ 100000 ∧ xb = w.heap.size) := hid ⟨hka, hK, hxb⟩
  have hdz : d.size ≤ maxLen := ho.dz
  have HDZ := hid hdz
  obtain ⟨c0, c1, c2, c3, c4, c5, c6, c7⟩ := HB.out.cells
  clear h hka ho hK
  rw [hwA, hxb] at c0 c1 c2 c3 c4 c5 c6 c7
  obtain ⟨v1, v2, v3, hx, hr, hJ, hrel, hl1, hl2, hl3, hNA⟩ := HT.out
  have HX := hid hx
  have HR := hid hr
  have HJ : Hid (∀ k, J k → N ≤ k) := hJ
  have HL : Hid (Rel13 M s ∧ s.rs.length ≤ K ∧ s.ls.length ≤ K ∧ s.st.length ≤ K ∧ N ≤ wA.heap.size) := hid ⟨hrel, hl1, hl2, hl3, hNA⟩
  clear hx hr hJ hrel hl1 hl2 hl3 hNA hdz
  go_enter Try.func8, Try.ntmps8
  go_wp2_with fail
  rw [← hwA, ← hxb]
  clear hwA hxb c0 c1 c2 c3 c4 c5 c6 c7
  refine (xvlist HX.out bx HK.out.2.1).mono ?_
  rintro e w1 ⟨rfl, hx1, hk1⟩
  have HX1 := hid hx1
  have HK1 : Hid (Kept J wA w1) := hk1
  have HR1 := hid (HR.out.keptJ HX.out hk1)
  clear hx1 hk1
  obtain ⟨c0, c1, c2, c3, c4, c5, c6, c7⟩ := (show OvBk w1 xb _ from HB.out.kept HK1.out (HX.out.off_blk HB.out (by decide))).cells
  simp only at c0 c1 c2 c3 c4 c5 c6 c7
  obtain ⟨a9, q9, hv9, _⟩ := HR1.out.r2.shape
  obtain ⟨l9, hl9⟩ : ∃ n, n = s.ls.length := ⟨_, rfl⟩
  rw [← hl9] at hv9
  subst hv9
  have HRW : Hid (∀ w', Same w1 w' → RowC N 26 2 bxC w' (.slice a9 l9 q9) s.ls) := hid (fun w' hk => (HR1.out.same hk).r2)
  have d3 : w1.cell? ⟨rp, 2, none⟩ = some (.slice a9 l9 q9) := HR1.out.blk.cell 2
  have z3 : w1.frozen? ⟨rp, 2, none⟩ = false := HR1.out.blk.frozen 2
  have HBK := hid HR1.out.blk
  have d3a : (w1.alloc (.cells #[.string bx.tn, .string bx.ar] 26)).cell? ⟨rp, 2, none⟩ = some (.slice a9 l9 q9) := (show Same w1 _ from (Kept.refl _ _).alloc _).cell d3 (fun f => f)
  have HOD : Hid (∀ k, (Value.slice a9 l9 q9).ownBlock = some k → k ≠ rp) := hid (fun k e e2 => rowKey_ne HR1.out.r2 HR1.out.blk (by decide) (by rw [← e2]; exact e))
  have HSZ : Hid (N ≤ w1.heap.size) := hid (Nat.le_trans HL.out.2.2.2.2 HK1.out.size)
  clear hl9
  go_upto_region 14 with fail
  go_region_law (refine step_append_13 bxC 2 bxC_ok N 34 26 (.agg #[.string ⟨#[]⟩, .string ⟨#[]⟩]) 32 Try.underlying34 Try.infoBx13 rfl (by decide) (by rfl) (.tmp 67) (.tmp 70) (by rfl) (.slice a9 l9 q9) s.ls (by rfl) (HRW.out _ (by first | exact ((Kept.refl _ _).drew).alloc _ | exact ((Kept.refl _ _).alloc _).drew | exact (Kept.refl _ _).alloc _)) ⟨w1.heap.size, 0, none⟩ 1 1 [bx] (by rfl) (by rfl) (cellsAt_bx _ bx) (by have := HL.out; have := HK.out.2.1; simp; omega) (by have := HSZ.out; simp; omega) ?_; intro v5 w5 hr5 hg5; have hk5 : Kept (fun k => (Value.slice a9 l9 q9).ownBlock = some k) w1 w5 := Kept.trans (show Same w1 (w1.alloc (.cells #[.string bx.tn, .string bx.ar] 26)).drew from ((Kept.refl _ _).alloc _).drew) ((Kept.refl _ _).grown hg5 (fun k e => .inl e)) (fun _ _ f => f.elim) (fun _ _ e => e); have z5 := (HBK.out.kept hk5 (fun e => HOD.out rp e rfl)).frozen 2; have d5 := (HBK.out.kept hk5 (fun e => HOD.out rp e rfl)).cell 2; simp at d5; obtain ⟨a5, n5, q5, e5⟩ : ∃ a n q, v5 = Value.slice a n q := (by obtain ⟨a, q, e, _⟩ := hr5.shape; exact ⟨a, _, q, e⟩); subst e5; clear hg5)
  all_goals
    have HF : Hid (S13 (K + 1) N w p J M.t rp (w5.setCell ⟨rp, 2, none⟩ (.slice a5 n5 q5))) := hid (by
      have hkp : Kept (fun k => k = rp) w5 (w5.setCell ⟨rp, 2, none⟩ (.slice a5 n5 q5)) := (Kept.refl _ w5).setCell _ _ (.inl rfl)
      have hk6 : Kept (fun k => (Value.slice a9 l9 q9).ownBlock = some k ∨ k = rp) w1 (w5.setCell ⟨rp, 2, none⟩ (.slice a5 n5 q5)) := Kept.trans hk5 hkp (fun _ _ e => .inl e) (fun _ _ e => .inr e)
      have hbb := HR1.out.blk.kept hk5 (fun e => HOD.out rp e rfl)
      refine ⟨lsM M bx, { s with ls := s.ls ++ [bx] }, ⟨v1, .slice a5 n5 q5, v3, HX1.out.kept hk6 (fun j h1 e => ?_), ?_, HJ.out, HL.out.1.list bx, ?_, ?_, ?_, Nat.le_trans HSZ.out hk6.size⟩, rfl, ?_⟩
      · rcases e with e | e
        · exact HX1.out.off_row HR1.out.r2 (by decide) e h1
        · subst e; exact HX1.out.off_blk HR1.out.blk (by decide) h1
      · exact { blk := by have h9 := hbb.set 2 (.slice a5 n5 q5); simpa using h9, r1 := (HR1.out.r1.kept hk6 (fun j e e2 => e2.elim (fun e3 => rowT_ne HR1.out.r1 HR1.out.r2 (by decide) e e3) (fun e3 => rowKey_ne HR1.out.r1 HR1.out.blk (by decide) (by rw [← e3]; exact e)))), r2 := ((show RowC N _ _ _ w5 _ _ from hr5).kept hkp (fun j e e2 => by subst e2; exact rowKey_ne (show RowC N _ _ _ w5 _ _ from hr5) hbb (by decide) e)), r3 := (HR1.out.r3.kept hk6 (fun j e e2 => e2.elim (fun e3 => rowT_ne HR1.out.r3 HR1.out.r2 (by decide) e e3) (fun e3 => rowKey_ne HR1.out.r3 HR1.out.blk (by decide) (by rw [← e3]; exact e)))), np := HR1.out.np, lens := ⟨HR1.out.lens.1, by have := HL.out.2.2.1; have := HK.out.2.1; show (s.ls ++ [bx]).length ≤ 100000; simp; omega, HR1.out.lens.2.2⟩ }
      · have := HL.out.2.1; show s.rs.length ≤ K + 1; omega
      · have := HL.out.2.2.1; show (s.ls ++ [bx]).length ≤ K + 1; simp; omega
      · have := HL.out.2.2.2.1; show s.st.length ≤ K + 1; omega
      · refine Kept.trans (Kept.trans HK.out.1 HK1.out (fun _ _ f => f.elim) (fun j _ e => HJ.out j e)) hk6 (fun _ _ e => e) (fun j _ e => ?_)
        rcases e with e | e
        · exact HR1.out.r2.ge e
        · rw [e]; exact HR1.out.np)
    clear hr5 hk5 z5 d5
    go_wp2_with fail
    go_ret
    exact ⟨rfl, HF.out⟩

end

end Go.Proofs.Ytlfibbghkdbomaa
