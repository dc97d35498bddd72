/-
  Of the proof: parts TxY, TxZ, TyA, TyH, TyI, TyB.
-/
import Derived.Test.YtapcjmnibkoegaaGreatDoorJ42
import Derived.Test.YtapcjmnibkoegaaGreatDoorJ39
import Derived.Test.YtapcjmnibkoegaaGreatDoorJ40
import Derived.Test.YtapcjmnibkoegaaGreatDoorJ41

/-
  Layer 14: Commit, whole.
-/
namespace Go.Proofs.YtapcjmnibkoegaaGreatDoor
open Go.RowKit Go.Maps Go.Sort Go.Shelf

theorem CkR.err {M : Mst} {c : Tc} {n : Nb} {t er : Int} {xs : List Wr} (h : CkR M c n t er xs) (hx : xs ≠ []) : er = 0 ∧ t = M.now := by
  rcases h with ⟨_, _, _, e⟩ | ⟨q, ys, _, _, _, h⟩
  · exact absurd e hx
  · rcases h with ⟨_, _, _, e⟩ | ⟨_, _, _, _, e⟩ | ⟨_, _, D, _, h⟩
    · exact absurd e hx
    · exact absurd e hx
    · rcases h with ⟨_, _, _, e⟩ | ⟨_, e1, e2, _⟩
      · exact absurd e hx
      · exact ⟨e1, e2⟩

theorem com_end {K N : Nat} {w wk w5 : World} {p : Nat} {M : Mst} {bg : Int} {c : Tc} {τ : Nat → Nat} {y : Cm} {g : Nat} {a3 a5 : Option Addr} {n3 q3 n5 q5 : Nat}
    (hP : ∃ ρ' τ1, Tk (K + 3 * y.ws.length) N wk p (putM M (M.now + 1) y.ws) bg { c with ρ := ρ' } τ1 ∧ (∀ k, k < w.heap.size → τ1 k = τ k) ∧ (∀ k, (Value.slice y.a y.n y.c).ownBlock = some k → τ1 k = 0 ∧ w.heap.size ≤ k) ∧ τ1 g = 0 ∧ RowC N 65 5 wrE wk (.slice y.a y.n y.c) y.ws ∧ Kept (fun k => τ k ≠ 0) w wk ∧ Blk wk g #[.int .i64 y.t, .slice y.a y.n y.c] 59 ∧ g < wk.heap.size)
    (hcv : c.cv = .slice a3 n3 q3) (hg : w.heap.size ≤ g) (hr1 : τ p = 1) (hpw : p < w.heap.size) (hne : y.ws ≠ []) (hcl : c.cl.length ≤ K) (_hτ : ∀ k, τ k ≠ 0 → k < w.heap.size) (_hr4 : ∀ k, c.cv.ownBlock = some k → τ k = 4)
    (h5 : RowC N 59 2 cmC w5 (.slice a5 n5 q5) (c.cl ++ [y]) ∧ Kept (fun k => (Value.slice a3 n3 q3).ownBlock = some k) wk w5 ∧ ∀ j, (Value.slice a5 n5 q5).ownBlock = some j → (Value.slice a3 n3 q3).ownBlock = some j ∨ wk.heap.size ≤ j) :
    ∃ ρ' τ2, Tk (K + 3 * y.ws.length) N (w5.setCell ⟨p, 3, none⟩ (.slice a5 n5 q5)) p (putM M (M.now + 1) y.ws) bg { c with ρ := ρ', cv := .slice a5 n5 q5, cl := c.cl ++ [y] } τ2 ∧ (∀ k, k < w.heap.size → τ2 k = τ k) ∧ Kept (fun k => τ k ≠ 0) w (w5.setCell ⟨p, 3, none⟩ (.slice a5 n5 q5)) ∧ τ2 g = 0 ∧ Blk (w5.setCell ⟨p, 3, none⟩ (.slice a5 n5 q5)) g #[.int .i64 y.t, .slice y.a y.n y.c] 59 := by
  obtain ⟨ρ', τ1, a1, a2, a3', a4, a5', a6, a7, a8⟩ := hP
  obtain ⟨k1, k2, k3⟩ := h5
  have ho4 : ∀ k, (Value.slice a3 n3 q3).ownBlock = some k → τ1 k = 4 := fun k e => a1.r4 k (by show c.cv.ownBlock = some k; rw [hcv]; exact e)
  have hblk : Blk wk p #[.pointer (some ⟨c.ps, 0, none⟩), .int .i64 bg, .map (some c.mo), .slice a3 n3 q3] 91 := by rw [← hcv]; exact a1.blk
  have hb5 := hblk.kept k2 (fun e => by have := ho4 p e; rw [a1.r1] at this; cases this)
  have hbF : Blk (w5.setCell ⟨p, 3, none⟩ (.slice a5 n5 q5)) p #[.pointer (some ⟨c.ps, 0, none⟩), .int .i64 bg, .map (some c.mo), .slice a5 n5 q5] 91 := by
    have h9 := hb5.set 3 (.slice a5 n5 q5)
    simpa using h9
  have hks : Kept (· = p) w5 (w5.setCell ⟨p, 3, none⟩ (.slice a5 n5 q5)) := (Kept.refl (· = p) w5).setCell _ _ (.inl rfl)
  have hkk : Kept (fun k => k = p ∨ τ1 k = 4) wk (w5.setCell ⟨p, 3, none⟩ (.slice a5 n5 q5)) := Kept.trans k2 hks (fun k _ e => .inr (ho4 k e)) (fun k _ e => .inl e)
  have hl1 : 1 ≤ y.ws.length := by cases hy : y.ws with | nil => exact absurd hy hne | cons => simp
  obtain ⟨τ2, b1, b2⟩ := a1.addCl (cv := .slice a5 n5 q5) (y := y) hbF (k1.kept hks (fun k e e2 => k1.off14 hb5 (by decide) (by rw [← e2]; exact e))) a5' (fun k e => (a3' k e).1) (by show c.cl.length + 1 ≤ _; omega) (fun k e => (k3 k e).imp (ho4 k) id) hkk
  have hgp : ¬ (g = p ∨ τ1 g = 4) := fun e => by
    rcases e with e | e
    · omega
    · rw [a4] at e; cases e
  refine ⟨ρ', τ2, b1, fun k hk => ?_, ?_, ?_, ?_⟩
  · rw [b2 k (Nat.lt_of_lt_of_le hk a6.size) (fun e => by have := (a3' k e).2; omega)]
    exact a2 k hk
  · refine Kept.trans a6 hkk (fun _ _ e => e) (fun k hk e => ?_)
    rcases e with e | e
    · rw [e, hr1]; decide
    · rw [← a2 k hk, e]; decide
  · rw [b2 g a8 (fun e => a5'.off14 a7 (by decide) e)]; exact a4
  · exact a7.kept hkk hgp

end Go.Proofs.YtapcjmnibkoegaaGreatDoor

/-
  Layer 14: Commit, walked.
-/
namespace Go.Proofs.YtapcjmnibkoegaaGreatDoor
open Go.RowKit Go.Maps Go.Sort Go.Shelf

set_option maxRecDepth 100000 in
set_option maxHeartbeats 4000000 in
theorem tcommit_any {K N : Nat} {w : World} {p : Nat} {M : Mst} {bg : Int} {c : Tc} {τ : Nat → Nat} (h : Tk K N w p M bg c τ) (n : Nb) (hs : ∀ x ∈ c.L, 0 ≤ (c.mv x.2).t ∧ (c.mv x.2).t ≤ M.now - 1 ∧ M.now - 1 - (c.mv x.2).t ≤ c.cl.length) (hnum : ∀ y ∈ c.cl, -9223372036854775808 ≤ y.t ∧ y.t ≤ 9223372036854775807) (hn0 : 1 ≤ M.now ∧ M.now ≤ 9223372036854775805) (hK : ∀ t er xs, CkR M c n t er xs → K + 3 * xs.length ≤ 100000) :
    Calls Tryz.prog 18 #[.pointer (some ⟨p, 0, none⟩), .int .i64 n.v] w fun e w' => ComA K N w p M bg c τ n e w' := by
  have HF := tfind_any h n
  have HCK := tcheck_any h n hs hnum (by omega)
  cases hg : getK n c.L with
  | none =>
    rw [hg] at HF
    change Calls _ _ _ _ (fun e w' => e = .returned (.tuple #[.pointer none, .int .i64 140]) ∧ w' = w) at HF
    have HG : Hid (getK n c.L = none) := hg
    clear h hg HCK hs hn0 hnum hK
    go_enter Tryz.func18, Tryz.ntmps18
    go_wp2_with fail
    refine HF.mono ?_
    rintro e w1 ⟨rfl, rfl⟩
    go_wp2_with fail
    go_ret2
    exact .inl ⟨HG.out, rfl, Kept.refl _ _⟩
  | some q =>
    rw [hg] at HF
    change Calls _ _ _ _ (fun e w' => e = .returned (.tuple #[.pointer (some ⟨q, 0, none⟩), .int .i64 0]) ∧ w' = w) at HF
    have HG : Hid (getK n c.L ≠ none) := hid (by rw [hg]; exact fun e => by cases e)
    have HT := hid h
    have HS := hid hs
    have HN0 := hid hn0
    have HKK0 := hid hK
    clear h hg hs hnum hn0 hK
    go_enter Tryz.func18, Tryz.ntmps18
    go_wp2_with fail
    refine HF.mono ?_
    rintro e w1 ⟨rfl, hw1⟩
    have hw9 := hw1.symm
    subst hw9
    clear HF
    go_wp2_with fail
    refine HCK.mono ?_
    rintro e w1 ⟨hk1, t, a, m, cap, er, xs, rfl, hR, hrow⟩
    have HK1 := hid hk1
    have HR := hid hR
    have HRW := hid hrow
    have HML : Hid (m = xs.length) := hid (by
      obtain ⟨ao, cp, e, _⟩ := hrow.shape
      injection e)
    clear HCK hk1 hR hrow
    go_upto_region 5 with (first
      | (with_reducible refine at_alloc 59 8 ?_; refine wpl_alloc 59 _ Tryz.zeroCm ?_; intro w3 g8 hB3 hk3 hg3 hl3; have HB3 := hid hB3; have HK3 := hid hk3; clear hB3 hk3)
      | (with_reducible refine at_store 59 8 ?_; refine wpl_store 59 2 Tryz.sizeCm rfl (cells := [.int .i64 t, .slice a m cap]) rfl HB3.out rfl rfl (by simp [Value.oneCell']) ?_; intro w4 hB4 hk4 hs4; have HK4 : Hid (Same w1 w4) := hid (HK3.out.then hk4 (fun x hx e => by omega)); have HB4 := hid hB4; clear hB4 hk4 hs4 HB3 HK3))
    have HK4w := hid (HK1.out.trans HK4.out)
    have HR4 := hid (HRW.out.kept HK4.out (fun _ _ f => f))
    have hg8 : w.heap.size ≤ g8 := by have := HK1.out.size; omega
    have f0 := HB4.out.cell 0
    have f1 := HB4.out.cell 1
    simp only [List.getElem?_toArray, List.getElem?_cons_zero, List.getElem?_cons_succ] at f0 f1
    by_cases hx : xs = []
    · have HX := hid hx
      have hm0 : m = 0 := by rw [HML.out, hx]; rfl
      subst hm0
      have HEN := tend_any (HT.out.same HK4w.out) n HS.out (by have := HN0.out; omega)
      have HZ8 : Hid (¬ τ g8 ≠ 0) := hid (fun e => e (HT.out.zero hg8))
      clear hx
      by_cases he : er = 0
      · subst he
        go_wp2_with fail
        refine HEN.mono ?_
        intro e w7 hE
        have HEE := hid hE
        obtain ⟨rfl, _, _, _, _, _, _, _, _, _, _, hk7⟩ := hE
        have f7 := hk7.cell f0 HZ8.out
        clear hk7 f0 f1 HEN
        go_wp2_with fail
        go_ret2
        refine .inr ⟨HG.out, t, 0, xs, HR.out, rfl, w4, c, τ, ?_, rfl, rfl, rfl, .inl ⟨HX.out, rfl⟩, fun _ _ => rfl, HK4w.out.mono (fun _ _ f => f.elim), HK4w.out.size⟩
        rw [if_pos HX.out, HX.out]
        exact HEE.out
      · have e0 : ((er : Int) == 0) = false := by simpa using he
        go_wp2_with fail
        refine HEN.mono ?_
        intro e w7 hE
        have HEE := hid hE
        obtain ⟨rfl, _, _, _, _, _, _, _, _, _, _, hk7⟩ := hE
        have f7 := hk7.cell f0 HZ8.out
        clear hk7 f0 f1 HEN
        go_wp2_with fail
        go_ret2
        refine .inr ⟨HG.out, t, er, xs, HR.out, rfl, w4, c, τ, ?_, rfl, rfl, rfl, .inl ⟨HX.out, rfl⟩, fun _ _ => rfl, HK4w.out.mono (fun _ _ f => f.elim), HK4w.out.size⟩
        rw [if_pos HX.out, HX.out]
        exact HEE.out
    · have HX := hid hx
      obtain ⟨he, ht⟩ := HR.out.err hx
      subst he
      have hm0 : 0 < m := by
        rw [HML.out]
        exact List.length_pos_iff.2 hx
      obtain ⟨y, hy⟩ : ∃ y : Cm, y = ⟨t, a, m, cap, xs⟩ := ⟨_, rfl⟩
      have HY : Hid (y.t = t ∧ y.a = a ∧ y.n = m ∧ y.c = cap ∧ y.ws = xs ∧ t = M.now ∧ xs ≠ [] ∧ K + 3 * y.ws.length ≤ 100000) := hid (by rw [hy]; exact ⟨rfl, rfl, rfl, rfl, rfl, ht, hx, HKK0.out _ _ _ HR.out⟩)
      obtain ⟨ps, hps⟩ : ∃ x, x = c.ps := ⟨_, rfl⟩
      have p0 : w4.cell? ⟨p, 0, none⟩ = some (.pointer (some ⟨ps, 0, none⟩)) := by rw [hps]; exact (HT.out.same HK4w.out).blk.cell 0
      have HBE : Hid (∀ w', Calls Tryz.prog 37 #[.int .i64 t] w' fun e w2 => e = .returned (.int .i64 (t + 1)) ∧ Same w' w2) := hid (fun w' => (behind_any w' t (by have := HN0.out; omega)).mono (fun e w2 h9 => ⟨h9.1, by rw [h9.2]; exact Kept.refl _ _⟩))
      have HPU : Hid (∀ w', Same w4 w' → Calls Tryz.prog 36 #[.pointer (some ⟨ps, 0, none⟩), .agg #[.int .i64 (t + 1), .slice a m cap]] w' fun e w2 => e = .returned (.int .i64 0) ∧ (w2.cell? ⟨p, 0, none⟩ = some (.pointer (some ⟨ps, 0, none⟩)) ∧ w2.cell? ⟨g8, 0, none⟩ = some (.int .i64 t) ∧ w2.cell? ⟨g8, 1, none⟩ = some (.slice a m cap)) ∧ ComP K N w p M bg c τ y g8 w2) := hid (fun w' hk => by
        have h9 := tcput (y := y) (g := g8) HT.out (HK4w.out.trans hk) (by rw [hy]; exact HR4.out.kept hk (fun _ _ f => f) ) hg8 (by rw [hy]; exact HB4.out.kept hk (fun f => f)) HN0.out HY.out.2.2.2.2.2.2.2
        rw [hps]
        rw [hy, ← ht] at h9
        refine h9.mono (fun e w2 h8 => ⟨h8.1, ?_, by rw [hy]; exact h8.2⟩)
        obtain ⟨ρ', τ1, a1, _, _, _, _, _, a7, _⟩ := h8.2
        exact ⟨a1.blk.cell 0, a7.cell 0, a7.cell 1⟩)
      clear hx hps hy ht
      go_wp2_with fail
      have HKK : Hid (Same w4 w4) := hid (Kept.refl _ _)
      go_region_held3 (fun w' => w'.cell? ⟨p, 0, none⟩ = some (.pointer (some ⟨ps, 0, none⟩)) ∧ w'.cell? ⟨g8, 0, none⟩ = some (.int .i64 t) ∧ w'.cell? ⟨g8, 1, none⟩ = some (.slice a m cap))
        (first
          | exact hcl
          | (go_split_ands; exact ⟨hkc.cell (by assumption) (fun f => f), hkc.cell (by assumption) (fun f => f), hkc.cell (by assumption) (fun f => f)⟩)
          | go_keep)
        (first
          | (go_at_call 37; refine (HBE.out _).mono ?_; rintro e wk ⟨rfl, hkc⟩; have HKK : Hid (Same w4 wk) := hid (by first | exact HKK.out.trans hkc | exact HKK.out.trans (Kept.undrewC hkc)))
          | (go_at_call 36; refine (HPU.out _ (by first | exact HKK.out | exact HKK.out.drew)).mono ?_; rintro e wk ⟨rfl, hcl, hP⟩; have HP := hid hP; clear hP))
      go_upto_region 7 with fail
      have HPP := hid HP.out
      unfold ComP at HPP
      have HCV : Hid (∃ a3 n3 q3, c.cv = .slice a3 n3 q3) := hid (by
        obtain ⟨a3, q3, e, _⟩ := HT.out.cr.shape
        exact ⟨a3, _, q3, e⟩)
      obtain ⟨a3, n3, q3, hcv⟩ := HCV.out
      obtain ⟨d3, z3⟩ : wk.cell? ⟨p, 3, none⟩ = some (.slice a3 n3 q3) ∧ wk.frozen? ⟨p, 3, none⟩ = false := by
        obtain ⟨ρ', τ1, a1, _⟩ := HPP.out
        rw [← hcv]
        exact ⟨a1.blk.cell 3, a1.blk.frozen 3⟩
      have HRW4 : Hid (∀ w', Same wk w' → RowC N 59 2 cmC w' (.slice a3 n3 q3) c.cl) := hid (fun w' hk => by
        obtain ⟨ρ', τ1, a1, _⟩ := HPP.out
        rw [← hcv]
        exact a1.cr.kept hk (fun _ _ f => f))
      have HPB : Hid (∀ w', Kept (fun k => (Value.slice a3 n3 q3).ownBlock = some k) wk w' → w'.cell? ⟨p, 3, none⟩ = some (.slice a3 n3 q3) ∧ w'.frozen? ⟨p, 3, none⟩ = false) := hid (fun w' hk => by
        obtain ⟨ρ', τ1, a1, _⟩ := HPP.out
        have hb : Blk wk p #[.pointer (some ⟨c.ps, 0, none⟩), .int .i64 bg, .map (some c.mo), .slice a3 n3 q3] 91 := by rw [← hcv]; exact a1.blk
        have h9 := hb.kept hk (fun e => by
          have h8 := a1.r4 p (by show c.cv.ownBlock = some p; rw [hcv]; exact e)
          rw [a1.r1] at h8
          cases h8)
        exact ⟨h9.cell 3, h9.frozen 3⟩)
      have HNS : Hid (N ≤ wk.heap.size ∧ c.cl.length ≤ 100000) := hid (by
        obtain ⟨ρ', τ1, a1, _⟩ := HPP.out
        have h9 := a1.new p (by rw [a1.r1]; decide)
        have h8 : c.cl.length ≤ _ := a1.lens.2
        have := a1.big
        exact ⟨by omega, by omega⟩)
      have HCA : Hid (CellsAt (wk.alloc (.cells #[.int .i64 t, .slice a m cap] 59)) ⟨wk.heap.size, 0, none⟩ ([y].flatMap cmC)) := hid (by
        have h9 := cellsAt_cm wk y
        rw [HY.out.1, HY.out.2.1, HY.out.2.2.1, HY.out.2.2.2.1] at h9
        exact h9)
      have HCVH := hid hcv
      obtain ⟨s0, s1, s2⟩ := hcl
      have d3a : (wk.alloc (.cells #[.int .i64 t, .slice a m cap] 59)).cell? ⟨p, 3, none⟩ = some (.slice a3 n3 q3) := (show Same wk _ from (Kept.refl _ _).alloc _).cell d3 (fun f => f)
      clear HP HCV hcv p0 f0 f1 HKK HBE HPU s0 z3
      go_region_law (refine step_appendC cmC 2 cmC_ok N 89 59 (.agg #[.int .i64 0, .slice none 0 0]) 32 Tryz.underlying89 Tryz.infoCm rfl (by decide) (by rfl) (.tmp 48) (.tmp 50) (by rfl) (.slice a3 n3 q3) c.cl (by rfl) (HRW4.out _ (by first | exact ((Kept.refl _ _).drew).alloc _ | exact ((Kept.refl _ _).alloc _).drew | exact (Kept.refl _ _).alloc _)) ⟨wk.heap.size, 0, none⟩ 1 1 [y] (by rfl) (by rfl) HCA.out (by have := HNS.out; simp; omega) (by have := HNS.out; simp; omega) ?_; intro v5 w5 hr5 hg5 hb5; have hk5 : Kept (fun k => (Value.slice a3 n3 q3).ownBlock = some k) wk w5 := Kept.trans (show Same wk (wk.alloc (.cells #[.int .i64 t, .slice a m cap] 59)).drew from ((Kept.refl _ _).alloc _).drew) ((Kept.refl _ _).grown hg5 (fun k e => .inl e)) (fun _ _ f => f.elim) (fun _ _ e => e); obtain ⟨d5, z5⟩ := HPB.out w5 hk5; obtain ⟨a5, n5, q5, e5⟩ : ∃ a n q, v5 = Value.slice a n q := (by obtain ⟨a, q, e, _⟩ := hr5.shape; exact ⟨a, _, q, e⟩); subst e5; clear hg5)
      all_goals
        have H5 : Hid (RowC N 59 2 cmC w5 (.slice a5 n5 q5) (c.cl ++ [y]) ∧ Kept (fun k => (Value.slice a3 n3 q3).ownBlock = some k) wk w5 ∧ ∀ j, (Value.slice a5 n5 q5).ownBlock = some j → (Value.slice a3 n3 q3).ownBlock = some j ∨ wk.heap.size ≤ j) := hid ⟨hr5, hk5, fun j e => (hb5 j e).imp id (fun h => Nat.le_trans (by simp) h)⟩
        clear hr5 hk5 hb5 d5 s1 s2
        as_aux_lemma =>
        obtain ⟨w6, hw6⟩ : ∃ W, W = w5.setCell ⟨p, 3, none⟩ (.slice a5 n5 q5) := ⟨_, rfl⟩
        have hE6 := com_end HPP.out HCVH.out hg8 HT.out.r1 (HT.out.new p (by rw [HT.out.r1]; decide)).2 (by rw [HY.out.2.2.2.2.1]; exact HX.out) HT.out.lens.2 (fun k e => (HT.out.new k e).2) HT.out.r4 H5.out
        rw [← hw6] at hE6
        obtain ⟨ρ2, τ2, b1, b2, b3, b4, b5⟩ := hE6
        have HEN := tend_any b1 n (fun x hx => by
          have h9 := HS.out x hx
          show 0 ≤ (c.mv x.2).t ∧ (c.mv x.2).t ≤ (M.now + 1) - 1 ∧ (M.now + 1) - 1 - (c.mv x.2).t ≤ ((c.cl ++ [y]).length : Nat)
          rw [List.length_append]
          simp only [List.length_cons, List.length_nil]
          omega) (by have := HN0.out; show 1 ≤ M.now + 1 ∧ M.now + 1 ≤ _; omega)
        have g0 : w6.cell? ⟨g8, 0, none⟩ = some (.int .i64 t) := by rw [← HY.out.1]; exact b5.cell 0
        have HB6 : Hid ((∀ k, k < w.heap.size → τ2 k = τ k) ∧ Kept (fun k => τ k ≠ 0) w w6 ∧ τ2 g8 = 0) := hid ⟨b2, b3, b4⟩
        clear b1 b2 b3 b4 b5
        go_wp2_with fail
        rw [← hw6]
        clear hw6
        refine HEN.mono ?_
        intro e w7 hE
        have HEE := hid hE
        obtain ⟨rfl, _, _, _, _, _, _, _, _, _, _, hk7⟩ := hE
        have g7 := hk7.cell g0 (fun e => e HB6.out.2.2)
        clear hk7 g0 HEN
        go_wp2_with fail
        go_ret2
        refine .inr ⟨HG.out, t, 0, xs, HR.out, rfl, w6, { c with ρ := ρ2, cv := .slice a5 n5 q5, cl := c.cl ++ [y] }, τ2, ?_, rfl, rfl, rfl, .inr ⟨HX.out, y, by rw [HY.out.1]; exact HY.out.2.2.2.2.2.1, HY.out.2.2.2.2.1, rfl⟩, HB6.out.1, HB6.out.2.1, HB6.out.2.1.size⟩
        rw [if_neg HX.out, ← HY.out.2.2.2.2.1]
        exact HEE.out

end Go.Proofs.YtapcjmnibkoegaaGreatDoor

/-
  Layer 14: New, of nothing.
-/
namespace Go.Proofs.YtapcjmnibkoegaaGreatDoor
open Go.RowKit Go.Maps Go.Sort Go.Shelf

set_option maxRecDepth 100000 in
set_option maxHeartbeats 1000000 in
theorem scheck_none (w : World) : Calls Tryz.prog 34 #[.slice none 0 0] w fun e w' => e = .returned (.int .i64 0) ∧ Same w w' := by
  go_enter Tryz.func34, Tryz.ntmps34
  go_wp2_with (with_reducible refine at_alloc 83 3 ?_; refine wpl_alloc 83 _ Tryz.zeroArc ?_; intro w1 xb hB1 hk1 hg1 hl1; have HK1 := hid hk1; clear hB1 hk1)
  go_loopg [4, 5, 11] 0 (fun q z4 z5 z wr => z = .int .i64 0 ∧ wr = w1)
  case atStart => exact ⟨rfl, rfl⟩
  case round =>
    obtain ⟨rfl, hw⟩ := hrel
    have hw9 := hw.symm
    subst hw9
    go_wp2_with fail
    go_ret
    exact ⟨rfl, HK1.out⟩

set_option maxRecDepth 100000 in
set_option maxHeartbeats 1000000 in
theorem wof_none (w : World) : Calls Tryz.prog 38 #[.slice none 0 0] w fun e w' => e = .returned (.slice none 0 0) ∧ Same w w' := by
  go_enter Tryz.func38, Tryz.ntmps38
  go_wp2_with fail
  go_loopg [3, 11] 0 (fun q z3 z wr => z = .int .i64 0 ∧ z3 = .slice none 0 0 ∧ wr = w)
  case atStart => exact ⟨rfl, rfl, rfl⟩
  case round =>
    obtain ⟨rfl, rfl, hw⟩ := hrel
    have hw9 := hw.symm
    subst hw9
    go_wp2_with fail
    go_ret
    exact ⟨rfl, Kept.refl _ _⟩

def M14 : Mst := ⟨1, 0, fun _ _ => []⟩

/-- A manager without entries. -/
def NewA (w : World) (e : Ending) (w' : World) : Prop := ∃ N p c τ, e = .returned (.tuple #[.pointer (some ⟨p, 0, none⟩), .int .i64 0]) ∧ w.heap.size ≤ N ∧ Tk 0 N w' p M14 0 c τ ∧ c.L = [] ∧ c.cl = [] ∧ (∀ k, k < w.heap.size → τ k = 0) ∧ Same w w'

theorem new_done {w w2 w3 w' : World} {N ps p mo : Nat} {ρ ρ' : Nat → Nat} (hN : w.heap.size ≤ N) (hN2 : N ≤ w2.heap.size) (hs : Sto 0 N w' ps M14 ρ') (hx : ExtC w3 ρ ρ') (hz : ∀ k, w2.heap.size ≤ k → ρ k = 0) (hm : MpK 3 ptC kI w3 mo []) (hmo : w2.heap.size ≤ mo) (hb : Blk w3 p #[.pointer (some ⟨ps, 0, none⟩), .int .i64 0, .map (some mo), .slice none 0 0] 91) (hp : mo < p) (hpl : p < w3.heap.size) (hk : Kept (fun k => ρ k ≠ 0) w3 w') (hw : w.heap.size ≤ w2.heap.size) (hw3 : Same w w3) (hl : ∀ k, k < w.heap.size → ρ k = 0) : NewA w (.returned (.tuple #[.pointer (some ⟨p, 0, none⟩), .int .i64 0])) w' := by
  have hnp : ¬ ρ p ≠ 0 := fun e => e (hz p (by omega))
  have hnm : ¬ ρ mo ≠ 0 := fun e => e (hz mo hmo)
  have hp3 : ρ' p = 0 := by
    rcases hx p with e | e
    · rw [e]; exact hz p (by omega)
    · omega
  have hm3 : ρ' mo = 0 := by
    rcases hx mo with e | e
    · rw [e]; exact hz mo hmo
    · omega
  have hnew : ∀ k, ρ' k ≠ 0 → N ≤ k ∧ k < w'.heap.size := fun k e => by
    obtain ⟨s, mb, hck, _⟩ := hs
    exact hck.new k e
  refine ⟨N, p, ⟨ps, ρ', mo, [], fun _ => ⟨⟨#[]⟩, by decide⟩, fun _ => 0, fun _ _ => False, fun _ => mv0 0, .slice none 0 0, []⟩, fun k => if k = p then 1 else if k = mo then 2 else if ρ' k ≠ 0 then 3 else 0, rfl, hN, ?_, rfl, rfl, fun k hk2 => ?_, ?_⟩
  · refine { blk := hb.kept hk hnp, sto := hs, om := hm.kept hk hnm, tb := fun x hx => (by cases hx), ts := fun x hx => (by cases hx), cr := RowC.nil, cw := fun y hy => (by cases hy), inj := fun x hx => (by cases hx), r1 := if_pos rfl, r2 := ?_, r3 := fun k e => ?_, r4 := fun k e => (by cases e), r5 := fun y hy => (by cases hy), r6 := fun x hx => (by cases hx), r7 := fun x hx => (by cases hx), new := fun k e => ?_, key := fun x hx => (by cases hx), num := ⟨by omega, by omega⟩, lens := ⟨by simp, by simp⟩, big := by omega }
    · show (if mo = p then 1 else if mo = mo then 2 else if ρ' mo ≠ 0 then 3 else 0) = 2
      rw [if_neg (by omega), if_pos rfl]
    · have e' : ρ' k ≠ 0 := e
      show (if k = p then 1 else if k = mo then 2 else if ρ' k ≠ 0 then 3 else 0) = 3
      rw [if_neg (fun q => e' (by rw [q]; exact hp3)), if_neg (fun q => e' (by rw [q]; exact hm3)), if_pos e']
    · have hks := hk.size
      by_cases e1 : k = p
      · subst e1; omega
      · by_cases e2 : k = mo
        · subst e2; omega
        · by_cases e3 : ρ' k ≠ 0
          · exact hnew k e3
          · simp only [if_neg e1, if_neg e2, if_neg e3] at e
            exact absurd rfl e
  · have e3 : ¬ ρ' k ≠ 0 := fun e => by have := (hnew k e).1; omega
    show (if k = p then 1 else if k = mo then 2 else if ρ' k ≠ 0 then 3 else 0) = 0
    rw [if_neg (by omega), if_neg (by omega), if_neg e3]
  · exact hw3.then hk (fun k hk2 e => e (hl k hk2))

set_option maxRecDepth 100000 in
set_option maxHeartbeats 2000000 in
theorem tnew_none (w : World) : Calls Tryz.prog 10 #[.slice none 0 0, .int .i64 0] w fun e w' => NewA w e w' := by
  have hmm := @run_makeMap Tryz.prog
  go_enter Tryz.func10, Tryz.ntmps10
  go_wp2_with fail
  refine (scheck_none w).mono ?_
  rintro e w1 ⟨rfl, hk1⟩
  have HK1 := hid hk1
  clear hk1
  go_wp2_with fail
  refine (xnew w1).mono ?_
  rintro e w2 ⟨ps, ρ, rfl, hs2, hz2, hk2⟩
  have H2 : Hid (Sto 0 w1.heap.size w2 ps ⟨0, 0, fun _ _ => []⟩ ρ ∧ (∀ k, k < w1.heap.size → ρ k = 0) ∧ Same w1 w2) := hid ⟨hs2, hz2, hk2⟩
  clear hs2 hz2 hk2
  obtain ⟨wA, hwA⟩ : ∃ W, W = w2.alloc (.map #[] 0) := ⟨_, rfl⟩
  obtain ⟨mo, hmo⟩ : ∃ x, x = w2.heap.size := ⟨_, rfl⟩
  have HM : Hid (MpK 3 ptC kI wA mo [] ∧ Same w2 wA ∧ mo < wA.heap.size ∧ mo = w2.heap.size) := hid ⟨by rw [hwA, hmo]; exact MpK.new w2, by rw [hwA]; exact (Kept.refl _ w2).alloc _, by rw [hwA, hmo]; simp, hmo⟩
  go_wp2_with (with_reducible refine at_box 91 ?_; rw [← hwA, ← hmo]; refine wpl_box 91 #[.pointer (some ⟨ps, 0, none⟩), .int .i64 0, .map (some mo), .slice none 0 0] rfl ?_; intro w3 p hB3 hk3 hg3 hl3; have HB3 := hid hB3; have HK3 := hid hk3; clear hB3 hk3)
  have p0 : w3.cell? ⟨p, 0, none⟩ = some (.pointer (some ⟨ps, 0, none⟩)) := HB3.out.cell 0
  have HBE : Hid (∀ w', Calls Tryz.prog 37 #[.int .i64 0] w' fun e w2 => e = .returned (.int .i64 1) ∧ Same w' w2) := hid (fun w' => (behind_any w' 0 (by omega)).mono (fun e w2 h9 => ⟨h9.1, by rw [h9.2]; exact Kept.refl _ _⟩))
  have HPU : Hid (∀ w', Same w3 w' → Calls Tryz.prog 36 #[.pointer (some ⟨ps, 0, none⟩), .agg #[.int .i64 1, .slice none 0 0]] w' fun e w2 => e = .returned (.int .i64 0) ∧ w2.cell? ⟨p, 0, none⟩ = some (.pointer (some ⟨ps, 0, none⟩)) ∧ NewA w (.returned (.tuple #[.pointer (some ⟨p, 0, none⟩), .int .i64 0])) w2) := hid (fun w' hk => by
    obtain ⟨h1, h2, h3⟩ := H2.out
    obtain ⟨m1, m2, m3, m4⟩ := HM.out
    have hk23 : Same w2 w3 := m2.trans HK3.out
    have hzz : ∀ k, w2.heap.size ≤ k → ρ k = 0 := fun k hk2 => by
      cases hz : ρ k with
      | zero => rfl
      | succ z =>
        obtain ⟨s, mb, hck, _⟩ := h1
        have := (hck.new k (by omega)).2
        omega
    refine (xput_new (h1.same (hk23.trans hk)) (Nat.le_trans (Nat.le_trans h3.size hk23.size) hk.size) 1 (by decide) (by decide) [] (.slice none 0 0) _ (SrcC.ofRow (B := 0) (t := 65) wrE_ok RowC.nil) (fun j hj => by cases hj) (by decide)).mono ?_
    rintro e w4 ⟨rfl, ρ', g1, g2, g3⟩
    have hpb := HB3.out.kept hk (fun f => f)
    have hpz : ¬ ρ p ≠ 0 := fun e => e (hzz p (by omega))
    refine ⟨rfl, (hpb.kept g3 hpz).cell 0, ?_⟩
    exact new_done (w := w) (w2 := w2) (w3 := w') (N := w1.heap.size) HK1.out.size h3.size g1 g2 hzz ((m1.kept HK3.out (fun f => f)).kept hk (fun f => f)) (by omega) hpb (by omega) hpb.lt g3 (Nat.le_trans HK1.out.size h3.size) (((HK1.out.trans h3).trans hk23).trans hk) (fun k hk2 => h2 k (Nat.lt_of_lt_of_le hk2 HK1.out.size)))
  have HWO : Hid (∀ w', Calls Tryz.prog 38 #[.slice none 0 0] w' fun e w2 => e = .returned (.slice none 0 0) ∧ Same w' w2) := hid wof_none
  have HKK : Hid (Same w3 w3) := hid (Kept.refl _ _)
  clear hwA hmo hmm H2 HM
  go_region_held3 (fun w' => w'.cell? ⟨p, 0, none⟩ = some (.pointer (some ⟨ps, 0, none⟩)))
    (first
      | exact hcl
      | exact hkc.cell (by assumption) (fun f => f)
      | go_keep)
    (first
      | (go_at_call 37; refine (HBE.out _).mono ?_; rintro e wk ⟨rfl, hkc⟩; have HKK : Hid (Same w3 wk) := hid (by first | exact HKK.out.trans hkc | exact HKK.out.trans (Kept.undrewC hkc)))
      | (go_at_call 38; refine (HWO.out _).mono ?_; rintro e wk ⟨rfl, hkc⟩; have HKK : Hid (Same w3 wk) := hid (by first | exact HKK.out.trans hkc | exact HKK.out.trans (Kept.undrewC hkc)))
      | (go_at_call 36; refine (HPU.out _ (by first | exact HKK.out | exact HKK.out.drew)).mono ?_; rintro e wk ⟨rfl, hcl, hP⟩; have HP := hid hP; clear hP))
  all_goals
    go_wp2_with fail
    go_ret2
    exact HP.out

end Go.Proofs.YtapcjmnibkoegaaGreatDoor

/-
  Layer 14: what holds of a manager beside its memory: snapshots and commits.
-/
namespace Go.Proofs.YtapcjmnibkoegaaGreatDoor
open Go.RowKit Go.Maps Go.Sort Go.Shelf

structure Iv (B : Int) (M : Mst) (c : Tc) : Prop where
  now : 1 ≤ M.now ∧ M.now ≤ B
  sn : ∀ x ∈ c.L, 0 ≤ (c.mv x.2).t ∧ (c.mv x.2).t ≤ M.now - 1 ∧ M.now - 1 - (c.mv x.2).t ≤ c.cl.length
  num : ∀ y ∈ c.cl, 0 ≤ y.t ∧ y.t ≤ B

theorem Iv.new {c : Tc} (h1 : c.L = []) (h2 : c.cl = []) : Iv 1 M14 c := ⟨⟨by decide, by decide⟩, (fun x hx => by rw [h1] at hx; cases hx), (fun y hy => by rw [h2] at hy; cases hy)⟩

theorem Iv.set {B : Int} {M : Mst} {c : Tc} (h : Iv B M c) {q : Nat} {m : Mv} (hm : m.t = (c.mv q).t) : Iv B M (c.set q m) := by
  refine ⟨h.now, fun x hx => ?_, h.num⟩
  have h9 := h.sn x hx
  have e : ((c.set q m).mv x.2).t = (c.mv x.2).t := by
    show (if x.2 = q then m else c.mv x.2).t = _
    by_cases e : x.2 = q
    · rw [if_pos e, hm, e]
    · rw [if_neg e]
  rw [e]
  exact h9

theorem Iv.add {B : Int} {M : Mst} {c : Tc} (h : Iv B M c) {nb : Nb} {q : Nat} {tn : Nm} {st : Nat} {J : Nat → Prop} (hq : ∀ x ∈ c.L, x.2 ≠ q) : Iv B M (c.add nb q tn st J (mv0 (M.now - 1))) := by
  refine ⟨h.now, fun x hx => ?_, h.num⟩
  rcases putK_mem.1 hx with rfl | ⟨e, _⟩
  · show 0 ≤ (updN c.mv q (mv0 (M.now - 1)) q).t ∧ _ ∧ _
    have e1 : ((c.add nb q tn st J (mv0 (M.now - 1))).mv (nb, q).2).t = M.now - 1 := by
      show (updN c.mv q (mv0 (M.now - 1)) q).t = _
      rw [updN_at]; rfl
    rw [e1, updN_at]
    have := h.now
    refine ⟨by show 0 ≤ M.now - 1; omega, by omega, by omega⟩
  · have e1 : (c.add nb q tn st J (mv0 (M.now - 1))).mv x.2 = c.mv x.2 := by
      show updN c.mv q (mv0 (M.now - 1)) x.2 = _
      rw [updN_off _ _ (hq x e)]
    rw [e1]
    exact h.sn x e

theorem prM_now (M : Mst) (t : Int) : (prM M t).now = M.now := by unfold prM; split <;> rfl

/-- Behind the end of a transaction. -/
theorem Iv.ended {B : Int} {M : Mst} {c c' : Tc} (h : Iv B M c) {n : Nb} {m : Int} (hm : OldM (delK n c.L) (fun q => (c.mv q).t) (M.now - 1) m) (h1 : c'.L = delK n c.L) (h2 : c'.mv = c.mv) (h3 : c'.cl = c.cl.drop (c.cl.length - (M.now - 1 - m).toNat)) : Iv B (prM M (m + 1)) c' := by
  obtain ⟨m1, m2, m3⟩ := hm
  have hle : M.now - 1 - m ≤ c.cl.length := by
    rcases m3 with e | ⟨x, hx, e⟩
    · omega
    · have := h.sn x (delK_mem.1 hx).1
      simp only at e
      omega
  refine ⟨by rw [prM_now]; exact h.now, fun x hx => ?_, fun y hy => ?_⟩
  · rw [h1] at hx
    have h9 := h.sn x (delK_mem.1 hx).1
    have h8 := m2 x hx
    simp only at h8
    rw [prM_now, h2, h3, List.length_drop]
    omega
  · rw [h3] at hy
    exact h.num y (List.mem_of_mem_drop hy)

theorem EndA.iv {K N : Nat} {w w' : World} {p : Nat} {M : Mst} {bg : Int} {c : Tc} {τ : Nat → Nat} {n : Nb} {e : Ending} {B : Int} (h : EndA K N w p M bg c τ n e w') (hi : Iv B M c) : ∃ m c' τ', OldM (delK n c.L) (fun q => (c.mv q).t) (M.now - 1) m ∧ c'.L = delK n c.L ∧ c'.ow = c.ow ∧ c'.mv = c.mv ∧ c'.cl = c.cl.drop (c.cl.length - (M.now - 1 - m).toNat) ∧ Tk K N w' p (prM M (m + 1)) bg c' τ' ∧ (∀ k, k < w.heap.size → τ' k = τ k) ∧ Kept (fun k => τ k ≠ 0) w w' ∧ Iv B (prM M (m + 1)) c' := by
  obtain ⟨_, m, c', τ', h1, h2, h3, h4, h5, h6, h7, h8⟩ := h
  exact ⟨m, c', τ', h1, h2, h3, h4, h5, h6, h7, h8, hi.ended h1 h2 h4 h5⟩

/-- Ahead of the end, in a commit. -/
theorem Iv.com {B : Int} {M : Mst} {c c1 : Tc} (h : Iv B M c) {xs : List Wr} (h1 : c1.L = c.L) (h2 : c1.mv = c.mv) (h3 : (xs = [] ∧ c1.cl = c.cl) ∨ (xs ≠ [] ∧ ∃ y : Cm, y.t = M.now ∧ y.ws = xs ∧ c1.cl = c.cl ++ [y])) : Iv (B + 1) (if xs = [] then M else putM M (M.now + 1) xs) c1 := by
  rcases h3 with ⟨e, e1⟩ | ⟨e, y, e1, e2, e3⟩
  · rw [if_pos e]
    exact ⟨⟨h.now.1, by have := h.now; omega⟩, fun x hx => by rw [h1] at hx; rw [h2, e1]; exact h.sn x hx, fun y hy => by rw [e1] at hy; have := h.num y hy; omega⟩
  · rw [if_neg e]
    refine ⟨by show 1 ≤ M.now + 1 ∧ M.now + 1 ≤ B + 1; have := h.now; omega, fun x hx => ?_, fun z hz => ?_⟩
    · rw [h1] at hx
      have h9 := h.sn x hx
      rw [h2, e3, List.length_append]
      show 0 ≤ (c.mv x.2).t ∧ (c.mv x.2).t ≤ M.now + 1 - 1 ∧ M.now + 1 - 1 - (c.mv x.2).t ≤ _
      simp only [List.length_cons, List.length_nil]
      omega
    · rw [e3] at hz
      rcases List.mem_append.1 hz with q | q
      · have := h.num z q; omega
      · rw [List.mem_singleton.1 q, e1]
        have := h.now; omega

end Go.Proofs.YtapcjmnibkoegaaGreatDoor

/-
  Layer 14: a manager told by its state.
-/
namespace Go.Proofs.YtapcjmnibkoegaaGreatDoor
open Go.RowKit Go.Maps Go.Sort Go.Shelf

/-- A manager's state: what is open by its number, how many, and the commits that are kept. -/
structure Ts where
  M : Mst
  bg : Int
  op : Nb → Option (Nm × Mv)
  ln : Nat
  cl : List (Int × List Wr)

def absT (M : Mst) (bg : Int) (c : Tc) : Ts := ⟨M, bg, fun n => (getK n c.L).map (fun q => (c.ow q, c.mv q)), c.L.length, c.cl.map (fun y => (y.t, y.ws))⟩

/-- A manager; F are its blocks. -/
def Mg (K N : Nat) (B : Int) (w : World) (p : Nat) (S : Ts) (F : Nat → Prop) : Prop := ∃ c τ, Tk K N w p S.M S.bg c τ ∧ Iv B S.M c ∧ absT S.M S.bg c = S ∧ ∀ k, F k ↔ τ k ≠ 0

/-- What a call leaves of a manager. -/
def MgA (K N : Nat) (B : Int) (w : World) (p : Nat) (F : Nat → Prop) (S : Ts) (w' : World) : Prop := ∃ F', Mg K N B w' p S F' ∧ (∀ k, k < w.heap.size → (F' k ↔ F k)) ∧ Kept F w w'

section
variable {K N : Nat} {B : Int} {w : World} {p : Nat} {S : Ts} {F : Nat → Prop}

theorem Mg.kept (h : Mg K N B w p S F) {G : Nat → Prop} {w' : World} (hk : Kept G w w') (hG : ∀ k, F k → ¬ G k) : Mg K N B w' p S F := by
  obtain ⟨c, τ, h1, h2, h3, h4⟩ := h
  exact ⟨c, τ, h1.kept hk (fun k g => Decidable.byContradiction (fun e => hG k ((h4 k).2 e) g)), h2, h3, h4⟩

theorem Mg.same (h : Mg K N B w p S F) {w' : World} (hk : Same w w') : Mg K N B w' p S F := h.kept hk (fun _ _ f => f)

theorem Mg.lt (h : Mg K N B w p S F) {k : Nat} (hk : F k) : N ≤ k ∧ k < w.heap.size := by
  obtain ⟨c, τ, h1, h2, h3, h4⟩ := h
  exact h1.new k ((h4 k).1 hk)

theorem Mg.still (h : Mg K N B w p S F) {K' : Nat} (hK : K ≤ K') (hb : K' ≤ 100000) {w' : World} (hk : Same w w') : MgA K' N B w p F S w' := by
  obtain ⟨c, τ, h1, h2, h3, h4⟩ := h
  exact ⟨F, ⟨c, τ, (h1.same hk).more hK hb, h2, h3, h4⟩, fun _ _ => Iff.rfl, hk.mono (fun _ _ f => f.elim)⟩

/-- A transaction's set is another one. -/
def Ts.set (S : Ts) (n : Nb) (x : Nm × Mv) : Ts := { S with op := fun y => if y = n then some x else S.op y }

end

theorem abs_set {K N : Nat} {w : World} {p : Nat} {M : Mst} {bg : Int} {c : Tc} {τ : Nat → Nat} (h : Tk K N w p M bg c τ) {n : Nb} {q : Nat} (hg : getK n c.L = some q) (m : Mv) : absT M bg (c.set q m) = (absT M bg c).set n (c.ow q, m) := by
  unfold absT Ts.set
  simp only [Ts.mk.injEq, true_and]
  refine ⟨?_, rfl, rfl⟩
  funext y
  show (getK y c.L).map (fun r => (c.ow r, if r = q then m else c.mv r)) = _
  by_cases e : y = n
  · subst e
    rw [if_pos rfl, hg]
    simp
  · rw [if_neg e]
    cases hy : getK y c.L with
    | none => rfl
    | some r =>
      have hne : r ≠ q := fun e2 => e (h.inj _ (getK_mem hy) _ (getK_mem hg) e2)
      simp [hne]

/-- Behind a call that stages or notes. -/
theorem mg_set {K N : Nat} {B : Int} {w w' : World} {p : Nat} {S : Ts} {F : Nat → Prop} {c : Tc} {τ : Nat → Nat} (h1 : Tk K N w p S.M S.bg c τ) (h2 : Iv B S.M c) (h3 : absT S.M S.bg c = S) (h4 : ∀ k, F k ↔ τ k ≠ 0) {n : Nb} {q : Nat} (hg : getK n c.L = some q) {m : Mv} (hm : m.t = (c.mv q).t) (hT : TgA K N w p S.M S.bg τ (c.set q m) w') : MgA (K + 1) N B w p F (S.set n (c.ow q, m)) w' := by
  refine ⟨F, ⟨c.set q m, τ, hT.1, h2.set hm, ?_, h4⟩, fun _ _ => Iff.rfl, hT.2.mono (fun k _ e => (h4 k).2 e)⟩
  have h9 := abs_set h1 hg m
  rw [h3] at h9
  exact h9

/-- A new manager. -/
theorem mg_new {w w' : World} {e : Ending} (h : NewA w e w') : ∃ N p F, e = .returned (.tuple #[.pointer (some ⟨p, 0, none⟩), .int .i64 0]) ∧ w.heap.size ≤ N ∧ Mg 0 N 1 w' p ⟨M14, 0, fun _ => none, 0, []⟩ F ∧ (∀ k, k < w.heap.size → ¬ F k) ∧ Same w w' := by
  obtain ⟨N, p, c, τ, h1, h2, h3, h4, h5, h6, h7⟩ := h
  refine ⟨N, p, fun k => τ k ≠ 0, h1, h2, ⟨c, τ, h3, Iv.new h4 h5, ?_, fun _ => Iff.rfl⟩, fun k hk e => e (h6 k hk), h7⟩
  unfold absT
  rw [h4, h5]
  rfl

end Go.Proofs.YtapcjmnibkoegaaGreatDoor

/-
  Layer 14: Use.
-/
namespace Go.Proofs.YtapcjmnibkoegaaGreatDoor
open Go.RowKit Go.Maps Go.Sort Go.Shelf

theorem wrap_more (s l : Int) : IntKind.i64.wrap (IntKind.i64.wrap s + l) = IntKind.i64.wrap (s + l) := by simp only [IntKind.wrap_i64]; omega

def byA (es : List Ent) : Nat := (es.map (fun e => e.2.size)).sum
def useB (ow : ByteArray) (D : List (Bx × List Ent)) : Nat := (D.map (fun x => if x.1.tn = ow then byA x.2 else 0)).sum
def useN (ow : ByteArray) (D : List (Bx × List Ent)) : Nat := (D.map (fun x => if x.1.tn = ow then x.2.length else 0)).sum
def wr14 (n : Nat) : Int := IntKind.i64.wrap (n : Int)
theorem wr14_more (n l : Nat) : IntKind.i64.wrap (wr14 n + (l : Int)) = wr14 (n + l) := by unfold wr14; rw [wrap_more]; congr 1

theorem Tryz.zeroUs : (Tryz.prog.info? 78).bind (·.zero) = some (.agg #[.int .i64 0, .int .i64 0]) := by kernel_rfl
theorem Tryz.sizeUs : (Tryz.prog.info? 78).map (·.size) = some 2 := by kernel_rfl
theorem Tryz.zeroEn : (Tryz.prog.info? 108).bind (·.zero) = some (.agg #[.string ⟨#[]⟩, .string ⟨#[]⟩]) := by kernel_rfl
theorem Tryz.sizeEn : (Tryz.prog.info? 108).map (·.size) = some 2 := by kernel_rfl

def UseI (w2 wr : World) (u : Nat) (b n : Nat) : Prop := Blk wr u #[.int .i64 (wr14 b), .int .i64 (wr14 n)] 78 ∧ Kept (· = u) w2 wr

theorem UseI.setB {w2 wr : World} {u b n : Nat} (h : UseI w2 wr u b n) (b' : Nat) : UseI w2 (wr.setCell ⟨u, 0, none⟩ (.int .i64 (wr14 b'))) u b' n := by
  refine ⟨?_, h.2.setCell _ _ (.inl rfl)⟩
  have h9 := h.1.set 0 (.int .i64 (wr14 b'))
  simpa using h9

theorem UseI.setN {w2 wr : World} {u b n : Nat} (h : UseI w2 wr u b n) (n' : Nat) : UseI w2 (wr.setCell ⟨u, 1, none⟩ (.int .i64 (wr14 n'))) u b n' := by
  refine ⟨?_, h.2.setCell _ _ (.inl rfl)⟩
  have h9 := h.1.set 1 (.int .i64 (wr14 n'))
  simpa using h9

theorem UseI.same {w2 wr wr' : World} {u b n : Nat} (h : UseI w2 wr u b n) (hk : Same wr wr') : UseI w2 wr' u b n := ⟨h.1.kept hk (fun f => f), Kept.trans h.2 hk (fun _ _ e => e) (fun _ _ f => f.elim)⟩

set_option maxRecDepth 100000 in
set_option maxHeartbeats 2000000 in
theorem tuse_any {K N : Nat} {w : World} {p : Nat} {M : Mst} {bg : Int} {c : Tc} {τ : Nat → Nat} (h : Tk K N w p M bg c τ) (ow : ByteArray) :
    Calls Tryz.prog 32 #[.pointer (some ⟨p, 0, none⟩), .string ow] w fun e w' => ∃ D, IsDm (visF M.V M.now) D ∧ e = .returned (.agg #[.int .i64 (wr14 (useB ow D)), .int .i64 (wr14 (useN ow D))]) ∧ Same w w' := by
  have HT := hid h
  clear h
  go_enter Tryz.func32, Tryz.ntmps32
  go_wp2_with (first
    | (with_reducible refine at_alloc 78 4 ?_; refine wpl_alloc 78 _ Tryz.zeroUs ?_; intro wR rb hBR hkR hgR hlR; have HBR := hid hBR; have HKR := hid hkR; clear hBR hkR)
    | (with_reducible refine at_alloc 78 5 ?_; refine wpl_alloc 78 _ Tryz.zeroUs ?_; intro wA u hBA hkA hgA hlA; have HBA := hid hBA; have HKA := hid hkA; clear hBA hkA))
  have HKW := hid (HKR.out.trans HKA.out)
  refine (tdump_any (HT.out.same HKW.out)).mono ?_
  rintro e w2 ⟨v2, As, rfl, hdm, hisd, hAl, hAe, hk2⟩
  obtain ⟨av, cv, rfl, _⟩ := hdm.ofs
  obtain ⟨nA, hnA⟩ : ∃ n, n = As.length := ⟨_, rfl⟩
  rw [← hnA] at hdm ⊢
  have HDM : Hid (∀ W, Kept (· = u) w2 W → ∀ i (hi : i < As.length), ∃ g, av = some ⟨g, 0, none⟩ ∧ W.cell? ⟨g, i * 3, none⟩ = some (.string As[i].b.tn) ∧ W.cell? ⟨g, i * 3 + 1, none⟩ = some (.string As[i].b.ar) ∧ W.cell? ⟨g, i * 3 + 2, none⟩ = some (.slice As[i].a As[i].es.length As[i].c) ∧ ∀ j (hj : j < As[i].es.length), ∃ k, As[i].a = some ⟨k, 0, none⟩ ∧ W.cell? ⟨k, j * 2, none⟩ = some (.string As[i].es[j].1.s) ∧ W.cell? ⟨k, j * 2 + 1, none⟩ = some (.string As[i].es[j].2)) := hid (fun W hW i hi => by
    obtain ⟨ao, cap, e1, h9⟩ := (hdm.kept hW (fun k e e2 => by have := hdm.row.ge e; omega) (fun x hx k e e2 => by have := (hdm.ent x hx).ge e; omega)).ofs
    injection e1 with e2 _ _
    subst e2
    obtain ⟨g, a1, a2, a3, a4, _, a6⟩ := h9 i hi
    exact ⟨g, a1, a2, a3, a4, a6⟩)
  have HIS : Hid (IsDm (visF M.V M.now) (adD As) ∧ As.length ≤ 100000 ∧ (∀ x ∈ As, x.es.length ≤ 100000) ∧ nA = As.length) := hid ⟨hisd, hAl, hAe, hnA⟩
  have HK2 := hid hk2
  have HU0 : Hid (UseI w2 w2 u (useB ow (adD (As.take 0))) (useN ow (adD (As.take 0)))) := hid ⟨HBA.out.kept hk2 (fun f => f), Kept.refl _ _⟩
  have HLU : Hid (wR.heap.size ≤ u) := hid hgA
  have hnB : nA ≤ 100000 := by rw [hnA]; exact hAl
  clear hdm hisd hAl hAe hk2 hnA
  go_wp2_with fail
  go_loopg [7, 9, 13] nA (fun k _ _ z wr => ∃ i : Nat, i ≤ nA ∧ nA - i ≤ k ∧ z = .int .i64 (i : Nat) ∧ Hid (UseI w2 wr u (useB ow (adD (As.take i))) (useN ow (adD (As.take i)))))
  case atStart => exact ⟨0, by omega, by omega, rfl, HU0⟩
  case round =>
    clear HU0
    obtain ⟨i, hi, hik, rfl, HI⟩ := hrel
    by_cases hlt : i < nA
    · have hiA : i < As.length := by rw [← HIS.out.2.2.2]; exact hlt
      obtain ⟨g, rfl, d0, d1, d2, hen⟩ := HDM.out wr HI.out.2 i hiA
      obtain ⟨x, hx⟩ : ∃ x, x = As[i] := ⟨_, rfl⟩
      rw [← hx] at d0 d1 d2
      have HX : Hid (adD (As.take (i + 1)) = adD (As.take i) ++ [(x.b, x.es)] ∧ x.es.length ≤ 100000 ∧ x = As[i]) := hid ⟨by unfold adD; rw [List.take_succ_eq_append_getElem hiA, List.map_append, hx]; rfl, HIS.out.2.2.1 x (by rw [hx]; exact List.getElem_mem _), hx⟩
      obtain ⟨tn, htn⟩ : ∃ t, t = x.b.tn := ⟨_, rfl⟩
      obtain ⟨ar, har⟩ : ∃ t, t = x.b.ar := ⟨_, rfl⟩
      obtain ⟨le, hle⟩ : ∃ t, t = x.es.length := ⟨_, rfl⟩
      obtain ⟨xa, hxa⟩ : ∃ t, t = x.a := ⟨_, rfl⟩
      obtain ⟨xc, hxc⟩ : ∃ t, t = x.c := ⟨_, rfl⟩
      rw [← htn] at d0
      rw [← har] at d1
      rw [← hle, ← hxa, ← hxc] at d2
      have HXE : Hid (tn = x.b.tn ∧ le = x.es.length ∧ xa = x.a) := hid ⟨htn, hle, hxa⟩
      obtain ⟨B0, hB0⟩ : ∃ b, b = useB ow (adD (As.take i)) := ⟨_, rfl⟩
      obtain ⟨N0, hN0⟩ : ∃ b, b = useN ow (adD (As.take i)) := ⟨_, rfl⟩
      rw [← hB0, ← hN0] at HI
      have HBN : Hid (useB ow (adD (As.take (i + 1))) = (if tn = ow then B0 + byA x.es else B0) ∧ useN ow (adD (As.take (i + 1))) = (if tn = ow then N0 + le else N0)) := hid (by
        rw [HX.out.1]
        unfold useB at hB0 ⊢
        unfold useN at hN0 ⊢
        rw [List.map_append, List.sum_append, List.map_append, List.sum_append, ← hB0, ← hN0, htn, hle]
        simp only [List.map_cons, List.map_nil, List.sum_cons, List.sum_nil]
        constructor <;> (split <;> rfl))
      have hle2 : le ≤ 100000 := by rw [hle]; exact HX.out.2.1
      clear htn har hle hxa hxc hB0 hN0 hen hx
      by_cases hto : tn = ow
      · have ht1 : (tn.toList == ow.toList) = true := by rw [hto]; simp
        rw [if_pos hto, if_pos hto] at HBN
        have HBU : Hid (Blk wr u #[.int .i64 (wr14 B0), .int .i64 (wr14 N0)] 78) := hid HI.out.1
        have u0 := HBU.out.cell 0
        have u1 := HBU.out.cell 1
        simp only [List.getElem?_toArray, List.getElem?_cons_zero, List.getElem?_cons_succ] at u0 u1
        have hw1 : IntKind.i64.wrap (wr14 N0 + (le : Int)) = wr14 (N0 + le) := wr14_more N0 le
        clear hto
        go_wp2_with (first
          | (with_reducible refine at_alloc 83 7 ?_; refine wpl_alloc 83 _ Tryz.zeroArc ?_; intro w3 g3 hB3 hk3 hg3 hl3; have HB3 := hid hB3; have HK3 := hid hk3; clear hB3 hk3)
          | (with_reducible refine at_store 83 7 ?_; refine wpl_store 83 3 Tryz.sizeArc rfl (cells := [.string tn, .string ar, .slice xa le xc]) rfl HB3.out rfl rfl (by simp [Value.oneCell']) ?_; intro w4 hB4 hk4 hs4; have HK4 : Hid (Same wr w4) := hid (HK3.out.then hk4 (fun x hx e => by omega)); have HB4 := hid hB4; have f0 := hB4.cell 0; have f2 := hB4.cell 2; simp only [List.getElem?_toArray, List.getElem?_cons_zero, List.getElem?_cons_succ] at f0 f2; have u0 := HK4.out.cell u0 (fun f => f); have u1 := HK4.out.cell u1 (fun f => f); have z1 := (HBU.out.kept HK4.out (fun f => f)).frozen 1; clear hB4 hk4 hs4 HB3 HK3))
        obtain ⟨w5, hw5⟩ : ∃ W, W = w4.setCell ⟨u, 1, none⟩ (.int .i64 (wr14 (N0 + le))) := ⟨_, rfl⟩
        rw [← hw5]
        have HJ0 : Hid (UseI w2 w5 u (B0 + byA (x.es.take 0)) (N0 + le)) := hid (by rw [hw5]; exact (HI.out.same HK4.out).setN _)
        obtain ⟨gk0, hgk0⟩ : ∃ g, g = gk := ⟨_, rfl⟩
        rw [← hgk0] at hik
        clear hw5 f0 f2 u0 u1 z1 hw1 d0 d1 d2 HBU ht1
        go_loopg [9, 31] le (fun k _ z wx => ∃ j : Nat, j ≤ le ∧ le - j ≤ k ∧ z = .int .i64 (j : Nat) ∧ Hid (UseI w2 wx u (B0 + byA (x.es.take j)) (N0 + le)))
        case atStart => exact ⟨0, by omega, by omega, rfl, HJ0⟩
        case round =>
          clear HJ0
          obtain ⟨j, hj, hjk, rfl, HJ⟩ := hrel
          by_cases hjl : j < le
          · have hjx : j < x.es.length := by rw [← HXE.out.2.1]; exact hjl
            obtain ⟨g9, hg9, _, _, _, hen⟩ := HDM.out wr HJ.out.2 i hiA
            have hex := HX.out.2.2
            obtain ⟨k, hxk, c0, c1⟩ : ∃ k, xa = some ⟨k, 0, none⟩ ∧ wr.cell? ⟨k, j * 2, none⟩ = some (.string x.es[j].1.s) ∧ wr.cell? ⟨k, j * 2 + 1, none⟩ = some (.string x.es[j].2) := by
              rw [HXE.out.2.2]
              subst hex
              exact hen j hjx
            subst hxk
            obtain ⟨en, hen2⟩ : ∃ e, e = x.es[j].1.s := ⟨_, rfl⟩
            obtain ⟨ed, hed⟩ : ∃ e, e = x.es[j].2 := ⟨_, rfl⟩
            rw [← hen2] at c0
            rw [← hed] at c1
            have HSM : Hid (byA (x.es.take (j + 1)) = byA (x.es.take j) + ed.size) := hid (by
              unfold byA
              rw [List.take_succ_eq_append_getElem hjx, List.map_append, List.sum_append, hed]
              simp)
            obtain ⟨B1, hB1⟩ : ∃ b, b = B0 + byA (x.es.take j) := ⟨_, rfl⟩
            rw [← hB1] at HJ
            have HB1 := hid hB1
            have HBU : Hid (Blk wr u #[.int .i64 (wr14 B1), .int .i64 (wr14 (N0 + le))] 78) := hid HJ.out.1
            have u0 := HBU.out.cell 0
            simp only [List.getElem?_toArray, List.getElem?_cons_zero] at u0
            have hw2 : IntKind.i64.wrap (wr14 B1 + (ed.size : Int)) = wr14 (B1 + ed.size) := wr14_more B1 ed.size
            clear hen hex hen2 hed hB1 hg9
            go_wp2_with (first
              | (with_reducible refine at_alloc 108 9 ?_; refine wpl_alloc 108 _ Tryz.zeroEn ?_; intro w6 g6 hB6 hk6 hg6 hl6; have HB6 := hid hB6; have HK6 := hid hk6; clear hB6 hk6)
              | (with_reducible refine at_store 108 9 ?_; refine wpl_store 108 2 Tryz.sizeEn rfl (cells := [.string en, .string ed]) rfl HB6.out rfl rfl (by simp [Value.oneCell']) ?_; intro w7 hB7 hk7 hs7; have HK7 : Hid (Same wr w7) := hid (HK6.out.then hk7 (fun x hx e => by omega)); have f1 := hB7.cell 1; simp only [List.getElem?_toArray, List.getElem?_cons_zero, List.getElem?_cons_succ] at f1; have u0 := HK7.out.cell u0 (fun f => f); have z0 := (HBU.out.kept HK7.out (fun f => f)).frozen 0; clear hB7 hk7 hs7 HB6 HK6))
            go_roundg (gk - 1)
            case measure => omega
            case rel => exact ⟨j + 1, by omega, by omega, by go_num, hid (by rw [HSM.out, ← Nat.add_assoc, ← HB1.out]; exact (HJ.out.same HK7.out).setB _)⟩
          · have hjn : j = le := by omega
            have q0 : ¬ j < le := hjl
            go_wp2_with fail
            go_roundg (gk0 - 1)
            case measure => omega
            case rel =>
              refine ⟨i + 1, by omega, by omega, by go_num, hid ?_⟩
              rw [HBN.out.1, HBN.out.2]
              have h9 := HJ.out
              rw [List.take_of_length_le (by have := HXE.out.2.1; omega)] at h9
              exact h9
      · have ht1 : (tn.toList == ow.toList) = false := by
          cases hq : (tn.toList == ow.toList) with
          | false => rfl
          | true =>
            refine absurd ?_ hto
            have h9 := eq_of_beq hq
            rw [ByteArray.toList_eq, ByteArray.toList_eq] at h9
            exact ByteArray.ext (Array.toList_inj.1 h9)
        rw [if_neg hto, if_neg hto] at HBN
        clear hto
        go_wp2_with (first
          | (with_reducible refine at_alloc 83 7 ?_; refine wpl_alloc 83 _ Tryz.zeroArc ?_; intro w3 g3 hB3 hk3 hg3 hl3; have HB3 := hid hB3; have HK3 := hid hk3; clear hB3 hk3)
          | (with_reducible refine at_store 83 7 ?_; refine wpl_store 83 3 Tryz.sizeArc rfl (cells := [.string tn, .string ar, .slice xa le xc]) rfl HB3.out rfl rfl (by simp [Value.oneCell']) ?_; intro w4 hB4 hk4 hs4; have HK4 : Hid (Same wr w4) := hid (HK3.out.then hk4 (fun x hx e => by omega)); have f0 := hB4.cell 0; simp only [List.getElem?_toArray, List.getElem?_cons_zero] at f0; clear hB4 hk4 hs4 HB3 HK3))
        go_roundg (gk - 1)
        case measure => omega
        case rel => exact ⟨i + 1, by omega, by omega, by go_num, hid (by rw [HBN.out.1, HBN.out.2]; exact HI.out.same HK4.out)⟩
    · have hin : i = nA := by omega
      have HE : Hid (UseI w2 wr u (useB ow (adD As)) (useN ow (adD As))) := hid (by
        have h9 := HI.out
        rw [List.take_of_length_le (by have := HIS.out.2.2.2; omega)] at h9
        exact h9)
      obtain ⟨B0, hB0⟩ : ∃ b, b = useB ow (adD As) := ⟨_, rfl⟩
      obtain ⟨N0, hN0⟩ : ∃ b, b = useN ow (adD As) := ⟨_, rfl⟩
      rw [← hB0, ← hN0] at HE
      have HRB : Hid (Blk wr rb #[.int .i64 0, .int .i64 0] 78) := hid ((((HBR.out.kept HKA.out (fun f => f)).kept HK2.out (fun f => f)).kept HE.out.2 (by have := HLU.out; omega)))
      have HKE : Hid (Same w wr) := hid ((HKW.out.trans HK2.out).then HE.out.2 (fun k hk e => by have := HKR.out.size; have := HLU.out; omega))
      have HBU : Hid (Blk wr u #[.int .i64 (wr14 B0), .int .i64 (wr14 N0)] 78) := hid HE.out.1
      have hq : ¬ i < nA := hlt
      go_wp2_with (first
        | (with_reducible refine at_load 78 44 ?_; refine wpl_load 78 2 _ Tryz.underlying78 rfl Tryz.sizeUs rfl HBU.out [.int .i64 (wr14 B0), .int .i64 (wr14 N0)] (by simp) (by simp) ?_)
        | (with_reducible refine at_store 78 4 ?_; refine wpl_store 78 2 Tryz.sizeUs rfl (cells := [.int .i64 (wr14 B0), .int .i64 (wr14 N0)]) rfl HRB.out rfl rfl (by simp [Value.oneCell']) ?_; intro w4 hB4 hk4 hs4; have HB4 := hid hB4; have HK4 := hid hk4; clear hB4 hk4))
      refine bodyPost_ret (v := .agg #[.int .i64 (wr14 B0), .int .i64 (wr14 N0)]) (by rw [results_cell15 rfl 2 _ Tryz.underlying78 rfl Tryz.sizeUs _ rfl HB4.out rfl]) rfl ?_
      exact ⟨adD As, HIS.out.1, by rw [hB0, hN0], HKE.out.then HK4.out (fun k hk e => by omega)⟩

end Go.Proofs.YtapcjmnibkoegaaGreatDoor
