/-
  The law LensUnpacks.
-/
import Derived.Test.YtofhlnpbflkdlaaDoorLnAw
import Derived.Test.YtofhlnpbflkdlaaDoorLnReadsLaw
import Derived.Test.YtofhlnpbflkdlaaDoorHArgs
namespace Go.Proofs.YtofhlnpbflkdlaaDoor
open Go.RowKit

/-- A slice of some cells an element, as cells behind an address. -/
theorem SrcC.cellsAt {α : Type} {k : Nat} {enc : α → List Value} {w : World} {I : Nat → Prop} {ao : Option Addr} {n cap : Nat} {xs : List α} (ok : EncOk enc k) (h : SrcC k enc w I (.slice ao n cap) xs) (hne : xs ≠ []) : ∃ ad, ao = some ad ∧ CellsAt w ad (xs.flatMap enc) := by
  obtain ⟨ao', cap', e, _, hc⟩ := h
  simp only [Value.slice.injEq] at e
  obtain ⟨rfl, _, rfl⟩ := e
  obtain ⟨b, o, rfl, _, hcell⟩ := hc hne
  refine ⟨_, rfl, fun j u hu => ?_⟩
  have hk := ok.pos
  have hj : j < (xs.flatMap enc).length := (List.getElem?_eq_some_iff.1 hu).1
  rw [flat_length ok] at hj
  have h1 : j / k < xs.length := (Nat.div_lt_iff_lt_mul hk).2 hj
  have h2 : j % k < k := Nat.mod_lt _ hk
  have h3 := flat_get ok xs (j / k) (j % k) h1 h2
  rw [Nat.div_add_mod' j k] at h3
  have e : (⟨b, o, none⟩ : Addr).add j = ⟨b, o + j, none⟩ := by unfold Addr.add; split <;> simp_all
  have h4 := hcell (j / k) h1 (j % k) h2
  rw [Nat.div_add_mod' j k] at h4
  rw [e, h4, ← h3, hu]

theorem splice_head {α : Type} (L cs : List α) : splice L 0 cs = cs ++ L.drop cs.length := by simp [splice]

/-- What is lent of steps: the steps, and a mark behind them. -/
theorem lent_steps (ss : List (Int × Int)) (L : Nat) (hL : ss.length = L) : splice ((List.replicate (L + 1) ((0 : Int), (0 : Int))).flatMap stC) 0 (ss.flatMap stC) = (ss ++ [(0, 0)]).flatMap stC := by
  have e1 := flat_length stC_ok ss
  have e2 : List.replicate (L + 1) ((0 : Int), (0 : Int)) = List.replicate L (0, 0) ++ [(0, 0)] := List.replicate_succ'
  have e3 : ((List.replicate L ((0 : Int), (0 : Int))).flatMap stC).length = L * 2 := by rw [flat_length stC_ok, List.length_replicate]
  rw [splice_head, e1, hL, e2, List.flatMap_append, List.flatMap_append, ← e3, List.drop_left]

theorem set_mark (ss : List (Int × Int)) (L : Nat) (hL : ss.length = L) : ((ss ++ [((0 : Int), (0 : Int))]).flatMap stC).set (L * 2) (.int .i64 (-77)) = (ss ++ [(-77, 0)]).flatMap stC := by
  have e1 := flat_length stC_ok ss
  rw [List.flatMap_append, List.flatMap_append, List.set_append_right _ _ (by rw [e1, hL]; exact Nat.le_refl _), e1, hL, Nat.sub_self]
  rfl

theorem Raw.set {w : World} {g : Nat} {t : TypeId} {L : List Value} (h : Raw w g t L) (i : Nat) (u : Value) : Raw (w.setCell ⟨g, i, none⟩ u) g t (L.set i u) := by
  have := Blk.set (show Blk w g L.toArray t from h) i u
  unfold Blk at this
  unfold Raw
  rw [this]
  simp

theorem Raw.cell {w : World} {g : Nat} {t : TypeId} {L : List Value} (h : Raw w g t L) (i : Nat) : w.cell? ⟨g, i, none⟩ = L[i]? := by
  have := Blk.cell (show Blk w g L.toArray t from h) i
  rw [this]
  simp

theorem Raw.frozen {w : World} {g : Nat} {t : TypeId} {L : List Value} (h : Raw w g t L) (i : Nat) : w.frozen? ⟨g, i, none⟩ = false := Blk.frozen (show Blk w g L.toArray t from h) i

/-- The head of a block that is known whole, as a slice of steps. -/
theorem Raw.steps {w : World} {g : Nat} {ss tt : List (Int × Int)} (h : Raw w g 31 ((ss ++ tt).flatMap stC)) (cap : Nat) (hc : ss.length ≤ cap) : StSrc w (fun k => k = g) (.slice (some ⟨g, 0, none⟩) ss.length cap) ss := by
  refine ⟨_, _, rfl, hc, fun _ => ⟨g, 0, rfl, rfl, fun j hj i hi => ?_⟩⟩
  rw [Nat.zero_add, h.cell, flat_get stC_ok (ss ++ tt) j i (by simp; omega) hi, List.getElem_append_left hj]

set_option maxRecDepth 100000 in
set_option maxHeartbeats 4000000 in
theorem unpacks_good (W : World) (a : Option Addr) (L cap : Nat) (ss : List (Int × Int)) (nz : Int) (hs : StSrc W (fun k => k < W.heap.size) (.slice a L cap) ss) (hl : ss.length = L) (hlong : L ≤ 1048576) (hT : Tab W) :
    Calls Tryd.prog 4 #[.slice a L cap, .int .i64 nz] W fun e w' => e = .returned (.bool true) ∧ Same W w' := by
  have HS : Hid (StSrc W (fun k => k < W.heap.size) (.slice a L cap) ss) := hs
  have HT : Hid (Tab W) := hT
  have HL : Hid (ss.length = L) := hl
  have b1 : decide ((1048576 : Int) < (L : Int)) = false := by simp; omega
  obtain ⟨L1, hL1⟩ : ∃ x, x = L + 1 := ⟨_, rfl⟩
  have hL1I : (L : Int) + 1 = (L1 : Int) := by omega
  have hL1w : IntKind.i64.wrap (L1 : Int) = (L1 : Int) := by rw [IntKind.wrap_i64]; omega
  have hLL : L < L1 := by omega
  have HMIN : Hid (Nat.min L L1 = L) := hid (Nat.min_eq_left (by omega))
  have HE1 : Hid ((ss.flatMap stC).length = L * 2) := hid (by rw [flat_length stC_ok, hl])
  have HFIT : Hid (0 + (ss.flatMap stC).length ≤ ((List.replicate L1 ((0 : Int), (0 : Int))).flatMap stC).length) := hid (by rw [HE1.out, flat_length stC_ok, List.length_replicate]; omega)
  have HLS : Hid (splice ((List.replicate L1 ((0 : Int), (0 : Int))).flatMap stC) 0 (ss.flatMap stC) = (ss ++ [(0, 0)]).flatMap stC) := hid (by rw [hL1]; exact lent_steps ss L hl)
  have HMK : Hid (((ss ++ [((0 : Int), (0 : Int))]).flatMap stC).set (L * 2) (.int .i64 (-77)) = (ss ++ [(-77, 0)]).flatMap stC) := hid (set_mark ss L hl)
  have HG0 : Hid (((ss ++ [((0 : Int), (0 : Int))]).flatMap stC)[L * 2]? = some (.int .i64 0)) := hid (by
    have h := flat_get stC_ok (ss ++ [((0 : Int), (0 : Int))]) L 0 (by simp; omega) (by decide)
    rw [Nat.add_zero] at h
    rw [h, List.getElem_append_right (by omega)]
    simp [stC])
  have HG1 : Hid (((ss ++ [((-77 : Int), (0 : Int))]).flatMap stC)[L * 2]? = some (.int .i64 (-77)) ∧ ((ss ++ [((-77 : Int), (0 : Int))]).flatMap stC)[L * 2 + 1]? = some (.int .i64 0)) := hid (by
    have h := flat_get stC_ok (ss ++ [((-77 : Int), (0 : Int))]) L 0 (by simp; omega) (by decide)
    have h' := flat_get stC_ok (ss ++ [((-77 : Int), (0 : Int))]) L 1 (by simp; omega) (by decide)
    rw [Nat.add_zero] at h
    rw [h, h', List.getElem_append_right (by omega)]
    simp [stC])
  clear hs hT hL1
  go_enter Tryd.func4, Tryd.ntmps4
  go_wp2_with (first
    | (at_make; refine wpList_make_c _ stC 2 stC_ok (0, 0) W.heap.size 25 31 (.agg #[.int .i64 0, .int .i64 0]) 16 Tryd.underlying25 Tryd.infoSt rfl (by decide) rfl _ _ rfl _ _ _ _ L1 rfl rfl rfl rfl (by omega) (Nat.le_refl _) ?_; intro w2 hr2 hg2 hs2; have HR2 : Hid (Raw w2 W.heap.size 31 ((List.replicate L1 ((0 : Int), (0 : Int))).flatMap stC)) := hid hr2.raw; have HK2 : Hid (Same W w2) := hid ((Kept.refl _ W).grown hg2 (fun j e => by cases e)); clear hr2 hg2)
    | (with_reducible refine atCopy ?_; refine wpList_copy_k _ rfl (.tmp 19) (.tmp 20) 25 25 rfl 31 2 Tryd.underlying25 Tryd.infoSt1 W.heap.size 0 L1 L1 a L cap rfl rfl _ 31 HR2.out (ss.flatMap stC) (by rw [HMIN.out]; exact HE1.out) (fun h => SrcC.cellsAt stC_ok (SrcC.kept stC_ok HS.out HK2.out (fun _ _ _ f => f)) (fun e => by rw [e] at h; simp at h)) (by decide) HFIT.out (flat_one stC_ok _) L HMIN.out ?_; intro w3 hr3 hg3; have HR3 : Hid (Raw w3 W.heap.size 31 ((ss ++ [((0 : Int), (0 : Int))]).flatMap stC)) := hid (by rw [← HLS.out]; exact hr3); have HK3 : Hid (Same W w3) := hid (HK2.out.grown hg3 (fun j e => .inr (by injection e with e; omega))); have c1 : w3.cell? ⟨W.heap.size, L * 2, none⟩ = some (.int .i64 0) := (by rw [HR3.out.cell, HG0.out]); have f1 : w3.frozen? ⟨W.heap.size, L * 2, none⟩ = false := HR3.out.frozen _; clear hr3 hg3))
  obtain ⟨w4, hw4⟩ : ∃ w4, w4 = w3.setCell ⟨W.heap.size, L * 2, none⟩ (.int .i64 (-77)) := ⟨_, rfl⟩
  rw [← hw4]
  have HR4 : Hid (Raw w4 W.heap.size 31 ((ss ++ [((-77 : Int), (0 : Int))]).flatMap stC)) := hid (by rw [hw4, ← HMK.out]; exact HR3.out.set _ _)
  have HK4 : Hid (Same W w4) := hid (by rw [hw4]; exact HK3.out.setCell _ _ (.inr (Nat.le_refl _)))
  have hsrc4 : StSrc w4 (fun k => k = W.heap.size) (.slice (some ⟨W.heap.size, 0, none⟩) L L1) ss := by have h := HR4.out.steps L1 (by rw [HL.out]; omega); rw [HL.out] at h; exact h
  have HUN := lunpack_any w4 _ _ ss nz hsrc4 (by rw [HL.out]; omega)
  clear hw4 hsrc4 c1 f1 HR3 HK3 HR2 HK2
  cases hun : unpM ss nz with
  | error er =>
    rw [hun] at HUN
    have HUE : Hid (unpM ss nz = .error er) := hun
    clear hun
    refine HUN.mono ?_
    rintro e w5 ⟨rfl, hk5⟩
    have HR5 : Hid (Raw w5 W.heap.size 31 ((ss ++ [((-77 : Int), (0 : Int))]).flatMap stC)) := hid (HR4.out.kept hk5 (fun f => f))
    have HK5 : Hid (Same W w5) := hid (Same.trans HK4.out hk5)
    have c1 : w5.cell? ⟨W.heap.size, L * 2, none⟩ = some (.int .i64 (-77)) := by rw [HR5.out.cell, HG1.out.1]
    have c2 : w5.cell? ⟨W.heap.size, L * 2 + 1, none⟩ = some (.int .i64 0) := by rw [HR5.out.cell, HG1.out.2]
    have hsrc5 : StSrc w5 (fun k => k = W.heap.size) (.slice (some ⟨W.heap.size, 0, none⟩) L L1) ss := by have h := HR5.out.steps L1 (by rw [HL.out]; omega); rw [HL.out] at h; exact h
    have HSM := same_any _ _ _ _ ss ss w5 hsrc5 (SrcC.kept stC_ok HS.out HK5.out (fun _ _ _ f => f)) (by rw [HL.out]; omega) (by rw [HL.out]; omega)
    have hd : decide (ss = ss) = true := by simp
    rw [hd] at HSM
    clear hd hk5 hsrc5 HUN
    go_wp2_with fail
    refine HSM.mono ?_
    rintro e w6 ⟨rfl, hk6⟩
    have HK6 : Hid (Same W w6) := hid (Same.trans HK5.out hk6)
    have HRU := unpack_any w6 _ _ ss nz (SrcC.kept stC_ok HS.out HK6.out (fun _ _ _ f => f)) (by rw [HL.out]; omega)
    rw [HUE.out] at HRU
    clear hk6 HSM c1 c2
    go_wp2_with fail
    refine HRU.mono ?_
    rintro e w7 ⟨rfl, hk7⟩
    have HK7 : Hid (Same W w7) := hid (Same.trans HK6.out hk7)
    have HAW := lawake_any w7 (HT.out.kept HK7.out (fun f => f))
    clear hk7 HRU
    go_wp2_with fail
    refine HAW.mono ?_
    rintro e w8 ⟨rfl, hk8⟩
    have HK8 : Hid (Same W w8) := hid (Same.trans HK7.out hk8)
    have HI1 := ints_nil w8
    clear hk8 HAW
    go_wp2_with fail
    refine HI1.mono ?_
    rintro e w9 ⟨rfl, hk9⟩
    have HK9 : Hid (Same W w9) := hid (Same.trans HK8.out hk9)
    clear hk9 HI1
    go_wp2_with fail
    go_ret
    exact ⟨rfl, HK9.out⟩
  | ok l =>
    rw [hun] at HUN
    have HUE : Hid (unpM ss nz = .ok l) := hun
    have HLL : Hid (l.length ≤ 10000000) := hid (by
      unfold unpM at hun
      split at hun
      · cases hun
      · split at hun
        · cases hun
        · rename_i h1 _ l' hr
          split at hun
          · cases hun
          · simp only [Except.ok.injEq] at hun
            subst hun
            have := (runM_le hr (by simp) (by simp)).1
            omega)
    clear hun
    refine HUN.mono ?_
    rintro e w5 ⟨v5, rfl, hn5⟩
    have hk5 := hn5.same
    have HV5 : Hid (NRow w4.heap.size w5 v5 l) := hn5.row
    have HR5 : Hid (Raw w5 W.heap.size 31 ((ss ++ [((-77 : Int), (0 : Int))]).flatMap stC)) := hid (HR4.out.kept hk5 (fun f => f))
    have HK5 : Hid (Same W w5) := hid (Same.trans HK4.out hk5)
    have c1 : w5.cell? ⟨W.heap.size, L * 2, none⟩ = some (.int .i64 (-77)) := by rw [HR5.out.cell, HG1.out.1]
    have c2 : w5.cell? ⟨W.heap.size, L * 2 + 1, none⟩ = some (.int .i64 0) := by rw [HR5.out.cell, HG1.out.2]
    have hsrc5 : StSrc w5 (fun k => k = W.heap.size) (.slice (some ⟨W.heap.size, 0, none⟩) L L1) ss := by have h := HR5.out.steps L1 (by rw [HL.out]; omega); rw [HL.out] at h; exact h
    have HSM := same_any _ _ _ _ ss ss w5 hsrc5 (SrcC.kept stC_ok HS.out HK5.out (fun _ _ _ f => f)) (by rw [HL.out]; omega) (by rw [HL.out]; omega)
    have hd : decide (ss = ss) = true := by simp
    rw [hd] at HSM
    clear hd hk5 hn5 hsrc5 HUN
    go_wp2_with fail
    refine HSM.mono ?_
    rintro e w6 ⟨rfl, hk6⟩
    have HK6 : Hid (Same W w6) := hid (Same.trans HK5.out hk6)
    have HV6 : Hid (NRow w4.heap.size w6 v5 l) := hid (HV5.out.same hk6)
    have HRU := unpack_any w6 _ _ ss nz (SrcC.kept stC_ok HS.out HK6.out (fun _ _ _ f => f)) (by rw [HL.out]; omega)
    rw [HUE.out] at HRU
    clear hk6 HSM c1 c2 HV5
    go_wp2_with fail
    refine HRU.mono ?_
    rintro e w7 ⟨v7, rfl, hn7⟩
    have HK7 : Hid (Same W w7) := hid (Same.trans HK6.out hn7.same)
    have HV7 : Hid (NRow w4.heap.size w7 v5 l) := hid (HV6.out.same hn7.same)
    have HX7 : Hid (NRow w6.heap.size w7 v7 l) := hn7.row
    have HAW := lawake_any w7 (HT.out.kept HK7.out (fun f => f))
    clear hn7 HRU HV6
    go_wp2_with fail
    refine HAW.mono ?_
    rintro e w8 ⟨rfl, hk8⟩
    have HK8 : Hid (Same W w8) := hid (Same.trans HK7.out hk8)
    have HI1 := ints_same w8 v5 v7 _ _ l (SrcE.ofRow (HV7.out.same hk8)) (SrcE.ofRow (HX7.out.same hk8)) HLL.out
    clear hk8 HAW
    go_wp2_with fail
    refine HI1.mono ?_
    rintro e w9 ⟨rfl, hk9⟩
    have HK9 : Hid (Same W w9) := hid (Same.trans HK8.out hk9)
    clear hk9 HI1
    go_wp2_with fail
    go_ret
    exact ⟨rfl, HK9.out⟩

set_option maxRecDepth 100000 in
set_option maxHeartbeats 4000000 in
theorem lensUnpacks_all (a : Option Addr) (len cap : Nat) (ss : List (Int × Int)) (nz : Int) (W : World) (hs : StSrc W (fun k => k < W.heap.size) (.slice a len cap) ss) (hl : ss.length = len) (hT : Tab W) :
    Calls Tryd.prog 4 #[.slice a len cap, .int .i64 nz] W fun e w' => e = .returned (.bool true) ∧ Below W.heap.size W w' := by
  suffices H : Calls Tryd.prog 4 #[.slice a len cap, .int .i64 nz] W fun e w' => e = .returned (.bool true) ∧ Same W w' from H.mono (fun e w' h => ⟨h.1, h.2.bel⟩)
  have HAW := lawake_any W hT
  by_cases hlong : 1048576 < len
  · have b1 : decide ((1048576 : Int) < (len : Int)) = true := by simp; omega
    clear hlong hl hs
    go_enter Tryd.func4, Tryd.ntmps4
    go_wp2_with fail
    refine HAW.mono ?_
    rintro e w5 ⟨rfl, hk5⟩
    have HK5 : Hid (Same W w5) := hk5
    clear hk5 HAW
    go_wp2_with fail
    go_ret
    exact ⟨rfl, HK5.out⟩
  · exact unpacks_good W a len cap ss nz hs hl (by omega) hT

end Go.Proofs.YtofhlnpbflkdlaaDoor
