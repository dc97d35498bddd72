/-
  Proved: for every list of steps and every int the law LensUnpacks answers true: steps say just their lengths, or are refused; the arguments read afterwards as before. The card: the table of the steps' order as the program's text lays it.
  (Parts: HLen2, HLim, HAwake, LnAw, LnReadW, LnReadsLaw, LnUnpLaw, StepArg, LnFrame, LensUnpacksProof.)
-/
import Derived.Deep.Strs
import Derived.Deep.Slices
import Derived.Lib.LaidTab
import Derived.WalkKit
import Derived.ProofKit
import Derived.OpenShut
import Derived.ShutString
import Derived.ChangeOld
import Derived.Deep.DeepHandedRow
import Derived.Test.YtofhlnpbflkdlaaDoorJ5
import Derived.Test.YtofhlnpbflkdlaaDoorJ2
import Derived.Test.YtofhlnpbflkdlaaDoorJ4
import Derived.Test.YtofhlnpbflkdlaaDoorJ3
import Derived.Test.YtofhlnpbflkdlaaDoorRows
import Derived.Test.YtofhlnpbflkdlaaDoorCards
import Derived.Test.YtofhlnpbflkdlaaDoorTie
import Derived.Test.YtofhlnpbflkdlaaDoorJ1

/-
  lengthen: the walk.
-/
namespace Go.Proofs.YtofhlnpbflkdlaaDoor
open Go.RowKit Go.Shelf

attribute [local go_sem] Oper.semAt_some

theorem pk_succ (X : List (Nat × Bool)) (j : Nat) (h : j < X.length) : pk X (j + 1) = pk X j + (if X[j].2 then 1 else 0) := by
  unfold pk
  rw [List.take_succ_eq_append_getElem h, List.countP_append]
  cases hb : X[j].2 <;> simp [hb]

theorem pk_le_T (X : List (Nat × Bool)) (T : Nat) : pk X T ≤ T := Nat.le_trans List.countP_le_length (by simp; omega)

theorem lev_ge (ws : List Nat) (t : Nat) : ws.length ≤ (lev ws t).length := by
  cases t with
  | zero => rw [lev_length_zero]; exact Nat.le_refl _
  | succ t => rw [lev_length_succ]; omega

/-- One round more. -/
theorem LI.next {ns : List Nat} {most : Nat} {w3 : World} {go bt n cn k : Nat} {W W' : World} {T : Nat} {p : Nat → Nat} (h : LI ns most w3 go bt n cn k W T p) (hk : k < most) (hns : (wsOf ns).length ≤ 288)
    (ct : W'.cell? ⟨bt, 0, none⟩ = some (.int .i64 ((2 * pk (lev (wsOf ns) (most - 1 - k)) T : Nat) : Int))) (ft : W'.frozen? ⟨bt, 0, none⟩ = false)
    (row : NRow 0 W' (.slice (some ⟨go, 0, none⟩) n cn) (outP ns (fun i => p i + if i < lf (lev (wsOf ns) (most - 1 - k)) T then 1 else 0))) (kept : Kept (fun j => j = go ∨ j = bt) w3 W') :
    LI ns most w3 go bt n cn (k + 1) W' (2 * pk (lev (wsOf ns) (most - 1 - k)) T) (fun i => p i + if i < lf (lev (wsOf ns) (most - 1 - k)) T then 1 else 0) := by
  obtain ⟨h1, h2⟩ := h.more hk
  refine ⟨ct, ft, row, kept, ?_, ?_, ?_, ?_⟩
  · have h3 := pk_le_T (lev (wsOf ns) (most - 1 - k)) T
    by_cases e : most - 1 - k = 0
    · rw [e, pk_zero]; omega
    · have h4 := pk_le (wsOf ns) (most - 1 - k - 1) T
      rw [show most - 1 - k - 1 + 1 = most - 1 - k by omega] at h4
      have h5 := (lev_length (wsOf ns) (most - 1 - k - 1)).2
      omega
  · intro i
    have := h.hp i
    split <;> omega
  · intro hk2
    have e : most - 1 - k = (most - 1 - (k + 1)) + 1 := by omega
    rw [e] at h2 ⊢
    refine ⟨pk_le _ _ _, fun i => ?_⟩
    have h3 := h2 i
    have e3 : gain (wsOf ns) (most - 1 - (k + 1) + 1) T i = (if i < lf (lev (wsOf ns) (most - 1 - (k + 1) + 1)) T then 1 else 0) + gain (wsOf ns) (most - 1 - (k + 1)) (2 * pk (lev (wsOf ns) (most - 1 - (k + 1) + 1)) T) i := rfl
    rw [e3] at h3
    omega
  · intro hk2 i
    have e : most - 1 - k = 0 := by omega
    have h3 := h2 i
    rw [e] at h3 ⊢
    have e3 : gain (wsOf ns) 0 T i = if i < lf (lev (wsOf ns) 0) T then 1 else 0 := rfl
    rw [e3] at h3
    exact h3

set_option maxRecDepth 100000 in
set_option maxHeartbeats 4000000 in
theorem lengthen_in (F : Fence) (fm : Nat) (h34 : F.fn 76) (h5 : F.fn 89) (h7 : F.fn 96) (hro : F.round = none) (hfm : 3 ≤ fm)
    (w : World) (ns : List Nat) (most go n cn gl capl : Nat) (vu : Value) (I : Nat → Prop) (Bl Bo : Nat) (vs : List (Option Addr × Nat × Nat)) (hrow : NRow Bo w (.slice (some ⟨go, 0, none⟩) n cn) (List.replicate n 0)) (hn : n = ns.length) (hns : ns.length ≤ 288)
    (hu : SrcE natV w I vu (ris ns)) (hI : ∀ k, I k → k ≠ go) (hl : LRow Bl w (.slice (some ⟨gl, 0, none⟩) most capl) vs) (hlev : Levs Bl w ns vs) (hm2 : 2 ≤ (ris ns).length) (hm1 : 1 ≤ most) (hmost : most ≤ 15) (hfit : (ris ns).length ≤ 2 ^ most) :
    CallsIn F fm Tryd.prog 76 #[.slice (some ⟨go, 0, none⟩) n cn, vu, .slice (some ⟨gl, 0, none⟩) most capl] w fun e w' => (∃ v, e = .returned v) ∧ NRow 0 w' (.slice (some ⟨go, 0, none⟩) n cn) (outP ns (gain (wsOf ns) (most - 1) (2 * (wsOf ns).length - 2))) ∧ Kept (· = go) w w' := by
  have h1 : 1 ≤ fm := by omega
  obtain ⟨bu, ou, capu, hvu, _, _, _⟩ := hu.get 0 (by omega)
  subst hvu
  have hvl : vs.length = most := hl.len
  have hgo : go < w.heap.size := hrow.lt rfl
  have hgl : gl < w.heap.size := hl.lt rfl
  have hglgo : gl ≠ go := NRow.apartL hl hrow rfl rfl
  have hml : (ris ns).length ≤ 288 := Nat.le_trans (ris_length ns) hns
  have hcapu : (ris ns).length ≤ capu := by
    obtain ⟨_, _, e, h, _⟩ := hu
    simp only [Value.slice.injEq] at e
    omega
  have HU : Hid (SrcE natV w (fun k => I k ∧ k < w.heap.size) (.slice (some ⟨bu, ou, none⟩) (ris ns).length capu) (ris ns)) := hu.low
  have HLV : Hid (Levs Bl w ns vs) := hlev
  have HL : Hid (LRow Bl w (.slice (some ⟨gl, 0, none⟩) most capl) vs) := hl
  have HRW : Hid (NRow Bo w (.slice (some ⟨go, 0, none⟩) n cn) (List.replicate n 0)) := hrow
  obtain ⟨m, hm⟩ : ∃ m, m = (ris ns).length := ⟨_, rfl⟩
  have HM : Hid (m = (ris ns).length) := hm
  rw [← hm] at hm2 hml hcapu hfit HU ⊢
  have HFIT : Hid (m ≤ 2 ^ most) := hfit
  have HN : Hid (n = ns.length) := hn
  have HI : Hid (∀ k, I k → k ≠ go) := hI
  have HVL : Hid (vs.length = most) := hvl
  clear hu hlev hl hrow hm hfit hn hI hvl
  refine callsIn_of_wp_marks Tryd.func76 rfl h34 ?_ hro
  simp only [Tryd.ntmps76, List.size_toArray, List.length_cons, List.length_nil, Nat.reduceAdd, Nat.reduceSub, Array.replicate_succ, Array.replicate_zero, List.push_toArray, List.append_toArray, List.nil_append, List.cons_append]
  gi_wp2_with (gi_at_call 89; refine (lbackward_in F (fm - 1) h5 hro _ _ _ _).mono ?_; rintro e w' ⟨rfl, rfl⟩)
  obtain ⟨w3, hw3⟩ : ∃ w3, w3 = (((w.alloc (.cells #[.slice (some ⟨go, 0, none⟩) n cn] 22)).alloc (.cells #[.slice (some ⟨bu, ou, none⟩) m capu] 22)).alloc (.cells #[.int .i64 (2 * (m : Int) - 2)] 3)).alloc (.cells #[.slice (some ⟨gl, 0, none⟩) most capl] 112) := ⟨_, rfl⟩
  have hsa : ∀ (W : World) (o : Obj), (W.alloc o).heap.size = W.heap.size + 1 := fun W o => World.size_alloc W o
  have ka : ∀ (W : World) (o : Obj), Same W (W.alloc o) := fun W o => (Kept.refl _ W).alloc o
  have hnew : ∀ (W : World) (v : Value) (t : TypeId), (W.alloc (.cells #[v] t)).cell? ⟨W.heap.size, 0, none⟩ = some v := fun W v t => by simp
  have hfz : ∀ (W : World) (v : Value) (t : TypeId), (W.alloc (.cells #[v] t)).frozen? ⟨W.heap.size, 0, none⟩ = false := fun W v t => by simp
  have F3 : Same w w3 ∧ w3.heap.size = w.heap.size + 1 + 1 + 1 + 1 ∧ w3.cell? ⟨w.heap.size, 0, none⟩ = some (.slice (some ⟨go, 0, none⟩) n cn) ∧ w3.cell? ⟨w.heap.size + 1, 0, none⟩ = some (.slice (some ⟨bu, ou, none⟩) m capu) ∧
      w3.cell? ⟨w.heap.size + 1 + 1, 0, none⟩ = some (.int .i64 ((2 * m - 2 : Nat) : Int)) ∧ w3.frozen? ⟨w.heap.size + 1 + 1, 0, none⟩ = false ∧ w3.cell? ⟨w.heap.size + 1 + 1 + 1, 0, none⟩ = some (.slice (some ⟨gl, 0, none⟩) most capl) := by
    have e2 : (2 * (m : Int) - 2) = ((2 * m - 2 : Nat) : Int) := by omega
    rw [e2] at hw3
    generalize hA : w.alloc (.cells #[.slice (some ⟨go, 0, none⟩) n cn] 22) = wa at hw3
    generalize hB : wa.alloc (.cells #[.slice (some ⟨bu, ou, none⟩) m capu] 22) = wb at hw3
    generalize hC : wb.alloc (.cells #[.int .i64 ((2 * m - 2 : Nat) : Int)] 3) = wc at hw3
    have s1 : wa.heap.size = w.heap.size + 1 := by rw [← hA, hsa]
    have s2 : wb.heap.size = w.heap.size + 1 + 1 := by rw [← hB, hsa, s1]
    have s3 : wc.heap.size = w.heap.size + 1 + 1 + 1 := by rw [← hC, hsa, s2]
    have k1 : Same w wa := by rw [← hA]; exact ka _ _
    have k2 : Same wa wb := by rw [← hB]; exact ka _ _
    have k3 : Same wb wc := by rw [← hC]; exact ka _ _
    have k4 : Same wc w3 := by rw [hw3]; exact ka _ _
    have c1 : wa.cell? ⟨w.heap.size, 0, none⟩ = some (.slice (some ⟨go, 0, none⟩) n cn) := by rw [← hA]; exact hnew _ _ _
    have c2 : wb.cell? ⟨wa.heap.size, 0, none⟩ = some (.slice (some ⟨bu, ou, none⟩) m capu) := by rw [← hB]; exact hnew _ _ _
    have c3 : wc.cell? ⟨wb.heap.size, 0, none⟩ = some (.int .i64 ((2 * m - 2 : Nat) : Int)) := by rw [← hC]; exact hnew _ _ _
    have f3 : wc.frozen? ⟨wb.heap.size, 0, none⟩ = false := by rw [← hC]; exact hfz _ _ _
    have c4 : w3.cell? ⟨wc.heap.size, 0, none⟩ = some (.slice (some ⟨gl, 0, none⟩) most capl) := by rw [hw3]; exact hnew _ _ _
    rw [s1] at c2
    rw [s2] at c3 f3
    rw [s3] at c4
    refine ⟨Same.trans k1 (Same.trans k2 (Same.trans k3 k4)), by rw [hw3, hsa, s3], (Same.trans k2 (Same.trans k3 k4)).cell c1 (fun h => h), (Same.trans k3 k4).cell c2 (fun h => h), k4.cell c3 (fun h => h), ?_, c4⟩
    exact (k4.frozen (p := ⟨w.heap.size + 1 + 1, 0, none⟩) (by rw [s3]; simp) (fun h => h)).trans f3
  rw [← hw3]
  clear hw3 hsa ka hnew hfz
  generalize hb3 : w.heap.size + 1 + 1 + 1 = b3 at *
  generalize hb2 : w.heap.size + 1 + 1 = b2 at *
  generalize hb1 : w.heap.size + 1 = b1 at *
  have HF3 : Hid (Same w w3 ∧ w3.heap.size = b3 + 1) := ⟨F3.1, F3.2.1⟩
  obtain ⟨_, _, cb0, cb1, cb2, fb2, cb3⟩ := F3
  have hbb : w.heap.size < b1 ∧ b1 < b2 ∧ b2 < b3 ∧ b3 < w3.heap.size := by have := HF3.out.2; omega
  clear hb3 hb2 hb1
  have hwl : (wsOf ns).length = m := by rw [wsOf_length]; exact HM.out.symm
  refine range_each hro h1 (gf := 96) (lb := #[.pointer (some ⟨b3, 0, none⟩)]) rfl h7 (enters_of Tryd.func96 (by kernel_rfl) rfl) most (levVals vs) (fun _ => rfl) (Keep2 b3 gl) Keep2.trans
    (fun W l o hl => ⟨World.putObj_heap_other (by omega), World.putObj_heap_other (by omega)⟩) (fun k W => ∃ T p, LI ns most w3 go b2 n cn k W T p) (LI.own ns most w3 go b2 n cn)
    ⟨2 * m - 2, fun _ => 0, cb2, fb2, by rw [outP_zero, ← HN.out]; exact RowE.base (HRW.out.same HF3.out.1) (Nat.zero_le _), Kept.refl _ _, by omega, fun _ => by omega, fun _ => ⟨by
        have h := lev_top (wsOf ns) (most - 1) (by rw [hwl, show most - 1 + 1 = most by omega]; exact HFIT.out)
        rw [hwl] at h
        exact h, fun i => by rw [hwl]; simp⟩, fun h => by omega⟩
    (fun k => { tmps := #[.slice (some ⟨go, 0, none⟩) n cn, .slice (some ⟨bu, ou, none⟩) m capu, .slice (some ⟨gl, 0, none⟩) most capl, .pointer (some ⟨w.heap.size, 0, none⟩), .pointer (some ⟨b1, 0, none⟩), undef, .pointer (some ⟨b2, 0, none⟩), undef,
      .slice (vs.getD (vs.length - 1 - k) (none, 0, 0)).1 (vs.getD (vs.length - 1 - k) (none, 0, 0)).2.1 (vs.getD (vs.length - 1 - k) (none, 0, 0)).2.2, undef, undef, undef, undef, undef, .slice (some ⟨bu, ou, none⟩) m capu, .int .i64 (m : Nat), .int .i64 (2 * (m : Int)), .int .i64 (2 * (m : Int) - 2),
      .slice (some ⟨gl, 0, none⟩) most capl, .func (.func 96) #[] #[.pointer (some ⟨b3, 0, none⟩)], .int .i64 ((vs.length - 1 - k : Nat) : Int),
      .slice (vs.getD (vs.length - 1 - k) (none, 0, 0)).1 (vs.getD (vs.length - 1 - k) (none, 0, 0)).2.1 (vs.getD (vs.length - 1 - k) (none, 0, 0)).2.2, undef, undef, undef, undef, undef, undef, undef, undef, undef, undef, undef, undef, undef, undef, undef, undef, undef, undef, undef, undef, undef, undef, undef, undef, undef, undef, undef, undef, undef, undef, undef, undef], defers := [] }) ?seq ?assign ?body ?done
  case seq =>
    intro l J W hW hY hJ
    have hcl : W.cell? ⟨b3, 0, none⟩ = some (.slice (some ⟨gl, 0, none⟩) vs.length capl) := by rw [HVL.out]; exact (hW.cell (p := ⟨b3, 0, none⟩) hbb.2.2.2).trans cb3
    have := lback1_in F (fm - 1) h7 hro (by omega) l b3 gl capl vs (by have := HVL.out; omega) J (fun k W1 hk hj => hY k W1 (by rw [← HVL.out]; exact hk) hj) W hcl
      (fun j hj => (hW.cell (p := ⟨gl, j, none⟩) (by show gl < _; omega)).trans (HF3.out.1.cell (HL.out.cell j hj) (fun h => h))) hJ
    rw [HVL.out] at this
    exact this
  case assign =>
    intro l k W K hk hK
    unfold levVals slV
    gi_wp2
    exact hK
  case body =>
    rintro l k W hk ⟨T, p, hLI⟩
    have hlt : most - 1 - k < vs.length := by have := HVL.out; omega
    obtain ⟨la, ln, lc, hv⟩ : ∃ la ln lc, vs[most - 1 - k] = (la, ln, lc) := ⟨_, _, _, rfl⟩
    have hget : vs.getD (vs.length - 1 - k) (none, 0, 0) = (la, ln, lc) := by rw [HVL.out]; simp [List.getD, hlt, hv]
    have htr0 : TRow Bl w (.slice la ln lc) (lev (wsOf ns) (most - 1 - k)) := by have h := HLV.out _ hlt; rw [hv] at h; exact h
    have htr : TRow Bl W (.slice la ln lc) (lev (wsOf ns) (most - 1 - k)) := TRow.kept (TRow.kept htr0 HF3.out.1 (fun _ _ h => h)) hLI.kept (fun j hj e => by
      rcases e with rfl | rfl
      · exact NRow.apartT htr0 HRW.out hj rfl rfl
      · have := htr0.lt hj; omega)
    rw [hget]
    dsimp only
    have hXl : 0 < (lev (wsOf ns) (most - 1 - k)).length := by have := lev_ge (wsOf ns) (most - 1 - k); omega
    obtain ⟨hTl, _⟩ := hLI.more hk
    have HLI : Hid (LI ns most w3 go b2 n cn k W T p) := hLI
    generalize hX : lev (wsOf ns) (most - 1 - k) = X at htr hXl hTl
    have HX : Hid (lev (wsOf ns) (most - 1 - k) = X) := hX
    obtain ⟨ax, capx, hvx, hcapx, hcells⟩ := htr.shape
    obtain ⟨gx, hax, hgx, hcell⟩ := hcells (by intro e; rw [e] at hXl; simp at hXl)
    simp only [Value.slice.injEq] at hvx
    obtain ⟨rfl, rfl, rfl⟩ := hvx
    subst hax
    have HC : Hid (∀ j (_ : j < X.length), W.cell? ⟨gx, j * 2, none⟩ = some (.int .i64 (X[j].1 : Int)) ∧ W.cell? ⟨gx, j * 2 + 1, none⟩ = some (.bool X[j].2)) := hcell
    have ct := hLI.ct
    have hT6 := hLI.hT
    have hTc : T ≤ lc := by omega
    clear hcells hcell htr htr0 hX hv hget hLI hlt
    gi_wp2
    gi_loopw [9, 26] (fun z9 z26 wx => ∃ j : Nat, j ≤ T ∧ z9 = .int .i64 (pk X j : Nat) ∧ z26 = .int .i64 (j : Nat) ∧ Hid (Same W wx)) (fun _ z26 _ => T - (intOf z26).toNat)
    case atStart => exact ⟨0, by omega, by simp [pk], rfl, Kept.refl _ _⟩
    case round =>
      obtain ⟨j, hj, rfl, rfl, HS⟩ := hrel
      by_cases hjT : j < T
      · have hjX : j < X.length := by omega
        obtain ⟨c1, c2⟩ := HC.out j hjX
        have d1 := HS.out.cell c1 (fun h => h)
        have d2 := HS.out.cell c2 (fun h => h)
        have hpk := pk_succ X j hjX
        have hpl := pk_le_T X j
        obtain ⟨xw, hxw⟩ : ∃ x, x = X[j].1 := ⟨_, rfl⟩
        rw [← hxw] at d1
        clear c1 c2 hxw
        cases hb : X[j].2 with
        | true =>
          rw [hb] at d2 hpk
          have HPK : Hid (pk X (j + 1) = pk X j + 1) := hid (by simpa using hpk)
          clear hpk hb
          generalize pk X j = pj at *
          gi_wp2
          go_roundw
          case rel => exact ⟨j + 1, by omega, by rw [HPK.out]; go_num, by go_num, hid (by first | exact (HS.out.alloc _) | exact ((HS.out.alloc _).setCell _ _ (.inr HS.out.size)).setCell _ _ (.inr HS.out.size))⟩
          case measure => simp [intOf]; omega
        | false =>
          rw [hb] at d2 hpk
          have HPK : Hid (pk X (j + 1) = pk X j) := hid (by simpa using hpk)
          clear hpk hb
          generalize pk X j = pj at *
          gi_wp2
          go_roundw
          case rel => exact ⟨j + 1, by omega, by rw [HPK.out], by go_num, hid (by first | exact (HS.out.alloc _) | exact ((HS.out.alloc _).setCell _ _ (.inr HS.out.size)).setCell _ _ (.inr HS.out.size))⟩
          case measure => simp [intOf]; omega
      · have hjT2 : j = T := by omega
        subst hjT2
        have hpl := pk_le_T X j
        have hlf := pk_lf X j hTl
        obtain ⟨aa, haa⟩ : ∃ aa, aa = lf X j := ⟨_, rfl⟩
        obtain ⟨pp, hpp⟩ : ∃ pp, pp = pk X j := ⟨_, rfl⟩
        rw [← haa, ← hpp] at hlf
        rw [← hpp] at hpl ⊢
        have ham : aa ≤ m := by
          have h1 := lev_lf_le (wsOf ns) (most - 1 - k) j
          rw [HX.out, ← haa, hwl] at h1
          exact h1
        have HAA : Hid (aa = lf X j) := haa
        have HPP : Hid (pp = pk X j) := hpp
        have hsub : ((j : Int) - (pp : Int)) = (aa : Int) := by omega
        have hk0 := HLI.out.kept
        have ct2 : wr.cell? ⟨b2, 0, none⟩ = some (.int .i64 (j : Nat)) := HS.out.cell ct (fun h => h)
        have ft2 : wr.frozen? ⟨b2, 0, none⟩ = false := (HS.out.frozen (p := ⟨b2, 0, none⟩) (World.block_lt_of_cell? W _ ct) (fun h => h)).trans HLI.out.ft
        have du : wr.cell? ⟨b1, 0, none⟩ = some (.slice (some ⟨bu, ou, none⟩) m capu) := HS.out.cell (hk0.cell cb1 (by show ¬ (b1 = go ∨ b1 = b2); omega)) (fun h => h)
        have dv : wr.cell? ⟨w.heap.size, 0, none⟩ = some (.slice (some ⟨go, 0, none⟩) n cn) := HS.out.cell (hk0.cell cb0 (by show ¬ (w.heap.size = go ∨ w.heap.size = b2); omega)) (fun h => h)
        have HU2 : Hid (SrcE natV wr (fun k => I k ∧ k < w.heap.size) (.slice (some ⟨bu, ou, none⟩) m capu) (ris ns)) := hid (by
          refine SrcE.same (SrcE.kept (SrcE.same HU.out HF3.out.1) hk0 (fun x hx _ e => ?_)) HS.out
          rcases e with e | e
          · exact HI.out x hx.1 e
          · omega)
        have HR0 : Hid (NRow 0 wr (.slice (some ⟨go, 0, none⟩) n cn) (outP ns p)) := hid (HLI.out.row.same HS.out)
        have hcu : aa ≤ capu := by omega
        clear haa hpp hk0 ct
        gi_wp2
        gi_loopw [41] (fun z wy => ∃ q : Nat, q ≤ aa ∧ z = .int .i64 (q : Nat) ∧ Hid (NRow 0 wy (.slice (some ⟨go, 0, none⟩) n cn) (outP ns (fun i => p i + if i < q then 1 else 0))) ∧ Hid (Kept (· = go) wr wy)) (fun z _ => aa - (intOf z).toNat)
        case atStart => exact ⟨0, by omega, rfl, hid (by simpa using HR0.out), Kept.refl _ _⟩
        case round =>
          obtain ⟨q, hq, rfl, HR, HK⟩ := hrel
          have dv2 := HK.out.cell dv (by show ¬ w.heap.size = go; omega)
          by_cases hqa : q < aa
          · have hql : q < (ris ns).length := by have := HM.out; omega
            obtain ⟨bq, oq, cq, eq, _, _, cs⟩ := (SrcE.kept HU2.out HK.out (fun x hx _ e => HI.out x hx.1 e)).get q hql
            simp only [Value.slice.injEq, Option.some.injEq, Addr.mk.injEq, and_true] at eq
            obtain ⟨⟨rfl, rfl⟩, hxe, rfl⟩ := eq
            clear hxe
            obtain ⟨sy, hsy⟩ : ∃ sy, sy = (ris ns)[q] := ⟨_, rfl⟩
            rw [← hsy] at cs
            unfold natV at cs
            have hsr := mem_ris.1 (by rw [hsy]; exact List.getElem_mem _ : sy ∈ ris ns)
            have hsn : sy < n := by have := HN.out; omega
            have hso : sy < (outP ns (fun i => p i + if i < q then 1 else 0)).length := by rw [outP_length]; exact hsr.1
            obtain ⟨y, hy⟩ : ∃ y, y = p q := ⟨_, rfl⟩
            have hyk : y ≤ k := by rw [hy]; exact HLI.out.hp q
            have cy : wr.cell? ⟨go, sy, none⟩ = some (.int .i64 (y : Nat)) := by
              rw [HR.out.cell sy hso]
              unfold natV
              congr 3
              subst hsy
              rw [outP_get ns _ q hql hso, hy]
              simp
            have fy := HR.out.frozen sy
            have HR2 : Hid (NRow 0 (wr.setCell ⟨go, sy, none⟩ (.int .i64 ((y : Int) + 1))) (.slice (some ⟨go, 0, none⟩) n cn) (outP ns (fun i => p i + if i < q + 1 then 1 else 0))) := hid (by
              have h := HR.out.lay sy (y + 1)
              subst hsy
              rw [outP_set ns _ q (y + 1) hql] at h
              rw [outP_congr ns (fun i => p i + if i < q + 1 then 1 else 0) (fun i => if i = q then y + 1 else p i + if i < q then 1 else 0) (fun i _ => by
                by_cases e : i = q
                · subst e; simp [hy]
                · by_cases e2 : i < q
                  · simp [e, e2, show i < q + 1 by omega]
                  · simp [e, e2, show ¬ i < q + 1 by omega])]
              exact h)
            clear hsy hsr hso hy
            gi_wp2
            go_roundw
            case rel => exact ⟨q + 1, by omega, by go_num, HR2, HK.out.setCell _ _ (.inl rfl)⟩
            case measure => simp [intOf]; omega
          · have hqa2 : q = aa := by omega
            subst hqa2
            have ct3 := HK.out.cell ct2 (by show ¬ b2 = go; omega)
            have ft3 : wr.frozen? ⟨b2, 0, none⟩ = false := (HK.out.frozen (p := ⟨b2, 0, none⟩) (World.block_lt_of_cell? _ _ ct2) (by show ¬ b2 = go; omega)).trans ft2
            have HKW : Hid (Kept (· = go) W wr) := hid (Kept.trans HS.out HK.out (fun _ _ h => h.elim) (fun _ _ h => h))
            have HK3 : Hid (Kept (fun j => j = go ∨ j = b2) w3 wr) := hid (HLI.out.kept.trans HKW.out (fun _ _ h => h) (fun _ _ h => .inl h))
            have hgoW : go < w3.heap.size := by omega
            gi_wp2
            have h2p : ((2 : Int) * (pp : Int)) = ((2 * pp : Nat) : Int) := by omega
            rw [h2p]
            refine ⟨rfl, ?_, ?_, 2 * pp, fun i => p i + if i < q then 1 else 0, ?_⟩
            · have hkk : Kept (fun j => j = go ∨ j = b2) W (wr.setCell ⟨b2, 0, none⟩ (.int .i64 ((2 * pp : Nat) : Int))) := (HKW.out.mono (fun _ _ h => .inl h)).setCell _ _ (.inl (.inr rfl))
              refine ⟨hkk.size, fun x o hB hx _ => ?_⟩
              exact (hkk.block x (Array.getElem?_eq_some_iff.1 hx).1 (by omega)).trans hx
            · have hkk : Kept (fun j => j = go ∨ j = b2) W (wr.setCell ⟨b2, 0, none⟩ (.int .i64 ((2 * pp : Nat) : Int))) := (HKW.out.mono (fun _ _ h => .inl h)).setCell _ _ (.inl (.inr rfl))
              have hWs := HLI.out.kept.size
              exact ⟨hkk.block b3 (by omega) (by omega), hkk.block gl (by omega) (by omega)⟩
            · have hX := HX.out
              have h1 := HLI.out.next (W' := wr.setCell ⟨b2, 0, none⟩ (.int .i64 ((2 * pp : Nat) : Int))) hk (by omega) (by rw [hX, ← HPP.out]; exact World.cell?_setCell_same' _ _ _ (by rw [ct3]; rfl)) (by rw [World.frozen?_setCell]; exact ft3)
                (by rw [hX, ← HAA.out]; exact HR.out.kept ((Kept.refl (· = b2) wr).setCell ⟨b2, 0, none⟩ _ (.inl rfl)) (fun x hx e => by simp [Value.ownBlock] at hx; omega)) (HK3.out.setCell _ _ (.inl (.inr rfl)))
              rw [hX, ← HPP.out, ← HAA.out] at h1
              exact h1
  case done =>
    rintro D W hD ⟨T, p, hLI⟩ hK
    have HFIN : Hid (NRow 0 W (.slice (some ⟨go, 0, none⟩) n cn) (outP ns (gain (wsOf ns) (most - 1) (2 * (wsOf ns).length - 2))) ∧ Kept (fun j => j = go ∨ j = b2) w3 W) := hid ⟨by
      have h := hLI.row
      rw [outP_congr ns p _ (fun i _ => hLI.done rfl i)] at h
      exact h, hLI.kept⟩
    clear hLI
    gi_wp2
    refine ⟨by simp, .inl ⟨_, _, rfl, run_takeDeferred hK, ?_⟩⟩
    refine ⟨_, results_none rfl _ _ _, ⟨_, rfl⟩, ?_, ?_⟩
    · exact World.ownsRow.kept HFIN.out.1 (grownBy_putObj' W D _) (.inr (by simp [Value.ownBlock]; omega))
    · have hk1 : Kept (· = go) w W := Kept.trans HF3.out.1 HFIN.out.2 (fun _ _ h => h.elim) (fun x hx h => by rcases h with h | h; exact h; omega)
      exact hk1.grown (grownBy_putObj' W D _) (fun x e => .inr (by cases e; omega))

/-- lengthen: each used symbol has what it gains. -/
theorem lengthen_any (w : World) (ns : List Nat) (most go n cn gl capl : Nat) (vu : Value) (I : Nat → Prop) (Bl Bo : Nat) (vs : List (Option Addr × Nat × Nat)) (hrow : NRow Bo w (.slice (some ⟨go, 0, none⟩) n cn) (List.replicate n 0)) (hn : n = ns.length) (hns : ns.length ≤ 288)
    (hu : SrcE natV w I vu (ris ns)) (hI : ∀ k, I k → k ≠ go) (hl : LRow Bl w (.slice (some ⟨gl, 0, none⟩) most capl) vs) (hlev : Levs Bl w ns vs) (hm2 : 2 ≤ (ris ns).length) (hm1 : 1 ≤ most) (hmost : most ≤ 15) (hfit : (ris ns).length ≤ 2 ^ most) :
    Calls Tryd.prog 76 #[.slice (some ⟨go, 0, none⟩) n cn, vu, .slice (some ⟨gl, 0, none⟩) most capl] w fun e w' => (∃ v, e = .returned v) ∧ NRow 0 w' (.slice (some ⟨go, 0, none⟩) n cn) (outP ns (gain (wsOf ns) (most - 1) (2 * (wsOf ns).length - 2))) ∧ Kept (· = go) w w' := by
  refine (callsIn_wide (n := 3)).1 ?_
  exact lengthen_in Fence.wide 3 trivial trivial trivial rfl (by omega) w ns most go n cn gl capl vu I Bl Bo vs hrow hn hns hu hI hl hlev hm2 hm1 hmost hfit

end Go.Proofs.YtofhlnpbflkdlaaDoor

/-
  Limit.
-/
namespace Go.Proofs.YtofhlnpbflkdlaaDoor
open Go.RowKit

/-- Limit's lengths. -/
def limL (ns : List Nat) (most : Nat) : List Nat :=
  if (ris ns).length ≤ 1 then outP ns (fun _ => 1) else outP ns (gain (wsOf ns) (most - 1) (2 * (wsOf ns).length - 2))

theorem limL_length (ns : List Nat) (most : Nat) : (limL ns most).length = ns.length := by unfold limL; split <;> exact outP_length _ _

set_option maxHeartbeats 1000000 in
theorem limit_arg (w : World) (v : Value) (I : Nat → Prop) (zs : List Int) (mz : Int) (hs : SrcE intV w I v zs) (hn : zs.length ≤ 1000000) (hb : okAll zs 0 1000000000000 = false ∨ mz < 1 ∨ 15 < mz) :
    Calls Tryd.prog 62 #[v, .int .i64 mz] w fun e w' => e = .returned (.tuple #[.slice none 0 0, .int .i64 1]) ∧ Same w w' := by
  have HC := all_any w v I zs 0 1000000000000 hs hn
  clear hs
  go_enter Tryd.func62, Tryd.ntmps62
  go_wp2_with fail
  refine HC.mono ?_
  rintro e w2 ⟨rfl, hk⟩
  have HK : Hid (Same w w2) := hk
  clear hk HC
  cases hok : okAll zs 0 1000000000000 with
  | false =>
    go_wp2_with fail
    go_ret2
    exact ⟨rfl, HK.out⟩
  | true =>
    rw [hok] at hb
    have hb2 : mz < 1 ∨ 15 < mz := by simpa using hb
    clear hb hok
    by_cases h1 : mz < 1
    · go_wp2_with fail
      go_ret2
      exact ⟨rfl, HK.out⟩
    · have h2 : 15 < mz := by omega
      go_wp2_with fail
      go_ret2
      exact ⟨rfl, HK.out⟩

theorem wrap_pow (k : Nat) (h : k ≤ 15) : wrap64 ((2 : Int) ^ k) = ((2 ^ k : Nat) : Int) := by
  have h1 : (2 : Int) ^ k = ((2 ^ k : Nat) : Int) := by simp
  have h2 : 2 ^ k ≤ 2 ^ 15 := Nat.pow_le_pow_right (by omega) h
  have h3 : (2 : Nat) ^ 15 = 32768 := by decide
  rw [h1]
  generalize 2 ^ k = q at *
  unfold wrap64
  omega

set_option maxHeartbeats 2000000 in
theorem limit_over (w : World) (v : Value) (I : Nat → Prop) (zs : List Int) (most : Nat) (hs : SrcE intV w I v zs) (hok : okAll zs 0 1000000000000 = true) (h1 : 1 ≤ most) (h15 : most ≤ 15) (hover : 2 ^ most < (ris (zs.map Int.toNat)).length) :
    Calls Tryd.prog 62 #[v, .int .i64 (most : Nat)] w fun e w' => e = .returned (.tuple #[.slice none 0 0, .int .i64 30]) ∧ Same w w' := by
  obtain ⟨eN, h0, h288, hle⟩ := okAll_nat hok
  have HC := all_any w v I zs 0 1000000000000 hs (by omega)
  rw [hok] at HC
  have HS : Hid (SrcE natV w I v (zs.map Int.toNat)) := hid (hs.recode eN)
  have hnl : (zs.map Int.toNat).length = zs.length := by simp
  generalize zs.map Int.toNat = ns at *
  have hrl : (ris ns).length ≤ 288 := by have := ris_length ns; omega
  have g1 : decide ((most : Int) < 1) = false := by simp; omega
  have g2 : decide ((15 : Int) < (most : Int)) = false := by simp; omega
  clear hs hok eN hle
  go_enter Tryd.func62, Tryd.ntmps62
  go_wp2_with fail
  refine HC.mono ?_
  rintro e w2 ⟨rfl, hk⟩
  have HK : Hid (Same w w2) := hk
  clear hk HC
  have HRI := rising_any w2 v I ns (HS.out.same HK.out) (by omega)
  go_wp2_with fail
  refine HRI.mono ?_
  rintro e w3 ⟨v3, rfl, hn3⟩
  obtain ⟨a3, c3, hv3, _⟩ := hn3.row.shape
  subst hv3
  have HK3 : Hid (Same w w3) := hid (Same.trans HK.out hn3.same)
  clear hn3 HRI hnl
  generalize (ris ns).length = rl at *
  obtain ⟨pw, hpw⟩ : ∃ pw, pw = 2 ^ most := ⟨_, rfl⟩
  have hwr := wrap_pow most h15
  rw [← hpw] at hwr hover
  clear hpw
  go_wp2_with fail
  go_ret2
  exact ⟨rfl, HK3.out⟩

set_option maxHeartbeats 2000000 in
theorem limit_good (w : World) (v : Value) (I : Nat → Prop) (zs : List Int) (ns : List Nat) (most : Nat) (hs : SrcE intV w I v zs) (hok : okAll zs 0 1000000000000 = true) (hns : ns = zs.map Int.toNat) (h1 : 1 ≤ most) (h15 : most ≤ 15) (hfit : (ris ns).length ≤ 2 ^ most) :
    Calls Tryd.prog 62 #[v, .int .i64 (most : Nat)] w fun e w' => (∃ g n cap, e = .returned (.tuple #[.slice (some ⟨g, 0, none⟩) n cap, .int .i64 0]) ∧ NRow 0 w' (.slice (some ⟨g, 0, none⟩) n cap) (limL ns most) ∧ w.heap.size ≤ g) ∧ Same w w' := by
  obtain ⟨eN, h0, h288, hle⟩ := okAll_nat hok
  have HC := all_any w v I zs 0 1000000000000 hs (by omega)
  rw [hok] at HC
  rw [← hns] at eN hle
  obtain ⟨av, capv, hvv, hx1, hx2⟩ := id hs
  clear hx1 hx2
  subst hvv
  have HS : Hid (SrcE natV w (fun k => I k ∧ k < w.heap.size) (.slice av zs.length capv) ns) := hid (hs.recode eN).low
  have hnl : zs.length = ns.length := by rw [hns]; simp
  have hrl : (ris ns).length ≤ 288 := by have := ris_length ns; omega
  have HLE : Hid (∀ n ∈ ns, n ≤ 1000000000000) := hid (fun n hn => by have := hle n hn; omega)
  have g1 : decide ((most : Int) < 1) = false := by simp; omega
  have g2 : decide ((15 : Int) < (most : Int)) = false := by simp; omega
  clear hs hok eN hle hns
  generalize zs.length = n at *
  have HN : Hid (n = ns.length) := hnl
  clear hnl
  go_enter Tryd.func62, Tryd.ntmps62
  go_wp2_with fail
  refine HC.mono ?_
  rintro e w2 ⟨rfl, hk⟩
  have HK : Hid (Same w w2) := hk
  clear hk HC
  have HRI := rising_any w2 _ _ ns (HS.out.same HK.out) (by have := HN.out; omega)
  go_wp2_with fail
  refine HRI.mono ?_
  rintro e w3 ⟨v3, rfl, hn3⟩
  obtain ⟨a3, c3, hv3, _⟩ := hn3.row.shape
  subst hv3
  have HK3 : Hid (Same w w3) := hid (Same.trans HK.out hn3.same)
  have HN3 : Hid (NRow w2.heap.size w3 (.slice a3 (ris ns).length c3) (ris ns)) := hid hn3.row
  have hs2 := HK.out.size
  have hs3 := HK3.out.size
  clear hn3 HRI
  obtain ⟨rl, hrle⟩ : ∃ rl, rl = (ris ns).length := ⟨_, rfl⟩
  have HRL : Hid (rl = (ris ns).length) := hrle
  rw [← hrle] at HN3 hrl hfit ⊢
  clear hrle
  obtain ⟨pw, hpw⟩ : ∃ pw, pw = 2 ^ most := ⟨_, rfl⟩
  have hwr := wrap_pow most h15
  rw [← hpw] at hwr
  have HPW : Hid (pw = 2 ^ most) := hpw
  rw [← hpw] at hfit
  clear hpw
  have hfb : decide (pw < rl) = false := by simp; omega
  by_cases hr0 : rl = 0
  · have HF : Hid (limL ns most = List.replicate n 0) := hid (by
      unfold limL
      rw [← HRL.out, if_pos (by omega), HN.out, ← outP_zero]
      exact outP_congr ns _ _ (fun i hi => by rw [← HRL.out] at hi; omega))
    go_wp2_with (at_make; refine wpList_make_e _ natV 0 w3.heap.size 22 3 8 Tryd.underlying22 Tryd.infoN rfl (by decide) rfl _ _ rfl _ _ _ _ n rfl rfl rfl rfl (by omega) (Nat.le_refl _) ?_; intro w4 hr4 hg4 hs4; have HR4 : Hid (NRow w3.heap.size w4 (.slice (some ⟨w3.heap.size, 0, none⟩) n n) (List.replicate n 0)) := hr4; have HK4 : Hid (Same w3 w4) := hid ((Kept.refl _ w3).grown hg4 (by simp)); clear hr4 hg4)
    go_ret2
    exact ⟨⟨_, _, _, rfl, by rw [HF.out]; exact RowE.base HR4.out (Nat.zero_le _), by omega⟩, Same.trans HK3.out HK4.out⟩
  · have hd0 : ((rl : Int) == 0) = false := by simp; omega
    by_cases hr1 : rl = 1
    · have hd1 : ((rl : Int) == 1) = true := by simp; omega
      have hp0 : 0 < (ris ns).length := by have := HRL.out; omega
      obtain ⟨s, hs⟩ : ∃ s, s = (ris ns)[0] := ⟨_, rfl⟩
      have hsr := mem_ris.1 (by rw [hs]; exact List.getElem_mem _ : s ∈ ris ns)
      have hsn : s < n := by have := HN.out; omega
      obtain ⟨b, o, cap', e5, _, _, c5⟩ := (SrcE.ofRow HN3.out).get 0 hp0
      simp only [Value.slice.injEq] at e5
      obtain ⟨rfl, hxe, rfl⟩ := e5
      clear hxe
      rw [← hs] at c5
      unfold natV at c5
      rw [Nat.add_zero] at c5
      have HR5 : Hid (∀ w4, NRow w3.heap.size w4 (.slice (some ⟨w3.heap.size, 0, none⟩) n n) (List.replicate n 0) → NRow w3.heap.size (w4.setCell ⟨w3.heap.size, s, none⟩ (.int .i64 1)) (.slice (some ⟨w3.heap.size, 0, none⟩) n n) (limL ns most)) := hid (by
        intro w4 hr4
        have h := hr4.lay s 1
        rw [HN.out, ← outP_zero, hs, outP_set ns _ 0 1 hp0, ← hs, ← HN.out] at h
        unfold limL
        rw [← HRL.out, if_pos (by omega), outP_congr ns (fun _ => 1) (fun i => if i = 0 then 1 else 0) (fun i hi => by rw [← HRL.out] at hi; rw [if_pos (show i = 0 by omega)])]
        exact h)
      clear hs hsr hd0 hr0
      have hl1 : 0 < rl := by omega
      clear hr1
      go_wp2_with (at_make; refine wpList_make_e _ natV 0 w3.heap.size 22 3 8 Tryd.underlying22 Tryd.infoN rfl (by decide) rfl _ _ rfl _ _ _ _ n rfl rfl rfl rfl (by omega) (Nat.le_refl _) ?_; intro w4 hr4 hg4 hs4; have HR4 : Hid (NRow w3.heap.size w4 (.slice (some ⟨w3.heap.size, 0, none⟩) n n) (List.replicate n 0)) := hr4; have HK4 : Hid (Same w3 w4) := hid ((Kept.refl _ w3).grown hg4 (by simp)); have c6 := HK4.out.cell c5 (fun h => h); have cy : w4.cell? ⟨w3.heap.size, s, none⟩ = some (.int .i64 0) := (hr4.cell s (by simpa using hsn)).trans (by simp [natV]); have fy := hr4.frozen s; clear hr4 hg4)
      go_ret2
      exact ⟨⟨_, _, _, rfl, RowE.base (HR5.out w4 HR4.out) (Nat.zero_le _), by omega⟩, Same.then (Same.trans HK3.out HK4.out) ((Kept.refl (· = w3.heap.size) w4).setCell ⟨w3.heap.size, s, none⟩ _ (.inl rfl)) (fun x hx e => by omega)⟩
    · have hd1 : ((rl : Int) == 1) = false := by simp; omega
      have hm2 : 2 ≤ (ris ns).length := by have := HRL.out; omega
      have hns288 : ns.length ≤ 288 := by have := HN.out; omega
      go_wp2_with (at_make; refine wpList_make_e _ natV 0 w3.heap.size 22 3 8 Tryd.underlying22 Tryd.infoN rfl (by decide) rfl _ _ rfl _ _ _ _ n rfl rfl rfl rfl (by omega) (Nat.le_refl _) ?_; intro w4 hr4 hg4 hs4; have HR4 : Hid (NRow w3.heap.size w4 (.slice (some ⟨w3.heap.size, 0, none⟩) n n) (List.replicate n 0)) := hr4; have HK4 : Hid (Same w3 w4) := hid ((Kept.refl _ w3).grown hg4 (by simp)); clear hr4 hg4)
      have HLV := levels_any w4 (.slice a3 rl c3) (.slice av n capv) (fun k => (I k ∧ k < w.heap.size) ∨ (Value.slice a3 rl c3).ownBlock = some k) ns most (SrcE.mono (SrcE.ofRow (HN3.out.same HK4.out)) (fun k h => .inr h)) (SrcE.mono (HS.out.same (Same.trans HK3.out HK4.out)) (fun k h => .inl h))
        (by intro e; rw [e] at hm2; simp at hm2) hns288 HLE.out h1 h15
      refine HLV.mono ?_
      rintro e w5 ⟨⟨gl, capl, vs, rfl, hl5, hlev5, hcl⟩, hk5⟩
      have HLN := lengthen_any w5 ns most w3.heap.size n n gl capl (.slice a3 rl c3) (fun k => (Value.slice a3 rl c3).ownBlock = some k) w4.heap.size w3.heap.size vs (HR4.out.same hk5) HN.out hns288 (SrcE.ofRow ((HN3.out.same HK4.out).same hk5)) (fun k hk e => by
          have h1 := HN3.out.lt hk
          omega) hl5 hlev5 hm2 h1 h15 (by rw [← HRL.out, ← HPW.out]; exact hfit)
      have HK5 : Hid (Same w4 w5) := hk5
      clear hl5 hlev5 hk5 HLV
      go_wp2_with fail
      refine HLN.mono ?_
      rintro e w6 ⟨⟨v6, rfl⟩, hr6, hk6⟩
      have HR6 : Hid (NRow 0 w6 (.slice (some ⟨w3.heap.size, 0, none⟩) n n) (limL ns most)) := hid (by
        unfold limL
        rw [if_neg (by omega)]
        exact hr6)
      have HK6 : Hid (Same w w6) := hid (Same.then (Same.trans HK3.out (Same.trans HK4.out HK5.out)) hk6 (fun x hx e => by omega))
      clear hr6 hk6 HLN
      go_wp2_with fail
      go_ret2
      exact ⟨⟨_, _, _, rfl, HR6.out, by omega⟩, HK6.out⟩

end Go.Proofs.YtofhlnpbflkdlaaDoor

/-
  The law's 'awake': the document's examples.
-/
namespace Go.Proofs.YtofhlnpbflkdlaaDoor
open Go.RowKit

/-- A literal row of ints. -/
theorem src_ints (w : World) (zs : List Int) (n : Nat) (hn : zs.length = n) : SrcE intV (w.alloc (.cells (zs.map intV).toArray 3)) (fun k => k = w.heap.size) (.slice (some ⟨w.heap.size, 0, none⟩) n n) zs := by
  subst hn
  refine ⟨_, _, rfl, Nat.le_refl _, fun _ => ⟨_, _, rfl, rfl, fun j hj => ?_⟩⟩
  simp [hj]

/-- A literal row of bytes. -/
theorem src_bytes (w : World) (cs : List Nat) (n : Nat) (hn : cs.length = n) : Src (w.alloc (.cells (cs.map byteV).toArray 5)) (fun k => k = w.heap.size) (.slice (some ⟨w.heap.size, 0, none⟩) n n) cs := by
  subst hn
  refine ⟨_, _, rfl, fun _ => ⟨_, _, rfl, rfl, fun j hj => ?_⟩⟩
  simp [byteV, hj]

theorem rest_lt (bs : List Nat) (hb : ∀ b ∈ bs, b < 256) (c : Nat) (hc : c ≤ 8 * bs.length) : n256 bs / 2 ^ c < 2 ^ (8 * bs.length - c) := by
  have h := n256_lt bs hb
  rw [pow8] at h
  refine (Nat.div_lt_iff_lt_mul (Nat.two_pow_pos c)).2 ?_
  rw [← Nat.pow_add, show 8 * bs.length - c + c = 8 * bs.length by omega]
  exact h

/-- Next, where a code comes. -/
theorem next_is (w : World) (d : Nat) (vc vs : Value) (ns : List Nat) (p c : Nat) (s : Value) (bs : List Nat) (hd : Dec w d vc vs ns) (hm : mxL ns ≤ 15) (hns : ns.length ≤ 288) (hs : St w p s bs c) (hc : c ≤ 8 * bs.length) (hlen : bs.length ≤ 100000000) (hdis : ∀ k, DF d vc vs k → ¬ Fp p s k)
    (y : Nat) (hy : y ∈ ris ns) (hl : key ns y ≤ 8 * bs.length - c) (hf : rv (key ns y) (n256 bs / 2 ^ c) = codeOf ns y) :
    Calls Tryd.prog 93 #[.pointer (some ⟨d, 0, none⟩), .pointer (some ⟨p, 0, none⟩)] w fun e w' => e = .returned (.tuple #[.int .i64 (y : Nat), .int .i64 0]) ∧ St w' p s bs (c + key ns y) ∧ Kept (· = p) w w' := by
  refine (next_any w d vc vs ns p c s bs hd hm hns hs hc hlen hdis).mono ?_
  rintro e w' ⟨⟨sym, long, er, rfl, hans, hst⟩, hk⟩
  obtain ⟨rfl, rfl, rfl⟩ := Ans.unique (fun x => Nat.le_trans (key_le_mx ns x) hm) (rest_lt bs hs.byte c hc) hans hm hy hl hf
  exact ⟨rfl, hst, hk⟩

theorem ex_lim : limL [5, 1, 1, 1] 2 = [2, 2, 2, 2] := by decide +kernel
theorem ex_codes : codesL [2, 1, 3, 3] = [1, 0, 3, 7] := by decide +kernel



end Go.Proofs.YtofhlnpbflkdlaaDoor

/-
  The law's 'awake': the document's examples.
-/
namespace Go.Proofs.YtofhlnpbflkdlaaDoor
open Go.RowKit

/-- A literal row of steps. -/
theorem src_steps (w : World) (ss : List (Int × Int)) (n : Nat) (hn : ss.length = n) : StSrc (w.alloc (.cells (ss.flatMap stC).toArray 31)) (fun k => k = w.heap.size) (.slice (some ⟨w.heap.size, 0, none⟩) n n) ss := by
  subst hn
  refine ⟨_, _, rfl, Nat.le_refl _, fun _ => ⟨_, _, rfl, rfl, fun j hj i hi => ?_⟩⟩
  rw [← flat_get stC_ok ss j i hj hi]
  simp

theorem ex_pack : packA [0, 0, 0, 3, 3, 3, 3, 3, 0] = .ok [(17, 0), (3, 0), (16, 1), (0, 0)] := by
  unfold packA
  rw [if_pos (by decide)]
  have e : ([0, 0, 0, 3, 3, 3, 3, 3, 0] : List Int).map Int.toNat = [0, 0, 0, 3, 3, 3, 3, 3, 0] := by decide
  have f1 : frontN 0 [0, 0, 3, 3, 3, 3, 3, 0] = 2 := by decide
  have f2 : frontN 3 [3, 3, 3, 3, 0] = 4 := by decide
  have f3 : frontN 0 [] = 0 := by decide
  rw [e, packM_cons, f1]
  have d1 : ([0, 0, 3, 3, 3, 3, 3, 0] : List Nat).drop 2 = [3, 3, 3, 3, 3, 0] := by decide
  rw [d1, packM_cons, f2]
  have d2 : ([3, 3, 3, 3, 0] : List Nat).drop 4 = [0] := by decide
  rw [d2, packM_cons, f3]
  have d3 : ([] : List Nat).drop 0 = [] := by decide
  have p0 : packM [] = [] := by rw [packM]
  rw [d3, p0]
  have s1 : sayM 0 (1 + 2) = [(17, 0)] := by unfold sayM; rw [if_pos rfl, zerosM_mid 3 (by decide) (by decide)]; rfl
  have s2 : sayM 3 (1 + 4) = [(3, 0), (16, 1)] := by unfold sayM; rw [if_neg (by decide), againM_big 3 4 (by decide), show 4 - min 4 6 = 0 by decide, againM_few 3 0 (by decide)]; rfl
  have s3 : sayM 0 (1 + 0) = [(0, 0)] := by unfold sayM; rw [if_pos rfl, zerosM_few 1 (by decide)]; rfl
  rw [s1, s2, s3]
  rfl

theorem ex_unp : unpM [(5, 0), (16, 3)] 7 = .ok [5, 5, 5, 5, 5, 5, 5] := by rfl
theorem ex_unp2 : unpM [(16, 0)] 3 = .error 41 := by rfl
theorem ex_read : readF (ofBytes [255, 255]) 0 = .error 40 := by
  unfold readF
  rw [if_neg (by decide), if_pos (by decide)]

theorem Tab.pos {w : World} (h : Tab w) : 0 < w.heap.size := World.block_lt_of_cell? w _ (h 0 (by decide))

set_option maxRecDepth 100000 in
set_option maxHeartbeats 4000000 in
theorem lawake_any (w : World) (hT : Tab w) : Calls Tryd.prog 9 #[] w fun e w' => e = .returned (.bool true) ∧ Same w w' := by
  have HT : Hid (Tab w) := hT
  have HC1 := lpack_any (w.alloc (.cells #[.int .i64 0, .int .i64 0, .int .i64 0, .int .i64 3, .int .i64 3, .int .i64 3, .int .i64 3, .int .i64 3, .int .i64 0] 3)) (.slice (some ⟨w.heap.size, 0, none⟩) 9 9) _ [0, 0, 0, 3, 3, 3, 3, 3, 0] (src_ints w _ 9 rfl) (by decide)
  rw [ex_pack] at HC1
  clear hT
  go_enter Tryd.func9, Tryd.ntmps9
  go_wp2_with fail
  refine HC1.mono ?_
  rintro e w1 ⟨v1, rfl, hr1, hk1⟩
  have HR1 : Hid (StRow w.heap.size w1 v1 [(17, 0), (3, 0), (16, 1), (0, 0)]) := hid (RowC.base hr1 (by simp))
  have HK1 : Hid (Same w w1) := hid (Same.trans ((Kept.refl _ w).alloc _) hk1)
  clear hr1 hk1 HC1
  have HC2 := lunpack_any (w1.alloc (.cells #[.int .i64 5, .int .i64 0, .int .i64 16, .int .i64 3] 31)) (.slice (some ⟨w1.heap.size, 0, none⟩) 2 2) _ [(5, 0), (16, 3)] 7 (src_steps w1 _ 2 rfl) (by decide)
  rw [ex_unp] at HC2
  go_wp2_with fail
  refine HC2.mono ?_
  rintro e w2 ⟨v2, rfl, hn2⟩
  have HR2 : Hid (NRow w.heap.size w2 v2 [5, 5, 5, 5, 5, 5, 5]) := hid (RowE.base hn2.row (by have := HK1.out.size; simp; omega))
  have HK2 : Hid (Same w1 w2) := hid (Same.trans ((Kept.refl _ w1).alloc _) hn2.same)
  clear hn2 HC2
  have HC3 := lunpack_any (w2.alloc (.cells #[.int .i64 16, .int .i64 0] 31)) (.slice (some ⟨w2.heap.size, 0, none⟩) 1 1) _ [(16, 0)] 3 (src_steps w2 _ 1 rfl) (by decide)
  rw [ex_unp2] at HC3
  go_wp2_with fail
  refine HC3.mono ?_
  rintro e w3 ⟨rfl, hk3⟩
  have HK3 : Hid (Same w2 w3) := hid (Same.trans ((Kept.refl _ w2).alloc _) hk3)
  clear hk3 HC3
  have HC4 := newReader_any (.slice (some ⟨w3.heap.size, 0, none⟩) 2 2) _ [255, 255] (w3.alloc (.cells #[.int .u8 255, .int .u8 255] 5)) (src_bytes w3 _ 2 rfl) (by decide) (by decide)
  go_wp2_with fail
  refine HC4.mono ?_
  rintro e w4 ⟨p, s, rfl, hst4, hk4, hf4⟩
  have HK4 : Hid (Same w3 w4) := hid (Same.trans ((Kept.refl _ w3).alloc _) hk4)
  have HKA : Hid (Same w w4) := hid (Same.trans (Same.trans HK1.out HK2.out) (Same.trans HK3.out HK4.out))
  have hp4 := hf4 p (.inl rfl)
  have HPW : Hid (w3.heap.size ≤ p ∧ w.heap.size ≤ w3.heap.size) := hid ⟨by simp at hp4; omega, (Same.trans (Same.trans HK1.out HK2.out) HK3.out).size⟩
  have HC5 := lread_any w4 p 0 s [255, 255] hst4 (by decide) (by decide) (HT.out.kept HKA.out (fun f => f)) (fun e => by have := HT.out.pos; have := HPW.out; omega)
  rw [ex_read] at HC5
  clear hst4 hk4 hf4 HC4 hp4
  go_wp2_with fail
  refine HC5.mono ?_
  rintro e w5 ⟨⟨rfl, _, _⟩, hk5⟩
  have HK5 : Hid (Same w w5) := hid (Same.then HKA.out hk5 (fun k hk e => by have := HPW.out; omega))
  have HR1b : Hid (StRow w.heap.size w5 v1 [(17, 0), (3, 0), (16, 1), (0, 0)]) := hid (RowC.kept (RowC.kept HR1.out (Same.trans HK2.out (Same.trans HK3.out HK4.out)) (fun _ _ f => f)) hk5 (fun k e h => by have h1 := HR1.out.lt e; have h2 := (Same.trans HK2.out HK3.out).size; have := HPW.out; omega))
  have HR2b : Hid (NRow w.heap.size w5 v2 [5, 5, 5, 5, 5, 5, 5]) := hid (RowE.kept (HR2.out.same (Same.trans HK3.out HK4.out)) hk5 (fun k e h => by have h1 := HR2.out.lt e; have h2 := HK3.out.size; have := HPW.out; omega))
  clear hk5 HC5
  have HS1 := same_any v1 (.slice (some ⟨w5.heap.size, 0, none⟩) 4 4) _ _ _ [(17, 0), (3, 0), (16, 1), (0, 0)] (w5.alloc (.cells #[.int .i64 17, .int .i64 0, .int .i64 3, .int .i64 0, .int .i64 16, .int .i64 1, .int .i64 0, .int .i64 0] 31)) (SrcC.kept stC_ok (SrcC.ofRow stC_ok HR1b.out) ((Kept.refl (fun _ => False) w5).alloc _) (fun _ _ _ f => f)) (src_steps w5 _ 4 rfl) (by decide) (by decide)
  have hd1 : decide (([(17, 0), (3, 0), (16, 1), (0, 0)] : List (Int × Int)) = [(17, 0), (3, 0), (16, 1), (0, 0)]) = true := by simp
  rw [hd1] at HS1
  clear hd1
  go_wp2_with fail
  refine HS1.mono ?_
  rintro e w6 ⟨rfl, hk6⟩
  have HK6' : Hid (Same w5 w6) := hid (Same.trans ((Kept.refl _ w5).alloc _) hk6)
  have HK6 : Hid (Same w w6) := hid (Same.trans HK5.out HK6'.out)
  clear HS1 hk6
  have HS2 := keepInts_any v2 (.slice (some ⟨w6.heap.size, 0, none⟩) 7 7) _ _ [5, 5, 5, 5, 5, 5, 5] [5, 5, 5, 5, 5, 5, 5] (w6.alloc (.cells #[.int .i64 5, .int .i64 5, .int .i64 5, .int .i64 5, .int .i64 5, .int .i64 5, .int .i64 5] 3)) (((SrcE.ofRow (HR2b.out.same HK6'.out)).same ((Kept.refl _ w6).alloc _)).recode (enc' := intV) rfl) (src_ints w6 _ 7 rfl) (by decide) (by decide)
  have hd2 : decide (([5, 5, 5, 5, 5, 5, 5] : List Int) = [5, 5, 5, 5, 5, 5, 5]) = true := by simp
  rw [hd2] at HS2
  clear hd2
  go_wp2_with fail
  refine HS2.mono ?_
  rintro e w7 ⟨rfl, hk7⟩
  have HK7 : Hid (Same w w7) := hid (Same.trans HK6.out (Same.trans ((Kept.refl _ w6).alloc _) hk7))
  clear HS2 hk7
  go_wp2_with fail
  go_ret
  exact ⟨rfl, HK7.out⟩

end Go.Proofs.YtofhlnpbflkdlaaDoor

/-
  The reference's Read, walked.
-/
namespace Go.Proofs.YtofhlnpbflkdlaaDoor
open Go.RowKit

set_option maxRecDepth 100000 in
set_option maxHeartbeats 8000000 in
theorem rread_any (w : World) (v : Value) (I : Nat → Prop) (ls : List Nat) (a : Nat) (hs : Src w I v ls) (hIb : ∀ k, I k → k < w.heap.size) (hb : ∀ b ∈ ls, b < 2) (ha : a ≤ ls.length) (hlen : ls.length ≤ 100000000) :
    Calls Tryd.prog 25 #[v, .int .i64 (a : Nat)] w fun r w' => ReadA w w' r (readF ls a) := by
  obtain ⟨ao, cap, rfl, hsa⟩ := id hs
  clear hsa
  have HS : Hid (Src w I (.slice ao ls.length cap) ls) := hs
  have HI : Hid (∀ k, I k → k < w.heap.size) := hIb
  have HB : Hid (∀ b ∈ ls, b < 2) := hb
  obtain ⟨M, hM⟩ : ∃ M, M = ls.length := ⟨_, rfl⟩
  rw [← hM] at HS ha hlen ⊢
  have HM : Hid (M = ls.length) := hM
  clear hs hIb hb hM
  have HOR : Hid (SrcE natV (w.alloc (.cells #[.int .i64 16, .int .i64 17, .int .i64 18, .int .i64 0, .int .i64 8, .int .i64 7, .int .i64 9, .int .i64 6, .int .i64 10, .int .i64 5, .int .i64 11, .int .i64 4, .int .i64 12, .int .i64 3, .int .i64 13, .int .i64 2, .int .i64 14, .int .i64 1, .int .i64 15] 3)) (fun k => k = w.heap.size) (.slice (some ⟨w.heap.size, 0, none⟩) 19 19) ord) := src_nats w ord 19 rfl
  have HK0 : Hid (Same w (w.alloc (.cells #[.int .i64 16, .int .i64 17, .int .i64 18, .int .i64 0, .int .i64 8, .int .i64 7, .int .i64 9, .int .i64 6, .int .i64 10, .int .i64 5, .int .i64 11, .int .i64 4, .int .i64 12, .int .i64 3, .int .i64 13, .int .i64 2, .int .i64 14, .int .i64 1, .int .i64 15] 3))) := (Kept.refl _ w).alloc _
  have hz0 : (w.alloc (.cells #[.int .i64 16, .int .i64 17, .int .i64 18, .int .i64 0, .int .i64 8, .int .i64 7, .int .i64 9, .int .i64 6, .int .i64 10, .int .i64 5, .int .i64 11, .int .i64 4, .int .i64 12, .int .i64 3, .int .i64 13, .int .i64 2, .int .i64 14, .int .i64 1, .int .i64 15] 3)).heap.size = w.heap.size + 1 := by simp
  go_enter Tryd.func25, Tryd.ntmps25
  go_upto_region 2 with fail
  generalize w.alloc (.cells #[.int .i64 16, .int .i64 17, .int .i64 18, .int .i64 0, .int .i64 8, .int .i64 7, .int .i64 9, .int .i64 6, .int .i64 10, .int .i64 5, .int .i64 11, .int .i64 4, .int .i64 12, .int .i64 3, .int .i64 13, .int .i64 2, .int .i64 14, .int .i64 1, .int .i64 15] 3) = wO at *
  have HHA : Hid (HdB (wO.alloc (.cells #[.slice ao M cap, .int .i64 (a : Nat), .int .i64 0] 76)) wO.heap.size (.slice ao M cap) a 0) := Blk.new wO _ _
  have HKA : Hid (Same w (wO.alloc (.cells #[.slice ao M cap, .int .i64 (a : Nat), .int .i64 0] 76))) := hid (HK0.out.alloc _)
  have HOA : Hid (SrcE natV (wO.alloc (.cells #[.slice ao M cap, .int .i64 (a : Nat), .int .i64 0] 76)) (fun k => k = w.heap.size) (.slice (some ⟨w.heap.size, 0, none⟩) 19 19) ord) := hid (HOR.out.same ((Kept.refl _ wO).alloc _))
  go_upto_region 3 with fail
  generalize wO.alloc (.cells #[.slice ao M cap, .int .i64 (a : Nat), .int .i64 0] 76) = wA at *
  obtain ⟨h, hh⟩ : ∃ h, h = w.heap.size + 1 := ⟨_, rfl⟩
  rw [hz0, ← hh] at HHA
  rw [← hh]
  have HHW : Hid (h = w.heap.size + 1) := hh
  clear hh hz0 HOR HK0
  have HTK := fun (wx : World) (c e n : Nat) (hk : Same w wx) (hH : HdB wx h (.slice ao M cap) c e) (hn : n ≤ 32) (hc : c ≤ M) => htake_any wx h (.slice ao M cap) I ls c e n hH (HS.out.kept hk (fun _ _ _ f => f)) HB.out hn (by have := HM.out; omega) (by have := HM.out; omega)
  have HT : Hid (∀ (wx : World) (c e n : Nat), Same w wx → HdB wx h (.slice ao M cap) c e → n ≤ 32 → c ≤ M → Calls Tryd.prog 48 #[.pointer (some ⟨h, 0, none⟩), .int .i64 (n : Nat)] wx fun r w' => r = .returned (.int .i64 ((hTake ls c e n).1 : Nat)) ∧ HdB w' h (.slice ao M cap) (hTake ls c e n).2.1 (hTake ls c e n).2.2 ∧ Kept (· = h) wx w') := HTK
  clear HTK
  -- three numbers
  have T1 := HT.out wA a 0 5 HKA.out HHA.out (by decide) ha
  obtain ⟨x1, c1, e1, ht1⟩ : ∃ x c e, hTake ls a 0 5 = (x, c, e) := ⟨_, _, _, rfl⟩
  have hc1 : c1 ≤ M := by have := hTake_le ls a 0 5 (by have := HM.out; omega); rw [ht1] at this; have := HM.out; simp only at *; omega
  rw [ht1] at T1
  have HT1 : Hid (hTake ls a 0 5 = (x1, c1, e1)) := ht1
  have hx1 : x1 ≤ 31 := by
    have := numAt_lt ls HB.out a 5
    unfold hTake at ht1
    split at ht1
    · simp at ht1; omega
    · split at ht1
      · simp at ht1; omega
      · simp at ht1; omega
  clear ht1
  go_wp2_with fail
  refine T1.mono ?_
  rintro r w1 ⟨rfl, hh1, hk1⟩
  have HK1 : Hid (Same w w1) := hid (Same.then HKA.out hk1 (fun x hx e => by have := HHW.out; omega))
  have HH1 : Hid (HdB w1 h (.slice ao M cap) c1 e1) := hh1
  have HO1 : Hid (SrcE natV w1 (fun k => k = w.heap.size) (.slice (some ⟨w.heap.size, 0, none⟩) 19 19) ord) := hid (HOA.out.kept hk1 (fun k hk _ e => by have := HHW.out; omega))
  clear hh1 hk1 T1 HHA HOA HKA
  have T2 := HT.out w1 c1 e1 5 HK1.out HH1.out (by decide) hc1
  obtain ⟨x2, c2, e2, ht2⟩ : ∃ x c e, hTake ls c1 e1 5 = (x, c, e) := ⟨_, _, _, rfl⟩
  have hc2 : c2 ≤ M := by have := hTake_le ls c1 e1 5 (by have := HM.out; omega); rw [ht2] at this; have := HM.out; simp only at *; omega
  rw [ht2] at T2
  have HT2 : Hid (hTake ls c1 e1 5 = (x2, c2, e2)) := ht2
  have hx2 : x2 ≤ 31 := by
    have := numAt_lt ls HB.out c1 5
    unfold hTake at ht2
    split at ht2
    · simp at ht2; omega
    · split at ht2
      · simp at ht2; omega
      · simp at ht2; omega
  clear ht2
  go_wp2_with fail
  refine T2.mono ?_
  rintro r w2 ⟨rfl, hh2, hk2⟩
  have HK2 : Hid (Same w w2) := hid (Same.then HK1.out hk2 (fun x hx e => by have := HHW.out; omega))
  have HH2 : Hid (HdB w2 h (.slice ao M cap) c2 e2) := hh2
  have HO2 : Hid (SrcE natV w2 (fun k => k = w.heap.size) (.slice (some ⟨w.heap.size, 0, none⟩) 19 19) ord) := hid (HO1.out.kept hk2 (fun k hk _ e => by have := HHW.out; omega))
  clear hh2 hk2 T2 HH1 HO1
  have T3 := HT.out w2 c2 e2 4 HK2.out HH2.out (by decide) hc2
  obtain ⟨x3, c3, e3, ht3⟩ : ∃ x c e, hTake ls c2 e2 4 = (x, c, e) := ⟨_, _, _, rfl⟩
  have hc3 : c3 ≤ M := by have := hTake_le ls c2 e2 4 (by have := HM.out; omega); rw [ht3] at this; have := HM.out; simp only at *; omega
  rw [ht3] at T3
  have HT3 : Hid (hTake ls c2 e2 4 = (x3, c3, e3)) := ht3
  have hx3 : x3 ≤ 15 := by
    have := numAt_lt ls HB.out c2 4
    unfold hTake at ht3
    split at ht3
    · simp at ht3; omega
    · split at ht3
      · simp at ht3; omega
      · simp at ht3; omega
  clear ht3
  go_wp2_with fail
  refine T3.mono ?_
  rintro r w3 ⟨rfl, hh3, hk3⟩
  have HK3 : Hid (Same w w3) := hid (Same.then HK2.out hk3 (fun x hx e => by have := HHW.out; omega))
  have HH3 : Hid (HdB w3 h (.slice ao M cap) c3 e3) := hh3
  have HO3 : Hid (SrcE natV w3 (fun k => k = w.heap.size) (.slice (some ⟨w.heap.size, 0, none⟩) 19 19) ord) := hid (HO2.out.kept hk3 (fun k hk _ e => by have := HHW.out; omega))
  clear hh3 hk3 T3 HH2 HO2
  have k2 := HH3.out.cell 2
  simp at k2
  by_cases hfit : M < a + 14
  · have he3 : e3 = 10 := hTake_three ls a (by have := HM.out; omega) (x1, c1, e1) (x2, c2, e2) (x3, c3, e3) HT1.out HT2.out HT3.out
    have HE : Hid (readF ls a = .error 10) := hid (by unfold readF; rw [if_pos (by have := HM.out; omega)])
    subst he3
    clear hfit
    go_wp2_with fail
    go_quiet (fail)
    go_wp2_with fail
    refine bodyPost_ret (v := .tuple #[.slice none 0 0, .slice none 0 0, .int .i64 0, .int .i64 10]) (by simp [results, Tryd.results25, go_sem]) rfl ?_
    rw [HE.out]
    exact ⟨rfl, HK3.out.drewN _⟩
  · have hV : x1 = numAt ls a 5 ∧ x2 = numAt ls (a + 5) 5 ∧ x3 = numAt ls (a + 10) 4 ∧ c3 = a + 14 ∧ e3 = 0 := by
      have h1 := HT1.out
      rw [hTake_ok (by have := HM.out; omega)] at h1
      simp only [Prod.mk.injEq] at h1
      obtain ⟨rfl, rfl, rfl⟩ := h1
      have h2 := HT2.out
      rw [hTake_ok (by have := HM.out; omega)] at h2
      simp only [Prod.mk.injEq] at h2
      obtain ⟨rfl, rfl, rfl⟩ := h2
      have h3 := HT3.out
      rw [hTake_ok (by have := HM.out; omega)] at h3
      simp only [Prod.mk.injEq] at h3
      obtain ⟨rfl, rfl, rfl⟩ := h3
      exact ⟨rfl, rfl, rfl, rfl, rfl⟩
    have HV : Hid (x1 = numAt ls a 5 ∧ x2 = numAt ls (a + 5) 5 ∧ x3 = numAt ls (a + 10) 4) := hid ⟨hV.1, hV.2.1, hV.2.2.1⟩
    have hc3' : c3 = a + 14 := hV.2.2.2.1
    have he3 : e3 = 0 := hV.2.2.2.2
    have HC3 : Hid (c3 = a + 14) := hc3'
    subst he3
    clear hV hc3' HT1 HT2 HT3
    obtain ⟨lit, hlit⟩ : ∃ lit, lit = x1 + 257 := ⟨_, rfl⟩
    obtain ⟨dist, hdist⟩ : ∃ dist, dist = x2 + 1 := ⟨_, rfl⟩
    obtain ⟨many, hmany⟩ : ∃ many, many = x3 + 4 := ⟨_, rfl⟩
    have hlI : (x1 : Int) + 257 = (lit : Int) := by omega
    have hdI : (x2 : Int) + 1 = (dist : Int) := by omega
    have hmI : (x3 : Int) + 4 = (many : Int) := by omega
    have HRF : Hid (readF ls a = (if 286 < lit ∨ 30 < dist then .error 40
      else if M < a + 14 + 3 * many then .error 10
      else if chkN (codesF ls (a + 14) many) ≠ 0 then .error (chkN (codesF ls (a + 14) many))
      else match bodyF (codesF ls (a + 14) many) ls (lit + dist) (lit + dist) [] (a + 14 + 3 * many) with
        | .error e => .error e
        | .ok (l, c) => .ok ((l.take lit, l.drop lit), c - a))) := hid (by
      unfold readF
      rw [if_neg (by have := HM.out; omega), hlit, hdist, hmany, HV.out.1, HV.out.2.1, HV.out.2.2, HM.out]
      rfl)
    have hml : many ≤ 19 ∧ lit ≤ 288 ∧ dist ≤ 32 := by omega
    clear hlit hdist hmany HV hfit
    by_cases hbig : 286 < lit
    · have HE : Hid (readF ls a = .error 40) := hid (by rw [HRF.out, if_pos (.inl hbig)])
      have b1 : decide ((286 : Int) < (lit : Int)) = true := by simp; omega
      go_wp2_with fail
      refine bodyPost_ret (v := .tuple #[.slice none 0 0, .slice none 0 0, .int .i64 0, .int .i64 40]) (by simp [results, Tryd.results25, go_sem]) rfl ?_
      rw [HE.out]
      exact ⟨rfl, HK3.out⟩
    · have b1 : decide ((286 : Int) < (lit : Int)) = false := by simp; omega
      by_cases hbig2 : 30 < dist
      · have HE : Hid (readF ls a = .error 40) := hid (by rw [HRF.out, if_pos (.inr hbig2)])
        have b2 : decide ((30 : Int) < (dist : Int)) = true := by simp; omega
        go_wp2_with fail
        refine bodyPost_ret (v := .tuple #[.slice none 0 0, .slice none 0 0, .int .i64 0, .int .i64 40]) (by simp [results, Tryd.results25, go_sem]) rfl ?_
        rw [HE.out]
        exact ⟨rfl, HK3.out⟩
      · have b2 : decide ((30 : Int) < (dist : Int)) = false := by simp; omega
        have HRG : Hid (readF ls a = (if M < a + 14 + 3 * many then .error 10
          else if chkN (codesF ls (a + 14) many) ≠ 0 then .error (chkN (codesF ls (a + 14) many))
          else match bodyF (codesF ls (a + 14) many) ls (lit + dist) (lit + dist) [] (a + 14 + 3 * many) with
            | .error e => .error e
            | .ok (l, c) => .ok ((l.take lit, l.drop lit), c - a))) := hid (by rw [HRF.out, if_neg (by omega)])
        have hld : lit ≤ 286 ∧ dist ≤ 30 := by omega
        have hhz : h < w3.heap.size := HH3.out.lt
        clear hbig hbig2 HRF
        go_wp2_with (at_make; refine wpList_make_e _ natV 0 w3.heap.size 22 3 8 Tryd.underlying22 Tryd.infoN rfl (by decide) rfl _ _ rfl _ _ _ _ 19 rfl rfl rfl rfl (by omega) (Nat.le_refl _) ?_; intro w4 hr4 hg4 hs4; have HR4 : Hid (NRow w3.heap.size w4 (.slice (some ⟨w3.heap.size, 0, none⟩) 19 19) (codesF ls (a + 14) 0)) := hr4; have HKN : Hid (Same w3 w4) := hid ((Kept.refl _ w3).grown hg4 (by simp)); clear hr4 hg4)
        obtain ⟨gC, hgC⟩ : ∃ g, g = w3.heap.size := ⟨_, rfl⟩
        rw [← hgC] at HR4 hhz ⊢
        have hwh : w.heap.size < gC := by have := HHW.out; omega
        have hwh1 : w.heap.size < h := by have := HHW.out; omega
        have HK4 : Hid (Same w w4) := hid (Same.trans HK3.out HKN.out)
        have HH4 : Hid (HdB w4 h (.slice ao M cap) c3 0) := hid (HH3.out.kept HKN.out (fun f => f))
        have HO4 : Hid (SrcE natV w4 (fun k => k = w.heap.size) (.slice (some ⟨w.heap.size, 0, none⟩) 19 19) ord) := hid (HO3.out.same HKN.out)
        clear hgC HH3 HO3 k2 b1 b2 HKN
        go_loopg [14] many (fun q zi wr => ∃ (i c e : Nat) (xs : List Nat), many - i ≤ q ∧ i ≤ many ∧ zi = .int .i64 (i : Nat) ∧ c ≤ M ∧ Hid (HdB wr h (.slice ao M cap) c e) ∧ Hid (NRow gC wr (.slice (some ⟨gC, 0, none⟩) 19 19) xs) ∧ Hid (CodesAt ls a i c e xs) ∧ Hid (SrcE natV wr (fun k => k = w.heap.size) (.slice (some ⟨w.heap.size, 0, none⟩) 19 19) ord) ∧ Hid (Same w wr))
        case atStart => exact ⟨0, c3, 0, _, by omega, by omega, rfl, hc3, HH4, HR4, hid (.inl ⟨by have := HM.out; have := HC3.out; omega, by have := HC3.out; omega, rfl, rfl⟩), HO4, HK4⟩
        case round =>
          clear HR4 HH4 HO4 HK4
          obtain ⟨i, c, e, xs, hq, hi, rfl, hcM, HHr, HRr, HCr, HOr, HKr⟩ := hrel
          by_cases hlt : i < many
          · obtain ⟨b, o, cap2, e2, _, _, cO⟩ := HOr.out.get i (by show i < 19; omega)
            simp only [Value.slice.injEq, Option.some.injEq, Addr.mk.injEq, and_true] at e2
            obtain ⟨⟨rfl, rfl⟩, hxe, rfl⟩ := e2
            clear hxe
            obtain ⟨oi, hoi⟩ : ∃ oi, oi = ord.getD i 0 := ⟨_, rfl⟩
            have hio : i < ord.length := by show i < 19; omega
            have hog : ord[i] = oi := by rw [hoi]; simp [List.getD, hio]
            rw [hog, Nat.zero_add] at cO
            unfold natV at cO
            have ho18 : oi ≤ 18 := by rw [hoi]; exact ord_le i (by omega)
            obtain ⟨x, c', e', ht⟩ : ∃ x c' e', hTake ls c e 3 = (x, c', e') := ⟨_, _, _, rfl⟩
            have HTX0 := HT.out wr.drew c e 3 HKr.out.drew HHr.out (by decide) hcM
            rw [ht] at HTX0
            have HTX : Hid (Calls Tryd.prog 48 #[.pointer (some ⟨h, 0, none⟩), .int .i64 3] wr.drew fun r w' => r = .returned (.int .i64 (x : Nat)) ∧ HdB w' h (.slice ao M cap) c' e' ∧ Kept (· = h) wr.drew w') := HTX0
            have hc'M : c' ≤ M := by have := hTake_le ls c e 3 (by have := HM.out; omega); rw [ht] at this; have := HM.out; simp only at *; omega
            have HCN : Hid (CodesAt ls a (i + 1) c' e' (xs.set oi x)) := hid (by rw [hoi]; exact HCr.out.next ht)
            have hxl : xs.length = 19 := HRr.out.len
            have HXL : Hid (xs.length = 19) := hxl
            have hgh : ¬ gC = h := by omega
            have hwh2 : ¬ w.heap.size = h := by omega
            have hi19 : i < 19 := by omega
            have ho19 : oi < 19 := by omega
            have HCO : Hid (wr.cell? ⟨w.heap.size, i, none⟩ = some (.int .i64 (oi : Nat))) := cO
            clear hoi hio hog HTX0 ht hxl ho18
            go_wp2_with fail
            go_region_with (go_at_call 48; refine HTX.out.mono ?_; rintro r w5 ⟨rfl, hh5, hk5⟩; have cO5 : w5.cell? ⟨w.heap.size, i, none⟩ = some (.int .i64 (oi : Nat)) := hk5.cell HCO.out hwh2; have hr5 : NRow gC w5 (.slice (some ⟨gC, 0, none⟩) 19 19) xs := RowE.kept (show NRow gC wr.drew (.slice (some ⟨gC, 0, none⟩) 19 19) xs from HRr.out) hk5 (fun k hk e => by simp [Value.ownBlock] at hk; omega); have cS5 := hr5.cell oi (by have := HXL.out; omega); have fS5 := hr5.frozen oi; have HR5 : Hid (NRow gC w5 (.slice (some ⟨gC, 0, none⟩) 19 19) xs) := hr5; have HH5 : Hid (HdB w5 h (.slice ao M cap) c' e') := hh5; have HK5 : Hid (Kept (· = h) wr w5) := hid ⟨hk5.os, hk5.tape, hk5.output, hk5.size, hk5.block⟩; clear hr5 hh5 hk5)
            all_goals
              have HR6 : Hid (NRow gC (w5.setCell ⟨gC, oi, none⟩ (.int .i64 (x : Nat))) (.slice (some ⟨gC, 0, none⟩) 19 19) (xs.set oi x)) := hid (HR5.out.lay oi x)
              have HKS : Hid (Kept (· = gC) w5 (w5.setCell ⟨gC, oi, none⟩ (.int .i64 (x : Nat)))) := hid ((Kept.refl (· = gC) w5).setCell ⟨gC, oi, none⟩ _ (.inl rfl))
              have HH6 : Hid (HdB (w5.setCell ⟨gC, oi, none⟩ (.int .i64 (x : Nat))) h (.slice ao M cap) c' e') := hid (HH5.out.kept HKS.out (fun e => by omega))
              have HO6 : Hid (SrcE natV (w5.setCell ⟨gC, oi, none⟩ (.int .i64 (x : Nat))) (fun k => k = w.heap.size) (.slice (some ⟨w.heap.size, 0, none⟩) 19 19) ord) := hid ((HOr.out.kept HK5.out (fun k hk _ e => by omega)).kept HKS.out (fun k hk _ e => by omega))
              have HK6 : Hid (Same w (w5.setCell ⟨gC, oi, none⟩ (.int .i64 (x : Nat)))) := hid (Same.then (Same.then HKr.out HK5.out (fun x hx e => by omega)) HKS.out (fun x hx e => by omega))
              go_wp2_with fail
              go_roundg (gk - 1)
              case measure => omega
              case rel => exact ⟨i + 1, c', e', _, by omega, by omega, by go_num, hc'M, HH6, HR6, HCN, HO6, HK6⟩
          · have him : i = many := by omega
            subst him
            have hlt' : decide (i < i) = false := by simp
            clear hlt hq hi
            obtain ⟨w4, hw4⟩ : ∃ w4, w4 = wr := ⟨_, rfl⟩
            subst hw4
            have k2 := HHr.out.cell 2
            simp at k2
            by_cases hfit : M < a + 14 + 3 * i
            · have he : e = 10 := by
                rcases HCr.out with ⟨h1, _⟩ | ⟨_, h2⟩
                · have := HM.out; omega
                · exact h2
              have HE : Hid (readF ls a = .error 10) := hid (by rw [HRG.out, if_pos hfit])
              subst he
              clear hfit
              go_wp2_with fail
              go_quiet (fail)
              go_wp2_with fail
              refine bodyPost_ret (v := .tuple #[.slice none 0 0, .slice none 0 0, .int .i64 0, .int .i64 10]) (by simp [results, Tryd.results25, go_sem]) rfl ?_
              rw [HE.out]
              exact ⟨rfl, HKr.out.drewN _⟩
            · have hce : c = a + 14 + 3 * i ∧ e = 0 ∧ xs = codesF ls (a + 14) i := by
                rcases HCr.out with ⟨_, h1, h2, h3⟩ | ⟨h1, _⟩
                · exact ⟨h1, h2, h3⟩
                · have := HM.out; omega
              obtain ⟨hce1, rfl, hxs⟩ := hce
              have HCC : Hid (c = a + 14 + 3 * i) := hce1
              have h7 := codesF_le ls HB.out (a + 14) i
              have hl19 := codesF_length ls (a + 14) i
              rw [← hxs] at h7 hl19
              have HRH : Hid (readF ls a = (if chkN xs ≠ 0 then .error (chkN xs)
                else match bodyF xs ls (lit + dist) (lit + dist) [] c with
                  | .error e => .error e
                  | .ok (l, c) => .ok ((l.take lit, l.drop lit), c - a))) := hid (by rw [HRG.out, if_neg hfit, hxs, hce1])
              have HCK := rcheck_any w4 (.slice (some ⟨gC, 0, none⟩) 19 19) _ (xs.map (fun (n : Nat) => (n : Int))) (SrcE.recode (enc' := intV) (SrcE.ofRow HRr.out) (by rw [List.map_map]; rfl)) (by rw [List.length_map]; omega)
              rw [chk_codes xs hl19 h7] at HCK
              have HX7 : Hid ((∀ x ∈ xs, x ≤ 7) ∧ xs.length = 19) := ⟨h7, hl19⟩
              obtain ⟨ck, hck⟩ : ∃ ck, ck = chkN xs := ⟨_, rfl⟩
              rw [← hck] at HCK
              have hac : a ≤ c := by omega
              clear hce1 hxs hfit HRG HCr h7 hl19
              go_wp2_with fail
              clear hlt'
              refine HCK.mono ?_
              rintro r w5 ⟨rfl, hw5⟩
              subst hw5
              clear HCK
              by_cases hck0 : ck = 0
              · have hm : measure xs ≤ 32768 := by
                  rw [hck] at hck0
                  unfold chkN at hck0
                  split at hck0
                  · omega
                  · omega
                have HRO := rows_any w5 (.slice (some ⟨gC, 0, none⟩) 19 19) _ xs (SrcE.ofRow HRr.out) (by have := HX7.out.2; omega) (fun n hn => by have := HX7.out.1 n hn; omega) hm
                rw [HX7.out.2] at HRO
                have HRI : Hid (readF ls a = (match bodyF xs ls (lit + dist) (lit + dist) [] c with
                  | .error e => .error e
                  | .ok (l, c) => .ok ((l.take lit, l.drop lit), c - a))) := hid (by rw [HRH.out, if_neg (by omega)])
                rw [hck0]
                clear hck hck0 hm HRH
                go_wp2_with fail
                refine HRO.mono ?_
                rintro r w6 ⟨go, rs, rfl, hrw⟩
                have hgoR : w5.heap.size ≤ go := hrw.row.ge rfl
                have hh5 : h < w5.heap.size := HHr.out.lt
                have HRW6 : Hid (RW w w6 go 19 xs (fun s => key xs s ≠ 0) rs) := hid (hrw.down HKr.out)
                have HOFF : Hid (RowsOff w go xs rs h) := hid ⟨by omega, by omega, fun s hs hp e => by have := (hrw.have' s hs hp).2 h e; omega⟩
                have HH6 : Hid (HdB w6 h (.slice ao M cap) c 0) := hid (HHr.out.kept hrw.same (fun f => f))
                have HK6 : Hid (Same w w6) := hid (Same.trans HKr.out hrw.same)
                clear hrw HRO HRr HOr HHr HKr k2
                obtain ⟨N, hN⟩ : ∃ N, N = lit + dist := ⟨_, rfl⟩
                have hNI : (lit : Int) + (dist : Int) = (N : Int) := by omega
                have hN316 : N ≤ 316 := by omega
                have hlN : lit < N ∨ dist = 0 := by omega
                rw [← hN] at HRI
                have HN : Hid (N = lit + dist) := hN
                clear hN
                go_wp2_with fail
                go_loopg [17] N (fun q zl wr => ∃ (f c2 : Nat) (l : List Nat), f ≤ q ∧ N - l.length ≤ f ∧ l.length ≤ N ∧ c2 ≤ M ∧ a ≤ c2 ∧ Hid (bodyF xs ls N N [] c = bodyF xs ls N f l c2) ∧ Hid (∀ x ∈ l, x ≤ 15) ∧ Hid (NRow w.heap.size wr zl l) ∧ Hid (zl.ownBlock ≠ some h ∧ True) ∧ Hid (HdB wr h (.slice ao M cap) c2 0) ∧ Hid (RW w wr go 19 xs (fun s => key xs s ≠ 0) rs) ∧ Hid (Same w wr))
                case atStart => exact ⟨N, c, [], by omega, by simp, by simp, hcM, hac, hid rfl, hid (by simp), RowE.nil, hid ⟨by simp [Value.ownBlock], trivial⟩, HH6, HRW6, HK6⟩
                case round =>
                  clear HH6 HRW6 HK6
                  obtain ⟨f, c2, l, hfq, hfN, hlle, hc2M, hac2, HBD, H15, HL, HOL, HHr, HRW, HKr⟩ := hrel
                  obtain ⟨al, capl, hvl, hal, hal0, hlc, _⟩ := HL.out.shape
                  subst hvl
                  obtain ⟨Ln, hLn⟩ : ∃ Ln, Ln = l.length := ⟨_, rfl⟩
                  rw [← hLn] at HL hfN hlle hlc HOL ⊢
                  have HLn : Hid (Ln = l.length) := hLn
                  by_cases hlt : Ln < N
                  · obtain ⟨f', rfl⟩ : ∃ f', f = f' + 1 := ⟨f - 1, by omega⟩
                    have HST := hstep_any wr w h (.slice ao M cap) I ls c2 go 19 xs rs HHr.out (HS.out.kept HKr.out (fun _ _ _ g => g)) (fun k hk e => by have := HI.out k hk; have := HHW.out; omega) HB.out (by have := HM.out; omega) (by have := HM.out; omega) HRW.out HX7.out.2.symm (by decide) (fun s => by
                      by_cases e : s < xs.length
                      · rw [key_get e]; have := HX7.out.1 _ (List.getElem_mem e); omega
                      · simp [key, e]) HOFF.out
                    cases hsf : stepF xs ls c2 with
                    | error er =>
                      rw [hsf] at HST
                      have HE : Hid (readF ls a = .error er) := hid (by rw [HRI.out, HBD.out, bodyF_err (by omega) hsf])
                      clear hLn hsf
                      go_wp2_with fail
                      refine HST.mono ?_
                      rintro r w7 ⟨⟨ea, eb, ec, rfl, hh7, hne⟩, hk7⟩
                      have k2 := hh7.cell 2
                      simp at k2
                      have hh7l := hh7.lt
                      have HK7 : Hid (Same w w7) := hid (Same.then HKr.out hk7 (fun x hx e => by omega))
                      have hed : ((er : Int) != 0) = true := by simp; omega
                      have hnh : h ≠ w7.heap.size := by omega
                      have hnh2 : w7.heap.size ≠ h := by omega
                      clear hh7 hk7 hne HST
                      go_wp2_with fail
                      go_quiet (fail)
                      go_wp2_with fail
                      refine bodyPost_ret (v := .tuple #[.slice none 0 0, .slice none 0 0, .int .i64 0, .int .i64 (er : Nat)]) (by simp [results, Tryd.results25, go_sem]) rfl ?_
                      rw [HE.out]
                      exact ⟨rfl, (HK7.out.alloc _).drewN _⟩
                    | ok p =>
                      obtain ⟨⟨sy, ex⟩, c4⟩ := p
                      rw [hsf] at HST
                      have h4M := stepF_le hsf
                      have h4a := stepF_ge hsf
                      have HBS : Hid (bodyF xs ls N N [] c = match withM l ((sy : Int), (ex : Int)) N with | none => .error 41 | some m => bodyF xs ls N f' m c4) := hid (by rw [HBD.out, bodyF_step (by omega) hsf]; rfl)
                      clear hLn hsf
                      go_wp2_with fail
                      refine HST.mono ?_
                      rintro r w7 ⟨⟨rfl, hh7⟩, hk7⟩
                      have k2 := hh7.cell 2
                      simp at k2
                      have hh7l := hh7.lt
                      have HH7 : Hid (HdB w7 h (.slice ao M cap) c4 0) := hh7
                      have HK7 : Hid (Same w w7) := hid (Same.then HKr.out hk7 (fun x hx e => by omega))
                      have hlk : ∀ k, (Value.slice al Ln capl).ownBlock = some k → k ≠ h := fun k hk e => HOL.out.1 (by rw [hk, e])
                      have HL7 : Hid (NRow w.heap.size w7 (.slice al Ln capl) l) := hid (HL.out.kept hk7 hlk)
                      have HRW7 : Hid (RW w w7 go 19 xs (fun s => key xs s ≠ 0) rs) := hid (HRW.out.off HOFF.out hk7)
                      have hnh : h ≠ w7.heap.size := by omega
                      have hnh2 : w7.heap.size ≠ h := by omega
                      have HK8 : Hid (Same w7 (w7.alloc (.cells #[.int .i64 (sy : Nat), .int .i64 (ex : Nat)] 31))) := (Kept.refl _ w7).alloc _
                      have hs8 : (w7.alloc (.cells #[.int .i64 (sy : Nat), .int .i64 (ex : Nat)] 31)).heap.size = w7.heap.size + 1 := by simp
                      have HS8 : Hid ((w7.alloc (.cells #[.int .i64 (sy : Nat), .int .i64 (ex : Nat)] 31)).heap.size = w7.heap.size + 1) := hs8
                      clear hh7 hk7 HST hlk hs8
                      cases hwm : withM l ((sy : Int), (ex : Int)) N with
                      | none =>
                        have HE : Hid (readF ls a = .error 41) := hid (by rw [HRI.out, HBS.out, hwm])
                        have HW := with_no (w7.alloc (.cells #[.int .i64 (sy : Nat), .int .i64 (ex : Nat)] 31)) w.heap.size (.slice al Ln capl) l (sy : Int) (ex : Int) N (HL7.out.same HK8.out) (by have := HLn.out; omega) H15.out (by omega) hwm
                        clear hwm
                        go_wp2_with fail
                        refine HW.mono ?_
                        rintro r w9 ⟨rfl, hk9⟩
                        have HK9 : Hid (Same w w9) := hid (Same.trans HK7.out (Same.trans HK8.out hk9))
                        clear hk9 HW
                        go_wp2_with fail
                        refine bodyPost_ret (v := .tuple #[.slice none 0 0, .slice none 0 0, .int .i64 0, .int .i64 41]) (by simp [results, Tryd.results25, go_sem]) rfl ?_
                        rw [HE.out]
                        exact ⟨rfl, HK9.out⟩
                      | some m =>
                        have hgr := withM_grows hwm H15.out
                        have HBM : Hid (bodyF xs ls N N [] c = bodyF xs ls N f' m c4) := hid (by rw [HBS.out, hwm])
                        have H15m : Hid (∀ x ∈ m, x ≤ 15) := hid hgr.2.2
                        have hml : Ln < m.length ∧ m.length ≤ N := by have := HLn.out; omega
                        have HW := with_yes (w7.alloc (.cells #[.int .i64 (sy : Nat), .int .i64 (ex : Nat)] 31)) w.heap.size (.slice al Ln capl) l m (sy : Int) (ex : Int) N (HL7.out.same HK8.out) (by have := HLn.out; omega) H15.out (by omega) hwm
                        have h4M2 : c4 ≤ M := by have := HM.out; omega
                        clear hwm hgr h4M
                        go_wp2_with fail
                        refine HW.mono ?_
                        rintro r w9 ⟨v9, rfl, hn9⟩
                        have HK9 : Hid (Same w w9) := hid (Same.trans HK7.out (Same.trans HK8.out hn9.same))
                        have HL9 : Hid (NRow w.heap.size w9 v9 m) := hid (RowE.base hn9.row (by have h1 := HS8.out; have h2 := HK7.out.size; omega))
                        have HOL9 : Hid (v9.ownBlock ≠ some h ∧ True) := hid ⟨fun e => by have h1 := hn9.row.ge e; have h2 := HS8.out; omega, trivial⟩
                        have HH9 : Hid (HdB w9 h (.slice ao M cap) c4 0) := hid (HH7.out.kept (Same.trans HK8.out hn9.same) (fun f => f))
                        have HRW9 : Hid (RW w w9 go 19 xs (fun s => key xs s ≠ 0) rs) := hid (HRW7.out.later (Same.trans HK8.out hn9.same))
                        clear hn9 HW
                        go_wp2_with fail
                        go_roundg (gk - 1)
                        case measure => omega
                        case rel => exact ⟨f', c4, m, by omega, by omega, by omega, by omega, by omega, HBM, H15m, HL9, HOL9, HH9, HRW9, HK9⟩
                  · have hlN2 : Ln = N := by omega
                    have hlt' : decide (Ln < N) = false := by simp; omega
                    have HEND : Hid (readF ls a = .ok ((l.take lit, l.drop lit), c2 - a)) := hid (by rw [HRI.out, HBD.out, bodyF_end (by omega)])
                    obtain ⟨gl, hgl⟩ := hal (by intro e; rw [e] at hLn; simp at hLn; omega)
                    subst hgl
                    have hglb : w.heap.size ≤ gl := HL.out.ge rfl
                    have k1 := HHr.out.cell 1
                    simp at k1
                    obtain ⟨n, hn⟩ : ∃ n, n = c2 - a := ⟨_, rfl⟩
                    have hnI : (c2 : Int) - (a : Int) = (n : Int) := by omega
                    have hwn : IntKind.i64.wrap (n : Int) = (n : Int) := by rw [IntKind.wrap_i64]; omega
                    have hlitc : lit ≤ capl := by omega
                    have hlitL : lit ≤ Ln := by omega
                    have hlitc2 : lit < capl := by omega
                    have HSA : Hid (SrcE natV wr (fun k => w.heap.size ≤ k) (.slice (some ⟨gl, 0, none⟩) lit capl) (l.take lit)) := hid (by
                      have h0 := (SrcE.ofRow HL.out).mono (J := fun k => w.heap.size ≤ k) (fun k hk => by simp [Value.ownBlock] at hk; omega)
                      rw [hLn] at h0
                      exact h0.part lit (by omega))
                    have HSB : Hid (SrcE natV wr (fun k => w.heap.size ≤ k) (.slice (some ⟨gl, lit, none⟩) (Ln - lit) (capl - lit)) (l.drop lit)) := hid (by
                      have h0 := (SrcE.ofRow HL.out).mono (J := fun k => w.heap.size ≤ k) (fun k hk => by simp [Value.ownBlock] at hk; omega)
                      rw [hLn] at h0 ⊢
                      exact h0.tail lit lit (by omega) (fun _ => by omega))
                    rw [← hn] at HEND
                    clear hn hlt hLn hlN2
                    go_wp2_with fail
                    go_quiet (fail)
                    go_wp2_with fail
                    refine bodyPost_ret (v := .tuple #[.slice (some ⟨gl, 0, none⟩) lit capl, .slice (some ⟨gl, lit, none⟩) (Ln - lit) (capl - lit), .int .i64 (n : Nat), .int .i64 0]) (by simp [results, Tryd.results25, go_sem]) rfl ?_
                    rw [HEND.out]
                    exact ⟨⟨_, _, rfl, HSA.out.kept ((Kept.refl (fun _ => False) wr).drewN _) (fun _ _ _ f => f), HSB.out.kept ((Kept.refl (fun _ => False) wr).drewN _) (fun _ _ _ f => f)⟩, HKr.out.drewN _⟩
              · have hckd : ((ck : Int) != 0) = true := by simp; omega
                have HE : Hid (readF ls a = .error ck) := hid (by rw [HRH.out, if_pos (by omega), hck])
                clear hck hck0
                go_wp2_with fail
                refine bodyPost_ret (v := .tuple #[.slice none 0 0, .slice none 0 0, .int .i64 0, .int .i64 (ck : Nat)]) (by simp [results, Tryd.results25, go_sem]) rfl ?_
                rw [HE.out]
                exact ⟨rfl, HKr.out⟩

end Go.Proofs.YtofhlnpbflkdlaaDoor

/-
  The law LensReads.
-/
namespace Go.Proofs.YtofhlnpbflkdlaaDoor
open Go.RowKit

theorem src_nil (w : World) (I : Nat → Prop) : SrcE intV w I (.slice none 0 0) [] := ⟨none, 0, rfl, Nat.le_refl _, fun h => absurd rfl h⟩

theorem ints_nil (w : World) : Calls Tryd.prog 17 #[.slice none 0 0, .slice none 0 0] w fun e w' => e = .returned (.bool true) ∧ Same w w' := by
  have h := keepInts_any _ _ (fun _ => False) (fun _ => False) [] [] w (src_nil w _) (src_nil w _) (by decide) (by decide)
  exact h

theorem ints_same (w : World) (va vb : Value) (I J : Nat → Prop) (xs : List Nat) (ha : SrcE natV w I va xs) (hb : SrcE natV w J vb xs) (hx : xs.length ≤ 10000000) : Calls Tryd.prog 17 #[va, vb] w fun e w' => e = .returned (.bool true) ∧ Same w w' := by
  have e : (xs.map (fun (n : Nat) => (n : Int))).map intV = xs.map natV := by rw [List.map_map]; rfl
  have h := keepInts_any va vb I J (xs.map (fun (n : Nat) => (n : Int))) (xs.map (fun (n : Nat) => (n : Int))) w (ha.recode e) (hb.recode e) (by simpa using hx) (by simpa using hx)
  have hd : decide (xs.map (fun (n : Nat) => (n : Int)) = xs.map (fun (n : Nat) => (n : Int))) = true := by simp
  rw [hd] at h
  exact h

theorem bodyF_short {ns ls : List Nat} {N : Nat} {m : List Nat} {c c' : Nat} (h : bodyF ns ls N N [] c = .ok (m, c')) : m.length = N := (bodyF_ok N [] m c c' h (by simp) (by simp) (by simp)).1

theorem readF_short {ls : List Nat} {a n : Nat} {x y : List Nat} (h : readF ls a = .ok ((x, y), n)) (hb : ∀ b ∈ ls, b < 2) : x.length ≤ 1000 ∧ y.length ≤ 1000 := by
  unfold readF at h
  split at h
  · cases h
  · split at h
    · cases h
    · rename_i h2
      split at h
      · cases h
      · split at h
        · cases h
        · split at h
          · cases h
          · rename_i l c hbf
            simp only [Except.ok.injEq, Prod.mk.injEq] at h
            obtain ⟨⟨rfl, rfl⟩, _⟩ := h
            have := bodyF_short hbf
            have h1 := numAt_lt ls hb a 5
            have h3 := numAt_lt ls hb (a + 5) 5
            simp only [List.length_take, List.length_drop]
            omega

set_option maxRecDepth 100000 in
set_option maxHeartbeats 4000000 in
theorem reads_good (W : World) (a : Option Addr) (len cap k : Nat) (bs : List Nat) (hs : Src W (fun j => j < W.heap.size) (.slice a len cap) bs) (hl : bs.length = len) (hb : ∀ b ∈ bs, b < 256) (hlong : len ≤ 1048576) (hk7 : k ≤ 7) (hk8 : k ≤ 8 * len) (hT : Tab W) :
    Calls Tryd.prog 6 #[.slice a len cap, .int .i64 (k : Nat)] W fun e w' => e = .returned (.bool true) ∧ Same W w' := by
  have HG := goneR_any W _ _ bs k hs (by omega) hb (by omega)
  have HS : Hid (Src W (fun j => j < W.heap.size) (.slice a len cap) bs) := hs
  have HB : Hid (∀ b ∈ bs, b < 256) := hb
  have HT : Hid (Tab W) := hT
  have HL : Hid (bs.length = len) := hl
  have b1 : decide ((1048576 : Int) < (len : Int)) = false := by simp; omega
  have b2 : decide ((k : Int) < 0) = false := by simp
  have b3 : decide ((7 : Int) < (k : Int)) = false := by simp; omega
  obtain ⟨M, hM⟩ : ∃ M, M = 8 * len := ⟨_, rfl⟩
  have hMI : (8 : Int) * (len : Int) = (M : Int) := by omega
  have hMw : IntKind.i64.wrap (M : Int) = (M : Int) := by rw [IntKind.wrap_i64]; omega
  have b4 : decide ((M : Int) < (k : Int)) = false := by simp; omega
  have HM : Hid (M = 8 * bs.length) := hid (by rw [hM, hl])
  clear hs hb hT hl hM
  go_enter Tryd.func6, Tryd.ntmps6
  go_wp2_with fail
  refine HG.mono ?_
  rintro e w1 ⟨p, s, rfl, hst, hk1, hf⟩
  have HST1 : Hid (St w1 p s bs k) := hst
  have HK1 : Hid (Same W w1) := hk1
  have HF : Hid (∀ j, Fp p s j → W.heap.size ≤ j) := hf
  have HRD := lread_any w1 p k s bs hst (by rw [HL.out]; omega) (by rw [HL.out]; omega) (HT.out.kept hk1 (fun f => f)) (fun e => by have := HT.out.pos; have := hf p (.inl rfl); omega)
  clear hst hk1 hf HG b1 b2 b3 b4
  go_wp2_with fail
  refine HRD.mono ?_
  rintro e w2 ⟨hra, hk2⟩
  have HK2 : Hid (Same W w2) := hid (Same.then HK1.out hk2 (fun j hj e => by have := HF.out p (.inl rfl); omega))
  have HOF := refOf_any w2 _ _ bs (HS.out.kept HK2.out (fun _ _ _ f => f)) (by rw [HL.out]; omega) HB.out
  clear hk2 HRD
  cases hrf : readF (ofBytes bs) k with
  | error er =>
    rw [hrf] at hra
    obtain ⟨rfl, her, hs2⟩ := hra
    have HST2 : Hid (St w2 p s bs k) := hs2
    have HRF : Hid (readF (ofBytes bs) k = .error er) := hrf
    clear hs2 hrf her
    go_wp2_with fail
    refine HOF.mono ?_
    rintro e w3 ⟨v3, rfl, hg3⟩
    have hk3 : Same w2 w3 := hg3.kept.mono (fun _ _ e => by cases e)
    have HRR := rread_any w3 v3 _ (ofBytes bs) k (Src.ofRow hg3.row) (fun j e => hg3.row.lt e) (ofBytes_lt bs) (by rw [ofBytes_length, HL.out]; exact hk8) (by rw [ofBytes_length, HL.out]; omega)
    rw [HRF.out] at HRR
    have HK3 : Hid (Same w2 w3) := hk3
    clear hg3 hk3 HOF
    go_wp2_with fail
    refine HRR.mono ?_
    rintro e w4 ⟨rfl, hk4⟩
    have HK4 : Hid (Same W w4) := hid (Same.trans HK2.out (Same.trans HK3.out hk4))
    have HST4 : Hid (St w4 p s bs k) := hid (HST2.out.kept (Same.trans HK3.out hk4) (fun _ _ f => f))
    have HAW := lawake_any w4 (HT.out.kept HK4.out (fun f => f))
    clear hk4 HRR
    go_wp2_with fail
    refine HAW.mono ?_
    rintro e w5 ⟨rfl, hk5⟩
    have HK5 : Hid (Same w4 w5) := hk5
    have HI1 := ints_nil w5
    clear hk5 HAW
    go_wp2_with fail
    refine HI1.mono ?_
    rintro e w6 ⟨rfl, hk6⟩
    have HK6 : Hid (Same w4 w6) := hid (Same.trans HK5.out hk6)
    have HI2 := ints_nil w6
    clear hk6 HI1
    go_wp2_with fail
    refine HI2.mono ?_
    rintro e w7 ⟨rfl, hk7'⟩
    have HK7 : Hid (Same w4 w7) := hid (Same.trans HK6.out hk7')
    have HG7 := gone_any p k s bs w7 (HST4.out.kept HK7.out (fun _ _ f => f))
    have HL7 := left_any p k s bs w7 (HST4.out.kept HK7.out (fun _ _ f => f)) (by rw [HL.out]; exact hk8) (by rw [HL.out]; omega)
    obtain ⟨q, hq⟩ : ∃ q, q = M - k := ⟨_, rfl⟩
    rw [← HM.out, ← hq] at HL7
    have hqI : (M : Int) - (k : Int) = (q : Int) := by have := HM.out; have := HL.out; omega
    have hqw : IntKind.i64.wrap (q : Int) = (q : Int) := by rw [IntKind.wrap_i64]; have := HM.out; have := HL.out; omega
    clear hk7' HI2 hq
    go_wp2_with fail
    refine HG7.mono ?_
    rintro e w8 ⟨rfl, hw8⟩
    subst hw8
    clear HG7
    go_wp2_with fail
    refine HL7.mono ?_
    rintro e w9 ⟨rfl, m9, hw9⟩
    subst hw9
    clear HL7
    go_wp2_with fail
    go_ret
    exact ⟨rfl, (Same.trans HK4.out HK7.out).drewN _⟩
  | ok r =>
    obtain ⟨⟨xa, xb⟩, n⟩ := r
    rw [hrf] at hra
    obtain ⟨⟨va, vb, rfl, hra, hrb⟩, hc2, hs2⟩ := hra
    obtain ⟨t, ht⟩ : ∃ t, t = k + n := ⟨_, rfl⟩
    rw [← ht] at hs2 hc2
    have HST2 : Hid (St w2 p s bs t) := hs2
    have HRA : Hid (NRow w1.heap.size w2 va xa) := hra
    have HRB : Hid (NRow w1.heap.size w2 vb xb) := hrb
    have HRF : Hid (readF (ofBytes bs) k = .ok ((xa, xb), n)) := hrf
    have HSH : Hid (xa.length ≤ 1000 ∧ xb.length ≤ 1000) := hid (readF_short hrf (ofBytes_lt bs))
    have htI : (k : Int) + (n : Int) = (t : Int) := by omega
    have HTK : Hid (t = k + n ∧ t ≤ 8 * bs.length) := hid ⟨ht, hc2⟩
    have htw : IntKind.i64.wrap (t : Int) = (t : Int) := by rw [IntKind.wrap_i64]; have := HL.out; omega
    clear hs2 hrf hra hrb hc2 ht
    go_wp2_with fail
    refine HOF.mono ?_
    rintro e w3 ⟨v3, rfl, hg3⟩
    have hk3 : Same w2 w3 := hg3.kept.mono (fun _ _ e => by cases e)
    have HRR := rread_any w3 v3 _ (ofBytes bs) k (Src.ofRow hg3.row) (fun j e => hg3.row.lt e) (ofBytes_lt bs) (by rw [ofBytes_length, HL.out]; exact hk8) (by rw [ofBytes_length, HL.out]; omega)
    rw [HRF.out] at HRR
    have HK3 : Hid (Same w2 w3) := hk3
    clear hg3 hk3 HOF
    go_wp2_with fail
    refine HRR.mono ?_
    rintro e w4 ⟨⟨wa, wb, rfl, hwa, hwb⟩, hk4⟩
    have HWA : Hid (SrcE natV w4 (fun j => w3.heap.size ≤ j) wa xa) := hwa
    have HWB : Hid (SrcE natV w4 (fun j => w3.heap.size ≤ j) wb xb) := hwb
    have HK34 : Hid (Same w2 w4) := hid (Same.trans HK3.out hk4)
    have HK4 : Hid (Same W w4) := hid (Same.trans HK2.out HK34.out)
    have HST4 : Hid (St w4 p s bs t) := hid (HST2.out.kept HK34.out (fun _ _ f => f))
    have HAW := lawake_any w4 (HT.out.kept HK4.out (fun f => f))
    clear hk4 HRR hwa hwb
    go_wp2_with fail
    refine HAW.mono ?_
    rintro e w5 ⟨rfl, hk5⟩
    have HK5 : Hid (Same w4 w5) := hk5
    have HI1 := ints_same w5 va wa _ _ xa (SrcE.ofRow (HRA.out.same (Same.trans HK34.out hk5))) (HWA.out.same hk5) (by have := HSH.out; omega)
    clear hk5 HAW
    go_wp2_with fail
    refine HI1.mono ?_
    rintro e w6 ⟨rfl, hk6⟩
    have HK6 : Hid (Same w4 w6) := hid (Same.trans HK5.out hk6)
    have HI2 := ints_same w6 vb wb _ _ xb (SrcE.ofRow (HRB.out.same (Same.trans HK34.out HK6.out))) (HWB.out.same HK6.out) (by have := HSH.out; omega)
    clear hk6 HI1
    go_wp2_with fail
    refine HI2.mono ?_
    rintro e w7 ⟨rfl, hk7'⟩
    have HK7 : Hid (Same w4 w7) := hid (Same.trans HK6.out hk7')
    have HG7 := gone_any p t s bs w7 (HST4.out.kept HK7.out (fun _ _ f => f))
    have HL7 := left_any p t s bs w7 (HST4.out.kept HK7.out (fun _ _ f => f)) HTK.out.2 (by rw [HL.out]; omega)
    obtain ⟨q, hq⟩ : ∃ q, q = M - t := ⟨_, rfl⟩
    rw [← HM.out, ← hq] at HL7
    obtain ⟨q1, hq1⟩ : ∃ q, q = M - k := ⟨_, rfl⟩
    have hq1I : (M : Int) - (k : Int) = (q1 : Int) := by have := HM.out; have := HL.out; omega
    have hq1w : IntKind.i64.wrap (q1 : Int) = (q1 : Int) := by rw [IntKind.wrap_i64]; have := HM.out; have := HL.out; omega
    have hqI : (q1 : Int) - (n : Int) = (q : Int) := by have := HM.out; have := HL.out; have := HTK.out; omega
    have hqw : IntKind.i64.wrap (q : Int) = (q : Int) := by rw [IntKind.wrap_i64]; have := HM.out; have := HL.out; omega
    clear hk7' HI2 hq hq1
    go_wp2_with fail
    refine HG7.mono ?_
    rintro e w8 ⟨rfl, hw8⟩
    subst hw8
    clear HG7
    go_wp2_with fail
    refine HL7.mono ?_
    rintro e w9 ⟨rfl, m9, hw9⟩
    subst hw9
    clear HL7
    go_wp2_with fail
    go_ret
    exact ⟨rfl, (Same.trans HK4.out HK7.out).drewN _⟩

set_option maxRecDepth 100000 in
set_option maxHeartbeats 4000000 in
theorem lensReads_all (a : Option Addr) (len cap : Nat) (zs : List Int) (skip : Int) (W : World) (h : IsRow .u8 W a len cap zs) (_hm : (Lit.int .i64 skip).wf = true) (hT : Tab W) :
    Calls Tryd.prog 6 #[.slice a len cap, .int .i64 skip] W fun e w' => e = .returned (.bool true) ∧ Below W.heap.size W w' := by
  obtain ⟨bs, hs, hl, hb⟩ := h.src
  have hmax := h.max
  clear h
  suffices H : Calls Tryd.prog 6 #[.slice a len cap, .int .i64 skip] W fun e w' => e = .returned (.bool true) ∧ Same W w' from H.mono (fun e w' h => ⟨h.1, h.2.bel⟩)
  have HAW := lawake_any W hT
  by_cases hlong : 1048576 < len
  · have b1 : decide ((1048576 : Int) < (len : Int)) = true := by simp; omega
    clear hlong hl hs hmax
    go_enter Tryd.func6, Tryd.ntmps6
    go_wp2_with fail
    refine HAW.mono ?_
    rintro e w5 ⟨rfl, hk5⟩
    have HK5 : Hid (Same W w5) := hk5
    clear hk5 HAW
    go_wp2_with fail
    go_ret
    exact ⟨rfl, HK5.out⟩
  · have b1 : decide ((1048576 : Int) < (len : Int)) = false := by simp; omega
    by_cases hn : skip < 0
    · have b2 : decide (skip < 0) = true := by simp; omega
      clear hlong hl hs hmax hn
      go_enter Tryd.func6, Tryd.ntmps6
      go_wp2_with fail
      refine HAW.mono ?_
      rintro e w5 ⟨rfl, hk5⟩
      have HK5 : Hid (Same W w5) := hk5
      clear hk5 HAW
      go_wp2_with fail
      go_ret
      exact ⟨rfl, HK5.out⟩
    · have b2 : decide (skip < 0) = false := by simp; omega
      by_cases h7 : 7 < skip
      · have b3 : decide (7 < skip) = true := by simp; omega
        clear hlong hl hs hmax hn h7
        go_enter Tryd.func6, Tryd.ntmps6
        go_wp2_with fail
        refine HAW.mono ?_
        rintro e w5 ⟨rfl, hk5⟩
        have HK5 : Hid (Same W w5) := hk5
        clear hk5 HAW
        go_wp2_with fail
        go_ret
        exact ⟨rfl, HK5.out⟩
      · obtain ⟨k, rfl⟩ : ∃ n : Nat, skip = (n : Int) := ⟨skip.toNat, by omega⟩
        by_cases h8 : 8 * len < k
        · have b3 : decide ((7 : Int) < (k : Int)) = false := by simp; omega
          obtain ⟨M, hM⟩ : ∃ M, M = 8 * len := ⟨_, rfl⟩
          have hMI : (8 : Int) * (len : Int) = (M : Int) := by omega
          have hMw : IntKind.i64.wrap (M : Int) = (M : Int) := by rw [IntKind.wrap_i64]; omega
          have b4 : M < k := by omega
          clear hlong hl hs hmax hn h7 h8 hM
          go_enter Tryd.func6, Tryd.ntmps6
          go_wp2_with fail
          refine HAW.mono ?_
          rintro e w5 ⟨rfl, hk5⟩
          have HK5 : Hid (Same W w5) := hk5
          clear hk5 HAW
          go_wp2_with fail
          go_ret
          exact ⟨rfl, HK5.out⟩
        · exact reads_good W a len cap k bs hs hl hb (by omega) (by omega) (by omega) hT

end Go.Proofs.YtofhlnpbflkdlaaDoor

/-
  The law LensUnpacks.
-/
namespace Go.Proofs.YtofhlnpbflkdlaaDoor
open Go.RowKit

/-- A slice of some cells an element, as cells behind an address. -/
theorem SrcC.cellsAt {α : Type} {k : Nat} {enc : α → List Value} {w : World} {I : Nat → Prop} {ao : Option Addr} {n cap : Nat} {xs : List α} (ok : EncOk enc k) (h : SrcC k enc w I (.slice ao n cap) xs) (hne : xs ≠ []) : ∃ ad, ao = some ad ∧ CellsAt w ad (xs.flatMap enc) := by
  obtain ⟨ao', cap', e, _, hc⟩ := h
  simp only [Value.slice.injEq] at e
  obtain ⟨rfl, _, rfl⟩ := e
  obtain ⟨b, o, rfl, _, hcell⟩ := hc hne
  refine ⟨_, rfl, fun j u hu => ?_⟩
  have hk := ok.pos
  have hj : j < (xs.flatMap enc).length := (List.getElem?_eq_some_iff.1 hu).1
  rw [flat_length ok] at hj
  have h1 : j / k < xs.length := (Nat.div_lt_iff_lt_mul hk).2 hj
  have h2 : j % k < k := Nat.mod_lt _ hk
  have h3 := flat_get ok xs (j / k) (j % k) h1 h2
  rw [Nat.div_add_mod' j k] at h3
  have e : (⟨b, o, none⟩ : Addr).add j = ⟨b, o + j, none⟩ := by unfold Addr.add; split <;> simp_all
  have h4 := hcell (j / k) h1 (j % k) h2
  rw [Nat.div_add_mod' j k] at h4
  rw [e, h4, ← h3, hu]

theorem splice_head {α : Type} (L cs : List α) : splice L 0 cs = cs ++ L.drop cs.length := by simp [splice]

/-- What is lent of steps: the steps, and a mark behind them. -/
theorem lent_steps (ss : List (Int × Int)) (L : Nat) (hL : ss.length = L) : splice ((List.replicate (L + 1) ((0 : Int), (0 : Int))).flatMap stC) 0 (ss.flatMap stC) = (ss ++ [(0, 0)]).flatMap stC := by
  have e1 := flat_length stC_ok ss
  have e2 : List.replicate (L + 1) ((0 : Int), (0 : Int)) = List.replicate L (0, 0) ++ [(0, 0)] := List.replicate_succ'
  have e3 : ((List.replicate L ((0 : Int), (0 : Int))).flatMap stC).length = L * 2 := by rw [flat_length stC_ok, List.length_replicate]
  rw [splice_head, e1, hL, e2, List.flatMap_append, List.flatMap_append, ← e3, List.drop_left]

theorem set_mark (ss : List (Int × Int)) (L : Nat) (hL : ss.length = L) : ((ss ++ [((0 : Int), (0 : Int))]).flatMap stC).set (L * 2) (.int .i64 (-77)) = (ss ++ [(-77, 0)]).flatMap stC := by
  have e1 := flat_length stC_ok ss
  rw [List.flatMap_append, List.flatMap_append, List.set_append_right _ _ (by rw [e1, hL]; exact Nat.le_refl _), e1, hL, Nat.sub_self]
  rfl

theorem Raw.set {w : World} {g : Nat} {t : TypeId} {L : List Value} (h : Raw w g t L) (i : Nat) (u : Value) : Raw (w.setCell ⟨g, i, none⟩ u) g t (L.set i u) := by
  have := Blk.set (show Blk w g L.toArray t from h) i u
  unfold Blk at this
  unfold Raw
  rw [this]
  simp

theorem Raw.cell {w : World} {g : Nat} {t : TypeId} {L : List Value} (h : Raw w g t L) (i : Nat) : w.cell? ⟨g, i, none⟩ = L[i]? := by
  have := Blk.cell (show Blk w g L.toArray t from h) i
  rw [this]
  simp

theorem Raw.frozen {w : World} {g : Nat} {t : TypeId} {L : List Value} (h : Raw w g t L) (i : Nat) : w.frozen? ⟨g, i, none⟩ = false := Blk.frozen (show Blk w g L.toArray t from h) i

/-- The head of a block that is known whole, as a slice of steps. -/
theorem Raw.steps {w : World} {g : Nat} {ss tt : List (Int × Int)} (h : Raw w g 31 ((ss ++ tt).flatMap stC)) (cap : Nat) (hc : ss.length ≤ cap) : StSrc w (fun k => k = g) (.slice (some ⟨g, 0, none⟩) ss.length cap) ss := by
  refine ⟨_, _, rfl, hc, fun _ => ⟨g, 0, rfl, rfl, fun j hj i hi => ?_⟩⟩
  rw [Nat.zero_add, h.cell, flat_get stC_ok (ss ++ tt) j i (by simp; omega) hi, List.getElem_append_left hj]

set_option maxRecDepth 100000 in
set_option maxHeartbeats 4000000 in
theorem unpacks_good (W : World) (a : Option Addr) (L cap : Nat) (ss : List (Int × Int)) (nz : Int) (hs : StSrc W (fun k => k < W.heap.size) (.slice a L cap) ss) (hl : ss.length = L) (hlong : L ≤ 1048576) (hT : Tab W) :
    Calls Tryd.prog 4 #[.slice a L cap, .int .i64 nz] W fun e w' => e = .returned (.bool true) ∧ Same W w' := by
  have HS : Hid (StSrc W (fun k => k < W.heap.size) (.slice a L cap) ss) := hs
  have HT : Hid (Tab W) := hT
  have HL : Hid (ss.length = L) := hl
  have b1 : decide ((1048576 : Int) < (L : Int)) = false := by simp; omega
  obtain ⟨L1, hL1⟩ : ∃ x, x = L + 1 := ⟨_, rfl⟩
  have hL1I : (L : Int) + 1 = (L1 : Int) := by omega
  have hL1w : IntKind.i64.wrap (L1 : Int) = (L1 : Int) := by rw [IntKind.wrap_i64]; omega
  have hLL : L < L1 := by omega
  have HMIN : Hid (Nat.min L L1 = L) := hid (Nat.min_eq_left (by omega))
  have HE1 : Hid ((ss.flatMap stC).length = L * 2) := hid (by rw [flat_length stC_ok, hl])
  have HFIT : Hid (0 + (ss.flatMap stC).length ≤ ((List.replicate L1 ((0 : Int), (0 : Int))).flatMap stC).length) := hid (by rw [HE1.out, flat_length stC_ok, List.length_replicate]; omega)
  have HLS : Hid (splice ((List.replicate L1 ((0 : Int), (0 : Int))).flatMap stC) 0 (ss.flatMap stC) = (ss ++ [(0, 0)]).flatMap stC) := hid (by rw [hL1]; exact lent_steps ss L hl)
  have HMK : Hid (((ss ++ [((0 : Int), (0 : Int))]).flatMap stC).set (L * 2) (.int .i64 (-77)) = (ss ++ [(-77, 0)]).flatMap stC) := hid (set_mark ss L hl)
  have HG0 : Hid (((ss ++ [((0 : Int), (0 : Int))]).flatMap stC)[L * 2]? = some (.int .i64 0)) := hid (by
    have h := flat_get stC_ok (ss ++ [((0 : Int), (0 : Int))]) L 0 (by simp; omega) (by decide)
    rw [Nat.add_zero] at h
    rw [h, List.getElem_append_right (by omega)]
    simp [stC])
  have HG1 : Hid (((ss ++ [((-77 : Int), (0 : Int))]).flatMap stC)[L * 2]? = some (.int .i64 (-77)) ∧ ((ss ++ [((-77 : Int), (0 : Int))]).flatMap stC)[L * 2 + 1]? = some (.int .i64 0)) := hid (by
    have h := flat_get stC_ok (ss ++ [((-77 : Int), (0 : Int))]) L 0 (by simp; omega) (by decide)
    have h' := flat_get stC_ok (ss ++ [((-77 : Int), (0 : Int))]) L 1 (by simp; omega) (by decide)
    rw [Nat.add_zero] at h
    rw [h, h', List.getElem_append_right (by omega)]
    simp [stC])
  clear hs hT hL1
  go_enter Tryd.func4, Tryd.ntmps4
  go_wp2_with (first
    | (at_make; refine wpList_make_c _ stC 2 stC_ok (0, 0) W.heap.size 25 31 (.agg #[.int .i64 0, .int .i64 0]) 16 Tryd.underlying25 Tryd.infoSt rfl (by decide) rfl _ _ rfl _ _ _ _ L1 rfl rfl rfl rfl (by omega) (Nat.le_refl _) ?_; intro w2 hr2 hg2 hs2; have HR2 : Hid (Raw w2 W.heap.size 31 ((List.replicate L1 ((0 : Int), (0 : Int))).flatMap stC)) := hid hr2.raw; have HK2 : Hid (Same W w2) := hid ((Kept.refl _ W).grown hg2 (fun j e => by cases e)); clear hr2 hg2)
    | (with_reducible refine atCopy ?_; refine wpList_copy_k _ rfl (.tmp 19) (.tmp 20) 25 25 rfl 31 2 Tryd.underlying25 Tryd.infoSt1 W.heap.size 0 L1 L1 a L cap rfl rfl _ 31 HR2.out (ss.flatMap stC) (by rw [HMIN.out]; exact HE1.out) (fun h => SrcC.cellsAt stC_ok (SrcC.kept stC_ok HS.out HK2.out (fun _ _ _ f => f)) (fun e => by rw [e] at h; simp at h)) (by decide) HFIT.out (flat_one stC_ok _) L HMIN.out ?_; intro w3 hr3 hg3; have HR3 : Hid (Raw w3 W.heap.size 31 ((ss ++ [((0 : Int), (0 : Int))]).flatMap stC)) := hid (by rw [← HLS.out]; exact hr3); have HK3 : Hid (Same W w3) := hid (HK2.out.grown hg3 (fun j e => .inr (by injection e with e; omega))); have c1 : w3.cell? ⟨W.heap.size, L * 2, none⟩ = some (.int .i64 0) := (by rw [HR3.out.cell, HG0.out]); have f1 : w3.frozen? ⟨W.heap.size, L * 2, none⟩ = false := HR3.out.frozen _; clear hr3 hg3))
  obtain ⟨w4, hw4⟩ : ∃ w4, w4 = w3.setCell ⟨W.heap.size, L * 2, none⟩ (.int .i64 (-77)) := ⟨_, rfl⟩
  rw [← hw4]
  have HR4 : Hid (Raw w4 W.heap.size 31 ((ss ++ [((-77 : Int), (0 : Int))]).flatMap stC)) := hid (by rw [hw4, ← HMK.out]; exact HR3.out.set _ _)
  have HK4 : Hid (Same W w4) := hid (by rw [hw4]; exact HK3.out.setCell _ _ (.inr (Nat.le_refl _)))
  have hsrc4 : StSrc w4 (fun k => k = W.heap.size) (.slice (some ⟨W.heap.size, 0, none⟩) L L1) ss := by have h := HR4.out.steps L1 (by rw [HL.out]; omega); rw [HL.out] at h; exact h
  have HUN := lunpack_any w4 _ _ ss nz hsrc4 (by rw [HL.out]; omega)
  clear hw4 hsrc4 c1 f1 HR3 HK3 HR2 HK2
  cases hun : unpM ss nz with
  | error er =>
    rw [hun] at HUN
    have HUE : Hid (unpM ss nz = .error er) := hun
    clear hun
    refine HUN.mono ?_
    rintro e w5 ⟨rfl, hk5⟩
    have HR5 : Hid (Raw w5 W.heap.size 31 ((ss ++ [((-77 : Int), (0 : Int))]).flatMap stC)) := hid (HR4.out.kept hk5 (fun f => f))
    have HK5 : Hid (Same W w5) := hid (Same.trans HK4.out hk5)
    have c1 : w5.cell? ⟨W.heap.size, L * 2, none⟩ = some (.int .i64 (-77)) := by rw [HR5.out.cell, HG1.out.1]
    have c2 : w5.cell? ⟨W.heap.size, L * 2 + 1, none⟩ = some (.int .i64 0) := by rw [HR5.out.cell, HG1.out.2]
    have hsrc5 : StSrc w5 (fun k => k = W.heap.size) (.slice (some ⟨W.heap.size, 0, none⟩) L L1) ss := by have h := HR5.out.steps L1 (by rw [HL.out]; omega); rw [HL.out] at h; exact h
    have HSM := same_any _ _ _ _ ss ss w5 hsrc5 (SrcC.kept stC_ok HS.out HK5.out (fun _ _ _ f => f)) (by rw [HL.out]; omega) (by rw [HL.out]; omega)
    have hd : decide (ss = ss) = true := by simp
    rw [hd] at HSM
    clear hd hk5 hsrc5 HUN
    go_wp2_with fail
    refine HSM.mono ?_
    rintro e w6 ⟨rfl, hk6⟩
    have HK6 : Hid (Same W w6) := hid (Same.trans HK5.out hk6)
    have HRU := unpack_any w6 _ _ ss nz (SrcC.kept stC_ok HS.out HK6.out (fun _ _ _ f => f)) (by rw [HL.out]; omega)
    rw [HUE.out] at HRU
    clear hk6 HSM c1 c2
    go_wp2_with fail
    refine HRU.mono ?_
    rintro e w7 ⟨rfl, hk7⟩
    have HK7 : Hid (Same W w7) := hid (Same.trans HK6.out hk7)
    have HAW := lawake_any w7 (HT.out.kept HK7.out (fun f => f))
    clear hk7 HRU
    go_wp2_with fail
    refine HAW.mono ?_
    rintro e w8 ⟨rfl, hk8⟩
    have HK8 : Hid (Same W w8) := hid (Same.trans HK7.out hk8)
    have HI1 := ints_nil w8
    clear hk8 HAW
    go_wp2_with fail
    refine HI1.mono ?_
    rintro e w9 ⟨rfl, hk9⟩
    have HK9 : Hid (Same W w9) := hid (Same.trans HK8.out hk9)
    clear hk9 HI1
    go_wp2_with fail
    go_ret
    exact ⟨rfl, HK9.out⟩
  | ok l =>
    rw [hun] at HUN
    have HUE : Hid (unpM ss nz = .ok l) := hun
    have HLL : Hid (l.length ≤ 10000000) := hid (by
      unfold unpM at hun
      split at hun
      · cases hun
      · split at hun
        · cases hun
        · rename_i h1 _ l' hr
          split at hun
          · cases hun
          · simp only [Except.ok.injEq] at hun
            subst hun
            have := (runM_le hr (by simp) (by simp)).1
            omega)
    clear hun
    refine HUN.mono ?_
    rintro e w5 ⟨v5, rfl, hn5⟩
    have hk5 := hn5.same
    have HV5 : Hid (NRow w4.heap.size w5 v5 l) := hn5.row
    have HR5 : Hid (Raw w5 W.heap.size 31 ((ss ++ [((-77 : Int), (0 : Int))]).flatMap stC)) := hid (HR4.out.kept hk5 (fun f => f))
    have HK5 : Hid (Same W w5) := hid (Same.trans HK4.out hk5)
    have c1 : w5.cell? ⟨W.heap.size, L * 2, none⟩ = some (.int .i64 (-77)) := by rw [HR5.out.cell, HG1.out.1]
    have c2 : w5.cell? ⟨W.heap.size, L * 2 + 1, none⟩ = some (.int .i64 0) := by rw [HR5.out.cell, HG1.out.2]
    have hsrc5 : StSrc w5 (fun k => k = W.heap.size) (.slice (some ⟨W.heap.size, 0, none⟩) L L1) ss := by have h := HR5.out.steps L1 (by rw [HL.out]; omega); rw [HL.out] at h; exact h
    have HSM := same_any _ _ _ _ ss ss w5 hsrc5 (SrcC.kept stC_ok HS.out HK5.out (fun _ _ _ f => f)) (by rw [HL.out]; omega) (by rw [HL.out]; omega)
    have hd : decide (ss = ss) = true := by simp
    rw [hd] at HSM
    clear hd hk5 hn5 hsrc5 HUN
    go_wp2_with fail
    refine HSM.mono ?_
    rintro e w6 ⟨rfl, hk6⟩
    have HK6 : Hid (Same W w6) := hid (Same.trans HK5.out hk6)
    have HV6 : Hid (NRow w4.heap.size w6 v5 l) := hid (HV5.out.same hk6)
    have HRU := unpack_any w6 _ _ ss nz (SrcC.kept stC_ok HS.out HK6.out (fun _ _ _ f => f)) (by rw [HL.out]; omega)
    rw [HUE.out] at HRU
    clear hk6 HSM c1 c2 HV5
    go_wp2_with fail
    refine HRU.mono ?_
    rintro e w7 ⟨v7, rfl, hn7⟩
    have HK7 : Hid (Same W w7) := hid (Same.trans HK6.out hn7.same)
    have HV7 : Hid (NRow w4.heap.size w7 v5 l) := hid (HV6.out.same hn7.same)
    have HX7 : Hid (NRow w6.heap.size w7 v7 l) := hn7.row
    have HAW := lawake_any w7 (HT.out.kept HK7.out (fun f => f))
    clear hn7 HRU HV6
    go_wp2_with fail
    refine HAW.mono ?_
    rintro e w8 ⟨rfl, hk8⟩
    have HK8 : Hid (Same W w8) := hid (Same.trans HK7.out hk8)
    have HI1 := ints_same w8 v5 v7 _ _ l (SrcE.ofRow (HV7.out.same hk8)) (SrcE.ofRow (HX7.out.same hk8)) HLL.out
    clear hk8 HAW
    go_wp2_with fail
    refine HI1.mono ?_
    rintro e w9 ⟨rfl, hk9⟩
    have HK9 : Hid (Same W w9) := hid (Same.trans HK8.out hk9)
    clear hk9 HI1
    go_wp2_with fail
    go_ret
    exact ⟨rfl, HK9.out⟩

set_option maxRecDepth 100000 in
set_option maxHeartbeats 4000000 in
theorem lensUnpacks_all (a : Option Addr) (len cap : Nat) (ss : List (Int × Int)) (nz : Int) (W : World) (hs : StSrc W (fun k => k < W.heap.size) (.slice a len cap) ss) (hl : ss.length = len) (hT : Tab W) :
    Calls Tryd.prog 4 #[.slice a len cap, .int .i64 nz] W fun e w' => e = .returned (.bool true) ∧ Below W.heap.size W w' := by
  suffices H : Calls Tryd.prog 4 #[.slice a len cap, .int .i64 nz] W fun e w' => e = .returned (.bool true) ∧ Same W w' from H.mono (fun e w' h => ⟨h.1, h.2.bel⟩)
  have HAW := lawake_any W hT
  by_cases hlong : 1048576 < len
  · have b1 : decide ((1048576 : Int) < (len : Int)) = true := by simp; omega
    clear hlong hl hs
    go_enter Tryd.func4, Tryd.ntmps4
    go_wp2_with fail
    refine HAW.mono ?_
    rintro e w5 ⟨rfl, hk5⟩
    have HK5 : Hid (Same W w5) := hk5
    clear hk5 HAW
    go_wp2_with fail
    go_ret
    exact ⟨rfl, HK5.out⟩
  · exact unpacks_good W a len cap ss nz hs hl (by omega) hT

end Go.Proofs.YtofhlnpbflkdlaaDoor

/-
  A slice of steps that came in.
-/
namespace Go.Proofs.YtofhlnpbflkdlaaDoor
open Go.ChangeShapes Go.WideShapes Go.ChangeAt Go.RowKit Go.Deep

theorem Tryd.cellsStep : Tryd.prog.cellsOf 31 = 2 := by kernel_rfl
theorem Tryd.cellsInt2 : Tryd.prog.cellsOf 3 = 1 := by kernel_rfl

/-- Two cells behind an address. -/
theorem two_cells {w : World} {base : Nat} {x : Addr} {cs : List Value} (h : w.cells? base x 2 = some cs) : ∃ u0 u1, cs = [u0, u1] ∧ w.cell? (x.add 0) = some u0 ∧ w.cell? (x.add 1) = some u1 := by
  obtain ⟨_, hl, hc⟩ := World.cells?_some h
  match cs, hl with
  | [u0, u1], _ => exact ⟨u0, u1, rfl, by simpa using hc 0 (by omega), by simpa using hc 1 (by omega)⟩

theorem add_zero2 (x : Addr) : x.add 0 = x := by unfold Addr.add; simp

theorem steps_of {H : Type} {enc : TypeId × Value → H} {W : World} {a : Option Addr} {len cap fuel : Nat} {x : DataW H × List MemPlace} (h : DataW.trod enc Tryd.prog W 0 (fun _ => true) true fuel 25 [.slice a len cap] = some x) :
    ∃ ss : List (Int × Int), StSrc W (fun k => k < W.heap.size) (.slice a len cap) ss ∧ ss.length = len := by
  rcases open_slice Tryd.underlying25 h with ⟨hcs, _⟩ | ⟨x0, l, c, m, n, D, Pl, hcs, _, hl, _, hm, _, hx⟩
  · simp only [List.cons.injEq, Value.slice.injEq, and_true] at hcs
    obtain ⟨rfl, rfl, rfl⟩ := hcs
    exact ⟨[], ⟨none, 0, rfl, Nat.le_refl _, fun h => absurd rfl h⟩, rfl⟩
  · simp only [List.cons.injEq, Value.slice.injEq, and_true] at hcs
    obtain ⟨rfl, rfl, rfl⟩ := hcs
    simp only [if_true] at hm
    subst hm
    rw [Tryd.cellsStep] at hx
    have hone : ∀ j, j < len → ∃ kv : Int × Int, ∃ b o, x0 = ⟨b, o, none⟩ ∧ W.cell? ⟨b, o + j * 2, none⟩ = some (.int .i64 kv.1) ∧ W.cell? ⟨b, o + j * 2 + 1, none⟩ = some (.int .i64 kv.2) := by
      intro j hj
      obtain ⟨cs0, hc0, _⟩ := hx 0 (by omega)
      obtain ⟨u0, _, _, hu0, _⟩ := two_cells hc0
      rw [Nat.zero_mul, add_zero2] at hu0
      obtain ⟨b, o, rfl⟩ : ∃ b o, x0 = ⟨b, o, none⟩ := ⟨x0.block, x0.off, spot_none hu0⟩
      obtain ⟨cs, hc, ht⟩ := hx j (by omega)
      obtain ⟨k0, k1, rfl, h0, h1⟩ := two_cells hc
      obtain ⟨y0, y1, n', _, _, t0, t1⟩ := trod_struct2 Tryd.underlying31 ht
      simp only [Tryd.cellsInt2, List.drop_zero, List.drop_succ_cons, List.take_succ_cons, List.take_zero] at t0 t1
      obtain ⟨q0, e0, _, _⟩ := DataW.trod_int Tryd.underlying3 t0
      obtain ⟨q1, e1, _, _⟩ := DataW.trod_int Tryd.underlying3 t1
      simp only [List.cons.injEq, and_true] at e0 e1
      subst e0 e1
      refine ⟨(q0, q1), b, o, rfl, ?_, ?_⟩
      · rw [add_zero2, addAt] at h0; exact h0
      · rw [addAt, addAt] at h1; exact h1
    obtain ⟨f, hf⟩ := choose_lt hone
    refine ⟨(List.range len).map f, ⟨some x0, _, by rw [List.length_map, List.length_range], by simpa using hl, fun hne => ?_⟩, by simp⟩
    have hlen : 0 < len := by
      rcases Nat.eq_zero_or_pos len with e | e
      · subst e; simp at hne
      · exact e
    obtain ⟨b, o, rfl, c0, _⟩ := hf 0 hlen
    refine ⟨b, o, rfl, World.block_lt_of_cell? W _ c0, fun j hj i hi => ?_⟩
    simp only [List.length_map, List.length_range] at hj
    obtain ⟨b', o', e, c1, c2⟩ := hf j hj
    simp only [Addr.mk.injEq, and_true] at e
    obtain ⟨rfl, rfl⟩ := e
    simp only [List.getElem_map, List.getElem_range]
    match i, hi with
    | 0, _ => rw [Nat.add_zero, c1]; rfl
    | 1, _ => rw [← Nat.add_assoc, c2]; rfl

end Go.Proofs.YtofhlnpbflkdlaaDoor

/-
  The table of the steps' order, as the rows list it; a world that holds it.
-/
namespace Go.Proofs.YtofhlnpbflkdlaaDoor
open Go.RowKit

theorem Tryd.gOrd : Tryd.prog.globalNamed "haversack/lens.order" = some 0 := by kernel_rfl
theorem Tryd.gOrdType : (Tryd.prog.globals[0]?).map (·.type) = some 72 := by kernel_rfl
theorem Tryd.cellsOrd : Tryd.prog.cellsOf 72 = 19 := by kernel_rfl
theorem Tryd.cellsOne : Tryd.prog.cellsOf 3 = 1 := by kernel_rfl

def ordI : List Int := [16, 17, 18, 0, 8, 7, 9, 6, 10, 5, 11, 4, 12, 3, 13, 2, 14, 1, 15]

theorem ord_same : ∀ i, i < 19 → ordI.getD i 0 = ((ord.getD i 0 : Nat) : Int) := by decide

/-- What a row's list gives. -/
theorem tab_of {W : World} (h : laidMetH Tryd.prog [("haversack/lens.order", Rows.laid_haversack_lens_order)] W) : Tab W := by
  have ht : Lib.TabIs Tryd.prog W "haversack/lens.order" .i64 ordI := Lib.tabIs_of_head (rest := []) Tryd.gOrd Tryd.gOrdType Tryd.underlying72 Tryd.underlying3 Tryd.cellsOne Tryd.cellsOrd h
  intro i hi
  have hc := ht.cell Tryd.gOrd i (by simpa [ordI] using hi)
  rw [hc]
  congr 2
  exact ord_same i hi

/-- A world for the witness: the settled one, the table holding what its initialiser lays. -/
noncomputable def laidWorld (os : Os) : World :=
  { World.holding Tryd.prog os ⟨#[], #[], []⟩ with heap := (World.holding Tryd.prog os ⟨#[], #[], []⟩).heap.modify 0 fun
      | .cells _ t frozen => .cells (ordI.map fun z => Value.int .i64 z).toArray t frozen
      | o => o }

end Go.Proofs.YtofhlnpbflkdlaaDoor

/-
  Proved: for every list of steps and every int the law LensUnpacks answers true: steps say just their lengths, or are refused; the arguments read afterwards as before. The card: the table of the steps' order as the program's text lays it.
-/
namespace Go.Proofs.YtofhlnpbflkdlaaDoor
open Go.ChangeShapes Go.WideShapes Go.ChangeAt Go.RowKit
open Go.ChangeMaps (open_string shut_string)

theorem lensUnpacks_own : ownKnob Tryd.prog.godebug = none := by kernel_rfl
theorem lensUnpacks_laidOut : laidOutB Tryd.prog = true := by kernel_rfl

set_option maxRecDepth 100000 in
theorem lensUnpacks_contract (H : Type) (enc : TypeId × Value → H) (W : World) (base : Nat) (args : Array Value) (ds gs : List (DataW H)) (before : List MemPlace)
    (hval0 : ∀ (j : Nat) t v, Tryd.f4.params[j]? = some t → args[j]? = some v → Value.okWide Tryd.prog W .any base t v)
    (hW : DataW.Whole enc Tryd.prog Tryd.f4.params.toList Rows.lensUnpacksSpec.vars false W args.toList ds gs before) (hL : laidMetH Tryd.prog Rows.lensUnpacksRow.laid W) :
    Calls Tryd.prog 4 args W fun e W' => ∃ v, e = .returned v ∧ Rows.lensUnpacksSpec.post enc Tryd.prog Tryd.f4 false true false false W args v W' := by
  have hval : ∀ (j : Nat) t v, Tryd.f4.params[j]? = some t → args[j]? = some v → Value.okWide Tryd.prog W .any base t v := hval0
  have hW' := hW
  obtain ⟨p, q, hA0, hV, rfl, hfz, hnd⟩ := hW
  have hA : DataW.TrodAll enc Tryd.prog W 0 (fun _ => true) true Tryd.f4.params.toList args.toList ds p := hA0
  rw [Tryd.params4] at hA hval
  obtain ⟨v0, vs0, d0, ds0, p0, q0, hargs, rfl, rfl, h0, r0⟩ := trodAll_cons hA
  obtain ⟨v1, vs1, d1, ds1, p1, q1, rfl, rfl, rfl, h1, r1⟩ := trodAll_cons r0
  obtain ⟨rfl, rfl, rfl⟩ := trodAll_nil r1
  obtain rfl : args = #[v0, v1] := by cases args; simp_all
  obtain ⟨rfl, rfl⟩ := trodVars_none hV
  obtain ⟨a0, len0, cap0, rfl⟩ := okWide_slice Tryd.underlying25 (hval 0 25 v0 rfl rfl)
  have k0 := h0
  have lt0 : ∀ x ∈ p0, x.block < W.heap.size := by obtain ⟨m, hm⟩ := k0; exact DataW.trod_lt m _ _ _ hm
  obtain ⟨ss, hss, hsl⟩ : ∃ ss : List (Int × Int), StSrc W (fun k => k < W.heap.size) (.slice a0 len0 cap0) ss ∧ ss.length = len0 := by
    obtain ⟨fuel, hf⟩ := h0
    exact steps_of (by simpa [Value.cells] using hf)
  obtain ⟨a1, rfl, rfl, rfl, w1⟩ := open_int Tryd.underlying3 (hval 1 3 v1 rfl rfl) h1
  clear hA0 hval0
  refine (lensUnpacks_all a0 len0 cap0 ss a1 W hss hsl (tab_of hL)).mono fun e W' ⟨he, bel⟩ => ?_
  subst he
  exact ⟨_, rfl, _, _, _, [], _, [], hW', trodAll_mk1 (shut_bool Tryd.underlying4 _), (trodAll_cons_mk (Below.trod lensUnpacks_laidOut (by kernel_rfl) (of_decide_eq_true (by kernel_rfl)) k0 bel lt0) (trodAll_cons_mk (shut_int Tryd.underlying3 w1) trodAll_mk0)), rfl, bel.frame _, fun h => by cases h⟩

theorem lensUnpacks_laid_met (os : Os) : laidMet Tryd.prog Rows.lensUnpacksRow.laid ((laidWorld os).forCall (fun _ _ => 0) ⟨#[], #[.slice none 0 0, .int .i64 0], []⟩).memory :=
  laidMet_of_run' 8 (by kernel_rfl) (by kernel_rfl)
theorem lensUnpacks_reads (os : Os) {H : Type} (enc : TypeId × Value → H) : ∃ places, DataW.whole enc Tryd.prog ((laidWorld os).forCall (fun _ _ => 0) ⟨#[], #[.slice none 0 0, .int .i64 0], []⟩).memory Tryd.f4.params.toList Rows.lensUnpacksSpec.vars false (#[.slice none 0 0, .int .i64 0] : Array Value).toList 8 = some ([.nil, .lit (.int .i64 0)], [], places) :=
  ⟨[], by kernel_rfl⟩

set_option maxRecDepth 100000 in
theorem lensUnpacks_lifted (os : Os) (started : os.Started) (H : Type) (enc : TypeId × Value → H) (F : Stop.Interp) :
    ReturnsInHanded {} Tryd.checked os 4 .any ((OpenSpec.ofChange Rows.lensUnpacksSpec).preRow enc Tryd.prog Tryd.f4 Rows.lensUnpacksRow.domain false Rows.lensUnpacksRow.laid) (((OpenSpec.ofChange Rows.lensUnpacksSpec).at F).post enc Tryd.prog Tryd.f4 false true false false) := by
  obtain ⟨places, hx⟩ := lensUnpacks_reads os enc
  refine returnsInHanded_of_row (C := Tryd.checked) (s := OpenSpec.ofChange Rows.lensUnpacksSpec) lensUnpacks_own started (by kernel_rfl) Tryd.func4
    (witness_row_at (enc := enc) (C := Tryd.checked) false (laidWorld os) #[.slice none 0 0, .int .i64 0] rfl (by kernel_rfl) (by kernel_rfl) (by kernel_rfl)
      (OpenSpec.preRow_of_cond 8 hx (by kernel_rfl) (fun k hk => by cases hk) (by kernel_rfl) (lensUnpacks_laid_met os))) ?_
  intro W base args ds gs before hval hW _ _ _ hL _ _
  exact lensUnpacks_contract H enc W base args ds gs before hval hW hL

theorem lensUnpacks_said : Rows.LensUnpacksSaid :=
  OpenClaim.holds_of_cond 4 Tryd.f4 rfl rfl rfl rfl rfl rfl rfl ⟨rfl, rfl, rfl, rfl, rfl⟩ rfl rfl rfl rfl rfl (by kernel_rfl) Tryd.func4 (by kernel_rfl)
    (of_decide_eq_true (by kernel_rfl)) (by unfold Func.isWrapper; first | (rw [if_pos (by decide +kernel)]; kernel_rfl) | (rw [if_neg (by decide +kernel)]; exact ⟨rfl, rfl⟩))
    (fun os started H enc _ F => by rw [OpenClaim.pre_eq_preRow]; exact lensUnpacks_lifted os started H enc F)

/-- No parameter wants a stand-in; the program's own looks are off: what the card asks. -/
theorem lensUnpacks_plain (f : FuncId) (fn : Func) (hf : Tryd.pinned.checked.prog.funcNamed "haversack/haversacklaw04.LensUnpacks" = some f) (hfn : Tryd.pinned.checked.prog.funcs[f]? = some fn) :
    false = Tryd.pinned.checked.prog.looks [] ∧ ∀ (j : Nat) t, fn.params[j]? = some t → Tryd.pinned.checked.prog.wantsStandIn t = false := by
  obtain rfl : f = 4 := Option.some.inj ((show Tryd.prog.funcNamed "haversack/haversacklaw04.LensUnpacks" = some 4 by kernel_rfl).symm.trans hf) |>.symm
  obtain rfl : fn = Tryd.f4 := (Option.some.inj (Tryd.func4.symm.trans hfn)).symm
  refine ⟨by kernel_rfl, fun j t ht => ?_⟩
  rw [Tryd.params4] at ht
  have hm : t = 25 ∨ t = 3 := by simpa using Array.mem_of_getElem? ht
  rcases hm with rfl | rfl
  · exact (show Tryd.prog.wantsStandIn 25 = false by kernel_rfl)
  · exact (show Tryd.prog.wantsStandIn 3 = false by kernel_rfl)

theorem lensUnpacks_holds : Rows.LensUnpacksCardSaid :=
  Claim7.holds_tied_plain_at .later [] _ _ _ _ lensUnpacks_said (fun _ h => by cases h) (by kernel_rfl) (fun _ h => by cases h) lensUnpacks_row_tie rfl ⟨rfl, rfl⟩ (by kernel_rfl) rfl lensUnpacks_plain (by kernel_rfl)

#print axioms lensUnpacks_holds
end Go.Proofs.YtofhlnpbflkdlaaDoor
