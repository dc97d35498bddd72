/-
  FrameTells' walk.
-/
import Derived.Test.YtjjhjbmmhkcapaaFmRnd
namespace Go.Proofs.Ytjjhjbmmhkcapaa
open Go.RowKit

theorem at_neg (z : Int) (n A : Nat) (hA : -(z + 1) = (A : Nat)) (hn : n ≤ 20000) : wrap64 (4 + -(z + 1).tmod ((n : Int) + 9 - 4)) = ((4 + A % (n + 5) : Nat) : Int) := by
  have e : -(z + 1).tmod ((n : Int) + 9 - 4) = ((A % (n + 5) : Nat) : Int) := by
    rw [← Int.neg_tmod, hA, show (n : Int) + 9 - 4 = ((n + 5 : Nat) : Int) by omega, Int.tmod_eq_emod_of_nonneg (by omega)]
    rfl
  rw [e]
  have := Nat.mod_lt A (show n + 5 > 0 by omega)
  unfold wrap64
  omega

theorem at_pos (z : Int) (n A : Nat) (hA : z = (A : Nat)) (hn : n ≤ 20000) : wrap64 (4 + z % ((n : Int) + 9 - 4)) = ((4 + A % (n + 5) : Nat) : Int) := by
  have e : z % ((n : Int) + 9 - 4) = ((A % (n + 5) : Nat) : Int) := by
    rw [hA, show (n : Int) + 9 - 4 = ((n + 5 : Nat) : Int) by omega]
    rfl
  rw [e]
  have := Nat.mod_lt A (show n + 5 > 0 by omega)
  unfold wrap64
  omega

set_option maxRecDepth 100000 in
set_option maxHeartbeats 4000000 in
theorem frameTells_all (f g : Fm) (z v : Int) (W : World) (_wf : (Lit.int .i64 f.k).wf = true ∧ f.s.size ≤ maxLen) (_wg : (Lit.int .i64 g.k).wf = true ∧ g.s.size ≤ maxLen) (wz : (Lit.int .i64 z).wf = true) (wv : (Lit.int .u8 v).wf = true) :
    Calls Try.prog 7 #[.agg #[.int .i64 f.k, .string f.s], .agg #[.int .i64 g.k, .string g.s], .int .i64 z, .int .u8 v] W fun e W' => e = .returned (.bool true) ∧ Below W.heap.size W W' := by
  obtain ⟨W1, hW1⟩ : ∃ W1, W1 = (W.alloc (.cells #[.int .i64 f.k, .string f.s] 23)).alloc (.cells #[.int .i64 g.k, .string g.s] 23) := ⟨_, rfl⟩
  obtain ⟨xb, hxb⟩ : ∃ b, b = W.heap.size := ⟨_, rfl⟩
  obtain ⟨yb, hyb⟩ : ∃ b, b = W.heap.size + 1 := ⟨_, rfl⟩
  have HK1 : Hid (Same W W1) := hid (by rw [hW1]; exact ((Kept.refl _ W).alloc _).alloc _)
  have HB : Hid (Blk W1 xb #[.int .i64 f.k, .string f.s] 23) := hid (by rw [hW1, hxb]; exact (Blk.new W _ _).kept (show Same _ (World.alloc _ _) from (Kept.refl _ _).alloc _) (fun f => f))
  have HC : Hid (Blk W1 yb #[.int .i64 g.k, .string g.s] 23) := hid (by rw [hW1, hyb]; have h9 := Blk.new (W.alloc (.cells #[.int .i64 f.k, .string f.s] 23)) #[.int .i64 g.k, .string g.s] 23; rw [World.size_alloc] at h9; exact h9)
  have hzb := bounds_i64 wz
  have hvb := bounds_u8 wv
  obtain ⟨z0, z1, _, _⟩ := HB.out.two
  obtain ⟨y0, y1, _, _⟩ := HC.out.two
  by_cases hout : 1048576 < f.s.size ∨ 1048576 < g.s.size ∨ v = 0
  · go_enter Try.func7, Try.ntmps7
    go_upto_region 1 with fail
    rw [← hW1, ← hyb, ← hxb]
    clear hW1 hxb hyb
    have HLAST := awake18 W1
    have HCL : Hid (∀ w1, Same W1 w1 → Below W.heap.size W w1) := hid (fun w1 hk => (Same.trans HK1.out hk).below (Nat.le_refl _) (fun _ _ f => f))
    by_cases h1 : 1048576 < f.s.size
    · clear hout
      go_wp2_with fail
      refine HLAST.mono ?_
      rintro x w1 ⟨rfl, hk⟩
      go_wp2_with fail
      go_ret
      exact ⟨rfl, HCL.out _ hk⟩
    by_cases h2 : 1048576 < g.s.size
    · clear hout
      go_wp2_with fail
      refine HLAST.mono ?_
      rintro x w1 ⟨rfl, hk⟩
      go_wp2_with fail
      go_ret
      exact ⟨rfl, HCL.out _ hk⟩
    · have hv0 : v = 0 := by omega
      subst hv0
      clear hout
      go_wp2_with fail
      refine HLAST.mono ?_
      rintro x w1 ⟨rfl, hk⟩
      go_wp2_with fail
      go_ret
      exact ⟨rfl, HCL.out _ hk⟩
  · have hf1 : ¬ 1048576 < f.s.size := by omega
    have hg1 : ¬ 1048576 < g.s.size := by omega
    have hv0 : ¬ v = 0 := by omega
    have hv1 : (v == 0) = false := beq_eq_false_iff_ne.2 hv0
    have HLAST : Hid (∀ w1, Same W w1 → Calls Try.prog 9 #[] w1 fun x w' => x = .returned (.bool true) ∧ Below W.heap.size W w' ∧ Same w1 w') := hid (fun w1 hk => (awake18 w1).mono (fun _ _ ⟨h1, h2⟩ => ⟨h1, (Same.trans hk h2).below (Nat.le_refl _) (fun _ _ f => f), h2⟩))
    obtain ⟨ef, hef⟩ : ∃ e, e = errE f := ⟨_, rfl⟩
    obtain ⟨eg, heg⟩ : ∃ e, e = errE g := ⟨_, rfl⟩
    have HEF := hid hef
    have HEG := hid heg
    clear hout hef heg
    go_enter Try.func7, Try.ntmps7
    go_upto_region 1 with fail
    rw [← hW1, ← hyb, ← hxb]
    clear hW1 hxb hyb
    go_wp2_with fail
    refine (fenc_any W1 f).mono ?_
    rintro x w2 ⟨v1, rfl, hf2, hn2⟩
    rw [← HEF.out]
    have HF2 := hid hf2
    obtain ⟨y0, y1, _, _⟩ := (HC.out.kept hf2.kept (fun f => f)).two
    clear hf2 hn2 z0 z1
    go_wp2_with fail
    refine (fenc_any w2 g).mono ?_
    rintro x w3 ⟨v2, rfl, hf3, hn3⟩
    rw [← HEG.out]
    have HF3 := hid hf3
    have HK3 : Hid (Same W w3) := hid (Same.trans HK1.out (Same.trans HF2.out.kept hf3.kept))
    by_cases h1 : ef = 0
    · by_cases h2 : eg = 0
      · subst h1 h2
        have hmf := errE_may.1 HEF.out.symm
        have hmg := errE_may.1 HEG.out.symm
        obtain ⟨a2, c2, hv2, hne2⟩ := hf3.row.shape
        have hen : encB g = frmB g := by unfold encB; rw [if_pos HEG.out.symm]
        have hef2 : encB f = frmB f := by unfold encB; rw [if_pos HEF.out.symm]
        rw [hen, frmB_len] at hv2
        obtain ⟨g2, hg2⟩ := hne2 (by rw [hen]; intro e; have h9 := frmB_len g; rw [e] at h9; simp at h9)
        subst hg2
        obtain ⟨n, hn⟩ : ∃ n, n = g.s.size := ⟨_, rfl⟩
        rw [← hn] at hv2
        subst hv2
        have HMF := hid hmf
        have HMG := hid hmg
        have HN := hid hn
        have hnn : n ≤ 20000 := by rw [hn]; exact hmg.2.2
        obtain ⟨A, hA, hAz⟩ : ∃ A : Nat, A ≤ 9223372036854775807 ∧ (if z < 0 then -(z + 1) else z) = (A : Nat) := by
          by_cases hz : z < 0
          · refine ⟨(-(z + 1)).toNat, by omega, ?_⟩
            rw [if_pos hz]; omega
          · refine ⟨z.toNat, by omega, ?_⟩
            rw [if_neg hz]; omega
        have HR3 : Hid (Row w3 (.slice (some ⟨g2, 0, none⟩) (n + 9) c2) (frmB g)) := hid (by rw [← hen]; exact hf3.row)
        have HR1 : Hid (Row w3 v1 (frmB f)) := hid (by rw [← hef2]; exact HF2.out.row.kept hf3.kept (fun _ _ f => f))
        obtain ⟨p, hp⟩ : ∃ p, p = 4 + A % (n + 5) := ⟨_, rfl⟩
        have HG2 : Hid (w2.heap.size ≤ g2) := hid (hf3.new g2 rfl)
        have hpl : p < n + 9 := by have := Nat.mod_lt A (show n + 5 > 0 by omega); omega
        have hlen : (frmB g).length = n + 9 := by rw [frmB_len, hn]
        obtain ⟨y, hy⟩ : ∃ y, (frmB g)[p]? = some y := ⟨_, List.getElem?_eq_getElem (by omega)⟩
        have hyl : y < 256 := frmB_lt hmg _ (List.mem_of_getElem? hy)
        have cy : w3.cell? ⟨g2, p, none⟩ = some (.int .u8 (y : Nat)) := by
          have h9 := Row.cell' HR3.out p (by omega)
          rw [List.getElem?_eq_getElem (by omega)] at hy
          injection hy with hy
          rw [hy] at h9
          exact h9
        have fy : w3.frozen? ⟨g2, p, none⟩ = false := Row.frozen' HR3.out p
        obtain ⟨vn, rfl⟩ : ∃ vn : Nat, v = (vn : Nat) := ⟨v.toNat, by omega⟩
        have hxo : bits .xor .u8 (y : Int) (vn : Int) = ((y ^^^ vn : Nat) : Int) := u8_xor_nat y vn hyl (by omega)
        have HY := hid hy
        have HP := hid (show 4 ≤ p by omega)
        clear hf3 hn3 hne2 hen hef2 hn hy y0 y1
        obtain ⟨B, hB⟩ : ∃ B, B = (frmB g).set p (y ^^^ vn) := ⟨_, rfl⟩
        have hnx : nx B = .stop 181 ∨ (nx B = .stop 182 ∧ p = 4) := by
          have h9 := nx_tells hmg p vn (by omega) (by omega) (by omega) (by omega)
          have e : (frmB g)[p]'(by omega) = y := by
            have h8 := HY.out
            rw [List.getElem?_eq_getElem (by omega)] at h8
            injection h8
          rw [e] at h9
          rw [hB]
          exact h9
        obtain ⟨W4, hW4⟩ : ∃ W, W = w3.setCell ⟨g2, p, none⟩ (.int .u8 ((y ^^^ vn : Nat) : Int)) := ⟨_, rfl⟩
        have HR4 : Hid (Row W4 (.slice (some ⟨g2, 0, none⟩) (n + 9) c2) B) := hid (by rw [hW4, hB]; exact Row.lay HR3.out p (y ^^^ vn))
        have HK4 : Hid (Kept (· = g2) w3 W4) := hid (by rw [hW4]; exact (Kept.refl _ _).setCell _ _ (.inl rfl))
        have HR14 : Hid (Row W4 v1 (frmB f)) := hid (HR1.out.kept HK4.out (fun k e e2 => by
          have h1 := HF2.out.row.lt e
          have h2 := HG2.out
          omega))
        have HKW : Hid (Same W W4) := hid (HK3.out.then HK4.out (fun k hk e => by
          have h1 := HG2.out
          have h2 := HK1.out.size
          have h3 := HF2.out.kept.size
          omega))
        have hxlt := HB.out.lt
        have HBX : Hid (Blk W4 xb #[.int .i64 f.k, .string f.s] 23) := hid (((HB.out.kept HF2.out.kept (fun f => f)).kept HF3.out.kept (fun f => f)).kept HK4.out (fun e => by
          have h1 := HG2.out
          have h3 := HF2.out.kept.size
          omega))
        have HB256 : Hid (∀ b ∈ frmB f ++ B, b < 256) := hid (by
          intro b hb
          rcases List.mem_append.1 hb with hb | hb
          · exact frmB_lt hmf b hb
          · rw [hB] at hb
            rcases List.mem_or_eq_of_mem_set hb with hb | rfl
            · exact frmB_lt hmg b hb
            · exact Nat.xor_lt_two_pow (n := 8) hyl (by omega))
        have HBL : Hid (B.length = n + 9) := hid (by rw [hB, List.length_set, hlen])
        have HNX := hid hnx
        clear hnx hB hxlt
        rcases Int.lt_or_le z 0 with hz | hz
        case' inl =>
          rw [if_pos hz] at hAz
          have hat := at_neg z n A hAz hnn
          rw [← hp] at hat
          have HAT := hid hat
          clear hat hAz hp
          go_upto_region 10 with fail
          rw [HAT.out]
        case' inr =>
          rw [if_neg (by omega)] at hAz
          have hat := at_pos z n A hAz hnn
          rw [← hp] at hat
          have HAT := hid hat
          clear hat hAz hp
          go_upto_region 10 with fail
          rw [HAT.out]
        all_goals clear HAT
        all_goals go_wp2_with fail
        all_goals rw [← hW4]
        all_goals clear hW4 cy fy hxo
        all_goals refine (dnew18 W4).mono ?_
        all_goals
          rintro x w5 ⟨d, rfl, hd, hk5, hd5⟩
          have HD5 := hid hd
          have HK5 := hid hk5
          have HDD : Hid (W4.heap.size ≤ d) := hid hd5
          have HR5 := hid (HR4.out.kept hk5 (fun _ _ f => f))
          have HR15 := hid (HR14.out.kept hk5 (fun _ _ f => f))
          clear hd hk5 hd5
        all_goals go_wp2_with (at_builtin; refine wpList_append_any _ rfl (.tmp 86) (.tmp 87) rfl v1 (frmB f) rfl HR15.out _ (.slice (some ⟨g2, 0, none⟩) (n + 9) c2) B rfl (fun n c e => by cases e) (Src.ofRow HR5.out) (by rw [frmB_len, HBL.out]; have := HMF.out.2.2; omega) ?_)
        all_goals
          intro v6 w6 hr6 hg6 ho6
          have HR6 := hid hr6
          have HO6 : Hid (∀ k, v6.ownBlock = some k → k ≠ d) := hid (fun k e e2 => by
            have h1 := HDD.out
            have h2 := HD5.out.blk.lt
            rcases ho6 with h9 | h9
            · rw [h9] at e
              have h3 := HR14.out.lt e
              omega
            · rw [h9] at e
              injection e with e
              omega)
          have HK6 : Hid (Kept (fun k => v1.ownBlock = some k) w5 w6) := hid ((Kept.refl (fun k => v1.ownBlock = some k) w5).grown hg6 (fun k e => .inl e))
          have HD6 := hid (HD5.out.kept HK6.out (fun k hf e => by
            rcases hf with e2 | e2
            · have h1 := HDD.out
              have h3 := HR14.out.lt e
              omega
            · cases e2))
          clear hr6 hg6 ho6
        all_goals
          obtain ⟨e, he, hrd⟩ : ∃ e : Int, (e = 181 ∨ (e = 182 ∧ p = 4)) ∧ Rd (frmB f ++ B) [f] B e := by
            rcases HNX.out with h9 | ⟨h9, h8⟩
            · exact ⟨181, .inl rfl, .one (nx_frm HMF.out B) (.stop h9)⟩
            · exact ⟨182, .inr ⟨rfl, h8⟩, .one (nx_frm HMF.out B) (.stop h9)⟩
          have hFD := dfeed_any HD6.out (I := fun k => v6.ownBlock = some k) (bs := frmB f ++ B) (Src.ofRow HR6.out) (fun k hk hf => by
            rcases hf with e2 | e2
            · exact HO6.out k hk e2
            · cases e2) HB256.out HR6.out.nil18 (by rw [List.length_append, frmB_len, HBL.out]; have := HMF.out.2.2; omega) (fun _ => hrd) (fun h => absurd rfl h)
          have HEE := hid he
          clear he hrd
        all_goals go_wp2_with fail
        all_goals refine hFD.mono ?_
        all_goals
          rintro x w7 ⟨vo7, v7, rfl, ho7, _, hk7, _⟩
          have HO7 := hid ho7
          have HW7 : Hid (Same W w7) := hid (by
            have h5 : Same W w5 := Same.trans HKW.out HK5.out
            have h6 : Same W w6 := h5.then HK6.out (fun k hk e => by
              have h1 := HF2.out.new k e
              have h2 := HK1.out.size
              omega)
            exact h6.then hk7 (fun k hk hf => by
              rcases hf with e2 | e2
              · have h1 := HDD.out
                have h2 := HKW.out.size
                omega
              · cases e2))
          have HX7 : Hid (Blk w7 xb #[.int .i64 f.k, .string f.s] 23) := hid (((HBX.out.kept HK5.out (fun f => f)).kept HK6.out (fun e2 => by
            have h1 := HF2.out.new xb e2
            have h2 := HB.out.lt
            omega)).kept hk7 (fun hf => by
              rcases hf with e2 | e2
              · have h1 := HDD.out
                have h2 := HBX.out.lt
                omega
              · cases e2))
          clear ho7 hk7 hFD
        all_goals go_wp2_with fail
        all_goals refine (HLAST.out _ HW7.out).mono ?_
        all_goals
          rintro x w8 ⟨rfl, _, hk8⟩
          have HK8 := hid hk8
          have HX8 := hid (HX7.out.kept hk8 (fun f => f))
          obtain ⟨x0, x1, _, _⟩ := HX8.out.two
          have HSA : Hid (Calls Try.prog 21 #[vo7, .slice (some ⟨w8.heap.size, 0, none⟩) 1 1] (w8.alloc (.cells #[.int .i64 f.k, .string f.s] 23)) fun e w' => e = .returned (.bool true) ∧ Same (w8.alloc (.cells #[.int .i64 f.k, .string f.s] 23)) w') := hid
            (fsame_true _ _ _ _ _ [f] ((SrcC.ofRow fmE_ok HO7.out).same18 (Same.trans hk8 ((Kept.refl _ _).alloc _))) (src_fm w8 f) (by simp))
          clear hk8
        all_goals go_wp2_with fail
        all_goals refine HSA.out.mono ?_
        all_goals
          rintro x w9 ⟨rfl, hk9⟩
          have HW9 : Hid (Below W.heap.size W w9) := hid ((Same.trans HW7.out (Same.trans HK8.out (Same.trans ((Kept.refl _ _).alloc _) hk9))).below (Nat.le_refl _) (fun _ _ f => f))
          clear hk9
          rcases HEE.out with rfl | ⟨rfl, rfl⟩
        all_goals go_wp2_with fail
        all_goals go_ret
        all_goals exact ⟨rfl, HW9.out⟩
      · have hne : (eg != 0) = true := by simp [bne, h2]
        subst h1
        clear hf3 hn3 y0 y1
        go_wp2_with fail
        refine (HLAST.out _ HK3.out).mono ?_
        rintro x w4 ⟨rfl, hb, _⟩
        go_wp2_with fail
        go_ret
        exact ⟨rfl, hb⟩
    · have hne : (ef != 0) = true := by simp [bne, h1]
      clear hf3 hn3 y0 y1
      go_wp2_with fail
      refine (HLAST.out _ HK3.out).mono ?_
      rintro x w4 ⟨rfl, hb, _⟩
      go_wp2_with fail
      go_ret
      exact ⟨rfl, hb⟩

end Go.Proofs.Ytjjhjbmmhkcapaa
