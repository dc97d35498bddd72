/-
  Of the proof: parts CrE, CrG, CrHa, CrA2, CrI.
-/
import Derived.BigQuiet
import Derived.Deep.RegionHeld3
import Derived.Test.YthignkloecfcbaaJ23
import Derived.Test.YthignkloecfcbaaJ9
import Derived.Test.YthignkloecfcbaaJ22
import Derived.Test.YthignkloecfcbaaJ19

/-
  Layer 12, the reference: keys.
-/
namespace Go.Proofs.Ythignkloecfcbaa
open Go.RowKit Go.Maps Go.Sort

theorem wrap64_nat12 (k : Nat) (h : k ≤ 100000) : wrap64 (k : Int) = (k : Int) := by unfold wrap64; omega

/-- What keys tells. -/
def KysA (w : World) (L : List Lv) (T : Int) (e : Ending) (w' : World) : Prop := ∃ v ks, e = .returned v ∧ RowC w.heap.size 36 3 kyE w' v ks ∧ KyI L T L.length ks ∧ Same w w'

set_option maxRecDepth 100000 in
set_option maxHeartbeats 4000000 in
theorem rkeys_any {N : Nat} {w : World} {p : Nat} {L : List Lv} {now floor : Int} {v : Value} (h : Rc N w p L now floor v) (t : Int) (hr : ∀ b n, RisV (ofK L b n)) (hg : ∀ b n, ∀ x ∈ ofK L b n, x.there = false → x.data = ⟨#[]⟩) : Calls Try.prog 44 #[.pointer (some ⟨p, 0, none⟩), .int .i64 t] w fun e w' => KysA w L (max t floor) e w' := by
  obtain ⟨a, c, hv, hgs, _⟩ := h.row.shape
  obtain ⟨l, hl⟩ : ∃ n, n = L.length := ⟨_, rfl⟩
  rw [← hl] at hv
  subst hv
  obtain ⟨T, hT⟩ : ∃ T, T = max t floor := ⟨_, rfl⟩
  rw [← hT]
  have HR : Hid (∀ w', Same w w' → Rc N w' p L now floor (.slice a l c)) := hid (fun w' hk => h.same hk)
  have HG : Hid ((L ≠ [] → ∃ g, a = some ⟨g, 0, none⟩) ∧ l = L.length ∧ l ≤ 100000) := hid ⟨hgs, hl, by rw [hl]; exact h.len⟩
  have HGT : Hid (∀ w' b n, Same w w' → Calls Try.prog 27 #[.pointer (some ⟨p, 0, none⟩), .agg #[.string b.tn, .string b.ar, .string n.s], .int .i64 t] w' fun e w2 => ∃ d, e = .returned (.tuple #[.string d, .bool (isTh (ofK L b n) T)]) ∧ Same w' w2) := hid (fun w' b n hk => (rget_any (h.same hk) b n t (hr b n) (hg b n)).mono (fun e w2 h9 => ⟨_, by rw [hT]; exact h9.1, h9.2⟩))
  clear h hgs hl hr hg hT
  go_enter Try.func44, Try.ntmps44
  go_wp2_with fail
  go_loopg [5, 6] l (fun q z5 z6 wr => ∃ (i : Nat) (ko : Option Addr) (kl kc : Nat) (ks : List Ky), l - i ≤ q ∧ i ≤ l ∧ z5 = .slice ko kl kc ∧ z6 = .int .i64 (i : Nat) ∧ Hid (RowC w.heap.size 36 3 kyE wr (.slice ko kl kc) ks ∧ KyI L T i ks ∧ Same w wr))
  case atStart => exact ⟨0, none, 0, 0, [], by omega, by omega, rfl, rfl, hid ⟨RowC.nil, ⟨List.Pairwise.nil, fun k => ⟨fun e => (by cases e), fun e => (by obtain ⟨_, j, _, e2, _⟩ := e; omega)⟩, Nat.le_refl _⟩, Kept.refl _ _⟩⟩
  case round =>
    obtain ⟨i, ko, kl, kc, ks, hq, hil, rfl, rfl, HI⟩ := hrel
    have hst := HR.out wr HI.out.2.2
    have p0 : wr.cell? ⟨p, 0, none⟩ = some (.slice a l c) := hst.blk.cell 0
    by_cases hlt : i < l
    · have hli : decide (i < l) = true := decide_eq_true hlt
      have hli2 : (i : Int) < (l : Int) := by omega
      have hlt2 : i < L.length := by have := HG.out.2.1; omega
      obtain ⟨g, hg⟩ := HG.out.1 (fun e => by rw [e] at hlt2; simp at hlt2)
      subst hg
      obtain ⟨y, hy⟩ : ∃ y, y = L[i] := ⟨_, rfl⟩
      have hcw : ∀ q u, q < 6 → (lvE y)[q]? = some u → wr.cell? ⟨g, i * 6 + q, none⟩ = some u := fun q u hq e => by rw [RowC.cell lvE_ok hst.row i q hlt2 hq, ← hy, e]
      have k0 := hcw 0 (.string y.b.tn) (by decide) rfl
      have k1 := hcw 1 (.string y.b.ar) (by decide) rfl
      have k2 := hcw 2 (.string y.n.s) (by decide) rfl
      rw [Nat.add_zero] at k0
      obtain ⟨b, hb⟩ : ∃ b, b = y.b := ⟨_, rfl⟩
      obtain ⟨n, hn⟩ : ∃ n, n = y.n := ⟨_, rfl⟩
      rw [← hb] at k0 k1
      rw [← hn] at k2
      have HY : Hid (L[i].b = b ∧ L[i].n = n) := hid ⟨by rw [← hy, hb], by rw [← hy, hn]⟩
      have hiw : IntKind.i64.wrap ((i : Int) + 1) = ((i + 1 : Nat) : Int) := by have := HG.out.2.2; rw [IntKind.wrap_i64]; omega
      obtain ⟨kx, hkx⟩ : ∃ x, x = kl := ⟨_, rfl⟩
      have HKL : Hid (ks.length = kl ∧ (ks ≠ [] → ∃ g, ko = some ⟨g, 0, none⟩) ∧ kl ≤ 100000) := hid (by
        obtain ⟨a9, c9, h9, h8, _⟩ := HI.out.1.shape
        injection h9 with e1 e2 e3
        refine ⟨e2.symm, fun e => by rw [e1]; exact h8 e, ?_⟩
        have := HI.out.2.1.len
        have := HG.out.2.2
        omega)
      obtain ⟨wB, hwB⟩ : ∃ W, W = wr.alloc (.cells #[.string b.tn, .string b.ar, .string n.s] 36) := ⟨_, rfl⟩
      obtain ⟨yb, hyb⟩ : ∃ y, y = wr.heap.size := ⟨_, rfl⟩
      have hkB : Same wr wB := by rw [hwB]; exact (Kept.refl _ _).alloc _
      have BB : Blk wB yb #[.string b.tn, .string b.ar, .string n.s] 36 := by rw [hwB, hyb]; exact Blk.new wr _ _
      have HB : Hid (Same w wB ∧ Blk wB yb #[.string b.tn, .string b.ar, .string n.s] 36 ∧ RowC w.heap.size 36 3 kyE wB (.slice ko kl kc) ks ∧ (∀ j, (Value.slice ko kl kc).ownBlock = some j → j < yb) ∧ yb < wB.heap.size ∧ w.heap.size ≤ yb) := hid ⟨HI.out.2.2.trans hkB, BB, HI.out.1.kept hkB (fun _ _ f => f), fun j e => (by rw [hyb]; exact HI.out.1.lt e), (by rw [hwB, hyb]; simp), (by rw [hyb]; exact HI.out.2.2.size)⟩
      have HKI : Hid (KyI L T i ks) := hid HI.out.2.1
      obtain ⟨th, hth⟩ : ∃ q, q = isTh (ofK L b n) T := ⟨_, rfl⟩
      have HGB := HGT.out wB b n HB.out.1
      rw [← hth] at HGB
      have HTH : Hid (th = isTh (ofK L b n) T) := hth
      have b0 := BB.cell 0
      have b1 := BB.cell 1
      have b2 := BB.cell 2
      rw [hwB] at b0 b1 b2
      clear hcw hy hb hn hst HI hkB BB hth hkx
      go_wp2_with fail
      rw [← hwB, ← hyb]
      clear hwB b0 b1 b2 k0 k1 k2 p0
      refine HGB.mono ?_
      rintro e w1 ⟨d, rfl, hk1⟩
      have H1 : Hid (Same w w1 ∧ Blk w1 yb #[.string b.tn, .string b.ar, .string n.s] 36 ∧ RowC w.heap.size 36 3 kyE w1 (.slice ko kl kc) ks ∧ (∀ j, (Value.slice ko kl kc).ownBlock = some j → j < yb) ∧ yb < w1.heap.size ∧ w.heap.size ≤ yb) := hid ⟨HB.out.1.trans hk1, HB.out.2.1.kept hk1 (fun f => f), HB.out.2.2.1.kept hk1 (fun _ _ f => f), HB.out.2.2.2.1, Nat.lt_of_lt_of_le HB.out.2.2.2.2.1 hk1.size, HB.out.2.2.2.2.2⟩
      clear HGB HB hk1 hyb
      obtain ⟨gk0, hgk0⟩ : ∃ q, q = gk := ⟨_, rfl⟩
      rw [← hgk0] at hq
      go_wp2_with fail
      go_loopg [10, 11] kl (fun q z10 z11 wr => ∃ (m : Nat) (kn : Bool), kl - m ≤ q ∧ m ≤ kl ∧ z10 = .bool kn ∧ z11 = .int .i64 (m : Nat) ∧ Hid (kn = (!th || (ks.take m).any (fun x => decide (x = (b, n)))) ∧ Same w1 wr))
      case atStart => exact ⟨0, !th, by omega, by omega, rfl, rfl, hid ⟨by simp, Kept.refl _ _⟩⟩
      case round =>
        obtain ⟨m, kn, hqm, hml, rfl, rfl, HJ⟩ := hrel
        have hb9 := H1.out.2.1.kept HJ.out.2 (fun f => f)
        have b0 := hb9.cell 0
        have b1 := hb9.cell 1
        have b2 := hb9.cell 2
        by_cases hltm : m < kl
        · have hlm : decide (m < kl) = true := decide_eq_true hltm
          have hlm2 : (m : Int) < (kl : Int) := by omega
          have hlt3 : m < ks.length := by have := HKL.out.1; omega
          obtain ⟨kg, hkg⟩ := HKL.out.2.1 (fun e => by rw [e] at hlt3; simp at hlt3)
          subst hkg
          have hmw : IntKind.i64.wrap ((m : Int) + 1) = ((m + 1 : Nat) : Int) := by have := HKL.out.2.2; rw [IntKind.wrap_i64]; omega
          obtain ⟨z, hz⟩ : ∃ z, z = ks[m] := ⟨_, rfl⟩
          have hcw : ∀ q u, q < 3 → (kyE z)[q]? = some u → wr.cell? ⟨kg, m * 3 + q, none⟩ = some u := fun q u hq e => by rw [RowC.cell kyE_ok (H1.out.2.2.1.kept HJ.out.2 (fun _ _ f => f)) m q hlt3 hq, ← hz, e]
          have k0 := hcw 0 (.string z.1.tn) (by decide) rfl
          have k1 := hcw 1 (.string z.1.ar) (by decide) rfl
          have k2 := hcw 2 (.string z.2.s) (by decide) rfl
          rw [Nat.add_zero] at k0
          have HNX : Hid ((ks.take (m + 1)).any (fun x => decide (x = (b, n))) = ((ks.take m).any (fun x => decide (x = (b, n))) || decide (z = (b, n)))) := hid (by rw [List.take_succ_eq_append_getElem hlt3, List.any_append, ← hz]; simp)
          clear hcw hz hb9
          cases kn with
          | true =>
            have HN : Hid (true = (!th || (ks.take (m + 1)).any (fun x => decide (x = (b, n))))) := hid (by rw [HNX.out, ← Bool.or_assoc, ← HJ.out.1]; rfl)
            go_wp2_with fail
            go_quiet (fail)
            go_wp2_with fail
            go_roundg (gk - 1)
            case measure => omega
            case rel => exact ⟨m + 1, true, by omega, by omega, rfl, by go_num, hid ⟨HN.out, HJ.out.2.drewN _⟩⟩
          | false =>
            have s1 := streq12 z.1.tn b.tn
            have s2 := streq12 z.1.ar b.ar
            have s3 := streq12 z.2.s n.s
            obtain ⟨d1, e1⟩ : ∃ q, q = decide (z.1.tn = b.tn) := ⟨_, rfl⟩
            obtain ⟨d2, e2⟩ : ∃ q, q = decide (z.1.ar = b.ar) := ⟨_, rfl⟩
            obtain ⟨d3, e3⟩ : ∃ q, q = decide (z.2.s = n.s) := ⟨_, rfl⟩
            rw [← e1] at s1
            rw [← e2] at s2
            rw [← e3] at s3
            have HN : Hid ((d1 && d2 && d3) = (!th || (ks.take (m + 1)).any (fun x => decide (x = (b, n))))) := hid (by
              rw [HNX.out, ← Bool.or_assoc, ← HJ.out.1, Bool.false_or, e1, e2, e3, ← Bool.decide_and, ← Bool.decide_and]
              exact decide_eq_decide.2 ⟨fun e => Prod.ext (Bx.ext' e.1.1 e.1.2) (Nm.ext' e.2), fun e => by rw [e]; exact ⟨⟨rfl, rfl⟩, rfl⟩⟩)
            clear e1 e2 e3 HNX
            have hf := four12 d1 d2 d3
            rcases hf with (rfl | ⟨rfl, rfl⟩ | ⟨rfl, rfl, rfl⟩) | ⟨rfl, rfl, rfl⟩
            all_goals simp only [Bool.false_and, Bool.and_false, Bool.and_self] at HN
            all_goals go_wp2_with fail
            all_goals go_quiet (fail)
            all_goals go_wp2_with fail
            all_goals go_roundg (gk - 1)
            all_goals first
              | (case measure => omega)
              | skip
            all_goals exact ⟨m + 1, _, by omega, by omega, rfl, by go_num, hid ⟨HN.out, HJ.out.2.drewN _⟩⟩
        · have hlm : decide (m < kl) = false := decide_eq_false hltm
          have HJ2 : Hid (kn = (!th || ks.any (fun x => decide (x = (b, n))))) := hid (by
            have h9 := HJ.out.1
            rw [List.take_of_length_le (by have := HKL.out.1; omega)] at h9
            exact h9)
          have HW : Hid (Same w1 wr) := hid HJ.out.2
          clear HJ
          cases kn with
          | true =>
            have HN : Hid (KyI L T (i + 1) ks) := hid (HKI.out.skip hlt2 (by
              rw [HY.out.1, HY.out.2, ← HTH.out]
              have h9 := HJ2.out
              cases th with
              | false => exact .inl rfl
              | true =>
                right
                obtain ⟨x, hx, e⟩ := List.any_eq_true.1 h9.symm
                rw [of_decide_eq_true e] at hx
                exact hx))
            clear b0 b1 b2 hb9
            go_wp2_with fail
            go_roundg (gk0 - 1)
            case measure => omega
            case rel => exact ⟨i + 1, ko, kl, kc, ks, by omega, by omega, rfl, by go_num, hid ⟨H1.out.2.2.1.kept HW.out (fun _ _ f => f), HN.out, H1.out.1.trans HW.out⟩⟩
          | false =>
            have HN : Hid (isTh (ofK L L[i].b L[i].n) T = true ∧ (b, n) ∉ ks) := hid (by
              have h9 := HJ2.out
              rw [HY.out.1, HY.out.2, ← HTH.out]
              cases th with
              | false => cases h9
              | true =>
                refine ⟨rfl, fun e => ?_⟩
                have h8 : ks.any (fun x => decide (x = (b, n))) = true := List.any_eq_true.2 ⟨_, e, decide_eq_true rfl⟩
                rw [h8] at h9
                cases h9)
            clear hb9
            go_wp2_with (at_builtin; refine wpList_append_c _ kyE 3 kyE_ok (by decide) w.heap.size 95 36 (.agg #[.string ⟨#[]⟩, .string ⟨#[]⟩, .string ⟨#[]⟩]) 48 Try.underlying95 Try.infoKy rfl (by decide) rfl (.tmp 56) (.tmp 58) rfl (.slice ko kl kc) ks rfl ((H1.out.2.2.1.kept HW.out (fun _ _ f => f)).kept (show Same _ _ from (Kept.refl _ _).alloc _) (fun _ _ f => f)) ⟨wr.heap.size, 0, none⟩ 1 1 [((b, n) : Ky)] rfl rfl (cellsAt_ky _ (b, n)) (by have := HKL.out; simp only [List.length_singleton]; omega) (by have := (H1.out.1.trans HW.out).size; simp; omega) ?_)
            intro v5 w5 hr5 hg5
            obtain ⟨a5, c5, hv5, hs5, _⟩ := hr5.shape
            obtain ⟨g5, hg6⟩ := hs5 (by simp)
            subst hg6
            have hv9 : v5 = .slice (some ⟨g5, 0, none⟩) (kl + 1) c5 := by rw [hv5, List.length_append, HKL.out.1]; rfl
            clear hv5
            subst hv9
            have hk5 : Kept (fun k => (Value.slice ko kl kc).ownBlock = some k) wr w5 := Kept.trans (F := fun _ => False) ((Kept.refl _ wr).alloc _) ((Kept.refl _ _).grown hg5 (fun k e => .inl e)) (fun _ _ f => False.elim f) (fun _ _ e => e)
            have H5 : Hid (RowC w.heap.size 36 3 kyE w5 (.slice (some ⟨g5, 0, none⟩) (kl + 1) c5) (snk ks (b, n) kl) ∧ Same w w5) := hid ⟨by rw [← HKL.out.1, snk_all, HKL.out.1]; exact hr5, Kept.trans (H1.out.1.trans HW.out) hk5 (fun _ _ f => f) (fun k hlt e => by have := H1.out.2.2.1.ge e; omega)⟩
            clear hr5 hg5 hk5 hs5 b0 b1 b2 HW HJ2
            go_wp2_with fail
            go_loopg [12] kl (fun q z12 wr => ∃ m : Nat, m ≤ q ∧ m ≤ kl ∧ z12 = .int .i64 (m : Nat) ∧ Hid (RowC w.heap.size 36 3 kyE wr (.slice (some ⟨g5, 0, none⟩) (kl + 1) c5) (snk ks (b, n) m) ∧ (∀ x ∈ ks.drop m, ltK12 (b, n) x) ∧ Same w wr))
            case atStart =>
              exact ⟨kl, Nat.le_refl _, Nat.le_refl _, congrArg (Value.int .i64) (wrap64_nat12 kl HKL.out.2.2), hid ⟨H5.out.1, fun x hx => (by rw [List.drop_of_length_le (by have := HKL.out.1; omega)] at hx; cases hx), H5.out.2⟩⟩
            case round =>
              clear hqm hml
              obtain ⟨m, hqm, hml, rfl, HS⟩ := hrel
              by_cases hm0 : m = 0
              · have ip : decide ((0 : Int) < (m : Int)) = false := decide_eq_false (by omega)
                have ip2 : decide (0 < m) = false := decide_eq_false (by omega)
                have HF : Hid (KyI L T (i + 1) (snk ks (b, n) m)) := hid (HKI.out.add hlt2 HN.out.1 (snk_ris HKI.out.ris HN.out.2 (by have := HKL.out.1; omega) HS.out.2.1 (fun q e => by omega)) (fun x => by rw [HY.out.1, HY.out.2]; exact snk_mem _ _ _ _) (snk_len _ _ _ (by have := HKL.out.1; omega)))
                clear hm0
                go_wp2_with fail
                go_quiet (fail)
                go_wp2_with fail
                go_roundg (gk0 - 1)
                case measure => omega
                case rel => exact ⟨i + 1, _, _, _, _, by omega, by omega, rfl, by go_num, hid ⟨HS.out.1.kept (show Same _ _ from (Kept.refl _ _).drewN _) (fun _ _ f => f), HF.out, HS.out.2.2.drewN _⟩⟩
              · obtain ⟨q, hmq⟩ : ∃ q, m = q + 1 := ⟨m - 1, by omega⟩
                have hqk : q < ks.length := by have := HKL.out.1; omega
                have hmk : m ≤ ks.length := by omega
                obtain ⟨x, hx⟩ : ∃ x, x = ks[q] := ⟨_, rfl⟩
                have HX : Hid (m = q + 1 ∧ ∀ h : q < ks.length, ks[q] = x) := hid ⟨hmq, fun _ => hx.symm⟩
                have HCW : Hid (∀ w', RowC w.heap.size 36 3 kyE w' (.slice (some ⟨g5, 0, none⟩) (kl + 1) c5) (snk ks (b, n) m) → (w'.cell? ⟨g5, m * 3, none⟩ = some (.string b.tn) ∧ w'.cell? ⟨g5, m * 3 + 1, none⟩ = some (.string b.ar) ∧ w'.cell? ⟨g5, m * 3 + 2, none⟩ = some (.string n.s)) ∧ (w'.cell? ⟨g5, q * 3, none⟩ = some (.string x.1.tn) ∧ w'.cell? ⟨g5, q * 3 + 1, none⟩ = some (.string x.1.ar) ∧ w'.cell? ⟨g5, q * 3 + 2, none⟩ = some (.string x.2.s))) := hid (fun w' hr9 => by
                  have hl9 := snk_len ks (b, n) m hmk
                  have h1 : ∀ j u, j < 3 → (kyE (b, n))[j]? = some u → w'.cell? ⟨g5, m * 3 + j, none⟩ = some u := fun j u hj e => by rw [RowC.cell kyE_ok hr9 m j (by omega) hj, snk_at ks (b, n) m hmk, e]
                  have h2 : ∀ j u, j < 3 → (kyE x)[j]? = some u → w'.cell? ⟨g5, q * 3 + j, none⟩ = some u := fun j u hj e => by
                    have e9 : (snk ks (b, n) m)[q]'(by omega) = x := by subst hmq; rw [snk_before ks (b, n) q hqk, hx]
                    rw [RowC.cell kyE_ok hr9 q j (by omega) hj, e9, e]
                  exact ⟨⟨h1 0 _ (by decide) rfl, h1 1 _ (by decide) rfl, h1 2 _ (by decide) rfl⟩, ⟨h2 0 _ (by decide) rfl, h2 1 _ (by decide) rfl, h2 2 _ (by decide) rfl⟩⟩)
                have ip : decide ((0 : Int) < (m : Int)) = true := decide_eq_true (by omega)
                have ip2 : decide (0 < m) = true := decide_eq_true (by omega)
                have iw0 : (m : Int) - 1 = (q : Int) := by omega
                have iw : IntKind.i64.wrap (q : Int) = (q : Int) := by have := HKL.out.2.2; rw [IntKind.wrap_i64]; omega
                have ib : (q : Int) < ((kl + 1 : Nat) : Int) := by omega
                have ib2 : (m : Int) < ((kl + 1 : Nat) : Int) := by omega
                have ib3 : (q : Int) < (kl : Int) + 1 := by omega
                have ib4 : (m : Int) < (kl : Int) + 1 := by omega
                obtain ⟨⟨k0, k1, k2⟩, ⟨x0, x1, x2⟩⟩ := HCW.out wr HS.out.1
                have HMQ : Hid (m = q + 1) := hid hmq
                clear hx hm0 hmq
                go_upto_region 15 with fail
                go_region_held3 (fun w' => w'.cell? ⟨g5, m * 3, none⟩ = some (.string b.tn) ∧ w'.cell? ⟨g5, m * 3 + 1, none⟩ = some (.string b.ar) ∧ w'.cell? ⟨g5, m * 3 + 2, none⟩ = some (.string n.s) ∧ w'.cell? ⟨g5, q * 3, none⟩ = some (.string x.1.tn) ∧ w'.cell? ⟨g5, q * 3 + 1, none⟩ = some (.string x.1.ar) ∧ w'.cell? ⟨g5, q * 3 + 2, none⟩ = some (.string x.2.s))
                  (first
                    | (go_split_ands; exact ⟨hkc.cell (by assumption) (fun f => f), hkc.cell (by assumption) (fun f => f), hkc.cell (by assumption) (fun f => f), hkc.cell (by assumption) (fun f => f), hkc.cell (by assumption) (fun f => f), hkc.cell (by assumption) (fun f => f)⟩)
                    | go_keep)
                  (first
                    | (go_at_call 55; refine (rless_any _ (b, n) x).mono ?_; rintro e wk ⟨rfl, hkc⟩; have HKK : Hid (Same wr wk) := hid (by first | exact Kept.undrewC hkc | exact hkc)))
                have HS2 : Hid (RowC w.heap.size 36 3 kyE wk (.slice (some ⟨g5, 0, none⟩) (kl + 1) c5) (snk ks (b, n) m) ∧ Same w wk) := hid ⟨HS.out.1.kept HKK.out (fun _ _ f => f), HS.out.2.2.trans HKK.out⟩
                clear hkc HKK k0 k1 k2 x0 x1 x2
                obtain ⟨lb, hlb⟩ : ∃ q, q = bef12 (b, n) x := ⟨_, rfl⟩
                rw [← hlb]
                cases lb with
                | false =>
                  have HF : Hid (KyI L T (i + 1) (snk ks (b, n) m)) := hid (HKI.out.add hlt2 HN.out.1 (snk_ris HKI.out.ris HN.out.2 hmk HS.out.2.1 (fun q' e => by
                    obtain rfl : q' = q := by have := HMQ.out; omega
                    rw [HX.out.2 hqk, ← bef12_iff, ← hlb]
                    decide)) (fun x => by rw [HY.out.1, HY.out.2]; exact snk_mem _ _ _ _) (snk_len _ _ _ hmk))
                  clear hlb
                  go_wp2_with fail
                  go_roundg (gk0 - 1)
                  case measure => omega
                  case rel => exact ⟨i + 1, _, _, _, _, by omega, by omega, rfl, by go_num, hid ⟨HS2.out.1, HF.out, HS2.out.2⟩⟩
                | true =>
                  have HLT : Hid (ltK12 (b, n) x) := hid ((bef12_iff _ _).1 hlb.symm)
                  clear hlb
                  obtain ⟨wC, hwC⟩ : ∃ W, W = wk.alloc (.cells #[.string b.tn, .string b.ar, .string n.s] 36) := ⟨_, rfl⟩
                  obtain ⟨xb, hxb⟩ : ∃ y, y = wk.heap.size := ⟨_, rfl⟩
                  have hkC : Same wk wC := by rw [hwC]; exact (Kept.refl _ _).alloc _
                  have BC : Blk wC xb #[.string b.tn, .string b.ar, .string n.s] 36 := by rw [hwC, hxb]; exact Blk.new wk _ _
                  have HC : Hid (RowC w.heap.size 36 3 kyE wC (.slice (some ⟨g5, 0, none⟩) (kl + 1) c5) (snk ks (b, n) m) ∧ Same w wC ∧ Blk wC xb #[.string b.tn, .string b.ar, .string n.s] 36 ∧ g5 ≠ xb ∧ w.heap.size ≤ g5) := hid ⟨HS2.out.1.kept hkC (fun _ _ f => f), HS2.out.2.trans hkC, BC, by have := HS2.out.1.lt (j := g5) rfl; omega, HS2.out.1.ge (j := g5) rfl⟩
                  obtain ⟨⟨k0, k1, k2⟩, _⟩ := HCW.out wk HS2.out.1
                  clear hkC BC
                  go_upto_region 18 with fail
                  rw [← hwC, ← hxb]
                  clear hwC hxb k0 k1 k2
                  obtain ⟨⟨k0, k1, k2⟩, ⟨x0, x1, x2⟩⟩ := HCW.out wC HC.out.1
                  have z0 := HC.out.1.frozen (m * 3)
                  have z1 := HC.out.1.frozen (m * 3 + 1)
                  have z2 := HC.out.1.frozen (m * 3 + 2)
                  obtain ⟨wD, hwD⟩ : ∃ W, W = setK wC g5 m x := ⟨_, rfl⟩
                  have HD : Hid (RowC w.heap.size 36 3 kyE wD (.slice (some ⟨g5, 0, none⟩) (kl + 1) c5) ((snk ks (b, n) m).set m x) ∧ Same w wD ∧ Blk wD xb #[.string b.tn, .string b.ar, .string n.s] 36) := hid (by
                    rw [hwD]
                    exact ⟨HC.out.1.setK m x (by rw [snk_len _ _ _ hmk]; omega), Kept.trans HC.out.2.1 (setK_kept _ _ _ _) (fun _ _ f => f) (fun k hlt e => by have := HC.out.2.2.2.2; omega), HC.out.2.2.1.kept (setK_kept _ _ _ _) (fun e => HC.out.2.2.2.1 e.symm)⟩)
                  have hwD2 : wD = ((wC.setCell ⟨g5, m * 3, none⟩ (.string x.1.tn)).setCell ⟨g5, m * 3 + 1, none⟩ (.string x.1.ar)).setCell ⟨g5, m * 3 + 2, none⟩ (.string x.2.s) := hwD
                  go_upto_region 19 with fail
                  rw [← hwD2]
                  clear hwD hwD2 k0 k1 k2 x0 x1 x2 z0 z1 z2
                  have b0 := HD.out.2.2.cell 0
                  have b1 := HD.out.2.2.cell 1
                  have b2 := HD.out.2.2.cell 2
                  have z0 := HD.out.1.frozen (q * 3)
                  have z1 := HD.out.1.frozen (q * 3 + 1)
                  have z2 := HD.out.1.frozen (q * 3 + 2)
                  obtain ⟨y0, hy0⟩ : ∃ y, wD.cell? ⟨g5, q * 3, none⟩ = some y := ⟨_, RowC.cell kyE_ok HD.out.1 q 0 (by rw [List.length_set, snk_len _ _ _ hmk]; omega) (by decide)⟩
                  obtain ⟨y1, hy1⟩ : ∃ y, wD.cell? ⟨g5, q * 3 + 1, none⟩ = some y := ⟨_, RowC.cell kyE_ok HD.out.1 q 1 (by rw [List.length_set, snk_len _ _ _ hmk]; omega) (by decide)⟩
                  obtain ⟨y2, hy2⟩ : ∃ y, wD.cell? ⟨g5, q * 3 + 2, none⟩ = some y := ⟨_, RowC.cell kyE_ok HD.out.1 q 2 (by rw [List.length_set, snk_len _ _ _ hmk]; omega) (by decide)⟩
                  go_wp2_with fail
                  go_roundg (gk - 1)
                  case measure => have := HMQ.out; omega
                  case rel =>
                    refine ⟨q, by have := HMQ.out; omega, by have := HMQ.out; omega, by go_num, hid ⟨?_, fun y hy => ?_, ?_⟩⟩
                    · have h9 := HD.out.1.setK q (b, n) (by rw [List.length_set, snk_len _ _ _ hmk]; omega)
                      have e9 : ((snk ks (b, n) m).set m x).set q (b, n) = snk ks (b, n) q := by
                        have h8 := snk_swap ks (b, n) q hqk
                        rw [HX.out.2 hqk] at h8
                        rw [HMQ.out]
                        exact h8
                      rw [e9] at h9
                      exact h9
                    · rw [List.drop_eq_getElem_cons hqk, HX.out.2 hqk] at hy
                      rcases List.mem_cons.1 hy with rfl | e
                      · exact HLT.out
                      · exact HS.out.2.1 y (by rw [HMQ.out]; exact e)
                    · exact Kept.trans HD.out.2.1 (setK_kept wD g5 q (b, n)) (fun _ _ f => f) (fun k hlt e => by have := HC.out.2.2.2.2; omega)
    · have hli : decide (i < l) = false := decide_eq_false hlt
      have HE : Hid (KyI L T L.length ks) := hid (by rw [← HG.out.2.1, ← (show i = l by omega)]; exact HI.out.2.1)
      clear hst
      go_wp2_with fail
      go_ret
      exact ⟨_, ks, rfl, HI.out.1, HE.out, HI.out.2.2⟩

end Go.Proofs.Ythignkloecfcbaa

/-
  Layer 12, the reference: what Put and Prune make of a list of versions.
-/
namespace Go.Proofs.Ythignkloecfcbaa
open Go.RowKit Go.Maps Go.Sort

theorem ofK_append (A B : List Lv) (b : Bx) (n : Nm) : ofK (A ++ B) b n = ofK A b n ++ ofK B b n := by
  unfold ofK
  rw [List.filter_append, List.map_append]

theorem ofK_one (y : Lv) (b : Bx) (n : Nm) : ofK [y] b n = if b = y.b ∧ n = y.n then [y.v] else [] := by
  unfold ofK isK
  by_cases h : b = y.b ∧ n = y.n
  · rw [if_pos h, List.filter_cons, if_pos (decide_eq_true ⟨h.1.symm, h.2.symm⟩)]; rfl
  · rw [if_neg h, List.filter_cons, if_neg (fun e => h (by have := of_decide_eq_true e; exact ⟨this.1.symm, this.2.symm⟩))]; rfl

/-- How many versions there are. -/
theorem ofK_tot : ∀ L : List Lv, TotIs (ofK L) L.length
  | [] => ⟨[], List.nodup_nil, fun _ _ h => absurd rfl h, rfl⟩
  | y :: L => by
    obtain ⟨n', h1, h2⟩ := (ofK_tot L).upd (V' := ofK (y :: L)) y.b y.n (y.v :: ofK L y.b y.n) (fun b m => by
      have h := ofK_append [y] L b m
      rw [List.singleton_append] at h
      rw [h, ofK_one]
      by_cases e : b = y.b ∧ m = y.n
      · rw [if_pos e, if_pos e, e.1, e.2]; rfl
      · rw [if_neg e, if_neg e]; rfl)
    rw [List.length_cons] at h2
    obtain rfl : n' = (y :: L).length := by rw [List.length_cons]; omega
    exact h1

/-- What the search for a version of this time tells. -/
def SeI (L : List Lv) (b : Bx) (n : Nm) (t : Int) (i k : Nat) : Prop :=
  (k = L.length ∧ ∀ j (_ : j < i) (hj : j < L.length), ¬ (isK b n L[j] = true ∧ L[j].v.t = t)) ∨ (∃ hk : k < L.length, isK b n L[k] = true ∧ L[k].v.t = t)

theorem SeI.skip {L : List Lv} {b : Bx} {n : Nm} {t : Int} {i k : Nat} (h : SeI L b n t i k) (hi : i < L.length) (hn : ¬ (isK b n L[i] = true ∧ L[i].v.t = t)) : SeI L b n t (i + 1) k := by
  rcases h with ⟨h1, h2⟩ | h
  · refine .inl ⟨h1, fun j hj hj2 => ?_⟩
    rcases Nat.lt_or_ge j i with e | e
    · exact h2 j e hj2
    · obtain rfl : j = i := by omega
      exact hn
  · exact .inr h

theorem SeI.hit {L : List Lv} {b : Bx} {n : Nm} {t : Int} {i : Nat} (hi : i < L.length) (h1 : isK b n L[i] = true) (h2 : L[i].v.t = t) : SeI L b n t (i + 1) i := .inr ⟨hi, h1, h2⟩

theorem SeI.le {L : List Lv} {b : Bx} {n : Nm} {t : Int} {i k : Nat} (h : SeI L b n t i k) : k ≤ L.length := by
  rcases h with ⟨h, _⟩ | ⟨h, _⟩ <;> omega

def lvOf (x : Wr) (t : Int) : Lv := ⟨x.b, x.n, verOf x t⟩

/-- What one write makes of the versions. -/
def putL (L : List Lv) (x : Wr) (t : Int) (k : Nat) : List Lv := if k = L.length then L ++ [lvOf x t] else L.set k (lvOf x t)

theorem putL_len (L : List Lv) (x : Wr) (t : Int) (k : Nat) : (putL L x t k).length ≤ L.length + 1 := by
  unfold putL
  split
  · rw [List.length_append]; exact Nat.le_refl _
  · rw [List.length_set]; exact Nat.le_succ _

theorem putL_is {L : List Lv} {x : Wr} {t : Int} {k : Nat} (hu : UpTo (ofK L) t) (hs : SeI L x.b x.n t L.length k) : ofK (putL L x t k) = putF (ofK L) x t := by
  funext b n
  unfold putF putL
  rcases hs with ⟨rfl, h2⟩ | ⟨hk, h1, h2⟩
  · rw [if_pos rfl, ofK_append, ofK_one]
    show _ ++ (if b = x.b ∧ n = x.n then [verOf x t] else []) = _
    by_cases e : b = x.b ∧ n = x.n
    · rw [if_pos e, if_pos e]
      unfold putV
      congr 1
      refine (List.filter_eq_self.2 (fun v hv => decide_eq_true ?_)).symm
      rw [verOf_t]
      have h3 := (hu b n).2 v hv
      rw [e.1, e.2] at hv
      obtain ⟨j, hj, e1, e2⟩ := mem_ofK.1 hv
      have h4 := h2 j hj hj
      rw [e2] at h4
      have : v.t ≠ t := fun e3 => h4 ⟨e1, e3⟩
      omega
    · rw [if_neg e, if_neg e, List.append_nil]
  · rw [if_neg (by omega)]
    obtain ⟨A, hA⟩ : ∃ A, A = L.take k := ⟨_, rfl⟩
    obtain ⟨B, hB⟩ : ∃ B, B = L.drop (k + 1) := ⟨_, rfl⟩
    obtain ⟨z, hz⟩ : ∃ z, z = L[k] := ⟨_, rfl⟩
    have hL : L = A ++ z :: B := by rw [hA, hB, hz, ← List.drop_eq_getElem_cons hk, List.take_append_drop]
    have hlA : A.length = k := by rw [hA, List.length_take]; omega
    have hS : L.set k (lvOf x t) = A ++ lvOf x t :: B := by
      rw [hL, List.set_append_right _ _ (by omega), hlA, Nat.sub_self, List.set_cons_zero]
    rw [← hz] at h1 h2
    have sp : ∀ y : Lv, ofK (A ++ y :: B) b n = ofK A b n ++ ((if b = y.b ∧ n = y.n then [y.v] else []) ++ ofK B b n) := fun y => by
      rw [ofK_append, show y :: B = [y] ++ B from rfl, ofK_append, ofK_one]
    obtain ⟨zb, zn⟩ := of_decide_eq_true h1
    have hu2 := hu b n
    rw [hL] at hu2
    rw [hS, hL, sp, sp]
    rw [sp] at hu2
    show _ ++ ((if b = x.b ∧ n = x.n then [verOf x t] else []) ++ _) = _
    rw [zb, zn] at hu2 ⊢
    by_cases e : b = x.b ∧ n = x.n
    · rw [if_pos e] at hu2
      rw [if_pos e, if_pos e, if_pos e]
      obtain ⟨hr, hm⟩ := hu2
      unfold RisV at hr
      obtain ⟨_, r2, r3⟩ := List.pairwise_append.1 hr
      have hB0 : ofK B b n = [] := by
        cases hq : ofK B b n with
        | nil => rfl
        | cons u l =>
          rw [hq] at r2 hm
          have g1 := (List.pairwise_cons.1 r2).1 u (by simp)
          have g2 := hm u (by simp)
          omega
      rw [hB0] at r3 ⊢
      unfold putV
      rw [List.append_nil, List.filter_append, verOf_t, List.filter_eq_self.2 (fun v hv => decide_eq_true (by have := r3 v hv z.v (by simp); omega)), List.append_nil, List.filter_cons, if_neg (fun e9 => by have := of_decide_eq_true e9; omega), List.filter_nil, List.append_nil]
    · rw [if_neg e, if_neg e, if_neg e]

/-- Is a version kept by Prune? -/
def kpP (L : List Lv) (f : Int) (x : Lv) : Bool := decide (f < x.v.t) || (decide (x.v.t = (newV (ofK L x.b x.n) f).t) && x.v.there)

theorem pruV_filter {l : List Ver} (h : RisV l) (f : Int) : pruV l f = l.filter (fun v => decide (f < v.t) || (decide (v.t = (newV l f).t) && v.there)) := by
  obtain ⟨u, hu⟩ : ∃ u, u = upV l f := ⟨_, rfl⟩
  have hul := upV_le l f
  have hlt := upV_lt h f
  rw [← hu] at hul hlt
  have hd : (l.drop u).filter (fun v => decide (f < v.t) || (decide (v.t = (newV l f).t) && v.there)) = l.drop u := List.filter_eq_self.2 (fun v hv => by
    obtain ⟨j, hj, rfl⟩ := List.getElem_of_mem hv
    rw [List.length_drop] at hj
    rw [List.getElem_drop]
    have := hlt (u + j) (by omega)
    have h2 : ¬ l[u + j].t ≤ f := fun e => by have := this.2 e; omega
    rw [decide_eq_true (by omega), Bool.true_or])
  unfold pruV
  rw [← hu]
  cases u with
  | zero =>
    have hn : newV l f = ver0 := by unfold newV; rw [← hu, if_pos rfl]
    rw [hn] at hd ⊢
    rw [List.drop_zero] at hd
    rw [hd]
    rfl
  | succ q =>
    have hq : q < l.length := by omega
    have hn : newV l f = l[q] := by
      unfold newV
      rw [← hu, if_neg (by omega), Nat.add_sub_cancel, List.getD_eq_getElem?_getD, List.getElem?_eq_getElem hq]; rfl
    obtain ⟨z, hz⟩ : ∃ z, z = l[q] := ⟨_, rfl⟩
    rw [hn, ← hz] at hd ⊢
    have hs : l = l.take q ++ (z :: l.drop (q + 1)) := by rw [hz, ← List.drop_eq_getElem_cons hq, List.take_append_drop]
    have hzf : z.t ≤ f := by rw [hz]; exact (hlt q hq).1 (by omega)
    have ha : (l.take q).filter (fun v => decide (f < v.t) || (decide (v.t = z.t) && v.there)) = [] := List.filter_eq_nil_iff.2 (fun v hv e => by
      obtain ⟨j, hj, rfl⟩ := List.getElem_of_mem hv
      rw [List.length_take] at hj
      rw [List.getElem_take] at e
      have g1 := List.pairwise_iff_getElem.1 h j q (by omega) hq (by omega)
      rw [← hz] at g1
      rw [decide_eq_false (show ¬ f < (l[j]'(by omega)).t by omega), decide_eq_false (show ¬ (l[j]'(by omega)).t = z.t by omega)] at e
      cases e)
    have hfl : l.filter (fun v => decide (f < v.t) || (decide (v.t = z.t) && v.there)) = (if z.there = true then [z] else []) ++ l.drop (q + 1) := by
      rw [congrArg (List.filter _) hs, List.filter_append, ha, List.nil_append, List.filter_cons, hd, decide_eq_false (show ¬ f < z.t by omega), decide_eq_true rfl, Bool.false_or, Bool.true_and]
      cases z.there <;> rfl
    rw [hfl, Nat.add_sub_cancel]
    cases z.there with
    | false => rfl
    | true =>
      rw [if_pos rfl, if_pos rfl, List.drop_eq_getElem_cons hq, ← hz]; rfl

theorem ofK_filter (L : List Lv) (P : Lv → Bool) (b : Bx) (n : Nm) (Q : Ver → Bool) (h : ∀ x ∈ L, x.b = b → x.n = n → P x = Q x.v) : ofK (L.filter P) b n = (ofK L b n).filter Q := by
  unfold ofK
  rw [List.filter_map, List.filter_filter, List.filter_filter]
  congr 1
  refine List.filter_congr (fun x hx => ?_)
  cases hk : isK b n x with
  | false => simp
  | true =>
    obtain ⟨e1, e2⟩ := of_decide_eq_true hk
    simp [h x hx e1 e2]

theorem prL_is (L : List Lv) (f : Int) (hr : ∀ b n, RisV (ofK L b n)) : ofK (L.filter (kpP L f)) = fun b n => pruV (ofK L b n) f := by
  funext b n
  rw [pruV_filter (hr b n)]
  refine ofK_filter L _ b n _ (fun x _ e1 e2 => ?_)
  unfold kpP
  rw [e1, e2]

theorem ofK_pair {L : List Lv} {b : Bx} {n : Nm} (h : RisV (ofK L b n)) {i j : Nat} (hi : i < L.length) (hj : j < L.length) (e1 : isK b n L[i] = true) (e2 : isK b n L[j] = true) (he : L[i].v.t = L[j].v.t) : i = j := by
  unfold RisV ofK at h
  rw [List.pairwise_map, List.pairwise_filter] at h
  rcases Nat.lt_trichotomy i j with e | e | e
  · have := List.pairwise_iff_getElem.1 h i j hi hj e e1 e2
    omega
  · exact e
  · have := List.pairwise_iff_getElem.1 h j i hj hi e e2 e1
    omega

/-- Is it the newest one? -/
theorem NwR.at_ {L : List Lv} {f r : Int} {i : Nat} (hi : i < L.length) (hr : RisV (ofK L L[i].b L[i].n)) (h : NwR L L[i].b L[i].n f r) (hf : ¬ f < L[i].v.t) : decide (r = (i : Int)) = decide (L[i].v.t = (newV (ofK L L[i].b L[i].n) f).t) := by
  have hk : isK L[i].b L[i].n L[i] = true := decide_eq_true ⟨rfl, rfl⟩
  rcases h with ⟨_, h2⟩ | ⟨k, hkl, _, h1, h2, h3, h4⟩
  · exact absurd (by omega) (h2 i hi hi hk)
  · have hn : newV (ofK L L[i].b L[i].n) f = L[k].v := newV_max hr (mem_ofK.2 ⟨k, hkl, h2, rfl⟩) h3 (fun x hx e => by
      obtain ⟨j, hj, e1, rfl⟩ := mem_ofK.1 hx
      exact h4 j hj hj e1 e)
    rw [hn]
    refine decide_eq_decide.2 ⟨fun e => ?_, fun e => ?_⟩
    · obtain rfl : k = i := by omega
      rfl
    · rw [h1, ofK_pair hr hi hkl hk h2 e]

end Go.Proofs.Ythignkloecfcbaa

/-
  Layer 12, the reference: a version written anew; rows and blocks apart.
-/
namespace Go.Proofs.Ythignkloecfcbaa
open Go.RowKit Go.Maps Go.Sort

theorem Try.infoLv : (Try.prog.info? 93).map (fun i => (i.zero, i.size, i.bytes)) = some (some (.agg #[.string ⟨#[]⟩, .string ⟨#[]⟩, .string ⟨#[]⟩, .int .i64 0, .bool false, .string ⟨#[]⟩]), 6, 80) := by kernel_rfl

theorem RowC.off_blk {α : Type} {B t k : Nat} {enc : α → List Value} {w : World} {v : Value} {xs : List α} (h : RowC B t k enc w v xs) {j : Nat} {cs : Array Value} {t' : TypeId} (hb : Blk w j cs t') (ht : t' ≠ t) : ¬ v.ownBlock = some j := fun hj => by
  rcases h.2 with ⟨rfl, _⟩ | ⟨g, cap, cur, rfl, _, hg, _⟩
  · cases hj
  · simp only [Value.ownBlock, Option.some.injEq] at hj
    subst hj
    unfold Blk at hb
    rw [hg] at hb
    simp only [Option.some.injEq, Obj.cells.injEq] at hb
    exact ht hb.2.1.symm

theorem flat_setL : ∀ (xs : List Lv) (i : Nat) (x : Lv) (_ : i < xs.length), ((((((xs.flatMap lvE).set (i * 6) (.string x.b.tn)).set (i * 6 + 1) (.string x.b.ar)).set (i * 6 + 2) (.string x.n.s)).set (i * 6 + 3) (.int .i64 x.v.t)).set (i * 6 + 4) (.bool x.v.there)).set (i * 6 + 5) (.string x.v.data) = (xs.set i x).flatMap lvE
  | [], i, x, hi => by simp at hi
  | y :: xs, 0, x, _ => by simp [lvE]
  | y :: xs, i + 1, x, hi => by
    have h1 := flat_setL xs i x (by simp at hi; omega)
    rw [List.flatMap_cons, List.set_cons_succ, List.flatMap_cons, ← h1]
    have e : ∀ q, (i + 1) * 6 + q = (i * 6 + q) + 1 + 1 + 1 + 1 + 1 + 1 := fun q => by omega
    have e0 : (i + 1) * 6 = (i * 6) + 1 + 1 + 1 + 1 + 1 + 1 := by omega
    rw [e 1, e 2, e 3, e 4, e 5, e0]
    rfl

def setL (w : World) (g i : Nat) (x : Lv) : World := (((((w.setCell ⟨g, i * 6, none⟩ (.string x.b.tn)).setCell ⟨g, i * 6 + 1, none⟩ (.string x.b.ar)).setCell ⟨g, i * 6 + 2, none⟩ (.string x.n.s)).setCell ⟨g, i * 6 + 3, none⟩ (.int .i64 x.v.t)).setCell ⟨g, i * 6 + 4, none⟩ (.bool x.v.there)).setCell ⟨g, i * 6 + 5, none⟩ (.string x.v.data)

theorem setL_kept (w : World) (g i : Nat) (x : Lv) : Kept (fun j => j = g) w (setL w g i x) := ((((((Kept.refl (fun j => j = g) w).setCell _ _ (.inl rfl)).setCell _ _ (.inl rfl)).setCell _ _ (.inl rfl)).setCell _ _ (.inl rfl)).setCell _ _ (.inl rfl)).setCell _ _ (.inl rfl)

/-- A version written anew. -/
theorem RowC.setL {B : Nat} {w : World} {g n cap : Nat} {xs : List Lv} (h : RowC B 93 6 lvE w (.slice (some ⟨g, 0, none⟩) n cap) xs) (i : Nat) (x : Lv) (hi : i < xs.length) :
    RowC B 93 6 lvE (setL w g i x) (.slice (some ⟨g, 0, none⟩) n cap) (xs.set i x) := by
  have hl := h.len
  subst hl
  have h1 := (World.ownsRow.stored h (i * 6) (.string x.b.tn)).1
  have h2 := (World.ownsRow.stored h1 (i * 6 + 1) (.string x.b.ar)).1
  have h3 := (World.ownsRow.stored h2 (i * 6 + 2) (.string x.n.s)).1
  have h4 := (World.ownsRow.stored h3 (i * 6 + 3) (.int .i64 x.v.t)).1
  have h5 := (World.ownsRow.stored h4 (i * 6 + 4) (.bool x.v.there)).1
  have h6 := (World.ownsRow.stored h5 (i * 6 + 5) (.string x.v.data)).1
  rw [flat_setL xs i x hi] at h6
  unfold RowC
  rw [List.length_set]
  exact h6

theorem cellsAt_lv (w : World) (x : Lv) : CellsAt (w.alloc (.cells #[.string x.b.tn, .string x.b.ar, .string x.n.s, .int .i64 x.v.t, .bool x.v.there, .string x.v.data] 93)) ⟨w.heap.size, 0, none⟩ ([x].flatMap lvE) := by
  have hb := Blk.new w #[.string x.b.tn, .string x.b.ar, .string x.n.s, .int .i64 x.v.t, .bool x.v.there, .string x.v.data] 93
  intro j u hj
  match j, hj with
  | 0, hj => exact (hb.cell 0).trans hj
  | 1, hj => exact (hb.cell 1).trans hj
  | 2, hj => exact (hb.cell 2).trans hj
  | 3, hj => exact (hb.cell 3).trans hj
  | 4, hj => exact (hb.cell 4).trans hj
  | 5, hj => exact (hb.cell 5).trans hj
  | j + 6, hj => simp [lvE] at hj

end Go.Proofs.Ythignkloecfcbaa

/-
  Layer 12, the reference: newest, and what it leaves of memory.
-/
namespace Go.Proofs.Ythignkloecfcbaa
open Go.RowKit Go.Maps Go.Sort

set_option maxRecDepth 100000 in
set_option maxHeartbeats 4000000 in
theorem rnewest_gr {N : Nat} {w : World} {p : Nat} {L : List Lv} {now floor : Int} {v : Value} (h : Rc N w p L now floor v) (b : Bx) (n : Nm) (t : Int) : Calls Try.prog 43 #[.pointer (some ⟨p, 0, none⟩), .agg #[.string b.tn, .string b.ar, .string n.s], .int .i64 t] w fun e w' => ∃ r, e = .returned (.int .i64 r) ∧ NwR L b n (max t floor) r ∧ Gr w w' := by
  obtain ⟨wA, hwA⟩ : ∃ W, W = w.alloc (.cells #[.string b.tn, .string b.ar, .string n.s] 36) := ⟨_, rfl⟩
  obtain ⟨xb, hxb⟩ : ∃ y, y = w.heap.size := ⟨_, rfl⟩
  have hka : Same w wA := by rw [hwA]; exact (Kept.refl _ w).alloc _
  have B1 : Blk wA xb #[.string b.tn, .string b.ar, .string n.s] 36 := by rw [hwA, hxb]; exact Blk.new w _ _
  obtain ⟨a, c, hv, hg, _⟩ := h.row.shape
  obtain ⟨l, hl⟩ : ∃ n, n = L.length := ⟨_, rfl⟩
  rw [← hl] at hv
  subst hv
  obtain ⟨T, hT⟩ : ∃ T, T = max t floor := ⟨_, rfl⟩
  have HC : Hid (∀ w', Same wA w' → w'.cell? ⟨xb, 0, none⟩ = some (.string b.tn) ∧ w'.cell? ⟨xb, 1, none⟩ = some (.string b.ar) ∧ w'.cell? ⟨xb, 2, none⟩ = some (.string n.s) ∧ w'.cell? ⟨p, 0, none⟩ = some (.slice a l c) ∧ w'.cell? ⟨p, 2, none⟩ = some (.int .i64 floor)) := hid (fun w' hk => by
    have h1 := B1.kept hk (fun f => f)
    have h2 := (h.same (hka.trans hk)).blk
    exact ⟨h1.cell 0, h1.cell 1, h1.cell 2, h2.cell 0, h2.cell 2⟩)
  have HR : Hid (∀ w', Same wA w' → RowC N 93 6 lvE w' (.slice a l c) L) := hid (fun w' hk => (h.same (hka.trans hk)).row)
  have HG : Hid ((L ≠ [] → ∃ g, a = some ⟨g, 0, none⟩) ∧ l = L.length ∧ l ≤ 100000) := hid ⟨hg, hl, by rw [hl]; exact h.len⟩
  have HK : Hid (wA = w.alloc (.cells #[.string b.tn, .string b.ar, .string n.s] 36)) := hwA
  have HTT : Hid (T = max t floor) := hT
  obtain ⟨c0, c1, c2, p0, p2⟩ := HC.out wA (Kept.refl _ _)
  rw [hwA] at p0 p2
  clear h hka B1 hg hl c0 c1 c2
  go_enter Try.func43, Try.ntmps43
  go_wp2_with fail
  rw [← hwA, ← hxb, ← hT]
  clear hwA hxb p0 p2 hT
  go_loopg [7, 8] l (fun q z7 z8 wr => ∃ (i : Nat) (r : Int), l - i ≤ q ∧ i ≤ l ∧ z7 = .int .i64 r ∧ z8 = .int .i64 (i : Nat) ∧ Hid (NwI L b n T i r) ∧ Hid (∃ m, wr = wA.drewN m))
  case atStart => exact ⟨0, -1, by omega, by omega, rfl, rfl, hid (.inl ⟨rfl, fun j hj => by omega⟩), hid ⟨0, rfl⟩⟩
  case round =>
    obtain ⟨i, r, hq, hil, rfl, rfl, HF, HS⟩ := hrel
    have HSS : Hid (Same wA wr) := hid (by obtain ⟨m, hm⟩ := HS.out; rw [hm]; exact (Kept.refl _ _).drewN m)
    obtain ⟨b0, b1, b2, p0, p2⟩ := HC.out wr HSS.out
    by_cases hlt : i < l
    · have hli : decide (i < l) = true := decide_eq_true hlt
      have hli2 : (i : Int) < (l : Int) := by omega
      have hlt2 : i < L.length := by have := HG.out.2.1; omega
      obtain ⟨g, hg⟩ := HG.out.1 (fun e => by rw [e] at hlt2; simp at hlt2)
      subst hg
      obtain ⟨y, hy⟩ : ∃ y, y = L[i] := ⟨_, rfl⟩
      have hcw : ∀ q u, q < 6 → (lvE y)[q]? = some u → wr.cell? ⟨g, i * 6 + q, none⟩ = some u := fun q u hq e => by rw [RowC.cell lvE_ok (HR.out wr HSS.out) i q hlt2 hq, ← hy, e]
      have k0 := hcw 0 (.string y.b.tn) (by decide) rfl
      have k1 := hcw 1 (.string y.b.ar) (by decide) rfl
      have k2 := hcw 2 (.string y.n.s) (by decide) rfl
      have k3 := hcw 3 (.int .i64 y.v.t) (by decide) rfl
      rw [Nat.add_zero] at k0
      have hiw : IntKind.i64.wrap ((i : Int) + 1) = ((i + 1 : Nat) : Int) := by have := HG.out.2.2; rw [IntKind.wrap_i64]; omega
      have s1 := streq12 y.b.tn b.tn
      have s2 := streq12 y.b.ar b.ar
      have s3 := streq12 y.n.s n.s
      have HY : Hid (y = L[i]) := hy
      clear hcw hy
      by_cases hm : y.b.tn = b.tn ∧ y.b.ar = b.ar ∧ y.n.s = n.s
      · obtain ⟨m1, m2, m3⟩ := hm
        have HM : Hid (isK b n L[i] = true) := hid (by rw [← HY.out]; exact decide_eq_true ⟨Bx.ext' m1 m2, Nm.ext' m3⟩)
        rw [decide_eq_true m1] at s1
        rw [decide_eq_true m2] at s2
        rw [decide_eq_true m3] at s3
        clear m1 m2 m3
        by_cases ht : y.v.t ≤ T
        · have h1 : decide (y.v.t ≤ T) = true := decide_eq_true ht
          have HTL : Hid (L[i].v.t ≤ T) := hid (by rw [← HY.out]; exact ht)
          clear ht
          rcases HF.out with ⟨hr, _⟩ | ⟨k, hk, hki, hr, _⟩
          · subst hr
            have HN : Hid (NwI L b n T (i + 1) (i : Int)) := hid (HF.out.first hlt2 HM.out HTL.out)
            have h2 : decide ((-1 : Int) < 0) = true := by decide
            clear HF
            go_wp2_with fail
            go_quiet (fail)
            all_goals go_wp2_with fail
            all_goals go_roundg (gk - 1)
            all_goals first
              | (case measure => omega)
              | skip
            all_goals exact ⟨i + 1, _, by omega, by omega, by go_num, by go_num, HN, hid (by obtain ⟨m, hm⟩ := HS.out; rw [hm]; exact ⟨_, drewN_add _ _ _⟩)⟩
          · subst hr
            obtain ⟨z, hz⟩ : ∃ z, z = L[k] := ⟨_, rfl⟩
            have j3 : wr.cell? ⟨g, k * 6 + 3, none⟩ = some (.int .i64 z.v.t) := by rw [RowC.cell lvE_ok (HR.out wr HSS.out) k 3 hk (by decide), ← hz]; rfl
            have h2 : decide ((k : Int) < 0) = false := decide_eq_false (by omega)
            have hkb : (k : Int) < (l : Int) := by omega
            by_cases hb : z.v.t < y.v.t
            · have h3 : decide (z.v.t < y.v.t) = true := decide_eq_true hb
              have HN : Hid (NwI L b n T (i + 1) (i : Int)) := hid (HF.out.better hlt2 hk HM.out HTL.out (by rw [← HY.out, ← hz]; exact hb))
              clear HF hb hz hki
              go_wp2_with fail
              go_quiet (fail)
              all_goals go_wp2_with fail
              all_goals go_roundg (gk - 1)
              all_goals first
                | (case measure => omega)
                | skip
              all_goals exact ⟨i + 1, _, by omega, by omega, by go_num, by go_num, HN, hid (by obtain ⟨m, hm⟩ := HS.out; rw [hm]; exact ⟨_, drewN_add _ _ _⟩)⟩
            · have h3 : decide (z.v.t < y.v.t) = false := decide_eq_false hb
              have HN : Hid (NwI L b n T (i + 1) (k : Int)) := hid (HF.out.keep hk hlt2 (by rw [← HY.out, ← hz]; exact hb))
              clear HF hb hz hki
              go_wp2_with fail
              go_quiet (fail)
              all_goals go_wp2_with fail
              all_goals go_roundg (gk - 1)
              all_goals first
                | (case measure => omega)
                | skip
              all_goals exact ⟨i + 1, _, by omega, by omega, by go_num, by go_num, HN, hid (by obtain ⟨m, hm⟩ := HS.out; rw [hm]; exact ⟨_, drewN_add _ _ _⟩)⟩
        · have h1 : decide (y.v.t ≤ T) = false := decide_eq_false ht
          have HN : Hid (NwI L b n T (i + 1) r) := hid (HF.out.skip hlt2 (fun _ => by rw [← HY.out]; exact ht))
          clear HF ht
          go_wp2_with fail
          go_quiet (fail)
          all_goals go_wp2_with fail
          all_goals go_roundg (gk - 1)
          all_goals first
            | (case measure => omega)
            | skip
          all_goals exact ⟨i + 1, r, by omega, by omega, by go_num, by go_num, HN, hid (by obtain ⟨m, hm⟩ := HS.out; rw [hm]; exact ⟨_, drewN_add _ _ _⟩)⟩
      · have HN : Hid (NwI L b n T (i + 1) r) := hid (HF.out.skip hlt2 (fun e => absurd (of_decide_eq_true e) (fun e2 => hm (by rw [HY.out, e2.1, e2.2]; exact ⟨rfl, rfl, rfl⟩))))
        obtain ⟨d1, e1⟩ : ∃ q, q = decide (y.b.tn = b.tn) := ⟨_, rfl⟩
        obtain ⟨d2, e2⟩ : ∃ q, q = decide (y.b.ar = b.ar) := ⟨_, rfl⟩
        obtain ⟨d3, e3⟩ : ∃ q, q = decide (y.n.s = n.s) := ⟨_, rfl⟩
        rw [← e1] at s1
        rw [← e2] at s2
        rw [← e3] at s3
        have hd : ¬ (d1 = true ∧ d2 = true ∧ d3 = true) := fun e => hm ⟨of_decide_eq_true (e1.symm.trans e.1), of_decide_eq_true (e2.symm.trans e.2.1), of_decide_eq_true (e3.symm.trans e.2.2)⟩
        have hf := (four12 d1 d2 d3).resolve_right hd
        clear e1 e2 e3 hm hd HF
        rcases hf with rfl | ⟨rfl, rfl⟩ | ⟨rfl, rfl, rfl⟩
        all_goals
          go_wp2_with fail
          go_quiet (fail)
          all_goals go_wp2_with fail
          all_goals go_roundg (gk - 1)
          all_goals first
            | (case measure => omega)
            | skip
          all_goals exact ⟨i + 1, r, by omega, by omega, by go_num, by go_num, HN, hid (by obtain ⟨m, hm⟩ := HS.out; rw [hm]; exact ⟨_, drewN_add _ _ _⟩)⟩
    · have hli : decide (i < l) = false := decide_eq_false hlt
      obtain rfl : i = l := by omega
      go_wp2_with fail
      go_ret
      exact ⟨r, rfl, by unfold NwR; rw [← HG.out.2.1, ← HTT.out]; exact HF.out, by obtain ⟨m, hm⟩ := HS.out; exact ⟨m, #[.cells #[.string b.tn, .string b.ar, .string n.s] 36], by rw [hm, HK.out, alloc_eq_grow]; rfl⟩⟩

end Go.Proofs.Ythignkloecfcbaa

/-
  Layers 12 and 14, the reference: what a dump says, one key more.
-/
namespace Go.Proofs.Ythignkloecfcbaa
open Go.RowKit Go.Maps Go.Sort

theorem ltK12_split {a b : Ky} (h : ltK12 a b) : ltB a.1 b.1 ∨ (a.1 = b.1 ∧ bysN a.2 < bysN b.2) := by
  rcases h with h | ⟨h, h' | ⟨h', h''⟩⟩
  · exact .inl (.inl h)
  · exact .inl (.inr ⟨h, h'⟩)
  · exact .inr ⟨Bx.ext' (bytesC_inj h) (bytesC_inj h'), h''⟩

/-- What is seen, with one entry more. -/
def vis1 (vis : Bx → Nm → Option ByteArray) (b : Bx) (n : Nm) (d : ByteArray) : Bx → Nm → Option ByteArray := fun b' n' => if b' = b ∧ n' = n then some d else vis b' n'

section
variable {vis : Bx → Nm → Option ByteArray} {b : Bx} {n : Nm} {d : ByteArray}

theorem vis1_hit : vis1 vis b n d b n = some d := if_pos ⟨rfl, rfl⟩
theorem vis1_miss {b' : Bx} {n' : Nm} (h : ¬ (b' = b ∧ n' = n)) : vis1 vis b n d b' n' = vis b' n' := if_neg h

theorem IsDm.seen {D : List (Bx × List Ent)} (h : IsDm vis D) {x : Bx × List Ent} (hx : x ∈ D) : ∃ n', vis x.1 n' ≠ none := by
  obtain ⟨⟨n', d'⟩, hm⟩ := List.exists_mem_of_ne_nil x.2 (h.ne x hx)
  exact ⟨n', by rw [((h.ent x hx).2 n' d').1 hm]; simp⟩

/-- One of the last archive. -/
theorem IsDm.old {D : List (Bx × List Ent)} {es : List Ent} (h : IsDm vis (D ++ [(b, es)])) (hlt : ∀ b' n', vis b' n' ≠ none → ltB b' b ∨ (b' = b ∧ bysN n' < bysN n)) : IsDm (vis1 vis b n d) (D ++ [(b, es ++ [(n, d)])]) := by
  have hr := h.ris
  rw [List.pairwise_append] at hr
  have hD : ∀ x ∈ D, ltB x.1 b := fun x hx => hr.2.2 x hx _ (List.mem_singleton.2 rfl)
  have hne : ∀ x ∈ D, ¬ x.1 = b := fun x hx e => by have := hD x hx; rw [e] at this; exact ltB_irr _ this
  have hl : (b, es) ∈ D ++ [(b, es)] := List.mem_append.2 (.inr (List.mem_singleton.2 rfl))
  have hme := h.ent (b, es) hl
  have hnb : vis b n = none := by
    cases hv : vis b n with
    | none => rfl
    | some q =>
      rcases hlt b n (by rw [hv]; simp) with e | ⟨_, e⟩
      · exact absurd e (ltB_irr _)
      · exact absurd e (List.lt_irrefl _)
  refine ⟨?_, fun x hx => ?_, fun x hx => ?_, fun b' n' hv => ?_⟩
  · rw [List.pairwise_append]
    refine ⟨hr.1, List.pairwise_singleton _ _, fun x hx y hy => ?_⟩
    rw [List.mem_singleton.1 hy]
    exact hD x hx
  · rcases List.mem_append.1 hx with e | e
    · exact h.ne x (List.mem_append.2 (.inl e))
    · rw [List.mem_singleton.1 e]; simp
  · rcases List.mem_append.1 hx with e | e
    · have := h.ent x (List.mem_append.2 (.inl e))
      refine ⟨this.1, fun n' d' => ?_⟩
      rw [this.2, vis1_miss (fun e2 => hne x e e2.1)]
    · rw [List.mem_singleton.1 e]
      refine ⟨List.pairwise_append.2 ⟨hme.1, List.pairwise_singleton _ _, fun p hp q hq => ?_⟩, fun n' d' => ?_⟩
      · rw [List.mem_singleton.1 hq]
        obtain ⟨pn, pd⟩ := p
        rcases hlt b pn (by rw [(hme.2 pn pd).1 hp]; simp) with e | ⟨_, e⟩
        · exact absurd e (ltB_irr _)
        · exact e
      · show (n', d') ∈ es ++ [(n, d)] ↔ vis1 vis b n d b n' = some d'
        rw [List.mem_append, List.mem_singleton, Prod.mk.injEq]
        by_cases e2 : n' = n
        · subst e2
          rw [vis1_hit]
          constructor
          · rintro (e3 | ⟨_, rfl⟩)
            · have := (hme.2 n' d').1 e3
              simp only at this
              rw [hnb] at this
              cases this
            · rfl
          · intro e3
            injection e3 with e3
            exact .inr ⟨rfl, e3.symm⟩
        · rw [vis1_miss (fun e3 => e2 e3.2)]
          constructor
          · rintro (e3 | ⟨e3, _⟩)
            · exact (hme.2 n' d').1 e3
            · exact absurd e3 e2
          · intro e3
            exact .inl ((hme.2 n' d').2 e3)
  · by_cases e : b' = b ∧ n' = n
    · exact ⟨_, List.mem_append.2 (.inr (List.mem_singleton.2 rfl)), e.1.symm⟩
    · rw [vis1_miss e] at hv
      obtain ⟨x, hx, e2⟩ := h.all b' n' hv
      rcases List.mem_append.1 hx with e3 | e3
      · exact ⟨x, List.mem_append.2 (.inl e3), e2⟩
      · rw [List.mem_singleton.1 e3] at e2
        exact ⟨_, List.mem_append.2 (.inr (List.mem_singleton.2 rfl)), e2⟩

/-- One of a new archive. -/
theorem IsDm.fresh {D : List (Bx × List Ent)} (h : IsDm vis D) (hlt : ∀ b' n', vis b' n' ≠ none → ltB b' b ∨ (b' = b ∧ bysN n' < bysN n)) (hl : ∀ D0 x, D = D0 ++ [x] → ¬ x.1 = b) : IsDm (vis1 vis b n d) (D ++ [(b, [(n, d)])]) := by
  have hD : ∀ x ∈ D, ltB x.1 b := fun x hx => by
    obtain ⟨n', hv⟩ := h.seen hx
    rcases hlt x.1 n' hv with e | ⟨e, _⟩
    · exact e
    · exfalso
      have hne : D ≠ [] := fun e2 => by rw [e2] at hx; cases hx
      obtain ⟨D0, y, hy⟩ : ∃ D0 y, D = D0 ++ [y] := ⟨_, _, (List.dropLast_concat_getLast hne).symm⟩
      have hyb := hl D0 y hy
      have hym : y ∈ D := by rw [hy]; exact List.mem_append.2 (.inr (List.mem_singleton.2 rfl))
      obtain ⟨n2, hv2⟩ := h.seen hym
      rcases hlt y.1 n2 hv2 with e2 | ⟨e2, _⟩
      · have hr := h.ris
        rw [hy] at hx hr
        rcases List.mem_append.1 hx with e3 | e3
        · have g := (List.pairwise_append.1 hr).2.2 x e3 y (List.mem_singleton.2 rfl)
          rw [e] at g
          exact ltB_irr _ (ltB_trans g e2)
        · rw [List.mem_singleton.1 e3] at e
          exact hyb e
      · exact hyb e2
  have hne : ∀ x ∈ D, ¬ x.1 = b := fun x hx e => by have := hD x hx; rw [e] at this; exact ltB_irr _ this
  have hno : ∀ n', vis b n' = none := fun n' => by
    cases hv : vis b n' with
    | none => rfl
    | some q =>
      obtain ⟨x, hx, e⟩ := h.all b n' (by rw [hv]; simp)
      exact absurd e (hne x hx)
  refine ⟨?_, fun x hx => ?_, fun x hx => ?_, fun b' n' hv => ?_⟩
  · rw [List.pairwise_append]
    refine ⟨h.ris, List.pairwise_singleton _ _, fun x hx y hy => ?_⟩
    rw [List.mem_singleton.1 hy]
    exact hD x hx
  · rcases List.mem_append.1 hx with e | e
    · exact h.ne x e
    · rw [List.mem_singleton.1 e]; simp
  · rcases List.mem_append.1 hx with e | e
    · have := h.ent x e
      refine ⟨this.1, fun n' d' => ?_⟩
      rw [this.2, vis1_miss (fun e2 => hne x e e2.1)]
    · rw [List.mem_singleton.1 e]
      refine ⟨List.pairwise_singleton _ _, fun n' d' => ?_⟩
      show (n', d') ∈ [(n, d)] ↔ vis1 vis b n d b n' = some d'
      rw [List.mem_singleton, Prod.mk.injEq]
      by_cases e2 : n' = n
      · subst e2
        rw [vis1_hit]
        constructor
        · rintro ⟨_, rfl⟩; rfl
        · intro e3; injection e3 with e3; exact ⟨rfl, e3.symm⟩
      · rw [vis1_miss (fun e3 => e2 e3.2), hno]
        constructor
        · rintro ⟨e3, _⟩; exact absurd e3 e2
        · intro e3; cases e3
  · by_cases e : b' = b ∧ n' = n
    · exact ⟨_, List.mem_append.2 (.inr (List.mem_singleton.2 rfl)), e.1.symm⟩
    · rw [vis1_miss e] at hv
      obtain ⟨x, hx, e2⟩ := h.all b' n' hv
      exact ⟨x, List.mem_append.2 (.inl hx), e2⟩

theorem IsDm.nil : IsDm (fun _ _ => none) [] := ⟨List.Pairwise.nil, fun _ h => (by cases h), fun _ h => (by cases h), fun _ _ h => absurd rfl h⟩

end

/-- A cell of the row of a dump written anew: its entries' slice. -/
theorem flat_setAd : ∀ (xs : List Ad) (i : Nat) (x : Ad) (_ : i < xs.length) (_ : (xs[i]?.map (·.b)) = some x.b), (xs.flatMap adE).set (i * 3 + 2) (.slice x.a x.n x.c) = (xs.set i x).flatMap adE
  | [], i, x, hi, _ => by simp at hi
  | y :: xs, 0, x, _, hb => by
    simp at hb
    simp [adE, hb]
  | y :: xs, i + 1, x, hi, hb => by
    have h1 := flat_setAd xs i x (by simp at hi; omega) (by simpa using hb)
    rw [List.flatMap_cons, List.set_cons_succ, List.flatMap_cons, ← h1]
    have e2 : (i + 1) * 3 + 2 = (i * 3 + 2) + 1 + 1 + 1 := by omega
    rw [e2]
    rfl

theorem RowC.setAd {B : Nat} {w : World} {g n cap : Nat} {xs : List Ad} (h : RowC B 55 3 adE w (.slice (some ⟨g, 0, none⟩) n cap) xs) (i : Nat) (x : Ad) (hi : i < xs.length) (hb : xs[i].b = x.b) :
    RowC B 55 3 adE (w.setCell ⟨g, i * 3 + 2, none⟩ (.slice x.a x.n x.c)) (.slice (some ⟨g, 0, none⟩) n cap) (xs.set i x) := by
  have hl := h.len
  subst hl
  have h1 := (World.ownsRow.stored h (i * 3 + 2) (.slice x.a x.n x.c)).1
  rw [flat_setAd xs i x hi (by rw [List.getElem?_eq_getElem hi, ← hb]; rfl)] at h1
  unfold RowC
  rw [List.length_set]
  exact h1

end Go.Proofs.Ythignkloecfcbaa
