/-
  Layer 12, the reference: keys.
-/
import Derived.Test.YthignkloecfcbaaCrD
import Derived.BigQuiet
import Derived.Deep.RegionHeld3
namespace Go.Proofs.Ythignkloecfcbaa
open Go.RowKit Go.Maps Go.Sort

theorem wrap64_nat12 (k : Nat) (h : k ≤ 100000) : wrap64 (k : Int) = (k : Int) := by unfold wrap64; omega

/-- What keys tells. -/
def KysA (w : World) (L : List Lv) (T : Int) (e : Ending) (w' : World) : Prop := ∃ v ks, e = .returned v ∧ RowC w.heap.size 36 3 kyE w' v ks ∧ KyI L T L.length ks ∧ Same w w'

set_option maxRecDepth 100000 in
set_option maxHeartbeats 4000000 in
theorem rkeys_any {N : Nat} {w : World} {p : Nat} {L : List Lv} {now floor : Int} {v : Value} (h : Rc N w p L now floor v) (t : Int) (hr : ∀ b n, RisV (ofK L b n)) (hg : ∀ b n, ∀ x ∈ ofK L b n, x.there = false → x.data = ⟨#[]⟩) : Calls Try.prog 44 #[.pointer (some ⟨p, 0, none⟩), .int .i64 t] w fun e w' => KysA w L (max t floor) e w' := by
  obtain ⟨a, c, hv, hgs, _⟩ := h.row.shape
  obtain ⟨l, hl⟩ : ∃ n, n = L.length := ⟨_, rfl⟩
  rw [← hl] at hv
  subst hv
  obtain ⟨T, hT⟩ : ∃ T, T = max t floor := ⟨_, rfl⟩
  rw [← hT]
  have HR : Hid (∀ w', Same w w' → Rc N w' p L now floor (.slice a l c)) := hid (fun w' hk => h.same hk)
  have HG : Hid ((L ≠ [] → ∃ g, a = some ⟨g, 0, none⟩) ∧ l = L.length ∧ l ≤ 100000) := hid ⟨hgs, hl, by rw [hl]; exact h.len⟩
  have HGT : Hid (∀ w' b n, Same w w' → Calls Try.prog 27 #[.pointer (some ⟨p, 0, none⟩), .agg #[.string b.tn, .string b.ar, .string n.s], .int .i64 t] w' fun e w2 => ∃ d, e = .returned (.tuple #[.string d, .bool (isTh (ofK L b n) T)]) ∧ Same w' w2) := hid (fun w' b n hk => (rget_any (h.same hk) b n t (hr b n) (hg b n)).mono (fun e w2 h9 => ⟨_, by rw [hT]; exact h9.1, h9.2⟩))
  clear h hgs hl hr hg hT
  go_enter Try.func44, Try.ntmps44
  go_wp2_with fail
  go_loopg [5, 6] l (fun q z5 z6 wr => ∃ (i : Nat) (ko : Option Addr) (kl kc : Nat) (ks : List Ky), l - i ≤ q ∧ i ≤ l ∧ z5 = .slice ko kl kc ∧ z6 = .int .i64 (i : Nat) ∧ Hid (RowC w.heap.size 36 3 kyE wr (.slice ko kl kc) ks ∧ KyI L T i ks ∧ Same w wr))
  case atStart => exact ⟨0, none, 0, 0, [], by omega, by omega, rfl, rfl, hid ⟨RowC.nil, ⟨List.Pairwise.nil, fun k => ⟨fun e => (by cases e), fun e => (by obtain ⟨_, j, _, e2, _⟩ := e; omega)⟩, Nat.le_refl _⟩, Kept.refl _ _⟩⟩
  case round =>
    obtain ⟨i, ko, kl, kc, ks, hq, hil, rfl, rfl, HI⟩ := hrel
    have hst := HR.out wr HI.out.2.2
    have p0 : wr.cell? ⟨p, 0, none⟩ = some (.slice a l c) := hst.blk.cell 0
    by_cases hlt : i < l
    · have hli : decide (i < l) = true := decide_eq_true hlt
      have hli2 : (i : Int) < (l : Int) := by omega
      have hlt2 : i < L.length := by have := HG.out.2.1; omega
      obtain ⟨g, hg⟩ := HG.out.1 (fun e => by rw [e] at hlt2; simp at hlt2)
      subst hg
      obtain ⟨y, hy⟩ : ∃ y, y = L[i] := ⟨_, rfl⟩
      have hcw : ∀ q u, q < 6 → (lvE y)[q]? = some u → wr.cell? ⟨g, i * 6 + q, none⟩ = some u := fun q u hq e => by rw [RowC.cell lvE_ok hst.row i q hlt2 hq, ← hy, e]
      have k0 := hcw 0 (.string y.b.tn) (by decide) rfl
      have k1 := hcw 1 (.string y.b.ar) (by decide) rfl
      have k2 := hcw 2 (.string y.n.s) (by decide) rfl
      rw [Nat.add_zero] at k0
      obtain ⟨b, hb⟩ : ∃ b, b = y.b := ⟨_, rfl⟩
      obtain ⟨n, hn⟩ : ∃ n, n = y.n := ⟨_, rfl⟩
      rw [← hb] at k0 k1
      rw [← hn] at k2
      have HY : Hid (L[i].b = b ∧ L[i].n = n) := hid ⟨by rw [← hy, hb], by rw [← hy, hn]⟩
      have hiw : IntKind.i64.wrap ((i : Int) + 1) = ((i + 1 : Nat) : Int) := by have := HG.out.2.2; rw [IntKind.wrap_i64]; omega
      obtain ⟨kx, hkx⟩ : ∃ x, x = kl := ⟨_, rfl⟩
      have HKL : Hid (ks.length = kl ∧ (ks ≠ [] → ∃ g, ko = some ⟨g, 0, none⟩) ∧ kl ≤ 100000) := hid (by
        obtain ⟨a9, c9, h9, h8, _⟩ := HI.out.1.shape
        injection h9 with e1 e2 e3
        refine ⟨e2.symm, fun e => by rw [e1]; exact h8 e, ?_⟩
        have := HI.out.2.1.len
        have := HG.out.2.2
        omega)
      obtain ⟨wB, hwB⟩ : ∃ W, W = wr.alloc (.cells #[.string b.tn, .string b.ar, .string n.s] 36) := ⟨_, rfl⟩
      obtain ⟨yb, hyb⟩ : ∃ y, y = wr.heap.size := ⟨_, rfl⟩
      have hkB : Same wr wB := by rw [hwB]; exact (Kept.refl _ _).alloc _
      have BB : Blk wB yb #[.string b.tn, .string b.ar, .string n.s] 36 := by rw [hwB, hyb]; exact Blk.new wr _ _
      have HB : Hid (Same w wB ∧ Blk wB yb #[.string b.tn, .string b.ar, .string n.s] 36 ∧ RowC w.heap.size 36 3 kyE wB (.slice ko kl kc) ks ∧ (∀ j, (Value.slice ko kl kc).ownBlock = some j → j < yb) ∧ yb < wB.heap.size ∧ w.heap.size ≤ yb) := hid ⟨HI.out.2.2.trans hkB, BB, HI.out.1.kept hkB (fun _ _ f => f), fun j e => (by rw [hyb]; exact HI.out.1.lt e), (by rw [hwB, hyb]; simp), (by rw [hyb]; exact HI.out.2.2.size)⟩
      have HKI : Hid (KyI L T i ks) := hid HI.out.2.1
      obtain ⟨th, hth⟩ : ∃ q, q = isTh (ofK L b n) T := ⟨_, rfl⟩
      have HGB := HGT.out wB b n HB.out.1
      rw [← hth] at HGB
      have HTH : Hid (th = isTh (ofK L b n) T) := hth
      have b0 := BB.cell 0
      have b1 := BB.cell 1
      have b2 := BB.cell 2
      rw [hwB] at b0 b1 b2
      clear hcw hy hb hn hst HI hkB BB hth hkx
      go_wp2_with fail
      rw [← hwB, ← hyb]
      clear hwB b0 b1 b2 k0 k1 k2 p0
      refine HGB.mono ?_
      rintro e w1 ⟨d, rfl, hk1⟩
      have H1 : Hid (Same w w1 ∧ Blk w1 yb #[.string b.tn, .string b.ar, .string n.s] 36 ∧ RowC w.heap.size 36 3 kyE w1 (.slice ko kl kc) ks ∧ (∀ j, (Value.slice ko kl kc).ownBlock = some j → j < yb) ∧ yb < w1.heap.size ∧ w.heap.size ≤ yb) := hid ⟨HB.out.1.trans hk1, HB.out.2.1.kept hk1 (fun f => f), HB.out.2.2.1.kept hk1 (fun _ _ f => f), HB.out.2.2.2.1, Nat.lt_of_lt_of_le HB.out.2.2.2.2.1 hk1.size, HB.out.2.2.2.2.2⟩
      clear HGB HB hk1 hyb
      obtain ⟨gk0, hgk0⟩ : ∃ q, q = gk := ⟨_, rfl⟩
      rw [← hgk0] at hq
      go_wp2_with fail
      go_loopg [10, 11] kl (fun q z10 z11 wr => ∃ (m : Nat) (kn : Bool), kl - m ≤ q ∧ m ≤ kl ∧ z10 = .bool kn ∧ z11 = .int .i64 (m : Nat) ∧ Hid (kn = (!th || (ks.take m).any (fun x => decide (x = (b, n)))) ∧ Same w1 wr))
      case atStart => exact ⟨0, !th, by omega, by omega, rfl, rfl, hid ⟨by simp, Kept.refl _ _⟩⟩
      case round =>
        obtain ⟨m, kn, hqm, hml, rfl, rfl, HJ⟩ := hrel
        have hb9 := H1.out.2.1.kept HJ.out.2 (fun f => f)
        have b0 := hb9.cell 0
        have b1 := hb9.cell 1
        have b2 := hb9.cell 2
        by_cases hltm : m < kl
        · have hlm : decide (m < kl) = true := decide_eq_true hltm
          have hlm2 : (m : Int) < (kl : Int) := by omega
          have hlt3 : m < ks.length := by have := HKL.out.1; omega
          obtain ⟨kg, hkg⟩ := HKL.out.2.1 (fun e => by rw [e] at hlt3; simp at hlt3)
          subst hkg
          have hmw : IntKind.i64.wrap ((m : Int) + 1) = ((m + 1 : Nat) : Int) := by have := HKL.out.2.2; rw [IntKind.wrap_i64]; omega
          obtain ⟨z, hz⟩ : ∃ z, z = ks[m] := ⟨_, rfl⟩
          have hcw : ∀ q u, q < 3 → (kyE z)[q]? = some u → wr.cell? ⟨kg, m * 3 + q, none⟩ = some u := fun q u hq e => by rw [RowC.cell kyE_ok (H1.out.2.2.1.kept HJ.out.2 (fun _ _ f => f)) m q hlt3 hq, ← hz, e]
          have k0 := hcw 0 (.string z.1.tn) (by decide) rfl
          have k1 := hcw 1 (.string z.1.ar) (by decide) rfl
          have k2 := hcw 2 (.string z.2.s) (by decide) rfl
          rw [Nat.add_zero] at k0
          have HNX : Hid ((ks.take (m + 1)).any (fun x => decide (x = (b, n))) = ((ks.take m).any (fun x => decide (x = (b, n))) || decide (z = (b, n)))) := hid (by rw [List.take_succ_eq_append_getElem hlt3, List.any_append, ← hz]; simp)
          clear hcw hz hb9
          cases kn with
          | true =>
            have HN : Hid (true = (!th || (ks.take (m + 1)).any (fun x => decide (x = (b, n))))) := hid (by rw [HNX.out, ← Bool.or_assoc, ← HJ.out.1]; rfl)
            go_wp2_with fail
            go_quiet (fail)
            go_wp2_with fail
            go_roundg (gk - 1)
            case measure => omega
            case rel => exact ⟨m + 1, true, by omega, by omega, rfl, by go_num, hid ⟨HN.out, HJ.out.2.drewN _⟩⟩
          | false =>
            have s1 := streq12 z.1.tn b.tn
            have s2 := streq12 z.1.ar b.ar
            have s3 := streq12 z.2.s n.s
            obtain ⟨d1, e1⟩ : ∃ q, q = decide (z.1.tn = b.tn) := ⟨_, rfl⟩
            obtain ⟨d2, e2⟩ : ∃ q, q = decide (z.1.ar = b.ar) := ⟨_, rfl⟩
            obtain ⟨d3, e3⟩ : ∃ q, q = decide (z.2.s = n.s) := ⟨_, rfl⟩
            rw [← e1] at s1
            rw [← e2] at s2
            rw [← e3] at s3
            have HN : Hid ((d1 && d2 && d3) = (!th || (ks.take (m + 1)).any (fun x => decide (x = (b, n))))) := hid (by
              rw [HNX.out, ← Bool.or_assoc, ← HJ.out.1, Bool.false_or, e1, e2, e3, ← Bool.decide_and, ← Bool.decide_and]
              exact decide_eq_decide.2 ⟨fun e => Prod.ext (Bx.ext' e.1.1 e.1.2) (Nm.ext' e.2), fun e => by rw [e]; exact ⟨⟨rfl, rfl⟩, rfl⟩⟩)
            clear e1 e2 e3 HNX
            have hf := four12 d1 d2 d3
            rcases hf with (rfl | ⟨rfl, rfl⟩ | ⟨rfl, rfl, rfl⟩) | ⟨rfl, rfl, rfl⟩
            all_goals simp only [Bool.false_and, Bool.and_false, Bool.and_self] at HN
            all_goals go_wp2_with fail
            all_goals go_quiet (fail)
            all_goals go_wp2_with fail
            all_goals go_roundg (gk - 1)
            all_goals first
              | (case measure => omega)
              | skip
            all_goals exact ⟨m + 1, _, by omega, by omega, rfl, by go_num, hid ⟨HN.out, HJ.out.2.drewN _⟩⟩
        · have hlm : decide (m < kl) = false := decide_eq_false hltm
          have HJ2 : Hid (kn = (!th || ks.any (fun x => decide (x = (b, n))))) := hid (by
            have h9 := HJ.out.1
            rw [List.take_of_length_le (by have := HKL.out.1; omega)] at h9
            exact h9)
          have HW : Hid (Same w1 wr) := hid HJ.out.2
          clear HJ
          cases kn with
          | true =>
            have HN : Hid (KyI L T (i + 1) ks) := hid (HKI.out.skip hlt2 (by
              rw [HY.out.1, HY.out.2, ← HTH.out]
              have h9 := HJ2.out
              cases th with
              | false => exact .inl rfl
              | true =>
                right
                obtain ⟨x, hx, e⟩ := List.any_eq_true.1 h9.symm
                rw [of_decide_eq_true e] at hx
                exact hx))
            clear b0 b1 b2 hb9
            go_wp2_with fail
            go_roundg (gk0 - 1)
            case measure => omega
            case rel => exact ⟨i + 1, ko, kl, kc, ks, by omega, by omega, rfl, by go_num, hid ⟨H1.out.2.2.1.kept HW.out (fun _ _ f => f), HN.out, H1.out.1.trans HW.out⟩⟩
          | false =>
            have HN : Hid (isTh (ofK L L[i].b L[i].n) T = true ∧ (b, n) ∉ ks) := hid (by
              have h9 := HJ2.out
              rw [HY.out.1, HY.out.2, ← HTH.out]
              cases th with
              | false => cases h9
              | true =>
                refine ⟨rfl, fun e => ?_⟩
                have h8 : ks.any (fun x => decide (x = (b, n))) = true := List.any_eq_true.2 ⟨_, e, decide_eq_true rfl⟩
                rw [h8] at h9
                cases h9)
            clear hb9
            go_wp2_with (at_builtin; refine wpList_append_c _ kyE 3 kyE_ok (by decide) w.heap.size 95 36 (.agg #[.string ⟨#[]⟩, .string ⟨#[]⟩, .string ⟨#[]⟩]) 48 Try.underlying95 Try.infoKy rfl (by decide) rfl (.tmp 56) (.tmp 58) rfl (.slice ko kl kc) ks rfl ((H1.out.2.2.1.kept HW.out (fun _ _ f => f)).kept (show Same _ _ from (Kept.refl _ _).alloc _) (fun _ _ f => f)) ⟨wr.heap.size, 0, none⟩ 1 1 [((b, n) : Ky)] rfl rfl (cellsAt_ky _ (b, n)) (by have := HKL.out; simp only [List.length_singleton]; omega) (by have := (H1.out.1.trans HW.out).size; simp; omega) ?_)
            intro v5 w5 hr5 hg5
            obtain ⟨a5, c5, hv5, hs5, _⟩ := hr5.shape
            obtain ⟨g5, hg6⟩ := hs5 (by simp)
            subst hg6
            have hv9 : v5 = .slice (some ⟨g5, 0, none⟩) (kl + 1) c5 := by rw [hv5, List.length_append, HKL.out.1]; rfl
            clear hv5
            subst hv9
            have hk5 : Kept (fun k => (Value.slice ko kl kc).ownBlock = some k) wr w5 := Kept.trans (F := fun _ => False) ((Kept.refl _ wr).alloc _) ((Kept.refl _ _).grown hg5 (fun k e => .inl e)) (fun _ _ f => False.elim f) (fun _ _ e => e)
            have H5 : Hid (RowC w.heap.size 36 3 kyE w5 (.slice (some ⟨g5, 0, none⟩) (kl + 1) c5) (snk ks (b, n) kl) ∧ Same w w5) := hid ⟨by rw [← HKL.out.1, snk_all, HKL.out.1]; exact hr5, Kept.trans (H1.out.1.trans HW.out) hk5 (fun _ _ f => f) (fun k hlt e => by have := H1.out.2.2.1.ge e; omega)⟩
            clear hr5 hg5 hk5 hs5 b0 b1 b2 HW HJ2
            go_wp2_with fail
            go_loopg [12] kl (fun q z12 wr => ∃ m : Nat, m ≤ q ∧ m ≤ kl ∧ z12 = .int .i64 (m : Nat) ∧ Hid (RowC w.heap.size 36 3 kyE wr (.slice (some ⟨g5, 0, none⟩) (kl + 1) c5) (snk ks (b, n) m) ∧ (∀ x ∈ ks.drop m, ltK12 (b, n) x) ∧ Same w wr))
            case atStart =>
              exact ⟨kl, Nat.le_refl _, Nat.le_refl _, congrArg (Value.int .i64) (wrap64_nat12 kl HKL.out.2.2), hid ⟨H5.out.1, fun x hx => (by rw [List.drop_of_length_le (by have := HKL.out.1; omega)] at hx; cases hx), H5.out.2⟩⟩
            case round =>
              clear hqm hml
              obtain ⟨m, hqm, hml, rfl, HS⟩ := hrel
              by_cases hm0 : m = 0
              · have ip : decide ((0 : Int) < (m : Int)) = false := decide_eq_false (by omega)
                have ip2 : decide (0 < m) = false := decide_eq_false (by omega)
                have HF : Hid (KyI L T (i + 1) (snk ks (b, n) m)) := hid (HKI.out.add hlt2 HN.out.1 (snk_ris HKI.out.ris HN.out.2 (by have := HKL.out.1; omega) HS.out.2.1 (fun q e => by omega)) (fun x => by rw [HY.out.1, HY.out.2]; exact snk_mem _ _ _ _) (snk_len _ _ _ (by have := HKL.out.1; omega)))
                clear hm0
                go_wp2_with fail
                go_quiet (fail)
                go_wp2_with fail
                go_roundg (gk0 - 1)
                case measure => omega
                case rel => exact ⟨i + 1, _, _, _, _, by omega, by omega, rfl, by go_num, hid ⟨HS.out.1.kept (show Same _ _ from (Kept.refl _ _).drewN _) (fun _ _ f => f), HF.out, HS.out.2.2.drewN _⟩⟩
              · obtain ⟨q, hmq⟩ : ∃ q, m = q + 1 := ⟨m - 1, by omega⟩
                have hqk : q < ks.length := by have := HKL.out.1; omega
                have hmk : m ≤ ks.length := by omega
                obtain ⟨x, hx⟩ : ∃ x, x = ks[q] := ⟨_, rfl⟩
                have HX : Hid (m = q + 1 ∧ ∀ h : q < ks.length, ks[q] = x) := hid ⟨hmq, fun _ => hx.symm⟩
                have HCW : Hid (∀ w', RowC w.heap.size 36 3 kyE w' (.slice (some ⟨g5, 0, none⟩) (kl + 1) c5) (snk ks (b, n) m) → (w'.cell? ⟨g5, m * 3, none⟩ = some (.string b.tn) ∧ w'.cell? ⟨g5, m * 3 + 1, none⟩ = some (.string b.ar) ∧ w'.cell? ⟨g5, m * 3 + 2, none⟩ = some (.string n.s)) ∧ (w'.cell? ⟨g5, q * 3, none⟩ = some (.string x.1.tn) ∧ w'.cell? ⟨g5, q * 3 + 1, none⟩ = some (.string x.1.ar) ∧ w'.cell? ⟨g5, q * 3 + 2, none⟩ = some (.string x.2.s))) := hid (fun w' hr9 => by
                  have hl9 := snk_len ks (b, n) m hmk
                  have h1 : ∀ j u, j < 3 → (kyE (b, n))[j]? = some u → w'.cell? ⟨g5, m * 3 + j, none⟩ = some u := fun j u hj e => by rw [RowC.cell kyE_ok hr9 m j (by omega) hj, snk_at ks (b, n) m hmk, e]
                  have h2 : ∀ j u, j < 3 → (kyE x)[j]? = some u → w'.cell? ⟨g5, q * 3 + j, none⟩ = some u := fun j u hj e => by
                    have e9 : (snk ks (b, n) m)[q]'(by omega) = x := by subst hmq; rw [snk_before ks (b, n) q hqk, hx]
                    rw [RowC.cell kyE_ok hr9 q j (by omega) hj, e9, e]
                  exact ⟨⟨h1 0 _ (by decide) rfl, h1 1 _ (by decide) rfl, h1 2 _ (by decide) rfl⟩, ⟨h2 0 _ (by decide) rfl, h2 1 _ (by decide) rfl, h2 2 _ (by decide) rfl⟩⟩)
                have ip : decide ((0 : Int) < (m : Int)) = true := decide_eq_true (by omega)
                have ip2 : decide (0 < m) = true := decide_eq_true (by omega)
                have iw0 : (m : Int) - 1 = (q : Int) := by omega
                have iw : IntKind.i64.wrap (q : Int) = (q : Int) := by have := HKL.out.2.2; rw [IntKind.wrap_i64]; omega
                have ib : (q : Int) < ((kl + 1 : Nat) : Int) := by omega
                have ib2 : (m : Int) < ((kl + 1 : Nat) : Int) := by omega
                have ib3 : (q : Int) < (kl : Int) + 1 := by omega
                have ib4 : (m : Int) < (kl : Int) + 1 := by omega
                obtain ⟨⟨k0, k1, k2⟩, ⟨x0, x1, x2⟩⟩ := HCW.out wr HS.out.1
                have HMQ : Hid (m = q + 1) := hid hmq
                clear hx hm0 hmq
                go_upto_region 15 with fail
                go_region_held3 (fun w' => w'.cell? ⟨g5, m * 3, none⟩ = some (.string b.tn) ∧ w'.cell? ⟨g5, m * 3 + 1, none⟩ = some (.string b.ar) ∧ w'.cell? ⟨g5, m * 3 + 2, none⟩ = some (.string n.s) ∧ w'.cell? ⟨g5, q * 3, none⟩ = some (.string x.1.tn) ∧ w'.cell? ⟨g5, q * 3 + 1, none⟩ = some (.string x.1.ar) ∧ w'.cell? ⟨g5, q * 3 + 2, none⟩ = some (.string x.2.s))
                  (first
                    | (go_split_ands; exact ⟨hkc.cell (by assumption) (fun f => f), hkc.cell (by assumption) (fun f => f), hkc.cell (by assumption) (fun f => f), hkc.cell (by assumption) (fun f => f), hkc.cell (by assumption) (fun f => f), hkc.cell (by assumption) (fun f => f)⟩)
                    | go_keep)
                  (first
                    | (go_at_call 55; refine (rless_any _ (b, n) x).mono ?_; rintro e wk ⟨rfl, hkc⟩; have HKK : Hid (Same wr wk) := hid (by first | exact Kept.undrewC hkc | exact hkc)))
                have HS2 : Hid (RowC w.heap.size 36 3 kyE wk (.slice (some ⟨g5, 0, none⟩) (kl + 1) c5) (snk ks (b, n) m) ∧ Same w wk) := hid ⟨HS.out.1.kept HKK.out (fun _ _ f => f), HS.out.2.2.trans HKK.out⟩
                clear hkc HKK k0 k1 k2 x0 x1 x2
                obtain ⟨lb, hlb⟩ : ∃ q, q = bef12 (b, n) x := ⟨_, rfl⟩
                rw [← hlb]
                cases lb with
                | false =>
                  have HF : Hid (KyI L T (i + 1) (snk ks (b, n) m)) := hid (HKI.out.add hlt2 HN.out.1 (snk_ris HKI.out.ris HN.out.2 hmk HS.out.2.1 (fun q' e => by
                    obtain rfl : q' = q := by have := HMQ.out; omega
                    rw [HX.out.2 hqk, ← bef12_iff, ← hlb]
                    decide)) (fun x => by rw [HY.out.1, HY.out.2]; exact snk_mem _ _ _ _) (snk_len _ _ _ hmk))
                  clear hlb
                  go_wp2_with fail
                  go_roundg (gk0 - 1)
                  case measure => omega
                  case rel => exact ⟨i + 1, _, _, _, _, by omega, by omega, rfl, by go_num, hid ⟨HS2.out.1, HF.out, HS2.out.2⟩⟩
                | true =>
                  have HLT : Hid (ltK12 (b, n) x) := hid ((bef12_iff _ _).1 hlb.symm)
                  clear hlb
                  obtain ⟨wC, hwC⟩ : ∃ W, W = wk.alloc (.cells #[.string b.tn, .string b.ar, .string n.s] 36) := ⟨_, rfl⟩
                  obtain ⟨xb, hxb⟩ : ∃ y, y = wk.heap.size := ⟨_, rfl⟩
                  have hkC : Same wk wC := by rw [hwC]; exact (Kept.refl _ _).alloc _
                  have BC : Blk wC xb #[.string b.tn, .string b.ar, .string n.s] 36 := by rw [hwC, hxb]; exact Blk.new wk _ _
                  have HC : Hid (RowC w.heap.size 36 3 kyE wC (.slice (some ⟨g5, 0, none⟩) (kl + 1) c5) (snk ks (b, n) m) ∧ Same w wC ∧ Blk wC xb #[.string b.tn, .string b.ar, .string n.s] 36 ∧ g5 ≠ xb ∧ w.heap.size ≤ g5) := hid ⟨HS2.out.1.kept hkC (fun _ _ f => f), HS2.out.2.trans hkC, BC, by have := HS2.out.1.lt (j := g5) rfl; omega, HS2.out.1.ge (j := g5) rfl⟩
                  obtain ⟨⟨k0, k1, k2⟩, _⟩ := HCW.out wk HS2.out.1
                  clear hkC BC
                  go_upto_region 18 with fail
                  rw [← hwC, ← hxb]
                  clear hwC hxb k0 k1 k2
                  obtain ⟨⟨k0, k1, k2⟩, ⟨x0, x1, x2⟩⟩ := HCW.out wC HC.out.1
                  have z0 := HC.out.1.frozen (m * 3)
                  have z1 := HC.out.1.frozen (m * 3 + 1)
                  have z2 := HC.out.1.frozen (m * 3 + 2)
                  obtain ⟨wD, hwD⟩ : ∃ W, W = setK wC g5 m x := ⟨_, rfl⟩
                  have HD : Hid (RowC w.heap.size 36 3 kyE wD (.slice (some ⟨g5, 0, none⟩) (kl + 1) c5) ((snk ks (b, n) m).set m x) ∧ Same w wD ∧ Blk wD xb #[.string b.tn, .string b.ar, .string n.s] 36) := hid (by
                    rw [hwD]
                    exact ⟨HC.out.1.setK m x (by rw [snk_len _ _ _ hmk]; omega), Kept.trans HC.out.2.1 (setK_kept _ _ _ _) (fun _ _ f => f) (fun k hlt e => by have := HC.out.2.2.2.2; omega), HC.out.2.2.1.kept (setK_kept _ _ _ _) (fun e => HC.out.2.2.2.1 e.symm)⟩)
                  have hwD2 : wD = ((wC.setCell ⟨g5, m * 3, none⟩ (.string x.1.tn)).setCell ⟨g5, m * 3 + 1, none⟩ (.string x.1.ar)).setCell ⟨g5, m * 3 + 2, none⟩ (.string x.2.s) := hwD
                  go_upto_region 19 with fail
                  rw [← hwD2]
                  clear hwD hwD2 k0 k1 k2 x0 x1 x2 z0 z1 z2
                  have b0 := HD.out.2.2.cell 0
                  have b1 := HD.out.2.2.cell 1
                  have b2 := HD.out.2.2.cell 2
                  have z0 := HD.out.1.frozen (q * 3)
                  have z1 := HD.out.1.frozen (q * 3 + 1)
                  have z2 := HD.out.1.frozen (q * 3 + 2)
                  obtain ⟨y0, hy0⟩ : ∃ y, wD.cell? ⟨g5, q * 3, none⟩ = some y := ⟨_, RowC.cell kyE_ok HD.out.1 q 0 (by rw [List.length_set, snk_len _ _ _ hmk]; omega) (by decide)⟩
                  obtain ⟨y1, hy1⟩ : ∃ y, wD.cell? ⟨g5, q * 3 + 1, none⟩ = some y := ⟨_, RowC.cell kyE_ok HD.out.1 q 1 (by rw [List.length_set, snk_len _ _ _ hmk]; omega) (by decide)⟩
                  obtain ⟨y2, hy2⟩ : ∃ y, wD.cell? ⟨g5, q * 3 + 2, none⟩ = some y := ⟨_, RowC.cell kyE_ok HD.out.1 q 2 (by rw [List.length_set, snk_len _ _ _ hmk]; omega) (by decide)⟩
                  go_wp2_with fail
                  go_roundg (gk - 1)
                  case measure => have := HMQ.out; omega
                  case rel =>
                    refine ⟨q, by have := HMQ.out; omega, by have := HMQ.out; omega, by go_num, hid ⟨?_, fun y hy => ?_, ?_⟩⟩
                    · have h9 := HD.out.1.setK q (b, n) (by rw [List.length_set, snk_len _ _ _ hmk]; omega)
                      have e9 : ((snk ks (b, n) m).set m x).set q (b, n) = snk ks (b, n) q := by
                        have h8 := snk_swap ks (b, n) q hqk
                        rw [HX.out.2 hqk] at h8
                        rw [HMQ.out]
                        exact h8
                      rw [e9] at h9
                      exact h9
                    · rw [List.drop_eq_getElem_cons hqk, HX.out.2 hqk] at hy
                      rcases List.mem_cons.1 hy with rfl | e
                      · exact HLT.out
                      · exact HS.out.2.1 y (by rw [HMQ.out]; exact e)
                    · exact Kept.trans HD.out.2.1 (setK_kept wD g5 q (b, n)) (fun _ _ f => f) (fun k hlt e => by have := HC.out.2.2.2.2; omega)
    · have hli : decide (i < l) = false := decide_eq_false hlt
      have HE : Hid (KyI L T L.length ks) := hid (by rw [← HG.out.2.1, ← (show i = l by omega)]; exact HI.out.2.1)
      clear hst
      go_wp2_with fail
      go_ret
      exact ⟨_, ks, rfl, HI.out.1, HE.out, HI.out.2.2⟩

end Go.Proofs.Ythignkloecfcbaa
