/-
  The reference's layer 18: Read.
-/
import Derived.Test.YtjjhjbmmhkcapaaFmC
import Derived.Test.YtjjhjbmmhkcapaaFmAr
import Derived.Test.YtjjhjbmmhkcapaaLRef
import Derived.Test.YtjjhjbmmhkcapaaStepC
import Derived.BigRegion
namespace Go.Proofs.Ytjjhjbmmhkcapaa
open Go.RowKit

/-- A number that stands at a place, read from there. -/
theorem got_drop (cs : List Nat) (t i n : Nat) (h : t + i + n ≤ cs.length) : gotV cs ((t + i : Nat) : Int) n = n256 (((cs.drop t).drop i).take n) := by
  unfold gotV bytN
  rw [if_pos (by omega), List.drop_drop, Int.toNat_natCast]

/-- What a round of Read keeps: what is told, where it stands. -/
structure Rs (w0 : World) (cs : List Nat) (fs : List Fm) (q : List Nat) (e : Int) (w : World) (vo : Value) (gs : List Fm) (t : Nat) : Prop where
  kept : Same w0 w
  out : RowC w0.heap.size 23 2 fmE w vo gs
  le : t ≤ cs.length
  rd : ∃ hs, fs = gs ++ hs ∧ Rd (cs.drop t) hs q e

set_option maxRecDepth 100000 in
set_option maxHeartbeats 4000000 in
theorem rread18 (w : World) (a0 : Option Addr) (n c : Nat) (I : Nat → Prop) (cs : List Nat) (hsrc : Src w I (.slice a0 n c) cs) (hroom : n ≤ c) (hb : ∀ b ∈ cs, b < 256) (hlen : cs.length ≤ 90000000) (fs : List Fm) (q : List Nat) (e : Int) (hr : Rd cs fs q e) :
    Calls Try.prog 20 #[.slice a0 n c] w fun x w' => ∃ vo, x = .returned (.tuple #[vo, .int .i64 ((cs.length - q.length : Nat) : Int), .int .i64 e]) ∧ RowC w.heap.size 23 2 fmE w' vo fs ∧ Same w w' := by
  have hn : n = cs.length := (Src.at hsrc).1
  have HS := hid hsrc
  have HB := hid hb
  have HL := hid hn
  have HR := hid hr
  have hnl : n ≤ 90000000 := by omega
  clear hsrc hb hr hn hlen
  go_enter Try.func20, Try.ntmps20
  go_wp2_with fail
  go_loopg [5, 6] n (fun k vo zt wx => ∃ (t : Nat) (gs : List Fm), zt = .int .i64 (t : Nat) ∧ n - t ≤ k ∧ Hid (Rs w cs fs q e wx vo gs t))
  case atStart => exact ⟨0, [], rfl, by omega, hid ⟨Kept.refl _ _, RowC.nil, Nat.zero_le _, fs, rfl, HR.out⟩⟩
  case round =>
    obtain ⟨t, gs, rfl, hk, HX⟩ := hrel
    obtain ⟨vo, hvo⟩ : ∃ v, v = u5 := ⟨_, rfl⟩
    rw [← hvo] at HX ⊢
    clear hvo
    have htn : t ≤ n := by have := HX.out.le; have := HL.out; omega
    obtain ⟨r, hr⟩ : ∃ r, r = cs.drop t := ⟨_, rfl⟩
    have hrl : r.length = n - t := by rw [hr, List.length_drop, HL.out]
    have HRR := hid hr
    have HRL := hid hrl
    have HEND : Hid (∀ z, nx r = .stop z → fs = gs ∧ cs.length - q.length = t ∧ e = z) := hid (fun z hz => by
      obtain ⟨hs, hf, hrd⟩ := HX.out.rd
      rw [← hr] at hrd
      obtain ⟨rfl, rfl, rfl⟩ := hrd.det (.stop hz)
      rw [List.append_nil] at hf
      refine ⟨hf, ?_, rfl⟩
      rw [hrl]
      have := HL.out
      omega)
    clear hr hrl
    by_cases h4 : n - t < 4
    · have hi4 : (n : Int) - (t : Int) < 4 := by omega
      obtain ⟨h1, h2, h3⟩ := HEND.out 0 (by unfold nx; rw [if_pos (by rw [HRL.out]; exact h4)])
      have H2 := hid h2
      have H1 := hid h1
      subst h3
      clear h1 h2
      go_wp2_with fail
      go_ret3
      exact ⟨vo, by rw [H2.out]; rfl, by rw [H1.out]; exact HX.out.out, HX.out.kept⟩
    · obtain ⟨L, hL⟩ : ∃ L, L = lenF r := ⟨_, rfl⟩
      have hLlt := lenF_lt r (by rw [HRR.out]; exact fun b hb => HB.out b (List.mem_of_mem_drop hb))
      have hgot : gotV cs (t : Int) 4 = L := by
        have h9 := got_drop cs t 0 4 (by have := HL.out; omega)
        rw [hL]
        unfold lenF
        rw [if_neg (by rw [HRL.out]; omega), HRR.out]
        simpa using h9
      have HG : Hid (∀ W, Same w W → Calls Try.prog 32 #[.slice a0 n c, .int .i64 (t : Nat), .int .i64 4] W fun x w' => ∃ E, x = .returned (.tuple #[.int .u64 (L : Nat), .int .i64 E]) ∧ w' = W) := hid (fun W hk => by
        have h9 := rget_any W _ _ cs (HS.out.kept hk (fun _ _ _ f => f)) HB.out (by have := HL.out; omega) (t : Int) 4 (by decide)
        rw [hgot] at h9
        exact h9.mono (fun _ _ ⟨h1, h2⟩ => ⟨_, h1, h2⟩))
      rw [← hL] at hLlt
      have HLL := hid hL
      have hi4 : ¬ (n : Int) - (t : Int) < 4 := by omega
      clear hgot hL
      by_cases h20 : 20000 < L
      · obtain ⟨h1, h2, h3⟩ := HEND.out 180 (by unfold nx; rw [if_neg (by rw [HRL.out]; exact h4), if_pos (by rw [← HLL.out]; exact h20)])
        have H2 := hid h2
        have H1 := hid h1
        subst h3
        clear h1 h2
        go_wp2_with fail
        refine (HG.out _ HX.out.kept).mono ?_
        rintro x w1 ⟨E, rfl, rfl⟩
        go_wp2_with fail
        go_ret3
        exact ⟨vo, by rw [H2.out]; rfl, by rw [H1.out]; exact HX.out.out, HX.out.kept⟩
      · by_cases hz5 : r[4]? = some 0
        · obtain ⟨h1, h2, h3⟩ := HEND.out 182 (by unfold nx; rw [if_neg (by rw [HRL.out]; exact h4), if_neg (by rw [← HLL.out]; exact h20), if_pos hz5])
          have h5 : 5 ≤ n - t := by have := (List.getElem?_eq_some_iff.1 hz5).1; rw [HRL.out] at this; exact this
          have H2 := hid h2
          have H1 := hid h1
          have HZ5 := hid hz5
          subst h3
          clear h1 h2 hz5
          obtain ⟨b, o, rfl, ck⟩ : ∃ b o, a0 = some ⟨b, o, none⟩ ∧ wr.cell? ⟨b, o + (t + 4), none⟩ = some (.int .u8 0) := by
            obtain ⟨ao, cp, e9, h9⟩ := HS.out.kept HX.out.kept (fun _ _ _ f => f)
            injection e9 with e1 e2 e3
            obtain ⟨b', o', e4, _, h3⟩ := h9 (by intro e; have := HL.out; rw [e] at this; simp at this; omega)
            refine ⟨b', o', e1.trans e4, ?_⟩
            rw [h3 (t + 4) (by have := HL.out; omega)]
            have h8 := HZ5.out
            rw [HRR.out, List.getElem?_drop, List.getElem?_eq_getElem (by have := HL.out; omega)] at h8
            injection h8 with h8
            rw [h8]
            rfl
          go_wp2_with fail
          refine (HG.out _ HX.out.kept).mono ?_
          rintro x w1 ⟨E, rfl, rfl⟩
          go_wp2_with fail
          go_ret3
          exact ⟨vo, by rw [H2.out]; rfl, by rw [H1.out]; exact HX.out.out, HX.out.kept⟩
        · have hno5 : 5 ≤ n - t → ∃ b o k, a0 = some ⟨b, o, none⟩ ∧ wr.cell? ⟨b, o + (t + 4), none⟩ = some (.int .u8 (k : Nat)) ∧ k ≠ 0 ∧ r[4]? = some k ∧ k < 256 := fun h5 => by
            obtain ⟨ao, cp, e9, h9⟩ := HS.out.kept HX.out.kept (fun _ _ _ f => f)
            injection e9 with e1 e2 e3
            obtain ⟨b', o', e4, _, h3⟩ := h9 (by intro e; have := HL.out; rw [e] at this; simp at this; omega)
            have hlt : t + 4 < cs.length := by have := HL.out; omega
            have h8 : r[4]? = some cs[t + 4] := by rw [HRR.out, List.getElem?_drop, List.getElem?_eq_getElem hlt]
            refine ⟨b', o', cs[t + 4], e1.trans e4, h3 (t + 4) hlt, ?_, h8, HB.out _ (List.getElem_mem _)⟩
            intro e0
            rw [e0] at h8
            exact hz5 h8
          have HNO5 := hid hno5
          clear hno5
          by_cases h9 : n - t < L + 9
          · obtain ⟨h1, h2, h3⟩ := HEND.out 0 (by unfold nx; rw [if_neg (by rw [HRL.out]; exact h4), if_neg (by rw [← HLL.out]; exact h20), if_neg hz5, if_pos (by rw [HRL.out, ← HLL.out]; exact h9)])
            have H2 := hid h2
            have H1 := hid h1
            have i9 : (n : Int) - (t : Int) < (L : Int) + 9 := by omega
            subst h3
            clear h1 h2 hz5
            by_cases h5 : 5 ≤ n - t
            · obtain ⟨b, o, k, rfl, ck, hk0, _, _⟩ := HNO5.out h5
              have i5 : (5 : Int) ≤ (n : Int) - (t : Int) := by omega
              go_wp2_with fail
              refine (HG.out _ HX.out.kept).mono ?_
              rintro x w1 ⟨E, rfl, rfl⟩
              go_wp2_with fail
              go_ret3
              exact ⟨vo, by rw [H2.out]; rfl, by rw [H1.out]; exact HX.out.out, HX.out.kept⟩
            · have i5 : ¬ (5 : Int) ≤ (n : Int) - (t : Int) := by omega
              go_wp2_with fail
              refine (HG.out _ HX.out.kept).mono ?_
              rintro x w1 ⟨E, rfl, rfl⟩
              go_wp2_with fail
              go_ret3
              exact ⟨vo, by rw [H2.out]; rfl, by rw [H1.out]; exact HX.out.out, HX.out.kept⟩
          · have h5 : 5 ≤ n - t := by omega
            obtain ⟨b, o, k, rfl, ck, hk0, hk4, hk256⟩ := HNO5.out h5
            have i5 : (5 : Int) ≤ (n : Int) - (t : Int) := by omega
            have i9 : ¬ (n : Int) - (t : Int) < (L : Int) + 9 := by omega
            have HG2 : Hid (∀ W, Same w W → Calls Try.prog 32 #[.slice (some ⟨b, o, none⟩) n c, .int .i64 ((t : Int) + 5 + (L : Int)), .int .i64 4] W fun x w' => ∃ E, x = .returned (.tuple #[.int .u64 (n256 ((r.drop (L + 5)).take 4) : Nat), .int .i64 E]) ∧ w' = W) := hid (fun W hk => by
              have h9 := rget_any W _ _ cs (HS.out.kept hk (fun _ _ _ f => f)) HB.out (by have := HL.out; omega) (((t + (L + 5) : Nat)) : Int) 4 (by decide)
              rw [got_drop cs t (L + 5) 4 (by have := HL.out; omega), ← HRR.out, show ((t + (L + 5) : Nat) : Int) = (t : Int) + 5 + (L : Int) by omega] at h9
              exact h9.mono (fun _ _ ⟨h1, h2⟩ => ⟨_, h1, h2⟩))
            have HSM : Hid (∀ W, Same w W → ∀ c', Calls Try.prog 26 #[.slice (some ⟨b, o + (t + 4), none⟩) (t + 5 + L - (t + 4)) c'] W fun x w' => x = .returned (.int .u32 (more 0 ((r.drop 4).take (L + 1)) : Nat)) ∧ w' = W) := hid (fun W hk c' => by
              rw [show t + 5 + L - (t + 4) = L + 1 by omega]
              refine rsum_any W _ I _ ?_ (fun b hb => HB.out b ?_) (by rw [List.length_take]; omega)
              · have h9 := (HS.out.kept hk (fun _ _ _ f => f)).sub (a' := some ⟨b, o + (t + 4), none⟩) (t + 4) (L + 1) (by have := HL.out; omega) (fun _ b' o' e => by injection e with e; injection e with e1 e2; subst e1 e2; rfl) c'
                rw [← List.drop_drop, ← HRR.out] at h9
                exact h9
              · have h9 := List.mem_of_mem_drop (List.mem_of_mem_take hb)
                rw [HRR.out] at h9
                exact List.mem_of_mem_drop h9)
            obtain ⟨S1, hS1⟩ : ∃ S, S = n256 ((r.drop (L + 5)).take 4) := ⟨_, rfl⟩
            obtain ⟨S2, hS2⟩ : ∃ S, S = more 0 ((r.drop 4).take (L + 1)) := ⟨_, rfl⟩
            have hS1l : S1 < 4294967296 := by
              rw [hS1]
              have h8 := n256_lt ((r.drop (L + 5)).take 4) (fun b hb => by
                have h9 := List.mem_of_mem_drop (List.mem_of_mem_take hb)
                rw [HRR.out] at h9
                exact HB.out b (List.mem_of_mem_drop h9))
              exact Nat.lt_of_lt_of_le h8 (Nat.pow_le_pow_right (by omega) (List.length_take_le _ _))
            rw [← hS1] at HG2
            rw [← hS2] at HSM
            have HSF : Hid (sumF r = (S1 == S2)) := hid (by unfold sumF; rw [← HLL.out, hS1, hS2])
            have ec1 : IntKind.i64.wrap ((t : Int) + 5 + (L : Int)) = (t : Int) + 5 + (L : Int) := by rw [IntKind.wrap_i64]; omega
            have ec2 : ¬ c = t + 4 := by omega
            have HN := hid (show 4 ≤ r.length ∧ L ≤ 20000 ∧ L + 9 ≤ r.length by have := HRL.out; omega)
            have HZ := hid hz5
            have HK4 := hid hk4
            clear hS1 hS2 hz5 hk4
            by_cases hse : S1 = S2
            · have hnx : nx r = .one (frmF r) (r.drop (L + 9)) := by
                have h9 := nx_is (r := r) HN.out.1 (by rw [← HLL.out]; exact HN.out.2.1) HZ.out (by rw [← HLL.out]; exact HN.out.2.2) (by rw [HSF.out]; simp [hse])
                rw [← HLL.out] at h9
                exact h9
              have HNX := hid hnx
              subst hse
              clear hnx
              go_wp2_with fail
              refine (HG.out _ HX.out.kept).mono ?_
              rintro x w1 ⟨E, rfl, rfl⟩
              go_wp2_with fail
              refine (HG2.out _ HX.out.kept).mono ?_
              rintro x w2 ⟨E2, rfl, rfl⟩
              go_wp2_with fail
              refine (HSM.out _ HX.out.kept _).mono ?_
              rintro x w3 ⟨rfl, rfl⟩
              obtain ⟨T, hT⟩ : ∃ T, T = (frmF r).s := ⟨_, rfl⟩
              have hcv : ∀ W, Same w3 W → (convert 25 9 (.slice (some ⟨b, o + (t + 5), none⟩) L (c - (t + 5)))).run Try.prog W = .ok (.string T) W := fun W hkW => by
                rw [hT]
                refine str8 (I := I) ?_ ?_
                · have h9 := (HS.out.kept (Same.trans HX.out.kept hkW) (fun _ _ _ f => f)).sub (a' := some ⟨b, o + (t + 5), none⟩) (t + 5) L (by have := HL.out; omega) (fun _ b' o' e => by injection e with e; injection e with e1 e2; subst e1 e2; rfl) (c - (t + 5))
                  rw [← List.drop_drop, ← HRR.out] at h9
                  rw [← HLL.out]
                  exact h9
                · rw [← HLL.out, List.length_take, List.length_drop]; have := HN.out.2.2; omega
              have hcv1 := hcv w3 (Kept.refl _ _)
              have hcv2 := hcv w3.drew (Kept.refl _ _).drew
              have HFR : Hid (frmF r = ⟨(k : Nat), T⟩) := hid (by
                rw [hT]
                unfold frmF
                rw [HK4.out]; rfl)
              have HCA : Hid (∀ W : World, CellsAt (W.alloc (.cells #[.int .i64 (k : Nat), .string T] 23)) ⟨W.heap.size, 0, none⟩ ([frmF r].flatMap fmE)) := hid (fun W => by rw [HFR.out]; exact cellsAt_fm W ⟨(k : Nat), T⟩)
              have HLN : Hid (gs.length + [frmF r].length ≤ 1000000000) := hid (by
                obtain ⟨hs, hf, hrd⟩ := HX.out.rd
                have h1 := HR.out.many
                rw [hf, List.length_append] at h1
                have := HL.out
                simp
                omega)
              have ek : IntKind.i64.wrap (k : Int) = (k : Int) := wrap64_small k (by omega)
              have ec3 : ¬ c = t + 5 := by omega
              have ew1 : IntKind.i64.wrap ((t : Int) + 4) = (t : Int) + 4 := by rw [IntKind.wrap_i64]; omega
              have ew2 : IntKind.i64.wrap ((t : Int) + 5) = (t : Int) + 5 := by rw [IntKind.wrap_i64]; omega
              have el1 : (t : Int) + 4 < (n : Int) := by omega
              have el2 : (0 : Int) ≤ (t : Int) + 4 := by omega
              have el3 : (0 : Int) ≤ (t : Int) + 5 := by omega
              have el4 : (t : Int) + 5 ≤ (t : Int) + 5 + (L : Int) := by omega
              have el5 : (t : Int) + 5 + (L : Int) ≤ (c : Int) := by omega
              have el6 : (0 : Int) ≤ (t : Int) + 5 + (L : Int) := by omega
              have et1 : ((t : Int) + 4).toNat = t + 4 := by omega
              have et2 : ((t : Int) + 5).toNat = t + 5 := by omega
              have et3 : ((t : Int) + 5 + (L : Int)).toNat = t + 5 + L := by omega
              clear hcv hT
              go_upto_region 16 with fail
              go_region_law (refine step_appendC fmE 2 fmE_ok w.heap.size 36 23 (.agg #[.int .i64 0, .string ⟨#[]⟩]) 24 Try.underlying36 Try.infoFm rfl (by decide) (by rfl) (.tmp 78) (.tmp 95) (by rfl) vo gs (by rfl) (HX.out.out.kept (show Same w3 _ by first | exact ((Kept.refl _ _).drew).alloc _ | exact ((Kept.refl _ _).alloc _).drew | exact (Kept.refl _ _).alloc _) (fun _ _ f => f)) ⟨w3.heap.size, 0, none⟩ 1 1 [frmF r] (by rfl) (by rfl) (by first | exact HCA.out _ | exact HCA.out w3) HLN.out (by have := HX.out.kept.size; simp; omega) ?_; intro v5 w5 hr5 hg5 hb5; have HR5 := hid hr5; have HG5 : Hid (Same w w5) := hid (Same.then HX.out.kept (show Kept (fun k => vo.ownBlock = some k) w3 w5 from Kept.trans (show Same w3 (w3.alloc (.cells #[.int .i64 (k : Nat), .string T] 23)).drew from ((Kept.refl _ _).alloc _).drew) ((Kept.refl _ _).grown hg5 (fun k e => .inl e)) (fun _ _ f => f.elim) (fun _ _ e => e)) (fun k hk e => by have := HX.out.out.ge e; omega)); clear hr5 hg5 hb5)
              all_goals
                have HX5 : Hid (Rs w cs fs q e w5 v5 (gs ++ [frmF r]) (t + L + 9)) := hid (by
                  obtain ⟨hs, hf, hrd⟩ := HX.out.rd
                  rw [← HRR.out] at hrd
                  refine ⟨HG5.out, HR5.out, by have := HL.out; omega, ?_⟩
                  cases hrd with
                  | stop h7 => rw [HNX.out] at h7; exact Nx.noConfusion h7
                  | one h7 h8 =>
                    rw [HNX.out] at h7
                    injection h7 with e7 e8
                    subst e7 e8
                    refine ⟨_, by rw [hf, List.append_assoc]; rfl, ?_⟩
                    rw [HRR.out, List.drop_drop] at h8
                    exact h8)
                clear HR5 HG5
              all_goals go_wp2_with fail
              all_goals go_roundg (gk - 1)
              all_goals first
                | (case measure => omega)
                | skip
              all_goals exact ⟨t + L + 9, _, by go_num, by omega, HX5⟩
            · obtain ⟨h1, h2, h3⟩ := HEND.out 181 (by unfold nx; rw [if_neg (by have := HN.out.1; omega), if_neg (by rw [← HLL.out]; exact h20), if_neg HZ.out, if_neg (by rw [← HLL.out]; have := HN.out.2.2; omega), if_pos (by rw [HSF.out]; simp [hse])])
              have H2 := hid h2
              have H1 := hid h1
              have hse2 : ((S1 : Int) != (S2 : Int)) = true := by simp; omega
              subst h3
              clear h1 h2
              go_wp2_with fail
              refine (HG.out _ HX.out.kept).mono ?_
              rintro x w1 ⟨E, rfl, rfl⟩
              go_wp2_with fail
              refine (HG2.out _ HX.out.kept).mono ?_
              rintro x w2 ⟨E2, rfl, rfl⟩
              go_wp2_with fail
              refine (HSM.out _ HX.out.kept _).mono ?_
              rintro x w3 ⟨rfl, rfl⟩
              go_wp2_with fail
              go_ret3
              exact ⟨vo, by rw [H2.out]; rfl, by rw [H1.out]; exact HX.out.out, HX.out.kept⟩

theorem rread_any (w : World) (v : Value) (I : Nat → Prop) (cs : List Nat) (hsrc : Src w I v cs) (hroom : ∀ a n c, v = .slice a n c → n ≤ c) (hb : ∀ b ∈ cs, b < 256) (hlen : cs.length ≤ 90000000) {fs : List Fm} {q : List Nat} {e : Int} (hr : Rd cs fs q e) :
    Calls Try.prog 20 #[v] w fun x w' => ∃ vo, x = .returned (.tuple #[vo, .int .i64 ((cs.length - q.length : Nat) : Int), .int .i64 e]) ∧ RowC w.heap.size 23 2 fmE w' vo fs ∧ Same w w' := by
  obtain ⟨a, c, rfl, _⟩ := id hsrc
  exact rread18 w a _ c I cs hsrc (hroom _ _ _ rfl) hb hlen fs q e hr

end Go.Proofs.Ytjjhjbmmhkcapaa
