/-
  FrameFeeds' walk.
-/
import Derived.Test.YtjjhjbmmhkcapaaFmT
namespace Go.Proofs.Ytjjhjbmmhkcapaa
open Go.RowKit

theorem allP_lt {W : World} {a : Option Addr} {n : Nat} {P : Nat → Pt18} (hP : Pts18 W a n P) : ∀ i, i ≤ n → ∀ b ∈ allP P i, b < 256
  | 0, _, _, hb => by cases hb
  | i + 1, hi, b, hb => by
    rcases List.mem_append.1 hb with h | h
    · exact allP_lt hP i (by omega) b h
    · exact (hP i (by omega)).1.1.byt b h

theorem allP_le (P : Nat → Pt18) {i n : Nat} (h : i ≤ n) : (allP P i).length ≤ (allP P n).length := by
  obtain ⟨k, rfl⟩ : ∃ k, n = i + k := ⟨n - i, by omega⟩
  clear h
  induction k with
  | zero => exact Nat.le_refl _
  | succ k ih => rw [← Nat.add_assoc, allP, List.length_append]; omega

/-- What stands between the rounds: the decoder, and all that was fed while nothing was wrong. -/
structure Fds (W : World) (d : Nat) (w : World) (va : Value) (A : List Nat) (v : Value) (gs : List Fm) (q : List Nat) (e : Int) : Prop where
  kept : Same W w
  rd : Rd A gs q e
  dc : Dc w d v (heldF q e) e
  dg : ∀ k, Fd d v k → W.heap.size ≤ k
  row : Row w va A
  rg : ∀ k, va.ownBlock = some k → W.heap.size ≤ k ∧ ¬ Fd d v k
  byt : ∀ b ∈ A, b < 256
  len : A.length ≤ 1048576

theorem Rd.stuck {a b : List Nat} {fs hs : List Fm} {q q2 : List Nat} {e e2 : Int} (h : Rd a fs q e) (k : Rd (a ++ b) (fs ++ hs) q2 e2) (he : e ≠ 0) : hs = [] ∧ e2 = e := by
  obtain ⟨h1, _, h2⟩ := k.det (h.wrong he b)
  refine ⟨?_, h2⟩
  have h3 : (fs ++ hs).length = fs.length := by rw [h1]
  rw [List.length_append] at h3
  exact List.eq_nil_of_length_eq_zero (by omega)

set_option maxRecDepth 100000 in
set_option maxHeartbeats 8000000 in
theorem frameFeeds_all (a : Option Addr) (len cap : Nat) (P : Nat → Pt18) (W : World) (hP : Pts18 W a len P) (hZ : SzP len P) :
    Calls Try.prog 4 #[.slice a len cap] W fun e W' => e = .returned (.bool true) ∧ Below W.heap.size W W' := by
  have HP := hid hP
  have H1 := large_any W a len cap P hP hZ
  clear hP hZ
  go_enter Try.func4, Try.ntmps4
  go_wp2_with fail
  refine H1.mono ?_
  rintro x w1 ⟨bl, rfl, hbl, hk1⟩
  have HK1 := hid hk1
  clear H1 hk1
  cases bl with
  | true =>
    clear hbl
    go_wp2_with fail
    refine (awake18 w1).mono ?_
    rintro x w2 ⟨rfl, hk⟩
    go_wp2_with fail
    go_ret
    exact ⟨rfl, (Same.trans HK1.out hk).below (Nat.le_refl _) (fun _ _ f => f)⟩
  | false =>
    have hsum := hbl rfl
    have HSUM := hid hsum
    clear hbl hsum
    by_cases hl : 2000 < len
    · go_wp2_with fail
      refine (awake18 w1).mono ?_
      rintro x w2 ⟨rfl, hk⟩
      go_wp2_with fail
      go_ret
      exact ⟨rfl, (Same.trans HK1.out hk).below (Nat.le_refl _) (fun _ _ f => f)⟩
    · go_wp2_with fail
      refine (dnew18 w1).mono ?_
      rintro x w2 ⟨d, rfl, hd, hk2, hd2⟩
      have HX : Hid (Fds W d w2 (.slice none 0 0) (allP P 0) (.slice none 0 0) [] [] 0) := hid ⟨Same.trans HK1.out hk2, .stop rfl, hd, (fun k hf => by
        have := HK1.out.size
        rcases hf with e | e
        · omega
        · cases e), World.ownsRow_nil w2 0 5 1, (fun k e => by cases e), (fun b hb => by cases hb), Nat.zero_le _⟩
      clear hd hk2 hd2
      go_wp2_with fail
      go_loopg [4, 5, 6, 7] len (fun k va zt ze zi wx => ∃ (i : Nat) (A : List Nat) (v : Value) (gs : List Fm) (q : List Nat) (e : Int), zi = .int .i64 (i : Nat) ∧ zt = .int .i64 (gs.length : Nat) ∧ ze = .int .i64 e ∧ i ≤ len ∧ len - i ≤ k ∧ Hid (Fds W d wx va A v gs q e) ∧ Hid (e = 0 → A = allP P i))
      case atStart => exact ⟨0, _, _, [], _, _, rfl, rfl, rfl, by omega, by omega, HX, hid (fun _ => rfl)⟩
      case round =>
        clear HX
        obtain ⟨i, A, v, gs, q, e, rfl, rfl, rfl, hi, hik, HX, HA⟩ := hrel
        obtain ⟨va, hva⟩ : ∃ v, v = u4 := ⟨_, rfl⟩
        rw [← hva] at HX ⊢
        clear hva
        by_cases hlt : i < len
        · obtain ⟨⟨harg, hbl⟩, b, o, hab, hc⟩ := HP.out i hlt
          have cz := HX.out.kept.cell hc (fun f => f)
          obtain ⟨⟨pa, pn, pc, pb⟩, hp⟩ : ∃ p, P i = p := ⟨_, rfl⟩
          rw [hp] at harg hbl cz hc
          simp only at harg hbl cz hc
          have HCW := hid hc
          subst hab
          have HARG := hid harg
          have HPI : Hid (allP P (i + 1) = allP P i ++ pb) := hid (by rw [allP, hp])
          have hpl : pn ≤ 1048576 := by
            have h1 := allP_le P (show i + 1 ≤ len by omega)
            have h2 := HSUM.out
            rw [HPI.out, List.length_append] at h1
            omega
          have HBL := hid hbl
          have hli2 : (i : Int) < (len : Int) := by omega
          have hLN := lend_any wr (.slice pa pn pc) _ pb (harg.src.kept HX.out.kept (fun _ _ _ f => f)) (by omega)
          rw [hbl] at hLN
          clear hc hp harg hbl
          go_wp2_with fail
          refine hLN.mono ?_
          rintro x w3 ⟨g, rfl, hr3, hk3, hg3⟩
          have HR3 := hid hr3
          have HK3 := hid hk3
          have HG3 : Hid (wr.heap.size ≤ g ∧ g < w3.heap.size ∧ ¬ Fd d v g) := hid ⟨hg3, hr3.lt rfl, fun hf => by have := HX.out.dc.lt hf; omega⟩
          obtain ⟨hs, q2, e2, hrd, hF0⟩ := dfeed_more HX.out.rd (HX.out.dc.same hk3) (bs := pb) HARG.out.byt (by have := HBL.out; omega)
          have hF := hF0 (fun k => k = g) (.slice (some ⟨g, 0, none⟩) pn (pn + 2)) (by
            have h9 := Row.cut (bs := pb) (cs := [165, 90]) hr3
            rw [HBL.out] at h9
            exact (Src.ofRow h9).mono (fun k e => by injection e with e; exact e.symm)) (fun k hk => by subst hk; exact HG3.out.2.2) (fun n c e => by cases e)
          have HRD := hid hrd
          clear hr3 hk3 hg3 hrd hF0 hLN cz
          go_wp2_with fail
          refine hF.mono ?_
          rintro x w4 ⟨vo, v4, rfl, ho4, hd4, hk4, hn4⟩
          obtain ⟨a4, c4, hv4, _⟩ := ho4.shape
          obtain ⟨m4, hm4⟩ : ∃ m, m = hs.length := ⟨_, rfl⟩
          rw [← hm4] at hv4
          subst hv4
          have HM4 := hid hm4
          have HN4 := hid hn4
          have HSW4 : Hid (Same W w4) := hid ((Same.trans HX.out.kept HK3.out).then hk4 (fun k hk hf => by have := HX.out.dg k hf; omega))
          have hr4 := HR3.out.kept hk4 (fun k e hf => by injection e with e; subst e; exact HG3.out.2.2 hf)
          have HBK := keepBack_any w4 g (.slice pa pn pc) _ pb (by rw [HBL.out]; exact hr4) (HARG.out.src.kept HSW4.out (fun _ _ _ f => f)) (by have := HBL.out; omega) HARG.out.byt
          rw [HBL.out] at HBK
          have HG4 : Hid (¬ Fd d v4 g ∧ (∀ k, (Value.slice a4 m4 c4).ownBlock = some k → k ≠ g)) := hid ⟨fun hf => by
            rcases hn4 g hf with h9 | h9
            · exact HG3.out.2.2 h9
            · have := HG3.out.2.1; omega, fun k hk => by
            have h1 := ho4.ge hk
            have := HG3.out.2.1
            omega⟩
          have HD4 := hid hd4
          have HO4 := hid ho4
          have HVA4 : Hid (Row w4 va A) := hid ((HX.out.row.kept HK3.out (fun _ _ f => f)).kept hk4 (fun k e hf => (HX.out.rg k e).2 hf))
          have cz := HSW4.out.cell HCW.out (fun f => f)
          clear ho4 hd4 hk4 hn4 hF hm4 hr4
          go_wp2_with fail
          refine HBK.mono ?_
          rintro x w5 ⟨rfl, hk5⟩
          have HSW5 : Hid (Same W w5) := hid (HSW4.out.then hk5 (fun k hk e => by
            have h1 := HG3.out.1
            have h2 := HX.out.kept.size
            omega))
          have HD5 : Hid (Dc w5 d v4 (heldF q2 e2) e2) := hid (HD4.out.kept hk5 (fun k hf e => by subst e; exact HG4.out.1 hf))
          have HO5 : Hid (RowC w3.heap.size 23 2 fmE w5 (.slice a4 m4 c4) hs) := hid (HO4.out.kept hk5 (fun k e => HG4.out.2 k e))
          have HVA5 : Hid (Row w5 va A) := hid (HVA4.out.kept hk5 (fun k e e2 => by
            have h1 := HX.out.row.lt e
            have h2 := HG3.out.1
            omega))
          have HDG : Hid (∀ k, Fd d v4 k → W.heap.size ≤ k) := hid (fun k hf => by
            rcases HN4.out k hf with h9 | h9
            · exact HX.out.dg k h9
            · have h1 := HX.out.kept.size
              have h2 := HK3.out.size
              omega)
          have HRG : Hid (∀ k, va.ownBlock = some k → W.heap.size ≤ k ∧ ¬ Fd d v4 k) := hid (fun k e => ⟨(HX.out.rg k e).1, fun hf => by
            rcases HN4.out k hf with h9 | h9
            · exact (HX.out.rg k e).2 h9
            · have h1 := HX.out.row.lt e
              have h2 := HK3.out.size
              omega⟩)
          have cz := HSW5.out.cell HCW.out (fun f => f)
          clear hk5 HBK
          by_cases he : e = 0
          · subst he
            have hA := HA.out rfl
            have HSA : Hid (Src w5 (fun k => k < W.heap.size) (.slice pa pn pc) pb) := hid (HARG.out.src.kept HSW5.out (fun _ _ _ f => f))
            have HLE : Hid (A.length + pb.length ≤ 1048576) := hid (by
              have h1 := allP_le P (show i + 1 ≤ len by omega)
              have h2 := HSUM.out
              rw [HPI.out, List.length_append, ← hA] at h1
              omega)
            have HAA : Hid (A ++ pb = allP P (i + 1)) := hid (by rw [HPI.out, hA])
            have HTL : Hid (gs.length + hs.length ≤ 1048576) := hid (by
              have h1 := HRD.out.many
              rw [List.length_append, List.length_append] at h1
              have := HLE.out
              omega)
            obtain ⟨tg, htg⟩ : ∃ t, t = gs.length := ⟨_, rfl⟩
            rw [← htg]
            have HTG := hid htg
            clear hA htg
            go_wp2_with (at_builtin; refine wpList_append_any _ rfl (.tmp 70) (.tmp 74) rfl va A rfl HVA5.out _ (.slice pa pn pc) pb rfl HARG.out.nil HSA.out (by have := HLE.out; omega) ?_)
            intro v6 w6 hr6 hg6 ho6
            have hk6 : Kept (fun k => va.ownBlock = some k) w5 w6 := (Kept.refl (fun k => va.ownBlock = some k) w5).grown hg6 (fun k e => .inl e)
            have HSW6 : Hid (Same W w6) := hid (HSW5.out.then hk6 (fun k hk e => by have := (HRG.out k e).1; omega))
            have HD6 := hid (HD5.out.kept hk6 (fun k hf e => (HRG.out k e).2 hf))
            have HO6 := hid (HO5.out.kept hk6 (fun k e e2 => owns_off HO5.out HVA5.out (by decide) k e e2))
            have HR6 := hid hr6
            have HRG6 : Hid (∀ k, v6.ownBlock = some k → W.heap.size ≤ k ∧ ¬ Fd d v4 k) := hid (fun k e => by
              rcases ho6 with h9 | h9
              · rw [h9] at e
                exact HRG.out k e
              · rw [h9] at e
                injection e with e
                refine ⟨by have := HSW5.out.size; omega, fun hf => ?_⟩
                have := HD5.out.lt hf
                omega)
            have HB6 : Hid (∀ b ∈ A ++ pb, b < 256) := hid (fun b hb => (List.mem_append.1 hb).elim (HX.out.byt b) (HARG.out.byt b))
            have hRE := rread_any w6 v6 _ (A ++ pb) (Src.ofRow hr6) (Row.cap18 hr6) HB6.out (by rw [List.length_append]; have := HLE.out; omega) HRD.out
            clear hr6 hg6 ho6 hk6 cz
            go_wp2_with fail
            refine hRE.mono ?_
            rintro x w7 ⟨vo7, rfl, ho7, hk7⟩
            obtain ⟨a7, c7, hv7, _, _, hle7, _⟩ := ho7.shape
            obtain ⟨n7, hn7⟩ : ∃ n, n = (gs ++ hs).length := ⟨_, rfl⟩
            rw [← hn7] at hv7 hle7
            subst hv7
            have HK7 := hid hk7
            have htn : tg ≤ n7 := by rw [hn7, List.length_append, HTG.out]; omega
            have HSM : Hid (∀ a' c' W', Same w7 W' → (tg < n7 → ∀ b o, a7 = some ⟨b, o, none⟩ → a' = some ⟨b, o + tg * 2, none⟩) → n7 - tg ≤ c' → Calls Try.prog 21 #[.slice a4 m4 c4, .slice a' (n7 - tg) c'] W' fun e w' => e = .returned (.bool true) ∧ Same W' w') := hid (fun a' c' W' hkW h1 h2 => by
              have h9 := ((SrcC.ofRow fmE_ok ho7).same18 hkW).sub18 (a' := a') tg (by rw [← hn7]; exact htn) (by rw [← hn7]; exact h1) c' h2
              rw [HTG.out, List.drop_left] at h9
              rw [HTG.out]
              exact fsame_true W' _ _ _ _ hs ((SrcC.ofRow fmE_ok HO6.out).same18 (Same.trans hk7 hkW)) h9 (by have := HTL.out; omega))
            have HN7 : Hid (n7 = (gs ++ hs).length) := hid hn7
            have HA7 : Hid (a7 = none → c7 = 0) := hid (by assumption)
            clear ho7 hk7 hRE hn7
            have HWD : Hid (wantD (heldF q2 e2) e2 = wantD q2 e2) := hid (by
              unfold wantD heldF
              by_cases h0 : e2 = 0
              · rw [if_pos h0, if_pos h0, if_pos h0]
              · rw [if_neg h0, if_neg h0])
            by_cases hcap : c7 = tg
            case' pos =>
              obtain rfl : n7 = tg := by omega
              have hS := HSM.out a7 0 w7 (Kept.refl _ _) (fun h => absurd h (by omega)) (by omega)
              rw [Nat.sub_self] at hS
              subst hcap
              clear HSM
              go_wp2_with fail
            case' neg =>
              obtain ⟨ad, rfl⟩ : ∃ ad, a7 = some ad := by
                cases a7 with
                | none => have := HA7.out rfl; omega
                | some ad => exact ⟨ad, rfl⟩
              have hS := HSM.out (some (ad.add (tg * 2))) (c7 - tg) w7 (Kept.refl _ _) (fun _ b o e => by injection e with e; rw [e, addAt]) (by omega)
              clear HSM
              go_wp2_with fail
            all_goals refine hS.mono ?_
            all_goals
              rintro x w8 ⟨rfl, hk8⟩
              have HK8 := hid (Same.trans HK7.out hk8)
              have hWr := dwrong_any (HD6.out.same HK8.out)
              clear hk8 hS
            all_goals go_wp2_with fail
            all_goals refine hWr.mono ?_
            all_goals
              rintro x w9 ⟨rfl, hk9⟩
              have HK9 := hid (Same.trans HK8.out hk9)
              have hWa := dwants_any (HD6.out.same HK9.out)
              obtain ⟨wn, hwn⟩ : ∃ x, x = wantD q2 e2 := ⟨_, rfl⟩
              rw [HWD.out, ← hwn] at hWa
              have HWN := hid hwn
              clear hk9 hWr hwn
            all_goals go_wp2_with fail
            all_goals refine hWa.mono ?_
            all_goals
              rintro x w10 ⟨rfl, hk10⟩
              have HK10 := hid (Same.trans HK9.out hk10)
              have hWb := rwants_any w10 v6 _ (A ++ pb) ((Src.ofRow HR6.out).kept HK10.out (fun _ _ _ f => f)) (Row.cap18 HR6.out) HB6.out (by rw [List.length_append]; have := HLE.out; omega) HRD.out
              rw [← HWN.out] at hWb
              clear hk10 hWa
            all_goals go_wp2_with fail
            all_goals refine hWb.mono ?_
            all_goals
              rintro x w11 ⟨rfl, hk11⟩
              have HK11 := hid (Same.trans HK10.out hk11)
              have HFIN : Hid (Fds W d w11 v6 (A ++ pb) v4 (gs ++ hs) q2 e2) := hid ⟨Same.trans HSW6.out HK11.out, HRD.out, HD6.out.same HK11.out, HDG.out, HR6.out.kept HK11.out (fun _ _ f => f), HRG6.out, HB6.out, by rw [List.length_append]; have := HLE.out; omega⟩
              clear hk11 hWb
            all_goals go_wp2_with fail
            all_goals go_roundg (gk - 1)
            all_goals first
              | (case measure => omega)
              | skip
            all_goals exact ⟨i + 1, A ++ pb, v4, gs ++ hs, q2, e2, by go_num, by rw [← HN7.out], rfl, by omega, by omega, HFIN, hid (fun _ => HAA.out)⟩
          · obtain ⟨h1, h2⟩ := HX.out.rd.stuck HRD.out he
            subst h1 h2
            have hm0 : m4 = 0 := HM4.out
            subst hm0
            have hne : (e2 != 0) = true := by simp [bne, he]
            have hW6 := dwrong_any HD5.out
            clear cz
            go_wp2_with fail
            refine hW6.mono ?_
            rintro x w6 ⟨rfl, hk6⟩
            have HK6 := hid hk6
            have hW7 := dwants_any (HD5.out.same hk6)
            have hw0 : wantD (heldF q2 e2) e2 = 0 := by unfold wantD; rw [if_neg he]
            rw [hw0] at hW7
            clear hk6 hW6 hw0
            go_wp2_with fail
            refine hW7.mono ?_
            rintro x w7 ⟨rfl, hk7⟩
            have HK7 := hid (Same.trans HK6.out hk7)
            clear hk7 hW7
            go_wp2_with fail
            go_roundg (gk - 1)
            case measure => omega
            case rel =>
              refine ⟨i + 1, A, v4, gs, q, e2, by go_num, rfl, rfl, by omega, by omega, hid ⟨Same.trans HSW5.out HK7.out, HX.out.rd, ?_, HDG.out, HVA5.out.kept HK7.out (fun _ _ f => f), HRG.out, HX.out.byt, HX.out.len⟩, hid (fun h => absurd h he)⟩
              have h9 := HD5.out.same HK7.out
              unfold heldF at h9 ⊢
              rw [if_neg he] at h9 ⊢
              exact h9
        · obtain rfl : i = len := by omega
          go_wp2_with fail
          refine (awake18 wr).mono ?_
          rintro x w2 ⟨rfl, hk⟩
          go_wp2_with fail
          go_ret
          exact ⟨rfl, (Same.trans HX.out.kept hk).below (Nat.le_refl _) (fun _ _ f => f)⟩

end Go.Proofs.Ytjjhjbmmhkcapaa
