/-
  Of the proof: parts InSm, InHm, InHd, InRd, InRi.
-/
import Derived.Test.YtggcbnhckcenmaaGreatDoorJ23
import Derived.Test.YtggcbnhckcenmaaGreatDoorJ7

/-
  The reference's layer 5: a block's symbols.
-/
namespace Go.Proofs.YtggcbnhckcenmaaGreatDoor
open Go.RowKit

theorem tk_c (ls : List Nat) (s : S5) (n : Nat) : s.c ≤ (tk ls s n).2.c := by
  unfold tk
  split
  · exact Nat.le_refl _
  · split
    · exact Nat.le_refl _
    · simp only; omega
theorem sy_c (ns ls : List Nat) (s : S5) (wrong : Nat) : s.c ≤ (sy ns ls s wrong).2.c := by
  unfold sy
  split
  · exact Nat.le_refl _
  · simp only; omega
theorem ly_c (most : Nat) (s : S5) (b : Nat) : (ly most s b).c = s.c := ly_e most s b
theorem cp5_c (most far n : Nat) (s : S5) : (cp5 most far n s).c = s.c := by
  induction n generalizing s with
  | zero => rfl
  | succ n ih =>
    simp only [cp5]
    split
    · rfl
    · rw [ih, ly_c]
theorem len5_c (ls : List Nat) (s : S5) (y : Nat) : s.c ≤ (len5 ls s y).2.c := by
  unfold len5
  split
  · exact Nat.le_refl _
  · exact tk_c ls s _
theorem dist5_c (ls : List Nat) (s : S5) (y : Nat) : s.c ≤ (dist5 ls s y).2.c := tk_c ls s _
theorem if_c {p : Prop} [Decidable p] (s : S5) (x : Nat) : (if p then { s with e := x } else s : S5).c = s.c := by split <;> rfl

theorem copies5_c (ls : List Nat) (most : Nat) (dist : List Nat) (s : S5) (y : Nat) : s.c ≤ (copies5 ls most dist s y).c := by
  by_cases h : 285 < y
  · unfold copies5; rw [if_pos h]; exact Nat.le_refl _
  · obtain ⟨n, s1, e1⟩ : ∃ n s1, len5 ls s y = (n, s1) := ⟨_, _, rfl⟩
    obtain ⟨s2, e2⟩ : ∃ s2 : S5, s2 = if s1.e = 0 ∧ usedB dist = false then { s1 with e := 53 } else s1 := ⟨_, rfl⟩
    obtain ⟨d, s3, e3⟩ : ∃ d s3, sy dist ls s2 53 = (d, s3) := ⟨_, _, rfl⟩
    obtain ⟨s4, e4⟩ : ∃ s4 : S5, s4 = if s3.e = 0 ∧ 29 < d then { s3 with e := 53 } else s3 := ⟨_, rfl⟩
    rw [copies5_far ls most dist s y (by omega) n s1 s2 s3 s4 d e1 e2 e3 e4]
    have h1 := len5_c ls s y
    have h2 : s2.c = s1.c := by rw [e2, if_c]
    have h3 := sy_c dist ls s2 53
    have h4 : s4.c = s3.c := by rw [e4, if_c]
    have h5 := dist5_c ls s4 d
    rw [e1] at h1
    rw [e3] at h3
    simp only at h1 h3
    split
    · omega
    · rw [cp5_c, if_c]
      omega

theorem syms5_stuck (ls : List Nat) (most : Nat) (lit dist : List Nat) (f : Nat) (s : S5) (h : s.e ≠ 0) : syms5 ls most lit dist f s = s := by
  cases f with
  | zero => rfl
  | succ f => simp only [syms5]; rw [if_pos h]

theorem syms5_go (ls : List Nat) (most : Nat) (lit dist : List Nat) (f : Nat) (s : S5) (h : s.e = 0) (y : Nat) (s1 : S5) (hs : sy lit ls s 53 = (y, s1)) :
    syms5 ls most lit dist (f + 1) s = if s1.e ≠ 0 then s1 else if y < 256 then syms5 ls most lit dist f (ly most s1 y) else if y = 256 then s1 else syms5 ls most lit dist f (copies5 ls most dist s1 y) := by
  simp only [syms5]
  rw [if_neg (by simp [h]), hs]

/-- A symbol takes a bit at least. -/
theorem sy_more {ns ls : List Nat} {s : S5} {wrong y : Nat} {s1 : S5} (hs : sy ns ls s wrong = (y, s1)) (he : s.e = 0) (hw : wrong ≠ 0) (h1 : s1.e = 0) : s.c < s1.c ∧ s1.c ≤ max s.c ls.length ∧ y < ns.length := by
  unfold sy at hs
  rw [if_neg (by simp [he])] at hs
  simp only [Prod.mk.injEq] at hs
  obtain ⟨rfl, rfl⟩ := hs
  simp only at h1 ⊢
  have hn := nextF_is ns (ls.drop s.c)
  rcases hn with ⟨hg, hi, hf, hk, _⟩ | ⟨hg, _⟩ | ⟨hg, _⟩
  · have h2 := hf.2.length_le
    rw [rowOf_length, List.length_drop] at h2
    have h3 := hf.1
    omega
  · rw [hg] at h1; simp at h1
  · rw [hg] at h1; simp at h1; exact absurd h1 hw

/-- A list of lengths that the codes are made of. -/
structure Lst (w : World) (G : Nat → Prop) (v : Value) (ns : List Nat) : Prop where
  src : ∃ J : Nat → Prop, SrcE natV w J v ns ∧ ∀ k, J k → G k
  len : ns.length ≤ 288
  le : ∀ n ∈ ns, n ≤ 15
  me : measure ns ≤ 32768

theorem Lst.key {w : World} {G : Nat → Prop} {v : Value} {ns : List Nat} (h : Lst w G v ns) : ∀ s, key ns s ≤ 15 := by
  intro s
  by_cases e : s < ns.length
  · rw [key_get e]; exact h.le _ (List.getElem_mem e)
  · simp [Go.Proofs.YtggcbnhckcenmaaGreatDoor.key, e]

theorem RX.le {w : World} {I G : Nat → Prop} {h : Nat} {v : Value} {ls : List Nat} {most : Nat} {s : S5} (r : RX w I G h v ls most s) (he : s.e = 0) : s.c ≤ ls.length := by
  obtain ⟨c, vo, r⟩ := r
  have := r.pl he
  have := r.le
  omega

set_option maxRecDepth 100000 in
set_option maxHeartbeats 8000000 in
theorem symbols5 (w00 w : World) (I G : Nat → Prop) (h : Nat) (v : Value) (ls : List Nat) (most : Nat) (s : S5) (vl vd : Value) (lit dist : List Nat) (hz : Sz ls most) (hr : RX w I G h v ls most s) (hS : Same w00 w) (hlow : ∀ k, k < w00.heap.size → G k)
    (hsafe : s.e = 0 → Lst w G vl lit ∧ Lst w G vd dist) :
    Calls Tryz.prog 102 #[.pointer (some ⟨h, 0, none⟩), vl, vd] w fun r w' => (∃ u, r = .returned u) ∧ RX w' I G h v ls most (syms5 ls most lit dist (ls.length + 1) s) ∧ KG G w w' := by
  obtain ⟨k4, f4⟩ := hr.err
  have HR : Hid (RX w I G h v ls most s) := hr
  have HZ : Hid (Sz ls most) := hz
  by_cases he : s.e = 0
  · obtain ⟨HLl, HLd⟩ := hsafe he
    have HLL : Hid (Lst w G vl lit) := HLl
    have HLD : Hid (Lst w G vd dist) := HLd
    obtain ⟨Jl, hJl1, hJl2⟩ := HLl.src
    obtain ⟨Jd, hJd1, hJd2⟩ := HLd.src
    have R1 := rows_any w vl Jl lit hJl1 HLl.len HLl.le HLl.me
    have HE0 : Hid (s.e = 0) := he
    have HJD : Hid (SrcE natV w Jd vd dist ∧ ∀ k, Jd k → G k) := ⟨hJd1, hJd2⟩
    have HSW : Hid (Same w00 w ∧ ∀ k, k < w00.heap.size → G k) := ⟨hS, hlow⟩
    rw [he] at k4
    obtain ⟨M, hM⟩ : ∃ M, M = ls.length := ⟨_, rfl⟩
    have HM : Hid (M = ls.length) := hM
    rw [← hM]
    clear hr hz hsafe HLl HLd hJl1 hJl2 hJd1 hJd2 he hS hlow hM
    go_enter Tryz.func102, Tryz.ntmps102
    go_wp2_with fail
    refine R1.mono ?_
    rintro r1 w1 ⟨go1, rs1, rfl, hrw1⟩
    have HRW1 : Hid (RW w w1 go1 lit.length lit (fun s => key lit s ≠ 0) rs1) := hrw1
    have R2 := rows_any w1 vd Jd dist (HJD.out.1.same hrw1.same) HLD.out.len HLD.out.le HLD.out.me
    clear hrw1 R1
    go_wp2_with fail
    refine R2.mono ?_
    rintro r2 w2 ⟨go2, rs2, rfl, hrw2⟩
    have HRW2 : Hid (RW w1 w2 go2 dist.length dist (fun s => key dist s ≠ 0) rs2) := hrw2
    clear hrw2 R2
    -- all that is there but the reading's own is kept from here on
    have HS2 : Hid (Same w w2) := hid (Same.trans HRW1.out.same HRW2.out.same)
    obtain ⟨c, vo, hrs⟩ := HR.out
    have HRS : Hid (RS w I G h v ls most s c vo) := hrs
    clear hrs
    obtain ⟨A, hA⟩ : ∃ A, A = RS.all w2 h vo := ⟨_, rfl⟩
    have HA : Hid (∀ k, k < w2.heap.size → k ≠ h → vo.ownBlock ≠ some k → A k) := hid (fun k h1 h2 h3 => by rw [hA]; exact ⟨h1, h2, h3⟩)
    have HRA : Hid (RX w2 I A h v ls most s) := hid (by rw [hA]; exact ⟨c, vo, (HRS.out.same HS2.out).more⟩)
    have HGA : Hid (∀ k, G k → A k) := hid (fun k g => by rw [hA]; exact (HRS.out.same HS2.out).all_of k g)
    have hhw : h < w.heap.size := HRS.out.blk.lt
    have hvw : ∀ k, vo.ownBlock = some k → k < w.heap.size := fun k e => HRS.out.row.lt e
    have HI1 : Hid (RowsIn w00 A go1 lit rs1) := hid ⟨fun k hk => HGA.out k (HSW.out.2 k hk), HA.out _ (Nat.lt_of_lt_of_le (HRW1.out.row.lt rfl) HRW2.out.same.size) (by have := HRW1.out.row.ge (k := go1) rfl; omega) (fun e => by have := hvw _ e; have := HRW1.out.row.ge (k := go1) rfl; omega),
      fun t ht hp k e => by
        have h1 := (HRW1.out.have' t ht hp).2 k e
        have h2 := (HRW1.out.have' t ht hp).1.lt e
        have h3 := HRW2.out.same.size
        exact HA.out k (by omega) (by omega) (fun e2 => by have := hvw _ e2; omega)⟩
    have HI2 : Hid (RowsIn w00 A go2 dist rs2) := hid ⟨fun k hk => HGA.out k (HSW.out.2 k hk), HA.out _ (HRW2.out.row.lt rfl) (by have := HRW2.out.row.ge (k := go2) rfl; have := HRW1.out.same.size; omega) (fun e => by have := hvw _ e; have := HRW2.out.row.ge (k := go2) rfl; have := HRW1.out.same.size; omega),
      fun t ht hp k e => by
        have h1 := (HRW2.out.have' t ht hp).2 k e
        have h2 := (HRW2.out.have' t ht hp).1.lt e
        have h3 := HRW1.out.same.size
        exact HA.out k (by omega) (by omega) (fun e2 => by have := hvw _ e2; omega)⟩
    have HQ1 : Hid (RW w00 w2 go1 lit.length lit (fun s => key lit s ≠ 0) rs1) := hid ((HRW1.out.later HRW2.out.same).down HSW.out.1)
    have HQ2 : Hid (RW w00 w2 go2 dist.length dist (fun s => key dist s ≠ 0) rs2) := hid (HRW2.out.down (Same.trans HSW.out.1 HRW1.out.same))
    have HJ2 : Hid (SrcE natV w2 Jd vd dist ∧ ∀ k, Jd k → A k) := hid ⟨HJD.out.1.same HS2.out, fun k j => HGA.out k (HJD.out.2 k j)⟩
    have HFIN : Hid (∀ (wF : World) (sF : S5), RX wF I A h v ls most sF → KG A w2 wF → RX wF I G h v ls most sF ∧ KG G w wF) := hid (fun wF sF hX hK => by
      obtain ⟨c2, vo2, r2⟩ := hX
      exact ⟨⟨c2, vo2, r2.weak HGA.out HRS.out.ig⟩, KG.trans (KG.same HS2.out) (KG.less hK HGA.out)⟩)
    clear hA hhw hvw HRW1 HRW2 HRS HA
    obtain ⟨k4, f4⟩ := HRA.out.err
    go_wp2_with fail
    go_loopg [8] (M + 1) (fun q zi wr => ∃ (f : Nat) (sj : S5), f ≤ q ∧ Hid (sj.e = 0 → M - sj.c < f) ∧ Hid (RX wr I A h v ls most sj) ∧ Hid (KG A w2 wr) ∧ Hid (syms5 ls most lit dist (M + 1) s = syms5 ls most lit dist f sj))
    case atStart => exact ⟨M + 1, s, by omega, hid (fun _ => by omega), HRA, Kept.refl _ _, hid rfl⟩
    case round =>
      obtain ⟨f, sj, hfq, HCj, HRj, HKj, HEj⟩ := hrel
      obtain ⟨k4, f4⟩ := HRj.out.err
      by_cases hsj : sj.e = 0
      · have hcl := HCj.out hsj
        have hle := HRj.out.le hsj
        obtain ⟨f', rfl⟩ : ∃ f', f = f' + 1 := ⟨f - 1, by omega⟩
        have Y1 := sym5 wr w00 I A h v ls most sj 53 go1 lit.length lit rs1 HZ.out HRj.out (HQ1.out.inn HI1.out HKj.out) rfl HLL.out.len HLL.out.key
        obtain ⟨y, s1, hy⟩ : ∃ y s1, sy lit ls sj 53 = (y, s1) := ⟨_, _, rfl⟩
        rw [hy] at Y1
        have HST := syms5_go ls most lit dist f' sj hsj y s1 hy
        have HMO : Hid (s1.e = 0 → sj.c < s1.c ∧ s1.c ≤ max sj.c ls.length ∧ y < lit.length) := hid (fun h1 => sy_more hy hsj (by decide) h1)
        have HSTEP : Hid (syms5 ls most lit dist (f' + 1) sj = if s1.e ≠ 0 then s1 else if y < 256 then syms5 ls most lit dist f' (ly most s1 y) else if y = 256 then s1 else syms5 ls most lit dist f' (copies5 ls most dist s1 y)) := HST
        have HCL : Hid (M - sj.c < f' + 1 ∧ sj.c ≤ M) := hid ⟨hcl, by have := HM.out; omega⟩
        rw [hsj] at k4
        clear hy HST hcl hle hsj
        go_wp2_with fail
        refine Y1.mono ?_
        rintro r3 w3 ⟨rfl, hr3, hk3⟩
        obtain ⟨k4', f4'⟩ := hr3.err
        have HR3 : Hid (RX w3 I A h v ls most s1) := hr3
        have HK3 : Hid (KG A w2 w3) := hid (HKj.out.trans hk3)
        clear hr3 hk3 Y1 k4 f4
        by_cases hs1 : s1.e = 0
        · have hmo := HMO.out hs1
          have HCN : Hid (M - s1.c < f' ∧ s1.c ≤ M) := hid (by have := HM.out; have := HCL.out; omega)
          have hyl : y < 288 := by have := HLL.out.len; omega
          have HS10 : Hid (s1.e = 0) := hs1
          rw [hs1] at k4'
          clear hmo hs1
          by_cases hy256 : y < 256
          · have L3 := lay5 w3 I A h v ls most s1 y HZ.out hy256 HR3.out
            have HSG : Hid (syms5 ls most lit dist (f' + 1) sj = syms5 ls most lit dist f' (ly most s1 y)) := hid (by rw [HSTEP.out, if_neg (by have := HS10.out; simp [this]), if_pos hy256])
            go_wp2_with fail
            refine L3.mono ?_
            rintro r4 w4 ⟨⟨u, rfl⟩, hr4, hk4⟩
            have HR4 : Hid (RX w4 I A h v ls most (ly most s1 y)) := hr4
            have HK4 : Hid (KG A w2 w4) := hid (HK3.out.trans hk4)
            clear hr4 hk4 L3
            go_wp2_with fail
            go_roundg (gk - 1)
            case measure => omega
            case rel => exact ⟨f', _, by omega, hid (fun _ => by rw [ly_c]; exact HCN.out.1), HR4, HK4, hid (by rw [HEj.out, HSG.out])⟩
          · by_cases hyE : y = 256
            · subst hyE
              have HSG : Hid (syms5 ls most lit dist (f' + 1) sj = s1) := hid (by rw [HSTEP.out, if_neg (by have := HS10.out; simp [this]), if_neg (by omega), if_pos rfl])
              go_wp2_with fail
              refine bodyPost_ret (results_none rfl _ _ _) rfl ?_
              rw [HEj.out, HSG.out]
              have hF := HFIN.out w3 s1 HR3.out HK3.out
              exact ⟨⟨_, rfl⟩, hF.1, hF.2⟩
            · have C1 := copies5_any w3 w00 I A Jd h v ls most s1 y vd dist go2 rs2 HZ.out (by omega) (by omega) HR3.out (HJ2.out.1.kept HK3.out (fun k hj _ f => f (HJ2.out.2 k hj))) HJ2.out.2 (HQ2.out.inn HI2.out HK3.out) HI2.out HLD.out.len HLD.out.key
              have HSG : Hid (syms5 ls most lit dist (f' + 1) sj = syms5 ls most lit dist f' (copies5 ls most dist s1 y)) := hid (by rw [HSTEP.out, if_neg (by have := HS10.out; simp [this]), if_neg hy256, if_neg hyE])
              have hyd1 : decide (y < 256) = false := by simp; omega
              have hyd2 : ((y : Int) == 256) = false := by simp; omega
              go_wp2_with fail
              refine C1.mono ?_
              rintro r4 w4 ⟨⟨u, rfl⟩, hr4, hk4⟩
              have HR4 : Hid (RX w4 I A h v ls most (copies5 ls most dist s1 y)) := hr4
              have HK4 : Hid (KG A w2 w4) := hid (HK3.out.trans hk4)
              clear hr4 hk4 C1
              go_wp2_with fail
              go_roundg (gk - 1)
              case measure => omega
              case rel => exact ⟨f', _, by omega, hid (fun _ => by have h1 := copies5_c ls most dist s1 y; have h2 := HCN.out; omega), HR4, HK4, hid (by rw [HEj.out, HSG.out])⟩
        · have HSG : Hid (syms5 ls most lit dist (f' + 1) sj = syms5 ls most lit dist f' s1) := hid (by rw [HSTEP.out, if_pos hs1, syms5_stuck _ _ _ _ _ _ hs1])
          have HS10 : Hid (s1.e ≠ 0) := hs1
          obtain ⟨e7, he7⟩ : ∃ e7, e7 = s1.e := ⟨_, rfl⟩
          rw [← he7] at hs1 k4'
          have hed : ((e7 : Int) != 0) = true := by simp; omega
          clear he7
          go_wp2_with fail
          go_roundg (gk - 1)
          case measure => omega
          case rel => exact ⟨f', s1, by omega, hid (fun h1 => absurd h1 HS10.out), HR3, HK3, hid (by rw [HEj.out, HSG.out])⟩
      · have HSG : Hid (syms5 ls most lit dist f sj = sj) := hid (syms5_stuck _ _ _ _ _ _ hsj)
        obtain ⟨e7, he7⟩ : ∃ e7, e7 = sj.e := ⟨_, rfl⟩
        rw [← he7] at hsj k4
        have hed : ((e7 : Int) == 0) = false := by simp; omega
        clear he7
        go_wp2_with fail
        go_end0
        rw [HEj.out, HSG.out]
        have hF := HFIN.out wr sj HRj.out HKj.out
        exact ⟨⟨_, rfl⟩, hF.1, hF.2⟩
  · have HE : Hid (syms5 ls most lit dist (ls.length + 1) s = s) := hid (syms5_stuck _ _ _ _ _ _ he)
    obtain ⟨e7, he7⟩ : ∃ e7, e7 = s.e := ⟨_, rfl⟩
    rw [← he7] at he k4
    have hed : ((e7 : Int) != 0) = true := by simp; omega
    clear he7 hr hsafe
    go_enter Tryz.func102, Tryz.ntmps102
    go_wp2_with fail
    refine bodyPost_ret (results_none rfl _ _ _) rfl ?_
    rw [HE.out]
    exact ⟨⟨_, rfl⟩, HR.out, Kept.refl _ _⟩

end Go.Proofs.YtggcbnhckcenmaaGreatDoor

/-
  Heads as layer 5 reads them: what is known at each place.
-/
namespace Go.Proofs.YtggcbnhckcenmaaGreatDoor
open Go.RowKit

/-- What is wrong with a head, told as layer 5 does. -/
def he5 (e : Nat) : Nat := if e = 10 then 55 else 52

theorem head5_err {ls : List Nat} {a e : Nat} (h : readF ls a = .error e) : head5 ls a = .error (he5 e) := by unfold head5; rw [h]; rfl

theorem chk_nats (l : List Nat) (h0 : 0 < l.length) (hl : l.length ≤ 288) (h15 : ∀ x ∈ l, x ≤ 15) : chk (l.map (fun (n : Nat) => (n : Int))) = chkN l := by
  have hok : okAll (l.map (fun (n : Nat) => (n : Int))) 0 15 = true := by
    simp only [okAll, List.length_map, Bool.and_eq_true, decide_eq_true_eq, Bool.not_eq_true', List.any_eq_false]
    refine ⟨⟨by omega, by omega⟩, fun z hz => ?_⟩
    obtain ⟨n, hn, rfl⟩ := List.mem_map.1 hz
    have := h15 n hn
    simp [badI]; omega
  unfold chk
  rw [if_pos hok, List.map_map]
  have e : l.map (Int.toNat ∘ fun (n : Nat) => (n : Int)) = l := by
    conv => rhs; rw [← List.map_id l]
    exact List.map_congr_left (fun n _ => by simp)
  rw [e]

theorem chkN_measure {l : List Nat} (h : chkN l = 0) : measure l ≤ 32768 := by
  unfold chkN at h
  split at h
  · omega
  · omega

theorem unused_measure {l : List Nat} (h : usedB l = false) : measure l = 0 := by
  induction l with
  | nil => rfl
  | cons a l ih =>
    unfold usedB at h ih
    simp only [List.any_cons, Bool.or_eq_false_iff] at h
    have ha : a = 0 := by have := h.1; simpa using this
    subst ha
    show (unit 0 + (l.map unit).sum) = 0
    have := ih h.2
    unfold measure at this
    rw [this]
    rfl

theorem chkN_small (l : List Nat) : chkN l = 0 ∨ chkN l = 30 ∨ chkN l = 31 := by
  unfold chkN
  split
  · exact .inr (.inl rfl)
  · split
    · exact .inl rfl
    · split
      · exact .inl rfl
      · exact .inr (.inr rfl)

theorem tk_cases (ls : List Nat) (c : Nat) (so : List Nat) (n : Nat) : (c + n ≤ ls.length ∧ tk ls ⟨c, so, 0⟩ n = (numAt ls c n, ⟨c + n, so, 0⟩)) ∨ (ls.length < c + n ∧ tk ls ⟨c, so, 0⟩ n = (0, ⟨c, so, 55⟩)) := by
  by_cases h : c + n ≤ ls.length
  · exact .inl ⟨h, tk_ok rfl h⟩
  · exact .inr ⟨by omega, tk_end rfl (by simp only; omega)⟩

/-- Three numbers that are not there. -/
theorem tk_three (ls : List Nat) (a : Nat) (so : List Nat) (h : ls.length < a + 14) (t1 t2 t3 : Nat × S5) (h1 : tk ls ⟨a, so, 0⟩ 5 = t1) (h2 : tk ls t1.2 5 = t2) (h3 : tk ls t2.2 4 = t3) : t3.2.e = 55 := by
  by_cases k1 : ls.length < a + 5
  · rw [tk_end rfl k1] at h1
    subst h1
    rw [tk_stuck (by simp)] at h2
    subst h2
    rw [tk_stuck (by simp)] at h3
    subst h3
    rfl
  · rw [tk_ok rfl (by simp only; omega)] at h1
    subst h1
    simp only at h2
    by_cases k2 : ls.length < a + 5 + 5
    · rw [tk_end rfl k2] at h2
      subst h2
      rw [tk_stuck (by simp)] at h3
      subst h3
      rfl
    · rw [tk_ok rfl (by simp only; omega)] at h2
      subst h2
      simp only at h3
      rw [tk_end rfl (by simp only; omega)] at h3
      subst h3
      rfl

/-- The lists of all lengths. -/
def finF (lit a : Nat) : Except Nat (List Nat × Nat) → Except Nat ((List Nat × List Nat) × Nat)
  | .error e => .error e
  | .ok (l, c) => .ok ((l.take lit, l.drop lit), c - a)

/-- What follows the three numbers, as readF has it. -/
def restF (ls : List Nat) (a lit dist many : Nat) : Except Nat ((List Nat × List Nat) × Nat) :=
  if ls.length < a + 14 + 3 * many then .error 10
  else if chkN (codesF ls (a + 14) many) ≠ 0 then .error (chkN (codesF ls (a + 14) many))
  else finF lit a (bodyF (codesF ls (a + 14) many) ls (lit + dist) (lit + dist) [] (a + 14 + 3 * many))

/-- Where the walk stands behind the three numbers. -/
def At3 (ls : List Nat) (a c e lit dist many : Nat) : Prop := (e ≠ 0 ∧ head5 ls a = .error e) ∨ (e = 0 ∧ c = a + 14 ∧ a + 14 ≤ ls.length ∧ readF ls a = restF ls a lit dist many ∧ lit ≤ 286 ∧ dist ≤ 30)

/-- The error behind a call of bad. -/
def badE (e : Nat) (b : Bool) : Nat := if e = 0 ∧ b = true then 52 else e
theorem badE_true : badE 0 true = 52 := rfl
theorem badE_false (e : Nat) : badE e false = e := by unfold badE; rw [if_neg (fun h => by cases h.2)]
theorem badE_stuck {e : Nat} (h : e ≠ 0) (b : Bool) : badE e b = e := by unfold badE; rw [if_neg (fun x => h x.1)]

theorem at3_of (ls : List Nat) (a : Nat) (so : List Nat) (t1 t2 t3 : Nat × S5) (h1 : tk ls ⟨a, so, 0⟩ 5 = t1) (h2 : tk ls t1.2 5 = t2) (h3 : tk ls t2.2 4 = t3) (B : Bool) (hB : B = true ↔ (286 < t1.1 + 257 ∨ 30 < t2.1 + 1)) :
    At3 ls a t3.2.c (badE t3.2.e B) (t1.1 + 257) (t2.1 + 1) (t3.1 + 4) := by
  unfold badE
  by_cases hf : ls.length < a + 14
  · have he := tk_three ls a so hf t1 t2 t3 h1 h2 h3
    refine .inl ?_
    rw [he, if_neg (by simp)]
    refine ⟨by decide, ?_⟩
    rw [head5_err (e := 10) (by unfold readF; rw [if_pos hf])]
    rfl
  · rw [tk_ok rfl (by simp only; omega)] at h1
    subst h1
    rw [tk_ok rfl (by simp only; omega)] at h2
    subst h2
    rw [tk_ok rfl (by simp only; omega)] at h3
    subst h3
    simp only at hB ⊢
    by_cases hb : B = true
    · refine .inl ?_
      rw [if_pos ⟨trivial, hb⟩]
      refine ⟨by decide, ?_⟩
      rw [head5_err (e := 40) (by unfold readF; rw [if_neg hf, if_pos (hB.1 hb)])]
      rfl
    · refine .inr ?_
      rw [if_neg (fun h => hb h.2)]
      have hn : ¬ (286 < numAt ls a 5 + 257 ∨ 30 < numAt ls (a + 5) 5 + 1) := fun h => hb (hB.2 h)
      refine ⟨rfl, by omega, by omega, ?_, by omega, by omega⟩
      unfold readF restF
      rw [if_neg hf, if_neg hn, show a + 5 + 5 = a + 10 by omega]
      rfl

/-- Where the walk stands among the lengths of the steps' codes. -/
def AtC (ls : List Nat) (a i c e lit dist many : Nat) (xs : List Nat) : Prop := (e ≠ 0 ∧ head5 ls a = .error e) ∨ (e = 0 ∧ c = a + 14 + 3 * i ∧ a + 14 + 3 * i ≤ ls.length ∧ xs = codesF ls (a + 14) i ∧ readF ls a = restF ls a lit dist many ∧ lit ≤ 286 ∧ dist ≤ 30)

theorem At3.codes {ls : List Nat} {a c e lit dist many : Nat} (h : At3 ls a c e lit dist many) : AtC ls a 0 c e lit dist many (List.replicate 19 0) := by
  rcases h with h | ⟨h1, h2, h3, h4, h5⟩
  · exact .inl h
  · exact .inr ⟨h1, by omega, by omega, rfl, h4, h5⟩

theorem AtC.next {ls : List Nat} {a i c lit dist many : Nat} {xs so : List Nat} (h : AtC ls a i c 0 lit dist many xs) (hi : i < many) {x : Nat} {s' : S5} (ht : tk ls ⟨c, so, 0⟩ 3 = (x, s')) : AtC ls a (i + 1) s'.c s'.e lit dist many (xs.set (ord.getD i 0) x) := by
  rcases h with ⟨h1, _⟩ | ⟨_, rfl, h3, rfl, h5, h6⟩
  · exact absurd rfl h1
  · by_cases hf : a + 14 + 3 * i + 3 ≤ ls.length
    · rw [tk_ok rfl hf] at ht
      simp only [Prod.mk.injEq] at ht
      obtain ⟨rfl, rfl⟩ := ht
      exact .inr ⟨rfl, by simp only; omega, by omega, rfl, h5, h6⟩
    · rw [tk_end rfl (by simp only; omega)] at ht
      simp only [Prod.mk.injEq] at ht
      obtain ⟨rfl, rfl⟩ := ht
      refine .inl ⟨by simp, ?_⟩
      rw [head5_err (e := 10) (by rw [h5]; unfold restF; rw [if_pos (by omega)])]
      rfl

/-- Where the walk stands behind the codes' check. -/
theorem AtC.check {ls : List Nat} {a c lit dist many : Nat} {xs : List Nat} (h : AtC ls a many c 0 lit dist many xs) : (chkN xs ≠ 0 → head5 ls a = .error 52) ∧ (chkN xs = 0 → readF ls a = finF lit a (bodyF xs ls (lit + dist) (lit + dist) [] c)) := by
  rcases h with ⟨h1, _⟩ | ⟨_, rfl, h3, rfl, h5, h6⟩
  · exact absurd rfl h1
  · constructor
    · intro hc
      have hne : chkN (codesF ls (a + 14) many) ≠ 10 := by rcases chkN_small (codesF ls (a + 14) many) with h | h | h <;> omega
      rw [head5_err (e := chkN (codesF ls (a + 14) many)) (by rw [h5]; unfold restF; rw [if_neg (by omega), if_pos hc])]
      unfold he5
      rw [if_neg hne]
    · intro hc
      rw [h5]
      unfold restF
      rw [if_neg (by omega), if_neg (by omega)]

/-- Where the walk stands among the steps: it goes on; it has gone wrong; too much was said. -/
def AtB (ls : List Nat) (a lit dist : Nat) (xs : List Nat) (f c e : Nat) (l : List Nat) : Prop :=
  (e ≠ 0 ∧ head5 ls a = .error e) ∨ (e = 0 ∧ lit + dist < l.length ∧ head5 ls a = .error 52) ∨
  (e = 0 ∧ l.length ≤ lit + dist ∧ lit + dist - l.length ≤ f ∧ a ≤ c ∧ (∀ x ∈ l, x ≤ 15) ∧ readF ls a = finF lit a (bodyF xs ls (lit + dist) f l c))

/-- A step whose symbol is not there. -/
theorem AtB.bad {ls : List Nat} {a lit dist : Nat} {xs : List Nat} {f c is k g : Nat} {l : List Nat} (h : AtB ls a lit dist xs f c 0 l) (hl : l.length < lit + dist) (hn : nextF xs (ls.drop c) = (is, k, g)) (hg : g ≠ 0) : head5 ls a = .error (he5 g) := by
  rcases h with ⟨h1, _⟩ | ⟨_, h1, _⟩ | ⟨_, h2, h3, _, _, h5⟩
  · exact absurd rfl h1
  · omega
  · obtain ⟨f', rfl⟩ : ∃ f', f = f' + 1 := ⟨f - 1, by omega⟩
    refine head5_err ?_
    rw [h5, bodyF_err hl (e := g) (by unfold stepF; rw [hn]; simp only; rw [if_pos hg])]
    rfl

/-- A step whose number is not there. -/
theorem AtB.short {ls : List Nat} {a lit dist : Nat} {xs : List Nat} {f c is k : Nat} {l : List Nat} (h : AtB ls a lit dist xs f c 0 l) (hl : l.length < lit + dist) (hn : nextF xs (ls.drop c) = (is, k, 0)) (hs : ls.length < c + k + xbits is) : head5 ls a = .error 55 := by
  rcases h with ⟨h1, _⟩ | ⟨_, h1, _⟩ | ⟨_, h2, h3, _, _, h5⟩
  · exact absurd rfl h1
  · omega
  · obtain ⟨f', rfl⟩ : ∃ f', f = f' + 1 := ⟨f - 1, by omega⟩
    refine (head5_err (e := 10) ?_)
    rw [h5, bodyF_err hl (e := 10) (by unfold stepF; rw [hn]; simp only; rw [if_neg (by simp), if_pos hs])]
    rfl

theorem AtB.with {ls : List Nat} {a lit dist : Nat} {xs : List Nat} {f c is k : Nat} {l : List Nat} (h : AtB ls a lit dist xs f c 0 l) (hl : l.length < lit + dist) (hn : nextF xs (ls.drop c) = (is, k, 0)) (hs : c + k + xbits is ≤ ls.length) :
    readF ls a = finF lit a (match withM l ((is : Int), ((numAt ls (c + k) (xbits is) : Nat) : Int)) (lit + dist) with | none => Except.error 41 | some m => bodyF xs ls (lit + dist) (f - 1) m (c + k + xbits is)) := by
  rcases h with ⟨h1, _⟩ | ⟨_, h1, _⟩ | ⟨_, h2, h3, _, _, h5⟩
  · exact absurd rfl h1
  · omega
  · obtain ⟨f', rfl⟩ : ∃ f', f = f' + 1 := ⟨f - 1, by omega⟩
    rw [h5, bodyF_step hl (s := is) (x := numAt ls (c + k) (xbits is)) (c' := c + k + xbits is) (by unfold stepF; rw [hn]; simp only; rw [if_neg (by simp), if_neg (by omega)])]
    rfl

/-- A step that says a length some times. -/
theorem AtB.says {ls : List Nat} {a lit dist : Nat} {xs : List Nat} {f c is k x v n : Nat} {l : List Nat} (h : AtB ls a lit dist xs f c 0 l) (hl : l.length < lit + dist) (hn : nextF xs (ls.drop c) = (is, k, 0)) (hs : c + k + xbits is ≤ ls.length) (hx : x = numAt ls (c + k) (xbits is)) (hsay : saysM ((is : Int), (x : Int)) l = some (v, n)) :
    AtB ls a lit dist xs (f - 1) (c + k + xbits is) 0 (l ++ List.replicate n v) := by
  have hw := h.with hl hn hs
  rw [← hx] at hw
  unfold withM at hw
  rw [hsay] at hw
  simp only at hw
  have h' := h
  rcases h with ⟨h1, _⟩ | ⟨_, h1, _⟩ | ⟨_, h2, h3, hac, h15, h5⟩
  · exact absurd rfl h1
  · omega
  · have h1 := saysM_le hsay h15
    by_cases hov : lit + dist < l.length + n
    · refine .inr (.inl ⟨rfl, by simp; omega, ?_⟩)
      rw [if_pos hov] at hw
      rw [head5_err hw]
      rfl
    · rw [if_neg hov] at hw
      refine .inr (.inr ⟨rfl, by simp; omega, by simp; omega, by omega, ?_, hw⟩)
      intro y hy
      rcases List.mem_append.1 hy with hy | hy
      · exact h15 y hy
      · have := List.eq_of_mem_replicate hy; omega

/-- A step that says nothing that may be. -/
theorem AtB.none {ls : List Nat} {a lit dist : Nat} {xs : List Nat} {f c is k x : Nat} {l : List Nat} (h : AtB ls a lit dist xs f c 0 l) (hl : l.length < lit + dist) (hn : nextF xs (ls.drop c) = (is, k, 0)) (hs : c + k + xbits is ≤ ls.length) (hx : x = numAt ls (c + k) (xbits is)) (hsay : saysM ((is : Int), (x : Int)) l = none) : head5 ls a = .error 52 := by
  have hw := h.with hl hn hs
  rw [← hx] at hw
  unfold withM at hw
  rw [hsay] at hw
  rw [head5_err hw]
  rfl

/-- The lists are said. -/
theorem AtB.done {ls : List Nat} {a lit dist : Nat} {xs : List Nat} {f c : Nat} {l : List Nat} (h : AtB ls a lit dist xs f c 0 l) (hl : l.length = lit + dist) : readF ls a = .ok ((l.take lit, l.drop lit), c - a) ∧ a ≤ c ∧ (∀ x ∈ l, x ≤ 15) := by
  rcases h with ⟨h1, _⟩ | ⟨_, h1, _⟩ | ⟨_, h2, h3, hac, h15, h5⟩
  · exact absurd rfl h1
  · omega
  · refine ⟨?_, hac, h15⟩
    rw [h5, bodyF_end (by omega)]
    rfl

theorem AtB.over {ls : List Nat} {a lit dist : Nat} {xs : List Nat} {f c : Nat} {l : List Nat} (h : AtB ls a lit dist xs f c 0 l) (hl : lit + dist < l.length) : head5 ls a = .error 52 := by
  rcases h with ⟨h1, _⟩ | ⟨_, _, h1⟩ | ⟨_, h2, _⟩
  · exact absurd rfl h1
  · exact h1
  · omega

theorem AtB.wrong {ls : List Nat} {a lit dist : Nat} {xs : List Nat} {f c e : Nat} {l : List Nat} (h : AtB ls a lit dist xs f c e l) (he : e ≠ 0) : head5 ls a = .error e := by
  rcases h with ⟨_, h1⟩ | ⟨h1, _⟩ | ⟨h1, _⟩
  · exact h1
  · exact absurd h1 he
  · exact absurd h1 he

end Go.Proofs.YtggcbnhckcenmaaGreatDoor

/-
  The reference's layer 5: the head of a block of kind 2, walked.
-/
namespace Go.Proofs.YtggcbnhckcenmaaGreatDoor
open Go.RowKit

set_option maxHeartbeats 1000000 in
theorem ibad_any (w : World) (h : Nat) (v : Value) (c : Nat) (vo : Value) (most e : Nat) (b : Bool) (hH : RdB w h v c vo most e) :
    Calls Tryz.prog 138 #[.pointer (some ⟨h, 0, none⟩), .bool b] w fun r w' => (∃ u, r = .returned u) ∧ RdB w' h v c vo most (badE e b) ∧ Kept (· = h) w w' := by
  have c4 := hH.cell 4
  have f4 := hH.frozen 4
  simp at c4
  have HH : Hid (RdB w h v c vo most e) := hH
  clear hH
  by_cases he : e = 0
  · subst he
    cases b with
    | false =>
      go_enter Tryz.func138, Tryz.ntmps138
      go_wp2_with fail
      go_end0
      exact ⟨⟨_, rfl⟩, by rw [badE_false]; exact HH.out, Kept.refl _ _⟩
    | true =>
      go_enter Tryz.func138, Tryz.ntmps138
      go_wp2_with fail
      go_end0
      refine ⟨⟨_, rfl⟩, ?_, (Kept.refl (· = h) w).setCell ⟨h, 4, none⟩ _ (.inl rfl)⟩
      have hb := HH.out.set 4 (.int .i64 52)
      simp at hb
      rw [badE_true]
      exact hb
  · have hed : ((e : Int) == 0) = false := by simp; omega
    have HE : Hid (badE e b = e) := hid (badE_stuck he b)
    clear he
    go_enter Tryz.func138, Tryz.ntmps138
    go_wp2_with fail
    go_end0
    exact ⟨⟨_, rfl⟩, by rw [HE.out]; exact HH.out, Kept.refl _ _⟩

set_option maxHeartbeats 1000000 in
theorem places5 (w : World) : Calls Tryz.prog 139 #[] w fun r w' => r = .returned (.slice (some ⟨w.heap.size, 0, none⟩) 19 19) ∧ SrcE natV w' (fun k => k = w.heap.size) (.slice (some ⟨w.heap.size, 0, none⟩) 19 19) ord ∧ Same w w' ∧ w'.heap.size = w.heap.size + 1 := by
  have HOR : Hid (SrcE natV (w.alloc (.cells #[.int .i64 16, .int .i64 17, .int .i64 18, .int .i64 0, .int .i64 8, .int .i64 7, .int .i64 9, .int .i64 6, .int .i64 10, .int .i64 5, .int .i64 11, .int .i64 4, .int .i64 12, .int .i64 3, .int .i64 13, .int .i64 2, .int .i64 14, .int .i64 1, .int .i64 15] 3)) (fun k => k = w.heap.size) (.slice (some ⟨w.heap.size, 0, none⟩) 19 19) ord) := src_nats w ord 19 rfl
  go_enter Tryz.func139, Tryz.ntmps139
  go_wp2_with fail
  go_ret
  exact ⟨rfl, HOR.out, (Kept.refl _ w).alloc _, by simp⟩

/-- A list that codes can be made of. -/
def LenOk (l : List Nat) : Prop := l.length ≤ 288 ∧ (∀ n ∈ l, n ≤ 15) ∧ measure l ≤ 32768

/-- head's answer. -/
def HeadA (w w' : World) (h : Nat) (v vo : Value) (most a : Nat) (ls : List Nat) (r : Ending) : Except Nat ((List Nat × List Nat) × Nat) → Prop
  | .error e => e ≠ 0 ∧ ∃ va vb c, r = .returned (.tuple #[va, vb]) ∧ RdB w' h v c vo most e ∧ c ≤ ls.length
  | .ok ((l, d), n) => ∃ va vb, r = .returned (.tuple #[va, vb]) ∧ RdB w' h v (a + n) vo most 0 ∧ a + n ≤ ls.length ∧ SrcE natV w' (Over w.heap.size) va l ∧ SrcE natV w' (Over w.heap.size) vb d ∧ LenOk l ∧ LenOk d

theorem headA_err {w w' : World} {h : Nat} {v vo : Value} {most a : Nat} {ls : List Nat} {e : Nat} {va vb : Value} {c : Nat} (he : e ≠ 0) (hh : head5 ls a = .error e) (hb : RdB w' h v c vo most e) (hc : c ≤ ls.length) : HeadA w w' h v vo most a ls (.returned (.tuple #[va, vb])) (head5 ls a) := by
  rw [hh]
  exact ⟨he, va, vb, c, rfl, hb, hc⟩

theorem tk_bound (ls : List Nat) (s : S5) (n M : Nat) (hM : M = ls.length) (h : s.c ≤ M) : (tk ls s n).2.c ≤ M := by
  subst hM
  exact tk_le ls s n h

set_option maxRecDepth 100000 in
set_option maxHeartbeats 16000000 in
theorem head5_any (w00 w : World) (I G : Nat → Prop) (h : Nat) (v : Value) (ls : List Nat) (most a : Nat) (so : List Nat) (vo : Value) (hz : Sz ls most) (hr : RS w I G h v ls most ⟨a, so, 0⟩ a vo) (hS : Same w00 w) (hh0 : w00.heap.size ≤ h) :
    Calls Tryz.prog 103 #[.pointer (some ⟨h, 0, none⟩)] w fun r w' => HeadA w w' h v vo most a ls r (head5 ls a) ∧ Kept (· = h) w w' := by
  have HZ : Hid (Sz ls most) := hz
  have HSW : Hid (Same w00 w) := hS
  have HRS : Hid (RS w I G h v ls most ⟨a, so, 0⟩ a vo) := hr
  have hah := hr.le
  have hhw := hr.blk.lt
  have hlen := hz.len
  obtain ⟨M, hM⟩ : ∃ M, M = ls.length := ⟨_, rfl⟩
  rw [← hM] at hah hlen
  have HM : Hid (M = ls.length) := hM
  have HERR : Hid (∀ (e : Nat) (va vb : Value) (c : Nat) (wF : World), e ≠ 0 → head5 ls a = .error e → RdB wF h v c vo most e → c ≤ M → Kept (· = h) w wF → HeadA w wF h v vo most a ls (.returned (.tuple #[va, vb])) (head5 ls a) ∧ Kept (· = h) w wF) := hid (fun e va vb c wF h1 h2 h3 h4 h5 => ⟨headA_err h1 h2 h3 (by omega), h5⟩)
  have HT : Hid (∀ (wx : World) (c e n : Nat), Kept (· = h) w wx → RdB wx h v c vo most e → n ≤ 32 → c ≤ M → Calls Tryz.prog 99 #[.pointer (some ⟨h, 0, none⟩), .int .i64 (n : Nat)] wx fun r w' => r = .returned (.int .i64 ((tk ls ⟨c, so, e⟩ n).1 : Nat)) ∧ RdB w' h v (tk ls ⟨c, so, e⟩ n).2.c vo most (tk ls ⟨c, so, e⟩ n).2.e ∧ Kept (· = h) wx w') := hid (fun wx c e n hk hH hn hc => itake_any wx h v I ls c vo so most e n hH (hr.src.kept hk (fun k hi _ e => by subst e; exact hr.gh (hr.ig _ hi))) hz.bit hn (by omega) (by omega))
  have hb0 := hr.blk
  simp only at hb0
  have HH0 : Hid (RdB w h v a vo most 0) := hb0
  clear hM hr hz hb0 hS
  -- three numbers
  have T1 := HT.out w a 0 5 (Kept.refl _ _) HH0.out (by decide) hah
  obtain ⟨t1, ht1⟩ : ∃ t, tk ls ⟨a, so, 0⟩ 5 = t := ⟨_, rfl⟩
  have hc1 := tk_bound ls ⟨a, so, 0⟩ 5 M HM.out hah
  have hx1 := tk_lt ls HZ.out.bit ⟨a, so, 0⟩ 5
  have ho1 := tk_out ls ⟨a, so, 0⟩ 5
  rw [ht1] at T1 hc1 hx1 ho1
  obtain ⟨x1, c1, o1, e1⟩ := t1
  simp only at T1 hc1 hx1 ho1
  subst ho1
  have hx1' : x1 ≤ 31 := by omega
  have HT1 : Hid (tk ls ⟨a, o1, 0⟩ 5 = (x1, ⟨c1, o1, e1⟩)) := ht1
  clear ht1 hx1
  go_enter Tryz.func103, Tryz.ntmps103
  go_wp2_with fail
  refine T1.mono ?_
  rintro r w1 ⟨rfl, hh1, hk1⟩
  have HH1 : Hid (RdB w1 h v c1 vo most e1) := hh1
  have HK1 : Hid (Kept (· = h) w w1) := hk1
  clear hh1 hk1 T1 HH0
  have T2 := HT.out w1 c1 e1 5 HK1.out HH1.out (by decide) hc1
  obtain ⟨t2, ht2⟩ : ∃ t, tk ls ⟨c1, o1, e1⟩ 5 = t := ⟨_, rfl⟩
  have hc2 := tk_bound ls ⟨c1, o1, e1⟩ 5 M HM.out hc1
  have hx2 := tk_lt ls HZ.out.bit ⟨c1, o1, e1⟩ 5
  have ho2 := tk_out ls ⟨c1, o1, e1⟩ 5
  rw [ht2] at T2 hc2 hx2 ho2
  obtain ⟨x2, c2, o2, e2⟩ := t2
  simp only at T2 hc2 hx2 ho2
  subst ho2
  have hx2' : x2 ≤ 31 := by omega
  have HT2 : Hid (tk ls ⟨c1, o2, e1⟩ 5 = (x2, ⟨c2, o2, e2⟩)) := ht2
  clear ht2 hx2
  go_wp2_with fail
  refine T2.mono ?_
  rintro r w2 ⟨rfl, hh2, hk2⟩
  have HH2 : Hid (RdB w2 h v c2 vo most e2) := hh2
  have HK2 : Hid (Kept (· = h) w w2) := hid (HK1.out.trans hk2 (fun _ _ f => f) (fun _ _ f => f))
  clear hh2 hk2 T2 HH1
  have T3 := HT.out w2 c2 e2 4 HK2.out HH2.out (by decide) hc2
  obtain ⟨t3, ht3⟩ : ∃ t, tk ls ⟨c2, o2, e2⟩ 4 = t := ⟨_, rfl⟩
  have hc3 := tk_bound ls ⟨c2, o2, e2⟩ 4 M HM.out hc2
  have hx3 := tk_lt ls HZ.out.bit ⟨c2, o2, e2⟩ 4
  have ho3 := tk_out ls ⟨c2, o2, e2⟩ 4
  rw [ht3] at T3 hc3 hx3 ho3
  obtain ⟨x3, c3, o3, e3⟩ := t3
  simp only at T3 hc3 hx3 ho3
  subst ho3
  have hx3' : x3 ≤ 15 := by omega
  have HT3 : Hid (tk ls ⟨c2, o3, e2⟩ 4 = (x3, ⟨c3, o3, e3⟩)) := ht3
  clear ht3 hx3
  go_wp2_with fail
  refine T3.mono ?_
  rintro r w3 ⟨rfl, hh3, hk3⟩
  have HH3 : Hid (RdB w3 h v c3 vo most e3) := hh3
  have HK3 : Hid (Kept (· = h) w w3) := hid (HK2.out.trans hk3 (fun _ _ f => f) (fun _ _ f => f))
  clear hh3 hk3 T3 HH2
  obtain ⟨lit, hlit⟩ : ∃ lit, lit = x1 + 257 := ⟨_, rfl⟩
  obtain ⟨dist, hdist⟩ : ∃ dist, dist = x2 + 1 := ⟨_, rfl⟩
  obtain ⟨many, hmany⟩ : ∃ many, many = x3 + 4 := ⟨_, rfl⟩
  have hlI : (257 : Int) + (x1 : Int) = (lit : Int) := by omega
  have hdI : (1 : Int) + (x2 : Int) = (dist : Int) := by omega
  have hmI : (4 : Int) + (x3 : Int) = (many : Int) := by omega
  have HA3 : Hid (∀ B : Bool, (B = true ↔ (286 < lit ∨ 30 < dist)) → At3 ls a c3 (badE e3 B) lit dist many) := hid (fun B hB => by
    have h9 := at3_of ls a o3 _ _ _ HT1.out HT2.out HT3.out B (by simp only; rw [← hlit, ← hdist]; exact hB)
    simp only at h9
    rw [← hlit, ← hdist, ← hmany] at h9
    exact h9)
  have hml : many ≤ 19 := by omega
  have hll : lit ≤ 288 := by omega
  have hl257 : 257 ≤ lit := by omega
  have hdd : dist ≤ 32 := by omega
  have hd1 : 1 ≤ dist := by omega
  clear hlit hdist hmany HT1 HT2 HT3 hc1 hc2 hx1' hx2' hx3'
  go_upto_region 4 with fail
  go_cut [] from 25 to 32 (fun wx => ∃ e4, Hid (RdB wx h v c3 vo most e4) ∧ Hid (Kept (· = h) w wx) ∧ Hid (At3 ls a c3 e4 lit dist many))
  case first =>
    by_cases hbig : 286 < lit
    · have b1 : decide ((286 : Int) < (lit : Int)) = true := by simp; omega
      have B1 := ibad_any w3 h v c3 vo most e3 true HH3.out
      have HAB : Hid (At3 ls a c3 (badE e3 true) lit dist many) := hid (HA3.out true ⟨fun _ => .inl hbig, fun _ => rfl⟩)
      go_wp2_with fail
      refine B1.mono ?_
      rintro r w4 ⟨⟨u, rfl⟩, hh4, hk4⟩
      have HH4 : Hid (RdB w4 h v c3 vo most (badE e3 true)) := hh4
      have HK4 : Hid (Kept (· = h) w w4) := hid (HK3.out.trans hk4 (fun _ _ f => f) (fun _ _ f => f))
      clear hh4 hk4 B1
      go_wp2_with fail
      go_meet
      exact ⟨_, HH4, HK4, HAB⟩
    · have b1 : decide ((286 : Int) < (lit : Int)) = false := by simp; omega
      by_cases hbig2 : 30 < dist
      · have b2 : decide ((30 : Int) < (dist : Int)) = true := by simp; omega
        have B1 := ibad_any w3 h v c3 vo most e3 true HH3.out
        have HAB : Hid (At3 ls a c3 (badE e3 true) lit dist many) := hid (HA3.out true ⟨fun _ => .inr hbig2, fun _ => rfl⟩)
        go_wp2_with fail
        refine B1.mono ?_
        rintro r w4 ⟨⟨u, rfl⟩, hh4, hk4⟩
        have HH4 : Hid (RdB w4 h v c3 vo most (badE e3 true)) := hh4
        have HK4 : Hid (Kept (· = h) w w4) := hid (HK3.out.trans hk4 (fun _ _ f => f) (fun _ _ f => f))
        clear hh4 hk4 B1
        go_wp2_with fail
        go_meet
        exact ⟨_, HH4, HK4, HAB⟩
      · have b2 : decide ((30 : Int) < (dist : Int)) = false := by simp; omega
        have B1 := ibad_any w3 h v c3 vo most e3 false HH3.out
        have HAB : Hid (At3 ls a c3 (badE e3 false) lit dist many) := hid (HA3.out false ⟨fun h => (by cases h), fun h => absurd h (by omega)⟩)
        go_wp2_with fail
        refine B1.mono ?_
        rintro r w4 ⟨⟨u, rfl⟩, hh4, hk4⟩
        have HH4 : Hid (RdB w4 h v c3 vo most (badE e3 false)) := hh4
        have HK4 : Hid (Kept (· = h) w w4) := hid (HK3.out.trans hk4 (fun _ _ f => f) (fun _ _ f => f))
        clear hh4 hk4 B1
        go_wp2_with fail
        go_meet
        exact ⟨_, HH4, HK4, HAB⟩
  case rest =>
    obtain ⟨e4, HH4, HK4, HA4⟩ := hcut
    clear HA3 HH3 HK3 HK2 HK1 hlI hdI hmI
    have hhz : h < wc.heap.size := HH4.out.lt
    have hwz := HK4.out.size
    go_wp2_with (at_make; refine wpList_make_e _ natV 0 wc.heap.size 45 3 8 Tryz.underlying45 Tryz.infoN rfl (by decide) rfl _ _ rfl _ _ _ _ 19 rfl rfl rfl rfl (by omega) (Nat.le_refl _) ?_; intro w5 hr5 hg5 hs5; have HR5 : Hid (NRow wc.heap.size w5 (.slice (some ⟨wc.heap.size, 0, none⟩) 19 19) (List.replicate 19 0)) := hr5; have HKN : Hid (Same wc w5) := hid ((Kept.refl _ wc).grown hg5 (by simp)); clear hr5 hg5)
    obtain ⟨gC, hgC⟩ : ∃ g, g = wc.heap.size := ⟨_, rfl⟩
    rw [← hgC] at HR5 hhz hwz ⊢
    have hgC5 : gC < w5.heap.size := HR5.out.lt rfl
    have HK5 : Hid (Kept (· = h) w w5) := hid (HK4.out.trans HKN.out (fun _ _ f => f) (fun _ _ f => f.elim))
    have HH5 : Hid (RdB w5 h v c3 vo most e4) := hid (HH4.out.kept HKN.out (fun f => f))
    clear HK4 HH4 hgC
    refine (places5 w5).mono ?_
    rintro r w6 ⟨rfl, ho6, hk6, hs6⟩
    obtain ⟨gO, hgO⟩ : ∃ g, g = w5.heap.size := ⟨_, rfl⟩
    rw [← hgO] at ho6 hgC5 ⊢
    have HO6 : Hid (SrcE natV w6 (fun k => k = gO) (.slice (some ⟨gO, 0, none⟩) 19 19) ord) := ho6
    have HK6 : Hid (Kept (· = h) w w6) := hid (HK5.out.trans hk6 (fun _ _ f => f) (fun _ _ f => f.elim))
    have HH6 : Hid (RdB w6 h v c3 vo most e4) := hid (HH5.out.kept hk6 (fun f => f))
    have HR6 : Hid (NRow gC w6 (.slice (some ⟨gC, 0, none⟩) 19 19) (List.replicate 19 0)) := hid (HR5.out.same hk6)
    clear ho6 hk6 hs6 hgO HH5 HR5 HK5 HKN hs5
    go_wp2_with fail
    go_loopg [9] many (fun q zi wr => ∃ (i c e : Nat) (xs : List Nat), many - i ≤ q ∧ i ≤ many ∧ zi = .int .i64 (i : Nat) ∧ c ≤ M ∧ Hid (RdB wr h v c vo most e) ∧ Hid (NRow gC wr (.slice (some ⟨gC, 0, none⟩) 19 19) xs ∧ ∀ x ∈ xs, x ≤ 7) ∧ Hid (AtC ls a i c e lit dist many xs) ∧ Hid (SrcE natV wr (fun k => k = gO) (.slice (some ⟨gO, 0, none⟩) 19 19) ord) ∧ Hid (Kept (· = h) w wr))
    case atStart => exact ⟨0, c3, e4, _, by omega, by omega, rfl, hc3, HH6, hid ⟨HR6.out, fun x hx => by have := List.eq_of_mem_replicate hx; omega⟩, hid HA4.out.codes, HO6, HK6⟩
    case round =>
      clear HH6 HR6 HO6 HK6 HA4
      obtain ⟨i, c, e, xs, hq, hi, rfl, hcM, HHr, HRr, HCr, HOr, HKr⟩ := hrel
      have hxl : xs.length = 19 := HRr.out.1.len
      have k4 := HHr.out.cell 4
      simp at k4
      have HCK := rcheck_any wr (.slice (some ⟨gC, 0, none⟩) 19 19) _ (xs.map (fun (n : Nat) => (n : Int))) (SrcE.recode (enc' := intV) (SrcE.ofRow HRr.out.1) (by rw [List.map_map]; rfl)) (by rw [List.length_map]; omega)
      rw [chk_codes xs hxl HRr.out.2] at HCK
      obtain ⟨ck, hck⟩ : ∃ ck, ck = chkN xs := ⟨_, rfl⟩
      rw [← hck] at HCK
      have HXL : Hid (xs.length = 19 ∧ ck = chkN xs) := ⟨hxl, hck⟩
      clear hck hxl
      by_cases he : e = 0
      · subst he
        by_cases hlt : i < many
        · clear HCK
          obtain ⟨b, o, cap2, e2, _, _, cO⟩ := HOr.out.get i (by show i < 19; omega)
          simp only [Value.slice.injEq, Option.some.injEq, Addr.mk.injEq, and_true] at e2
          obtain ⟨⟨rfl, rfl⟩, hxe, rfl⟩ := e2
          clear hxe
          obtain ⟨oi, hoi⟩ : ∃ oi, oi = ord.getD i 0 := ⟨_, rfl⟩
          have hio : i < ord.length := by show i < 19; omega
          have hog : ord[i] = oi := by rw [hoi]; simp [List.getD, hio]
          rw [hog, Nat.zero_add] at cO
          unfold natV at cO
          have ho18 : oi ≤ 18 := by rw [hoi]; exact ord_le i (by omega)
          obtain ⟨t, ht⟩ : ∃ t, tk ls ⟨c, o3, 0⟩ 3 = t := ⟨_, rfl⟩
          have HTX0 := HT.out wr.drew c 0 3 HKr.out.drew HHr.out (by decide) hcM
          have hc' := tk_bound ls ⟨c, o3, 0⟩ 3 M HM.out hcM
          have hx' := tk_lt ls HZ.out.bit ⟨c, o3, 0⟩ 3
          rw [ht] at HTX0 hc' hx'
          obtain ⟨x, s'⟩ := t
          simp only at HTX0 hc' hx'
          have HTX : Hid (Calls Tryz.prog 99 #[.pointer (some ⟨h, 0, none⟩), .int .i64 3] wr.drew fun r w' => r = .returned (.int .i64 (x : Nat)) ∧ RdB w' h v s'.c vo most s'.e ∧ Kept (· = h) wr.drew w') := HTX0
          have HCN : Hid (AtC ls a (i + 1) s'.c s'.e lit dist many (xs.set oi x)) := hid (by rw [hoi]; exact HCr.out.next hlt ht)
          have H7 : Hid (∀ y ∈ xs.set oi x, y ≤ 7) := hid (fun y hy => by
            rcases List.mem_or_eq_of_mem_set hy with hy | rfl
            · exact HRr.out.2 y hy
            · omega)
          have hgh : ¬ gC = h := by omega
          have hwh2 : ¬ gO = h := by omega
          have hi19 : i < 19 := by omega
          have ho19 : oi < 19 := by omega
          have HCO : Hid (wr.cell? ⟨gO, i, none⟩ = some (.int .i64 (oi : Nat))) := cO
          have HRO : Hid (NRow gC wr (.slice (some ⟨gC, 0, none⟩) 19 19) xs) := hid HRr.out.1
          clear hoi hio hog HTX0 ht ho18 hx'
          go_wp2_with fail
          go_region_with (go_at_call 99; refine HTX.out.mono ?_; rintro r w5 ⟨rfl, hh5, hk5⟩; have cO5 : w5.cell? ⟨gO, i, none⟩ = some (.int .i64 (oi : Nat)) := hk5.cell HCO.out hwh2; have hr5 : NRow gC w5 (.slice (some ⟨gC, 0, none⟩) 19 19) xs := RowE.kept (show NRow gC wr.drew (.slice (some ⟨gC, 0, none⟩) 19 19) xs from HRO.out) hk5 (fun k hk e => by simp [Value.ownBlock] at hk; omega); have cS5 := hr5.cell oi (by have := HXL.out.1; omega); have fS5 := hr5.frozen oi; have HR5 : Hid (NRow gC w5 (.slice (some ⟨gC, 0, none⟩) 19 19) xs) := hr5; have HH5 : Hid (RdB w5 h v s'.c vo most s'.e) := hh5; have HK5 : Hid (Kept (· = h) wr w5) := hid ⟨hk5.os, hk5.tape, hk5.output, hk5.size, hk5.block⟩; clear hr5 hh5 hk5)
          all_goals
            have HR6 : Hid (NRow gC (w5.setCell ⟨gC, oi, none⟩ (.int .i64 (x : Nat))) (.slice (some ⟨gC, 0, none⟩) 19 19) (xs.set oi x)) := hid (HR5.out.lay oi x)
            have HKS : Hid (Kept (· = gC) w5 (w5.setCell ⟨gC, oi, none⟩ (.int .i64 (x : Nat)))) := hid ((Kept.refl (· = gC) w5).setCell ⟨gC, oi, none⟩ _ (.inl rfl))
            have HH6 : Hid (RdB (w5.setCell ⟨gC, oi, none⟩ (.int .i64 (x : Nat))) h v s'.c vo most s'.e) := hid (HH5.out.kept HKS.out (fun e => by omega))
            have HO6 : Hid (SrcE natV (w5.setCell ⟨gC, oi, none⟩ (.int .i64 (x : Nat))) (fun k => k = gO) (.slice (some ⟨gO, 0, none⟩) 19 19) ord) := hid ((HOr.out.kept HK5.out (fun k hk _ e => by omega)).kept HKS.out (fun k hk _ e => by omega))
            have HK6 : Hid (Kept (· = h) w (w5.setCell ⟨gC, oi, none⟩ (.int .i64 (x : Nat)))) := hid ((HKr.out.trans HK5.out (fun _ _ f => f) (fun _ _ f => f)).trans HKS.out (fun _ _ f => f) (fun x hx e => by omega))
            go_wp2_with fail
            go_roundg (gk - 1)
            case measure => omega
            case rel => exact ⟨i + 1, s'.c, s'.e, _, by omega, by omega, by go_num, hc', HH6, hid ⟨HR6.out, H7.out⟩, HCN, HO6, HK6⟩
        · have him : i = many := by omega
          subst him
          have hlt' : decide (i < i) = false := by simp
          have hCC := HCr.out.check
          have hcq : c = a + 14 + 3 * i ∧ lit ≤ 286 ∧ dist ≤ 30 := by
            rcases HCr.out with ⟨h1, _⟩ | ⟨_, h2, _, _, _, h6, h7⟩
            · exact absurd rfl h1
            · exact ⟨h2, h6, h7⟩
          rw [← HXL.out.2] at hCC
          clear hlt hq hi
          by_cases hck0 : ck = 0
          · have HRI : Hid (readF ls a = finF lit a (bodyF xs ls (lit + dist) (lit + dist) [] c)) := hid (hCC.2 hck0)
            have hac : a ≤ c := by omega
            have hl286 : lit ≤ 286 := hcq.2.1
            have hd30 : dist ≤ 30 := hcq.2.2
            have hckn : chkN xs = 0 := by rw [← HXL.out.2]; exact hck0
            have HME : Hid (measure xs ≤ 32768) := hid (chkN_measure hckn)
            subst hck0
            have B1 := ibad_any wr h v c vo most 0 false HHr.out
            rw [badE_false] at B1
            clear hCC hcq hckn
            go_wp2_with fail
            clear hlt'
            refine HCK.mono ?_
            rintro r wx ⟨rfl, hwx⟩
            subst hwx
            clear HCK
            go_wp2_with fail
            refine B1.mono ?_
            rintro r w7 ⟨⟨u, rfl⟩, hh7, hk7⟩
            have HH7 : Hid (RdB w7 h v c vo most 0) := hh7
            have HK7 : Hid (Kept (· = h) w w7) := hid (HKr.out.trans hk7 (fun _ _ f => f) (fun _ _ f => f))
            have hgh : gC ≠ h := by omega
            have HR7 : Hid (NRow gC w7 (.slice (some ⟨gC, 0, none⟩) 19 19) xs) := hid (HRr.out.1.kept hk7 (fun k hk e => by simp [Value.ownBlock] at hk; omega))
            have H77 : Hid (∀ x ∈ xs, x ≤ 7) := hid HRr.out.2
            have k4' := HH7.out.cell 4
            simp at k4'
            have RO := rows_any w7 (.slice (some ⟨gC, 0, none⟩) 19 19) _ xs (SrcE.ofRow HR7.out) (by have := HXL.out.1; omega) (fun n hn => by have := H77.out n hn; omega) HME.out
            rw [HXL.out.1] at RO
            clear hh7 hk7 B1 HHr HRr HCr HOr HKr k4
            go_wp2_with fail
            refine RO.mono ?_
            rintro r w8 ⟨go, rs, rfl, hrw⟩
            have hgoR : w7.heap.size ≤ go := hrw.row.ge rfl
            have hh7 : h < w7.heap.size := HH7.out.lt
            have HS07 : Hid (Same w00 w7) := hid (Same.then HSW.out HK7.out (fun x hx e => by omega))
            have HRW8 : Hid (RW w00 w8 go 19 xs (fun s => key xs s ≠ 0) rs) := hid (hrw.down HS07.out)
            have HOFF : Hid (RowsOff w00 go xs rs h) := hid ⟨hh0, by omega, fun s hs hp e => by have := (hrw.have' s hs hp).2 h e; omega⟩
            have HH8 : Hid (RdB w8 h v c vo most 0) := hid (HH7.out.kept hrw.same (fun f => f))
            have HK8 : Hid (Kept (· = h) w w8) := hid (HK7.out.trans hrw.same (fun _ _ f => f) (fun _ _ f => f.elim))
            have HGB : Hid (RW w7 w8 go 19 xs (fun s => key xs s ≠ 0) rs) := hrw
            clear hrw RO HH7 HR7 k4'
            obtain ⟨N, hN⟩ : ∃ N, N = lit + dist := ⟨_, rfl⟩
            have hNI : (lit : Int) + (dist : Int) = (N : Int) := by omega
            have hN316 : N ≤ 316 := by omega
            have HN : Hid (N = lit + dist) := hN
            obtain ⟨B, hB⟩ : ∃ B, B = w8.heap.size := ⟨_, rfl⟩
            have hhB : h < B := by rw [hB]; exact HH8.out.lt
            have hwB : w.heap.size ≤ B := by rw [hB]; exact HK8.out.size
            have HRB : Hid (go < B ∧ ∀ s (hs : s < rs.length), key xs s ≠ 0 → ∀ k, (slV rs[s]).ownBlock = some k → k < B) := hid ⟨by rw [hB]; exact HGB.out.row.lt rfl, fun s hs hp k e => by rw [hB]; exact (HGB.out.have' s hs hp).1.lt e⟩
            have HKO : Hid (∀ wx wy, RW w00 wx go 19 xs (fun s => key xs s ≠ 0) rs → Kept (Over B) wx wy → RW w00 wy go 19 xs (fun s => key xs s ≠ 0) rs) := hid (fun wx wy hr hk => hr.kept hk (fun k hlt f => by unfold Over at f; have := HS07.out.size; have := HK8.out.size; omega) (fun f => by unfold Over at f; have := HRB.out.1; omega) (fun s hs hp k e f => by unfold Over at f; have := HRB.out.2 s hs hp k e; omega))
            have HB8 : Hid (B ≤ w8.heap.size) := hid (by omega)
            have HAB0 : Hid (AtB ls a lit dist xs N c 0 []) := hid (.inr (.inr ⟨rfl, by simp, by simp; omega, hac, by simp, by rw [HRI.out, hN]⟩))
            clear hN hB HRI HGB hgoR hh7
            go_wp2_with fail
            go_loopg [11] N (fun q zl wr => ∃ (f c2 e : Nat) (l : List Nat), f ≤ q ∧ c2 ≤ M ∧ l.length ≤ 1000 ∧ Hid (AtB ls a lit dist xs f c2 e l) ∧ Hid (NRow B wr zl l) ∧ Hid (RdB wr h v c2 vo most e) ∧ Hid (RW w00 wr go 19 xs (fun s => key xs s ≠ 0) rs) ∧ Hid (Kept (· = h) w wr) ∧ Hid (B ≤ wr.heap.size))
            case atStart => exact ⟨N, c, 0, [], by omega, hcM, by simp, HAB0, RowE.nil, HH8, HRW8, HK8, HB8⟩
            case round =>
              clear HAB0 HH8 HRW8 HK8 HB8
              obtain ⟨f, c2, e, l, hfq, hc2M, hl1000, HAB, HL, HHr, HRW, HKr, HBr⟩ := hrel
              obtain ⟨al, capl, hvl, hal, hal0, hlc, _⟩ := HL.out.shape
              subst hvl
              obtain ⟨Ln, hLn⟩ : ∃ Ln, Ln = l.length := ⟨_, rfl⟩
              rw [← hLn] at HL hlc hl1000 ⊢
              have HLn : Hid (Ln = l.length) := hLn
              have k4 := HHr.out.cell 4
              simp at k4
              by_cases he : e = 0
              · subst he
                by_cases hlt : Ln < N
                · have hlt0 : l.length < lit + dist := by have := HN.out; omega
                  have hf1 : 1 ≤ f := by
                    rcases HAB.out with ⟨h1, _⟩ | ⟨_, h1, _⟩ | ⟨_, _, h3, _⟩
                    · exact absurd rfl h1
                    · omega
                    · omega
                  obtain ⟨is, k, g, hnf⟩ : ∃ is k g, nextF xs (ls.drop c2) = (is, k, g) := ⟨_, _, _, rfl⟩
                  have hrn := nextF_is xs (ls.drop c2)
                  rw [hnf] at hrn
                  simp only at hrn
                  have hkle : c2 + k ≤ M := by
                    have := hrn.fits
                    rw [List.length_drop] at this
                    have := HM.out
                    omega
                  have his : is < 19 := by have := hrn.sym_lt (by have := HXL.out.1; omega); have := HXL.out.1; omega
                  have hg3 := hrn.small
                  have HNF : Hid (nextF xs (ls.drop c2) = (is, k, g)) := hnf
                  have HLT : Hid (l.length < lit + dist) := hlt0
                  have Y1 := isym_any wr w00 h v I ls c2 vo most 0 52 go 19 xs rs HHr.out (HRS.out.src.kept HKr.out (fun k hi _ e => by subst e; exact HRS.out.gh (HRS.out.ig _ hi))) (by have := HM.out; omega) (by have := HM.out; omega) HRW.out HXL.out.1.symm (by decide) (fun s => by
                    by_cases e : s < xs.length
                    · rw [key_get e]; have := H77.out _ (List.getElem_mem e); omega
                    · simp [key, e])
                  have Y2 : Calls Tryz.prog 136 #[.pointer (some ⟨h, 0, none⟩), .slice (some ⟨go, 0, none⟩) 19 19, .int .i64 52] wr fun r w' => r = .returned (.int .i64 (is : Nat)) ∧ RdB w' h v (c2 + k) vo most (syE g 52) ∧ Kept (· = h) wr w' := Y1.mono (by
                    rintro e w' ⟨hA, hk⟩
                    unfold SymA at hA
                    rw [if_neg (by simp), hnf] at hA
                    exact ⟨hA.1, hA.2, hk⟩)
                  obtain ⟨ck2, hck2⟩ : ∃ ck2, ck2 = c2 + k := ⟨_, rfl⟩
                  rw [← hck2] at Y2 hkle
                  have HCK2 : Hid (ck2 = c2 + k) := hck2
                  clear hrn hnf Y1 hLn hck2 hlt0
                  go_wp2_with fail
                  refine Y2.mono ?_
                  rintro r w9 ⟨rfl, hh9, hk9⟩
                  have HL9 : Hid (NRow B w9 (.slice al Ln capl) l) := hid (HL.out.kept hk9 (fun k hk e => by have := HL.out.ge hk; omega))
                  have HRW9 : Hid (RW w00 w9 go 19 xs (fun s => key xs s ≠ 0) rs) := hid (HRW.out.off HOFF.out hk9)
                  have HK9 : Hid (Kept (· = h) w w9) := hid (HKr.out.trans hk9 (fun _ _ f => f) (fun _ _ f => f))
                  have HB9 : Hid (B ≤ w9.heap.size) := hid (Nat.le_trans HBr.out hk9.size)
                  have HH9 : Hid (RdB w9 h v ck2 vo most (syE g 52)) := hh9
                  clear hh9 hk9 Y2 HL HRW HKr HBr HHr k4
                  by_cases hg0 : g = 0
                  · subst hg0
                    have HH9' : Hid (RdB w9 h v ck2 vo most 0) := HH9
                    clear HH9
                    have k4' := HH9'.out.cell 4
                    simp at k4'
                    have HWALK : Hid (∀ w10 v10 l', NRow B w10 v10 l' → Kept (Over B) w9 w10 → RW w00 w10 go 19 xs (fun s => key xs s ≠ 0) rs ∧ Kept (· = h) w w10 ∧ B ≤ w10.heap.size ∧ (∀ c e, RdB w9 h v c vo most e → RdB w10 h v c vo most e)) := hid (fun w10 v10 l' _ hkO => ⟨HKO.out w9 w10 HRW9.out hkO, HK9.out.trans hkO (fun _ _ f => f) (fun x hx f => by unfold Over at f; omega), Nat.le_trans HB9.out hkO.size, fun c e hb => hb.kept hkO (fun f => by unfold Over at f; omega)⟩)
                    by_cases hi16 : is < 16
                    · have HNEW : Hid (AtB ls a lit dist xs (f - 1) ck2 0 (l ++ [is])) := hid (by
                        have hxb : xbits is = 0 := by unfold xbits; rw [if_neg (by omega), if_neg (by omega), if_neg (by omega)]
                        have h9 := HAB.out.says HLT.out HNF.out (x := 0) (v := is) (n := 1) (by rw [hxb]; have := HM.out; have := HCK2.out; omega) (by rw [hxb]; simp [numAt, n2]) (by unfold saysM; rw [if_pos ⟨by simp, by simp; omega, rfl⟩]; simp)
                        rw [hxb, Nat.add_zero, ← HCK2.out] at h9
                        exact h9)
                      have HLen : Hid (l.length + 1 ≤ 1000000000) := hid (by have := HLn.out; omega)
                      go_wp2_with (at_builtin; refine wpList_append_nat _ B rfl (.tmp 97) (.tmp 99) rfl (.slice al Ln capl) l rfl (World.ownsRow.alloc HL9.out _) ⟨w9.heap.size, 0, none⟩ is rfl (nat_new _ _) HLen.out (by have := HB9.out; simp; omega) ?_; intro v10 w10 hr10 hg10)
                      have hkO : Kept (Over B) w9 w10 := ((Kept.refl _ w9).alloc _).grown hg10 (fun k e => .inl (HL9.out.ge e))
                      have hW := HWALK.out w10 v10 _ hr10 hkO
                      have HL10 : Hid (NRow B w10 v10 (l ++ [is])) := hr10
                      have HF10 : Hid (RW w00 w10 go 19 xs (fun s => key xs s ≠ 0) rs ∧ Kept (· = h) w w10 ∧ B ≤ w10.heap.size ∧ RdB w10 h v ck2 vo most 0) := hid ⟨hW.1, hW.2.1, hW.2.2.1, hW.2.2.2 ck2 0 HH9'.out⟩
                      clear hr10 hg10 hkO hW
                      go_wp2_with fail
                      go_roundg (gk - 1)
                      case measure => omega
                      case rel => exact ⟨f - 1, ck2, 0, _, by omega, hkle, by have := HLn.out; simp; omega, HNEW, HL10, hid HF10.out.2.2.2, hid HF10.out.1, hid HF10.out.2.1, hid HF10.out.2.2.1⟩
                    · have hi16d : decide (is < 16) = false := by simp; omega
                      by_cases h16 : is = 16
                      · subst h16
                        have T1 := HT.out w9 ck2 0 2 HK9.out HH9'.out (by decide) hkle
                        rcases tk_cases ls ck2 o3 2 with ⟨hft, htk⟩ | ⟨hft, htk⟩
                        · have hx4 := tk_lt ls HZ.out.bit ⟨ck2, o3, 0⟩ 2
                          rw [htk] at T1 hx4
                          simp only at T1 hx4
                          obtain ⟨x, hx⟩ : ∃ x, x = numAt ls ck2 2 := ⟨_, rfl⟩
                          rw [← hx] at T1 hx4
                          obtain ⟨n, hn⟩ : ∃ n, n = 3 + x := ⟨_, rfl⟩
                          have hnI : (3 : Int) + (x : Int) = (n : Int) := by omega
                          have HXN : Hid (x = numAt ls (c2 + k) (xbits 16) ∧ c2 + k + xbits 16 ≤ ls.length ∧ n = x + 3) := hid ⟨by rw [← HCK2.out]; exact hx, by rw [← HCK2.out]; exact hft, by omega⟩
                          have hftM : ck2 + 2 ≤ M := by have := HM.out; omega
                          have HX4 : Hid (x < 4) := hid hx4
                          have hn200 : n ≤ 200 := by have := HX4.out; omega
                          clear hx htk hft hx4 hn
                          go_wp2_with fail
                          refine T1.mono ?_
                          rintro r w10 ⟨rfl, hh10, hk10⟩
                          have HH10 : Hid (RdB w10 h v (ck2 + 2) vo most 0) := hh10
                          have HL10 : Hid (NRow B w10 (.slice al Ln capl) l) := hid (HL9.out.kept hk10 (fun k hk e => by have := HL9.out.ge hk; omega))
                          have HRW10 : Hid (RW w00 w10 go 19 xs (fun s => key xs s ≠ 0) rs) := hid (HRW9.out.off HOFF.out hk10)
                          have HK10 : Hid (Kept (· = h) w w10) := hid (HK9.out.trans hk10 (fun _ _ f => f) (fun _ _ f => f))
                          have HB10 : Hid (B ≤ w10.heap.size) := hid (Nat.le_trans HB9.out hk10.size)
                          clear hh10 hk10 T1 HL9 HRW9 HK9 HB9 HH9' k4' HWALK
                          by_cases hL0 : Ln = 0
                          · subst hL0
                            have B1 := ibad_any w10 h v (ck2 + 2) vo most 0 true HH10.out
                            rw [badE_true] at B1
                            have HE : Hid (head5 ls a = .error 52) := hid (HAB.out.none HLT.out HNF.out HXN.out.2.1 HXN.out.1 (by
                              have hl0 : l.length = 0 := HLn.out.symm
                              unfold saysM
                              rw [if_neg (by simp), if_neg (by omega), if_neg (by simp), if_neg (by simp)]))
                            go_wp2_with fail
                            refine B1.mono ?_
                            rintro r w11 ⟨⟨u, rfl⟩, hh11, hk11⟩
                            have HH11 : Hid (RdB w11 h v (ck2 + 2) vo most 52) := hh11
                            have HF11 : Hid (NRow B w11 (.slice al 0 capl) l ∧ RW w00 w11 go 19 xs (fun s => key xs s ≠ 0) rs ∧ Kept (· = h) w w11 ∧ B ≤ w11.heap.size) := hid ⟨HL10.out.kept hk11 (fun k hk e => by have := HL10.out.ge hk; omega), HRW10.out.off HOFF.out hk11, HK10.out.trans hk11 (fun _ _ f => f) (fun _ _ f => f), Nat.le_trans HB10.out hk11.size⟩
                            have k5 := HH11.out.cell 4
                            simp at k5
                            clear hh11 hk11 B1
                            go_wp2_with fail
                            go_roundg (gk - 1)
                            case measure => omega
                            case rel => exact ⟨f - 1, ck2 + 2, 52, l, by omega, hftM, by have := HLn.out; omega, hid (.inl ⟨by decide, HE.out⟩), hid HF11.out.1, HH11, hid HF11.out.2.1, hid HF11.out.2.2.1, hid HF11.out.2.2.2⟩
                          · have hL0d : ((Ln : Int) == 0) = false := by simp; omega
                            have B1 := ibad_any w10 h v (ck2 + 2) vo most 0 false HH10.out
                            rw [badE_false] at B1
                            obtain ⟨gl, hgl⟩ := hal (by intro e; rw [e] at HLn; have := HLn.out; simp at this; omega)
                            subst hgl
                            go_wp2_with fail
                            refine B1.mono ?_
                            rintro r w11 ⟨⟨u, rfl⟩, hh11, hk11⟩
                            have HH11 : Hid (RdB w11 h v (ck2 + 2) vo most 0) := hh11
                            have HL11 : Hid (NRow B w11 (.slice (some ⟨gl, 0, none⟩) Ln capl) l) := hid (HL10.out.kept hk11 (fun k hk e => by have := HL10.out.ge hk; omega))
                            have HF11 : Hid (RW w00 w11 go 19 xs (fun s => key xs s ≠ 0) rs ∧ Kept (· = h) w w11 ∧ B ≤ w11.heap.size) := hid ⟨HRW10.out.off HOFF.out hk11, HK10.out.trans hk11 (fun _ _ f => f) (fun _ _ f => f), Nat.le_trans HB10.out hk11.size⟩
                            have k5 := HH11.out.cell 4
                            simp at k5
                            obtain ⟨p, hp⟩ : ∃ p, p = Ln - 1 := ⟨_, rfl⟩
                            have hpI : (Ln : Int) - 1 = (p : Int) := by omega
                            have hpl : p < l.length := by have := HLn.out; omega
                            have hpL : p < Ln := by omega
                            have cx := HL11.out.cell p hpl
                            obtain ⟨y, hy⟩ : ∃ y, y = l[p] := ⟨_, rfl⟩
                            rw [← hy] at cx
                            unfold natV at cx
                            have TT := times5 w11 B (.slice (some ⟨gl, 0, none⟩) Ln capl) l n y HL11.out HF11.out.2.2 (by have := HLn.out; omega)
                            have HNEW : Hid (AtB ls a lit dist xs (f - 1) (ck2 + 2) 0 (l ++ List.replicate n y)) := hid (by
                              have hla : lastN l = y := by
                                unfold lastN
                                rw [← HLn.out, ← hp, hy]
                                simp [List.getD, hpl]
                              have h9 := HAB.out.says HLT.out HNF.out (x := x) (v := y) (n := n) HXN.out.2.1 HXN.out.1 (by
                                unfold saysM
                                rw [if_neg (by simp), if_pos ⟨rfl, by have := HX4.out; omega, by have := HX4.out; omega, by have := HX4.out; omega⟩, hla]
                                have := HXN.out.2.2
                                simp; omega)
                              rw [← HCK2.out] at h9
                              exact h9)
                            clear hh11 hk11 B1 hy hp
                            go_wp2_with fail
                            refine TT.mono ?_
                            rintro r w12 ⟨v12, rfl, hr12, hkO⟩
                            have HL12 : Hid (NRow B w12 v12 (l ++ List.replicate n y)) := hr12
                            have HF12 : Hid (RW w00 w12 go 19 xs (fun s => key xs s ≠ 0) rs ∧ Kept (· = h) w w12 ∧ B ≤ w12.heap.size ∧ RdB w12 h v (ck2 + 2) vo most 0) := hid ⟨HKO.out w11 w12 HF11.out.1 hkO, HF11.out.2.1.trans hkO (fun _ _ f => f) (fun x hx f => by unfold Over at f; omega), Nat.le_trans HF11.out.2.2 hkO.size, HH11.out.kept hkO (fun f => by unfold Over at f; omega)⟩
                            clear hr12 hkO TT
                            go_wp2_with fail
                            go_roundg (gk - 1)
                            case measure => omega
                            case rel => exact ⟨f - 1, ck2 + 2, 0, _, by omega, hftM, by have := HLn.out; simp; omega, HNEW, HL12, hid HF12.out.2.2.2, hid HF12.out.1, hid HF12.out.2.1, hid HF12.out.2.2.1⟩
                        · rw [htk] at T1
                          simp only at T1
                          have HE : Hid (head5 ls a = .error 55) := hid (HAB.out.short HLT.out HNF.out (by rw [← HCK2.out]; exact hft))
                          clear htk hft
                          go_wp2_with fail
                          refine T1.mono ?_
                          rintro r w10 ⟨rfl, hh10, hk10⟩
                          have HH10 : Hid (RdB w10 h v ck2 vo most 55) := hh10
                          have B1 : Hid (∀ b : Bool, Calls Tryz.prog 138 #[.pointer (some ⟨h, 0, none⟩), .bool b] w10 fun r w' => (∃ u, r = .returned u) ∧ RdB w' h v ck2 vo most 55 ∧ Kept (· = h) w10 w') := hid (fun b => by
                            have h9 := ibad_any w10 h v ck2 vo most 55 b HH10.out
                            rw [badE_stuck (by decide)] at h9
                            exact h9)
                          have HF10 : Hid (NRow B w10 (.slice al Ln capl) l ∧ RW w00 w10 go 19 xs (fun s => key xs s ≠ 0) rs ∧ Kept (· = h) w w10 ∧ B ≤ w10.heap.size) := hid ⟨HL9.out.kept hk10 (fun k hk e => by have := HL9.out.ge hk; omega), HRW9.out.off HOFF.out hk10, HK9.out.trans hk10 (fun _ _ f => f) (fun _ _ f => f), Nat.le_trans HB9.out hk10.size⟩
                          clear hh10 hk10 T1
                          go_wp2_with fail
                          refine (B1.out _).mono ?_
                          rintro r w11 ⟨⟨u, rfl⟩, hh11, hk11⟩
                          have HH11 : Hid (RdB w11 h v ck2 vo most 55) := hh11
                          have HF11 : Hid (NRow B w11 (.slice al Ln capl) l ∧ RW w00 w11 go 19 xs (fun s => key xs s ≠ 0) rs ∧ Kept (· = h) w w11 ∧ B ≤ w11.heap.size) := hid ⟨HF10.out.1.kept hk11 (fun k hk e => by have := HF10.out.1.ge hk; omega), HF10.out.2.1.off HOFF.out hk11, HF10.out.2.2.1.trans hk11 (fun _ _ f => f) (fun _ _ f => f), Nat.le_trans HF10.out.2.2.2 hk11.size⟩
                          have k5 := HH11.out.cell 4
                          simp at k5
                          clear hh11 hk11
                          go_wp2_with fail
                          go_roundg (gk - 1)
                          case measure => omega
                          case rel => exact ⟨f - 1, ck2, 55, l, by omega, hkle, by have := HLn.out; omega, hid (.inl ⟨by decide, HE.out⟩), hid HF11.out.1, HH11, hid HF11.out.2.1, hid HF11.out.2.2.1, hid HF11.out.2.2.2⟩
                      · have h16d : ((is : Int) == 16) = false := by simp; omega
                        by_cases h17 : is = 17
                        · subst h17
                          have T1 := HT.out w9 ck2 0 3 HK9.out HH9'.out (by decide) hkle
                          rcases tk_cases ls ck2 o3 3 with ⟨hft, htk⟩ | ⟨hft, htk⟩
                          · have hx4 := tk_lt ls HZ.out.bit ⟨ck2, o3, 0⟩ 3
                            rw [htk] at T1 hx4
                            simp only at T1 hx4
                            obtain ⟨x, hx⟩ : ∃ x, x = numAt ls ck2 3 := ⟨_, rfl⟩
                            rw [← hx] at T1 hx4
                            have hx4' : x < 8 := hx4
                            obtain ⟨n, hn⟩ : ∃ n, n = 3 + x := ⟨_, rfl⟩
                            have hnI : (3 : Int) + (x : Int) = (n : Int) := by omega
                            have hn200 : n ≤ 200 := by omega
                            have HNEW : Hid (AtB ls a lit dist xs (f - 1) (ck2 + 3) 0 (l ++ List.replicate n 0)) := hid (by
                              have h9 := HAB.out.says HLT.out HNF.out (x := x) (v := 0) (n := n) (by rw [← HCK2.out]; exact hft) (by rw [← HCK2.out]; exact hx) (by
                                unfold saysM
                                rw [if_neg (by simp), if_neg (by simp), if_pos ⟨rfl, by omega, by omega⟩]
                                simp; omega)
                              rw [← HCK2.out] at h9
                              exact h9)
                            have hftM : ck2 + 3 ≤ M := by have := HM.out; omega
                            clear hx htk hft hx4 hx4' hn
                            go_wp2_with fail
                            refine T1.mono ?_
                            rintro r w10 ⟨rfl, hh10, hk10⟩
                            have HH10 : Hid (RdB w10 h v (ck2 + 3) vo most 0) := hh10
                            have HL10 : Hid (NRow B w10 (.slice al Ln capl) l) := hid (HL9.out.kept hk10 (fun k hk e => by have := HL9.out.ge hk; omega))
                            have HF10 : Hid (RW w00 w10 go 19 xs (fun s => key xs s ≠ 0) rs ∧ Kept (· = h) w w10 ∧ B ≤ w10.heap.size) := hid ⟨HRW9.out.off HOFF.out hk10, HK9.out.trans hk10 (fun _ _ f => f) (fun _ _ f => f), Nat.le_trans HB9.out hk10.size⟩
                            have TT := times5 w10 B (.slice al Ln capl) l n 0 HL10.out HF10.out.2.2 (by have := HLn.out; omega)
                            clear hh10 hk10 T1
                            go_wp2_with fail
                            refine TT.mono ?_
                            rintro r w12 ⟨v12, rfl, hr12, hkO⟩
                            have HL12 : Hid (NRow B w12 v12 (l ++ List.replicate n 0)) := hr12
                            have HF12 : Hid (RW w00 w12 go 19 xs (fun s => key xs s ≠ 0) rs ∧ Kept (· = h) w w12 ∧ B ≤ w12.heap.size ∧ RdB w12 h v (ck2 + 3) vo most 0) := hid ⟨HKO.out w10 w12 HF10.out.1 hkO, HF10.out.2.1.trans hkO (fun _ _ f => f) (fun x hx f => by unfold Over at f; omega), Nat.le_trans HF10.out.2.2 hkO.size, HH10.out.kept hkO (fun f => by unfold Over at f; omega)⟩
                            clear hr12 hkO TT
                            go_wp2_with fail
                            go_roundg (gk - 1)
                            case measure => omega
                            case rel => exact ⟨f - 1, ck2 + 3, 0, _, by omega, hftM, by have := HLn.out; simp; omega, HNEW, HL12, hid HF12.out.2.2.2, hid HF12.out.1, hid HF12.out.2.1, hid HF12.out.2.2.1⟩
                          · rw [htk] at T1
                            simp only at T1
                            have HE : Hid (head5 ls a = .error 55) := hid (HAB.out.short HLT.out HNF.out (by rw [← HCK2.out]; exact hft))
                            clear htk hft
                            go_wp2_with fail
                            refine T1.mono ?_
                            rintro r w10 ⟨rfl, hh10, hk10⟩
                            have HH10 : Hid (RdB w10 h v ck2 vo most 55) := hh10
                            have HL10 : Hid (NRow B w10 (.slice al Ln capl) l) := hid (HL9.out.kept hk10 (fun k hk e => by have := HL9.out.ge hk; omega))
                            have HF10 : Hid (RW w00 w10 go 19 xs (fun s => key xs s ≠ 0) rs ∧ Kept (· = h) w w10 ∧ B ≤ w10.heap.size) := hid ⟨HRW9.out.off HOFF.out hk10, HK9.out.trans hk10 (fun _ _ f => f) (fun _ _ f => f), Nat.le_trans HB9.out hk10.size⟩
                            have TT := times5 w10 B (.slice al Ln capl) l 3 0 HL10.out HF10.out.2.2 (by have := HLn.out; omega)
                            clear hh10 hk10 T1
                            go_wp2_with fail
                            refine TT.mono ?_
                            rintro r w12 ⟨v12, rfl, hr12, hkO⟩
                            have HL12 : Hid (NRow B w12 v12 (l ++ List.replicate 3 0)) := hr12
                            have HF12 : Hid (RW w00 w12 go 19 xs (fun s => key xs s ≠ 0) rs ∧ Kept (· = h) w w12 ∧ B ≤ w12.heap.size ∧ RdB w12 h v ck2 vo most 55) := hid ⟨HKO.out w10 w12 HF10.out.1 hkO, HF10.out.2.1.trans hkO (fun _ _ f => f) (fun x hx f => by unfold Over at f; omega), Nat.le_trans HF10.out.2.2 hkO.size, HH10.out.kept hkO (fun f => by unfold Over at f; omega)⟩
                            clear hr12 hkO TT
                            go_wp2_with fail
                            go_roundg (gk - 1)
                            case measure => omega
                            case rel => exact ⟨f - 1, ck2, 55, _, by omega, hkle, by have := HLn.out; simp; omega, hid (.inl ⟨by decide, HE.out⟩), HL12, hid HF12.out.2.2.2, hid HF12.out.1, hid HF12.out.2.1, hid HF12.out.2.2.1⟩
                        · have h18 : is = 18 := by omega
                          subst h18
                          have T1 := HT.out w9 ck2 0 7 HK9.out HH9'.out (by decide) hkle
                          rcases tk_cases ls ck2 o3 7 with ⟨hft, htk⟩ | ⟨hft, htk⟩
                          · have hx4 := tk_lt ls HZ.out.bit ⟨ck2, o3, 0⟩ 7
                            rw [htk] at T1 hx4
                            simp only at T1 hx4
                            obtain ⟨x, hx⟩ : ∃ x, x = numAt ls ck2 7 := ⟨_, rfl⟩
                            rw [← hx] at T1 hx4
                            have hx4' : x < 128 := hx4
                            obtain ⟨n, hn⟩ : ∃ n, n = 11 + x := ⟨_, rfl⟩
                            have hnI : (11 : Int) + (x : Int) = (n : Int) := by omega
                            have hn200 : n ≤ 200 := by omega
                            have HNEW : Hid (AtB ls a lit dist xs (f - 1) (ck2 + 7) 0 (l ++ List.replicate n 0)) := hid (by
                              have h9 := HAB.out.says HLT.out HNF.out (x := x) (v := 0) (n := n) (by rw [← HCK2.out]; exact hft) (by rw [← HCK2.out]; exact hx) (by
                                unfold saysM
                                rw [if_neg (by simp), if_neg (by simp), if_neg (by simp), if_pos ⟨rfl, by omega, by omega⟩]
                                simp; omega)
                              rw [← HCK2.out] at h9
                              exact h9)
                            have hftM : ck2 + 7 ≤ M := by have := HM.out; omega
                            clear hx htk hft hx4 hx4' hn
                            go_wp2_with fail
                            refine T1.mono ?_
                            rintro r w10 ⟨rfl, hh10, hk10⟩
                            have HH10 : Hid (RdB w10 h v (ck2 + 7) vo most 0) := hh10
                            have HL10 : Hid (NRow B w10 (.slice al Ln capl) l) := hid (HL9.out.kept hk10 (fun k hk e => by have := HL9.out.ge hk; omega))
                            have HF10 : Hid (RW w00 w10 go 19 xs (fun s => key xs s ≠ 0) rs ∧ Kept (· = h) w w10 ∧ B ≤ w10.heap.size) := hid ⟨HRW9.out.off HOFF.out hk10, HK9.out.trans hk10 (fun _ _ f => f) (fun _ _ f => f), Nat.le_trans HB9.out hk10.size⟩
                            have TT := times5 w10 B (.slice al Ln capl) l n 0 HL10.out HF10.out.2.2 (by have := HLn.out; omega)
                            clear hh10 hk10 T1
                            go_wp2_with fail
                            refine TT.mono ?_
                            rintro r w12 ⟨v12, rfl, hr12, hkO⟩
                            have HL12 : Hid (NRow B w12 v12 (l ++ List.replicate n 0)) := hr12
                            have HF12 : Hid (RW w00 w12 go 19 xs (fun s => key xs s ≠ 0) rs ∧ Kept (· = h) w w12 ∧ B ≤ w12.heap.size ∧ RdB w12 h v (ck2 + 7) vo most 0) := hid ⟨HKO.out w10 w12 HF10.out.1 hkO, HF10.out.2.1.trans hkO (fun _ _ f => f) (fun x hx f => by unfold Over at f; omega), Nat.le_trans HF10.out.2.2 hkO.size, HH10.out.kept hkO (fun f => by unfold Over at f; omega)⟩
                            clear hr12 hkO TT
                            go_wp2_with fail
                            go_roundg (gk - 1)
                            case measure => omega
                            case rel => exact ⟨f - 1, ck2 + 7, 0, _, by omega, hftM, by have := HLn.out; simp; omega, HNEW, HL12, hid HF12.out.2.2.2, hid HF12.out.1, hid HF12.out.2.1, hid HF12.out.2.2.1⟩
                          · rw [htk] at T1
                            simp only at T1
                            have HE : Hid (head5 ls a = .error 55) := hid (HAB.out.short HLT.out HNF.out (by rw [← HCK2.out]; exact hft))
                            clear htk hft
                            go_wp2_with fail
                            refine T1.mono ?_
                            rintro r w10 ⟨rfl, hh10, hk10⟩
                            have HH10 : Hid (RdB w10 h v ck2 vo most 55) := hh10
                            have HL10 : Hid (NRow B w10 (.slice al Ln capl) l) := hid (HL9.out.kept hk10 (fun k hk e => by have := HL9.out.ge hk; omega))
                            have HF10 : Hid (RW w00 w10 go 19 xs (fun s => key xs s ≠ 0) rs ∧ Kept (· = h) w w10 ∧ B ≤ w10.heap.size) := hid ⟨HRW9.out.off HOFF.out hk10, HK9.out.trans hk10 (fun _ _ f => f) (fun _ _ f => f), Nat.le_trans HB9.out hk10.size⟩
                            have TT := times5 w10 B (.slice al Ln capl) l 11 0 HL10.out HF10.out.2.2 (by have := HLn.out; omega)
                            clear hh10 hk10 T1
                            go_wp2_with fail
                            refine TT.mono ?_
                            rintro r w12 ⟨v12, rfl, hr12, hkO⟩
                            have HL12 : Hid (NRow B w12 v12 (l ++ List.replicate 11 0)) := hr12
                            have HF12 : Hid (RW w00 w12 go 19 xs (fun s => key xs s ≠ 0) rs ∧ Kept (· = h) w w12 ∧ B ≤ w12.heap.size ∧ RdB w12 h v ck2 vo most 55) := hid ⟨HKO.out w10 w12 HF10.out.1 hkO, HF10.out.2.1.trans hkO (fun _ _ f => f) (fun x hx f => by unfold Over at f; omega), Nat.le_trans HF10.out.2.2 hkO.size, HH10.out.kept hkO (fun f => by unfold Over at f; omega)⟩
                            clear hr12 hkO TT
                            go_wp2_with fail
                            go_roundg (gk - 1)
                            case measure => omega
                            case rel => exact ⟨f - 1, ck2, 55, _, by omega, hkle, by have := HLn.out; simp; omega, hid (.inl ⟨by decide, HE.out⟩), HL12, hid HF12.out.2.2.2, hid HF12.out.1, hid HF12.out.2.1, hid HF12.out.2.2.1⟩
                  · have he7 : syE g 52 ≠ 0 := by unfold syE; rcases hg3 with h | h | h <;> simp [h] <;> omega
                    have HE : Hid (head5 ls a = .error (syE g 52)) := hid (by
                      rw [HAB.out.bad HLT.out HNF.out hg0]
                      rcases hg3 with h | h | h
                      · exact absurd h hg0
                      · rw [h]; rfl
                      · rw [h]; rfl)
                    obtain ⟨e7, hee⟩ : ∃ e7, e7 = syE g 52 := ⟨_, rfl⟩
                    rw [← hee] at HH9 he7 HE
                    have hed : ((e7 : Int) != 0) = true := by simp; omega
                    have HE7 : Hid (e7 ≠ 0) := he7
                    have k4' := HH9.out.cell 4
                    simp at k4'
                    clear hee he7 hg0
                    go_wp2_with fail
                    go_roundg (gk - 1)
                    case measure => omega
                    case rel => exact ⟨f - 1, ck2, e7, l, by omega, hkle, by have := HLn.out; omega, hid (.inl ⟨HE7.out, HE.out⟩), HL9, HH9, HRW9, HK9, HB9⟩
                · have hltd : decide (Ln < N) = false := by simp; omega
                  by_cases hov : N < Ln
                  · have HE : Hid (head5 ls a = .error 52) := hid (HAB.out.over (by have := HN.out; omega))
                    have B1 := ibad_any wr h v c2 vo most 0 true HHr.out
                    rw [badE_true] at B1
                    clear hLn hlt
                    go_wp2_with fail
                    refine B1.mono ?_
                    rintro r w9 ⟨⟨u, rfl⟩, hh9, hk9⟩
                    have HH9 : Hid (RdB w9 h v c2 vo most 52) := hh9
                    have HK9 : Hid (Kept (· = h) w w9) := hid (HKr.out.trans hk9 (fun _ _ f => f) (fun _ _ f => f))
                    have k4' := HH9.out.cell 4
                    simp at k4'
                    clear hh9 hk9 B1
                    go_wp2_with fail
                    go_ret2
                    exact HERR.out 52 _ _ c2 _ (by decide) HE.out HH9.out hc2M HK9.out
                  · have hovd : decide (N < Ln) = false := by simp; omega
                    have hD := HAB.out.done (by have := HN.out; omega)
                    have HD : Hid (readF ls a = .ok ((l.take lit, l.drop lit), c2 - a) ∧ a ≤ c2 ∧ (∀ x ∈ l, x ≤ 15)) := hD
                    have hLN1 : Ln ≤ N := by omega
                    have hLN2 : N ≤ Ln := by omega
                    have B1 := ibad_any wr h v c2 vo most 0 false HHr.out
                    rw [badE_false] at B1
                    obtain ⟨gl, hgl⟩ := hal (by intro e; rw [e] at hLn; simp at hLn; omega)
                    subst hgl
                    clear hD hLn hlt
                    go_wp2_with fail
                    refine B1.mono ?_
                    rintro r w9 ⟨⟨u, rfl⟩, hh9, hk9⟩
                    have HH9 : Hid (RdB w9 h v c2 vo most 0) := hh9
                    have HK9 : Hid (Kept (· = h) w w9) := hid (HKr.out.trans hk9 (fun _ _ f => f) (fun _ _ f => f))
                    have HL9 : Hid (NRow B w9 (.slice (some ⟨gl, 0, none⟩) Ln capl) l) := hid (HL.out.kept hk9 (fun k hk e => by have := HL.out.ge hk; omega))
                    have hglb : B ≤ gl := HL9.out.ge rfl
                    have k4' := HH9.out.cell 4
                    simp at k4'
                    clear hh9 hk9 B1 k4
                    have hlitc : lit ≤ capl := by omega
                    have hlitL : lit ≤ Ln := by omega
                    have hlitc2 : lit < capl := by omega
                    have h256 : 256 < l.length := by have := HLn.out; have := HN.out; omega
                    have h256c : 256 < capl := by omega
                    have cx := HL9.out.cell 256 h256
                    obtain ⟨x6, hx6⟩ : ∃ x6, x6 = l[256] := ⟨_, rfl⟩
                    rw [← hx6] at cx
                    unfold natV at cx
                    obtain ⟨la, hla⟩ : ∃ la, la = l.take lit := ⟨_, rfl⟩
                    obtain ⟨da, hda⟩ : ∃ da, da = l.drop lit := ⟨_, rfl⟩
                    have HSA : Hid (SrcE natV w9 (Over w.heap.size) (.slice (some ⟨gl, 0, none⟩) lit capl) la) := hid (by
                      have h0 := (SrcE.ofRow HL9.out).mono (J := Over w.heap.size) (fun k hk => by simp [Value.ownBlock] at hk; unfold Over; omega)
                      rw [HLn.out] at h0
                      rw [hla]
                      exact h0.part lit (by have := HLn.out; omega))
                    have HSB : Hid (SrcE natV w9 (Over w.heap.size) (.slice (some ⟨gl, lit, none⟩) (Ln - lit) (capl - lit)) da) := hid (by
                      have h0 := (SrcE.ofRow HL9.out).mono (J := Over w.heap.size) (fun k hk => by simp [Value.ownBlock] at hk; unfold Over; omega)
                      rw [HLn.out] at h0 ⊢
                      rw [hda]
                      exact h0.tail lit lit (by have := HLn.out; omega) (fun _ => by have := HLn.out; omega))
                    have hg6 : la.getD 256 0 = x6 := by rw [hla, hx6]; simp [List.getD, h256, show 256 < lit by omega]
                    have hlal : la.length = lit := by rw [hla, List.length_take]; have := HLn.out; omega
                    have hdal : da.length = Ln - lit := by rw [hda, List.length_drop]; have := HLn.out; omega
                    have hla15 : ∀ n ∈ la, n ≤ 15 := fun n hn => HD.out.2.2 n (by rw [hla] at hn; exact List.mem_of_mem_take hn)
                    have hda15 : ∀ n ∈ da, n ≤ 15 := fun n hn => HD.out.2.2 n (by rw [hda] at hn; exact List.mem_of_mem_drop hn)
                    have HHD : Hid (head5 ls a = if x6 = 0 ∨ chkN la ≠ 0 ∨ (usedB da = true ∧ chkN da ≠ 0) then .error 52 else .ok ((la, da), c2 - a)) := hid (by
                      unfold head5
                      rw [HD.out.1, ← hla, ← hda]
                      simp only
                      rw [hg6])
                    have C1 := rcheck_any w9 (.slice (some ⟨gl, 0, none⟩) lit capl) _ (la.map (fun (n : Nat) => (n : Int))) (SrcE.recode (enc' := intV) HSA.out (by rw [List.map_map]; rfl)) (by rw [List.length_map]; omega)
                    rw [chk_nats la (by omega) (by omega) hla15] at C1
                    have C2 := rcheck_any w9 (.slice (some ⟨gl, lit, none⟩) (Ln - lit) (capl - lit)) _ (da.map (fun (n : Nat) => (n : Int))) (SrcE.recode (enc' := intV) HSB.out (by rw [List.map_map]; rfl)) (by rw [List.length_map]; omega)
                    rw [chk_nats da (by omega) (by omega) hda15] at C2
                    have U1 := used5 w9 (.slice (some ⟨gl, lit, none⟩) (Ln - lit) (capl - lit)) _ da HSB.out (by omega)
                    obtain ⟨ca, hca⟩ : ∃ ca, ca = chkN la := ⟨_, rfl⟩
                    obtain ⟨cd, hcd⟩ : ∃ cd, cd = chkN da := ⟨_, rfl⟩
                    obtain ⟨U, hU⟩ : ∃ U, U = usedB da := ⟨_, rfl⟩
                    rw [← hca] at C1 HHD
                    rw [← hcd] at C2 HHD
                    rw [← hU] at U1 HHD
                    have HOK : Hid (ca = 0 → (U = true → cd = 0) → LenOk la ∧ LenOk da) := hid (fun h1 h2 => ⟨⟨by omega, hla15, chkN_measure (by omega)⟩, ⟨by omega, hda15, by
                      cases hUU : U with
                      | true => exact chkN_measure (by have := h2 hUU; omega)
                      | false => rw [unused_measure (by rw [← hU]; exact hUU)]; omega⟩⟩)
                    have HBAD : Hid (∀ b : Bool, Calls Tryz.prog 138 #[.pointer (some ⟨h, 0, none⟩), .bool b] w9 fun r w' => (∃ u, r = .returned u) ∧ RdB w' h v c2 vo most (badE 0 b) ∧ Kept (· = h) w9 w') := hid (fun b => ibad_any w9 h v c2 vo most 0 b HH9.out)
                    have HGOOD : Hid (∀ wF, head5 ls a = .ok ((la, da), c2 - a) → LenOk la ∧ LenOk da → RdB wF h v c2 vo most 0 → Kept (· = h) w9 wF → HeadA w wF h v vo most a ls (.returned (.tuple #[.slice (some ⟨gl, 0, none⟩) lit capl, .slice (some ⟨gl, lit, none⟩) (Ln - lit) (capl - lit)])) (head5 ls a) ∧ Kept (· = h) w wF) := hid (fun wF h1 h2 h3 h4 => by
                      rw [h1]
                      refine ⟨⟨_, _, rfl, ?_, ?_, HSA.out.kept h4 (fun k hk _ e => by unfold Over at hk; omega), HSB.out.kept h4 (fun k hk _ e => by unfold Over at hk; omega), h2.1, h2.2⟩, HK9.out.trans h4 (fun _ _ f => f) (fun _ _ f => f)⟩
                      · rw [show a + (c2 - a) = c2 by have := HD.out.2.1; omega]; exact h3
                      · have := HD.out.2.1; have := HM.out; omega)
                    have HFAIL : Hid (∀ (va vb : Value) (wF : World), head5 ls a = .error 52 → RdB wF h v c2 vo most 52 → Kept (· = h) w9 wF → HeadA w wF h v vo most a ls (.returned (.tuple #[va, vb])) (head5 ls a) ∧ Kept (· = h) w wF) := hid (fun va vb wF h1 h2 h3 => HERR.out 52 va vb c2 wF (by decide) h1 h2 hc2M (HK9.out.trans h3 (fun _ _ f => f) (fun _ _ f => f)))
                    clear hg6 hlal hdal hla15 hda15 hla hda hca hcd hU hx6 h256
                    by_cases hx60 : x6 = 0
                    · have HE : Hid (head5 ls a = .error 52) := hid (by rw [HHD.out, if_pos (.inl hx60)])
                      subst hx60
                      go_wp2_with fail
                      refine (HBAD.out true).mono ?_
                      rintro r w10 ⟨⟨u, rfl⟩, hh10, hk10⟩
                      rw [badE_true] at hh10
                      have HF10 : Hid (RdB w10 h v c2 vo most 52 ∧ Kept (· = h) w9 w10) := ⟨hh10, hk10⟩
                      clear hh10 hk10
                      go_wp2_with fail
                      go_ret2
                      exact HFAIL.out _ _ _ HE.out HF10.out.1 HF10.out.2
                    · have hx6d : ((x6 : Int) == 0) = false := by simp; omega
                      by_cases hca0 : ca = 0
                      · cases U with
                        | true =>
                          by_cases hcd0 : cd = 0
                          · have HE : Hid (head5 ls a = .ok ((la, da), c2 - a)) := hid (by rw [HHD.out, if_neg (by omega)])
                            have HLO : Hid (LenOk la ∧ LenOk da) := hid (HOK.out hca0 (fun _ => hcd0))
                            subst hca0 hcd0
                            go_wp2_with fail
                            refine C1.mono ?_
                            rintro r wx ⟨rfl, hwx⟩
                            subst hwx
                            go_wp2_with fail
                            refine U1.mono ?_
                            rintro r wx ⟨rfl, hwx⟩
                            subst hwx
                            go_wp2_with fail
                            refine C2.mono ?_
                            rintro r wx ⟨rfl, hwx⟩
                            subst hwx
                            go_wp2_with fail
                            refine (HBAD.out false).mono ?_
                            rintro r w10 ⟨⟨u, rfl⟩, hh10, hk10⟩
                            rw [badE_false] at hh10
                            have HF10 : Hid (RdB w10 h v c2 vo most 0 ∧ Kept (· = h) wx w10) := ⟨hh10, hk10⟩
                            clear hh10 hk10
                            go_wp2_with fail
                            go_ret2
                            exact HGOOD.out _ HE.out HLO.out HF10.out.1 HF10.out.2
                          · have HE : Hid (head5 ls a = .error 52) := hid (by rw [HHD.out, if_pos (.inr (.inr ⟨rfl, hcd0⟩))])
                            have hcdd : ((cd : Int) != 0) = true := by simp; omega
                            subst hca0
                            go_wp2_with fail
                            refine C1.mono ?_
                            rintro r wx ⟨rfl, hwx⟩
                            subst hwx
                            go_wp2_with fail
                            refine U1.mono ?_
                            rintro r wx ⟨rfl, hwx⟩
                            subst hwx
                            go_wp2_with fail
                            refine C2.mono ?_
                            rintro r wx ⟨rfl, hwx⟩
                            subst hwx
                            go_wp2_with fail
                            refine (HBAD.out true).mono ?_
                            rintro r w10 ⟨⟨u, rfl⟩, hh10, hk10⟩
                            rw [badE_true] at hh10
                            have HF10 : Hid (RdB w10 h v c2 vo most 52 ∧ Kept (· = h) wx w10) := ⟨hh10, hk10⟩
                            clear hh10 hk10
                            go_wp2_with fail
                            go_ret2
                            exact HFAIL.out _ _ _ HE.out HF10.out.1 HF10.out.2
                        | false =>
                          have HE : Hid (head5 ls a = .ok ((la, da), c2 - a)) := hid (by rw [HHD.out, if_neg (by simp; omega)])
                          have HLO : Hid (LenOk la ∧ LenOk da) := hid (HOK.out hca0 (fun h => by cases h))
                          subst hca0
                          go_wp2_with fail
                          refine C1.mono ?_
                          rintro r wx ⟨rfl, hwx⟩
                          subst hwx
                          go_wp2_with fail
                          refine U1.mono ?_
                          rintro r wx ⟨rfl, hwx⟩
                          subst hwx
                          go_wp2_with fail
                          refine (HBAD.out false).mono ?_
                          rintro r w10 ⟨⟨u, rfl⟩, hh10, hk10⟩
                          rw [badE_false] at hh10
                          have HF10 : Hid (RdB w10 h v c2 vo most 0 ∧ Kept (· = h) wx w10) := ⟨hh10, hk10⟩
                          clear hh10 hk10
                          go_wp2_with fail
                          go_ret2
                          exact HGOOD.out _ HE.out HLO.out HF10.out.1 HF10.out.2
                      · have HE : Hid (head5 ls a = .error 52) := hid (by rw [HHD.out, if_pos (.inr (.inl hca0))])
                        have hcad : ((ca : Int) != 0) = true := by simp; omega
                        go_wp2_with fail
                        refine C1.mono ?_
                        rintro r wx ⟨rfl, hwx⟩
                        subst hwx
                        go_wp2_with fail
                        refine (HBAD.out true).mono ?_
                        rintro r w10 ⟨⟨u, rfl⟩, hh10, hk10⟩
                        rw [badE_true] at hh10
                        have HF10 : Hid (RdB w10 h v c2 vo most 52 ∧ Kept (· = h) wx w10) := ⟨hh10, hk10⟩
                        clear hh10 hk10
                        go_wp2_with fail
                        go_ret2
                        exact HFAIL.out _ _ _ HE.out HF10.out.1 HF10.out.2
              · have HE : Hid (head5 ls a = .error e) := hid (HAB.out.wrong he)
                have hed : ((e : Int) == 0) = false := by simp; omega
                have hed2 : ((e : Int) != 0) = true := by simp; omega
                have HEN : Hid (e ≠ 0) := he
                have B1 : Hid (∀ b : Bool, Calls Tryz.prog 138 #[.pointer (some ⟨h, 0, none⟩), .bool b] wr fun r w' => (∃ u, r = .returned u) ∧ RdB w' h v c2 vo most e ∧ Kept (· = h) wr w') := hid (fun b => by
                  have h9 := ibad_any wr h v c2 vo most e b HHr.out
                  rw [badE_stuck he] at h9
                  exact h9)
                clear he
                go_wp2_with fail
                all_goals
                  refine (B1.out _).mono ?_
                  rintro r w9 ⟨⟨u, rfl⟩, hh9, hk9⟩
                  have HH9 : Hid (RdB w9 h v c2 vo most e) := hh9
                  have HK9 : Hid (Kept (· = h) w w9) := hid (HKr.out.trans hk9 (fun _ _ f => f) (fun _ _ f => f))
                  have k4' := HH9.out.cell 4
                  simp at k4'
                  clear hh9 hk9
                  go_wp2_with fail
                  go_ret2
                  exact HERR.out e _ _ c2 _ HEN.out HE.out HH9.out hc2M HK9.out
          · have HE : Hid (head5 ls a = .error 52) := hid (hCC.1 hck0)
            have hckd : ((ck : Int) != 0) = true := by simp; omega
            have B1 := ibad_any wr h v c vo most 0 true HHr.out
            rw [badE_true] at B1
            clear hCC hcq
            go_wp2_with fail
            refine HCK.mono ?_
            rintro r wx ⟨rfl, hwx⟩
            subst hwx
            go_wp2_with fail
            refine B1.mono ?_
            rintro r w7 ⟨⟨u, rfl⟩, hh7, hk7⟩
            have HH7 : Hid (RdB w7 h v c vo most 52) := hh7
            have HK7 : Hid (Kept (· = h) w w7) := hid (HKr.out.trans hk7 (fun _ _ f => f) (fun _ _ f => f))
            have k4' := HH7.out.cell 4
            simp at k4'
            clear hh7 hk7 B1
            go_wp2_with fail
            go_ret2
            exact HERR.out 52 _ _ c _ (by decide) HE.out HH7.out hcM HK7.out
      · have HE : Hid (head5 ls a = .error e) := hid (by
          rcases HCr.out with ⟨_, h2⟩ | ⟨h1, _⟩
          · exact h2
          · exact absurd h1 he)
        have hed : ((e : Int) == 0) = false := by simp; omega
        have hed2 : ((e : Int) != 0) = true := by simp; omega
        have HEN : Hid (e ≠ 0) := he
        have B1 : Hid (∀ b : Bool, Calls Tryz.prog 138 #[.pointer (some ⟨h, 0, none⟩), .bool b] wr fun r w' => (∃ u, r = .returned u) ∧ RdB w' h v c vo most e ∧ Kept (· = h) wr w') := hid (fun b => by
          have h9 := ibad_any wr h v c vo most e b HHr.out
          rw [badE_stuck he] at h9
          exact h9)
        clear he
        go_wp2_with fail
        all_goals
          refine HCK.mono ?_
          rintro r wx ⟨rfl, hwx⟩
          subst hwx
          go_wp2_with fail
          refine (B1.out _).mono ?_
          rintro r w7 ⟨⟨u, rfl⟩, hh7, hk7⟩
          have HH7 : Hid (RdB w7 h v c vo most e) := hh7
          have HK7 : Hid (Kept (· = h) w w7) := hid (HKr.out.trans hk7 (fun _ _ f => f) (fun _ _ f => f))
          have k4' := HH7.out.cell 4
          simp at k4'
          clear hh7 hk7
          go_wp2_with fail
          go_ret2
          exact HERR.out e _ _ c _ HEN.out HE.out HH7.out hcM HK7.out

end Go.Proofs.YtggcbnhckcenmaaGreatDoor

/-
  The reference's layer 5: Read, and Inflate.
-/
namespace Go.Proofs.YtggcbnhckcenmaaGreatDoor
open Go.RowKit

theorem blk5_of {ls : List Nat} {most : Nat} {s s1 s2 : S5} {l k : Nat} (t1 : tk ls s 1 = (l, s1)) (t2 : tk ls s1 2 = (k, s2)) :
    (s2.e ≠ 0 → blk5 ls most s = (l, s2)) ∧ (s2.e = 0 → k = 0 → blk5 ls most s = (l, stored5 ls most s2)) ∧ (s2.e = 0 → k = 1 → blk5 ls most s = (l, syms5 ls most fixL fixD (ls.length + 1) s2)) ∧
    (s2.e = 0 → k = 2 → ∀ e, head5 ls s2.c = .error e → blk5 ls most s = (l, { s2 with e := e })) ∧ (s2.e = 0 → k = 2 → ∀ x d n, head5 ls s2.c = .ok ((x, d), n) → blk5 ls most s = (l, syms5 ls most x d (ls.length + 1) { s2 with c := s2.c + n })) ∧
    (s2.e = 0 → k ≠ 0 → k ≠ 1 → k ≠ 2 → blk5 ls most s = (l, { s2 with e := 50 })) := by
  unfold blk5
  simp only [t1, t2]
  refine ⟨fun h => by rw [if_pos h], fun h hk => by rw [if_neg (fun x => x h), if_pos hk], fun h hk => ?_, fun h hk e he => ?_, fun h hk x d n he => ?_, fun h k0 k1 k2 => by rw [if_neg (fun x => x h), if_neg k0, if_neg k1, if_neg k2]⟩
  · subst hk; rw [if_neg (fun x => x h), if_neg (by decide), if_pos rfl]
  · subst hk; rw [if_neg (fun x => x h), if_neg (by decide), if_neg (by decide), if_pos rfl]; simp only [he]
  · subst hk; rw [if_neg (fun x => x h), if_neg (by decide), if_neg (by decide), if_pos rfl]; simp only [he]

/-- What a state of the loop tells of all. -/
def RdL (ls : List Nat) (most l f : Nat) (s : S5) : Prop := (l = 0 ∧ infl5 ls most = read5 ls most f s ∧ (s.e = 0 → ls.length - s.c < f)) ∨ (l ≠ 0 ∧ infl5 ls most = s)

theorem RdL.stuck {ls : List Nat} {most l f : Nat} {s : S5} (h : RdL ls most l f s) (he : l ≠ 0 ∨ s.e ≠ 0) : infl5 ls most = s := by
  rcases h with ⟨h0, h1, _⟩ | ⟨_, h1⟩
  · rw [h1]
    have h9 : s.e ≠ 0 := he.resolve_left (fun h => h h0)
    cases f with
    | zero => rfl
    | succ f => unfold read5; rw [if_pos h9]
  · exact h1

theorem RdL.next {ls : List Nat} (hb : ∀ b ∈ ls, b < 2) {most l l' f : Nat} {s s' : S5} (h : RdL ls most l f s) (h0 : l = 0) (he : s.e = 0) (ho : s.out.length ≤ most) (hblk : blk5 ls most s = (l', s')) : 1 ≤ f ∧ RdL ls most l' (f - 1) s' := by
  rcases h with ⟨_, h1, h2⟩ | ⟨h9, _⟩
  · have hf := h2 he
    obtain ⟨f, rfl⟩ : ∃ g, f = g + 1 := ⟨f - 1, by omega⟩
    refine ⟨by omega, ?_⟩
    unfold read5 at h1
    rw [if_neg (by omega), hblk] at h1
    simp only at h1
    rw [Nat.add_sub_cancel]
    by_cases hl : l' = 0
    · rw [if_pos hl] at h1
      refine .inl ⟨hl, h1, fun he' => ?_⟩
      have hs := blk_says ls hb most s he ho
      rw [hblk] at hs
      rcases hs with ⟨_, h4, h5, _⟩ | ⟨h4, _⟩
      · simp only at h4 h5; omega
      · exact absurd he' h4
    · rw [if_neg hl] at h1
      exact .inr ⟨hl, h1⟩
  · exact absurd h0 h9

theorem SrcE.inn {α : Type} {enc : α → Value} {w : World} {I : Nat → Prop} {v : Value} {xs : List α} (h : SrcE enc w I v xs) : SrcE enc w (fun k => I k ∧ k < w.heap.size) v xs := by
  obtain ⟨ao, cap, h1, h2, h3⟩ := h
  refine ⟨ao, cap, h1, h2, fun hne => ?_⟩
  obtain ⟨b, o, h4, h5, h6⟩ := h3 hne
  have hpos : 0 < xs.length := by cases xs with | nil => exact absurd rfl hne | cons _ _ => simp
  exact ⟨b, o, h4, ⟨h5, World.block_lt_of_cell? w _ (h6 0 hpos)⟩, h6⟩

theorem fix_lst : fixL.length ≤ 288 ∧ (∀ n ∈ fixL, n ≤ 15) ∧ measure fixL ≤ 32768 ∧ fixD.length ≤ 288 ∧ (∀ n ∈ fixD, n ≤ 15) ∧ measure fixD ≤ 32768 := by
  refine ⟨by decide +kernel, by decide +kernel, by decide +kernel, by decide +kernel, by decide +kernel, by decide +kernel⟩

theorem RS.out_lt {w : World} {I G : Nat → Prop} {h : Nat} {v : Value} {ls : List Nat} {most : Nat} {s : S5} {c : Nat} {vo : Value} (r : RS w I G h v ls most s c vo) : ∀ k, vo.ownBlock = some k → k < w.heap.size := fun _ e => r.row.lt e

/-- What Read leaves. -/
structure ReadR (w w' : World) (h : Nat) (vb : Value) (c : Nat) (vo : Value) (most : Nat) (ls : List Nat) (s : S5) : Prop where
  blk : RdB w' h vb c vo most s.e
  row : Row w' vo s.out
  pl : s.e = 0 → c = s.c
  le : c ≤ ls.length
  ol : s.out.length ≤ most
  by' : ∀ b ∈ s.out, b < 256
  same : Same w w'
  hnew : w.heap.size ≤ h
  onew : ∀ k, vo.ownBlock = some k → w.heap.size ≤ k
  ne : vo.ownBlock ≠ some h

set_option maxRecDepth 100000 in
set_option maxHeartbeats 8000000 in
theorem read5_any (w : World) (v : Value) (I : Nat → Prop) (bs : List Nat) (most : Nat) (hs : Src w I v bs) (hb : ∀ b ∈ bs, b < 256) (hlen : bs.length ≤ 100000) (hm : most ≤ 16384) :
    Calls Tryz.prog 64 #[v, .int .i64 (most : Nat)] w fun x w' => ∃ h vb c vo, x = .returned (.pointer (some ⟨h, 0, none⟩)) ∧ ReadR w w' h vb c vo most (ofBytes bs) (infl5 (ofBytes bs) most) := by
  have HOF := refOf_any w v I bs hs (by omega) hb
  obtain ⟨ls, hls⟩ : ∃ ls, ls = ofBytes bs := ⟨_, rfl⟩
  have hl8 : ls.length = 8 * bs.length := by rw [hls, ofBytes_length]
  have hz : Sz ls most := ⟨by rw [hls]; exact ofBytes_lt bs, by omega, by omega⟩
  have HZ : Hid (Sz ls most) := hz
  have H8 : Hid (ls.length % 8 = 0) := hid (by omega)
  rw [← hls] at HOF ⊢
  obtain ⟨M, hM⟩ : ∃ M, M = ls.length := ⟨_, rfl⟩
  have HM : Hid (M = ls.length) := hM
  clear hs hb hls hl8 hz hM hlen
  go_enter Tryz.func64, Tryz.ntmps64
  go_wp2_with fail
  refine HOF.mono ?_
  rintro x w1 ⟨vb, rfl, hg1⟩
  have hk1 : Same w w1 := hg1.kept.mono (fun _ _ e => by cases e)
  have HK1 : Hid (Same w w1) := hk1
  have HB1 : Hid (Row w1 vb ls) := hid hg1.row
  obtain ⟨ab, cb, hvb, _⟩ := hg1.row.shape
  generalize ls.length = nb at hvb
  subst hvb
  obtain ⟨h, hh⟩ : ∃ h, h = w1.heap.size := ⟨_, rfl⟩
  have HG0 : Hid (RX (w1.alloc (.cells #[.slice ab nb cb, .int .i64 0, .slice none 0 0, .int .i64 (most : Nat), .int .i64 0] 87)) (fun k => (Value.slice ab nb cb).ownBlock = some k) (fun k => k < w1.heap.size) h (.slice ab nb cb) ls most ⟨0, [], 0⟩) := hid ⟨0, .slice none 0 0, by rw [hh]; exact Blk.new w1 _ _, World.ownsRow_nil _ 0 5 1, (by intro e; cases e), (by omega), (fun k e => by cases e), (fun k hk => by simp; omega), Src.ofRow (HB1.out.kept ((Kept.refl (fun _ => False) w1).alloc _) (fun _ _ f => f)), (fun k e => HB1.out.lt e), (fun _ => rfl), Nat.zero_le _, Nat.zero_le _, (fun b hb => by simp at hb)⟩
  obtain ⟨G, hG⟩ : ∃ G : Nat → Prop, G = fun k => k < w1.heap.size := ⟨_, rfl⟩
  obtain ⟨J, hJ⟩ : ∃ J : Nat → Prop, J = fun k => (Value.slice ab nb cb).ownBlock = some k := ⟨_, rfl⟩
  rw [← hG, ← hJ] at HG0
  obtain ⟨W2, hW2⟩ : ∃ W, W = w1.alloc (.cells #[.slice ab nb cb, .int .i64 0, .slice none 0 0, .int .i64 (most : Nat), .int .i64 0] 87) := ⟨_, rfl⟩
  rw [← hW2] at HG0
  have HK2 : Hid (Same w W2) := hid (by rw [hW2]; exact Same.trans HK1.out ((Kept.refl _ w1).alloc _))
  have HGG : Hid (∀ k, k < w.heap.size → G k) := hid (fun k hk => by rw [hG]; have := HK1.out.size; show k < w1.heap.size; omega)
  have HHN : Hid (w.heap.size ≤ h) := hid (by have := HK1.out.size; omega)
  have HL0 : Hid (RdL ls most 0 (M + 1) ⟨0, [], 0⟩) := hid (.inl ⟨rfl, by unfold infl5; rw [HM.out], fun _ => by have := HM.out; simp only; omega⟩)
  have HSM : Hid (∀ wx, KG G W2 wx → Same w wx) := hid (fun wx hk => Same.then HK2.out hk (fun k hk9 f => f (HGG.out k hk9)))
  have HFIN : Hid (∀ wx s, RX wx J G h (.slice ab nb cb) ls most s → KG G W2 wx → infl5 ls most = s → ∃ h' vb c vo, Ending.returned (Value.pointer (some ⟨h, 0, none⟩)) = .returned (.pointer (some ⟨h', 0, none⟩)) ∧ ReadR w wx h' vb c vo most ls (infl5 ls most)) := hid (fun wx s hx hk he => by
    obtain ⟨c, vo, r⟩ := hx
    rw [he]
    exact ⟨h, _, c, vo, rfl, r.blk, r.row, r.pl, r.le, r.ol, r.by', HSM.out wx hk, HHN.out, fun k e => Nat.not_lt.1 (fun hlt => r.go k e (HGG.out k hlt)), r.ne⟩)
  clear hk1 hg1 HOF
  go_wp2_with fail
  rw [← hW2, ← hh]
  clear hh hW2 hG hJ
  go_loopg [6] (M + 1) (fun q zl wr => ∃ (l f : Nat) (s : S5), zl = .int .i64 (l : Nat) ∧ f ≤ q ∧ Hid (RdL ls most l f s) ∧ Hid (RX wr J G h (.slice ab nb cb) ls most s) ∧ Hid (KG G W2 wr))
  case atStart => exact ⟨0, M + 1, ⟨0, [], 0⟩, rfl, Nat.le_refl _, HL0, HG0, Kept.refl _ _⟩
  case round =>
    clear HL0 HG0
    obtain ⟨l, f, s, rfl, hfq, HL, HR, HK⟩ := hrel
    obtain ⟨k4, f4⟩ := HR.out.err
    by_cases hl : l = 0
    · subst hl
      by_cases he : s.e = 0
      · have T1 := take5 wr J G h _ ls most s 1 HZ.out (by decide) HR.out
        obtain ⟨l1, s1, ht1⟩ : ∃ l1 s1, tk ls s 1 = (l1, s1) := ⟨_, _, rfl⟩
        obtain ⟨k2, s2, ht2⟩ : ∃ k2 s2, tk ls s1 2 = (k2, s2) := ⟨_, _, rfl⟩
        have HBO := hid (blk5_of (most := most) ht1 ht2)
        have hk2b := tk_lt ls HZ.out.bit s1 2
        have HE0 : Hid (s.e = 0) := he
        have HOL : Hid (s.out.length ≤ most) := hid HR.out.outs.1
        have HNX : Hid (∀ l' s', blk5 ls most s = (l', s') → 1 ≤ f ∧ RdL ls most l' (f - 1) s') := hid (fun l' s' hb9 => HL.out.next HZ.out.bit rfl HE0.out HOL.out hb9)
        rw [ht1] at T1
        rw [ht2] at hk2b
        have hk24 : k2 < 4 := hk2b
        rw [he] at k4
        clear hk2b he
        have HT2 : Hid (tk ls s1 2 = (k2, s2)) := ht2
        clear ht1 ht2
        go_wp2_with fail
        refine T1.mono ?_
        rintro x w2 ⟨rfl, hr2, hk2⟩
        have HK2' : Hid (KG G W2 w2) := hid (HK.out.trans hk2)
        have T2 := take5 w2 J G h _ ls most s1 2 HZ.out (by decide) hr2
        rw [HT2.out] at T2
        clear hr2 hk2 T1 HR HK k4 f4
        go_wp2_with fail
        refine T2.mono ?_
        rintro x w3 ⟨rfl, hr3, hk3⟩
        have HK3 : Hid (KG G W2 w3) := hid (HK2'.out.trans hk3)
        have HR3 : Hid (RX w3 J G h (.slice ab nb cb) ls most s2) := hr3
        obtain ⟨k4, f4⟩ := hr3.err
        clear hr3 hk3 T2 HK2'
        by_cases he2 : s2.e = 0
        · have HE2 : Hid (s2.e = 0) := he2
          rw [he2] at k4
          clear he2
          by_cases hk0 : k2 = 0
          · subst hk0
            have S1 := stored5_any w3 J G h _ ls most s2 HZ.out H8.out HE2.out HR3.out
            have HBK : Hid (blk5 ls most s = (l1, stored5 ls most s2)) := hid (HBO.out.2.1 HE2.out rfl)
            go_wp2_with fail
            refine S1.mono ?_
            rintro x w4 ⟨⟨u, rfl⟩, hr4, hk4⟩
            have HR4 : Hid (RX w4 J G h (.slice ab nb cb) ls most (stored5 ls most s2)) := hr4
            have HK4 : Hid (KG G W2 w4) := hid (HK3.out.trans hk4)
            have HN4 := hid (HNX.out _ _ HBK.out)
            clear hr4 hk4 S1
            go_wp2_with fail
            go_roundg (gk - 1)
            case measure => have := HN4.out.1; omega
            case rel => exact ⟨l1, f - 1, _, rfl, by omega, hid HN4.out.2, HR4, HK4⟩
          · have hk0d : ((k2 : Int) == 0) = false := by simp; omega
            by_cases hk1 : k2 = 1
            · subst hk1
              have F1 := fixed5 w3
              have HBK : Hid (blk5 ls most s = (l1, syms5 ls most fixL fixD (ls.length + 1) s2)) := hid (HBO.out.2.2.1 HE2.out rfl)
              clear hk0
              go_wp2_with fail
              refine F1.mono ?_
              rintro x w4 ⟨va, vd, rfl, hra, hrd, hk4⟩
              obtain ⟨c3, vo3, hrs3⟩ := HR3.out
              have hr4 := hrs3.same hk4
              have HGO : Hid (∀ k, G k → RS.all w4 h vo3 k) := hid (fun k g => hr4.all_of k g)
              have HIG : Hid (∀ k, J k → G k) := hid hr4.ig
              have hhl : h < w3.heap.size := hrs3.blk.lt
              have hol := hrs3.out_lt
              have HLA : Lst w4 (RS.all w4 h vo3) va fixL := ⟨⟨_, SrcE.inn (SrcE.ofRow hra), fun k hk => ⟨hk.2, by have := hra.ge hk.1; omega, fun e => by have := hra.ge hk.1; have := hol k e; omega⟩⟩, fix_lst.1, fix_lst.2.1, fix_lst.2.2.1⟩
              have HLD : Lst w4 (RS.all w4 h vo3) vd fixD := ⟨⟨_, SrcE.inn (SrcE.ofRow hrd), fun k hk => ⟨hk.2, by have := hrd.ge hk.1; omega, fun e => by have := hrd.ge hk.1; have := hol k e; omega⟩⟩, fix_lst.2.2.2.1, fix_lst.2.2.2.2.1, fix_lst.2.2.2.2.2⟩
              have HK4 : Hid (KG G W2 w4) := hid (HK3.out.trans (KG.same hk4))
              have S1 := symbols5 w w4 J (RS.all w4 h vo3) h _ ls most s2 va vd fixL fixD HZ.out ⟨c3, vo3, hr4.more⟩ (HSM.out w4 HK4.out) (fun k hk => HGO.out k (HGG.out k hk)) (fun _ => ⟨HLA, HLD⟩)
              obtain ⟨aa, ca, hva, _⟩ := hra.shape
              generalize fixL.length = na at hva
              subst hva
              obtain ⟨ad, cd, hvd, _⟩ := hrd.shape
              generalize fixD.length = nd at hvd
              subst hvd
              clear hra hrd hk4 hrs3 hr4 hhl hol HLA HLD F1
              go_wp2_with fail
              refine S1.mono ?_
              rintro x w5 ⟨⟨u, rfl⟩, hr5, hk5⟩
              have HR5 : Hid (RX w5 J G h (.slice ab nb cb) ls most (syms5 ls most fixL fixD (ls.length + 1) s2)) := hid (by
                obtain ⟨c5, vo5, r5⟩ := hr5
                exact ⟨c5, vo5, r5.weak HGO.out HIG.out⟩)
              have HK5 : Hid (KG G W2 w5) := hid (HK4.out.trans (KG.less hk5 HGO.out))
              have HN4 := hid (HNX.out _ _ HBK.out)
              clear hr5 hk5 S1
              go_wp2_with fail
              go_roundg (gk - 1)
              case measure => have := HN4.out.1; omega
              case rel => exact ⟨l1, f - 1, _, rfl, by omega, hid HN4.out.2, HR5, HK5⟩
            · have hk1d : ((k2 : Int) == 1) = false := by simp; omega
              by_cases hk2 : k2 = 2
              · subst hk2
                obtain ⟨c3, vo3, hrs3⟩ := HR3.out
                obtain ⟨sc, so, se⟩ := s2
                have hse : se = 0 := HE2.out
                subst hse
                have hcc : c3 = sc := hrs3.pl rfl
                subst hcc
                have hhl : h < w3.heap.size := hrs3.blk.lt
                have hol := hrs3.out_lt
                have HD := head5_any w w3 J G h _ ls most c3 so vo3 HZ.out hrs3 (HSM.out w3 HK3.out) HHN.out
                have HRS : Hid (RS w3 J G h (.slice ab nb cb) ls most ⟨c3, so, 0⟩ c3 vo3) := hrs3
                have HHL : Hid (h < w3.heap.size) := hhl
                have HOL3 : Hid (∀ k, vo3.ownBlock = some k → k < w3.heap.size) := hol
                clear hk0 hk1 hrs3 hhl hol
                go_wp2_with fail
                refine HD.mono ?_
                rintro x w4 ⟨hha, hk4⟩
                have HK4 : Hid (KG G W2 w4) := hid (HK3.out.trans (HRS.out.kg hk4))
                cases hh5 : head5 ls c3 with
                | error e =>
                  rw [hh5] at hha
                  obtain ⟨hne, va, vd, c4, rfl, hb4, hc4⟩ := hha
                  have HBK : Hid (blk5 ls most s = (l1, ⟨c3, so, e⟩)) := hid (HBO.out.2.2.2.1 (by first | rfl | trivial) (by first | rfl | trivial) e hh5)
                  have hr4 : RS w4 J G h (.slice ab nb cb) ls most ⟨c4, so, e⟩ c4 vo3 := HRS.out.turn hk4 hb4 (fun _ => rfl) hc4
                  have hr4' : RX w4 J G h (.slice ab nb cb) ls most ⟨c3, so, e⟩ := ⟨c4, vo3, hr4.blk, hr4.row, hr4.ne, hr4.gh, hr4.go, hr4.lt, hr4.src, hr4.ig, fun h9 => absurd h9 hne, hr4.le, hr4.ol, hr4.by'⟩
                  have S1 := symbols5 w w4 J G h _ ls most ⟨c3, so, e⟩ va vd [] [] HZ.out hr4' (HSM.out w4 HK4.out) HGG.out (fun h9 => absurd h9 hne)
                  rw [syms_stuck _ _ _ _ _ _ hne] at S1
                  clear hb4 hc4 hr4 hr4' hh5 hne hk4 HD
                  go_wp2_with fail
                  refine S1.mono ?_
                  rintro x w5 ⟨⟨u, rfl⟩, hr5, hk5⟩
                  have HR5 : Hid (RX w5 J G h (.slice ab nb cb) ls most ⟨c3, so, e⟩) := hr5
                  have HK5 : Hid (KG G W2 w5) := hid (HK4.out.trans hk5)
                  have HN4 := hid (HNX.out _ _ HBK.out)
                  clear hr5 hk5 S1
                  go_wp2_with fail
                  go_roundg (gk - 1)
                  case measure => have := HN4.out.1; omega
                  case rel => exact ⟨l1, f - 1, _, rfl, by omega, hid HN4.out.2, HR5, HK5⟩
                | ok y =>
                  obtain ⟨⟨xl, xd⟩, n⟩ := y
                  rw [hh5] at hha
                  obtain ⟨va, vd, rfl, hb4, hc4, hsa, hsd, hla, hld⟩ := hha
                  have HBK : Hid (blk5 ls most s = (l1, syms5 ls most xl xd (ls.length + 1) ⟨c3 + n, so, 0⟩)) := hid (HBO.out.2.2.2.2.1 (by first | rfl | trivial) (by first | rfl | trivial) xl xd n hh5)
                  have hr4 : RS w4 J G h (.slice ab nb cb) ls most ⟨c3 + n, so, 0⟩ (c3 + n) vo3 := HRS.out.turn hk4 hb4 (fun _ => rfl) hc4
                  have HGO : Hid (∀ k, G k → RS.all w4 h vo3 k) := hid (fun k g => hr4.all_of k g)
                  have HIG : Hid (∀ k, J k → G k) := hid hr4.ig
                  have HLA : Lst w4 (RS.all w4 h vo3) va xl := ⟨⟨_, SrcE.inn hsa, fun k hk => ⟨hk.2, by have := hk.1; have := HHL.out; unfold Over at *; omega, fun e => by have := hk.1; have := HOL3.out k e; unfold Over at *; omega⟩⟩, hla.1, hla.2.1, hla.2.2⟩
                  have HLD : Lst w4 (RS.all w4 h vo3) vd xd := ⟨⟨_, SrcE.inn hsd, fun k hk => ⟨hk.2, by have := hk.1; have := HHL.out; unfold Over at *; omega, fun e => by have := hk.1; have := HOL3.out k e; unfold Over at *; omega⟩⟩, hld.1, hld.2.1, hld.2.2⟩
                  have S1 := symbols5 w w4 J (RS.all w4 h vo3) h _ ls most ⟨c3 + n, so, 0⟩ va vd xl xd HZ.out ⟨c3 + n, vo3, hr4.more⟩ (HSM.out w4 HK4.out) (fun k hk => HGO.out k (HGG.out k hk)) (fun _ => ⟨HLA, HLD⟩)
                  clear hb4 hc4 hr4 hh5 hsa hsd hla hld HLA HLD hk4 HD
                  go_wp2_with fail
                  refine S1.mono ?_
                  rintro x w5 ⟨⟨u, rfl⟩, hr5, hk5⟩
                  have HR5 : Hid (RX w5 J G h (.slice ab nb cb) ls most (syms5 ls most xl xd (ls.length + 1) ⟨c3 + n, so, 0⟩)) := hid (by
                    obtain ⟨c5, vo5, r5⟩ := hr5
                    exact ⟨c5, vo5, r5.weak HGO.out HIG.out⟩)
                  have HK5 : Hid (KG G W2 w5) := hid (HK4.out.trans (KG.less hk5 HGO.out))
                  have HN4 := hid (HNX.out _ _ HBK.out)
                  clear hr5 hk5 S1
                  go_wp2_with fail
                  go_roundg (gk - 1)
                  case measure => have := HN4.out.1; omega
                  case rel => exact ⟨l1, f - 1, _, rfl, by omega, hid HN4.out.2, HR5, HK5⟩
              · have hk2d : ((k2 : Int) == 2) = false := by simp; omega
                have HBK : Hid (blk5 ls most s = (l1, { s2 with e := 50 })) := hid (HBO.out.2.2.2.2.2 HE2.out hk0 hk1 hk2)
                have hw := HR3.out.wrong 50 (by decide)
                have HW := hid hw
                have HN4 := hid (HNX.out _ _ HBK.out)
                clear hk0 hk1 hk2 hw
                go_wp2_with fail
                go_roundg (gk - 1)
                case measure => have := HN4.out.1; omega
                case rel => exact ⟨l1, f - 1, _, rfl, by omega, hid HN4.out.2, hid HW.out.1, hid (HK3.out.trans HW.out.2)⟩
        · have HBK : Hid (blk5 ls most s = (l1, s2)) := hid (HBO.out.1 he2)
          have HSG : Hid (infl5 ls most = s2) := hid ((HNX.out _ _ HBK.out).2.stuck (.inr he2))
          obtain ⟨e7, he7⟩ : ∃ e7, e7 = s2.e := ⟨_, rfl⟩
          rw [← he7] at he2 k4
          have hed : ((e7 : Int) != 0) = true := by simp; omega
          clear he7
          go_wp2_with fail
          go_ret
          exact HFIN.out _ _ HR3.out HK3.out HSG.out
      · have HSG : Hid (infl5 ls most = s) := hid (HL.out.stuck (.inr he))
        obtain ⟨e7, he7⟩ : ∃ e7, e7 = s.e := ⟨_, rfl⟩
        rw [← he7] at he k4
        have hed : ((e7 : Int) == 0) = false := by simp; omega
        clear he7
        go_wp2_with fail
        go_ret
        exact HFIN.out _ _ HR.out HK.out HSG.out
    · have HSG : Hid (infl5 ls most = s) := hid (HL.out.stuck (.inl hl))
      have hld : ((l : Int) == 0) = false := by simp; omega
      clear hl
      go_wp2_with fail
      go_ret
      exact HFIN.out _ _ HR.out HK.out HSG.out

end Go.Proofs.YtggcbnhckcenmaaGreatDoor

/-
  The reference's layer 5: Inflate.
-/
namespace Go.Proofs.YtggcbnhckcenmaaGreatDoor
open Go.RowKit
/-- What the reference's Inflate answers. -/
inductive RInf (w w' : World) (cs : List Nat) (most : Nat) (x : Ending) : Prop
  | done (t : Ps) (v' : Value) (he : Ends (ofBytes cs) most ps0 t 0) (hx : x = .returned (.tuple #[v', .int .i64 (((t.c + 7) / 8 : Nat) : Int), .int .i64 0])) (hr : Row w' v' t.out) (hv : ∀ k, v'.ownBlock = some k → w.heap.size ≤ k) (hk : Same w w')
  | fail (t : Ps) (er : Nat) (he : Ends (ofBytes cs) most ps0 t er) (h0 : er ≠ 0) (hx : x = .returned (.tuple #[.slice none 0 0, .int .i64 0, .int .i64 (er : Nat)])) (hk : Same w w')

theorem RInf.is {w w' : World} {cs : List Nat} {most : Nat} {x : Ending} {t0 : Ps} (h : RInf w w' cs most x) (he : Ends (ofBytes cs) most ps0 t0 0) : ∃ v', x = .returned (.tuple #[v', .int .i64 (((t0.c + 7) / 8 : Nat) : Int), .int .i64 0]) ∧ Row w' v' t0.out ∧ (∀ k, v'.ownBlock = some k → w.heap.size ≤ k) ∧ Same w w' := by
  cases h with
  | done t v' he' hx hr hv hk =>
    obtain ⟨rfl, _⟩ := he'.det he
    exact ⟨v', hx, hr, hv, hk⟩
  | fail t er he' h0 hx hk => exact absurd (he'.det he).2 h0

set_option maxRecDepth 100000 in
set_option maxHeartbeats 2000000 in
theorem rinfl_any (w : World) (v : Value) (I : Nat → Prop) (cs : List Nat) (most : Nat) (hv : Src w I v cs) (hb : ∀ b ∈ cs, b < 256) (hlen : cs.length ≤ 100000) (hm : most ≤ 16384) :
    Calls Tryz.prog 39 #[v, .int .i64 (most : Nat)] w fun x w' => RInf w w' cs most x := by
  have HRD := read5_any w v I cs most hv hb hlen hm
  have b1 : decide ((most : Int) < 0) = false := by simp
  have b2 : decide ((16384 : Int) < (most : Int)) = false := by simp; omega
  clear hv hb
  go_enter Tryz.func39, Tryz.ntmps39
  go_wp2_with fail
  refine HRD.mono ?_
  rintro x w1 ⟨h, vb, c, vo, rfl, hr⟩
  obtain ⟨t, he, ho, hc⟩ := infl_says (ofBytes cs) (ofBytes_lt cs) most
  have k1 := hr.blk.cell 1
  have k2 := hr.blk.cell 2
  have k4 := hr.blk.cell 4
  simp at k1 k2 k4
  have HSM : Hid (Same w w1) := hid hr.same
  obtain ⟨er, her⟩ : ∃ er, (infl5 (ofBytes cs) most).e = er := ⟨_, rfl⟩
  rw [her] at k4 he ho hc
  by_cases h0 : er = 0
  · subst h0
    have HR : Hid (Row w1 vo t.out ∧ ∀ k, vo.ownBlock = some k → w.heap.size ≤ k) := hid ⟨by rw [ho (.inl rfl)]; exact hr.row, hr.onew⟩
    have HE : Hid (Ends (ofBytes cs) most ps0 t 0) := he
    have hce : c = t.c := by rw [hr.pl her, hc rfl]
    have hcb : c ≤ 800000 := by have := hr.le; rw [ofBytes_length] at this; omega
    obtain ⟨s7, hs7⟩ : ∃ s, s = c + 7 := ⟨_, rfl⟩
    obtain ⟨q, hq⟩ : ∃ q, q = s7 / 8 := ⟨_, rfl⟩
    have q1 : (c : Int) + 7 = (s7 : Int) := by omega
    have q2 : IntKind.i64.wrap (s7 : Int) = (s7 : Int) := by rw [IntKind.wrap_i64]; omega
    have q3 : (s7 : Int) / 8 = (q : Int) := by omega
    have q4 : Int.tdiv (s7 : Int) 8 = (q : Int) := by rw [Int.tdiv_eq_ediv_of_nonneg (by omega)]; exact q3
    have q5 : IntKind.i64.wrap (q : Int) = (q : Int) := by rw [IntKind.wrap_i64]; omega
    have HQ : Hid (q = (t.c + 7) / 8) := hid (by rw [hq, hs7, hce])
    obtain ⟨a2, c2, hv2, _⟩ := HR.out.1.shape
    generalize t.out.length = n2 at hv2
    subst hv2
    clear hr he ho hc her hce hcb hs7 hq HRD
    go_wp2_with fail
    go_quiet (fail)
    go_wp2_with fail
    refine bodyPost_ret (v := .tuple #[.slice a2 n2 c2, .int .i64 (q : Nat), .int .i64 0]) (by simp [results, Tryz.results39, go_sem]) rfl ?_
    exact .done t _ HE.out (by rw [← HQ.out]) (HR.out.1.kept ((Kept.refl (fun _ => False) _).drewN _) (fun _ _ f => f)) HR.out.2 (HSM.out.drewN _)
  · have HE : Hid (Ends (ofBytes cs) most ps0 t er ∧ er ≠ 0) := hid ⟨he, h0⟩
    have hed : ((er : Int) != 0) = true := by simp; omega
    clear hr he ho hc her h0 HRD
    go_wp2_with fail
    try go_quiet (fail)
    try go_wp2_with fail
    refine bodyPost_ret (v := .tuple #[.slice none 0 0, .int .i64 0, .int .i64 (er : Nat)]) (by simp [results, Tryz.results39, go_sem]) rfl ?_
    exact .fail t er HE.out.1 HE.out.2 rfl (by first | exact HSM.out | exact HSM.out.drewN _)

end Go.Proofs.YtggcbnhckcenmaaGreatDoor
