/-
  QuotaWithin's walk.
-/
import Derived.Test.YtjlkchjcmiljjaaDoorQtWM
import Derived.Test.YtjlkchjcmiljjaaDoorQtFrees
import Derived.Deep.CutBlock
namespace Go.Proofs.YtjlkchjcmiljjaaDoor
open Go.RowKit Go.Shelf Go.Maps

theorem resZ_ok {xs : List Tn} {S : Sq} {s : ByteArray} {m : Us} (h : (resZ xs S s m).2 = 0) : ∃ k, idxT xs s = some k ∧ (m.inn (-1000000000) 1000000000 ∧ m.le (leftQ xs S k)) ∧ (resZ xs S s m).1 = ((S.last + 1 : Nat) : Int) := by
  unfold resZ at h ⊢
  cases hx : idxT xs s with
  | none => rw [hx] at h; exact absurd (show (170 : Int) = 0 from h) (by decide)
  | some k =>
    rw [hx] at h
    simp only at h ⊢
    by_cases hin : m.inn (-1000000000) 1000000000
    · by_cases hle : m.le (leftQ xs S k)
      · exact ⟨k, rfl, ⟨hin, hle⟩, by rw [if_pos hin, if_pos hle]⟩
      · rw [if_pos hin, if_neg hle] at h; exact absurd (show (171 : Int) = 0 from h) (by decide)
    · rw [if_neg hin] at h; exact absurd (show (1 : Int) = 0 from h) (by decide)

theorem resS_use (xs : List Tn) (S : Sq) (s : ByteArray) (m : Us) (k : Nat) : (resS xs S s m).use k = S.use k := by
  unfold resS
  split
  · rfl
  · split <;> rfl

theorem resS_last (xs : List Tn) (S : Sq) (s : ByteArray) (m : Us) : (resS xs S s m).last ≤ S.last + 1 := by
  unfold resS
  split
  · omega
  · split <;> simp [Sq.res]

theorem resS_bad {xs : List Tn} {S : Sq} {s : ByteArray} {m : Us} (h : (resZ xs S s m).2 ≠ 0) : resS xs S s m = S := by
  unfold resZ at h
  unfold resS
  cases hx : idxT xs s with
  | none => rfl
  | some k =>
    rw [hx] at h
    simp only at h ⊢
    by_cases hc : m.inn (-1000000000) 1000000000 ∧ m.le (leftQ xs S k)
    · rw [if_pos hc.1, if_pos hc.2] at h; exact absurd rfl h
    · rw [if_neg hc]

/-- A book, and whose its reservations are. -/
structure Wi (w0 w : World) (p ma mr mo : Nat) (bl : List Nat) (xs : List Tn) (S : Sq) (O : List (Nb × ByteArray)) : Prop where
  qb : Qb w p ma mr bl xs S
  mp : MpO w mo O
  lo : ∀ k, FQ p ma mr bl k → w0.heap.size ≤ k ∧ k ≠ mo
  lm : w0.heap.size ≤ mo
  same : Same w0 w
  own : Own xs S O
  ok : Win xs S

section
variable {w0 w : World} {p ma mr mo : Nat} {bl : List Nat} {xs : List Tn} {S : Sq} {O : List (Nb × ByteArray)}

theorem Wi.to (h : Wi w0 w p ma mr mo bl xs S O) {w' : World} (hk : Same w w') : Wi w0 w' p ma mr mo bl xs S O :=
  ⟨h.qb.same hk, h.mp.kept hk (fun f => f), h.lo, h.lm, Same.trans h.same hk, h.own, h.ok⟩

theorem Wi.book (h : Wi w0 w p ma mr mo bl xs S O) {w' : World} {T : Sq} (hq : Qb w' p ma mr bl xs T) (hk : Kept (FQ p ma mr bl) w w') (ho : Own xs T O) (hw : Win xs T) : Wi w0 w' p ma mr mo bl xs T O :=
  ⟨hq, h.mp.kept hk (fun f => (h.lo mo f).2 rfl), h.lo, h.lm, h.same.then hk (fun k hk f => by have := (h.lo k f).1; omega), ho, hw⟩

theorem Wi.map (h : Wi w0 w p ma mr mo bl xs S O) {w' : World} {O' : List (Nb × ByteArray)} (hm : MpO w' mo O') (hk : Kept (· = mo) w w') (ho : Own xs S O') : Wi w0 w' p ma mr mo bl xs S O' :=
  ⟨h.qb.kept hk (fun k f e => (h.lo k f).2 e), hm, h.lo, h.lm, h.same.then hk (fun k hk e => by have := h.lm; omega), ho, h.ok⟩

end

/-- The uses that stand in the row so far. -/
def befL (f : Nat → Us) (n j : Nat) : List Us := (List.range j).map f ++ List.replicate (n - j) default

theorem befL_len (f : Nat → Us) {n j : Nat} (h : j ≤ n) : (befL f n j).length = n := by
  unfold befL
  simp
  omega

theorem befL_set (f : Nat → Us) {n j : Nat} (h : j < n) : (befL f n j).set j (f j) = befL f n (j + 1) := by
  unfold befL
  rw [List.set_append_right _ _ (by simp), List.length_map, List.length_range, Nat.sub_self, show n - j = (n - (j + 1)) + 1 by omega, List.replicate_succ, List.set_cons_zero, List.range_succ, List.map_append, List.append_assoc]
  rfl

theorem befL_at (f : Nat → Us) (n : Nat) {k : Nat} (hk : k < n) : (befL f n n)[k]? = some (f k) := by
  unfold befL
  rw [List.getElem?_append_left (by simpa using hk), List.getElem?_map, List.getElem?_range hk]
  rfl

theorem win_num {xs : List Tn} {S : Sq} (h : Win xs S) (hv : Qv xs S) {k : Nat} {x : Tn} (hx : xs[k]? = some x) : decide ((S.use k).b < 0) = false ∧ decide ((S.use k).e < 0) = false ∧ decide (x.b < (S.use k).b) = false ∧ decide (x.e < (S.use k).e) = false := by
  have hk := (List.getElem?_eq_some_iff.1 hx).1
  have h1 := h k hk
  have h2 := hv.num hk
  have e : mayT xs k = ⟨x.b, x.e⟩ := by unfold mayT; rw [List.getD_eq_getElem?_getD, hx]; rfl
  rw [e] at h1 h2
  simp only [Us.le, Us.add] at h1
  simp only [decide_eq_false_iff_not]
  refine ⟨?_, ?_, ?_, ?_⟩ <;> omega

set_option maxRecDepth 100000 in
set_option maxHeartbeats 8000000 in
theorem within17 (w : World) (ao : Option Addr) (n c : Nat) (xs : List Tn) (h : SrcC 4 tnE w (fun k => k < w.heap.size) (.slice ao n c) xs) (so : Option Addr) (m sc : Nat) (os : List Ow) (hs : SrcC 5 owE w (fun k => k < w.heap.size) (.slice so m sc) os) :
    Calls Tryd.prog 5 #[.slice ao n c, .slice so m sc] w fun e w' => e = .returned (.bool true) ∧ Same w w' := by
  have HS := hid h
  have HN := hid h.len4
  have HO := hid hs
  have HA : Hid (∀ W, Calls Tryd.prog 13 #[] W fun e w' => e = .returned (.bool true) ∧ Same W w') := hid awake17
  by_cases hgo : n ≤ 1000 ∧ m ≤ 1000
  case neg =>
    have d : decide ((1000 : Int) < (n : Int)) = true ∨ (decide ((1000 : Int) < (n : Int)) = false ∧ decide ((1000 : Int) < (m : Int)) = true) := by
      by_cases e : 1000 < n
      · exact .inl (by simp; omega)
      · exact .inr ⟨by simp; omega, by simp; omega⟩
    clear hgo h hs
    go_enter Tryd.func5, Tryd.ntmps5
    rcases d with d1 | ⟨d1, d2⟩
    all_goals
      go_wp2_with fail
      go_ret
      exact ⟨rfl, Kept.refl _ _⟩
  case pos =>
    have d1 : decide ((1000 : Int) < (n : Int)) = false := by simp; omega
    have d2 : decide ((1000 : Int) < (m : Int)) = false := by simp; omega
    have HM := hid hgo
    clear hgo hs
    obtain ⟨z, hz⟩ := CkT.ex xs
    by_cases hz0 : z = 0
    case neg =>
      have e0 : (z == 0) = false := by simpa using hz0
      have e1 : (z != 0) = true := by simpa [bne] using hz0
      have HNW := qnew_bad w ao n c xs _ h z hz e0
      clear hz hz0 h
      go_enter Tryd.func5, Tryd.ntmps5
      go_wp2_with fail
      refine HNW.mono ?_
      rintro e w2 ⟨rfl, hk2⟩
      have HK2 := hid hk2
      clear hk2 HNW
      go_wp2_with fail
      refine (HA.out _).mono ?_
      rintro e w3 ⟨rfl, hk3⟩
      have HK3 := hid (Same.trans HK2.out hk3)
      clear hk3
      go_wp2_with fail
      go_ret
      exact ⟨rfl, HK3.out⟩
    case pos =>
      subst hz0
      have HG := hid hz.zero
      have HNW := qnew_good w _ _ _ xs h HG.out.1 HG.out.2
      clear hz h
      go_enter Tryd.func5, Tryd.ntmps5
      go_wp2_with fail
      refine HNW.mono ?_
      rintro e w2 ⟨p, ma, mr, bl, rfl, hq2, hk2, hnw⟩
      obtain ⟨W3, hW3⟩ : ∃ W, W = w2.alloc (.map #[] 0) := ⟨_, rfl⟩
      obtain ⟨mo, hmo⟩ : ∃ b, b = w2.heap.size := ⟨_, rfl⟩
      have hk3 : Same w2 W3 := by rw [hW3]; exact (Kept.refl _ _).alloc _
      have HW3 : Hid (Wi w W3 p ma mr mo bl xs (newS xs.length) []) := hid ⟨hq2.same hk3, by rw [hW3, hmo]; exact MpG.new w2, fun k f => ⟨hnw k f, by have := hq2.fp_lt f; omega⟩, by have := hk2.size; omega, Same.trans hk2 hk3, fun x hx => (by cases hx), Win.new HG.out.2⟩
      have hmm := @run_makeMap Tryd.prog
      clear hq2 hk2 hnw hk3 HNW
      go_upto_region 7 with fail
      rw [← hW3, ← hmo]
      clear hW3 hmo hmm
      go_wp2_with fail
      go_loopg [8] m (fun qq z8 wr => ∃ i : Nat, z8 = .int .i64 (i : Nat) ∧ i ≤ m ∧ m - i ≤ qq ∧ ∃ S O, Hid (Wi w wr p ma mr mo bl xs S O ∧ S.last ≤ i ∧ O.length ≤ i))
      case atStart => exact ⟨0, rfl, by omega, by omega, newS xs.length, [], hid ⟨HW3.out, Nat.le_refl _, Nat.le_refl _⟩⟩
      case round =>
        obtain ⟨i, rfl, hi, hiq, S, O, HI⟩ := hrel
        by_cases hlt : i < m
        · have e1 : decide ((i : Int) < (m : Int)) = true := by simp; omega
          have e2 : decide (i < m) = true := by simp; omega
          obtain ⟨b, o, t, rfl, _, _, k0, k1, k2, k3, k4⟩ := HO.out.at5w i hlt
          have k0 := HI.out.1.same.cell k0 (fun f => f)
          have k1 := HI.out.1.same.cell k1 (fun f => f)
          have k2 := HI.out.1.same.cell k2 (fun f => f)
          have k3 := HI.out.1.same.cell k3 (fun f => f)
          have k4 := HI.out.1.same.cell k4 (fun f => f)
          have c1 : (0 : Int) ≤ (i : Int) := by omega
          have c2 : (i : Int) < (m : Int) := by omega
          have hiw : IntKind.i64.wrap ((i : Int) + 1) = ((i + 1 : Nat) : Int) := by rw [IntKind.wrap_i64]; have := HM.out.2; omega
          have HLT := hid hlt
          have hn9 : n ≤ 1000000000 := by have := HM.out.1; omega
          obtain ⟨V4, hV4⟩ : ∃ W, W = wr.alloc (.cells #[.int .i64 t.kind, .string t.tn, .int .i64 t.u.b, .int .i64 t.u.e, .int .i64 t.id] 41) := ⟨_, rfl⟩
          obtain ⟨g9, hg9⟩ : ∃ b, b = wr.heap.size := ⟨_, rfl⟩
          have HT4 : Hid (Blk V4 g9 #[.int .i64 t.kind, .string t.tn, .int .i64 t.u.b, .int .i64 t.u.e, .int .i64 t.id] 41) := hid (by rw [hV4, hg9]; exact Blk.new wr _ _)
          have HW4 := hid (HI.out.1.to (show Same wr V4 by rw [hV4]; exact (Kept.refl _ _).alloc _))
          have HFL : Hid (∀ k, (FQ p ma mr bl k ∨ k = mo) → k < V4.heap.size ∧ k ≠ g9) := hid (fun k f => by
            have h9 : k < wr.heap.size := by
              rcases f with f | rfl
              · exact HI.out.1.qb.fp_lt f
              · exact HI.out.1.mp.lt
            refine ⟨?_, by omega⟩
            have := HW4.out.qb.blk.lt
            rw [hV4]
            exact Nat.lt_of_lt_of_le h9 ((Kept.refl (fun _ => False) wr).alloc _).size)
          obtain ⟨gk0, hgk0⟩ : ∃ g, g = gk := ⟨_, rfl⟩
          have HGK := hid hgk0
          clear hgk0 hlt
          go_upto_region 11 with fail
          rw [← hV4, ← hg9]
          clear hV4 hg9 k0 k1 k2 k3 k4
          go_wp2_with (at_make; refine wpList_make_c _ usE 2 usE_ok (default : Us) V4.heap.size 44 31 (.agg #[.int .i64 0, .int .i64 0]) 16 Tryd.underlying44 Tryd.infoUse17 rfl (by decide) rfl _ _ rfl _ _ _ _ n rfl rfl rfl rfl hn9 (Nat.le_refl _) ?_; intro w5 hr5 hg5 hs5; have HR5 := hid hr5; have HK5 : Hid (Same V4 w5) := hid ((Kept.refl _ V4).grown hg5 (fun j e => by cases e)); clear hr5 hg5 hs5)
          obtain ⟨gb, hgb⟩ : ∃ b, b = V4.heap.size := ⟨_, rfl⟩
          have HGB := hid hgb
          rw [← hgb] at HR5 ⊢
          clear hgb
          have HR5' : Hid (RowC V4.heap.size 31 2 usE w5 (.slice (some ⟨gb, 0, none⟩) n n) (befL S.use n 0)) := hid (by have h9 := HR5.out; rw [HGB.out] at h9 ⊢; unfold befL; simpa using h9)
          clear HR5
          go_wp2_with fail
          go_loopg [11] n (fun qq z11 wk => ∃ j : Nat, z11 = .int .i64 (j : Nat) ∧ j ≤ n ∧ n - j ≤ qq ∧ Hid (Same V4 wk ∧ RowC V4.heap.size 31 2 usE wk (.slice (some ⟨gb, 0, none⟩) n n) (befL S.use n j)))
          case atStart => exact ⟨0, rfl, by omega, by omega, hid ⟨HK5.out, HR5'.out⟩⟩
          case round =>
            obtain ⟨j, rfl, hj, hjq, HJ⟩ := hrel
            by_cases hjl : j < n
            · have f1 : decide ((j : Int) < (n : Int)) = true := by simp; omega
              have f2 : decide (j < n) = true := by simp; omega
              obtain ⟨b', o', x, rfl, _, hx, j0, _, _, _⟩ := HS.out.at4 j hjl
              have j1 := (Same.trans HW4.out.same HJ.out.1).cell j0 (fun f => f)
              have g1 : (0 : Int) ≤ (j : Int) := by omega
              have g2 : (j : Int) < (n : Int) := by omega
              have hjw : IntKind.i64.wrap ((j : Int) + 1) = ((j + 1 : Nat) : Int) := by rw [IntKind.wrap_i64]; have := HM.out.1; omega
              have HJL := hid hjl
              have HU := quse_any (HW4.out.qb.same HJ.out.1) x.nm
              rw [show x.nm.s = x.n from rfl, useV_at HG.out.2 hx] at HU
              obtain ⟨us, hus⟩ : ∃ u, u = S.use j := ⟨_, rfl⟩
              rw [← hus] at HU
              have HUS := hid hus
              clear j0 hjl hx hus
              go_wp2_with fail
              refine HU.mono ?_
              rintro e w6 ⟨rfl, hk6⟩
              obtain ⟨W7, hW7⟩ : ∃ W, W = w6.alloc (.cells #[.int .i64 us.b, .int .i64 us.e] 31) := ⟨_, rfl⟩
              obtain ⟨g7, hg7⟩ : ∃ b, b = w6.heap.size := ⟨_, rfl⟩
              have hk67 : Same wr W7 := by rw [hW7]; exact hk6.alloc _
              have HK7 := hid (Same.trans HJ.out.1 hk67)
              have HR7 := hid (HJ.out.2.kept hk67 (fun _ _ f => f))
              obtain ⟨y0, y1, _, _⟩ := (show Blk W7 g7 #[.int .i64 us.b, .int .i64 us.e] 31 from by rw [hW7, hg7]; exact Blk.new w6 _ _).c2
              have hln : j < (befL S.use n j).length := by rw [befL_len S.use hj]; exact HJL.out
              obtain ⟨v0, r0⟩ : ∃ v, W7.cell? ⟨gb, j * 2, none⟩ = some v := ⟨_, HR7.out.cell usE_ok j 0 hln (by decide)⟩
              obtain ⟨v1, r1⟩ : ∃ v, W7.cell? ⟨gb, j * 2 + 1, none⟩ = some v := ⟨_, HR7.out.cell usE_ok j 1 hln (by decide)⟩
              have r2 := HR7.out.frozen (j * 2)
              have r3 := HR7.out.frozen (j * 2 + 1)
              have HRN : Hid (RowC V4.heap.size 31 2 usE ((W7.setCell ⟨gb, j * 2, none⟩ (.int .i64 us.b)).setCell ⟨gb, j * 2 + 1, none⟩ (.int .i64 us.e)) (.slice (some ⟨gb, 0, none⟩) n n) ((befL S.use n j).set j us)) := hid (HR7.out.setU j us hln)
              have HBS : Hid ((befL S.use n j).set j us = befL S.use n (j + 1)) := hid (by rw [HUS.out]; exact befL_set S.use HJL.out)
              have HKN : Hid (Same V4 ((W7.setCell ⟨gb, j * 2, none⟩ (.int .i64 us.b)).setCell ⟨gb, j * 2 + 1, none⟩ (.int .i64 us.e))) := hid ((HK7.out.setCell ⟨gb, j * 2, none⟩ _ (.inr (by have := HGB.out; simp only; omega))).setCell ⟨gb, j * 2 + 1, none⟩ _ (.inr (by have := HGB.out; simp only; omega)))
              clear hk6 hk67 HU j1 hln
              go_upto_region 16 with fail
              rw [← hW7, ← hg7]
              clear hW7 hg7
              go_wp2_with fail
              go_roundg (gk - 1)
              case measure => have := HJL.out; omega
              case rel => exact ⟨j + 1, by go_num, HJL.out, by omega, hid ⟨HKN.out, by rw [← HBS.out]; exact HRN.out⟩⟩
            · have f1 : decide ((j : Int) < (n : Int)) = false := by simp; omega
              have f2 : decide (j < n) = false := by simp; omega
              obtain rfl : j = n := by omega
              obtain ⟨V6, rfl⟩ : ∃ W, W = wr := ⟨_, rfl⟩
              have HK6 := hid HJ.out.1
              have HR6 := hid HJ.out.2
              have HW6 := hid (HW4.out.to HJ.out.1)
              have HT6 := hid (HT4.out.kept HJ.out.1 (fun f => f))
              obtain ⟨c0, c1', c2', c3', c4'⟩ := HT6.out.c5w
              clear hjl HJ HR5' HK5
              go_upto_block 4 with fail
              go_cut [14, 15, 16] from 84 to 117 (fun z _ _ wx => ∃ who : ByteArray, z = .string who ∧ ∃ T P, Hid (Wi w wx p ma mr mo bl xs T P ∧ T.last ≤ i + 1 ∧ P.length ≤ i + 1 ∧ (∀ k, k < xs.length → (xs.getD k default).n ≠ who → T.use k = S.use k) ∧ RowC V4.heap.size 31 2 usE wx (.slice (some ⟨gb, 0, none⟩) j j) (befL S.use j j)))
              case first =>
                by_cases k4 : t.kind = 4
                · -- Reserve
                  have q4 : (t.kind == 4) = true := by simpa using k4
                  have HRS := qres_any HW6.out.qb t.nm t.u (by have := HI.out.2.1; have := HM.out.2; have := HLT.out; omega)
                  have HOK := hid (resZ_ok (xs := xs) (S := S) (s := t.tn) (m := t.u))
                  have HBD := hid (resS_bad (xs := xs) (S := S) (s := t.tn) (m := t.u))
                  obtain ⟨z1, hz1⟩ : ∃ z, z = (resZ xs S t.nm.s t.u).1 := ⟨_, rfl⟩
                  obtain ⟨z2, hz2⟩ : ∃ z, z = (resZ xs S t.nm.s t.u).2 := ⟨_, rfl⟩
                  rw [← hz1, ← hz2] at HRS
                  have HZ := hid (And.intro hz1 hz2)
                  unfold usV at HRS
                  rw [show t.nm.s = t.tn from rfl] at HRS HZ
                  clear hz1 hz2 k4
                  go_wp2_with fail
                  refine HRS.mono ?_
                  rintro e w7 ⟨rfl, hq7, hk7⟩
                  have HQ7 := hid hq7
                  have HK7 := hid hk7
                  have HT7 := hid (HT6.out.kept hk7 (fun f => (HFL.out _ (.inl f)).2 rfl))
                  have HR7 := hid (HR6.out.kept hk7 (fun j e f => by have := (HFL.out j (.inl f)).1; have := HR6.out.ge e; omega))
                  clear hq7 hk7 HRS c0 c1' c2' c3' c4'
                  obtain ⟨c0, c1', c2', c3', c4'⟩ := HT7.out.c5w
                  have HUSE : Hid (∀ k, k < xs.length → (xs.getD k default).n ≠ (⟨#[]⟩ : ByteArray) → (resS xs S t.tn t.u).use k = S.use k) := hid (fun k _ _ => resS_use xs S t.tn t.u k)
                  have HLA : Hid ((resS xs S t.tn t.u).last ≤ i + 1) := hid (by have := resS_last xs S t.tn t.u; have := HI.out.2.1; omega)
                  by_cases h0 : z2 = 0
                  · have q0 : (z2 == 0) = true := by simpa using h0
                    obtain ⟨k, hk, hc, hl⟩ := HOK.out (by rw [← HZ.out.2]; exact h0)
                    obtain ⟨nb, hnb⟩ : ∃ nb : Nb, nb.v = z1 := nb_res xs S t.tn t.u z1 (by have := HI.out.2.1; have := HM.out.2; omega) HZ.out.1
                    have hmp : MpO w7 mo O := HW6.out.mp.kept HK7.out (fun f => (HW6.out.lo mo f).2 rfl)
                    obtain ⟨w8, hp8, hm8, hk8⟩ := MpO.put1 hmp nb t.tn (by have := HI.out.2.2; have := HM.out.2; omega)
                    have hOW := HI.out.1.own.res HI.out.1.qb.inv (HI.out.1.mp.apart intKey14) hk hc nb (by rw [hnb, HZ.out.1, hl])
                    have hWI : Wi w w8 p ma mr mo bl xs (resS xs S t.tn t.u) (putG kI nb t.tn O) := by
                      have h9 : Wi w w7 p ma mr mo bl xs (resS xs S t.tn t.u) O → Wi w w8 p ma mr mo bl xs (resS xs S t.tn t.u) (putG kI nb t.tn O) := fun h => h.map hm8 hk8 hOW
                      refine ⟨HQ7.out.kept hk8 (fun k f e => (HW6.out.lo k f).2 e), hm8, HW6.out.lo, HW6.out.lm, (HW6.out.same.then HK7.out (fun k hk f => by have := (HW6.out.lo k f).1; omega)).then hk8 (fun k hk e => by have := HW6.out.lm; omega), hOW, HI.out.1.ok.res t.tn t.u⟩
                    rw [hnb] at hp8
                    have HFIN : Hid (Wi w w8 p ma mr mo bl xs (resS xs S t.tn t.u) (putG kI nb t.tn O) ∧ (resS xs S t.tn t.u).last ≤ i + 1 ∧ (putG kI nb t.tn O).length ≤ i + 1 ∧ (∀ k, k < xs.length → (xs.getD k default).n ≠ (⟨#[]⟩ : ByteArray) → (resS xs S t.tn t.u).use k = S.use k) ∧ RowC V4.heap.size 31 2 usE w8 (.slice (some ⟨gb, 0, none⟩) j j) (befL S.use j j)) := hid ⟨hWI, HLA.out, by have := (putG_len (kl := kI) nb t.tn O).2; have := HI.out.2.2; omega, HUSE.out, HR7.out.kept hk8 (fun j e f => by have := (HFL.out j (.inr f)).1; have := HR7.out.ge e; omega)⟩
                    clear h0 hk hc hl hnb hmp hm8 hk8 hOW hWI
                    go_wp2_with fail
                    go_meet
                    exact ⟨_, rfl, _, _, HFIN⟩
                  · have q0 : (z2 == 0) = false := by simpa using h0
                    have hbd := HBD.out (by rw [← HZ.out.2]; exact h0)
                    have hq7 := HQ7.out
                    rw [hbd] at hq7
                    have HFIN : Hid (Wi w w7 p ma mr mo bl xs S O ∧ S.last ≤ i + 1 ∧ O.length ≤ i + 1 ∧ RowC V4.heap.size 31 2 usE w7 (.slice (some ⟨gb, 0, none⟩) j j) (befL S.use j j)) := hid ⟨HW6.out.book hq7 HK7.out HI.out.1.own HI.out.1.ok, by have := HI.out.2.1; omega, by have := HI.out.2.2; omega, HR7.out⟩
                    clear h0 hbd hq7
                    go_wp2_with fail
                    go_meet
                    exact ⟨_, rfl, S, O, hid ⟨HFIN.out.1, HFIN.out.2.1, HFIN.out.2.2.1, fun _ _ _ => rfl, HFIN.out.2.2.2⟩⟩
                have q4 : (t.kind == 4) = false := by simpa using k4
                by_cases k5 : t.kind = 5
                · -- Take
                  have q5 : (t.kind == 5) = true := by simpa using k5
                  have HTK := qtake_any HW6.out.qb t.nb
                  rw [show t.nb.v = t.id from rfl] at HTK
                  cases hx : S.find t.id with
                  | none =>
                    have e1 : takeZ S t.id = 172 := by unfold takeZ; rw [hx]
                    have e2 : takeS S t.id = S := by unfold takeS; rw [hx]
                    rw [e1, e2] at HTK
                    clear k4 k5 hx e1 e2
                    go_wp2_with fail
                    refine HTK.mono ?_
                    rintro e w7 ⟨rfl, hq7, hk7⟩
                    have HFIN : Hid (Wi w w7 p ma mr mo bl xs S O ∧ S.last ≤ i + 1 ∧ O.length ≤ i + 1 ∧ RowC V4.heap.size 31 2 usE w7 (.slice (some ⟨gb, 0, none⟩) j j) (befL S.use j j)) := hid ⟨HW6.out.book hq7 hk7 HI.out.1.own HI.out.1.ok, by have := HI.out.2.1; omega, by have := HI.out.2.2; omega, HR6.out.kept hk7 (fun j e f => by have := (HFL.out j (.inl f)).1; have := HR6.out.ge e; omega)⟩
                    clear hq7 hk7 HTK c0 c1' c2' c3' c4'
                    go_wp2_with fail
                    go_meet
                    exact ⟨_, rfl, S, O, hid ⟨HFIN.out.1, HFIN.out.2.1, HFIN.out.2.2.1, fun _ _ _ => rfl, HFIN.out.2.2.2⟩⟩
                  | some x =>
                    have e1 : takeZ S t.id = 0 := by unfold takeZ; rw [hx]
                    have e2 : takeS S t.id = S.take t.id x := by unfold takeS; rw [hx]
                    rw [e1, e2] at HTK
                    have hxm := (Sq.find_mem hx).1
                    have hxi := (Sq.find_mem hx).2
                    have hgo := HI.out.1.own x hxm t.nb hxi.symm
                    obtain ⟨who, hwho⟩ : ∃ s, s = (xs.getD x.ten default).n := ⟨_, rfl⟩
                    rw [← hwho] at hgo
                    have HOW : Hid (Own xs (S.take t.id x) O) := hid (HI.out.1.own.sub (fun y hy => gone_sub (id := t.id) y hy))
                    have HWN := hid (HI.out.1.ok.take HI.out.1.qb.inv hx)
                    have HUS : Hid (∀ k, k < xs.length → (xs.getD k default).n ≠ who → (S.take t.id x).use k = S.use k) := hid (fun k _ hne => take_use HI.out.1.qb.inv hx (fun e => hne (by rw [hwho, e])))
                    have HLS : Hid ((S.take t.id x).last ≤ i + 1) := hid (by have := HI.out.2.1; show S.last ≤ i + 1; omega)
                    have HGO := hid hgo
                    clear k4 k5 hx e1 e2 hxm hxi hgo hwho
                    go_wp2_with fail
                    refine HTK.mono ?_
                    rintro e w7 ⟨rfl, hq7, hk7⟩
                    have HT7 := hid (HT6.out.kept hk7 (fun f => (HFL.out _ (.inl f)).2 rfl))
                    have HMP : Hid (MpO w7 mo O) := hid (HW6.out.mp.kept hk7 (fun f => (HW6.out.lo mo f).2 rfl))
                    have hlk := MpO.look1 HMP.out t.nb
                    rw [HGO.out, show t.nb.v = t.id from rfl, show (some who).getD (⟨#[]⟩ : ByteArray) = who from rfl] at hlk
                    have HFIN : Hid (Wi w w7 p ma mr mo bl xs (S.take t.id x) O ∧ (S.take t.id x).last ≤ i + 1 ∧ O.length ≤ i + 1 ∧ (∀ k, k < xs.length → (xs.getD k default).n ≠ who → (S.take t.id x).use k = S.use k) ∧ RowC V4.heap.size 31 2 usE w7 (.slice (some ⟨gb, 0, none⟩) j j) (befL S.use j j)) := hid ⟨HW6.out.book hq7 hk7 HOW.out HWN.out, HLS.out, by have := HI.out.2.2; omega, HUS.out, HR6.out.kept hk7 (fun j e f => by have := (HFL.out j (.inl f)).1; have := HR6.out.ge e; omega)⟩
                    clear hq7 hk7 HTK c0 c1' c2' c3' c4'
                    obtain ⟨c0, c1', c2', c3', c4'⟩ := HT7.out.c5w
                    go_wp2_with fail
                    go_meet
                    exact ⟨_, rfl, _, _, HFIN⟩
                have q5 : (t.kind == 5) = false := by simpa using k5
                by_cases k6 : t.kind = 6
                · -- Free
                  have q6 : (t.kind == 6) = true := by simpa using k6
                  have HFR := qfree_is HW6.out.qb t.nb
                  rw [show t.nb.v = t.id from rfl] at HFR
                  have HT8 : Hid (Own xs (freeS S t.id) O ∧ Win xs (freeS S t.id) ∧ (freeS S t.id).last ≤ i + 1 ∧ ∀ k, (freeS S t.id).use k = S.use k) := hid (by
                    have hl := HI.out.2.1
                    unfold freeS
                    cases hx : S.find t.id with
                    | none => exact ⟨HI.out.1.own, HI.out.1.ok, by simp only; omega, fun _ => rfl⟩
                    | some x => exact ⟨HI.out.1.own.sub (fun y hy => gone_sub (id := t.id) y hy), HI.out.1.ok.gone hx, by show S.last ≤ i + 1; omega, fun _ => rfl⟩)
                  obtain ⟨zf, hzf⟩ : ∃ z, z = takeZ S t.id := ⟨_, rfl⟩
                  rw [← hzf] at HFR
                  clear k4 k5 k6 hzf
                  go_wp2_with fail
                  refine HFR.mono ?_
                  rintro e w7 ⟨rfl, hq7, hk7⟩
                  have HFIN : Hid (Wi w w7 p ma mr mo bl xs (freeS S t.id) O ∧ (freeS S t.id).last ≤ i + 1 ∧ O.length ≤ i + 1 ∧ (∀ k, k < xs.length → (xs.getD k default).n ≠ (⟨#[]⟩ : ByteArray) → (freeS S t.id).use k = S.use k) ∧ RowC V4.heap.size 31 2 usE w7 (.slice (some ⟨gb, 0, none⟩) j j) (befL S.use j j)) := hid ⟨HW6.out.book hq7 hk7 HT8.out.1 HT8.out.2.1, HT8.out.2.2.1, by have := HI.out.2.2; omega, fun k _ _ => HT8.out.2.2.2 k, HR6.out.kept hk7 (fun j e f => by have := (HFL.out j (.inl f)).1; have := HR6.out.ge e; omega)⟩
                  clear hq7 hk7 HFR c0 c1' c2' c3' c4'
                  go_wp2_with fail
                  go_meet
                  exact ⟨_, rfl, _, _, HFIN⟩
                have q6 : (t.kind == 6) = false := by simpa using k6
                have HFIN : Hid (Wi w V6 p ma mr mo bl xs S O ∧ S.last ≤ i + 1 ∧ O.length ≤ i + 1 ∧ RowC V4.heap.size 31 2 usE V6 (.slice (some ⟨gb, 0, none⟩) j j) (befL S.use j j)) := hid ⟨HW6.out, by have := HI.out.2.1; omega, by have := HI.out.2.2; omega, HR6.out⟩
                clear k4 k5 k6
                go_wp2_with fail
                go_meet
                exact ⟨_, rfl, S, O, hid ⟨HFIN.out.1, HFIN.out.2.1, HFIN.out.2.2.1, fun _ _ _ => rfl, HFIN.out.2.2.2⟩⟩
              case rest =>
                obtain ⟨who, rfl, T, P, HT⟩ := hcut
                obtain ⟨Vc, rfl⟩ : ∃ W, W = wc := ⟨_, rfl⟩
                clear c0 c1' c2' c3' c4'
                go_wp2_with fail
                go_loopg [17] j (fun qq z17 wk => ∃ k : Nat, z17 = .int .i64 (k : Nat) ∧ k ≤ j ∧ j - k ≤ qq ∧ Hid (Same Vc wk))
                case atStart => exact ⟨0, rfl, by omega, by omega, hid (Kept.refl _ _)⟩
                case round =>
                  obtain ⟨k, rfl, hk, hkq, HK⟩ := hrel
                  by_cases hkl : k < j
                  · have f1 : decide ((k : Int) < (j : Int)) = true := by simp; omega
                    have f2 : decide (k < j) = true := by simp; omega
                    obtain ⟨b', o', x, rfl, _, hx, j0, _, j2, j3⟩ := HS.out.at4 k hkl
                    have J := hid (And.intro j0 (And.intro j2 j3))
                    have j0 := (Same.trans HT.out.1.same HK.out).cell J.out.1 (fun f => f)
                    have g1 : (0 : Int) ≤ (k : Int) := by omega
                    have g2 : (k : Int) < (j : Int) := by omega
                    have hjw : IntKind.i64.wrap ((k : Int) + 1) = ((k + 1 : Nat) : Int) := by rw [IntKind.wrap_i64]; have := HM.out.1; omega
                    have HKL := hid hkl
                    have HU := quse_any (HT.out.1.qb.same HK.out) x.nm
                    rw [show x.nm.s = x.n from rfl, useV_at HG.out.2 hx] at HU
                    have HWN := hid (win_num HT.out.1.ok HT.out.1.qb.inv hx)
                    obtain ⟨us, hus⟩ : ∃ u, u = T.use k := ⟨_, rfl⟩
                    rw [← hus] at HU HWN
                    have HXN : Hid ((xs.getD k default).n = x.n ∧ k < xs.length) := hid ⟨by rw [List.getD_eq_getElem?_getD, hx]; rfl, (List.getElem?_eq_some_iff.1 hx).1⟩
                    have HUS := hid hus
                    clear j2 j3 hkl hx hus
                    go_wp2_with fail
                    refine HU.mono ?_
                    rintro e w6 ⟨rfl, hk6⟩
                    obtain ⟨W7, hW7⟩ : ∃ W, W = w6.alloc (.cells #[.int .i64 us.b, .int .i64 us.e] 31) := ⟨_, rfl⟩
                    obtain ⟨g7, hg7⟩ : ∃ b, b = w6.heap.size := ⟨_, rfl⟩
                    have hk67 : Same wr W7 := by rw [hW7]; exact hk6.alloc _
                    have HK7 := hid (Same.trans HK.out hk67)
                    obtain ⟨y0, y1, _, _⟩ := (show Blk W7 g7 #[.int .i64 us.b, .int .i64 us.e] 31 from by rw [hW7, hg7]; exact Blk.new w6 _ _).c2
                    clear hk6 hk67 HU j0
                    have j0 := (Same.trans HT.out.1.same HK7.out).cell J.out.1 (fun f => f)
                    have j2 := (Same.trans HT.out.1.same HK7.out).cell J.out.2.1 (fun f => f)
                    have j3 := (Same.trans HT.out.1.same HK7.out).cell J.out.2.2 (fun f => f)
                    obtain ⟨d0', d1', d2', d3'⟩ := HWN.out
                    have heq := str_eqT x.n who
                    go_upto_region 32 with fail
                    rw [← hW7, ← hg7]
                    clear hW7 hg7
                    by_cases he : x.n = who
                    · rw [decide_eq_true he] at heq
                      have hne : (x.n.toList != who.toList) = false := by unfold bne; rw [heq]; rfl
                      clear he
                      go_quiet (fail)
                      go_wp2_with fail
                      go_roundg (gk - 1)
                      case measure => have := HKL.out; omega
                      case rel => exact ⟨k + 1, by go_num, HKL.out, by omega, hid (HK7.out.drewN _)⟩
                    · rw [decide_eq_false he] at heq
                      have hne : (x.n.toList != who.toList) = true := by unfold bne; rw [heq]; rfl
                      have hus2 : S.use k = us := by rw [HUS.out]; exact (HT.out.2.2.2.1 k HXN.out.2 (by rw [HXN.out.1]; exact he)).symm
                      have hln : k < (befL S.use j j).length := by rw [befL_len S.use (Nat.le_refl j)]; exact HKL.out
                      have hat : (befL S.use j j)[k] = us := by
                        have h9 := befL_at S.use j HKL.out
                        rw [List.getElem?_eq_getElem hln, hus2] at h9
                        injection h9
                      have r0 := HT.out.2.2.2.2.cell usE_ok k 0 hln (by decide)
                      have r1 := HT.out.2.2.2.2.cell usE_ok k 1 hln (by decide)
                      rw [hat] at r0 r1
                      have r0 : W7.cell? ⟨gb, k * 2, none⟩ = some (.int .i64 us.b) := HK7.out.cell (show Vc.cell? ⟨gb, k * 2, none⟩ = some (.int .i64 us.b) from r0) (fun f => f)
                      have r1 : W7.cell? ⟨gb, k * 2 + 1, none⟩ = some (.int .i64 us.e) := HK7.out.cell (show Vc.cell? ⟨gb, k * 2 + 1, none⟩ = some (.int .i64 us.e) from r1) (fun f => f)
                      clear he hus2 hln hat
                      go_quiet (fail)
                      go_wp2_with fail
                      go_roundg (gk - 1)
                      case measure => have := HKL.out; omega
                      case rel => exact ⟨k + 1, by go_num, HKL.out, by omega, hid (HK7.out.drewN _)⟩
                  · have f1 : decide ((k : Int) < (j : Int)) = false := by simp; omega
                    have f2 : decide (k < j) = false := by simp; omega
                    have HNX : Hid (Wi w wr p ma mr mo bl xs T P ∧ T.last ≤ i + 1 ∧ P.length ≤ i + 1) := hid ⟨HT.out.1.to HK.out, HT.out.2.1, HT.out.2.2.1⟩
                    clear hkl
                    go_wp2_with fail
                    go_roundg (gk0 - 1)
                    case measure => have := HLT.out; have := HGK.out; omega
                    case rel => exact ⟨i + 1, by go_num, HLT.out, by have := HGK.out; omega, T, P, HNX⟩
        · have e1 : decide ((i : Int) < (m : Int)) = false := by simp; omega
          have e2 : decide (i < m) = false := by simp; omega
          have HSM := hid HI.out.1.same
          clear hlt
          go_wp2_with fail
          refine (HA.out _).mono ?_
          rintro e w9 ⟨rfl, hk9⟩
          have HK9 := hid (Same.trans HSM.out hk9)
          clear hk9
          go_wp2_with fail
          go_ret
          exact ⟨rfl, HK9.out⟩

theorem quotaWithin_all (ao : Option Addr) (n c : Nat) (xs : List Tn) (so : Option Addr) (m sc : Nat) (os : List Ow) (W : World) (h : SrcC 4 tnE W (fun k => k < W.heap.size) (.slice ao n c) xs) (hs : SrcC 5 owE W (fun k => k < W.heap.size) (.slice so m sc) os) (_hT : Mxl W) :
    Calls Tryd.prog 5 #[.slice ao n c, .slice so m sc] W fun e W' => e = .returned (.bool true) ∧ Below W.heap.size W W' :=
  (within17 W ao n c xs h so m sc os hs).mono fun _ _ ⟨he, hk⟩ => ⟨he, Kept.below hk (Nat.le_refl _) (fun _ _ f => f)⟩

end Go.Proofs.YtjlkchjcmiljjaaDoor
