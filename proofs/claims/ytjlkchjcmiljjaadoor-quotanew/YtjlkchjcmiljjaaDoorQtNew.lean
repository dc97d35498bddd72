/-
  QuotaNew's walk.
-/
import Derived.Test.YtjlkchjcmiljjaaDoorQtRun
import Derived.Test.YtjlkchjcmiljjaaDoorQtFr2
import Derived.Test.YtjlkchjcmiljjaaDoorRawM
import Derived.BigQuiet
namespace Go.Proofs.YtjlkchjcmiljjaaDoor
open Go.RowKit Go.Shelf Go.Maps

theorem Tryd.infoTen17 : (Tryd.prog.info? 29).map (fun i => (i.zero, i.size, i.bytes)) = some (some (.agg #[.string ⟨#[]⟩, .string ⟨#[]⟩, .int .i64 0, .int .i64 0]), 4, 48) := by kernel_rfl

/-- A mark for the walk: here a copy stands. -/
theorem atCopyT {P : Program} {ops : Array Oper} {rest : List Oper} {a : Act} {Q : Exit → Act → World → Prop} {w : World} {dst : Option Tmp} {d s : Operand} {dT sT ty : TypeId} {pos : String} {after : Array Edge}
    (h : wpList P ops Q ({ dst := dst, op := .call { callee := .builtin .copy, args := #[d, s], argTypes := #[dT, sT] }, type := ty, pos := pos, after := after, guard := none } :: rest) a w) :
    wpList P ops Q ({ dst := dst, op := .call { callee := .builtin .copy, args := #[d, s], argTypes := #[dT, sT] }, type := ty, pos := pos, after := after, guard := none } :: rest) a w := h

def tn0 : Tn := ⟨⟨#[]⟩, ⟨#[]⟩, 0, 0, by decide⟩
def goneT : Tn := ⟨⟨#[103, 111, 110, 101]⟩, ⟨#[]⟩, 0, 0, by decide⟩

theorem splice_all {α : Type} {L M : List α} (h : M.length = L.length) : splice L 0 M = M := by
  unfold splice
  rw [List.take_zero, List.nil_append, Nat.zero_add, h, List.drop_length, List.append_nil]

theorem flat_setT : ∀ (xs : List Tn) (i : Nat) (t : Tn) (_ : i < xs.length), ((((xs.flatMap tnE).set (i * 4) (.string t.n)).set (i * 4 + 1) (.string t.k)).set (i * 4 + 2) (.int .i64 t.b)).set (i * 4 + 3) (.int .i64 t.e) = (xs.set i t).flatMap tnE
  | [], i, k, hi => by simp at hi
  | x :: xs, 0, k, _ => by simp [tnE]
  | x :: xs, i + 1, k, hi => by
    have h1 := flat_setT xs i k (by simp at hi; omega)
    rw [List.flatMap_cons, List.set_cons_succ, List.flatMap_cons, ← h1]
    have e : (i + 1) * 4 = i * 4 + 1 + 1 + 1 + 1 := by omega
    rw [e, show i * 4 + 1 + 1 + 1 + 1 + 1 = (i * 4 + 1) + 1 + 1 + 1 + 1 by omega, show i * 4 + 1 + 1 + 1 + 1 + 2 = (i * 4 + 2) + 1 + 1 + 1 + 1 by omega, show i * 4 + 1 + 1 + 1 + 1 + 3 = (i * 4 + 3) + 1 + 1 + 1 + 1 by omega]
    rfl

/-- A list whose first ones are gone. -/
def gonL (xs : List Tn) (i : Nat) : List Tn := List.replicate i goneT ++ xs.drop i

theorem gonL_len {xs : List Tn} {i : Nat} (h : i ≤ xs.length) : (gonL xs i).length = xs.length := by
  unfold gonL
  rw [List.length_append, List.length_replicate, List.length_drop]
  omega

theorem gonL_at {xs : List Tn} {i : Nat} {x : Tn} (h : xs[i]? = some x) : (gonL xs i)[i]? = some x := by
  unfold gonL
  rw [List.getElem?_append_right (by simp), List.length_replicate, Nat.sub_self, List.getElem?_drop, Nat.add_zero]
  exact h

theorem gonL_set {xs : List Tn} {i : Nat} (h : i < xs.length) : (gonL xs i).set i goneT = gonL xs (i + 1) := by
  unfold gonL
  rw [List.set_append_right _ _ (by simp), List.length_replicate, Nat.sub_self, List.drop_eq_getElem_cons h, List.set_cons_zero, List.replicate_succ', List.append_assoc]
  rfl

/-- What New answers. -/
theorem qnew_any (w : World) (ao : Option Addr) (n c : Nat) (xs : List Tn) (h : SrcC 4 tnE w (fun k => k < w.heap.size) (.slice ao n c) xs) (z : Int) (hz : CkT xs z) : Calls Tryd.prog 10 #[.slice ao n c] w fun e w' => ∃ po : Option Addr, e = .returned (.tuple #[.pointer po, .int .i64 z]) ∧ Same w w' ∧ ((po = none ∧ z ≠ 0) ∨ (z = 0 ∧ ∃ p ma mr bl, po = some ⟨p, 0, none⟩ ∧ Qb w' p ma mr bl xs (newS xs.length) ∧ ∀ k, FQ p ma mr bl k → w.heap.size ≤ k)) := by
  by_cases h0 : z = 0
  · subst h0
    exact (qnew_good w ao n c xs h hz.zero.1 hz.zero.2).mono fun e w' ⟨p, ma, mr, bl, he, hq, hk, hn⟩ => ⟨_, he, hk, .inr ⟨rfl, p, ma, mr, bl, rfl, hq, hn⟩⟩
  · exact (qnew_bad w ao n c xs _ h z hz (by simpa using h0)).mono fun e w' ⟨he, hk⟩ => ⟨none, he, hk, .inl ⟨rfl, h0⟩⟩

theorem left_new {xs : List Tn} (hg : GoodT xs) {k : Nat} {t : Tn} (h : xs[k]? = some t) : leftQ xs (newS xs.length) k = ⟨t.b, t.e⟩ := by
  have hm := hg.may (List.getElem?_eq_some_iff.1 h).1
  have e : mayT xs k = ⟨t.b, t.e⟩ := by unfold mayT; rw [List.getD_eq_getElem?_getD, h]; rfl
  unfold leftQ
  rw [newS_use, show (newS xs.length).held k = ⟨0, 0⟩ from rfl, e]
  rw [e] at hm
  unfold Us.inn at hm
  simp only [Us.up, Us.sub, Us.add, Us.mk.injEq] at hm ⊢
  omega

set_option maxRecDepth 100000 in
set_option maxHeartbeats 4000000 in
theorem new17 (w : World) (ao : Option Addr) (n c : Nat) (xs : List Tn) (h : SrcC 4 tnE w (fun k => k < w.heap.size) (.slice ao n c) xs) :
    Calls Tryd.prog 3 #[.slice ao n c] w fun e w' => e = .returned (.bool true) ∧ Same w w' := by
  have HS := hid h
  have HN := hid h.len4
  have HA : Hid (∀ W, Calls Tryd.prog 13 #[] W fun e w' => e = .returned (.bool true) ∧ Same W w') := hid awake17
  by_cases hgo : n ≤ 1000
  case neg =>
    have d1 : decide ((1000 : Int) < (n : Int)) = true := by simp; omega
    clear hgo h
    go_enter Tryd.func3, Tryd.ntmps3
    go_wp2_with fail
    go_ret
    exact ⟨rfl, Kept.refl _ _⟩
  case pos =>
    have d1 : decide ((1000 : Int) < (n : Int)) = false := by simp; omega
    have HM := hid hgo
    have HC := rqcheck_any w ao n c xs _ h
    have HMIN : Hid (Nat.min n n = n) := hid (Nat.min_self n)
    have HE1 : Hid ((xs.flatMap tnE).length = n * 4) := hid (by rw [flat_length tnE_ok, HN.out.1])
    have HE2 : Hid (((List.replicate n tn0).flatMap tnE).length = n * 4) := hid (by rw [flat_length tnE_ok, List.length_replicate])
    have hn9 : n ≤ 1000000000 := by omega
    clear hgo h
    go_enter Tryd.func3, Tryd.ntmps3
    go_wp2_with fail
    refine HC.mono ?_
    rintro e w1 ⟨⟨z, rfl, hz⟩, hk1⟩
    have HK1 := hid hk1
    have HZ := hid hz
    clear HC hk1 hz
    go_wp2_with (first
      | (at_make; refine wpList_make_c _ tnE 4 tnE_ok tn0 w1.heap.size 22 29 (.agg #[.string ⟨#[]⟩, .string ⟨#[]⟩, .int .i64 0, .int .i64 0]) 48 Tryd.underlying22 Tryd.infoTen17 rfl (by decide) rfl _ _ rfl _ _ _ _ n rfl rfl rfl rfl hn9 (Nat.le_refl _) ?_; intro w2 hr2 hg2 hs2; have HR2 : Hid (Raw w2 w1.heap.size 29 ((List.replicate n tn0).flatMap tnE)) := hid hr2.raw; have HK2 : Hid (Same w1 w2) := hid ((Kept.refl _ w1).grown hg2 (fun j e => by cases e)); clear hr2 hg2 hs2)
      | (with_reducible refine atCopyT ?_; refine wpList_copy_k _ rfl (.tmp 22) (.tmp 23) 22 22 rfl 29 4 Tryd.underlying22 Tryd.sizeTn w1.heap.size 0 n n ao n c rfl rfl _ 29 HR2.out (xs.flatMap tnE) (by rw [HMIN.out]; exact HE1.out) (fun h => SrcC.cellsAt tnE_ok (SrcC.kept tnE_ok HS.out (Same.trans HK1.out HK2.out) (fun _ _ _ f => f)) (fun e => by rw [e] at h; simp at h)) (by decide) (by rw [HE1.out, HE2.out]; omega) (flat_one tnE_ok _) n HMIN.out ?_; intro w3 hr3 hg3; have HR3 : Hid (Raw w3 w1.heap.size 29 (xs.flatMap tnE)) := hid (by rw [splice_all (by rw [HE1.out, HE2.out])] at hr3; exact hr3); have HK3 : Hid (Same w1 w3) := hid (HK2.out.grown hg3 (fun j e => .inr (by injection e with e; omega))); clear hr3 hg3))
    obtain ⟨g, hg⟩ : ∃ g, g = w1.heap.size := ⟨_, rfl⟩
    have HG0 := hid hg
    rw [← hg] at HR3 ⊢
    have hr3 := HR3.out.row tnE_ok (Nat.le_refl g) (by rw [← HN.out.1]; unfold maxLen; omega)
    rw [← HN.out.1] at hr3
    have HS3 : Hid (SrcC 4 tnE w3 (fun j => j < w3.heap.size) (.slice (some ⟨g, 0, none⟩) n n) xs) := hid ((SrcC.ofRow tnE_ok hr3).mono (fun j e => hr3.lt e))
    have HQC := qcheck_any w3 _ n n xs _ HS3.out z HZ.out
    have HGL : Hid (g < w3.heap.size ∧ w.heap.size ≤ g) := hid ⟨by have h9 := HR3.out; unfold Raw at h9; exact (Array.getElem?_eq_some_iff.1 h9).1, by have := HG0.out; have := HK1.out.size; omega⟩
    clear hr3 hg HR2 HK2
    refine HQC.mono ?_
    rintro e w4 ⟨rfl, hk4⟩
    have HR4 := hid (HR3.out.kept hk4 (fun f => f))
    have HK4 := hid (Same.trans HK3.out hk4)
    have HL4 : Hid (g < w4.heap.size) := hid (by have := HGL.out; have := hk4.size; omega)
    have HQN := qnew_any w4 (some ⟨g, 0, none⟩) n n xs ((HS3.out.kept tnE_ok hk4 (fun _ _ _ f => f)).mono (fun j (hj : j < w3.heap.size) => Nat.lt_of_lt_of_le hj hk4.size)) z HZ.out
    clear hk4 HQC
    go_wp2_with fail
    refine HQN.mono ?_
    rintro e w5 ⟨po, rfl, hk5, hpo⟩
    have HR5 := hid (HR4.out.kept hk5 (fun f => f))
    have HK5 := hid (Same.trans HK1.out (Same.trans HK4.out hk5))
    have HPO := hid hpo
    clear hk5 hpo HQN
    go_wp2_with fail
    go_loopg [8] n (fun qq z8 wr => ∃ i : Nat, z8 = .int .i64 (i : Nat) ∧ i ≤ n ∧ n - i ≤ qq ∧ Hid (Raw wr g 29 ((gonL xs i).flatMap tnE) ∧ Kept (· = g) w5 wr))
    case atStart => exact ⟨0, rfl, by omega, by omega, hid ⟨by simpa [gonL] using HR5.out, Kept.refl _ _⟩⟩
    case round =>
      obtain ⟨i, rfl, hi, hiq, HI⟩ := hrel
      by_cases hlt : i < n
      · have e1 : decide ((i : Int) < (n : Int)) = true := by simp; omega
        have e2 : decide (i < n) = true := by simp; omega
        obtain ⟨b, o, x, rfl, hbl, hx, k0, k1, k2, k3⟩ := HS.out.at4 i hlt
        have hbg : b ≠ g := by have := HGL.out; omega
        have k0 := HI.out.2.cell (HK5.out.cell k0 (fun f => f)) hbg
        have k1 := HI.out.2.cell (HK5.out.cell k1 (fun f => f)) hbg
        have k2 := HI.out.2.cell (HK5.out.cell k2 (fun f => f)) hbg
        have k3 := HI.out.2.cell (HK5.out.cell k3 (fun f => f)) hbg
        have hil : i < (gonL xs i).length := by rw [gonL_len (by have := HN.out.1; omega), ← HN.out.1]; exact hlt
        have hge : (gonL xs i)[i] = x := by have h9 := gonL_at hx; rw [List.getElem?_eq_getElem hil] at h9; injection h9
        have kk := fun (j : Nat) (hj : j < 4) => (HI.out.1.cell (i * 4 + j)).trans (flat_get tnE_ok (gonL xs i) i j hil hj)
        rw [hge] at kk
        have m0 : wr.cell? ⟨g, i * 4, none⟩ = some (.string x.n) := kk 0 (by decide)
        have m1 : wr.cell? ⟨g, i * 4 + 1, none⟩ = some (.string x.k) := kk 1 (by decide)
        have m2 : wr.cell? ⟨g, i * 4 + 2, none⟩ = some (.int .i64 x.b) := kk 2 (by decide)
        have m3 : wr.cell? ⟨g, i * 4 + 3, none⟩ = some (.int .i64 x.e) := kk 3 (by decide)
        have f0 := HI.out.1.frozen (i * 4)
        have f1 := HI.out.1.frozen (i * 4 + 1)
        have f2 := HI.out.1.frozen (i * 4 + 2)
        have f3 := HI.out.1.frozen (i * 4 + 3)
        have c1 : (0 : Int) ≤ (i : Int) := by omega
        have c2 : (i : Int) < (n : Int) := by omega
        have hiw : IntKind.i64.wrap ((i : Int) + 1) = ((i + 1 : Nat) : Int) := by rw [IntKind.wrap_i64]; have := HM.out; omega
        have HLT := hid hlt
        have HRN : Hid (Raw ((((wr.setCell ⟨g, i * 4, none⟩ (.string goneT.n)).setCell ⟨g, i * 4 + 1, none⟩ (.string goneT.k)).setCell ⟨g, i * 4 + 2, none⟩ (.int .i64 goneT.b)).setCell ⟨g, i * 4 + 3, none⟩ (.int .i64 goneT.e)) g 29 ((gonL xs (i + 1)).flatMap tnE) ∧ Kept (· = g) w5 ((((wr.setCell ⟨g, i * 4, none⟩ (.string goneT.n)).setCell ⟨g, i * 4 + 1, none⟩ (.string goneT.k)).setCell ⟨g, i * 4 + 2, none⟩ (.int .i64 goneT.b)).setCell ⟨g, i * 4 + 3, none⟩ (.int .i64 goneT.e))) := hid ⟨by
            rw [← gonL_set (by have := HN.out.1; omega), ← flat_setT (gonL xs i) i goneT hil]
            exact (((HI.out.1.set _ _).set _ _).set _ _).set _ _, (((HI.out.2.setCell ⟨g, i * 4, none⟩ _ (.inl rfl)).setCell ⟨g, i * 4 + 1, none⟩ _ (.inl rfl)).setCell ⟨g, i * 4 + 2, none⟩ _ (.inl rfl)).setCell ⟨g, i * 4 + 3, none⟩ _ (.inl rfl)⟩
        unfold goneT at HRN
        simp only at HRN
        clear kk hge hil hbg hlt hx hbl
        go_upto_region 11 with fail
        go_quiet (fail)
        go_wp2_with fail
        go_roundg (gk - 1)
        case measure => have := HLT.out; omega
        case rel => exact ⟨i + 1, by go_num, HLT.out, by omega, hid ⟨HRN.out.1.kept (show Same _ (World.drewN _ _) from (Kept.refl _ _).drewN _) (fun f => f), HRN.out.2.drewN _⟩⟩
      · have e1 : decide ((i : Int) < (n : Int)) = false := by simp; omega
        have e2 : decide (i < n) = false := by simp; omega
        have HKW : Hid (Kept (· = g) w5 wr ∧ Same w wr) := hid ⟨HI.out.2, HK5.out.then HI.out.2 (fun x hx e => by have := HGL.out; omega)⟩
        obtain ⟨V9, rfl⟩ : ∃ W, W = wr := ⟨_, rfl⟩
        have hzz : (z != z) = false := by simp
        clear hlt HI
        rcases HPO.out with ⟨rfl, hz0⟩ | ⟨rfl, p, ma, mr, bl, rfl, hq, hnw⟩
        · have g0 : (z != 0) = true := by simpa [bne] using hz0
          clear hz0
          go_wp2_with fail
          go_loopg [9] n (fun qq z9 wr => z9 = .int .i64 0 ∧ wr = V9)
          case atStart => exact ⟨rfl, rfl⟩
          case round =>
            obtain ⟨rfl, rfl⟩ := hrel
            rcases Nat.eq_zero_or_pos n with hn0 | hn0
            case' inl => have f1 : decide ((0 : Int) < (n : Int)) = false := by rw [hn0]; rfl
            case' inl => have f2 : decide (0 < n) = false := by rw [hn0]; rfl
            case' inr => have f1 : decide ((0 : Int) < (n : Int)) = true := by simp; omega
            case' inr => have f2 : decide (0 < n) = true := by simp; omega
            case' inl => clear hn0
            all_goals
              go_wp2_with fail
              refine (HA.out _).mono ?_
              rintro e w7 ⟨rfl, hk7⟩
              have HK7 := hid (Same.trans HKW.out.2 hk7)
              clear hk7
              go_wp2_with fail
              go_ret
              exact ⟨rfl, HK7.out⟩
        · have HG := hid HZ.out.zero
          have HQ9 : Hid (Qb V9 p ma mr bl xs (newS xs.length)) := hid (hq.kept HKW.out.1 (fun k f e => by have := hnw k f; have := HL4.out; omega))
          clear hq hnw
          go_wp2_with fail
          go_loopg [9] n (fun qq z9 wr => ∃ i2 : Nat, z9 = .int .i64 (i2 : Nat) ∧ i2 ≤ n ∧ n - i2 ≤ qq ∧ Hid (Same V9 wr))
          case atStart => exact ⟨0, rfl, by omega, by omega, hid (Kept.refl _ _)⟩
          case round =>
            obtain ⟨i2, rfl, hi2, hiq2, HI2⟩ := hrel
            by_cases hjl : i2 < n
            · have f1 : decide ((i2 : Int) < (n : Int)) = true := by simp; omega
              have f2 : decide (i2 < n) = true := by simp; omega
              obtain ⟨b', o', x, rfl, _, hx, j0, _, j2, j3⟩ := HS.out.at4 i2 hjl
              have J := hid (And.intro j0 (And.intro j2 j3))
              have j0 := (Same.trans HKW.out.2 HI2.out).cell J.out.1 (fun f => f)
              have g1 : (0 : Int) ≤ (i2 : Int) := by omega
              have g2 : (i2 : Int) < (n : Int) := by omega
              have hjw : IntKind.i64.wrap ((i2 : Int) + 1) = ((i2 + 1 : Nat) : Int) := by rw [IntKind.wrap_i64]; have := HM.out; omega
              have HJL := hid hjl
              have HU := quse_any (HQ9.out.same HI2.out) x.nm
              rw [show x.nm.s = x.n from rfl, useV_at HG.out.2 hx, newS_use] at HU
              have HLV : Hid (leftV xs (newS xs.length) x.n = .tuple #[.agg #[.int .i64 x.b, .int .i64 x.e], .int .i64 0]) := hid (by rw [leftV_at HG.out.2 hx, left_new HG.out.2 hx])
              clear j2 j3 hjl hx
              go_wp2_with fail
              refine HU.mono ?_
              rintro e w6 ⟨rfl, hk6⟩
              obtain ⟨W7, hW7⟩ : ∃ W, W = w6.alloc (.cells #[.int .i64 0, .int .i64 0] 31) := ⟨_, rfl⟩
              obtain ⟨g7, hg7⟩ : ∃ b, b = w6.heap.size := ⟨_, rfl⟩
              have hk67 : Same wr W7 := by rw [hW7]; exact hk6.alloc _
              have HK7 := hid (Same.trans HI2.out hk67)
              have HB7 : Hid (Blk W7 g7 #[.int .i64 0, .int .i64 0] 31) := hid (by rw [hW7, hg7]; exact Blk.new w6 _ _)
              have HLF := qleft_any (HQ9.out.same HK7.out) x.nm
              rw [show x.nm.s = x.n from rfl, HLV.out] at HLF
              clear hk6 hk67 HU j0
              have j0 := (Same.trans HKW.out.2 HK7.out).cell J.out.1 (fun f => f)
              go_upto_region 20 with fail
              rw [← hW7, ← hg7]
              clear hW7 hg7
              go_wp2_with fail
              refine HLF.mono ?_
              rintro e w8 ⟨rfl, hk8⟩
              obtain ⟨W9, hW9⟩ : ∃ W, W = w8.alloc (.cells #[.int .i64 x.b, .int .i64 x.e] 31) := ⟨_, rfl⟩
              obtain ⟨g9, hg9⟩ : ∃ b, b = w8.heap.size := ⟨_, rfl⟩
              have hk89 : Same W7 W9 := by rw [hW9]; exact hk8.alloc _
              have HK9 := hid (Same.trans HK7.out hk89)
              obtain ⟨y0, y1, _, _⟩ := (show Blk W9 g9 #[.int .i64 x.b, .int .i64 x.e] 31 from by rw [hW9, hg9]; exact Blk.new w8 _ _).c2
              obtain ⟨z0, z1, _, _⟩ := (HB7.out.kept hk89 (fun f => f)).c2
              clear hk8 hk89 HLF j0
              have j2 := (Same.trans HKW.out.2 HK9.out).cell J.out.2.1 (fun f => f)
              have j3 := (Same.trans HKW.out.2 HK9.out).cell J.out.2.2 (fun f => f)
              go_upto_region 21 with fail
              rw [← hW9, ← hg9]
              clear hW9 hg9
              go_quiet (fail)
              go_wp2_with fail
              go_roundg (gk - 1)
              case measure => have := HJL.out; omega
              case rel => exact ⟨i2 + 1, by go_num, HJL.out, by omega, hid (HK9.out.drewN _)⟩
            · have f1 : decide ((i2 : Int) < (n : Int)) = false := by simp; omega
              have f2 : decide (i2 < n) = false := by simp; omega
              have HKX := hid (Same.trans HKW.out.2 HI2.out)
              clear hjl
              go_wp2_with fail
              refine (HA.out _).mono ?_
              rintro e w7 ⟨rfl, hk7⟩
              have HK7 := hid (Same.trans HKX.out hk7)
              clear hk7
              go_wp2_with fail
              go_ret
              exact ⟨rfl, HK7.out⟩

theorem quotaNew_all (ao : Option Addr) (n c : Nat) (xs : List Tn) (W : World) (h : SrcC 4 tnE W (fun k => k < W.heap.size) (.slice ao n c) xs) (_hT : Mxl W) :
    Calls Tryd.prog 3 #[.slice ao n c] W fun e W' => e = .returned (.bool true) ∧ Below W.heap.size W W' :=
  (new17 W ao n c xs h).mono fun _ _ ⟨he, hk⟩ => ⟨he, Kept.below hk (Nat.le_refl _) (fun _ _ f => f)⟩

end Go.Proofs.YtjlkchjcmiljjaaDoor
