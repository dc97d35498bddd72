/-
  Of the proof: parts ChS.
-/
import Derived.Test.YthignkloecfcbaaJ11

/-
  Layer 12: the document's examples.
-/
namespace Go.Proofs.Ythignkloecfcbaa
open Go.RowKit Go.Maps Go.Sort

def bxA : Bx := ⟨⟨#[116]⟩, ⟨#[120]⟩, by decide⟩
def nmA : Nm := ⟨⟨#[97]⟩, by decide⟩
def wrA : Wr := ⟨bxA, nmA, true, ⟨#[111, 110, 101]⟩, by decide⟩
def wrB : Wr := ⟨bxA, nmA, false, ⟨#[]⟩, by decide⟩
def vrA : Ver := ⟨3, true, ⟨#[111, 110, 101]⟩⟩
def vrB : Ver := ⟨5, false, ⟨#[]⟩⟩

theorem exA (s : ByteArray) (w : World) : Calls Try.prog 24 #[.string s] w fun e w' => e = .returned (.agg #[.string ⟨#[116]⟩, .string ⟨#[120]⟩, .string s]) ∧ Same w w' := by
  go_enter Try.func24, Try.ntmps24
  go_wp2_with fail
  refine bodyPost_ret (v := .agg #[.string ⟨#[116]⟩, .string ⟨#[120]⟩, .string s]) (by rw [results_cellC rfl]; simp [go_sem]) rfl ?_
  exact ⟨rfl, (Kept.refl _ w).alloc _⟩

/-- A row of one write. -/
theorem src_one {w : World} {x : Nat} {r : Wr} (h : Blk w x (wrE r).toArray 49) : SrcC 5 wrE w (· = x) (.slice (some ⟨x, 0, none⟩) 1 1) [r] := by
  refine ⟨_, _, rfl, Nat.le_refl _, fun _ => ⟨x, 0, rfl, rfl, fun j hj i hi => ?_⟩⟩
  have : j = 0 := by simpa using hj
  subst this
  rw [h.cell]
  simp

theorem ex1 : putM ⟨0, 0, fun _ _ => []⟩ 3 [wrA] = ⟨3, 0, oneF bxA nmA [vrA]⟩ := by
  unfold putM
  simp only
  rw [putF_none]
  rfl
theorem ex2 : putM ⟨3, 0, oneF bxA nmA [vrA]⟩ 5 [wrB] = ⟨5, 0, oneF bxA nmA [vrA, vrB]⟩ := by
  unfold putM
  simp only
  rw [show oneF bxA nmA [vrA] = oneF wrB.b wrB.n [vrA] from rfl, putF_one, show putV [vrA] (verOf wrB 5) = [vrA, vrB] by decide +kernel]
  rfl
theorem ex3 : pruM ⟨5, 0, oneF bxA nmA [vrA, vrB]⟩ (min 4 5) = ⟨5, 4, oneF bxA nmA [vrA, vrB]⟩ := by
  unfold pruM
  simp only
  rw [pruF_one, show pruV [vrA, vrB] (min 4 5) = [vrA, vrB] by decide +kernel]
  rfl
theorem ex4 : pruM ⟨5, 4, oneF bxA nmA [vrA, vrB]⟩ (min 9 5) = ⟨5, 5, oneF bxA nmA []⟩ := by
  unfold pruM
  simp only
  rw [pruF_one, show pruV [vrA, vrB] (min 9 5) = [] by decide +kernel]
  rfl

theorem exG (l : List Ver) (t f : Int) (v : Ver) (h : newV l (max t f) = v) : getA (oneF bxA nmA l bxA nmA) (max t f) = .tuple #[.string v.data, .bool v.there] := by
  unfold getA
  rw [oneF_at, h]

/-- A store on its way through the examples, a key beside it. -/
def Stg (K : Nat) (w wi : World) (p kb : Nat) (M : Mst) : Prop := ∃ ρ, Sto K w.heap.size wi p M ρ ∧ (∀ k, k < w.heap.size → ρ k = 0) ∧ Same w wi ∧ Blk wi kb #[.string ⟨#[116]⟩, .string ⟨#[120]⟩, .string ⟨#[97]⟩] 36 ∧ ρ kb = 0

section
variable {K : Nat} {w wi : World} {p kb : Nat} {M : Mst}

theorem Stg.same (h : Stg K w wi p kb M) {w' : World} (hk : Same wi w') : Stg K w w' p kb M := by
  obtain ⟨ρ, h1, h2, h3, h4, h5⟩ := h
  exact ⟨ρ, h1.same hk, h2, h3.trans hk, h4.kept hk (fun f => f), h5⟩

theorem Stg.step {ρ : Nat → Nat} (h2 : ∀ k, k < w.heap.size → ρ k = 0) (h3 : Same w wi) (h4 : Blk wi kb #[.string ⟨#[116]⟩, .string ⟨#[120]⟩, .string ⟨#[97]⟩] 36) (h5 : ρ kb = 0) {K' : Nat} {M' : Mst} {w' : World} (hA : StoA K' w.heap.size wi p ρ M' w') : Stg K' w w' p kb M' := by
  obtain ⟨ρ', g1, g2, g3⟩ := hA
  refine ⟨ρ', g1, fun k hk => g2.zero (Nat.lt_of_lt_of_le hk h3.size) (h2 k hk), ?_, h4.kept g3 (fun e => e h5), g2.zero h4.lt h5⟩
  exact Kept.trans h3 g3 (fun _ _ f => f) (fun k hk e => e (h2 k hk))

theorem Stg.cells (h : Stg K w wi p kb M) : wi.cell? ⟨kb, 0, none⟩ = some (.string ⟨#[116]⟩) ∧ wi.cell? ⟨kb, 1, none⟩ = some (.string ⟨#[120]⟩) ∧ wi.cell? ⟨kb, 2, none⟩ = some (.string ⟨#[97]⟩) := by
  obtain ⟨ρ, h1, h2, h3, h4, h5⟩ := h
  exact ⟨h4.cell 0, h4.cell 1, h4.cell 2⟩

theorem gget (h : Stg K w wi p kb M) (t : Int) : Calls Try.prog 14 #[.pointer (some ⟨p, 0, none⟩), .agg #[.string ⟨#[116]⟩, .string ⟨#[120]⟩, .string ⟨#[97]⟩], .int .i64 t] wi fun e w' => e = .returned (getA (M.V bxA nmA) (max t M.floor)) ∧ Stg K w w' p kb M := by
  obtain ⟨ρ, h1, h2, h3, h4, h5⟩ := id h
  refine (xget h1 bxA nmA t).mono ?_
  rintro e w' ⟨rfl, hk⟩
  exact ⟨rfl, h.same hk⟩

theorem glast (h : Stg K w wi p kb M) : Calls Try.prog 23 #[.pointer (some ⟨p, 0, none⟩), .agg #[.string ⟨#[116]⟩, .string ⟨#[120]⟩, .string ⟨#[97]⟩]] wi fun e w' => e = .returned (.int .i64 (newV (M.V bxA nmA) M.now).t) ∧ Stg K w w' p kb M := by
  obtain ⟨ρ, h1, h2, h3, h4, h5⟩ := id h
  refine (xlast h1 bxA nmA).mono ?_
  rintro e w' ⟨rfl, hk⟩
  exact ⟨rfl, h.same hk⟩

theorem gversions (h : Stg K w wi p kb M) {n : Nat} (hn : TotIs M.V n) : Calls Try.prog 18 #[.pointer (some ⟨p, 0, none⟩)] wi fun e w' => e = .returned (.int .i64 (n : Nat)) ∧ Stg K w w' p kb M := by
  obtain ⟨ρ, h1, h2, h3, h4, h5⟩ := id h
  refine (xversions h1).mono ?_
  rintro e w' ⟨m, rfl, hm, hk⟩
  rw [hm.det hn]
  exact ⟨rfl, h.same hk⟩

theorem gnow (h : Stg K w wi p kb M) : Calls Try.prog 13 #[.pointer (some ⟨p, 0, none⟩)] wi fun e w' => e = .returned (.int .i64 M.now) ∧ Stg K w w' p kb M := by
  obtain ⟨ρ, h1, h2, h3, h4, h5⟩ := id h
  refine (xnow h1).mono ?_
  rintro e w' ⟨rfl, rfl⟩
  exact ⟨rfl, h⟩

theorem gold (h : Stg K w wi p kb M) (t : Int) (ht : t ≤ M.now) : Calls Try.prog 16 #[.pointer (some ⟨p, 0, none⟩), .agg #[.int .i64 t, .slice none 0 0]] wi fun e w' => e = .returned (.int .i64 120) ∧ Stg K w w' p kb M := by
  obtain ⟨ρ, h1, h2, h3, h4, h5⟩ := id h
  refine (xput_old h1 t ht none 0 0).mono ?_
  rintro e w' ⟨rfl, hk⟩
  exact ⟨rfl, h.same hk⟩

theorem gput (h : Stg K w wi p kb M) (t : Int) (ht : M.now < t) (ht2 : t ≤ 9223372036854775807) (r : Wr) (hK : K + 3 ≤ 100000) : Calls Try.prog 16 #[.pointer (some ⟨p, 0, none⟩), .agg #[.int .i64 t, .slice (some ⟨wi.heap.size, 0, none⟩) 1 1]] (wi.alloc (.cells (wrE r).toArray 49)) fun e w' => e = .returned (.int .i64 0) ∧ Stg (K + 3) w w' p kb (putM M t [r]) := by
  obtain ⟨ρ, h1, h2, h3, h4, h5⟩ := id h
  have hk : Same wi (wi.alloc (.cells (wrE r).toArray 49)) := (Kept.refl _ _).alloc _
  refine (xput_new (h1.same hk) (Nat.le_trans h3.size hk.size) t ht ht2 [r] _ (· = wi.heap.size) (src_one (Blk.new wi _ _)) (fun j e => h1.zero (by rw [e]; exact Nat.le_refl _)) hK).mono ?_
  rintro e w' ⟨rfl, hA⟩
  exact ⟨rfl, Stg.step h2 (h3.trans hk) (h4.kept hk (fun f => f)) h5 hA⟩

theorem gprune (h : Stg K w wi p kb M) (t : Int) (ht : M.floor < t) {M' : Mst} (hM : pruM M (min t M.now) = M') {n n' : Nat} (hn : TotIs M.V n) (hn' : TotIs M'.V n') : Calls Try.prog 19 #[.pointer (some ⟨p, 0, none⟩), .int .i64 t] wi fun e w' => e = .returned (.int .i64 ((n - n' : Nat) : Int)) ∧ Stg K w w' p kb M' := by
  obtain ⟨ρ, h1, h2, h3, h4, h5⟩ := id h
  refine (xprune_new h1 t ht).mono ?_
  rintro e w' ⟨k, rfl, hA, hT⟩
  rw [hM] at hA hT
  obtain ⟨m', g1, g2⟩ := hT n hn
  have := g1.det hn'
  refine ⟨by rw [show k = n - n' by omega], Stg.step h2 h3 h4 h5 hA⟩

end

set_option maxRecDepth 100000 in
set_option maxHeartbeats 4000000 in
theorem cawake_any (w : World) : Calls Try.prog 9 #[] w fun e w' => e = .returned (.bool true) ∧ Same w w' := by
  go_enter Try.func9, Try.ntmps9
  go_wp2_with fail
  refine (xnew w).mono ?_
  rintro e w1 ⟨p, ρ1, rfl, hs1, hz1, hk1⟩
  have HS1 : Hid (Sto 0 w.heap.size w1 p ⟨0, 0, fun _ _ => []⟩ ρ1 ∧ (∀ k, k < w.heap.size → ρ1 k = 0) ∧ Same w w1) := hid ⟨hs1, hz1, hk1⟩
  clear hs1 hz1 hk1
  go_wp2_with fail
  refine (exA _ _).mono ?_
  rintro e w2 ⟨rfl, hk2⟩
  obtain ⟨w3, hw3⟩ : ∃ W, W = w2.alloc (.cells #[.string ⟨#[116]⟩, .string ⟨#[120]⟩, .string ⟨#[97]⟩] 36) := ⟨_, rfl⟩
  obtain ⟨kb, hkb⟩ : ∃ x, x = w2.heap.size := ⟨_, rfl⟩
  have hs3 : Stg 0 w w3 p kb ⟨0, 0, fun _ _ => []⟩ := by
    have h1 := HS1.out
    have hk3 : Same w1 w3 := by rw [hw3]; exact hk2.alloc _
    exact ⟨ρ1, h1.1.same hk3, h1.2.1, h1.2.2.trans hk3, by rw [hw3, hkb]; exact Blk.new w2 _ _, h1.1.zero (by rw [hkb]; exact hk2.size)⟩
  have HP1 := gput hs3 3 (by decide) (by decide) wrA (by decide)
  rw [ex1, hw3, World.size_alloc, ← hkb] at HP1
  obtain ⟨k0, k1, k2⟩ := hs3.cells
  rw [hw3] at k0 k1 k2
  have HP1' : Calls Try.prog 16 #[.pointer (some ⟨p, 0, none⟩), .agg #[.int .i64 3, .slice (some ⟨kb + 1, 0, none⟩) 1 1]] ((w2.alloc (.cells #[.string ⟨#[116]⟩, .string ⟨#[120]⟩, .string ⟨#[97]⟩] 36)).alloc (.cells #[.string ⟨#[116]⟩, .string ⟨#[120]⟩, .string ⟨#[97]⟩, .bool true, .string ⟨#[111, 110, 101]⟩] 49)) fun e w' => e = .returned (.int .i64 0) ∧ Stg 3 w w' p kb ⟨3, 0, oneF bxA nmA [vrA]⟩ := HP1
  clear HP1 hs3 hk2 HS1 hw3
  go_wp2_with fail
  rw [← hkb]
  clear hkb k0 k1 k2
  refine HP1'.mono ?_
  rintro e w5 ⟨rfl, hs5⟩
  have HS5 : Hid (Stg 3 w w5 p kb ⟨3, 0, oneF bxA nmA [vrA]⟩) := hs5
  have HP2 := gold hs5 3 (by decide)
  clear HP1' hs5
  go_wp2_with fail
  refine HP2.mono ?_
  rintro e w6 ⟨rfl, hs6⟩
  have HP3 := gput hs6 5 (by decide) (by decide) wrB (by decide)
  rw [ex2] at HP3
  have HP3' : Calls Try.prog 16 #[.pointer (some ⟨p, 0, none⟩), .agg #[.int .i64 5, .slice (some ⟨w6.heap.size, 0, none⟩) 1 1]] (w6.alloc (.cells #[.string ⟨#[116]⟩, .string ⟨#[120]⟩, .string ⟨#[97]⟩, .bool false, .string ⟨#[]⟩] 49)) fun e w' => e = .returned (.int .i64 0) ∧ Stg 6 w w' p kb ⟨5, 0, oneF bxA nmA [vrA, vrB]⟩ := HP3
  obtain ⟨k0, k1, k2⟩ := hs6.cells
  clear HP2 HP3 hs6 HS5
  go_wp2_with fail
  clear k0 k1 k2
  refine HP3'.mono ?_
  rintro e w7 ⟨rfl, hs7⟩
  have HT2 : Hid (TotIs (oneF bxA nmA [vrA, vrB]) 2) := hid (oneF_tot _ _ _)
  have HG1 := gget hs7 2
  rw [exG _ _ _ ver0 (by decide +kernel)] at HG1
  obtain ⟨k0, k1, k2⟩ := hs7.cells
  clear HP3' hs7
  go_wp2_with fail
  clear k0 k1 k2
  refine HG1.mono ?_
  rintro e w8 ⟨rfl, hs8⟩
  have HG2 := gget hs8 4
  rw [exG _ _ _ vrA (by decide +kernel)] at HG2
  obtain ⟨k0, k1, k2⟩ := hs8.cells
  clear HG1 hs8
  go_wp2_with fail
  clear k0 k1 k2
  refine HG2.mono ?_
  rintro e w9 ⟨rfl, hs9⟩
  have HG3 := gget hs9 5
  rw [exG _ _ _ vrB (by decide +kernel)] at HG3
  obtain ⟨k0, k1, k2⟩ := hs9.cells
  clear HG2 hs9
  go_wp2_with fail
  clear k0 k1 k2
  refine HG3.mono ?_
  rintro e w10 ⟨rfl, hs10⟩
  have HLA := glast hs10
  rw [show (newV ((⟨5, 0, oneF bxA nmA [vrA, vrB]⟩ : Mst).V bxA nmA) (⟨5, 0, oneF bxA nmA [vrA, vrB]⟩ : Mst).now).t = 5 by decide +kernel] at HLA
  obtain ⟨k0, k1, k2⟩ := hs10.cells
  clear HG3 hs10
  have v0 : ver0.data = ⟨#[]⟩ := rfl
  have v1 : ver0.there = false := rfl
  have v2 : vrA.data = ⟨#[111, 110, 101]⟩ := rfl
  have v3 : vrA.there = true := rfl
  have v4 : vrB.data = ⟨#[]⟩ := rfl
  have v5 : vrB.there = false := rfl
  go_wp2_with fail
  clear k0 k1 k2
  refine HLA.mono ?_
  rintro e w11 ⟨rfl, hs11⟩
  have HNO := gnow hs11
  clear HLA hs11
  go_wp2_with fail
  refine HNO.mono ?_
  rintro e w12 ⟨rfl, hs12⟩
  have HVE := gversions hs12 HT2.out
  clear HNO hs12
  go_wp2_with fail
  refine HVE.mono ?_
  rintro e w13 ⟨rfl, hs13⟩
  have HPR := gprune hs13 4 (by decide) ex3 HT2.out HT2.out
  clear HVE hs13
  go_wp2_with fail
  refine HPR.mono ?_
  rintro e w14 ⟨rfl, hs14⟩
  have HG4 := gget hs14 2
  rw [exG _ _ _ vrA (by decide +kernel)] at HG4
  obtain ⟨k0, k1, k2⟩ := hs14.cells
  clear HPR hs14
  go_wp2_with fail
  clear k0 k1 k2
  refine HG4.mono ?_
  rintro e w15 ⟨rfl, hs15⟩
  have HPR2 := gprune hs15 9 (by decide) ex4 HT2.out (oneF_tot bxA nmA [])
  clear HG4 hs15
  go_wp2_with fail
  refine HPR2.mono ?_
  rintro e w16 ⟨rfl, hs16⟩
  have HVE2 := gversions hs16 (oneF_tot bxA nmA [])
  clear HPR2 hs16
  go_wp2_with fail
  refine HVE2.mono ?_
  rintro e w17 ⟨rfl, hs17⟩
  have HLA2 := glast hs17
  rw [show (newV ((⟨5, 5, oneF bxA nmA []⟩ : Mst).V bxA nmA) (⟨5, 5, oneF bxA nmA []⟩ : Mst).now).t = 0 by decide +kernel] at HLA2
  obtain ⟨k0, k1, k2⟩ := hs17.cells
  clear HVE2 hs17
  go_wp2_with fail
  refine HLA2.mono ?_
  rintro e w18 ⟨rfl, hs18⟩
  have HK : Hid (Same w w18) := hid (by obtain ⟨_, _, _, h3, _⟩ := hs18; exact h3)
  clear HLA2 hs18 k0 k1 k2
  go_wp2_with fail
  go_ret
  exact ⟨rfl, HK.out⟩

end Go.Proofs.Ythignkloecfcbaa
