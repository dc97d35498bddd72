/-
  Layer 12's law ChainPrunes.
-/
import Derived.Test.YthignkloecfcbaaChPm
import Derived.Test.YthignkloecfcbaaChSz
namespace Go.Proofs.Ythignkloecfcbaa
open Go.RowKit Go.Maps Go.Sort

theorem Ops12.mono {W : World} {I J : Nat → Prop} {a : Option Addr} {len : Nat} {O : Nat → Oc} (h : Ops12 W I a len O) (hJ : ∀ k, I k → J k) : Ops12 W J a len O := fun j hj => by
  obtain ⟨⟨⟨h1, h1a, h1b, h1e⟩, h1c, h1d⟩, b, o, h2, h3, h4, h5⟩ := h j hj
  exact ⟨⟨⟨h1.mono hJ, h1a, h1b, h1e⟩, h1c, h1d⟩, b, o, h2, hJ b h3, h4, h5⟩

/-- A dump's blocks are none of the store's. -/
def DmF (ρ : Nat → Nat) (v : Value) (As : List Ad) : Prop := (∀ k, v.ownBlock = some k → ρ k = 0) ∧ ∀ x ∈ As, ∀ k, (adV x).ownBlock = some k → ρ k = 0

/-- Where ChainPrunes stands: a store, and a dump of it. -/
structure PrS (w wi : World) (p : Nat) (M : Mst) (ρ : Nat → Nat) (v : Value) (As : List Ad) : Prop where
  sto : Sto 6000 w.heap.size wi p M ρ
  old : ∀ k, k < w.heap.size → ρ k = 0
  same : Same w wi
  dm : DmAt w.heap.size wi v As
  off : DmF ρ v As

section
variable {w wi : World} {p : Nat} {M : Mst} {ρ : Nat → Nat} {v : Value} {As : List Ad}

theorem PrS.kept (h : PrS w wi p M ρ v As) {w' : World} (hk : Same wi w') : PrS w w' p M ρ v As :=
  ⟨h.sto.same hk, h.old, h.same.trans hk, h.dm.same hk, h.off⟩
theorem PrS.stb (h : PrS w wi p M ρ v As) : StB w wi p M 6000 := ⟨ρ, h.sto, h.old, h.same⟩

theorem PrS.first {B : Nat} (h1 : Sto 6000 w.heap.size wi p M ρ) (h2 : ∀ k, k < w.heap.size → ρ k = 0) (h3 : Same w wi) {w' : World} (hk : Same wi w') (hB : B = wi.heap.size) (hd : DmAt B w' v As) : PrS w w' p M ρ v As := by
  subst hB
  refine ⟨h1.same hk, h2, h3.trans hk, hd.base h3.size, fun k e => h1.zero (hd.row.ge e), fun x hx k e => h1.zero ((hd.ent x hx).ge e)⟩

theorem PrS.pruned (h : PrS w wi p M ρ v As) {M' : Mst} {w' : World} {ρ' : Nat → Nat} (h1 : Sto 6000 w.heap.size w' p M' ρ' ∧ (∀ k, k < w.heap.size → ρ' k = 0) ∧ Same w w') (h2 : ∀ k, k < wi.heap.size → ρ k = 0 → ρ' k = 0) (h3 : Kept (fun k => ρ k ≠ 0) wi w') : PrS w w' p M' ρ' v As :=
  ⟨h1.1, h1.2.1, h1.2.2, h.dm.kept h3 (fun k e f => f (h.off.1 k e)) (fun x hx k e f => f (h.off.2 x hx k e)), fun k e => h2 k (h.dm.row.lt e) (h.off.1 k e), fun x hx k e => h2 k ((h.dm.ent x hx).lt e) (h.off.2 x hx k e)⟩

end

theorem Sto.totle {K N : Nat} {w : World} {p : Nat} {M : Mst} {ρ : Nat → Nat} (h : Sto K N w p M ρ) {m : Nat} (hm : TotIs M.V m) : m ≤ 1000000000000000 := by
  obtain ⟨s, mb, h1, rfl⟩ := h
  rw [hm.det h1.tot]
  exact tot_le h1

set_option maxRecDepth 100000 in
set_option maxHeartbeats 2000000 in
theorem chainPrunes_all (a : Option Addr) (len cap : Nat) (O : Nat → Oc) (pr at' : Int) (w : World) (ho : Ops12 w (fun k => k < w.heap.size) a len O) (hz : SzOps len O) (_w1 : (Lit.int .i64 pr).wf = true) (_w2 : (Lit.int .i64 at').wf = true) :
    Calls Try.prog 5 #[.slice a len cap, .int .i64 pr, .int .i64 at'] w fun e w' => e = .returned (.bool true) ∧ Below w.heap.size w w' := by
  suffices H : Calls Try.prog 5 #[.slice a len cap, .int .i64 pr, .int .i64 at'] w fun e w' => e = .returned (.bool true) ∧ Same w w' from H.mono (fun e w' h => ⟨h.1, h.2.bel12⟩)
  clear _w1 _w2
  have HO : Hid (Ops12 w (fun k => k < w.heap.size) a len O ∧ SzOps len O) := hid ⟨ho, hz⟩
  clear ho hz
  go_enter Try.func5, Try.ntmps5
  go_wp2_with fail
  refine (clarge_any w _ a len cap O HO.out.1 HO.out.2).mono ?_
  rintro e w1 ⟨r, rfl, hr, hk⟩
  have H1 : Hid (Same w w1) := hid hk
  have HR : Hid (r = false → len + sumW O len ≤ 2000) := hid hr
  clear hk hr
  cases r with
  | true =>
    go_wp2_with fail
    refine (cawake_any w1).mono ?_
    rintro e w2 ⟨rfl, hk⟩
    go_wp2_with fail
    go_ret
    exact ⟨rfl, H1.out.trans hk⟩
  | false =>
    have HL : Hid (len + sumW O len ≤ 2000) := hid (HR.out rfl)
    clear HR
    go_wp2_with fail
    refine (built_any w1 a len cap O ((HO.out.1.kept H1.out (fun _ _ _ f => f)).mono (fun k hk => Nat.lt_of_lt_of_le hk H1.out.size)) (HL.out)).mono ?_
    rintro e w2 ⟨p, M, rfl, ⟨ρ, g1, g2, g3⟩, hM⟩
    have HS : Hid (Sto 6000 w1.heap.size w2 p M ρ ∧ (∀ k, k < w1.heap.size → ρ k = 0) ∧ Same w1 w2 ∧ M.floor = 0) := hid ⟨g1, g2, g3, hM⟩
    have hN := g1.nums
    clear g1 g2 g3 hM
    go_wp2_with fail
    refine (bnow ⟨ρ, HS.out.1, HS.out.2.1, HS.out.2.2.1⟩).mono ?_
    rintro e w3 ⟨rfl, hk3⟩
    have HS3 : Hid (Sto 6000 w1.heap.size w3 p M ρ ∧ (∀ k, k < w1.heap.size → ρ k = 0) ∧ Same w1 w3 ∧ M.floor = 0) := hid ⟨HS.out.1.same hk3, HS.out.2.1, HS.out.2.2.1.trans hk3, HS.out.2.2.2⟩
    clear hk3 HS
    go_wp2_with fail
    refine (bversions ⟨ρ, HS3.out.1, HS3.out.2.1, HS3.out.2.2.1⟩).mono ?_
    rintro e w4 ⟨m, rfl, hm, hk4⟩
    have HT : Hid (TotIs M.V m) := hid hm
    have HS4 : Hid (Sto 6000 w1.heap.size w4 p M ρ ∧ (∀ k, k < w1.heap.size → ρ k = 0) ∧ Same w1 w4 ∧ M.floor = 0) := hid ⟨HS3.out.1.same hk4, HS3.out.2.1, HS3.out.2.2.1.trans hk4, HS3.out.2.2.2⟩
    clear hk4 hm HS3
    go_wp2_with fail
    refine (bdump ⟨ρ, HS4.out.1, HS4.out.2.1, HS4.out.2.2.1⟩ _).mono ?_
    rintro e w5 ⟨⟨v, As, rfl, d1, d2, d3, d4, hk5⟩, _⟩
    have HD := hid d2
    have HP : Hid (PrS w1 w5 p M ρ v As) := hid (PrS.first HS4.out.1 HS4.out.2.1 HS4.out.2.2.1 hk5 rfl d1)
    have HB : Hid (As.length ≤ 100000 ∧ ∀ x ∈ As, x.es.length ≤ 100000) := hid ⟨d3, d4⟩
    have HF := hid HS4.out.2.2.2
    clear d1 d2 d3 d4 hk5 HS4
    go_wp2_with fail
    refine (bprune HP.out.sto HP.out.old HP.out.same pr).mono ?_
    rintro e w6 ⟨k, ρ6, rfl, p1, p2, p3, p4⟩
    have HP6 : Hid (PrS w1 w6 p (prM M pr) ρ6 v As) := hid (HP.out.pruned p1 p2 p3)
    obtain ⟨m', hm1, hm2⟩ := p4 m HT.out
    have HT6 : Hid (TotIs (prM M pr).V m') := hid hm1
    clear p1 p2 p3 p4 hm1
    go_wp2_with fail
    refine (bprune HP6.out.sto HP6.out.old HP6.out.same pr).mono ?_
    rintro e w7 ⟨k2, ρ7, rfl, p1, p2, p3, p4⟩
    have HP7 : Hid (PrS w1 w7 p (prM (prM M pr) pr) ρ7 v As) := hid (HP6.out.pruned p1 p2 p3)
    have hNf : 0 ≤ M.floor ∧ M.floor ≤ M.now := ⟨hN.1, hN.2.1⟩
    have HRs : Hid (∀ b n, RisV (M.V b n)) := hid (fun b n => HP.out.stb.ris b n)
    have hk20 : k2 = 0 := by
      obtain ⟨m2, q1, q2⟩ := p4 m' HT6.out
      rw [prM_twice hNf HRs.out pr] at q1
      have := q1.det HT6.out
      omega
    subst hk20
    have HT7 : Hid (TotIs (prM (prM M pr) pr).V m') := hid (by rw [prM_twice hNf HRs.out pr]; exact HT6.out)
    clear p1 p2 p3 p4
    go_wp2_with fail
    refine (cawake_any w7).mono ?_
    rintro e w8 ⟨rfl, hk8⟩
    have HP8 := hid (HP7.out.kept hk8)
    have hmle := HP.out.sto.totle HT.out
    have c1 : decide ((0 : Int) ≤ (k : Int)) = true := by simp
    have c2 : ((0 : Int) == 0) = true := by simp
    have hF0 : M.floor = 0 := HF.out
    have hfl := prM_floor hNf pr
    have hfl2 := prM_floor (M := prM M pr) (by rw [hfl.1, hfl.2]; omega) pr
    have e1 : (prM (prM M pr) pr).floor = max 0 (min pr M.now) := by rw [hfl2.1, hfl.1, hfl.2, hF0]; omega
    have e2 : (prM (prM M pr) pr).now = M.now := by rw [hfl2.2, hfl.2]
    have HV : Hid (visF (prM (prM M pr) pr).V (max at' (prM (prM M pr) pr).floor) = visF M.V (max (max at' (max 0 (min pr M.now))) M.floor)) := hid (by
      rw [prM_twice hNf HRs.out pr, prM_vis HRs.out pr _ (by rw [e1]; omega), e1, hF0]
      congr 1
      omega)
    have HE2 := hid e2
    have c3 : decide (max 0 (min pr M.now) ≤ M.now) = true := by simp; omega
    have q1 : IntKind.i64.wrap ((m : Int) - (k : Int)) = (m' : Int) := by rw [IntKind.wrap_i64]; omega
    have c4 : ((m' : Int) == (m' : Int)) = true := by simp
    clear hk8 hfl hfl2 e1 e2 hF0 hNf hmle
    go_wp2_with fail
    refine (bversions HP8.out.stb).mono ?_
    rintro e w9 ⟨m9, rfl, hm9, hk9⟩
    obtain rfl : m9 = m' := hm9.det HT7.out
    have HP9 := hid (HP8.out.kept hk9)
    clear hm9 hk9
    go_wp2_with fail
    refine (bdump HP9.out.stb _).mono ?_
    rintro e w10 ⟨⟨v2, As2, rfl, d1, d2, d3, d4, hk10⟩, _⟩
    have HP10 := hid (HP9.out.kept hk10)
    have HD2 : Hid (DmAt w9.heap.size w10 v2 As2 ∧ adD As2 = adD As ∧ As2.length ≤ 100000 ∧ ∀ x ∈ As2, x.es.length ≤ 100000) := hid ⟨d1, by
      rw [HV.out] at d2
      exact d2.det HD.out, d3, d4⟩
    clear d1 d2 d3 d4 hk10
    go_wp2_with fail
    refine (dsame_true w10 _ _ v2 v As2 As HD2.out.1 HP10.out.dm HD2.out.2.1 HD2.out.2.2.1 HD2.out.2.2.2).mono ?_
    rintro e w11 ⟨rfl, hk11⟩
    have HP11 := hid (HP10.out.kept hk11)
    clear hk11
    go_wp2_with fail
    refine (bnow HP11.out.stb).mono ?_
    rintro e w12 ⟨rfl, hk12⟩
    rw [HE2.out]
    go_wp2_with fail
    go_ret
    exact ⟨rfl, H1.out.trans (HP11.out.same.trans hk12)⟩

end Go.Proofs.Ythignkloecfcbaa
