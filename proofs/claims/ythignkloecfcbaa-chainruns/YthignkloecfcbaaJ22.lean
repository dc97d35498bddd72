/-
  Of the proof: parts ChSz, ChPr, ChSm, CrA, CrB.
-/
import Derived.SizedLaws
import Derived.Test.YthignkloecfcbaaJ21

/-
  Layer 12's law: how large the arguments' slices are.
-/
namespace Go.Proofs.Ythignkloecfcbaa
open Go.ChangeShapes Go.WideShapes Go.ChangeAt Go.RowKit Go.Deep Go.Maps

theorem Try.bytes12w : 1 ≤ Try.prog.bytesOf 49 := of_decide_eq_true (by kernel_rfl)
theorem Try.bytes12o : 1 ≤ Try.prog.bytesOf 38 := of_decide_eq_true (by kernel_rfl)

theorem mem_all12 {H : Type} {P : Program} {e : TypeId} {d : DataW H} : ∀ {ds : List (DataW H)}, d ∈ ds → ∀ n ∈ d.weights P e, n ∈ DataW.weightsAll P e ds
  | [], h, _, _ => by simp at h
  | d0 :: ds, h, n, hn => by
    rw [DataW.weightsAll, List.mem_append]
    rcases List.mem_cons.1 h with e | e
    · exact .inl (by rw [← e]; exact hn)
    · exact .inr (mem_all12 e n hn)

section
variable {H : Type} {enc : TypeId × Value → H} {W : World} {fuel : Nat} {x : DataW H × List MemPlace}

set_option maxRecDepth 100000 in
theorem writes_sz {a : Option Addr} {n c : Nat} (h : DataW.trod enc Try.prog W 0 (fun _ => true) true fuel 32 [.slice a n c] = some x) (hz : ∀ m ∈ x.1.weights Try.prog 32, m ≤ reachBytes) : n ≤ 140737488351232 := by
  rcases open_slice Try.underlying32 h with ⟨hcs, _⟩ | ⟨x0, l, c, m, n', D, Pl, hcs, _, hl, _, hm, rfl, hx⟩
  · simp only [List.cons.injEq, Value.slice.injEq, and_true] at hcs
    rw [hcs.2.1]; exact Nat.zero_le _
  · simp only [List.cons.injEq, Value.slice.injEq, and_true] at hcs
    obtain ⟨rfl, rfl, rfl⟩ := hcs
    have h1 := hz (((List.range n).map D).length + ((List.range (m - n)).map fun j => D (n + j)).length |> (· * Try.prog.bytesOf 49)) (by simp [DataW.weights, Try.underlying32])
    simp only [List.length_map, List.length_range] at h1
    exact Nat.le_trans (Nat.le_add_right _ _) (Nat.le_trans (Nat.le_mul_of_pos_right _ Try.bytes12w) h1)

set_option maxRecDepth 100000 in
theorem commit_sz {k0 : Value} {a : Option Addr} {n c : Nat} (h : DataW.trod enc Try.prog W 0 (fun _ => true) true fuel 34 [k0, .slice a n c] = some x) (hz : ∀ m ∈ x.1.weights Try.prog 34, m ≤ reachBytes) : n ≤ 140737488351232 := by
  obtain ⟨xs, n', _, rfl, _, hlen, hf⟩ := DataW.trod_struct Try.underlying34 h
  match xs, hlen with
  | [y0, y1], _ =>
    have c1 := Try.cells12i
    have c2 := Try.cells12ws
    have t1 : DataW.trod enc Try.prog W 0 (fun _ => true) true n' 32 [.slice a n c] = some y1 := by simpa [c1, c2] using hf 1 _ rfl
    refine writes_sz t1 (fun m hm => hz m ?_)
    rw [DataW.weights, Try.underlying34]
    exact DataW.weights_mem_each (j := 1) (by rfl) (by rfl) m hm

set_option maxRecDepth 100000 in
theorem op_sz {k0 k1 k3 k4 k5 k6 : Value} {a : Option Addr} {n c : Nat} (h : DataW.trod enc Try.prog W 0 (fun _ => true) true fuel 38 [k0, k1, .slice a n c, k3, k4, k5, k6] = some x) (hz : ∀ m ∈ x.1.weights Try.prog 38, m ≤ reachBytes) : n ≤ 140737488351232 := by
  obtain ⟨xs, n', _, rfl, _, hlen, hf⟩ := DataW.trod_struct Try.underlying38 h
  match xs, hlen with
  | [y0, y1, y2, y3], _ =>
    have c1 := Try.cells12i
    have c2 := Try.cells12c
    have c3 := Try.cells12k
    have t1 : DataW.trod enc Try.prog W 0 (fun _ => true) true n' 34 [k1, .slice a n c] = some y1 := by simpa [c1, c2, c3] using hf 1 _ rfl
    refine commit_sz t1 (fun m hm => hz m ?_)
    rw [DataW.weights, Try.underlying38]
    exact DataW.weights_mem_each (j := 1) (by rfl) (by rfl) m hm

set_option maxRecDepth 100000 in
theorem ops12_sz {I : Nat → Prop} {a : Option Addr} {len cap : Nat} {O : Nat → Oc} (h : DataW.trod enc Try.prog W 0 (fun _ => true) true fuel 22 [.slice a len cap] = some x) (hz : ∀ m ∈ x.1.weights Try.prog 22, m ≤ reachBytes) (hO : Ops12 W I a len O) : SzOps len O := by
  rcases open_slice Try.underlying22 h with ⟨hcs, _⟩ | ⟨x0, l, c, m, n', D, Pl, hcs, _, hl, _, hm, rfl, hx⟩
  · simp only [List.cons.injEq, Value.slice.injEq, and_true] at hcs
    rw [hcs.2.1]
    exact ⟨Nat.zero_le _, fun j hj => absurd hj (Nat.not_lt_zero _)⟩
  · simp only [List.cons.injEq, Value.slice.injEq, and_true] at hcs
    obtain ⟨rfl, rfl, rfl⟩ := hcs
    have h1 := hz (((List.range len).map D).length + ((List.range (m - len)).map fun j => D (len + j)).length |> (· * Try.prog.bytesOf 38)) (by simp [DataW.weights, Try.underlying22])
    simp only [List.length_map, List.length_range] at h1
    refine ⟨Nat.le_trans (Nat.le_add_right _ _) (Nat.le_trans (Nat.le_mul_of_pos_right _ Try.bytes12o) h1), fun j hj => ?_⟩
    simp only [if_true] at hm
    obtain ⟨cs, hc, ht⟩ := hx j (by omega)
    rw [Try.cells12o] at hc
    obtain ⟨u0, u1, u2, u3, u4, u5, u6, rfl, hcell⟩ := seven12 hc
    obtain ⟨_, b, o, hb, _⟩ := hO j hj
    have hb' : x0 = ⟨b, o, none⟩ := Option.some.inj hb
    subst hb'
    have k2 := (hO.cells hj).2.2
    have h9 := hcell 2 u2 rfl
    rw [addAt, addAt] at h9
    rw [h9] at k2
    have e2 : u2 = .slice (O j).cm.a (O j).cm.n (O j).cm.c := Option.some.inj k2
    rw [e2] at ht
    refine op_sz ht (fun m' hm' => hz m' ?_)
    rw [DataW.weights, Try.underlying22]
    refine List.mem_cons_of_mem _ (List.mem_append.2 (.inl (mem_all12 (List.mem_map.2 ⟨j, List.mem_range.2 hj, rfl⟩) m' hm')))

end

end Go.Proofs.Ythignkloecfcbaa

/-
  Layer 12's law ChainPrunes.
-/
namespace Go.Proofs.Ythignkloecfcbaa
open Go.RowKit Go.Maps Go.Sort

theorem Ops12.mono {W : World} {I J : Nat → Prop} {a : Option Addr} {len : Nat} {O : Nat → Oc} (h : Ops12 W I a len O) (hJ : ∀ k, I k → J k) : Ops12 W J a len O := fun j hj => by
  obtain ⟨⟨⟨h1, h1a, h1b, h1e⟩, h1c, h1d⟩, b, o, h2, h3, h4, h5⟩ := h j hj
  exact ⟨⟨⟨h1.mono hJ, h1a, h1b, h1e⟩, h1c, h1d⟩, b, o, h2, hJ b h3, h4, h5⟩

/-- A dump's blocks are none of the store's. -/
def DmF (ρ : Nat → Nat) (v : Value) (As : List Ad) : Prop := (∀ k, v.ownBlock = some k → ρ k = 0) ∧ ∀ x ∈ As, ∀ k, (adV x).ownBlock = some k → ρ k = 0

/-- Where ChainPrunes stands: a store, and a dump of it. -/
structure PrS (w wi : World) (p : Nat) (M : Mst) (ρ : Nat → Nat) (v : Value) (As : List Ad) : Prop where
  sto : Sto 6000 w.heap.size wi p M ρ
  old : ∀ k, k < w.heap.size → ρ k = 0
  same : Same w wi
  dm : DmAt w.heap.size wi v As
  off : DmF ρ v As

section
variable {w wi : World} {p : Nat} {M : Mst} {ρ : Nat → Nat} {v : Value} {As : List Ad}

theorem PrS.kept (h : PrS w wi p M ρ v As) {w' : World} (hk : Same wi w') : PrS w w' p M ρ v As :=
  ⟨h.sto.same hk, h.old, h.same.trans hk, h.dm.same hk, h.off⟩
theorem PrS.stb (h : PrS w wi p M ρ v As) : StB w wi p M 6000 := ⟨ρ, h.sto, h.old, h.same⟩

theorem PrS.first {B : Nat} (h1 : Sto 6000 w.heap.size wi p M ρ) (h2 : ∀ k, k < w.heap.size → ρ k = 0) (h3 : Same w wi) {w' : World} (hk : Same wi w') (hB : B = wi.heap.size) (hd : DmAt B w' v As) : PrS w w' p M ρ v As := by
  subst hB
  refine ⟨h1.same hk, h2, h3.trans hk, hd.base h3.size, fun k e => h1.zero (hd.row.ge e), fun x hx k e => h1.zero ((hd.ent x hx).ge e)⟩

theorem PrS.pruned (h : PrS w wi p M ρ v As) {M' : Mst} {w' : World} {ρ' : Nat → Nat} (h1 : Sto 6000 w.heap.size w' p M' ρ' ∧ (∀ k, k < w.heap.size → ρ' k = 0) ∧ Same w w') (h2 : ∀ k, k < wi.heap.size → ρ k = 0 → ρ' k = 0) (h3 : Kept (fun k => ρ k ≠ 0) wi w') : PrS w w' p M' ρ' v As :=
  ⟨h1.1, h1.2.1, h1.2.2, h.dm.kept h3 (fun k e f => f (h.off.1 k e)) (fun x hx k e f => f (h.off.2 x hx k e)), fun k e => h2 k (h.dm.row.lt e) (h.off.1 k e), fun x hx k e => h2 k ((h.dm.ent x hx).lt e) (h.off.2 x hx k e)⟩

end

theorem Sto.totle {K N : Nat} {w : World} {p : Nat} {M : Mst} {ρ : Nat → Nat} (h : Sto K N w p M ρ) {m : Nat} (hm : TotIs M.V m) : m ≤ 1000000000000000 := by
  obtain ⟨s, mb, h1, rfl⟩ := h
  rw [hm.det h1.tot]
  exact tot_le h1

set_option maxRecDepth 100000 in
set_option maxHeartbeats 2000000 in
theorem chainPrunes_all (a : Option Addr) (len cap : Nat) (O : Nat → Oc) (pr at' : Int) (w : World) (ho : Ops12 w (fun k => k < w.heap.size) a len O) (hz : SzOps len O) (_w1 : (Lit.int .i64 pr).wf = true) (_w2 : (Lit.int .i64 at').wf = true) :
    Calls Try.prog 5 #[.slice a len cap, .int .i64 pr, .int .i64 at'] w fun e w' => e = .returned (.bool true) ∧ Below w.heap.size w w' := by
  suffices H : Calls Try.prog 5 #[.slice a len cap, .int .i64 pr, .int .i64 at'] w fun e w' => e = .returned (.bool true) ∧ Same w w' from H.mono (fun e w' h => ⟨h.1, h.2.bel12⟩)
  clear _w1 _w2
  have HO : Hid (Ops12 w (fun k => k < w.heap.size) a len O ∧ SzOps len O) := hid ⟨ho, hz⟩
  clear ho hz
  go_enter Try.func5, Try.ntmps5
  go_wp2_with fail
  refine (clarge_any w _ a len cap O HO.out.1 HO.out.2).mono ?_
  rintro e w1 ⟨r, rfl, hr, hk⟩
  have H1 : Hid (Same w w1) := hid hk
  have HR : Hid (r = false → len + sumW O len ≤ 2000) := hid hr
  clear hk hr
  cases r with
  | true =>
    go_wp2_with fail
    refine (cawake_any w1).mono ?_
    rintro e w2 ⟨rfl, hk⟩
    go_wp2_with fail
    go_ret
    exact ⟨rfl, H1.out.trans hk⟩
  | false =>
    have HL : Hid (len + sumW O len ≤ 2000) := hid (HR.out rfl)
    clear HR
    go_wp2_with fail
    refine (built_any w1 a len cap O ((HO.out.1.kept H1.out (fun _ _ _ f => f)).mono (fun k hk => Nat.lt_of_lt_of_le hk H1.out.size)) (HL.out)).mono ?_
    rintro e w2 ⟨p, M, rfl, ⟨ρ, g1, g2, g3⟩, hM⟩
    have HS : Hid (Sto 6000 w1.heap.size w2 p M ρ ∧ (∀ k, k < w1.heap.size → ρ k = 0) ∧ Same w1 w2 ∧ M.floor = 0) := hid ⟨g1, g2, g3, hM⟩
    have hN := g1.nums
    clear g1 g2 g3 hM
    go_wp2_with fail
    refine (bnow ⟨ρ, HS.out.1, HS.out.2.1, HS.out.2.2.1⟩).mono ?_
    rintro e w3 ⟨rfl, hk3⟩
    have HS3 : Hid (Sto 6000 w1.heap.size w3 p M ρ ∧ (∀ k, k < w1.heap.size → ρ k = 0) ∧ Same w1 w3 ∧ M.floor = 0) := hid ⟨HS.out.1.same hk3, HS.out.2.1, HS.out.2.2.1.trans hk3, HS.out.2.2.2⟩
    clear hk3 HS
    go_wp2_with fail
    refine (bversions ⟨ρ, HS3.out.1, HS3.out.2.1, HS3.out.2.2.1⟩).mono ?_
    rintro e w4 ⟨m, rfl, hm, hk4⟩
    have HT : Hid (TotIs M.V m) := hid hm
    have HS4 : Hid (Sto 6000 w1.heap.size w4 p M ρ ∧ (∀ k, k < w1.heap.size → ρ k = 0) ∧ Same w1 w4 ∧ M.floor = 0) := hid ⟨HS3.out.1.same hk4, HS3.out.2.1, HS3.out.2.2.1.trans hk4, HS3.out.2.2.2⟩
    clear hk4 hm HS3
    go_wp2_with fail
    refine (bdump ⟨ρ, HS4.out.1, HS4.out.2.1, HS4.out.2.2.1⟩ _).mono ?_
    rintro e w5 ⟨⟨v, As, rfl, d1, d2, d3, d4, hk5⟩, _⟩
    have HD := hid d2
    have HP : Hid (PrS w1 w5 p M ρ v As) := hid (PrS.first HS4.out.1 HS4.out.2.1 HS4.out.2.2.1 hk5 rfl d1)
    have HB : Hid (As.length ≤ 100000 ∧ ∀ x ∈ As, x.es.length ≤ 100000) := hid ⟨d3, d4⟩
    have HF := hid HS4.out.2.2.2
    clear d1 d2 d3 d4 hk5 HS4
    go_wp2_with fail
    refine (bprune HP.out.sto HP.out.old HP.out.same pr).mono ?_
    rintro e w6 ⟨k, ρ6, rfl, p1, p2, p3, p4⟩
    have HP6 : Hid (PrS w1 w6 p (prM M pr) ρ6 v As) := hid (HP.out.pruned p1 p2 p3)
    obtain ⟨m', hm1, hm2⟩ := p4 m HT.out
    have HT6 : Hid (TotIs (prM M pr).V m') := hid hm1
    clear p1 p2 p3 p4 hm1
    go_wp2_with fail
    refine (bprune HP6.out.sto HP6.out.old HP6.out.same pr).mono ?_
    rintro e w7 ⟨k2, ρ7, rfl, p1, p2, p3, p4⟩
    have HP7 : Hid (PrS w1 w7 p (prM (prM M pr) pr) ρ7 v As) := hid (HP6.out.pruned p1 p2 p3)
    have hNf : 0 ≤ M.floor ∧ M.floor ≤ M.now := ⟨hN.1, hN.2.1⟩
    have HRs : Hid (∀ b n, RisV (M.V b n)) := hid (fun b n => HP.out.stb.ris b n)
    have hk20 : k2 = 0 := by
      obtain ⟨m2, q1, q2⟩ := p4 m' HT6.out
      rw [prM_twice hNf HRs.out pr] at q1
      have := q1.det HT6.out
      omega
    subst hk20
    have HT7 : Hid (TotIs (prM (prM M pr) pr).V m') := hid (by rw [prM_twice hNf HRs.out pr]; exact HT6.out)
    clear p1 p2 p3 p4
    go_wp2_with fail
    refine (cawake_any w7).mono ?_
    rintro e w8 ⟨rfl, hk8⟩
    have HP8 := hid (HP7.out.kept hk8)
    have hmle := HP.out.sto.totle HT.out
    have c1 : decide ((0 : Int) ≤ (k : Int)) = true := by simp
    have c2 : ((0 : Int) == 0) = true := by simp
    have hF0 : M.floor = 0 := HF.out
    have hfl := prM_floor hNf pr
    have hfl2 := prM_floor (M := prM M pr) (by rw [hfl.1, hfl.2]; omega) pr
    have e1 : (prM (prM M pr) pr).floor = max 0 (min pr M.now) := by rw [hfl2.1, hfl.1, hfl.2, hF0]; omega
    have e2 : (prM (prM M pr) pr).now = M.now := by rw [hfl2.2, hfl.2]
    have HV : Hid (visF (prM (prM M pr) pr).V (max at' (prM (prM M pr) pr).floor) = visF M.V (max (max at' (max 0 (min pr M.now))) M.floor)) := hid (by
      rw [prM_twice hNf HRs.out pr, prM_vis HRs.out pr _ (by rw [e1]; omega), e1, hF0]
      congr 1
      omega)
    have HE2 := hid e2
    have c3 : decide (max 0 (min pr M.now) ≤ M.now) = true := by simp; omega
    have q1 : IntKind.i64.wrap ((m : Int) - (k : Int)) = (m' : Int) := by rw [IntKind.wrap_i64]; omega
    have c4 : ((m' : Int) == (m' : Int)) = true := by simp
    clear hk8 hfl hfl2 e1 e2 hF0 hNf hmle
    go_wp2_with fail
    refine (bversions HP8.out.stb).mono ?_
    rintro e w9 ⟨m9, rfl, hm9, hk9⟩
    obtain rfl : m9 = m' := hm9.det HT7.out
    have HP9 := hid (HP8.out.kept hk9)
    clear hm9 hk9
    go_wp2_with fail
    refine (bdump HP9.out.stb _).mono ?_
    rintro e w10 ⟨⟨v2, As2, rfl, d1, d2, d3, d4, hk10⟩, _⟩
    have HP10 := hid (HP9.out.kept hk10)
    have HD2 : Hid (DmAt w9.heap.size w10 v2 As2 ∧ adD As2 = adD As ∧ As2.length ≤ 100000 ∧ ∀ x ∈ As2, x.es.length ≤ 100000) := hid ⟨d1, by
      rw [HV.out] at d2
      exact d2.det HD.out, d3, d4⟩
    clear d1 d2 d3 d4 hk10
    go_wp2_with fail
    refine (dsame_true w10 _ _ v2 v As2 As HD2.out.1 HP10.out.dm HD2.out.2.1 HD2.out.2.2.1 HD2.out.2.2.2).mono ?_
    rintro e w11 ⟨rfl, hk11⟩
    have HP11 := hid (HP10.out.kept hk11)
    clear hk11
    go_wp2_with fail
    refine (bnow HP11.out.stb).mono ?_
    rintro e w12 ⟨rfl, hk12⟩
    rw [HE2.out]
    go_wp2_with fail
    go_ret
    exact ⟨rfl, H1.out.trans (HP11.out.same.trans hk12)⟩

end Go.Proofs.Ythignkloecfcbaa

/-
  Layer 12's law ChainStays: its mathematics.
-/
namespace Go.Proofs.Ythignkloecfcbaa
open Go.RowKit Go.Maps Go.Sort

theorem streq12 (s t : ByteArray) : (s.toList == t.toList) = decide (s = t) := by
  by_cases h : s = t
  · rw [h]; simp
  · have h2 : ¬ s.toList = t.toList := fun e => h (by
      rw [Lib.toList_data, Lib.toList_data] at e
      cases s; cases t; rw [Array.toList_inj] at e; exact congrArg ByteArray.mk e)
    simp [h, h2]

/-- Versions that rise, none of them later than t. -/
def UpTo (V : Vs) (t : Int) : Prop := ∀ b n, RisV (V b n) ∧ ∀ x ∈ V b n, x.t ≤ t

theorem UpTo.put {V : Vs} {t : Int} (h : UpTo V t) (x : Wr) : UpTo (putF V x t) t := fun b n => by
  unfold putF
  by_cases e : b = x.b ∧ n = x.n
  · rw [if_pos e]
    refine ⟨putV_ris (h b n).1 _, fun y hy => ?_⟩
    rcases putV_mem hy with rfl | ⟨h1, _⟩
    · rw [verOf_t]; exact Int.le_refl _
    · exact (h b n).2 y h1
  · rw [if_neg e]; exact h b n

theorem UpTo.puts {V : Vs} {t : Int} (h : UpTo V t) : ∀ ws : List Wr, UpTo (putsF V ws t) t := fun ws => by
  unfold putsF
  induction ws generalizing V with
  | nil => exact h
  | cons x r ih => exact ih (h.put x)

theorem puts_old {V : Vs} {t : Int} (h : UpTo V t) (ws : List Wr) (b : Bx) (n : Nm) {u : Int} (hu : u < t) : newV (putsF V ws t b n) u = newV (V b n) u := by
  unfold putsF
  induction ws generalizing V with
  | nil => rfl
  | cons x r ih =>
    refine (ih (h.put x)).trans ?_
    unfold putF
    by_cases e : b = x.b ∧ n = x.n
    · rw [if_pos e]
      exact newV_put_old (h b n).1 _ (by rw [verOf_t]; exact (h b n).2) (by rw [verOf_t]; exact hu)
    · rw [if_neg e]

theorem puts_succ (V : Vs) (ws : List Wr) (t : Int) (i : Nat) (hi : i < ws.length) : putsF V (ws.take (i + 1)) t = putF (putsF V (ws.take i) t) ws[i] t := by
  unfold putsF
  rw [List.take_succ_eq_append_getElem hi, List.foldl_append]
  rfl

theorem puts_hit {V : Vs} {t : Int} (h : UpTo V t) (ws : List Wr) (i : Nat) (hi : i < ws.length) : newV (putsF V (ws.take (i + 1)) t ws[i].b ws[i].n) t = verOf ws[i] t := by
  rw [puts_succ V ws t i hi]
  unfold putF
  rw [if_pos ⟨rfl, rfl⟩]
  exact newV_put_new ((h.puts (ws.take i)) _ _).1 _ (by rw [verOf_t]; exact Int.le_refl _)

theorem puts_miss {V : Vs} {t : Int} (ws : List Wr) (i : Nat) (hi : i < ws.length) (b : Bx) (n : Nm) (hne : ¬ (b = ws[i].b ∧ n = ws[i].n)) : putsF V (ws.take (i + 1)) t b n = putsF V (ws.take i) t b n := by
  rw [puts_succ V ws t i hi]
  unfold putF
  rw [if_neg hne]

theorem Sto.upTo {K N : Nat} {w : World} {p : Nat} {M : Mst} {ρ : Nat → Nat} (h : Sto K N w p M ρ) {t : Int} (ht : M.now ≤ t) : UpTo M.V t := fun b n => ⟨(h.vok b n).ris, fun x hx => Int.le_trans ((h.vok b n).low x hx).2 ht⟩

/-- At its time and later: the last. -/
theorem Sto.newLast {K N : Nat} {w : World} {p : Nat} {M : Mst} {ρ : Nat → Nat} (h : Sto K N w p M ρ) (b : Bx) (n : Nm) {t : Int} (ht : M.now ≤ t) : newV (M.V b n) t = newV (M.V b n) M.now := by
  rw [newV_all (h.vok b n).ris (fun x hx => Int.le_trans ((h.vok b n).low x hx).2 ht), newV_all (h.vok b n).ris (fun x hx => ((h.vok b n).low x hx).2)]

/-- Where ChainStays stands: a store, and a dump of it. -/
structure StS (K : Nat) (w wi : World) (p : Nat) (M : Mst) (ρ : Nat → Nat) (v : Value) (As : List Ad) : Prop where
  sto : Sto K w.heap.size wi p M ρ
  old : ∀ k, k < w.heap.size → ρ k = 0
  same : Same w wi
  dm : DmAt w.heap.size wi v As
  off : DmF ρ v As

section
variable {K : Nat} {w wi : World} {p : Nat} {M : Mst} {ρ : Nat → Nat} {v : Value} {As : List Ad}

theorem StS.kept (h : StS K w wi p M ρ v As) {w' : World} (hk : Same wi w') : StS K w w' p M ρ v As :=
  ⟨h.sto.same hk, h.old, h.same.trans hk, h.dm.same hk, h.off⟩
theorem StS.stb (h : StS K w wi p M ρ v As) : StB w wi p M K := ⟨ρ, h.sto, h.old, h.same⟩

theorem StS.first (h1 : Sto K w.heap.size wi p M ρ) (h2 : ∀ k, k < w.heap.size → ρ k = 0) (h3 : Same w wi) {w' : World} (hk : Same wi w') (hd : DmAt wi.heap.size w' v As) : StS K w w' p M ρ v As :=
  ⟨h1.same hk, h2, h3.trans hk, hd.base h3.size, fun _ e => h1.zero (hd.row.ge e), fun x hx _ e => h1.zero ((hd.ent x hx).ge e)⟩

theorem sput (h : StS K w wi p M ρ v As) (x : Cm) (hx : CmOk wi (fun k => k < w.heap.size) x) (hK : K + 3 * x.n ≤ 100000) :
    Calls Try.prog 16 #[.pointer (some ⟨p, 0, none⟩), .agg #[.int .i64 x.t, .slice x.a x.n x.c]] wi fun e w' => (e = .returned (.int .i64 120) ∧ x.t ≤ M.now ∧ StS K w w' p M ρ v As) ∨ (e = .returned (.int .i64 0) ∧ M.now < x.t ∧ ∃ ρ', StS (K + 3 * x.n) w w' p (putM M x.t x.ws) ρ' v As) := by
  by_cases ht : x.t ≤ M.now
  · refine (xput_old h.sto x.t ht x.a x.n x.c).mono ?_
    rintro e w' ⟨rfl, hk⟩
    exact .inl ⟨rfl, ht, h.kept hk⟩
  · have hl := hx.len
    refine (xput_new h.sto h.same.size x.t (by omega) hx.num.2 x.ws _ (fun k => k < w.heap.size) hx.src h.old (by rw [hl]; exact hK)).mono ?_
    rintro e w' ⟨rfl, ρ', g1, g2, g3⟩
    rw [hl] at g1
    exact .inr ⟨rfl, by omega, ρ', g1, fun k hk => g2.zero (Nat.lt_of_lt_of_le hk h.same.size) (h.old k hk), Kept.trans h.same g3 (fun _ _ f => f) (fun k hk e => e (h.old k hk)), h.dm.kept g3 (fun k e f => f (h.off.1 k e)) (fun x hx k e f => f (h.off.2 x hx k e)), fun k e => g2.zero (h.dm.row.lt e) (h.off.1 k e), fun x hx k e => g2.zero ((h.dm.ent x hx).lt e) (h.off.2 x hx k e)⟩

end

theorem bget {w w1 : World} {p K : Nat} {M : Mst} (h : StB w w1 p M K) (b : Bx) (n : Nm) (t : Int) : Calls Try.prog 14 #[.pointer (some ⟨p, 0, none⟩), .agg #[.string b.tn, .string b.ar, .string n.s], .int .i64 t] w1 fun e w' => e = .returned (.tuple #[.string (newV (M.V b n) (max t M.floor)).data, .bool (newV (M.V b n) (max t M.floor)).there]) ∧ Same w1 w' := by
  obtain ⟨ρ, h1, h2, h3⟩ := h
  exact xget h1 b n t

end Go.Proofs.Ythignkloecfcbaa

/-
  Layer 12, the reference: a list of versions; the newest one.
-/
namespace Go.Proofs.Ythignkloecfcbaa
open Go.RowKit Go.Maps Go.Sort

/-- A version of an entry. -/
structure Lv where
  b : Bx
  n : Nm
  v : Ver

instance : Inhabited Lv := ⟨⟨default, default, ver0⟩⟩

def lvE (x : Lv) : List Value := [.string x.b.tn, .string x.b.ar, .string x.n.s, .int .i64 x.v.t, .bool x.v.there, .string x.v.data]
theorem lvE_ok : EncOk lvE 6 := ⟨fun _ => rfl, fun x u hu => by simp [lvE] at hu; rcases hu with rfl | rfl | rfl | rfl | rfl | rfl <;> rfl, by decide⟩

/-- Is it one of this entry? -/
def isK (b : Bx) (n : Nm) (x : Lv) : Bool := decide (x.b = b ∧ x.n = n)

/-- The versions of an entry. -/
def ofK (L : List Lv) (b : Bx) (n : Nm) : List Ver := (L.filter (isK b n)).map (·.v)

/-- The reference's store in memory. -/
structure Rc (N : Nat) (w : World) (p : Nat) (L : List Lv) (now floor : Int) (v : Value) : Prop where
  blk : Blk w p #[v, .int .i64 now, .int .i64 floor] 30
  row : RowC N 93 6 lvE w v L
  np : N ≤ p
  len : L.length ≤ 100000

theorem Rc.same {N : Nat} {w w' : World} {p : Nat} {L : List Lv} {now floor : Int} {v : Value} (h : Rc N w p L now floor v) (hk : Same w w') : Rc N w' p L now floor v :=
  { h with blk := h.blk.kept hk (fun f => f), row := h.row.kept hk (fun _ _ f => f) }

/-- What newest tells of the first versions. -/
def NwI (L : List Lv) (b : Bx) (n : Nm) (t : Int) (i : Nat) (r : Int) : Prop :=
  (r = -1 ∧ ∀ j (_ : j < i) (hj : j < L.length), isK b n L[j] = true → ¬ L[j].v.t ≤ t) ∨
  (∃ k, ∃ hk : k < L.length, k < i ∧ r = (k : Int) ∧ isK b n L[k] = true ∧ L[k].v.t ≤ t ∧ ∀ j (_ : j < i) (hj : j < L.length), isK b n L[j] = true → L[j].v.t ≤ t → L[j].v.t ≤ L[k].v.t)

def NwR (L : List Lv) (b : Bx) (n : Nm) (t : Int) (r : Int) : Prop := NwI L b n t L.length r

theorem four12 (q1 q2 q3 : Bool) : (q1 = false ∨ (q1 = true ∧ q2 = false) ∨ (q1 = true ∧ q2 = true ∧ q3 = false)) ∨ (q1 = true ∧ q2 = true ∧ q3 = true) := by cases q1 <;> cases q2 <;> cases q3 <;> simp

theorem NwI.skip {L : List Lv} {b : Bx} {n : Nm} {t : Int} {i : Nat} {r : Int} (h : NwI L b n t i r) (hi : i < L.length) (hn : isK b n L[i] = true → ¬ L[i].v.t ≤ t) : NwI L b n t (i + 1) r := by
  rcases h with ⟨h1, h2⟩ | ⟨k, hk, h0, h1, h2, h3, h4⟩
  · refine .inl ⟨h1, fun j hj hj2 => ?_⟩
    rcases Nat.lt_or_ge j i with e | e
    · exact h2 j e hj2
    · obtain rfl : j = i := by omega
      exact hn
  · refine .inr ⟨k, hk, by omega, h1, h2, h3, fun j hj hj2 e1 e2 => ?_⟩
    rcases Nat.lt_or_ge j i with e | e
    · exact h4 j e hj2 e1 e2
    · obtain rfl : j = i := by omega
      exact absurd e2 (hn e1)

theorem NwI.first {L : List Lv} {b : Bx} {n : Nm} {t : Int} {i : Nat} (h : NwI L b n t i (-1)) (hi : i < L.length) (h1 : isK b n L[i] = true) (h2 : L[i].v.t ≤ t) : NwI L b n t (i + 1) (i : Int) := by
  rcases h with ⟨_, h3⟩ | ⟨k, _, _, e, _⟩
  · refine .inr ⟨i, hi, by omega, rfl, h1, h2, fun j hj hj2 e1 e2 => ?_⟩
    rcases Nat.lt_or_ge j i with e | e
    · exact absurd e2 (h3 j e hj2 e1)
    · obtain rfl : j = i := by omega
      exact Int.le_refl _
  · omega

theorem NwI.better {L : List Lv} {b : Bx} {n : Nm} {t : Int} {i k : Nat} (h : NwI L b n t i (k : Int)) (hi : i < L.length) (hk : k < L.length) (h1 : isK b n L[i] = true) (h2 : L[i].v.t ≤ t) (hb : L[k].v.t < L[i].v.t) : NwI L b n t (i + 1) (i : Int) := by
  rcases h with ⟨e, _⟩ | ⟨k', hk', h0, e, g2, g3, g4⟩
  · omega
  · obtain rfl : k = k' := by omega
    refine .inr ⟨i, hi, by omega, rfl, h1, h2, fun j hj hj2 e1 e2 => ?_⟩
    rcases Nat.lt_or_ge j i with e | e
    · have := g4 j e hj2 e1 e2; omega
    · obtain rfl : j = i := by omega
      exact Int.le_refl _

theorem NwI.keep {L : List Lv} {b : Bx} {n : Nm} {t : Int} {i k : Nat} (h : NwI L b n t i (k : Int)) (hk : k < L.length) (hi : i < L.length) (hb : ¬ L[k].v.t < L[i].v.t) : NwI L b n t (i + 1) (k : Int) := by
  rcases h with ⟨e, _⟩ | ⟨k', hk', h0, e, g2, g3, g4⟩
  · omega
  · obtain rfl : k = k' := by omega
    refine .inr ⟨k, hk, by omega, rfl, g2, g3, fun j hj hj2 e1 e2 => ?_⟩
    rcases Nat.lt_or_ge j i with e | e
    · exact g4 j e hj2 e1 e2
    · obtain rfl : j = i := by omega
      omega

set_option maxRecDepth 100000 in
set_option maxHeartbeats 4000000 in
theorem rnewest_any {N : Nat} {w : World} {p : Nat} {L : List Lv} {now floor : Int} {v : Value} (h : Rc N w p L now floor v) (b : Bx) (n : Nm) (t : Int) : Calls Try.prog 43 #[.pointer (some ⟨p, 0, none⟩), .agg #[.string b.tn, .string b.ar, .string n.s], .int .i64 t] w fun e w' => ∃ r, e = .returned (.int .i64 r) ∧ NwR L b n (max t floor) r ∧ Same w w' := by
  obtain ⟨wA, hwA⟩ : ∃ W, W = w.alloc (.cells #[.string b.tn, .string b.ar, .string n.s] 36) := ⟨_, rfl⟩
  obtain ⟨xb, hxb⟩ : ∃ y, y = w.heap.size := ⟨_, rfl⟩
  have hka : Same w wA := by rw [hwA]; exact (Kept.refl _ w).alloc _
  have B1 : Blk wA xb #[.string b.tn, .string b.ar, .string n.s] 36 := by rw [hwA, hxb]; exact Blk.new w _ _
  obtain ⟨a, c, hv, hg, _⟩ := h.row.shape
  obtain ⟨l, hl⟩ : ∃ n, n = L.length := ⟨_, rfl⟩
  rw [← hl] at hv
  subst hv
  obtain ⟨T, hT⟩ : ∃ T, T = max t floor := ⟨_, rfl⟩
  have HC : Hid (∀ w', Same wA w' → w'.cell? ⟨xb, 0, none⟩ = some (.string b.tn) ∧ w'.cell? ⟨xb, 1, none⟩ = some (.string b.ar) ∧ w'.cell? ⟨xb, 2, none⟩ = some (.string n.s) ∧ w'.cell? ⟨p, 0, none⟩ = some (.slice a l c) ∧ w'.cell? ⟨p, 2, none⟩ = some (.int .i64 floor)) := hid (fun w' hk => by
    have h1 := B1.kept hk (fun f => f)
    have h2 := (h.same (hka.trans hk)).blk
    exact ⟨h1.cell 0, h1.cell 1, h1.cell 2, h2.cell 0, h2.cell 2⟩)
  have HR : Hid (∀ w', Same wA w' → RowC N 93 6 lvE w' (.slice a l c) L) := hid (fun w' hk => (h.same (hka.trans hk)).row)
  have HG : Hid ((L ≠ [] → ∃ g, a = some ⟨g, 0, none⟩) ∧ l = L.length ∧ l ≤ 100000) := hid ⟨hg, hl, by rw [hl]; exact h.len⟩
  have HK : Hid (Same w wA) := hka
  have HTT : Hid (T = max t floor) := hT
  obtain ⟨c0, c1, c2, p0, p2⟩ := HC.out wA (Kept.refl _ _)
  rw [hwA] at p0 p2
  clear h hka B1 hg hl c0 c1 c2
  go_enter Try.func43, Try.ntmps43
  go_wp2_with fail
  rw [← hwA, ← hxb, ← hT]
  clear hwA hxb p0 p2 hT
  go_loopg [7, 8] l (fun q z7 z8 wr => ∃ (i : Nat) (r : Int), l - i ≤ q ∧ i ≤ l ∧ z7 = .int .i64 r ∧ z8 = .int .i64 (i : Nat) ∧ Hid (NwI L b n T i r) ∧ Hid (Same wA wr))
  case atStart => exact ⟨0, -1, by omega, by omega, rfl, rfl, hid (.inl ⟨rfl, fun j hj => by omega⟩), hid (Kept.refl _ _)⟩
  case round =>
    obtain ⟨i, r, hq, hil, rfl, rfl, HF, HS⟩ := hrel
    obtain ⟨b0, b1, b2, p0, p2⟩ := HC.out wr HS.out
    by_cases hlt : i < l
    · have hli : decide (i < l) = true := decide_eq_true hlt
      have hli2 : (i : Int) < (l : Int) := by omega
      have hlt2 : i < L.length := by have := HG.out.2.1; omega
      obtain ⟨g, hg⟩ := HG.out.1 (fun e => by rw [e] at hlt2; simp at hlt2)
      subst hg
      obtain ⟨y, hy⟩ : ∃ y, y = L[i] := ⟨_, rfl⟩
      have hcw : ∀ q u, q < 6 → (lvE y)[q]? = some u → wr.cell? ⟨g, i * 6 + q, none⟩ = some u := fun q u hq e => by rw [RowC.cell lvE_ok (HR.out wr HS.out) i q hlt2 hq, ← hy, e]
      have k0 := hcw 0 (.string y.b.tn) (by decide) rfl
      have k1 := hcw 1 (.string y.b.ar) (by decide) rfl
      have k2 := hcw 2 (.string y.n.s) (by decide) rfl
      have k3 := hcw 3 (.int .i64 y.v.t) (by decide) rfl
      rw [Nat.add_zero] at k0
      have hiw : IntKind.i64.wrap ((i : Int) + 1) = ((i + 1 : Nat) : Int) := by have := HG.out.2.2; rw [IntKind.wrap_i64]; omega
      have s1 := streq12 y.b.tn b.tn
      have s2 := streq12 y.b.ar b.ar
      have s3 := streq12 y.n.s n.s
      have HY : Hid (y = L[i]) := hy
      clear hcw hy
      by_cases hm : y.b.tn = b.tn ∧ y.b.ar = b.ar ∧ y.n.s = n.s
      · obtain ⟨m1, m2, m3⟩ := hm
        have HM : Hid (isK b n L[i] = true) := hid (by rw [← HY.out]; exact decide_eq_true ⟨Bx.ext' m1 m2, Nm.ext' m3⟩)
        rw [decide_eq_true m1] at s1
        rw [decide_eq_true m2] at s2
        rw [decide_eq_true m3] at s3
        clear m1 m2 m3
        by_cases ht : y.v.t ≤ T
        · have h1 : decide (y.v.t ≤ T) = true := decide_eq_true ht
          have HTL : Hid (L[i].v.t ≤ T) := hid (by rw [← HY.out]; exact ht)
          clear ht
          rcases HF.out with ⟨hr, _⟩ | ⟨k, hk, hki, hr, _⟩
          · subst hr
            have HN : Hid (NwI L b n T (i + 1) (i : Int)) := hid (HF.out.first hlt2 HM.out HTL.out)
            have h2 : decide ((-1 : Int) < 0) = true := by decide
            clear HF
            go_wp2_with fail
            go_quiet (fail)
            all_goals go_wp2_with fail
            all_goals go_roundg (gk - 1)
            all_goals first
              | (case measure => omega)
              | skip
            all_goals exact ⟨i + 1, _, by omega, by omega, by go_num, by go_num, HN, hid (HS.out.drewN _)⟩
          · subst hr
            obtain ⟨z, hz⟩ : ∃ z, z = L[k] := ⟨_, rfl⟩
            have j3 : wr.cell? ⟨g, k * 6 + 3, none⟩ = some (.int .i64 z.v.t) := by rw [RowC.cell lvE_ok (HR.out wr HS.out) k 3 hk (by decide), ← hz]; rfl
            have h2 : decide ((k : Int) < 0) = false := decide_eq_false (by omega)
            have hkb : (k : Int) < (l : Int) := by omega
            by_cases hb : z.v.t < y.v.t
            · have h3 : decide (z.v.t < y.v.t) = true := decide_eq_true hb
              have HN : Hid (NwI L b n T (i + 1) (i : Int)) := hid (HF.out.better hlt2 hk HM.out HTL.out (by rw [← HY.out, ← hz]; exact hb))
              clear HF hb hz hki
              go_wp2_with fail
              go_quiet (fail)
              all_goals go_wp2_with fail
              all_goals go_roundg (gk - 1)
              all_goals first
                | (case measure => omega)
                | skip
              all_goals exact ⟨i + 1, _, by omega, by omega, by go_num, by go_num, HN, hid (HS.out.drewN _)⟩
            · have h3 : decide (z.v.t < y.v.t) = false := decide_eq_false hb
              have HN : Hid (NwI L b n T (i + 1) (k : Int)) := hid (HF.out.keep hk hlt2 (by rw [← HY.out, ← hz]; exact hb))
              clear HF hb hz hki
              go_wp2_with fail
              go_quiet (fail)
              all_goals go_wp2_with fail
              all_goals go_roundg (gk - 1)
              all_goals first
                | (case measure => omega)
                | skip
              all_goals exact ⟨i + 1, _, by omega, by omega, by go_num, by go_num, HN, hid (HS.out.drewN _)⟩
        · have h1 : decide (y.v.t ≤ T) = false := decide_eq_false ht
          have HN : Hid (NwI L b n T (i + 1) r) := hid (HF.out.skip hlt2 (fun _ => by rw [← HY.out]; exact ht))
          clear HF ht
          go_wp2_with fail
          go_quiet (fail)
          all_goals go_wp2_with fail
          all_goals go_roundg (gk - 1)
          all_goals first
            | (case measure => omega)
            | skip
          all_goals exact ⟨i + 1, r, by omega, by omega, by go_num, by go_num, HN, hid (HS.out.drewN _)⟩
      · have HN : Hid (NwI L b n T (i + 1) r) := hid (HF.out.skip hlt2 (fun e => absurd (of_decide_eq_true e) (fun e2 => hm (by rw [HY.out, e2.1, e2.2]; exact ⟨rfl, rfl, rfl⟩))))
        obtain ⟨d1, e1⟩ : ∃ q, q = decide (y.b.tn = b.tn) := ⟨_, rfl⟩
        obtain ⟨d2, e2⟩ : ∃ q, q = decide (y.b.ar = b.ar) := ⟨_, rfl⟩
        obtain ⟨d3, e3⟩ : ∃ q, q = decide (y.n.s = n.s) := ⟨_, rfl⟩
        rw [← e1] at s1
        rw [← e2] at s2
        rw [← e3] at s3
        have hd : ¬ (d1 = true ∧ d2 = true ∧ d3 = true) := fun e => hm ⟨of_decide_eq_true (e1.symm.trans e.1), of_decide_eq_true (e2.symm.trans e.2.1), of_decide_eq_true (e3.symm.trans e.2.2)⟩
        have hf := (four12 d1 d2 d3).resolve_right hd
        clear e1 e2 e3 hm hd HF
        rcases hf with rfl | ⟨rfl, rfl⟩ | ⟨rfl, rfl, rfl⟩
        all_goals
          go_wp2_with fail
          go_quiet (fail)
          all_goals go_wp2_with fail
          all_goals go_roundg (gk - 1)
          all_goals first
            | (case measure => omega)
            | skip
          all_goals exact ⟨i + 1, r, by omega, by omega, by go_num, by go_num, HN, hid (HS.out.drewN _)⟩
    · have hli : decide (i < l) = false := decide_eq_false hlt
      obtain rfl : i = l := by omega
      go_wp2_with fail
      go_ret
      exact ⟨r, rfl, by unfold NwR; rw [← HG.out.2.1, ← HTT.out]; exact HF.out, HK.out.trans HS.out⟩

end Go.Proofs.Ythignkloecfcbaa

/-
  Layer 12, the reference: Get and Last.
-/
namespace Go.Proofs.Ythignkloecfcbaa
open Go.RowKit Go.Maps Go.Sort

theorem newV_max {l : List Ver} (h : RisV l) {t : Int} {v : Ver} (hm : v ∈ l) (ht : v.t ≤ t) (hx : ∀ x ∈ l, x.t ≤ t → x.t ≤ v.t) : newV l t = v := by
  rw [newV_filter h]
  obtain ⟨F, hF⟩ : ∃ F, F = l.filter (fun v => decide (v.t ≤ t)) := ⟨_, rfl⟩
  have hr : RisV F := by rw [hF]; exact filter_ris h _
  have hv : v ∈ F := by rw [hF]; exact List.mem_filter.2 ⟨hm, decide_eq_true ht⟩
  rw [← hF]
  have hne : F ≠ [] := fun e => by rw [e] at hv; cases hv
  rw [List.getLast?_eq_some_getLast hne]
  obtain ⟨z, hz⟩ : ∃ z, z = F.getLast hne := ⟨_, rfl⟩
  rw [← hz]
  show z = v
  have hzm : z ∈ l.filter (fun v => decide (v.t ≤ t)) := by rw [← hF, hz]; exact List.getLast_mem hne
  obtain ⟨hz1, hz2⟩ := List.mem_filter.1 hzm
  have h1 := hx z hz1 (of_decide_eq_true hz2)
  have hs : F = F.dropLast ++ [z] := by rw [hz]; exact (List.dropLast_concat_getLast hne).symm
  unfold RisV at hr
  rw [hs] at hv hr
  rcases List.mem_append.1 hv with e | e
  · have := (List.pairwise_append.1 hr).2.2 v e z (List.mem_singleton.2 rfl)
    omega
  · exact (List.mem_singleton.1 e).symm

theorem newV_none {l : List Ver} (h : RisV l) {t : Int} (hx : ∀ x ∈ l, ¬ x.t ≤ t) : newV l t = ver0 := by
  rw [newV_filter h, List.filter_eq_nil_iff.2 (fun x hm => by simpa using hx x hm)]
  rfl

theorem mem_ofK {L : List Lv} {b : Bx} {n : Nm} {v : Ver} : v ∈ ofK L b n ↔ ∃ j, ∃ hj : j < L.length, isK b n L[j] = true ∧ L[j].v = v := by
  unfold ofK
  rw [List.mem_map]
  constructor
  · rintro ⟨x, hx, rfl⟩
    obtain ⟨h1, h2⟩ := List.mem_filter.1 hx
    obtain ⟨j, hj, rfl⟩ := List.getElem_of_mem h1
    exact ⟨j, hj, h2, rfl⟩
  · rintro ⟨j, hj, h1, rfl⟩
    exact ⟨L[j], List.mem_filter.2 ⟨List.getElem_mem hj, h1⟩, rfl⟩

theorem NwR.new {L : List Lv} {b : Bx} {n : Nm} {t r : Int} (hr : RisV (ofK L b n)) (h : NwR L b n t r) : (r = -1 ∧ newV (ofK L b n) t = ver0) ∨ ∃ k, ∃ hk : k < L.length, r = (k : Int) ∧ newV (ofK L b n) t = L[k].v := by
  rcases h with ⟨h1, h2⟩ | ⟨k, hk, _, h1, h2, h3, h4⟩
  · refine .inl ⟨h1, newV_none hr (fun x hx => ?_)⟩
    obtain ⟨j, hj, e1, rfl⟩ := mem_ofK.1 hx
    exact h2 j hj hj e1
  · refine .inr ⟨k, hk, h1, newV_max hr (mem_ofK.2 ⟨k, hk, h2, rfl⟩) h3 (fun x hx e => ?_)⟩
    obtain ⟨j, hj, e1, rfl⟩ := mem_ofK.1 hx
    exact h4 j hj hj e1 e

set_option maxRecDepth 100000 in
set_option maxHeartbeats 2000000 in
theorem rget_any {N : Nat} {w : World} {p : Nat} {L : List Lv} {now floor : Int} {v : Value} (h : Rc N w p L now floor v) (b : Bx) (n : Nm) (t : Int) (hr : RisV (ofK L b n)) (hg : ∀ x ∈ ofK L b n, x.there = false → x.data = ⟨#[]⟩) : Calls Try.prog 27 #[.pointer (some ⟨p, 0, none⟩), .agg #[.string b.tn, .string b.ar, .string n.s], .int .i64 t] w fun e w' => e = .returned (getA (ofK L b n) (max t floor)) ∧ Same w w' := by
  obtain ⟨wA, hwA⟩ : ∃ W, W = w.alloc (.cells #[.string b.tn, .string b.ar, .string n.s] 36) := ⟨_, rfl⟩
  obtain ⟨xb, hxb⟩ : ∃ y, y = w.heap.size := ⟨_, rfl⟩
  have hka : Same w wA := by rw [hwA]; exact (Kept.refl _ w).alloc _
  have B1 : Blk wA xb #[.string b.tn, .string b.ar, .string n.s] 36 := by rw [hwA, hxb]; exact Blk.new w _ _
  obtain ⟨a, c, hv, hgs, _⟩ := h.row.shape
  obtain ⟨l, hl⟩ : ∃ n, n = L.length := ⟨_, rfl⟩
  rw [← hl] at hv
  subst hv
  have b0 := B1.cell 0
  have b1 := B1.cell 1
  have b2 := B1.cell 2
  have HR : Hid (∀ w', Same wA w' → Rc N w' p L now floor (.slice a l c)) := hid (fun w' hk => h.same (hka.trans hk))
  have HG : Hid ((L ≠ [] → ∃ g, a = some ⟨g, 0, none⟩) ∧ l = L.length ∧ RisV (ofK L b n) ∧ (∀ x ∈ ofK L b n, x.there = false → x.data = ⟨#[]⟩)) := hid ⟨hgs, hl, hr, hg⟩
  have HK : Hid (Same w wA) := hka
  obtain ⟨R, hR⟩ : ∃ R, R = newV (ofK L b n) (max t floor) := ⟨_, rfl⟩
  unfold getA
  rw [← hR]
  have HNW := rnewest_any (HR.out wA (Kept.refl _ _)) b n t
  rw [hwA] at b0 b1 b2
  clear h hka B1 hgs hl hr hg
  go_enter Try.func27, Try.ntmps27
  go_wp2_with fail
  rw [← hwA]
  clear hwA hxb b0 b1 b2
  refine HNW.mono ?_
  rintro e w1 ⟨r, rfl, hnw, hk1⟩
  have HK1 : Hid (Same w w1) := hid (HK.out.trans hk1)
  have hst := HR.out w1 hk1
  have p0 : w1.cell? ⟨p, 0, none⟩ = some (.slice a l c) := hst.blk.cell 0
  have hn9 := NwR.new HG.out.2.2.1 hnw
  rw [← hR] at hn9
  clear HNW hk1 hR
  rcases hn9 with ⟨hr1, e9⟩ | ⟨k, hk, hr1, e9⟩
  · subst hr1
    have HE : Hid (R = ver0) := e9
    have h2 : decide ((-1 : Int) < 0) = true := by decide
    clear hst e9 hnw
    go_wp2_with fail
    go_ret2
    exact ⟨by rw [HE.out]; rfl, HK1.out⟩
  · subst hr1
    have h2 : decide ((k : Int) < 0) = false := decide_eq_false (by omega)
    have hkb : (k : Int) < (l : Int) := by have := HG.out.2.1; omega
    obtain ⟨g, hg⟩ := HG.out.1 (fun e => by rw [e] at hk; simp at hk)
    subst hg
    have hgn : R.there = false → R.data = ⟨#[]⟩ := fun e => by
      rcases hnw with ⟨h1, _⟩ | ⟨k', hk', _, h1, h3, _, _⟩
      · omega
      · obtain rfl : k = k' := by omega
        rw [e9] at e ⊢
        exact HG.out.2.2.2 _ (mem_ofK.2 ⟨k, hk, h3, rfl⟩) e
    have k4 : w1.cell? ⟨g, k * 6 + 4, none⟩ = some (.bool R.there) := by rw [RowC.cell lvE_ok hst.row k 4 hk (by decide), e9]; rfl
    have k5 : w1.cell? ⟨g, k * 6 + 5, none⟩ = some (.string R.data) := by rw [RowC.cell lvE_ok hst.row k 5 hk (by decide), e9]; rfl
    clear hst e9 hnw hk
    obtain ⟨rt, rth, rd⟩ := R
    cases rth with
    | true =>
      clear hgn
      go_wp2_with fail
      go_ret2
      exact ⟨rfl, HK1.out⟩
    | false =>
      have HD : Hid (rd = ⟨#[]⟩) := hid (hgn rfl)
      clear hgn
      go_wp2_with fail
      go_ret2
      exact ⟨by have h9 := HD.out; subst h9; rfl, HK1.out⟩

/-- The latest time of the first versions of an entry. -/
def lasK (L : List Lv) (b : Bx) (n : Nm) : Int := ((L.filter (isK b n)).map (·.v.t)).foldl max 0

theorem lasK_succ (L : List Lv) (b : Bx) (n : Nm) (i : Nat) (hi : i < L.length) : lasK (L.take (i + 1)) b n = if isK b n L[i] = true then max (lasK (L.take i) b n) L[i].v.t else lasK (L.take i) b n := by
  unfold lasK
  rw [List.take_succ_eq_append_getElem hi, List.filter_append, List.map_append, List.foldl_append]
  by_cases e : isK b n L[i] = true
  · rw [if_pos e, List.filter_cons, if_pos e]; rfl
  · rw [if_neg e, List.filter_cons, if_neg e]; rfl

theorem foldl_max_le : ∀ (l : List Int) (a : Int), a ≤ l.foldl max a ∧ (∀ x ∈ l, x ≤ l.foldl max a) ∧ (l.foldl max a = a ∨ l.foldl max a ∈ l)
  | [], a => ⟨Int.le_refl _, fun _ h => (by cases h), .inl rfl⟩
  | x :: r, a => by
    obtain ⟨h1, h2, h3⟩ := foldl_max_le r (max a x)
    rw [List.foldl_cons]
    refine ⟨by omega, fun y hy => ?_, ?_⟩
    · rcases List.mem_cons.1 hy with rfl | e
      · omega
      · exact h2 y e
    · rcases h3 with e | e
      · rw [e]
        by_cases hx : x ≤ a
        · exact .inl (by omega)
        · exact .inr (by rw [show max a x = x by omega]; exact List.mem_cons_self)
      · exact .inr (List.mem_cons_of_mem _ e)

theorem lasK_is {L : List Lv} {b : Bx} {n : Nm} {now : Int} (hr : RisV (ofK L b n)) (hl : ∀ x ∈ ofK L b n, 1 ≤ x.t ∧ x.t ≤ now) : lasK L b n = (newV (ofK L b n) now).t := by
  obtain ⟨h1, h2, h3⟩ := foldl_max_le ((ofK L b n).map (·.t)) 0
  have e0 : lasK L b n = ((ofK L b n).map (·.t)).foldl max 0 := by unfold lasK ofK; rw [List.map_map]; rfl
  rw [e0]
  rcases h3 with e | e
  · rw [newV_none hr (fun x hx => by have := h2 x.t (List.mem_map.2 ⟨x, hx, rfl⟩); have := hl x hx; omega), e]; rfl
  · obtain ⟨x, hx, e1⟩ := List.mem_map.1 e
    rw [newV_max hr hx (hl x hx).2 (fun y hy _ => by have := h2 y.t (List.mem_map.2 ⟨y, hy, rfl⟩); rw [← e1] at this; exact this), e1]

set_option maxRecDepth 100000 in
set_option maxHeartbeats 4000000 in
theorem rlast_any {N : Nat} {w : World} {p : Nat} {L : List Lv} {now floor : Int} {v : Value} (h : Rc N w p L now floor v) (b : Bx) (n : Nm) : Calls Try.prog 29 #[.pointer (some ⟨p, 0, none⟩), .agg #[.string b.tn, .string b.ar, .string n.s]] w fun e w' => e = .returned (.int .i64 (lasK L b n)) ∧ Same w w' := by
  obtain ⟨wA, hwA⟩ : ∃ W, W = w.alloc (.cells #[.string b.tn, .string b.ar, .string n.s] 36) := ⟨_, rfl⟩
  obtain ⟨xb, hxb⟩ : ∃ y, y = w.heap.size := ⟨_, rfl⟩
  have hka : Same w wA := by rw [hwA]; exact (Kept.refl _ w).alloc _
  have B1 : Blk wA xb #[.string b.tn, .string b.ar, .string n.s] 36 := by rw [hwA, hxb]; exact Blk.new w _ _
  obtain ⟨a, c, hv, hg, _⟩ := h.row.shape
  obtain ⟨l, hl⟩ : ∃ n, n = L.length := ⟨_, rfl⟩
  rw [← hl] at hv
  subst hv
  have HC : Hid (∀ w', Same wA w' → w'.cell? ⟨xb, 0, none⟩ = some (.string b.tn) ∧ w'.cell? ⟨xb, 1, none⟩ = some (.string b.ar) ∧ w'.cell? ⟨xb, 2, none⟩ = some (.string n.s) ∧ w'.cell? ⟨p, 0, none⟩ = some (.slice a l c)) := hid (fun w' hk => by
    have h1 := B1.kept hk (fun f => f)
    have h2 := (h.same (hka.trans hk)).blk
    exact ⟨h1.cell 0, h1.cell 1, h1.cell 2, h2.cell 0⟩)
  have HR : Hid (∀ w', Same wA w' → RowC N 93 6 lvE w' (.slice a l c) L) := hid (fun w' hk => (h.same (hka.trans hk)).row)
  have HG : Hid ((L ≠ [] → ∃ g, a = some ⟨g, 0, none⟩) ∧ l = L.length ∧ l ≤ 100000) := hid ⟨hg, hl, by rw [hl]; exact h.len⟩
  have HK : Hid (Same w wA) := hka
  clear h hka B1 hg hl
  go_enter Try.func29, Try.ntmps29
  go_wp2_with fail
  rw [← hwA, ← hxb]
  clear hwA hxb
  go_loopg [5, 6] l (fun q z5 z6 wr => ∃ (i : Nat) (r : Int), l - i ≤ q ∧ i ≤ l ∧ z5 = .int .i64 r ∧ z6 = .int .i64 (i : Nat) ∧ Hid (r = lasK (L.take i) b n) ∧ Hid (Same wA wr))
  case atStart => exact ⟨0, 0, by omega, by omega, rfl, rfl, hid rfl, hid (Kept.refl _ _)⟩
  case round =>
    obtain ⟨i, r, hq, hil, rfl, rfl, HF, HS⟩ := hrel
    obtain ⟨b0, b1, b2, p0⟩ := HC.out wr HS.out
    by_cases hlt : i < l
    · have hli : decide (i < l) = true := decide_eq_true hlt
      have hli2 : (i : Int) < (l : Int) := by omega
      have hlt2 : i < L.length := by have := HG.out.2.1; omega
      obtain ⟨g, hg⟩ := HG.out.1 (fun e => by rw [e] at hlt2; simp at hlt2)
      subst hg
      obtain ⟨y, hy⟩ : ∃ y, y = L[i] := ⟨_, rfl⟩
      have hcw : ∀ w', Same wA w' → ∀ q u, q < 6 → (lvE y)[q]? = some u → w'.cell? ⟨g, i * 6 + q, none⟩ = some u := fun w' hk q u hq e => by rw [RowC.cell lvE_ok (HR.out w' hk) i q hlt2 hq, ← hy, e]
      have k0 := hcw wr HS.out 0 (.string y.b.tn) (by decide) rfl
      have k1 := hcw wr HS.out 1 (.string y.b.ar) (by decide) rfl
      have k2 := hcw wr HS.out 2 (.string y.n.s) (by decide) rfl
      have k3 := hcw wr HS.out 3 (.int .i64 y.v.t) (by decide) rfl
      rw [Nat.add_zero] at k0
      have hiw : IntKind.i64.wrap ((i : Int) + 1) = ((i + 1 : Nat) : Int) := by have := HG.out.2.2; rw [IntKind.wrap_i64]; omega
      have s1 := streq12 y.b.tn b.tn
      have s2 := streq12 y.b.ar b.ar
      have s3 := streq12 y.n.s n.s
      have HSU := hid (lasK_succ L b n i hlt2)
      rw [← hy] at HSU
      clear hcw hy
      by_cases hm : y.b.tn = b.tn ∧ y.b.ar = b.ar ∧ y.n.s = n.s
      · obtain ⟨m1, m2, m3⟩ := hm
        have HN : Hid (max r y.v.t = lasK (L.take (i + 1)) b n) := hid (by rw [HSU.out, if_pos (show isK b n y = true from decide_eq_true ⟨Bx.ext' m1 m2, Nm.ext' m3⟩), HF.out])
        rw [decide_eq_true m1] at s1
        rw [decide_eq_true m2] at s2
        rw [decide_eq_true m3] at s3
        clear m1 m2 m3 HSU
        go_wp2_with fail
        go_quiet (fail)
        all_goals go_wp2_with fail
        all_goals go_roundg (gk - 1)
        all_goals first
          | (case measure => omega)
          | skip
        all_goals exact ⟨i + 1, max r y.v.t, by omega, by omega, by go_num, by go_num, HN, hid (HS.out.drewN _)⟩
      · have HN : Hid (r = lasK (L.take (i + 1)) b n) := hid (by rw [HSU.out, if_neg (show ¬ isK b n y = true from fun e => absurd (of_decide_eq_true e) (fun e2 => hm (by rw [e2.1, e2.2]; exact ⟨rfl, rfl, rfl⟩))), HF.out])
        obtain ⟨d1, e1⟩ : ∃ q, q = decide (y.b.tn = b.tn) := ⟨_, rfl⟩
        obtain ⟨d2, e2⟩ : ∃ q, q = decide (y.b.ar = b.ar) := ⟨_, rfl⟩
        obtain ⟨d3, e3⟩ : ∃ q, q = decide (y.n.s = n.s) := ⟨_, rfl⟩
        rw [← e1] at s1
        rw [← e2] at s2
        rw [← e3] at s3
        have hd : ¬ (d1 = true ∧ d2 = true ∧ d3 = true) := fun e => hm ⟨of_decide_eq_true (e1.symm.trans e.1), of_decide_eq_true (e2.symm.trans e.2.1), of_decide_eq_true (e3.symm.trans e.2.2)⟩
        have hf := (four12 d1 d2 d3).resolve_right hd
        clear e1 e2 e3 hm hd HF HSU
        rcases hf with rfl | ⟨rfl, rfl⟩ | ⟨rfl, rfl, rfl⟩
        all_goals
          go_wp2_with fail
          go_quiet (fail)
          all_goals go_wp2_with fail
          all_goals go_roundg (gk - 1)
          all_goals first
            | (case measure => omega)
            | skip
          all_goals exact ⟨i + 1, r, by omega, by omega, by go_num, by go_num, HN, hid (HS.out.drewN _)⟩
    · have hli : decide (i < l) = false := decide_eq_false hlt
      have HE : Hid (r = lasK L b n) := hid (by rw [HF.out, List.take_of_length_le (by have := HG.out.2.1; omega)])
      clear HF
      go_wp2_with fail
      go_ret
      exact ⟨by have h9 := HE.out; subst h9; rfl, HK.out.trans HS.out⟩

end Go.Proofs.Ythignkloecfcbaa
