/-
  Of the proof: parts ChDp, CrC, CrD.
-/
import Derived.Test.YthignkloecfcbaaJ21
import Derived.Test.YthignkloecfcbaaJ22

/-
  Layer 12's law ChainDumps.
-/
namespace Go.Proofs.Ythignkloecfcbaa
open Go.RowKit Go.Maps Go.Sort

/-- A store, and a dump of it whose first archives are spoilt. -/
structure DpS (w wi : World) (p : Nat) (M : Mst) (ρ : Nat → Nat) (v : Value) (As : List Ad) (i : Nat) : Prop where
  sto : Sto 6000 w.heap.size wi p M ρ
  old : ∀ k, k < w.heap.size → ρ k = 0
  same : Same w wi
  row : RowC w.heap.size 55 3 adE wi v As
  ent : ∀ j (hj : j < As.length), i ≤ j → RowC w.heap.size 58 2 enE2 wi (adV As[j]) As[j].es
  apt : As.Pairwise (fun x y => ∀ k, (adV x).ownBlock = some k → ¬ (adV y).ownBlock = some k)
  off : DmF ρ v As

section
variable {w wi : World} {p : Nat} {M : Mst} {ρ : Nat → Nat} {v : Value} {As : List Ad} {i : Nat}

theorem DpS.kept (h : DpS w wi p M ρ v As i) {w' : World} (hk : Same wi w') : DpS w w' p M ρ v As i :=
  { h with sto := h.sto.same hk, same := h.same.trans hk, row := h.row.kept hk (fun _ _ f => f), ent := fun j hj hij => (h.ent j hj hij).kept hk (fun _ _ f => f) }

theorem DpS.of (h : PrS w wi p M ρ v As) : DpS w wi p M ρ v As 0 := ⟨h.sto, h.old, h.same, h.dm.row, fun _ hj _ => h.dm.ent _ (List.getElem_mem hj), h.dm.apt, h.off⟩

theorem DpS.spoil (h : DpS w wi p M ρ v As i) (hi : i < As.length) {w' : World} (hk : Kept (fun k => (adV As[i]).ownBlock = some k) wi w') : DpS w w' p M ρ v As (i + 1) :=
  { h with
    sto := h.sto.kept hk (fun k e => h.off.2 _ (List.getElem_mem hi) k e)
    same := Kept.trans h.same hk (fun _ _ f => f) (fun k hlt e => by have := (h.ent i hi (Nat.le_refl _)).ge e; omega)
    row := h.row.kept hk (fun k e e2 => rows_apart h.row (h.ent i hi (Nat.le_refl _)) (by decide) k e e2)
    ent := fun j hj hij => (h.ent j hj (by omega)).kept hk (fun k e e2 => (List.pairwise_iff_getElem.1 h.apt i j hi hj (by omega)) k e2 e) }

end

theorem bless12 : ∀ a b : List UInt8, Op.bytesLess a b = true ↔ a < b
  | [], [] => by simp [Op.bytesLess]
  | [], b :: bs => by simp [Op.bytesLess]
  | a :: r, [] => by simp [Op.bytesLess]
  | a :: r, b :: bs => by
    rw [Op.bytesLess, List.cons_lt_cons_iff]
    simp [bless12 r bs]

theorem bytesC_inj {a b : ByteArray} (h : a.data.toList = b.data.toList) : a = b := by
  cases a
  cases b
  simp only at h
  rw [Array.toList_inj] at h
  rw [h]

theorem bless_no {a b : ByteArray} (h : b.data.toList < a.data.toList ∨ a = b) : Op.bytesLess a.toList b.toList = false := by
  cases hb : Op.bytesLess a.toList b.toList with
  | false => rfl
  | true =>
    have h1 := (bless12 _ _).1 hb
    rw [Lib.toList_data, Lib.toList_data] at h1
    rcases h with h | h
    · exact absurd (List.lt_trans h1 h) (List.lt_irrefl _)
    · rw [h] at h1; exact absurd h1 (List.lt_irrefl _)

/-- Is a key among the archives? -/
def fouA (As : List Ad) (kb : Bx) (kn : Nm) : Bool := As.any (fun x => decide (x.b = kb) && x.es.any (fun e => decide (e.1 = kn)))

theorem fouA_is {M : Mst} {t : Int} {As : List Ad} (h : IsDm (visF M.V t) (adD As)) (kb : Bx) (kn : Nm) : fouA As kb kn = (newV (M.V kb kn) t).there := by
  have hv : ∀ d, visF M.V t kb kn = some d → (newV (M.V kb kn) t).there = true := fun d e => by
    unfold visF visV at e
    split at e
    · assumption
    · cases e
  cases hth : (newV (M.V kb kn) t).there with
  | true =>
    have h1 : visF M.V t kb kn = some (newV (M.V kb kn) t).data := by unfold visF visV; rw [if_pos hth]
    obtain ⟨x, hx, hb⟩ := h.all kb kn (by rw [h1]; simp)
    unfold adD at hx
    obtain ⟨y, hy, rfl⟩ := List.mem_map.1 hx
    simp only at hb
    have h2 := ((h.ent _ (List.mem_map.2 ⟨y, hy, rfl⟩)).2 kn _).2 (by rw [hb]; exact h1)
    exact List.any_eq_true.2 ⟨y, hy, by
      rw [Bool.and_eq_true]
      exact ⟨decide_eq_true hb, List.any_eq_true.2 ⟨_, h2, decide_eq_true rfl⟩⟩⟩
  | false =>
    unfold fouA
    rw [List.any_eq_false]
    intro y hy e
    rw [Bool.and_eq_true] at e
    obtain ⟨⟨n, d⟩, hm, hn⟩ := List.any_eq_true.1 e.2
    have h2 := ((h.ent _ (List.mem_map.2 ⟨y, hy, rfl⟩)).2 n d).1 hm
    have hb := of_decide_eq_true e.1
    have hn2 : n = kn := of_decide_eq_true hn
    simp only at h2
    rw [hb, hn2] at h2
    have := hv d h2
    rw [hth] at this
    cases this

/-- What Get tells of an entry of a dump. -/
theorem dm_get {M : Mst} {t : Int} {As : List Ad} (h : IsDm (visF M.V t) (adD As)) {y : Ad} (hy : y ∈ As) {n : Nm} {d : ByteArray} (hm : (n, d) ∈ y.es) : getA (M.V y.b n) t = .tuple #[.string d, .bool true] := by
  have h2 := ((h.ent _ (List.mem_map.2 ⟨y, hy, rfl⟩)).2 n d).1 hm
  simp only at h2
  unfold visF visV at h2
  unfold getA
  split at h2
  · rename_i hth
    simp only [Option.some.injEq] at h2
    rw [h2, hth]
  · cases h2

/-- What List tells of an archive of a dump. -/
theorem dm_list {M : Mst} {t : Int} {As : List Ad} (h : IsDm (visF M.V t) (adD As)) {y : Ad} (hy : y ∈ As) : RisN (y.es.map (·.1)) ∧ ∀ n, n ∈ y.es.map (·.1) ↔ isTh (M.V y.b n) t = true := by
  have he := h.ent _ (List.mem_map.2 ⟨y, hy, rfl⟩)
  refine ⟨List.pairwise_map.2 he.1, fun n => ?_⟩
  rw [List.mem_map]
  constructor
  · rintro ⟨⟨m, d⟩, hm, rfl⟩
    have h2 := (he.2 m d).1 hm
    simp only at h2
    unfold visF visV at h2
    unfold isTh
    split at h2
    · assumption
    · cases h2
  · intro e
    refine ⟨(n, (newV (M.V y.b n) t).data), (he.2 _ _).2 ?_, rfl⟩
    show visV (M.V y.b n) t = _
    unfold visV isTh at *
    rw [if_pos e]

set_option maxRecDepth 100000 in
set_option maxHeartbeats 4000000 in
theorem chainDumps_all (a : Option Addr) (len cap : Nat) (O : Nat → Oc) (kb : Bx) (kn : Nm) (at' : Int) (w : World) (ho : Ops12 w (fun k => k < w.heap.size) a len O) (hz : SzOps len O) (_w1 : (Lit.int .i64 at').wf = true) :
    Calls Try.prog 6 #[.slice a len cap, .agg (kyC kb kn).toArray, .int .i64 at'] w fun e w' => e = .returned (.bool true) ∧ Below w.heap.size w w' := by
  suffices H : Calls Try.prog 6 #[.slice a len cap, .agg (kyC kb kn).toArray, .int .i64 at'] w fun e w' => e = .returned (.bool true) ∧ Same w w' from H.mono (fun e w' h => ⟨h.1, h.2.bel12⟩)
  clear _w1
  show Calls Try.prog 6 #[.slice a len cap, .agg #[.string kb.tn, .string kb.ar, .string kn.s], .int .i64 at'] w _
  obtain ⟨w0, hw0⟩ : ∃ W, W = w.alloc (.cells #[.string kb.tn, .string kb.ar, .string kn.s] 36) := ⟨_, rfl⟩
  obtain ⟨xb, hxb⟩ : ∃ y, y = w.heap.size := ⟨_, rfl⟩
  have hk0 : Same w w0 := by rw [hw0]; exact (Kept.refl _ w).alloc _
  have B0 : Blk w0 xb #[.string kb.tn, .string kb.ar, .string kn.s] 36 := by rw [hw0, hxb]; exact Blk.new w _ _
  have HX : Hid (∀ w', Same w0 w' → w'.cell? ⟨xb, 0, none⟩ = some (.string kb.tn) ∧ w'.cell? ⟨xb, 1, none⟩ = some (.string kb.ar) ∧ w'.cell? ⟨xb, 2, none⟩ = some (.string kn.s)) := hid (fun w' hk => ⟨(B0.kept hk (fun f => f)).cell 0, (B0.kept hk (fun f => f)).cell 1, (B0.kept hk (fun f => f)).cell 2⟩)
  have HO : Hid (Ops12 w0 (fun k => k < w0.heap.size) a len O ∧ SzOps len O ∧ Same w w0) := hid ⟨(ho.kept hk0 (fun _ _ _ f => f)).mono (fun k hk => Nat.lt_of_lt_of_le hk hk0.size), hz, hk0⟩
  clear ho hz hk0 B0
  go_enter Try.func6, Try.ntmps6
  go_wp2_with fail
  rw [← hw0, ← hxb]
  clear hw0 hxb
  refine (clarge_any w0 _ a len cap O HO.out.1 HO.out.2.1).mono ?_
  rintro e w1 ⟨r, rfl, hr, hk⟩
  have H1 : Hid (Same w0 w1) := hid hk
  have HR : Hid (r = false → len + sumW O len ≤ 2000) := hid hr
  clear hk hr
  cases r with
  | true =>
    go_wp2_with fail
    refine (cawake_any w1).mono ?_
    rintro e w2 ⟨rfl, hk⟩
    go_wp2_with fail
    go_ret
    exact ⟨rfl, (HO.out.2.2.trans H1.out).trans hk⟩
  | false =>
    have HL : Hid (len + sumW O len ≤ 2000) := hid (HR.out rfl)
    clear HR
    go_wp2_with fail
    refine (built_any w1 a len cap O ((HO.out.1.kept H1.out (fun _ _ _ f => f)).mono (fun k hk => Nat.lt_of_lt_of_le hk H1.out.size)) (HL.out)).mono ?_
    rintro e w2 ⟨p, M, rfl, ⟨ρ, g1, g2, g3⟩, hM⟩
    have HS : Hid (Sto 6000 w1.heap.size w2 p M ρ ∧ (∀ k, k < w1.heap.size → ρ k = 0) ∧ Same w1 w2) := hid ⟨g1, g2, g3⟩
    clear g1 g2 g3 hM
    obtain ⟨T, hT⟩ : ∃ T, T = max at' M.floor := ⟨_, rfl⟩
    have HTT : Hid (T = max at' M.floor) := hT
    have HDU := bdump ⟨ρ, HS.out.1, HS.out.2.1, HS.out.2.2⟩ at'
    rw [← hT] at HDU
    clear hT
    go_wp2_with fail
    refine HDU.mono ?_
    rintro e w3 ⟨⟨v, As, rfl, d1, d2, d3, d4, hk3⟩, _⟩
    have HP3 : Hid (DpS w1 w3 p M ρ v As 0) := hid (DpS.of (PrS.first HS.out.1 HS.out.2.1 HS.out.2.2 hk3 rfl d1))
    have HD : Hid (IsDm (visF M.V T) (adD As) ∧ As.length ≤ 100000 ∧ ∀ x ∈ As, x.es.length ≤ 100000) := hid ⟨d2, d3, d4⟩
    obtain ⟨va, vc, hv, hvg, _⟩ := d1.row.shape
    obtain ⟨An, hAn⟩ : ∃ n, n = As.length := ⟨_, rfl⟩
    rw [← hAn] at hv
    subst hv
    have HV : Hid ((As ≠ [] → ∃ g, va = some ⟨g, 0, none⟩) ∧ An = As.length) := hid ⟨hvg, hAn⟩
    obtain ⟨c0, c1, c2⟩ := HX.out w3 (H1.out.trans (HS.out.2.2.trans hk3))
    obtain ⟨A, hA⟩ : ∃ A, A = newV (M.V kb kn) T := ⟨_, rfl⟩
    have HGT : Hid (∀ wi, DpS w1 wi p M ρ (.slice va An vc) As 0 ∨ Sto 6000 w1.heap.size wi p M ρ → Calls Try.prog 14 #[.pointer (some ⟨p, 0, none⟩), .agg #[.string kb.tn, .string kb.ar, .string kn.s], .int .i64 at'] wi fun e w' => e = .returned (.tuple #[.string A.data, .bool A.there]) ∧ Same wi w') := hid (fun wi h9 => by
      have h8 : Sto 6000 w1.heap.size wi p M ρ := h9.elim (fun h => h.sto) (fun h => h)
      have h7 := xget h8 kb kn at'
      rw [← HTT.out] at h7
      unfold getA at h7
      rw [← hA] at h7
      exact h7)
    have HAA : Hid (A = newV (M.V kb kn) T) := hA
    clear d1 d2 d3 d4 hvg hAn hA HDU hk3 HS
    go_wp2_with fail
    refine (HGT.out w3 (.inl HP3.out)).mono ?_
    rintro e w4 ⟨rfl, hk4⟩
    have HP4 : Hid (DpS w1 w4 p M ρ (.slice va An vc) As 0) := hid (HP3.out.kept hk4)
    clear hk4 HP3 c0 c1 c2
    obtain ⟨AD, hAD⟩ : ∃ d, d = A.data := ⟨_, rfl⟩
    obtain ⟨AT, hAT⟩ : ∃ d, d = A.there := ⟨_, rfl⟩
    rw [← hAD, ← hAT] at HGT ⊢
    have HAT : Hid (AT = fouA As kb kn) := hid (by rw [hAT, HAA.out, fouA_is HD.out.1])
    clear hAD hAT
    go_wp2_with fail
    go_loopg [11, 12] An (fun q z11 z12 wr => ∃ (i : Nat) (fo : Bool), An - i ≤ q ∧ i ≤ An ∧ z11 = .bool fo ∧ z12 = .int .i64 (i : Nat) ∧ Hid (fo = fouA (As.take i) kb kn ∧ DpS w1 wr p M ρ (.slice va An vc) As i))
    case atStart => exact ⟨0, false, by omega, by omega, rfl, rfl, hid ⟨rfl, HP4.out⟩⟩
    case round =>
      obtain ⟨i, fo, hq, hil, rfl, rfl, HI⟩ := hrel
      by_cases hlt : i < An
      · have hli : decide (i < An) = true := decide_eq_true hlt
        have hli2 : (i : Int) < (An : Int) := by omega
        have hlt2 : i < As.length := by have := HV.out.2; omega
        obtain ⟨g, hg⟩ := HV.out.1 (fun e => by rw [e] at hlt2; simp at hlt2)
        subst hg
        obtain ⟨x, hx⟩ : ∃ x, x = As[i] := ⟨_, rfl⟩
        have hxm : x ∈ As := by rw [hx]; exact List.getElem_mem _
        have hent := HI.out.2.ent i hlt2 (Nat.le_refl _)
        rw [← hx] at hent
        obtain ⟨xa, xc, hxv, hxg, _⟩ := hent.shape
        have hxne : x.es ≠ [] := HD.out.1.ne _ (List.mem_map.2 ⟨x, hxm, rfl⟩)
        obtain ⟨xk, hxk⟩ := hxg hxne
        subst hxk
        obtain ⟨m0, hm0⟩ : ∃ n, n = x.es.length := ⟨_, rfl⟩
        rw [← hm0] at hxv
        have hm1 : 0 < m0 := by rw [hm0]; exact List.length_pos_iff.2 hxne
        have HXC : Hid (∀ w', Same wr w' → w'.cell? ⟨g, i * 3, none⟩ = some (.string x.b.tn) ∧ w'.cell? ⟨g, i * 3 + 1, none⟩ = some (.string x.b.ar) ∧ w'.cell? ⟨g, i * 3 + 2, none⟩ = some (.slice (some ⟨xk, 0, none⟩) m0 xc)) := hid (fun w' hk => by
          have hr := HI.out.2.row.kept hk (fun _ _ f => f)
          have e0 := RowC.cell adE_ok hr i 0 hlt2 (by decide)
          have e1 := RowC.cell adE_ok hr i 1 hlt2 (by decide)
          have e2 := RowC.cell adE_ok hr i 2 hlt2 (by decide)
          rw [← hx] at e0 e1 e2
          refine ⟨e0, e1, ?_⟩
          rw [← hxv]
          exact e2)
        have HXE : Hid (∀ w', Same wr w' → RowC w1.heap.size 58 2 enE2 w' (.slice (some ⟨xk, 0, none⟩) m0 xc) x.es) := hid (fun w' hk => by
          have h9 := hent.kept hk (fun _ _ f => f)
          rw [hxv] at h9
          exact h9)
        have HXM : Hid (x ∈ As ∧ x = As[i] ∧ m0 = x.es.length ∧ m0 ≤ 100000 ∧ adV x = .slice (some ⟨xk, 0, none⟩) m0 xc) := hid ⟨hxm, hx, hm0, by rw [hm0]; exact HD.out.2.2 x hxm, hxv⟩
        have hz1 : ((m0 : Int) == 0) = false := by simp; omega
        have hz2 : decide (m0 = 0) = false := by simp; omega
        have hz3 : (m0 == 0) = false := by simp; omega
        have hiw : IntKind.i64.wrap ((i : Int) + 1) = ((i + 1 : Nat) : Int) := by have := HD.out.2.1; rw [IntKind.wrap_i64]; omega
        obtain ⟨x0, x1, x2⟩ := HXC.out wr (Kept.refl _ _)
        have HPV : Hid (∀ m (e : i = m + 1), ltB (As[m]'(by omega)).b x.b) := hid (fun m e => by
          subst e
          have h9 := List.pairwise_iff_getElem.1 HD.out.1.ris m (m + 1) (by simpa [adD] using (by omega : m < As.length)) (by simpa [adD] using hlt2) (by omega)
          simpa [adD, hx] using h9)
        clear hent hxg hxne hm0 hm1 hxv hxm hx
        go_upto_region 12 with fail
        go_cut [95] from 37 to 187 (fun z wx => z = .bool false ∧ Hid (Same wr wx))
        case first =>
          by_cases hi0 : i = 0
          case pos =>
            have ip : decide ((0 : Int) < (i : Int)) = false := decide_eq_false (by omega)
            have ip2 : decide (0 < i) = false := decide_eq_false (by omega)
            clear hi0
            go_quiet (fail)
            go_wp2_with fail
            go_meet
            exact ⟨rfl, hid ((Kept.refl _ _).drewN _)⟩
          case neg =>
            obtain ⟨m, hm⟩ : ∃ m, i = m + 1 := ⟨i - 1, by omega⟩
            obtain ⟨y, hy⟩ : ∃ y, y = As[m]'(by omega) := ⟨_, rfl⟩
            have hyr : ∀ q u, q < 3 → (adE y)[q]? = some u → wr.cell? ⟨g, m * 3 + q, none⟩ = some u := fun q u hq e => by rw [RowC.cell adE_ok HI.out.2.row m q (by omega) hq, ← hy, e]
            have y0 := hyr 0 (.string y.b.tn) (by decide) rfl
            have y1 := hyr 1 (.string y.b.ar) (by decide) rfl
            rw [Nat.add_zero] at y0
            have hlt9 := HPV.out m hm
            rw [← hy] at hlt9
            have iw0 : (i : Int) - 1 = (m : Int) := by omega
            have iw : IntKind.i64.wrap (m : Int) = (m : Int) := by have := HD.out.2.1; rw [IntKind.wrap_i64]; omega
            have ib : (m : Int) < (An : Int) := by omega
            have ip : decide ((0 : Int) < (i : Int)) = true := decide_eq_true (by omega)
            have ip2 : decide (0 < i) = true := decide_eq_true (by omega)
            have s1 := streq12 x.b.tn y.b.tn
            have s2 := streq12 x.b.ar y.b.ar
            have t1 : Op.bytesLess x.b.tn.toList y.b.tn.toList = false := bless_no (by rcases hlt9 with h | h; exact .inl h; exact .inr (bytesC_inj h.1).symm)
            clear hyr hy hm hi0
            rcases hlt9 with h9 | ⟨h9, h8⟩
            case inl =>
              rw [decide_eq_false (fun e => by unfold tnB at h9; rw [e] at h9; exact List.lt_irrefl _ h9)] at s1
              clear h9 s2
              go_quiet (fail)
              go_wp2_with fail
              go_meet
              exact ⟨rfl, hid ((Kept.refl _ _).drewN _)⟩
            case inr =>
              rw [decide_eq_true (bytesC_inj h9).symm] at s1
              rw [decide_eq_false (fun e => by unfold arB at h8; rw [e] at h8; exact List.lt_irrefl _ h8)] at s2
              have t2 : Op.bytesLess x.b.ar.toList y.b.ar.toList = false := bless_no (.inl h8)
              clear h9 h8
              go_quiet (fail)
              go_wp2_with fail
              go_meet
              exact ⟨rfl, hid ((Kept.refl _ _).drewN _)⟩
        case rest =>
          obtain ⟨rfl, HWE0⟩ := hcut
          obtain ⟨wE, hwE⟩ : ∃ W, W = wc := ⟨_, rfl⟩
          have HWE : Hid (Same wr wE) := hid (by rw [hwE]; exact HWE0.out)
          rw [← hwE]
          clear hwE HWE0 x0 x1 x2
          have HXC2 : Hid (∀ w', Same wE w' → w'.cell? ⟨g, i * 3, none⟩ = some (.string x.b.tn) ∧ w'.cell? ⟨g, i * 3 + 1, none⟩ = some (.string x.b.ar) ∧ w'.cell? ⟨g, i * 3 + 2, none⟩ = some (.slice (some ⟨xk, 0, none⟩) m0 xc)) := hid (fun w' hk => HXC.out w' (HWE.out.trans hk))
          have HXE2 : Hid (∀ w', Same wE w' → RowC w1.heap.size 58 2 enE2 w' (.slice (some ⟨xk, 0, none⟩) m0 xc) x.es) := hid (fun w' hk => HXE.out w' (HWE.out.trans hk))
          have HIE : Hid (DpS w1 wE p M ρ (.slice (some ⟨g, 0, none⟩) An vc) As i) := hid (HI.out.2.kept HWE.out)
          have HFO : Hid (fo = fouA (As.take i) kb kn) := hid HI.out.1
          clear HXC HXE HWE HI
          obtain ⟨gk0, hgk0⟩ : ∃ q, q = gk := ⟨_, rfl⟩
          rw [← hgk0] at hq
          obtain ⟨x0, x1, x2⟩ := HXC2.out wE (Kept.refl _ _)
          go_wp2_with fail
          go_loopg [11, 13, 14] m0 (fun q z11 z13 z14 wr => ∃ (n : Nat) (fq : Bool) (na : Option Addr) (nl nc : Nat), m0 - n ≤ q ∧ n ≤ m0 ∧ z11 = .bool fq ∧ z13 = .slice na nl nc ∧ z14 = .int .i64 (n : Nat) ∧ Hid (fq = (fo || (decide (x.b = kb) && (x.es.take n).any (fun e => decide (e.1 = kn)))) ∧ RowE wE.heap.size 9 nmV wr (.slice na nl nc) ((x.es.take n).map (·.1)) ∧ Same wE wr))
          case atStart => exact ⟨0, fo, none, 0, 0, by omega, by omega, rfl, rfl, rfl, hid ⟨by simp, RowE.nil, Kept.refl _ _⟩⟩
          case round =>
            obtain ⟨n, fq, na, nl, nc, hqn, hnl, rfl, rfl, rfl, HJ⟩ := hrel
            clear x0 x1 x2
            obtain ⟨x0, x1, x2⟩ := HXC2.out wr HJ.out.2.2
            by_cases hltn : n < m0
            · have hln : decide (n < m0) = true := decide_eq_true hltn
              have hln2 : (n : Int) < (m0 : Int) := by omega
              have hlt3 : n < x.es.length := by have := HXM.out.2.2.1; omega
              obtain ⟨en, ed, hed⟩ : ∃ en ed, x.es[n] = (en, ed) := ⟨_, _, rfl⟩
              have hrw := HXE2.out wr HJ.out.2.2
              have k0 : wr.cell? ⟨xk, n * 2, none⟩ = some (.string en.s) := by have h9 := RowC.cell enE2_ok hrw n 0 hlt3 (by decide); rw [hed] at h9; exact h9
              have k1 : wr.cell? ⟨xk, n * 2 + 1, none⟩ = some (.string ed) := by have h9 := RowC.cell enE2_ok hrw n 1 hlt3 (by decide); rw [hed] at h9; exact h9
              have HED : Hid (x.es[n] = (en, ed)) := hed
              have hnw : IntKind.i64.wrap ((n : Int) + 1) = ((n + 1 : Nat) : Int) := by have := HXM.out.2.2.2.1; rw [IntKind.wrap_i64]; omega
              have HGE : Hid (∀ w', Same wE w' → Calls Try.prog 14 #[.pointer (some ⟨p, 0, none⟩), .agg #[.string x.b.tn, .string x.b.ar, .string en.s], .int .i64 at'] w' fun e w2 => e = .returned (.tuple #[.string ed, .bool true]) ∧ Same w' w2) := hid (fun w' hk => by
                have h7 := xget (HIE.out.sto.same hk) x.b en at'
                rw [← HTT.out, dm_get HD.out.1 HXM.out.1 (n := en) (d := ed) (by rw [← HED.out]; exact List.getElem_mem _)] at h7
                exact h7)
              obtain ⟨wB, hwB⟩ : ∃ W, W = wr.alloc (.cells #[.string en.s, .string ed] 58) := ⟨_, rfl⟩
              obtain ⟨yb, hyb⟩ : ∃ y, y = wr.heap.size := ⟨_, rfl⟩
              have hkB : Same wr wB := by rw [hwB]; exact (Kept.refl _ _).alloc _
              have BB : Blk wB yb #[.string en.s, .string ed] 58 := by rw [hwB, hyb]; exact Blk.new wr _ _
              have HB : Hid (Same wE wB ∧ Blk wB yb #[.string en.s, .string ed] 58 ∧ RowE wE.heap.size 9 nmV wB (.slice na nl nc) ((x.es.take n).map (·.1))) := hid ⟨HJ.out.2.2.trans hkB, BB, HJ.out.2.1.kept hkB (fun _ _ f => f)⟩
              clear hrw hed hkB BB
              go_upto_region 19 with fail
              rw [← hwB, ← hyb]
              clear hwB hyb x0 x1 x2 k0 k1
              obtain ⟨x0, x1, x2⟩ := HXC2.out wB HB.out.1
              have k0 : wB.cell? ⟨yb, 0, none⟩ = some (.string en.s) := HB.out.2.1.cell 0
              have k1 : wB.cell? ⟨yb, 1, none⟩ = some (.string ed) := HB.out.2.1.cell 1
              go_region_held3 (fun w' => w'.cell? ⟨g, i * 3, none⟩ = some (.string x.b.tn) ∧ w'.cell? ⟨g, i * 3 + 1, none⟩ = some (.string x.b.ar) ∧ w'.cell? ⟨yb, 0, none⟩ = some (.string en.s))
                (first
                  | (go_split_ands; exact ⟨hkc.cell (by assumption) (fun f => f), hkc.cell (by assumption) (fun f => f), hkc.cell (by assumption) (fun f => f)⟩)
                  | go_keep)
                (first
                  | (go_at_call 14; refine (HGE.out _ (by first | exact HB.out.1 | exact HB.out.1.drew)).mono ?_; rintro e wk ⟨rfl, hkc⟩; have HKK : Hid (Same wB wk) := hid (by first | exact Kept.undrewC hkc | exact hkc)))
              have HKB : Hid (Same wE wk ∧ Blk wk yb #[.string en.s, .string ed] 58 ∧ RowE wE.heap.size 9 nmV wk (.slice na nl nc) ((x.es.take n).map (·.1))) := hid ⟨HB.out.1.trans HKK.out, HB.out.2.1.kept HKK.out (fun f => f), HB.out.2.2.kept HKK.out (fun _ _ f => f)⟩
              clear hkc HKK k0 k1 x0 x1 x2 HB
              have k0 : wk.cell? ⟨yb, 0, none⟩ = some (.string en.s) := HKB.out.2.1.cell 0
              have k1 : wk.cell? ⟨yb, 1, none⟩ = some (.string ed) := HKB.out.2.1.cell 1
              have q5 : (ed.toList == ed.toList) = true := by simp
              have HLL : Hid (((x.es.take n).map (·.1)).length ≤ 100000) := hid (by rw [List.length_map, List.length_take]; have := HXM.out.2.2.2.1; omega)
              go_wp2_with (at_builtin; refine wpList_append_e _ nmV nmV_one wE.heap.size 56 9 (.string ⟨#[]⟩) 16 Try.underlying56 Try.infoStr rfl (by decide) rfl (.tmp 141) (.tmp 144) rfl (.slice na nl nc) ((x.es.take n).map (·.1)) rfl (HKB.out.2.2.kept (show Same _ _ from (Kept.refl _ _).alloc _) (fun _ _ f => f)) ⟨wk.heap.size, 0, none⟩ 1 1 [en] rfl rfl (cellsAt_new _ _ _) (by have := HLL.out; simp only [List.length_singleton]; omega) (by have := HKB.out.1.size; simp; omega) ?_)
              intro v5 w5 hr5 hg5
              obtain ⟨a5, c5, hv5, _⟩ := hr5.shape
              obtain ⟨l5, hv9⟩ : ∃ l : Nat, v5 = .slice a5 l c5 := ⟨_, hv5⟩
              clear hv5
              subst hv9
              have hk5 : Kept (fun k => (Value.slice na nl nc).ownBlock = some k) wk w5 := Kept.trans (F := fun _ => False) ((Kept.refl _ wk).alloc _) ((Kept.refl _ _).grown hg5 (fun k e => .inl e)) (fun _ _ f => False.elim f) (fun _ _ e => e)
              have hnb : ¬ (Value.slice na nl nc).ownBlock = some yb := fun e => by
                rcases HKB.out.2.2.2 with ⟨h9, _⟩ | ⟨g9, cap9, cur9, h9, _, hg9, _⟩
                · rw [h9] at e; cases e
                · rw [h9] at e
                  simp only [Value.ownBlock, Option.some.injEq] at e
                  have hb9 := HKB.out.2.1
                  unfold Blk at hb9
                  rw [e, hb9] at hg9
                  simp only [Option.some.injEq, Obj.cells.injEq] at hg9
                  exact absurd hg9.2.1 (by decide)
              have H5 : Hid (Same wE w5 ∧ RowE wE.heap.size 9 nmV w5 (.slice a5 l5 c5) ((x.es.take (n + 1)).map (·.1)) ∧ Blk w5 yb #[.string en.s, .string ed] 58) := hid ⟨Kept.trans HKB.out.1 hk5 (fun _ _ f => f) (fun k hlt e => by have := HKB.out.2.2.ge e; omega), by rw [List.take_add_one, List.getElem?_eq_getElem hlt3, HED.out]; simpa using hr5, HKB.out.2.1.kept hk5 hnb⟩
              clear hr5 hg5 hk5 hnb k0 k1 q5
              obtain ⟨x0, x1, x2⟩ := HXC2.out w5 H5.out.1
              obtain ⟨c0, c1, c2⟩ := HX.out w5 (H1.out.trans (HIE.out.same.trans H5.out.1))
              have k0 : w5.cell? ⟨yb, 0, none⟩ = some (.string en.s) := H5.out.2.2.cell 0
              have HNX : Hid ((x.es.take (n + 1)).any (fun e => decide (e.1 = kn)) = ((x.es.take n).any (fun e => decide (e.1 = kn)) || decide (en = kn))) := hid (by rw [List.take_add_one, List.getElem?_eq_getElem hlt3, HED.out]; simp)
              cases fq
              case' true =>
                have HFQ : Hid (true = (fo || (decide (x.b = kb) && (x.es.take (n + 1)).any (fun e => decide (e.1 = kn))))) := hid (by
                  have h9 := HJ.out.1
                  rw [HNX.out, Bool.and_or_distrib_left, ← Bool.or_assoc, ← h9]; rfl)
                go_wp2_with fail
                go_quiet (fail)
                go_wp2_with fail
                go_roundg (gk - 1)
                case measure => omega
                case rel => exact ⟨n + 1, true, a5, l5, c5, by omega, by omega, rfl, rfl, by go_num, hid ⟨HFQ.out, H5.out.2.1.kept (show Same _ _ from (Kept.refl _ _).drewN _) (fun _ _ f => f), H5.out.1.drewN _⟩⟩
              case' false =>
                have s1 := streq12 kb.tn x.b.tn
                have s2 := streq12 kb.ar x.b.ar
                have s3 := streq12 kn.s en.s
                obtain ⟨d1, e1⟩ : ∃ q, q = decide (kb.tn = x.b.tn) := ⟨_, rfl⟩
                obtain ⟨d2, e2⟩ : ∃ q, q = decide (kb.ar = x.b.ar) := ⟨_, rfl⟩
                obtain ⟨d3, e3⟩ : ∃ q, q = decide (kn.s = en.s) := ⟨_, rfl⟩
                rw [← e1] at s1
                rw [← e2] at s2
                rw [← e3] at s3
                have HFQ : Hid ((d1 && d2 && d3) = (fo || (decide (x.b = kb) && (x.es.take (n + 1)).any (fun e => decide (e.1 = kn))))) := hid (by
                  have h9 := HJ.out.1
                  rw [HNX.out, Bool.and_or_distrib_left, ← Bool.or_assoc, ← h9, Bool.false_or]
                  have q1 : (d1 && d2) = decide (x.b = kb) := by rw [e1, e2, ← Bool.decide_and]; exact decide_eq_decide.2 ⟨fun e => Bx.ext' e.1.symm e.2.symm, fun e => by rw [e]; exact ⟨rfl, rfl⟩⟩
                  have q2 : d3 = decide (en = kn) := by rw [e3]; exact decide_eq_decide.2 ⟨fun e => Nm.ext' e.symm, fun e => by rw [e]⟩
                  rw [q1, q2])
                clear e1 e2 e3
                cases d1 <;> cases d2 <;> cases d3
                all_goals go_wp2_with fail
                all_goals go_quiet (fail)
                all_goals go_wp2_with fail
                all_goals go_roundg (gk - 1)
                all_goals first
                  | (case measure => omega)
                  | skip
                all_goals exact ⟨n + 1, _, a5, l5, c5, by omega, by omega, rfl, rfl, by go_num, hid ⟨HFQ.out, H5.out.2.1.kept (show Same _ _ from (Kept.refl _ _).drewN _) (fun _ _ f => f), H5.out.1.drewN _⟩⟩
            · have hln : decide (n < m0) = false := decide_eq_false hltn
              have hnm : n = m0 := by omega
              have HJ2 : Hid (fq = (fo || (decide (x.b = kb) && x.es.any (fun e => decide (e.1 = kn)))) ∧ RowE wE.heap.size 9 nmV wr (.slice na nl nc) (x.es.map (·.1)) ∧ Same wE wr) := hid (by
                have h9 := HJ.out
                rw [List.take_of_length_le (by have := HXM.out.2.2.1; omega)] at h9
                exact h9)
              clear HJ hnm
              have HLI : Hid (∀ w', Same wr w' → Calls Try.prog 21 #[.pointer (some ⟨p, 0, none⟩), .agg #[.string x.b.tn, .string x.b.ar], .int .i64 at'] w' fun e w2 => ∃ v, e = .returned v ∧ (∃ aa nn cc, v = .slice aa nn cc) ∧ Same w' w2 ∧ ∀ w3, Same w2 w3 → Calls Try.prog 20 #[v, .slice na nl nc] w3 fun e w4 => e = .returned (.bool true) ∧ Same w3 w4) := hid (fun w' hk => (xlist (HIE.out.sto.same (HJ2.out.2.2.trans hk)) x.b at').mono (fun e w2 h9 => by
                obtain ⟨v, L, rfl, hrow, hris, hmem, hll, hk2⟩ := h9
                rw [← HTT.out] at hmem
                obtain ⟨aa, cc, hv, _⟩ := hrow.shape
                have hLL : L = x.es.map (·.1) := lis_det (f := fun n => isTh (M.V x.b n) T) ⟨hris, hmem⟩ (dm_list HD.out.1 HXM.out.1)
                exact ⟨v, rfl, ⟨aa, _, cc, hv⟩, hk2, fun w3 hk3 => texts_true w3 _ _ v _ L (hrow.kept hk3 (fun _ _ f => f)) (by rw [hLL]; exact HJ2.out.2.1.kept ((hk.trans hk2).trans hk3) (fun _ _ f => f)) (by omega)⟩))
              go_upto_region 24 with fail
              go_region_held3 (fun w' => w'.cell? ⟨g, i * 3, none⟩ = some (.string x.b.tn) ∧ w'.cell? ⟨g, i * 3 + 1, none⟩ = some (.string x.b.ar))
                (first
                  | (go_split_ands; exact ⟨hkc.cell (by assumption) (fun f => f), hkc.cell (by assumption) (fun f => f)⟩)
                  | go_keep)
                (first
                  | (go_at_call 21; refine (HLI.out _ (by first | exact (Kept.refl _ _).drew | exact Kept.refl _ _)).mono ?_; rintro e wk ⟨vv, rfl, ⟨aa, nn, cc, rfl⟩, hkc, hkw9⟩; have HKW9 := hid hkw9; clear hkw9; have HKK : Hid (Same wr wk) := hid (by first | exact Kept.undrewC hkc | exact hkc))
                  | (go_at_call 20; refine (HKW9.out _ (by first | exact Kept.refl _ _ | exact (Kept.refl _ _).drew)).mono ?_; rintro e wk ⟨rfl, hkc⟩; have HKK : Hid (Same wr wk) := hid (by first | exact HKK.out.trans hkc | exact HKK.out.trans (Kept.undrewC hkc))))
              have HD9 : Hid (DpS w1 wk p M ρ (.slice (some ⟨g, 0, none⟩) An vc) As i ∧ Same wE wk) := hid ⟨HIE.out.kept (HJ2.out.2.2.trans HKK.out), HJ2.out.2.2.trans HKK.out⟩
              clear hkc HKK x0 x1 x2
              obtain ⟨x0, x1, x2⟩ := HXC2.out wk HD9.out.2
              have hre := HXE2.out wk HD9.out.2
              obtain ⟨e0, e1, he01⟩ : ∃ (e0 : Nm) (e1 : ByteArray), wk.cell? ⟨xk, 1, none⟩ = some (.string e1) ∧ e0 = e0 := by
                have hp : 0 < x.es.length := by have := HXM.out.2.2.1; have : 0 < m0 := (by have h9 : ¬ m0 = 0 := (by simpa using hz2); omega); omega
                exact ⟨default, _, RowC.cell enE2_ok hre 0 1 hp (by decide), rfl⟩
              have k1 := he01.1
              have z1 : wk.frozen? ⟨xk, 1, none⟩ = false := hre.frozen 1
              have m0p : (0 : Int) < (m0 : Int) := by have h9 : ¬ m0 = 0 := (by simpa using hz2); omega
              clear hre he01
              go_wp2_with fail
              go_roundg (gk0 - 1)
              case measure => omega
              case rel =>
                refine ⟨i + 1, fq, by omega, by omega, rfl, by go_num, hid ⟨?_, ?_⟩⟩
                · have h9 := HJ2.out.1
                  rw [h9, HFO.out]
                  unfold fouA
                  rw [List.take_add_one, List.getElem?_eq_getElem hlt2, ← HXM.out.2.1]
                  simp
                · refine HD9.out.1.spoil hlt2 ?_
                  rw [← HXM.out.2.1, HXM.out.2.2.2.2]
                  exact (Kept.refl (fun k => (Value.slice (some ⟨xk, 0, none⟩) m0 xc).ownBlock = some k) wk).setCell _ _ (.inl rfl)
      · have hli : decide (i < An) = false := decide_eq_false hlt
        have HE : Hid (fo = AT) := hid (by rw [HI.out.1, HAT.out, List.take_of_length_le (by have := HV.out.2; omega)])
        obtain ⟨c0, c1, c2⟩ := HX.out wr (H1.out.trans HI.out.2.same)
        have HG9 := HGT.out wr (.inr HI.out.2.sto)
        go_wp2_with fail
        refine HG9.mono ?_
        rintro e w8 ⟨rfl, hk8⟩
        have HK8 : Hid (Same w w8) := hid (((HO.out.2.2.trans H1.out).trans HI.out.2.same).trans hk8)
        clear hk8 HG9 c0 c1 c2
        have q6 : (AD.toList == AD.toList) = true := by simp
        have q7 : (AT == AT) = true := by simp
        obtain rfl := HE.out
        go_wp2_with fail
        refine (cawake_any w8).mono ?_
        rintro e w9 ⟨rfl, hk9⟩
        have HK9 : Hid (Same w w9) := hid (HK8.out.trans hk9)
        clear hk9
        go_wp2_with fail
        go_ret
        exact ⟨rfl, HK9.out⟩

end Go.Proofs.Ythignkloecfcbaa

/-
  Layer 12, the reference: the order of keys.
-/
namespace Go.Proofs.Ythignkloecfcbaa
open Go.RowKit Go.Maps Go.Sort

def kT12 (k : Ky) : List UInt8 := k.1.tn.data.toList
def kA12 (k : Ky) : List UInt8 := k.1.ar.data.toList
def kE12 (k : Ky) : List UInt8 := k.2.s.data.toList

/-- Entries by their order. -/
def ltK12 (a b : Ky) : Prop := kT12 a < kT12 b ∨ (kT12 a = kT12 b ∧ (kA12 a < kA12 b ∨ (kA12 a = kA12 b ∧ kE12 a < kE12 b)))

theorem ltK12_irr (a : Ky) : ¬ ltK12 a a := fun h => by
  rcases h with h | ⟨_, h | ⟨_, h⟩⟩ <;> exact List.lt_irrefl _ h

theorem ltK12_trans {a b c : Ky} (h : ltK12 a b) (k : ltK12 b c) : ltK12 a c := by
  rcases h with h | ⟨h, h'⟩ <;> rcases k with k | ⟨k, k'⟩
  · exact .inl (List.lt_trans h k)
  · exact .inl (by rw [← k]; exact h)
  · exact .inl (by rw [h]; exact k)
  · refine .inr ⟨h.trans k, ?_⟩
    rcases h' with h' | ⟨h', h''⟩ <;> rcases k' with k' | ⟨k', k''⟩
    · exact .inl (List.lt_trans h' k')
    · exact .inl (by rw [← k']; exact h')
    · exact .inl (by rw [h']; exact k')
    · exact .inr ⟨h'.trans k', List.lt_trans h'' k''⟩

theorem ltK12_tri (a b : Ky) : ltK12 a b ∨ a = b ∨ ltK12 b a := by
  rcases list_tri (kT12 a) (kT12 b) with h | h | h
  · exact .inl (.inl h)
  · rcases list_tri (kA12 a) (kA12 b) with k | k | k
    · exact .inl (.inr ⟨h, .inl k⟩)
    · rcases list_tri (kE12 a) (kE12 b) with m | m | m
      · exact .inl (.inr ⟨h, .inr ⟨k, m⟩⟩)
      · exact .inr (.inl (Prod.ext (Bx.ext' (bytesC_inj h) (bytesC_inj k)) (Nm.ext' (bytesC_inj m))))
      · exact .inr (.inr (.inr ⟨h.symm, .inr ⟨k.symm, m⟩⟩))
    · exact .inr (.inr (.inr ⟨h.symm, .inl k⟩))
  · exact .inr (.inr (.inl h))

def bl12 (s t : ByteArray) : Bool := Op.bytesLess s.toList t.toList

theorem bl12_lt (s t : ByteArray) : bl12 s t = true ↔ s.data.toList < t.data.toList := by
  unfold bl12
  rw [bless12, Lib.toList_data, Lib.toList_data]

/-- Does a key stand ahead of another one? -/
def bef12 (a b : Ky) : Bool := if a.1.tn = b.1.tn then (if a.1.ar = b.1.ar then bl12 a.2.s b.2.s else bl12 a.1.ar b.1.ar) else bl12 a.1.tn b.1.tn

theorem bef12_iff (a b : Ky) : bef12 a b = true ↔ ltK12 a b := by
  unfold bef12 ltK12
  have e1 : kT12 a = kT12 b ↔ a.1.tn = b.1.tn := ⟨fun h => bytesC_inj h, fun h => by unfold kT12; rw [h]⟩
  have e2 : kA12 a = kA12 b ↔ a.1.ar = b.1.ar := ⟨fun h => bytesC_inj h, fun h => by unfold kA12; rw [h]⟩
  by_cases h1 : a.1.tn = b.1.tn
  · rw [if_pos h1]
    have h1' := e1.2 h1
    by_cases h2 : a.1.ar = b.1.ar
    · rw [if_pos h2, bl12_lt]
      have h2' := e2.2 h2
      constructor
      · intro e; exact .inr ⟨h1', .inr ⟨h2', e⟩⟩
      · rintro (e | ⟨_, e | ⟨_, e⟩⟩)
        · rw [h1'] at e; exact absurd e (List.lt_irrefl _)
        · rw [h2'] at e; exact absurd e (List.lt_irrefl _)
        · exact e
    · rw [if_neg h2, bl12_lt]
      constructor
      · intro e; exact .inr ⟨h1', .inl e⟩
      · rintro (e | ⟨_, e | ⟨e, _⟩⟩)
        · rw [h1'] at e; exact absurd e (List.lt_irrefl _)
        · exact e
        · exact absurd (e2.1 e) h2
  · rw [if_neg h1, bl12_lt]
    constructor
    · intro e; exact .inl e
    · rintro (e | ⟨e, _⟩)
      · exact e
      · exact absurd (e1.1 e) h1

set_option maxRecDepth 100000 in
set_option maxHeartbeats 1000000 in
theorem rless_any (w : World) (x y : Ky) : Calls Try.prog 55 #[.agg #[.string x.1.tn, .string x.1.ar, .string x.2.s], .agg #[.string y.1.tn, .string y.1.ar, .string y.2.s]] w fun e w' => e = .returned (.bool (bef12 x y)) ∧ Same w w' := by
  have hk : Same w ((w.alloc (.cells #[.string x.1.tn, .string x.1.ar, .string x.2.s] 36)).alloc (.cells #[.string y.1.tn, .string y.1.ar, .string y.2.s] 36)) := ((Kept.refl _ w).alloc _).alloc _
  have HK := hid hk
  clear hk
  have B1 : Blk ((w.alloc (.cells #[.string x.1.tn, .string x.1.ar, .string x.2.s] 36)).alloc (.cells #[.string y.1.tn, .string y.1.ar, .string y.2.s] 36)) w.heap.size #[.string x.1.tn, .string x.1.ar, .string x.2.s] 36 := (Blk.new w _ _).kept (F := fun _ => False) ((Kept.refl _ _).alloc _) (fun f => f)
  have a0 := B1.cell 0
  have a1 := B1.cell 1
  have a2 := B1.cell 2
  simp only [List.getElem?_toArray, List.getElem?_cons_zero, List.getElem?_cons_succ] at a0 a1 a2
  clear B1
  have s1 := streq12 x.1.tn y.1.tn
  have s2 := streq12 x.1.ar y.1.ar
  unfold bef12
  by_cases h1 : x.1.tn = y.1.tn
  · rw [if_pos h1]
    rw [decide_eq_true h1] at s1
    by_cases h2 : x.1.ar = y.1.ar
    · rw [if_pos h2]
      rw [decide_eq_true h2] at s2
      clear h1 h2
      go_enter Try.func55, Try.ntmps55
      go_wp2_with fail
      go_ret
      exact ⟨rfl, HK.out⟩
    · rw [if_neg h2]
      rw [decide_eq_false h2] at s2
      clear h1 h2
      go_enter Try.func55, Try.ntmps55
      go_wp2_with fail
      go_ret
      exact ⟨rfl, HK.out⟩
  · rw [if_neg h1]
    rw [decide_eq_false h1] at s1
    clear h1
    go_enter Try.func55, Try.ntmps55
    go_wp2_with fail
    go_ret
    exact ⟨rfl, HK.out⟩


end Go.Proofs.Ythignkloecfcbaa

/-
  Layer 12, the reference: a row of keys, of which one is written anew; one that sinks.
-/
namespace Go.Proofs.Ythignkloecfcbaa
open Go.RowKit Go.Maps Go.Sort

def kyE (k : Ky) : List Value := [.string k.1.tn, .string k.1.ar, .string k.2.s]
theorem kyE_ok : EncOk kyE 3 := ⟨fun _ => rfl, fun x u hu => by simp [kyE] at hu; rcases hu with rfl | rfl | rfl <;> rfl, by decide⟩
theorem Try.infoKy : (Try.prog.info? 36).map (fun i => (i.zero, i.size, i.bytes)) = some (some (.agg #[.string ⟨#[]⟩, .string ⟨#[]⟩, .string ⟨#[]⟩]), 3, 48) := by kernel_rfl

theorem cellsAt_ky (w : World) (k : Ky) : CellsAt (w.alloc (.cells #[.string k.1.tn, .string k.1.ar, .string k.2.s] 36)) ⟨w.heap.size, 0, none⟩ ([k].flatMap kyE) := by
  have hb := Blk.new w #[.string k.1.tn, .string k.1.ar, .string k.2.s] 36
  intro j u hj
  match j, hj with
  | 0, hj => exact (hb.cell 0).trans hj
  | 1, hj => exact (hb.cell 1).trans hj
  | 2, hj => exact (hb.cell 2).trans hj
  | j + 3, hj => simp [kyE] at hj

theorem flat_setK : ∀ (xs : List Ky) (i : Nat) (k : Ky) (_ : i < xs.length), (((xs.flatMap kyE).set (i * 3) (.string k.1.tn)).set (i * 3 + 1) (.string k.1.ar)).set (i * 3 + 2) (.string k.2.s) = (xs.set i k).flatMap kyE
  | [], i, k, hi => by simp at hi
  | x :: xs, 0, k, _ => by simp [kyE]
  | x :: xs, i + 1, k, hi => by
    have h1 := flat_setK xs i k (by simp at hi; omega)
    rw [List.flatMap_cons, List.set_cons_succ, List.flatMap_cons, ← h1]
    have e : (i + 1) * 3 = i * 3 + 1 + 1 + 1 := by omega
    have e1 : (i + 1) * 3 + 1 = (i * 3 + 1) + 1 + 1 + 1 := by omega
    have e2 : (i + 1) * 3 + 2 = (i * 3 + 2) + 1 + 1 + 1 := by omega
    rw [e, show i * 3 + 1 + 1 + 1 + 1 = (i * 3 + 1) + 1 + 1 + 1 by omega, show i * 3 + 1 + 1 + 1 + 2 = (i * 3 + 2) + 1 + 1 + 1 by omega]
    rfl

def setK (w : World) (g i : Nat) (k : Ky) : World := ((w.setCell ⟨g, i * 3, none⟩ (.string k.1.tn)).setCell ⟨g, i * 3 + 1, none⟩ (.string k.1.ar)).setCell ⟨g, i * 3 + 2, none⟩ (.string k.2.s)

theorem setK_kept (w : World) (g i : Nat) (k : Ky) : Kept (fun j => j = g) w (setK w g i k) := (((Kept.refl (fun j => j = g) w).setCell _ _ (.inl rfl)).setCell _ _ (.inl rfl)).setCell _ _ (.inl rfl)

/-- A key written anew. -/
theorem RowC.setK {B : Nat} {w : World} {g n cap : Nat} {xs : List Ky} (h : RowC B 36 3 kyE w (.slice (some ⟨g, 0, none⟩) n cap) xs) (i : Nat) (k : Ky) (hi : i < xs.length) :
    RowC B 36 3 kyE (setK w g i k) (.slice (some ⟨g, 0, none⟩) n cap) (xs.set i k) := by
  have hl := h.len
  subst hl
  have h1 := (World.ownsRow.stored h (i * 3) (.string k.1.tn)).1
  have h2 := (World.ownsRow.stored h1 (i * 3 + 1) (.string k.1.ar)).1
  have h3 := (World.ownsRow.stored h2 (i * 3 + 2) (.string k.2.s)).1
  rw [flat_setK xs i k hi] at h3
  unfold RowC
  rw [List.length_set]
  exact h3

/-- A list in which one sinks. -/
def snk (A : List Ky) (k : Ky) (n : Nat) : List Ky := A.take n ++ k :: A.drop n

theorem snk_len (A : List Ky) (k : Ky) (n : Nat) (h : n ≤ A.length) : (snk A k n).length = A.length + 1 := by
  unfold snk
  rw [List.length_append, List.length_cons, List.length_take, List.length_drop]
  omega

theorem snk_all (A : List Ky) (k : Ky) : snk A k A.length = A ++ [k] := by
  unfold snk
  rw [List.take_length, List.drop_length]

theorem snk_at (A : List Ky) (k : Ky) (n : Nat) (h : n ≤ A.length) : (snk A k n)[n]'(by rw [snk_len A k n h]; omega) = k := by
  unfold snk
  have hl : (A.take n).length = n := by rw [List.length_take]; omega
  rw [List.getElem_append_right (by omega)]
  simp [hl]

theorem snk_before (A : List Ky) (k : Ky) (m : Nat) (h : m < A.length) : (snk A k (m + 1))[m]'(by rw [snk_len A k (m + 1) (by omega)]; omega) = A[m] := by
  unfold snk
  have hl : (A.take (m + 1)).length = m + 1 := by rw [List.length_take]; omega
  rw [List.getElem_append_left (by omega), List.getElem_take]

theorem snk_swap (A : List Ky) (k : Ky) (m : Nat) (h : m < A.length) : ((snk A k (m + 1)).set (m + 1) A[m]).set m k = snk A k m := by
  unfold snk
  have hl : (A.take m).length = m := by rw [List.length_take]; omega
  have hl1 : (A.take (m + 1)).length = m + 1 := by rw [List.length_take]; omega
  rw [List.set_append_right _ _ (by omega), hl1, Nat.sub_self, List.set_cons_zero, List.take_succ_eq_append_getElem h, List.append_assoc, List.set_append_right _ _ (by omega), hl, Nat.sub_self, List.drop_eq_getElem_cons h]
  rfl

theorem snk_mem (A : List Ky) (k : Ky) (n : Nat) (x : Ky) : x ∈ snk A k n ↔ x = k ∨ x ∈ A := by
  unfold snk
  rw [List.mem_append, List.mem_cons]
  have h := List.take_append_drop n A
  constructor
  · rintro (e | e | e)
    · exact .inr (List.mem_of_mem_take e)
    · exact .inl e
    · exact .inr (List.mem_of_mem_drop e)
  · rintro (e | e)
    · exact .inr (.inl e)
    · rw [← h] at e
      rcases List.mem_append.1 e with e | e
      · exact .inl e
      · exact .inr (.inr e)

theorem snk_ris {A : List Ky} (hA : A.Pairwise ltK12) {k : Ky} (hk : k ∉ A) {n : Nat} (hn : n ≤ A.length) (hd : ∀ x ∈ A.drop n, ltK12 k x) (hs : ∀ m (e : n = m + 1), ¬ ltK12 k (A[m]'(by omega))) : (snk A k n).Pairwise ltK12 := by
  unfold snk
  have hsp := List.take_append_drop n A
  have hA2 := hA
  rw [← hsp] at hA2
  obtain ⟨p1, p2, p3⟩ := List.pairwise_append.1 hA2
  refine List.pairwise_append.2 ⟨p1, List.pairwise_cons.2 ⟨hd, p2⟩, fun x hx y hy => ?_⟩
  rcases List.mem_cons.1 hy with rfl | e
  · cases n with
    | zero => simp at hx
    | succ m =>
      have h0 := hs m rfl
      have h1 : ltK12 (A[m]'(by omega)) y := by
        rcases ltK12_tri y (A[m]'(by omega)) with q | q | q
        · exact absurd q h0
        · exact absurd (by rw [q]; exact List.getElem_mem _) hk
        · exact q
      rw [List.take_succ_eq_append_getElem (by omega)] at hx p1
      rcases List.mem_append.1 hx with e | e
      · exact ltK12_trans ((List.pairwise_append.1 p1).2.2 x e _ (List.mem_singleton.2 rfl)) h1
      · rw [List.mem_singleton.1 e]; exact h1
  · exact p3 x hx y e

/-- The keys of the first versions that are there. -/
structure KyI (L : List Lv) (T : Int) (i : Nat) (ks : List Ky) : Prop where
  ris : ks.Pairwise ltK12
  mem : ∀ k : Ky, k ∈ ks ↔ isTh (ofK L k.1 k.2) T = true ∧ ∃ j, ∃ hj : j < L.length, j < i ∧ (L[j].b, L[j].n) = k
  len : ks.length ≤ i

theorem KyI.skip {L : List Lv} {T : Int} {i : Nat} {ks : List Ky} (h : KyI L T i ks) (hi : i < L.length) (hn : isTh (ofK L L[i].b L[i].n) T = false ∨ (L[i].b, L[i].n) ∈ ks) : KyI L T (i + 1) ks := by
  refine ⟨h.ris, fun k => ?_, by have := h.len; omega⟩
  rw [h.mem k]
  constructor
  · rintro ⟨h1, j, hj, h2, h3⟩
    exact ⟨h1, j, hj, by omega, h3⟩
  · rintro ⟨h1, j, hj, h2, h3⟩
    rcases Nat.lt_or_ge j i with e | e
    · exact ⟨h1, j, hj, e, h3⟩
    · obtain rfl : j = i := by omega
      subst h3
      rcases hn with e2 | e2
      · rw [e2] at h1; cases h1
      · exact (h.mem _).1 e2

theorem KyI.add {L : List Lv} {T : Int} {i : Nat} {ks ks' : List Ky} (h : KyI L T i ks) (hi : i < L.length) (hn : isTh (ofK L L[i].b L[i].n) T = true) (hr : ks'.Pairwise ltK12) (hm : ∀ x, x ∈ ks' ↔ x = (L[i].b, L[i].n) ∨ x ∈ ks) (hl : ks'.length = ks.length + 1) : KyI L T (i + 1) ks' := by
  refine ⟨hr, fun k => ?_, by have := h.len; omega⟩
  rw [hm k, h.mem k]
  constructor
  · rintro (e | ⟨h1, j, hj, h2, h3⟩)
    · subst e
      exact ⟨hn, i, hi, by omega, rfl⟩
    · exact ⟨h1, j, hj, by omega, h3⟩
  · rintro ⟨h1, j, hj, h2, h3⟩
    rcases Nat.lt_or_ge j i with e | e
    · exact .inr ⟨h1, j, hj, e, h3⟩
    · obtain rfl : j = i := by omega
      exact .inl h3.symm

theorem KyI.all {L : List Lv} {T : Int} {ks : List Ky} (h : KyI L T L.length ks) (k : Ky) : k ∈ ks ↔ isTh (ofK L k.1 k.2) T = true := by
  rw [h.mem k]
  refine ⟨fun e => e.1, fun e => ⟨e, ?_⟩⟩
  have hne : ofK L k.1 k.2 ≠ [] := fun e2 => by rw [e2] at e; cases e
  obtain ⟨x, hx⟩ := List.exists_mem_of_ne_nil _ hne
  obtain ⟨j, hj, e1, _⟩ := mem_ofK.1 hx
  obtain ⟨e2, e3⟩ := of_decide_eq_true e1
  exact ⟨j, hj, hj, by rw [e2, e3]⟩

end Go.Proofs.Ythignkloecfcbaa
