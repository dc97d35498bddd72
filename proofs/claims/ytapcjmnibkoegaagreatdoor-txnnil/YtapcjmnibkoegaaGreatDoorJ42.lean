/-
  Of the proof: parts TxV, TxW, TxX.
-/
import Derived.Test.YtapcjmnibkoegaaGreatDoorJ41
import Derived.Test.YtapcjmnibkoegaaGreatDoorJ32
import Derived.Test.YtapcjmnibkoegaaGreatDoorJ20

/-
  Layer 14: would there be too many?
-/
namespace Go.Proofs.YtapcjmnibkoegaaGreatDoor
open Go.RowKit Go.Maps Go.Sort Go.Shelf

def thNow (M : Mst) : Ke → Bool := fun k => (newV (M.V k.1 k.2) (max M.now M.floor)).there

theorem Tryz.zeroArc : (Tryz.prog.info? 83).bind (·.zero) = some (.agg #[.string ⟨#[]⟩, .string ⟨#[]⟩, .slice none 0 0]) := by kernel_rfl
theorem Tryz.sizeArc : (Tryz.prog.info? 83).map (·.size) = some 3 := by kernel_rfl
theorem Tryz.zeroWr : (Tryz.prog.info? 65).bind (·.zero) = some (.agg #[.string ⟨#[]⟩, .string ⟨#[]⟩, .string ⟨#[]⟩, .bool false, .string ⟨#[]⟩]) := by kernel_rfl
theorem Tryz.sizeWr : (Tryz.prog.info? 65).map (·.size) = some 5 := by kernel_rfl

theorem Tryz.sizeKey14 : (Tryz.prog.info? 63).map (·.size) = some 3 := by kernel_rfl

theorem load_cell15 {ty : TypeId} {d : TypeDesc} (hu : Tryz.prog.underlying ty = some d) (hd : (match d with | .struct _ | .array _ _ => true | _ => false) = false) {W : World} {a : Addr} {v : Value} (hc : W.cell? a = some v) : (loadVar ty a).run Tryz.prog W = .ok v W := by
  have hagg : (isAgg ty).run Tryz.prog W = .ok false W := by
    unfold isAgg
    rw [Sem.run_bind, run_underlying hu W]
    cases d <;> simp_all
  simp [loadVar, Sem.run_bind, hagg, hc]

theorem mpI_has {L : List (Nm × Int)} {s : Nm} {y : DataW Unit} (h : ∀ z, (mpG kN inD L).atKey (kN s) z = y) : ∃ f, getG s L = some f ∧ y = inD f := by
  cases hg : getG s L with
  | none =>
    have h1 := h .nil
    have h2 := h (.lit (.int .i64 0))
    rw [mpG_at klN, hg] at h1 h2
    rw [← h1] at h2
    cases h2
  | some f =>
    have h1 := h .nil
    rw [mpG_at klN, hg] at h1
    exact ⟨f, rfl, h1.symm⟩

set_option maxRecDepth 100000 in
set_option maxHeartbeats 2000000 in
theorem tmany_any {K N : Nat} {w : World} {p : Nat} {M : Mst} {bg : Int} {c : Tc} {τ : Nat → Nat} (h : Tk K N w p M bg c τ) (ow : ByteArray) (ws : List Wr) (a0 : Option Addr) (n0 c0 : Nat) (I : Nat → Prop) (hs : SrcC 5 wrE w I (.slice a0 n0 c0) ws) (hlen : ws.length ≤ 100000) :
    Calls Tryz.prog 65 #[.pointer (some ⟨p, 0, none⟩), .string ow, .slice a0 n0 c0] w fun e w' => ∃ D, IsDm (visF M.V M.now) D ∧ e = .returned (.bool (manyB (cntW (thNow M) ws (cntD ow D)))) ∧ Same w w' := by
  have hmm := @run_makeMap Tryz.prog
  have HT := hid h
  have HS := hid hs
  have HL := hid hlen
  obtain ⟨wA, hwA⟩ : ∃ W, W = w.alloc (.map #[] 0) := ⟨_, rfl⟩
  obtain ⟨mb, hmb⟩ : ∃ x, x = w.heap.size := ⟨_, rfl⟩
  have hkA : Same w wA := by rw [hwA]; exact (Kept.refl _ w).alloc _
  have HM0 : Hid (MpI wA mb [] ∧ w.heap.size ≤ mb) := hid ⟨by rw [hwA, hmb]; exact MpG.new w, by omega⟩
  have HKA := hid hkA
  have HD := tdump_any (h.same hkA)
  clear h hs hlen hkA
  go_enter Tryz.func65, Tryz.ntmps65
  go_wp2_with fail
  rw [← hwA, ← hmb]
  clear hwA hmb hmm
  refine HD.mono ?_
  rintro e w2 ⟨v2, As, rfl, hdm, hisd, hAl, hAe, hk2⟩
  obtain ⟨av, cv, rfl, hcells⟩ := hdm.ofs
  have HCE := hid hcells
  have HDM := hid hdm
  have HIS := hid hisd
  have HAE := hid (show As.length ≤ 100000 ∧ ∀ x ∈ As, x.es.length ≤ 100000 from ⟨hAl, hAe⟩)
  have HK2 := hid hk2
  have hmb2 : mb < w2.heap.size := by have := HM0.out.1.lt; have := hk2.size; omega
  have HM2 : Hid (MpI w2 mb (cntD ow (adD (As.take 0))) ∧ SmI 100000 0 (cntD ow (adD (As.take 0)))) := hid ⟨HM0.out.1.kept hk2 (fun f => f), ⟨Nat.le_refl _, fun p hp => by cases hp⟩⟩
  obtain ⟨nA, hnA⟩ : ∃ n, n = As.length := ⟨_, rfl⟩
  rw [← hnA]
  have HNA := hid hnA
  clear hdm hisd hAl hAe hk2 hcells HD hnA
  go_wp2_with fail
  go_loopg [9, 21] nA (fun k _ z wr => ∃ i : Nat, i ≤ nA ∧ nA - i ≤ k ∧ z = .int .i64 (i : Nat) ∧ Hid (MpI wr mb (cntD ow (adD (As.take i))) ∧ SmI 100000 i (cntD ow (adD (As.take i)))) ∧ Hid (Kept (· = mb) w2 wr))
  case atStart => exact ⟨0, by omega, by omega, rfl, HM2, hid (Kept.refl _ _)⟩
  case round =>
    clear HM2
    obtain ⟨i, hi, hik, rfl, HMi, HKi⟩ := hrel
    by_cases hlt : i < nA
    · have hiA : i < As.length := by rw [← HNA.out]; exact hlt
      obtain ⟨g, rfl, e0, e1, e2, e3, _⟩ := HCE.out i hiA
      have hgA : (Value.slice (some ⟨g, 0, none⟩) As.length cv).ownBlock = some g := rfl
      have HGM : Hid (¬ g = mb) := hid (fun e => by
        have h1 := HDM.out.row
        rcases h1.2 with ⟨q1, _⟩ | ⟨g', cap', cur, q1, hb, _⟩
        · cases q1
        · injection q1 with q2 _ _
          injection q2 with q3
          injection q3 with q4 _ _
          have := HM0.out.1.lt
          omega)
      have d0 := HKi.out.cell e0 HGM.out
      have d1 := HKi.out.cell e1 HGM.out
      have d2 := HKi.out.cell e2 HGM.out
      obtain ⟨x, hx⟩ : ∃ x, x = As[i] := ⟨_, rfl⟩
      rw [← hx] at d0 d1 d2 e3
      have HX : Hid (adD (As.take (i + 1)) = adD (As.take i) ++ [(x.b, x.es)] ∧ x.es.length ≤ 100000) := hid ⟨by unfold adD; rw [List.take_succ_eq_append_getElem hiA, List.map_append, hx]; rfl, HAE.out.2 x (by rw [hx]; exact List.getElem_mem _)⟩
      clear e0 e1 e2 hx hgA
      have hnB : nA ≤ 100000 := by rw [HNA.out]; exact HAE.out.1
      obtain ⟨tn, htn⟩ : ∃ t, t = x.b.tn := ⟨_, rfl⟩
      obtain ⟨ar, har⟩ : ∃ t, t = x.b.ar := ⟨_, rfl⟩
      obtain ⟨le, hle⟩ : ∃ t, t = x.es.length := ⟨_, rfl⟩
      rw [← htn] at d0
      rw [← har] at d1
      rw [← hle] at d2
      have HXE : Hid (tn = x.b.tn ∧ ar = (arN x.b).s ∧ le = x.es.length) := hid ⟨htn, har, hle⟩
      obtain ⟨xa, hxa⟩ : ∃ t, t = x.a := ⟨_, rfl⟩
      obtain ⟨xc, hxc⟩ : ∃ t, t = x.c := ⟨_, rfl⟩
      rw [← hxa, ← hxc] at d2
      clear htn har hle hxa hxc e3
      by_cases hto : tn = ow
      · have ht1 : (tn.toList == ow.toList) = true := by rw [hto]; simp
        have HTO := hid hto
        clear hto
        go_upto_region 7 with (first
          | (with_reducible refine at_alloc 83 9 ?_; refine wpl_alloc 83 _ Tryz.zeroArc ?_; intro w3 g3 hB3 hk3 hg3 hl3; have HB3 := hid hB3; have HK3 := hid hk3; clear hB3 hk3)
          | (with_reducible refine at_store 83 9 ?_; refine wpl_store 83 3 Tryz.sizeArc rfl (cells := [.string tn, .string ar, .slice xa le xc]) rfl HB3.out rfl rfl (by simp [Value.oneCell']) ?_; intro w4 hB4 hk4 hs4; have HK4 : Hid (Same wr w4) := hid (HK3.out.then hk4 (fun x hx e => by omega)); have f0 := hB4.cell 0; have f1 := hB4.cell 1; have f2 := hB4.cell 2; simp only [List.getElem?_toArray, List.getElem?_cons_zero, List.getElem?_cons_succ] at f0 f1 f2; clear hB4 hk4 hs4 HB3 HK3))
        obtain ⟨w5, hput, hm5, hk5⟩ := MpI.put1 (HMi.out.1.kept HK4.out (fun f => f)) (arN x.b) ((le : Nat) : Int) (by have := HMi.out.2.1; omega)
        rw [← HXE.out.2.1] at hput
        have HM5 : Hid (MpI w5 mb (cntD ow (adD (As.take (i + 1)))) ∧ SmI 100000 (i + 1) (cntD ow (adD (As.take (i + 1))))) := hid (by
          have e : cntD ow (adD (As.take (i + 1))) = putG kN (arN x.b) ((le : Nat) : Int) (cntD ow (adD (As.take i))) := by
            unfold cntD
            rw [HX.out.1, List.foldl_append, List.foldl_cons, List.foldl_nil, stepD, if_pos (by rw [← HXE.out.1]; exact HTO.out), HXE.out.2.2]
          rw [e]
          exact ⟨hm5, HMi.out.2.put _ _ (Int.le_refl _) (by have := HX.out.2; have := HXE.out.2.2; omega)⟩)
        have HK5 : Hid (Kept (· = mb) w2 w5) := hid (Kept.trans (Kept.trans HKi.out HK4.out (fun _ _ e => e) (fun _ _ f => f.elim)) hk5 (fun _ _ e => e) (fun _ _ e => e))
        clear hm5 hk5 f0 f1 f2
        rw [hput]
        clear hput
        go_wp2_with fail
        go_roundg (gk - 1)
        case measure => omega
        case rel => exact ⟨i + 1, by omega, by omega, by go_num, HM5, HK5⟩
      · have ht1 : (tn.toList == ow.toList) = false := by
          cases hq : (tn.toList == ow.toList) with
          | false => rfl
          | true =>
            refine absurd ?_ hto
            have h9 := eq_of_beq hq
            rw [ByteArray.toList_eq, ByteArray.toList_eq] at h9
            exact ByteArray.ext (Array.toList_inj.1 h9)
        have HTO := hid hto
        clear hto
        go_wp2_with (first
          | (with_reducible refine at_alloc 83 9 ?_; refine wpl_alloc 83 _ Tryz.zeroArc ?_; intro w3 g3 hB3 hk3 hg3 hl3; have HB3 := hid hB3; have HK3 := hid hk3; clear hB3 hk3)
          | (with_reducible refine at_store 83 9 ?_; refine wpl_store 83 3 Tryz.sizeArc rfl (cells := [.string tn, .string ar, .slice xa le xc]) rfl HB3.out rfl rfl (by simp [Value.oneCell']) ?_; intro w4 hB4 hk4 hs4; have HK4 : Hid (Same wr w4) := hid (HK3.out.then hk4 (fun x hx e => by omega)); have f0 := hB4.cell 0; have f1 := hB4.cell 1; have f2 := hB4.cell 2; simp only [List.getElem?_toArray, List.getElem?_cons_zero, List.getElem?_cons_succ] at f0 f1 f2; clear hB4 hk4 hs4 HB3 HK3))
        have HM5 : Hid (MpI w4 mb (cntD ow (adD (As.take (i + 1)))) ∧ SmI 100000 (i + 1) (cntD ow (adD (As.take (i + 1))))) := hid (by
          have e : cntD ow (adD (As.take (i + 1))) = cntD ow (adD (As.take i)) := by
            unfold cntD
            rw [HX.out.1, List.foldl_append, List.foldl_cons, List.foldl_nil, stepD, if_neg (by rw [← HXE.out.1]; exact HTO.out)]
          rw [e]
          exact ⟨HMi.out.1.kept HK4.out (fun f => f), HMi.out.2.more (Int.le_refl _) (by omega)⟩)
        have HK5 : Hid (Kept (· = mb) w2 w4) := hid (Kept.trans HKi.out HK4.out (fun _ _ e => e) (fun _ _ f => f.elim))
        go_roundg (gk - 1)
        case measure => omega
        case rel => exact ⟨i + 1, by omega, by omega, by go_num, HM5, HK5⟩
    · have hin : i = nA := by omega
      rw [List.take_of_length_le (by have := HNA.out; omega)] at HMi
      obtain ⟨D, hD⟩ : ∃ D, D = adD As := ⟨_, rfl⟩
      rw [← hD] at HMi HIS
      obtain ⟨a1, c1, e1, hc1⟩ : ∃ a c, Value.slice a0 n0 c0 = .slice a ws.length c ∧ ∀ j (hj : j < ws.length), ∃ b o, a = some ⟨b, o, none⟩ ∧ w.cell? ⟨b, o + j * 5, none⟩ = some (.string ws[j].b.tn) ∧ w.cell? ⟨b, o + j * 5 + 1, none⟩ = some (.string ws[j].b.ar) ∧ w.cell? ⟨b, o + j * 5 + 2, none⟩ = some (.string ws[j].n.s) ∧ w.cell? ⟨b, o + j * 5 + 3, none⟩ = some (.bool ws[j].there) ∧ w.cell? ⟨b, o + j * 5 + 4, none⟩ = some (.string ws[j].data) := by
        obtain ⟨ao, cap, q1, _, q2⟩ := HS.out
        refine ⟨ao, cap, q1, fun j hj => ?_⟩
        obtain ⟨b, o, q3, _, q4⟩ := q2 (by rintro rfl; simp at hj)
        exact ⟨b, o, q3, q4 j hj 0 (by decide), q4 j hj 1 (by decide), q4 j hj 2 (by decide), q4 j hj 3 (by decide), q4 j hj 4 (by decide)⟩
      injection e1 with e2 e3 e4
      subst e2 e4
      have HC1 := hid hc1
      have HN0 := hid e3
      have HKW2 : Hid (Same w w2) := hid (HKA.out.trans HK2.out)
      have hmbw : w.heap.size ≤ mb := HM0.out.2
      have HWI : Hid (MpI wr mb (cntW (thNow M) (ws.take 0) (cntD ow D)) ∧ SmI (100000 + 0) (nA + 0) (cntW (thNow M) (ws.take 0) (cntD ow D))) := hid ⟨HMi.out.1, by rw [← hin]; exact HMi.out.2⟩
      have HNB : Hid (nA ≤ 100000 ∧ n0 ≤ 100000) := hid ⟨by rw [HNA.out]; exact HAE.out.1, by rw [e3]; exact HL.out⟩
      have q0 : ¬ i < nA := by omega
      clear hc1 HMi hD hik hi hin e3 hlt
      go_wp2_with fail
      clear q0
      go_loopg [11, 12, 13, 38] n0 (fun k _ _ _ z wx => ∃ j : Nat, j ≤ n0 ∧ n0 - j ≤ k ∧ z = .int .i64 (j : Nat) ∧ Hid (MpI wx mb (cntW (thNow M) (ws.take j) (cntD ow D)) ∧ SmI (100000 + j) (nA + j) (cntW (thNow M) (ws.take j) (cntD ow D))) ∧ Hid (Kept (· = mb) w2 wx))
      case atStart => exact ⟨0, by omega, by omega, rfl, HWI, HKi⟩
      case round =>
        clear HWI HKi
        obtain ⟨j, hj, hjk, rfl, HMj, HKj⟩ := hrel
        by_cases hlt : j < n0
        · have hjw : j < ws.length := by rw [← HN0.out]; exact hlt
          obtain ⟨b, o, rfl, d0, d1, d2, d3, d4⟩ := HC1.out j hjw
          have HKwj : Hid (Same w wr) := hid (HKW2.out.then HKj.out (fun x hx e => by omega))
          have c0 := HKwj.out.cell d0 (fun f => f)
          have c1' := HKwj.out.cell d1 (fun f => f)
          have c2 := HKwj.out.cell d2 (fun f => f)
          have c3 := HKwj.out.cell d3 (fun f => f)
          have c4 := HKwj.out.cell d4 (fun f => f)
          obtain ⟨x, hx⟩ : ∃ x, x = ws[j] := ⟨_, rfl⟩
          rw [← hx] at c0 c1' c2 c3 c4
          have HXW : Hid (ws.take (j + 1) = ws.take j ++ [x]) := hid (by rw [List.take_succ_eq_append_getElem hjw, hx])
          obtain ⟨tn, htn⟩ : ∃ t, t = x.b.tn := ⟨_, rfl⟩
          obtain ⟨ar, har⟩ : ∃ t, t = x.b.ar := ⟨_, rfl⟩
          obtain ⟨en, hen⟩ : ∃ t, t = x.n.s := ⟨_, rfl⟩
          obtain ⟨xt, hxt⟩ : ∃ t, t = x.there := ⟨_, rfl⟩
          obtain ⟨xd, hxd⟩ : ∃ t, t = x.data := ⟨_, rfl⟩
          rw [← htn] at c0
          rw [← har] at c1'
          rw [← hen] at c2
          rw [← hxt] at c3
          rw [← hxd] at c4
          have HXE : Hid (tn = x.b.tn ∧ ar = x.b.ar ∧ en = x.n.s ∧ xt = x.there) := hid ⟨htn, har, hen, hxt⟩
          have hn0 : n0 ≤ 100000 := HNB.out.2
          clear htn har hen hxt hxd d0 d1 d2 d3 d4 hx
          go_upto_region 11 with (first
            | (with_reducible refine at_alloc 65 11 ?_; refine wpl_alloc 65 _ Tryz.zeroWr ?_; intro w3 g3 hB3 hk3 hg3 hl3; have HB3 := hid hB3; have HK3 := hid hk3; clear hB3 hk3)
            | (with_reducible refine at_store 65 11 ?_; refine wpl_store 65 5 Tryz.sizeWr rfl (cells := [.string tn, .string ar, .string en, .bool xt, .string xd]) rfl HB3.out rfl rfl (by simp [Value.oneCell']) ?_; intro w4 hB4 hk4 hs4; have HK4 : Hid (Same wr w4) := hid (HK3.out.then hk4 (fun x hx e => by omega)); have HB4 := hid hB4; clear hB4 hk4 hs4 HB3 HK3))
          have HKw4 : Hid (Same w w4) := hid (HKwj.out.trans HK4.out)
          have HT4 := hid (HT.out.same HKw4.out)
          obtain ⟨ps, hps⟩ : ∃ x, x = c.ps := ⟨_, rfl⟩
          have HP0 : Hid (∀ W, Same w4 W → (loadVar 86 ⟨p, 0, none⟩).run Tryz.prog W = .ok (.pointer (some ⟨ps, 0, none⟩)) W) := hid (fun W hW => load_cell15 Tryz.underlying86 rfl (by rw [hps]; exact (HT4.out.same hW).blk.cell 0))
          have HKY : Hid (∀ W, Same w4 W → (loadVar 63 ⟨g3, 0, none⟩).run Tryz.prog W = .ok (.agg #[.string tn, .string ar, .string en]) W) := hid (fun W hW => run_load15 63 3 _ Tryz.underlying63 rfl Tryz.sizeKey14 (HB4.out.kept hW (fun f => f)) [.string tn, .string ar, .string en] rfl rfl)
          have HNW : Hid (∀ W, Same w4 W → Calls Tryz.prog 59 #[.pointer (some ⟨ps, 0, none⟩)] W (fun e w' => e = .returned (.int .i64 M.now) ∧ Same W w')) := hid (fun W hW => (xnow (by rw [hps]; exact (HT4.out.same hW).sto)).mono (fun e w' h9 => ⟨h9.1, by rw [h9.2]; exact Kept.refl _ _⟩))
          have HGE : Hid (∀ W, Same w4 W → Calls Tryz.prog 106 #[.pointer (some ⟨ps, 0, none⟩), .agg #[.string tn, .string ar, .string en], .int .i64 M.now] W (fun e w' => e = .returned (getA (M.V x.b x.n) (max M.now M.floor)) ∧ Same W w')) := hid (fun W hW => by rw [HXE.out.1, HXE.out.2.1, HXE.out.2.2.1, hps]; exact xget (HT4.out.same hW).sto x.b x.n M.now)
          obtain ⟨th, hth⟩ : ∃ t, t = thNow M (x.b, x.n) := ⟨_, rfl⟩
          have HTH := hid hth
          obtain ⟨gd, hgd⟩ : ∃ d, getA (M.V x.b x.n) (max M.now M.floor) = .tuple #[.string d, .bool th] := ⟨_, by rw [hth]; rfl⟩
          rw [hgd] at HGE
          clear hth hgd hps
          refine wp_region_same (by kernel_rfl) (by kernel_rfl) ?_
          refine wpq_value rfl (.pointer (some ⟨p, 0, none⟩)) (fun W _ => rfl) ?_
          simp only [Act.put, List.setIfInBounds_toArray, List.set_cons_zero, List.set_cons_succ]
          refine wpq_value rfl (.pointer (some ⟨p, 0, none⟩)) (fun W _ => rfl) ?_
          simp only [Act.put, List.setIfInBounds_toArray, List.set_cons_zero, List.set_cons_succ]
          refine wpq_value rfl (.pointer (some ⟨p, 0, none⟩)) (fun W _ => by go_simp) ?_
          simp only [Act.put, List.setIfInBounds_toArray, List.set_cons_zero, List.set_cons_succ]
          refine wpq_value rfl _ (fun W hW => run_load_op _ rfl (HP0.out W hW)) ?_
          simp only [Act.put, List.setIfInBounds_toArray, List.set_cons_zero, List.set_cons_succ]
          refine wpq_value rfl (.pointer (some ⟨g3, 0, none⟩)) (fun W _ => by go_simp) ?_
          simp only [Act.put, List.setIfInBounds_toArray, List.set_cons_zero, List.set_cons_succ]
          refine wpq_value rfl _ (fun W hW => run_load_op _ rfl (HKY.out W hW)) ?_
          simp only [Act.put, List.setIfInBounds_toArray, List.set_cons_zero, List.set_cons_succ]
          refine wpq_value rfl (.pointer (some ⟨p, 0, none⟩)) (fun W _ => rfl) ?_
          simp only [Act.put, List.setIfInBounds_toArray, List.set_cons_zero, List.set_cons_succ]
          refine wpq_value rfl (.pointer (some ⟨p, 0, none⟩)) (fun W _ => rfl) ?_
          simp only [Act.put, List.setIfInBounds_toArray, List.set_cons_zero, List.set_cons_succ]
          refine wpq_value rfl (.pointer (some ⟨p, 0, none⟩)) (fun W _ => by go_simp) ?_
          simp only [Act.put, List.setIfInBounds_toArray, List.set_cons_zero, List.set_cons_succ]
          refine wpq_value rfl _ (fun W hW => run_load_op _ rfl (HP0.out W hW)) ?_
          simp only [Act.put, List.setIfInBounds_toArray, List.set_cons_zero, List.set_cons_succ]
          refine wpq_call rfl 59 #[.pointer (some ⟨ps, 0, none⟩)] _ (fun W => by go_simp) (calls_same HNW.out) ?_
          simp only [Act.put, List.setIfInBounds_toArray, List.set_cons_zero, List.set_cons_succ]
          refine wpq_call rfl 106 #[.pointer (some ⟨ps, 0, none⟩), .agg #[.string tn, .string ar, .string en], .int .i64 M.now] _ (fun W => by go_simp) (calls_same HGE.out) ?_
          simp only [Act.put, List.setIfInBounds_toArray, List.set_cons_zero, List.set_cons_succ]
          refine wpq_value rfl (.tuple #[.string gd, .bool th]) (fun W _ => rfl) ?_
          simp only [Act.put, List.setIfInBounds_toArray, List.set_cons_zero, List.set_cons_succ]
          refine wpq_value rfl (.string gd) (fun W _ => rfl) ?_
          simp only [Act.put, List.setIfInBounds_toArray, List.set_cons_zero, List.set_cons_succ]
          refine wpq_value rfl (.bool th) (fun W _ => rfl) ?_
          simp only [Act.put, List.setIfInBounds_toArray, List.set_cons_zero, List.set_cons_succ]
          refine wpq_value rfl (.string gd) (fun W _ => rfl) ?_
          simp only [Act.put, List.setIfInBounds_toArray, List.set_cons_zero, List.set_cons_succ]
          refine wpq_value rfl (.bool th) (fun W _ => rfl) ?_
          simp only [Act.put, List.setIfInBounds_toArray, List.set_cons_zero, List.set_cons_succ]
          refine wpQuiet_nil ?_
          intro w5 hk5
          have HK5 : Hid (Same wr w5) := hid (HK4.out.trans hk5)
          have HB5 := hid (HB4.out.kept hk5 (fun f => f))
          have f1 := HB5.out.cell 1
          have f3 := HB5.out.cell 3
          simp only [List.getElem?_toArray, List.getElem?_cons_zero, List.getElem?_cons_succ] at f1 f3
          have hM5 := HMj.out.1.kept HK5.out (fun f => f)
          have HL5 : Hid ((cntW (thNow M) (ws.take j) (cntD ow D)).length ≤ 1000000000) := hid (by have := HMj.out.2.1; have := HNB.out; omega)
          obtain ⟨C, hC⟩ : ∃ C, C = cntW (thNow M) (ws.take j) (cntD ow D) := ⟨_, rfl⟩
          rw [← hC] at hM5 HL5 HMj
          have HNX : Hid (cntW (thNow M) (ws.take (j + 1)) (cntD ow D) = stepW (thNow M) C x) := hid (by unfold cntW; rw [HXW.out, List.foldl_append, List.foldl_cons, List.foldl_nil]; unfold cntW at hC; rw [← hC])
          have hlk := MpI.look1 hM5 (arN x.b)
          have hgb := HMj.out.2.get (by omega) (arN x.b)
          obtain ⟨gz, hgz⟩ : ∃ z, z = getI (arN x.b) C := ⟨_, rfl⟩
          rw [← hgz] at hlk hgb
          rw [show (arN x.b).s = ar by rw [HXE.out.2.1]; rfl] at hlk
          have HK5w : Hid (Kept (· = mb) w2 w5) := hid (Kept.trans HKj.out HK5.out (fun _ _ e => e) (fun _ _ f => f.elim))
          have hw1 : IntKind.i64.wrap (gz + 1) = gz + 1 := by rw [IntKind.wrap_i64]; have := HNB.out; omega
          have hw2 : IntKind.i64.wrap (gz - 1) = gz - 1 := by rw [IntKind.wrap_i64]; have := HNB.out; omega
          have HSM := hid HMj.out.2
          have HXT : Hid (xt = x.there ∧ th = thNow M (x.b, x.n) ∧ gz = getI (arN x.b) C ∧ ar = (arN x.b).s) := hid ⟨HXE.out.2.2.2, HTH.out, hgz, by rw [HXE.out.2.1]; rfl⟩
          have HM5 := hid hM5
          clear hk5 hC hgz hM5 HMj c0 c1' c2 c3 c4
          cases hxt : xt with
          | true =>
            rw [hxt] at f3
            cases hth : th with
            | true =>
              have HM6 : Hid (MpI w5 mb (cntW (thNow M) (ws.take (j + 1)) (cntD ow D)) ∧ SmI (100000 + (j + 1 : Nat)) (nA + (j + 1)) (cntW (thNow M) (ws.take (j + 1)) (cntD ow D))) := hid (by
                have e : stepW (thNow M) C x = C := by unfold stepW; rw [← HXT.out.1, ← HXT.out.2.1, hxt, hth]; rfl
                rw [HNX.out, e]
                exact ⟨HM5.out, HSM.out.more (by omega) (by omega)⟩)
              clear HM5 HSM HNX
              go_wp2_with fail
              go_roundg (gk - 1)
              case measure => omega
              case rel => exact ⟨j + 1, by omega, by omega, by go_num, HM6, HK5w⟩
            | false =>
              obtain ⟨w6, hput, hm6, hk6⟩ := MpI.put1 HM5.out (arN x.b) (gz + 1) HL5.out
              rw [← HXT.out.2.2.2] at hput
              have HM6 : Hid (MpI w6 mb (cntW (thNow M) (ws.take (j + 1)) (cntD ow D)) ∧ SmI (100000 + (j + 1 : Nat)) (nA + (j + 1)) (cntW (thNow M) (ws.take (j + 1)) (cntD ow D))) := hid (by
                have e : stepW (thNow M) C x = putG kN (arN x.b) (gz + 1) C := by unfold stepW; rw [← HXT.out.1, ← HXT.out.2.1, hxt, hth, HXT.out.2.2.1]; rfl
                rw [HNX.out, e]
                exact ⟨hm6, HSM.out.put _ _ (by omega) (by omega)⟩)
              have HK6w : Hid (Kept (· = mb) w2 w6) := hid (Kept.trans HK5w.out hk6 (fun _ _ e => e) (fun _ _ e => e))
              have f4 := (HB5.out.kept hk6 (by have := HKj.out.size; omega)).cell 3
              simp only [List.getElem?_toArray, List.getElem?_cons_zero, List.getElem?_cons_succ] at f4
              rw [hxt] at f4
              clear hm6 hk6 HM5 HSM HNX
              go_wp2_with fail
              go_roundg (gk - 1)
              case measure => omega
              case rel => exact ⟨j + 1, by omega, by omega, by go_num, HM6, HK6w⟩
          | false =>
            rw [hxt] at f3
            cases hth : th with
            | true =>
              obtain ⟨w6, hput, hm6, hk6⟩ := MpI.put1 HM5.out (arN x.b) (gz - 1) HL5.out
              rw [← HXT.out.2.2.2] at hput
              have HM6 : Hid (MpI w6 mb (cntW (thNow M) (ws.take (j + 1)) (cntD ow D)) ∧ SmI (100000 + (j + 1 : Nat)) (nA + (j + 1)) (cntW (thNow M) (ws.take (j + 1)) (cntD ow D))) := hid (by
                have e : stepW (thNow M) C x = putG kN (arN x.b) (gz - 1) C := by unfold stepW; rw [← HXT.out.1, ← HXT.out.2.1, hxt, hth, HXT.out.2.2.1]; rfl
                rw [HNX.out, e]
                exact ⟨hm6, HSM.out.put _ _ (by omega) (by omega)⟩)
              have HK6w : Hid (Kept (· = mb) w2 w6) := hid (Kept.trans HK5w.out hk6 (fun _ _ e => e) (fun _ _ e => e))
              have f4 := (HB5.out.kept hk6 (by have := HKj.out.size; omega)).cell 3
              simp only [List.getElem?_toArray, List.getElem?_cons_zero, List.getElem?_cons_succ] at f4
              rw [hxt] at f4
              clear hm6 hk6 HM5 HSM HNX
              go_wp2_with fail
              go_roundg (gk - 1)
              case measure => omega
              case rel => exact ⟨j + 1, by omega, by omega, by go_num, HM6, HK6w⟩
            | false =>
              have HM6 : Hid (MpI w5 mb (cntW (thNow M) (ws.take (j + 1)) (cntD ow D)) ∧ SmI (100000 + (j + 1 : Nat)) (nA + (j + 1)) (cntW (thNow M) (ws.take (j + 1)) (cntD ow D))) := hid (by
                have e : stepW (thNow M) C x = C := by unfold stepW; rw [← HXT.out.1, ← HXT.out.2.1, hxt, hth]; rfl
                rw [HNX.out, e]
                exact ⟨HM5.out, HSM.out.more (by omega) (by omega)⟩)
              clear HM5 HSM HNX
              go_wp2_with fail
              go_roundg (gk - 1)
              case measure => omega
              case rel => exact ⟨j + 1, by omega, by omega, by go_num, HM6, HK5w⟩
        · rw [List.take_of_length_le (by have := HN0.out; omega)] at HMj
          obtain ⟨C, hC⟩ : ∃ C, C = cntW (thNow M) ws (cntD ow D) := ⟨_, rfl⟩
          rw [← hC] at HMj
          have HCC := hid hC
          have HMC : Hid (MpI wr mb C) := hid HMj.out.1
          have HSC : Hid (C.length ≤ 200000 ∧ C.Pairwise (fun p q => p.1 ≠ q.1)) := hid ⟨by have := HMj.out.2.1; have := HNB.out; omega, HMC.out.apart nameKey⟩
          have HKE : Hid (Same w wr) := hid (HKW2.out.then HKj.out (fun x hx e => by omega))
          have q0 : ¬ j < n0 := hlt
          clear hC HMj hjk hj hlt HC1
          go_wp2_with (at_range; refine wpList_range_own _ rfl _ 186 rfl 9 3 nameKey Tryz.underlying186 inR mb C.length (mpG kN inD C) rfl HMC.out ?_; intro w0 hrg0 hg0 hs0)
          obtain ⟨r, hr⟩ : ∃ r, r = wr.heap.size := ⟨_, rfl⟩
          rw [← hr] at hrg0 ⊢
          have HK0 : Hid (Same w w0 ∧ w.heap.size ≤ r) := hid ⟨HKE.out.trans ((Kept.refl _ wr).grown hg0 (fun k e => by cases e)), by rw [hr]; exact HKE.out.size⟩
          obtain ⟨K0, hK0⟩ : ∃ k, k = Maps.size (mpG kN inD C) := ⟨_, rfl⟩
          have HR0 : Hid (w0.ranges Tryz.prog 9 inR mb r C.length (mpG kN inD C) (Maps.has (mpG kN inD C)) K0) := hid (by rw [hK0]; exact hrg0)
          clear hrg0 hg0 hs0 hr hK0 q0
          go_wp2_with fail
          go_frame
          go_loopg [14, 16] K0 (fun q z4 _ wx => ∃ (a : Nat) (left : Lit → Bool) (cnt : Nat), z4 = .int .i64 (a : Nat) ∧ cnt ≤ q ∧ a ≤ 200000 ∧ Hid (wx.ranges Tryz.prog 9 inR mb r C.length (mpG kN inD C) left cnt ∧ CtI C left a ∧ Same w wx))
          case atStart => exact ⟨0, _, _, rfl, Nat.le_refl _, by omega, hid ⟨HR0.out, CtI.start C, HK0.out.1⟩⟩
          case round =>
            obtain ⟨a, left, cnt, rfl, hcnt, ha, HI⟩ := hrel
            go_wp2_with (at_next; refine wpList_next_ranges _ rfl (.tmp 83) rfl 9 nameKey inR (fun x : Value => x) (fun x : Value => x) (fun key kl _ => ⟨key, rfl⟩) (fun v y _ => ⟨v, rfl⟩) mb r C.length (mpG kN inD C) left cnt rfl HI.out.1 ?_ ?_)
            · intro hc0 hl0
              have HE : Hid (manyB C = decide (16 < (a : Int))) := hid (HI.out.2.1.done hl0)
              clear hc0 hl0
              go_wp2_with fail
              go_ret
              exact ⟨D, HIS.out, by rw [← HCC.out, HE.out]; rfl, HI.out.2.2⟩
            · intro x cc kl y1 y2 w7 cnt2 hkey hlx hv hat hrg2 hlt hg2 hs2 hen
              obtain ⟨nm, rfl, rfl⟩ := keyN_inv hkey
              obtain ⟨z, hgn, hy⟩ := mpI_has hat
              obtain rfl : cc = .int .i64 z := rdInt.inv _ z y2 (by rw [hv, hy])
              have hk7 : Same w w7 := Kept.trans HI.out.2.2 ((Kept.refl (· = r) wr).grown hg2 (fun k e => .inl (by simpa using e.symm))) (fun _ _ f => f) (fun k hk e => by have := HK0.out.2; omega)
              by_cases hz : 64 < z
              · have HE : Hid (manyB C = true ∧ Same w w7) := hid ⟨many_one (getG_mem hgn) hz, hk7⟩
                clear hkey hlx hv hat hrg2 hlt hg2 hs2 hy hgn hk7
                go_wp2_with fail
                go_ret
                exact ⟨D, HIS.out, by rw [← HCC.out, HE.out.1]; rfl, HE.out.2⟩
              · have HN : Hid (w7.ranges Tryz.prog 9 inR mb r C.length (mpG kN inD C) (fun y => left y && !y.sameKey (kN nm)) cnt2 ∧ CtI C (fun y => left y && !y.sameKey (kN nm)) (if 0 < z then a + 1 else a) ∧ Same w w7 ∧ cnt2 < cnt) := hid ⟨hrg2, HI.out.2.1.next HSC.out.2 hgn hlx (by omega), hk7, hlt⟩
                have hal : (if 0 < z then a + 1 else a) ≤ 200000 := by
                  rw [HN.out.2.1.num]
                  exact Nat.le_trans (List.length_filter_le _ _) HSC.out.1
                clear hkey hlx hv hat hrg2 hlt hg2 hs2 hy hgn hk7
                by_cases hz0 : 0 < z
                · rw [if_pos hz0] at HN hal
                  go_wp2_with fail
                  go_roundg (gk - 1)
                  case measure => have := HN.out.2.2.2; omega
                  case rel => exact ⟨a + 1, _, cnt2, by go_num, by have := HN.out.2.2.2; omega, hal, hid ⟨HN.out.1, HN.out.2.1, HN.out.2.2.1⟩⟩
                · rw [if_neg hz0] at HN hal
                  go_wp2_with fail
                  go_roundg (gk - 1)
                  case measure => have := HN.out.2.2.2; omega
                  case rel => exact ⟨a, _, cnt2, by go_num, by have := HN.out.2.2.2; omega, hal, hid ⟨HN.out.1, HN.out.2.1, HN.out.2.2.1⟩⟩

end Go.Proofs.YtapcjmnibkoegaaGreatDoor

/-
  Layer 14: Check.
-/
namespace Go.Proofs.YtapcjmnibkoegaaGreatDoor
open Go.RowKit Go.Maps Go.Sort Go.Shelf

theorem Tryz.zeroCm : (Tryz.prog.info? 59).bind (·.zero) = some (.agg #[.int .i64 0, .slice none 0 0]) := by kernel_rfl
theorem Tryz.sizeCm : (Tryz.prog.info? 59).map (·.size) = some 2 := by kernel_rfl

def conB (M : Mst) (c : Tc) (q : Nat) : Bool := decide (0 ≤ (chkM (c.mv q) (c.cl.drop (lowC c M q))).1)

/-- What Check says of a transaction. -/
def CkR (M : Mst) (c : Tc) (n : Nb) (t er : Int) (xs : List Wr) : Prop :=
  (getK n c.L = none ∧ er = 140 ∧ t = 0 ∧ xs = []) ∨ ∃ q ys, getK n c.L = some q ∧ StW (c.mv q) ys ∧ ys.length ≤ 100000 ∧
    ((ys = [] ∧ er = 0 ∧ t = 0 ∧ xs = []) ∨ (ys ≠ [] ∧ conB M c q = true ∧ er = 142 ∧ t = 0 ∧ xs = []) ∨
      (ys ≠ [] ∧ conB M c q = false ∧ ∃ D, IsDm (visF M.V M.now) D ∧
        ((manyB (cntW (thNow M) ys (cntD (c.ow q).s D)) = true ∧ er = 145 ∧ t = 0 ∧ xs = []) ∨ (manyB (cntW (thNow M) ys (cntD (c.ow q).s D)) = false ∧ er = 0 ∧ t = M.now ∧ xs = ys))))

/-- What Check tells. -/
def CkA (w : World) (M : Mst) (c : Tc) (n : Nb) (e : Ending) (w' : World) : Prop :=
  Same w w' ∧ ∃ (t : Int) (a : Option Addr) (m cap : Nat) (er : Int) (xs : List Wr), e = .returned (.tuple #[.agg #[.int .i64 t, .slice a m cap], .int .i64 er]) ∧ CkR M c n t er xs ∧ RowC w.heap.size 65 5 wrE w' (.slice a m cap) xs

theorem cka_none {w w1 w' : World} {M : Mst} {c : Tc} {n : Nb} {er : Int} {xb : Nat} (hk : Same w w1) (hx : w.heap.size ≤ xb) (hk2 : Kept (· = xb) w1 w') (hr : CkR M c n 0 er []) : CkA w M c n (.returned (.tuple #[.agg #[.int .i64 0, .slice none 0 0], .int .i64 er])) w' :=
  ⟨hk.then hk2 (fun x hx2 e => by omega), 0, none, 0, 0, er, [], rfl, hr, RowC.nil⟩

set_option maxRecDepth 100000 in
set_option maxHeartbeats 2000000 in
theorem tcheck_any {K N : Nat} {w : World} {p : Nat} {M : Mst} {bg : Int} {c : Tc} {τ : Nat → Nat} (h : Tk K N w p M bg c τ) (n : Nb) (hs : ∀ x ∈ c.L, 0 ≤ (c.mv x.2).t ∧ (c.mv x.2).t ≤ M.now - 1 ∧ M.now - 1 - (c.mv x.2).t ≤ c.cl.length) (hnum : ∀ y ∈ c.cl, -9223372036854775808 ≤ y.t ∧ y.t ≤ 9223372036854775807) (hn0 : 1 ≤ M.now ∧ M.now ≤ 9223372036854775806) :
    Calls Tryz.prog 23 #[.pointer (some ⟨p, 0, none⟩), .int .i64 n.v] w fun e w' => CkA w M c n e w' := by
  have HT := hid h
  have HS := hid hs
  have HNU := hid hnum
  have HN0 := hid hn0
  clear h hs hnum hn0
  go_enter Tryz.func23, Tryz.ntmps23
  go_wp2_with (with_reducible refine at_alloc 59 4 ?_; refine wpl_alloc 59 _ Tryz.zeroCm ?_; intro w1 xb hB1 hk1 hg1 hl1; have HB1 := hid hB1; have HK1 := hid hk1; clear hB1 hk1)
  have HT1 := hid (HT.out.same HK1.out)
  have HF := tfind_any HT1.out n
  cases hg : getK n c.L with
  | none =>
    rw [hg] at HF
    change Calls _ _ _ _ (fun e w' => e = .returned (.tuple #[.pointer none, .int .i64 140]) ∧ w' = w1) at HF
    have HG := hid hg
    clear hg
    refine HF.mono ?_
    rintro e w2 ⟨rfl, hw2⟩
    have hw9 := hw2.symm
    subst hw9
    clear HF
    go_wp2_with (with_reducible refine at_store 59 4 ?_; refine wpl_store 59 2 Tryz.sizeCm rfl (cells := [.int .i64 0, .slice none 0 0]) rfl HB1.out rfl rfl (by simp [Value.oneCell']) ?_; intro w4 hB4 hk4 hs4; have HB4 := hid hB4; have HK4 := hid hk4; clear hB4 hk4)
    refine bodyPost_ret (v := .tuple #[.agg #[.int .i64 0, .slice none 0 0], .int .i64 140]) (by rw [results_14b (p := 4) (b := 5) (ty := 59) rfl _ _ _ _ _ ⟨xb, 0, none⟩ _ rfl (loadC14 HB4.out)]; rfl) rfl ?_
    exact cka_none HK1.out hg1 HK4.out (.inl ⟨HG.out, rfl, rfl, rfl⟩)
  | some q =>
    rw [hg] at HF
    change Calls _ _ _ _ (fun e w' => e = .returned (.tuple #[.pointer (some ⟨q, 0, none⟩), .int .i64 0]) ∧ w' = w1) at HF
    have HG := hid hg
    have HM := hid (getK_mem hg)
    clear hg
    refine HF.mono ?_
    rintro e w2 ⟨rfl, hw2⟩
    have hw9 := hw2.symm
    subst hw9
    clear HF
    have q2 : w1.cell? ⟨q, 2, none⟩ = some (.pointer (some ⟨c.st q, 0, none⟩)) := (HT1.out.tb _ HM.out).cell 2
    have HW := xvwrites (HT1.out.ts _ HM.out)
    obtain ⟨st, hst⟩ : ∃ x, x = c.st q := ⟨_, rfl⟩
    change Calls _ _ #[.pointer (some ⟨c.st q, 0, none⟩)] _ _ at HW
    rw [← hst] at q2 HW
    clear hst
    go_wp2_with fail
    refine HW.mono ?_
    rintro e w2 ⟨v, xs, rfl, hsw, hrow, hk2, hlen⟩
    obtain ⟨av, cv, rfl, _⟩ := hrow.shape
    obtain ⟨m, hm⟩ : ∃ m, m = xs.length := ⟨_, rfl⟩
    rw [← hm] at hrow ⊢
    have HX : Hid (StW (c.mv q) xs ∧ xs.length ≤ 100000 ∧ m = xs.length) := hid ⟨hsw, hlen, hm⟩
    have HR := hid hrow
    have HK2 := hid hk2
    have HB2 := hid (HB1.out.kept hk2 (fun f => f))
    have HKw2 := hid (HK1.out.trans hk2)
    clear HW hsw hlen hm hrow hk2 q2
    rcases Nat.eq_zero_or_pos m with hm0 | hm0
    · subst hm0
      have HE : Hid (xs = []) := hid (List.length_eq_zero_iff.1 HX.out.2.2.symm)
      go_wp2_with (with_reducible refine at_store 59 4 ?_; refine wpl_store 59 2 Tryz.sizeCm rfl (cells := [.int .i64 0, .slice none 0 0]) rfl HB2.out rfl rfl (by simp [Value.oneCell']) ?_; intro w4 hB4 hk4 hs4; have HB4 := hid hB4; have HK4 := hid hk4; clear hB4 hk4)
      refine bodyPost_ret (v := .tuple #[.agg #[.int .i64 0, .slice none 0 0], .int .i64 0]) (by rw [results_14b (p := 4) (b := 5) (ty := 59) rfl _ _ _ _ _ ⟨xb, 0, none⟩ _ rfl (loadC14 HB4.out)]; rfl) rfl ?_
      exact cka_none HKw2.out hg1 HK4.out (.inr ⟨q, xs, HG.out, HX.out.1, HX.out.2.1, .inl ⟨HE.out, rfl, rfl, rfl⟩⟩)
    · have HE : Hid (xs ≠ []) := hid (fun e => by have := HX.out.2.2; rw [e] at this; simp at this; omega)
      have HC := tconf_any (HT.out.same HKw2.out) HG.out (HS.out _ HM.out) HNU.out
      change Calls _ _ _ _ (fun e w' => e = .returned (.bool (conB M c q)) ∧ _) at HC
      obtain ⟨cb, hcb⟩ : ∃ b, b = conB M c q := ⟨_, rfl⟩
      rw [← hcb] at HC
      have HCB := hid hcb
      clear hcb
      go_wp2_with fail
      refine HC.mono ?_
      rintro e w3 ⟨rfl, hk3⟩
      have HKw3 := hid (HKw2.out.trans hk3)
      have HB3 := hid (HB2.out.kept hk3 (fun f => f))
      have HR3 := hid (HR.out.kept hk3 (fun _ _ f => f))
      clear hk3 HC
      cases cb with
      | true =>
        go_wp2_with (with_reducible refine at_store 59 4 ?_; refine wpl_store 59 2 Tryz.sizeCm rfl (cells := [.int .i64 0, .slice none 0 0]) rfl HB3.out rfl rfl (by simp [Value.oneCell']) ?_; intro w4 hB4 hk4 hs4; have HB4 := hid hB4; have HK4 := hid hk4; clear hB4 hk4)
        refine bodyPost_ret (v := .tuple #[.agg #[.int .i64 0, .slice none 0 0], .int .i64 142]) (by rw [results_14b (p := 4) (b := 5) (ty := 59) rfl _ _ _ _ _ ⟨xb, 0, none⟩ _ rfl (loadC14 HB4.out)]; rfl) rfl ?_
        exact cka_none HKw3.out hg1 HK4.out (.inr ⟨q, xs, HG.out, HX.out.1, HX.out.2.1, .inr (.inl ⟨HE.out, HCB.out.symm, rfl, rfl, rfl⟩)⟩)
      | false =>
        obtain ⟨ow, how⟩ : ∃ x, x = (c.ow q).s := ⟨_, rfl⟩
        have q0 : w3.cell? ⟨q, 0, none⟩ = some (.string ow) := by rw [how]; exact ((HT.out.same HKw3.out).tb _ HM.out).cell 0
        have HMY := tmany_any (HT.out.same HKw3.out) ow xs av m cv _ (SrcC.ofRow wrE_ok HR3.out) HX.out.2.1
        have HOW := hid how
        clear how
        go_wp2_with fail
        refine HMY.mono ?_
        rintro e w5 ⟨D, hD, rfl, hk5⟩
        have HD := hid hD
        have HKw5 := hid (HKw3.out.trans hk5)
        have HB5 := hid (HB3.out.kept hk5 (fun f => f))
        have HR5 := hid (HR3.out.kept hk5 (fun _ _ f => f))
        obtain ⟨mb, hmb⟩ : ∃ b, b = manyB (cntW (thNow M) xs (cntD ow D)) := ⟨_, rfl⟩
        rw [← hmb]
        have HMB : Hid (manyB (cntW (thNow M) xs (cntD (c.ow q).s D)) = mb) := hid (by rw [← HOW.out]; exact hmb.symm)
        clear hk5 HMY hD hmb q0
        cases mb with
        | true =>
          go_wp2_with (with_reducible refine at_store 59 4 ?_; refine wpl_store 59 2 Tryz.sizeCm rfl (cells := [.int .i64 0, .slice none 0 0]) rfl HB5.out rfl rfl (by simp [Value.oneCell']) ?_; intro w4 hB4 hk4 hs4; have HB4 := hid hB4; have HK4 := hid hk4; clear hB4 hk4)
          refine bodyPost_ret (v := .tuple #[.agg #[.int .i64 0, .slice none 0 0], .int .i64 145]) (by rw [results_14b (p := 4) (b := 5) (ty := 59) rfl _ _ _ _ _ ⟨xb, 0, none⟩ _ rfl (loadC14 HB4.out)]; rfl) rfl ?_
          exact cka_none HKw5.out hg1 HK4.out (.inr ⟨q, xs, HG.out, HX.out.1, HX.out.2.1, .inr (.inr ⟨HE.out, HCB.out.symm, D, HD.out, .inl ⟨HMB.out, rfl, rfl, rfl⟩⟩)⟩)
        | false =>
          have HNW := tnow_any (HT.out.same HKw5.out)
          obtain ⟨nw, hnw⟩ : ∃ x, x = M.now - 1 := ⟨_, rfl⟩
          rw [← hnw] at HNW
          have hw1 : IntKind.i64.wrap (nw + 1) = nw + 1 := by have := HN0.out; rw [IntKind.wrap_i64]; omega
          have HNE : Hid (nw + 1 = M.now) := hid (by omega)
          clear hnw
          go_wp2_with fail
          refine HNW.mono ?_
          rintro e w6 ⟨rfl, hw6⟩
          have hw8 := hw6.symm
          subst hw8
          clear HNW
          go_wp2_with (with_reducible refine at_store 59 4 ?_; refine wpl_store 59 2 Tryz.sizeCm rfl (cells := [.int .i64 (nw + 1), .slice av m cv]) rfl HB5.out rfl rfl (by simp [Value.oneCell']) ?_; intro w4 hB4 hk4 hs4; have HB4 := hid hB4; have HK4 := hid hk4; clear hB4 hk4)
          refine bodyPost_ret (v := .tuple #[.agg #[.int .i64 (nw + 1), .slice av m cv], .int .i64 0]) (by rw [results_14b (p := 4) (b := 5) (ty := 59) rfl _ _ _ _ _ ⟨xb, 0, none⟩ _ rfl (loadC14 HB4.out)]; rfl) rfl ?_
          refine ⟨HKw5.out.then HK4.out (fun x hx2 e => by omega), nw + 1, av, m, cv, 0, xs, rfl, .inr ⟨q, xs, HG.out, HX.out.1, HX.out.2.1, .inr (.inr ⟨HE.out, HCB.out.symm, D, HD.out, .inr ⟨HMB.out, rfl, HNE.out, rfl⟩⟩)⟩, ?_⟩
          refine (HR5.out.base HK1.out.size).kept HK4.out (fun j hj e => ?_)
          subst e
          exact HR5.out.off14 HB5.out (by decide) hj

end Go.Proofs.YtapcjmnibkoegaaGreatDoor

/-
  Layer 14: Commit.
-/
namespace Go.Proofs.YtapcjmnibkoegaaGreatDoor
open Go.RowKit Go.Maps Go.Sort Go.Shelf

theorem cellsAt_cm (w : World) (y : Cm) : CellsAt (w.alloc (.cells #[.int .i64 y.t, .slice y.a y.n y.c] 59)) ⟨w.heap.size, 0, none⟩ ([y].flatMap cmC) := by
  intro j u hj
  match j, hj with
  | 0, hj => simp [cmC] at hj; subst hj; simp [addAt]
  | 1, hj => simp [cmC] at hj; subst hj; simp [addAt]
  | j + 2, hj => simp [cmC] at hj

section
variable {K N : Nat} {w : World} {p : Nat} {M : Mst} {bg : Int} {c : Tc} {τ : Nat → Nat}

/-- One commit more. -/
theorem Tk.addCl (h : Tk K N w p M bg c τ) {w' : World} {cv : Value} {y : Cm} (hb : Blk w' p #[.pointer (some ⟨c.ps, 0, none⟩), .int .i64 bg, .map (some c.mo), cv] 91) (hr : RowC N 59 2 cmC w' cv (c.cl ++ [y])) (hy : RowC N 65 5 wrE w (.slice y.a y.n y.c) y.ws) (hyo : ∀ k, (Value.slice y.a y.n y.c).ownBlock = some k → τ k = 0) (hl : c.cl.length + 1 ≤ K) (ho : ∀ k, cv.ownBlock = some k → τ k = 4 ∨ w.heap.size ≤ k) (hk : Kept (fun k => k = p ∨ τ k = 4) w w') :
    ∃ τ', Tk K N w' p M bg { c with cv := cv, cl := c.cl ++ [y] } τ' ∧ (∀ k, k < w.heap.size → (Value.slice y.a y.n y.c).ownBlock ≠ some k → τ' k = τ k) := by
  have hno : ∀ k, τ k ≠ 0 → τ k ≠ 1 → τ k ≠ 4 → ¬ (k = p ∨ τ k = 4) := fun k _ e1 e4 e => by
    rcases e with e | e
    · rw [e, h.r1] at e1; exact e1 rfl
    · exact e4 e
  obtain ⟨τ', hτ⟩ : ∃ τ' : Nat → Nat, τ' = fun k => if (Value.slice y.a y.n y.c).ownBlock = some k then 5 else if cv.ownBlock = some k then 4 else τ k := ⟨_, rfl⟩
  have h1 : ∀ k, k < w.heap.size → (Value.slice y.a y.n y.c).ownBlock ≠ some k → τ' k = τ k := fun k hk hn => by
    rw [hτ]
    simp only [if_neg hn]
    by_cases e : cv.ownBlock = some k
    · rw [if_pos e]
      rcases ho k e with q | q
      · exact q.symm
      · omega
    · rw [if_neg e]
  have h2 : ∀ k, τ k ≠ 0 → τ' k = τ k := fun k e => h1 k (h.new k e).2 (fun e2 => e (hyo k e2))
  have h5 : ∀ k, (Value.slice y.a y.n y.c).ownBlock = some k → τ' k = 5 := fun k e => by rw [hτ]; exact if_pos e
  have hyk : RowC N 65 5 wrE w' (.slice y.a y.n y.c) y.ws := hy.kept hk (fun k e e2 => by
    have := hyo k e
    rcases e2 with q | q
    · rw [q, h.r1] at this; cases this
    · rw [this] at q; cases q)
  refine ⟨τ', { h with
    blk := hb
    sto := h.sto.kept hk (fun k e => by
      cases hz : c.ρ k with
      | zero => rfl
      | succ z => exact absurd e (hno k (by rw [h.r3 k (by omega)]; decide) (by rw [h.r3 k (by omega)]; decide) (by rw [h.r3 k (by omega)]; decide)))
    om := h.om.kept hk (hno c.mo (by rw [h.r2]; decide) (by rw [h.r2]; decide) (by rw [h.r2]; decide))
    tb := fun x hx => (h.tb x hx).kept hk (hno _ (by rw [h.r6 x hx]; omega) (by rw [h.r6 x hx]; omega) (by rw [h.r6 x hx]; omega))
    ts := fun x hx => (h.ts x hx).kept hk (fun k e => hno k (by rw [h.r7 x hx k e]; omega) (by rw [h.r7 x hx k e]; omega) (by rw [h.r7 x hx k e]; omega))
    cr := hr
    cw := fun z hz => ?_
    r1 := by rw [h2 p (by rw [h.r1]; decide)]; exact h.r1
    r2 := by show τ' c.mo = 2; rw [h2 c.mo (by rw [h.r2]; decide)]; exact h.r2
    r3 := fun k e => by rw [h2 k (by rw [h.r3 k e]; decide)]; exact h.r3 k e
    r4 := fun k e => ?_
    r5 := fun z hz k e => ?_
    r6 := fun x hx => by rw [h2 x.2 (by rw [h.r6 x hx]; omega)]; exact h.r6 x hx
    r7 := fun x hx k e => by rw [h2 k (by rw [h.r7 x hx k e]; omega)]; exact h.r7 x hx k e
    new := fun k e => ?_
    lens := ⟨h.lens.1, by show (c.cl ++ [y]).length ≤ K; rw [List.length_append]; exact hl⟩ }, h1⟩
  · rcases List.mem_append.1 hz with q | q
    · exact (h.cw z q).kept hk (fun k e => hno k (by rw [h.r5 z q k e]; decide) (by rw [h.r5 z q k e]; decide) (by rw [h.r5 z q k e]; decide))
    · rw [List.mem_singleton.1 q]; exact hyk
  · have e' : cv.ownBlock = some k := e
    have hny : ¬ (Value.slice y.a y.n y.c).ownBlock = some k := fun e2 => by
      rcases ho k e' with q | q
      · rw [hyo k e2] at q; cases q
      · have := hy.lt e2; omega
    rw [hτ]
    simp only [if_neg hny, if_pos e']
  · rcases List.mem_append.1 hz with q | q
    · rw [h2 k (by rw [h.r5 z q k e]; decide)]; exact h.r5 z q k e
    · rw [List.mem_singleton.1 q] at e; exact h5 k e
  · by_cases e1 : (Value.slice y.a y.n y.c).ownBlock = some k
    · exact ⟨hyk.ge e1, hyk.lt e1⟩
    · by_cases e2 : cv.ownBlock = some k
      · exact ⟨hr.ge e2, hr.lt e2⟩
      · rw [hτ] at e
        simp only [if_neg e1, if_neg e2] at e
        exact ⟨(h.new k e).1, Nat.lt_of_lt_of_le (h.new k e).2 hk.size⟩

end

/-- What Commit makes of a manager. -/
def ComG (K N : Nat) (w : World) (p : Nat) (M : Mst) (bg : Int) (c : Tc) (τ : Nat → Nat) (n : Nb) (xs : List Wr) (w' : World) : Prop :=
  ∃ w1 c1 τ1, EndA (K + 3 * xs.length) N w1 p (if xs = [] then M else putM M (M.now + 1) xs) bg c1 τ1 n (.returned (.tuple #[])) w' ∧ c1.L = c.L ∧ c1.ow = c.ow ∧ c1.mv = c.mv ∧
    ((xs = [] ∧ c1.cl = c.cl) ∨ (xs ≠ [] ∧ ∃ y : Cm, y.t = M.now ∧ y.ws = xs ∧ c1.cl = c.cl ++ [y])) ∧ (∀ k, k < w.heap.size → τ1 k = τ k) ∧ Kept (fun k => τ k ≠ 0) w w1 ∧ w.heap.size ≤ w1.heap.size

/-- What Commit tells. -/
def ComA (K N : Nat) (w : World) (p : Nat) (M : Mst) (bg : Int) (c : Tc) (τ : Nat → Nat) (n : Nb) (e : Ending) (w' : World) : Prop :=
  (getK n c.L = none ∧ e = .returned (.tuple #[.int .i64 0, .int .i64 140]) ∧ Same w w') ∨ (getK n c.L ≠ none ∧ ∃ t er xs, CkR M c n t er xs ∧ e = .returned (.tuple #[.int .i64 t, .int .i64 er]) ∧ ComG K N w p M bg c τ n xs w')

/-- Behind the Put. -/
def ComP (K N : Nat) (w : World) (p : Nat) (M : Mst) (bg : Int) (c : Tc) (τ : Nat → Nat) (y : Cm) (g : Nat) (w' : World) : Prop :=
  ∃ ρ' τ1, Tk (K + 3 * y.ws.length) N w' p (putM M (M.now + 1) y.ws) bg { c with ρ := ρ' } τ1 ∧ (∀ k, k < w.heap.size → τ1 k = τ k) ∧ (∀ k, (Value.slice y.a y.n y.c).ownBlock = some k → τ1 k = 0 ∧ w.heap.size ≤ k) ∧ τ1 g = 0 ∧ RowC N 65 5 wrE w' (.slice y.a y.n y.c) y.ws ∧ Kept (fun k => τ k ≠ 0) w w' ∧ Blk w' g #[.int .i64 y.t, .slice y.a y.n y.c] 59 ∧ g < w'.heap.size

theorem tcput {K N : Nat} {w w4 : World} {p : Nat} {M : Mst} {bg : Int} {c : Tc} {τ : Nat → Nat} (h : Tk K N w p M bg c τ) (hk : Same w w4) {y : Cm} (hr : RowC w.heap.size 65 5 wrE w4 (.slice y.a y.n y.c) y.ws) {g : Nat} (hg : w.heap.size ≤ g) (hb : Blk w4 g #[.int .i64 y.t, .slice y.a y.n y.c] 59) (hn0 : 1 ≤ M.now ∧ M.now ≤ 9223372036854775805) (hK : K + 3 * y.ws.length ≤ 100000) :
    Calls Tryz.prog 36 #[.pointer (some ⟨c.ps, 0, none⟩), .agg #[.int .i64 (M.now + 1), .slice y.a y.n y.c]] w4 fun e w' => e = .returned (.int .i64 0) ∧ ComP K N w p M bg c τ y g w' := by
  have hN : N ≤ w.heap.size := by have := h.new p (by rw [h.r1]; decide); omega
  have h4 := h.same hk
  have hlow : ∀ k, c.ρ k ≠ 0 → k < w.heap.size := fun k e => (h.new k (by rw [h.r3 k e]; decide)).2
  refine (xput_new h4.sto (Nat.le_trans hN hk.size) (M.now + 1) (by omega) (by omega) y.ws _ _ (SrcC.ofRow wrE_ok hr) (fun j hj => ?_) hK).mono ?_
  · cases hz : c.ρ j with
    | zero => rfl
    | succ z =>
      have := hlow j (by omega)
      have := hr.ge hj
      omega
  · rintro e w' ⟨rfl, ρ', g1, g2, g3⟩
    obtain ⟨τ1, a1, a2, a3⟩ := h4.setSto g1 g2 g3 (Nat.le_add_right _ _) hK
    have hgl : g < w4.heap.size := hb.lt
    refine ⟨rfl, ρ', τ1, a1, fun k hk2 => a2 k (Nat.lt_of_lt_of_le hk2 hk.size), fun k e => ⟨?_, hr.ge e⟩, ?_, ?_, ?_, ?_, ?_⟩
    · rw [a2 k (hr.lt e)]; exact h.zero (hr.ge e)
    · rw [a2 g hgl]; exact h.zero hg
    · exact (hr.base hN).kept g3 (fun k e e2 => by have := hlow k e2; have := hr.ge e; omega)
    · exact Kept.trans hk a3 (fun _ _ f => f.elim) (fun _ _ e => e)
    · exact hb.kept g3 (fun e2 => by have := hlow g e2; omega)
    · exact Nat.lt_of_lt_of_le hgl g3.size

end Go.Proofs.YtapcjmnibkoegaaGreatDoor
