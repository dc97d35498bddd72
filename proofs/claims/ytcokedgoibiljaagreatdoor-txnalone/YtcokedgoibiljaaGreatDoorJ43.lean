/-
  Of the proof: parts TyB.
-/
import Derived.Test.YtcokedgoibiljaaGreatDoorJ42
import Derived.Test.YtcokedgoibiljaaGreatDoorJ41

/-
  Layer 14: Use.
-/
namespace Go.Proofs.YtcokedgoibiljaaGreatDoor
open Go.RowKit Go.Maps Go.Sort Go.Shelf

theorem wrap_more (s l : Int) : IntKind.i64.wrap (IntKind.i64.wrap s + l) = IntKind.i64.wrap (s + l) := by simp only [IntKind.wrap_i64]; omega

def byA (es : List Ent) : Nat := (es.map (fun e => e.2.size)).sum
def useB (ow : ByteArray) (D : List (Bx × List Ent)) : Nat := (D.map (fun x => if x.1.tn = ow then byA x.2 else 0)).sum
def useN (ow : ByteArray) (D : List (Bx × List Ent)) : Nat := (D.map (fun x => if x.1.tn = ow then x.2.length else 0)).sum
def wr14 (n : Nat) : Int := IntKind.i64.wrap (n : Int)
theorem wr14_more (n l : Nat) : IntKind.i64.wrap (wr14 n + (l : Int)) = wr14 (n + l) := by unfold wr14; rw [wrap_more]; congr 1

theorem Tryz.zeroUs : (Tryz.prog.info? 78).bind (·.zero) = some (.agg #[.int .i64 0, .int .i64 0]) := by kernel_rfl
theorem Tryz.sizeUs : (Tryz.prog.info? 78).map (·.size) = some 2 := by kernel_rfl
theorem Tryz.zeroEn : (Tryz.prog.info? 108).bind (·.zero) = some (.agg #[.string ⟨#[]⟩, .string ⟨#[]⟩]) := by kernel_rfl
theorem Tryz.sizeEn : (Tryz.prog.info? 108).map (·.size) = some 2 := by kernel_rfl

def UseI (w2 wr : World) (u : Nat) (b n : Nat) : Prop := Blk wr u #[.int .i64 (wr14 b), .int .i64 (wr14 n)] 78 ∧ Kept (· = u) w2 wr

theorem UseI.setB {w2 wr : World} {u b n : Nat} (h : UseI w2 wr u b n) (b' : Nat) : UseI w2 (wr.setCell ⟨u, 0, none⟩ (.int .i64 (wr14 b'))) u b' n := by
  refine ⟨?_, h.2.setCell _ _ (.inl rfl)⟩
  have h9 := h.1.set 0 (.int .i64 (wr14 b'))
  simpa using h9

theorem UseI.setN {w2 wr : World} {u b n : Nat} (h : UseI w2 wr u b n) (n' : Nat) : UseI w2 (wr.setCell ⟨u, 1, none⟩ (.int .i64 (wr14 n'))) u b n' := by
  refine ⟨?_, h.2.setCell _ _ (.inl rfl)⟩
  have h9 := h.1.set 1 (.int .i64 (wr14 n'))
  simpa using h9

theorem UseI.same {w2 wr wr' : World} {u b n : Nat} (h : UseI w2 wr u b n) (hk : Same wr wr') : UseI w2 wr' u b n := ⟨h.1.kept hk (fun f => f), Kept.trans h.2 hk (fun _ _ e => e) (fun _ _ f => f.elim)⟩

set_option maxRecDepth 100000 in
set_option maxHeartbeats 2000000 in
theorem tuse_any {K N : Nat} {w : World} {p : Nat} {M : Mst} {bg : Int} {c : Tc} {τ : Nat → Nat} (h : Tk K N w p M bg c τ) (ow : ByteArray) :
    Calls Tryz.prog 32 #[.pointer (some ⟨p, 0, none⟩), .string ow] w fun e w' => ∃ D, IsDm (visF M.V M.now) D ∧ e = .returned (.agg #[.int .i64 (wr14 (useB ow D)), .int .i64 (wr14 (useN ow D))]) ∧ Same w w' := by
  have HT := hid h
  clear h
  go_enter Tryz.func32, Tryz.ntmps32
  go_wp2_with (first
    | (with_reducible refine at_alloc 78 4 ?_; refine wpl_alloc 78 _ Tryz.zeroUs ?_; intro wR rb hBR hkR hgR hlR; have HBR := hid hBR; have HKR := hid hkR; clear hBR hkR)
    | (with_reducible refine at_alloc 78 5 ?_; refine wpl_alloc 78 _ Tryz.zeroUs ?_; intro wA u hBA hkA hgA hlA; have HBA := hid hBA; have HKA := hid hkA; clear hBA hkA))
  have HKW := hid (HKR.out.trans HKA.out)
  refine (tdump_any (HT.out.same HKW.out)).mono ?_
  rintro e w2 ⟨v2, As, rfl, hdm, hisd, hAl, hAe, hk2⟩
  obtain ⟨av, cv, rfl, _⟩ := hdm.ofs
  obtain ⟨nA, hnA⟩ : ∃ n, n = As.length := ⟨_, rfl⟩
  rw [← hnA] at hdm ⊢
  have HDM : Hid (∀ W, Kept (· = u) w2 W → ∀ i (hi : i < As.length), ∃ g, av = some ⟨g, 0, none⟩ ∧ W.cell? ⟨g, i * 3, none⟩ = some (.string As[i].b.tn) ∧ W.cell? ⟨g, i * 3 + 1, none⟩ = some (.string As[i].b.ar) ∧ W.cell? ⟨g, i * 3 + 2, none⟩ = some (.slice As[i].a As[i].es.length As[i].c) ∧ ∀ j (hj : j < As[i].es.length), ∃ k, As[i].a = some ⟨k, 0, none⟩ ∧ W.cell? ⟨k, j * 2, none⟩ = some (.string As[i].es[j].1.s) ∧ W.cell? ⟨k, j * 2 + 1, none⟩ = some (.string As[i].es[j].2)) := hid (fun W hW i hi => by
    obtain ⟨ao, cap, e1, h9⟩ := (hdm.kept hW (fun k e e2 => by have := hdm.row.ge e; omega) (fun x hx k e e2 => by have := (hdm.ent x hx).ge e; omega)).ofs
    injection e1 with e2 _ _
    subst e2
    obtain ⟨g, a1, a2, a3, a4, _, a6⟩ := h9 i hi
    exact ⟨g, a1, a2, a3, a4, a6⟩)
  have HIS : Hid (IsDm (visF M.V M.now) (adD As) ∧ As.length ≤ 100000 ∧ (∀ x ∈ As, x.es.length ≤ 100000) ∧ nA = As.length) := hid ⟨hisd, hAl, hAe, hnA⟩
  have HK2 := hid hk2
  have HU0 : Hid (UseI w2 w2 u (useB ow (adD (As.take 0))) (useN ow (adD (As.take 0)))) := hid ⟨HBA.out.kept hk2 (fun f => f), Kept.refl _ _⟩
  have HLU : Hid (wR.heap.size ≤ u) := hid hgA
  have hnB : nA ≤ 100000 := by rw [hnA]; exact hAl
  clear hdm hisd hAl hAe hk2 hnA
  go_wp2_with fail
  go_loopg [7, 9, 13] nA (fun k _ _ z wr => ∃ i : Nat, i ≤ nA ∧ nA - i ≤ k ∧ z = .int .i64 (i : Nat) ∧ Hid (UseI w2 wr u (useB ow (adD (As.take i))) (useN ow (adD (As.take i)))))
  case atStart => exact ⟨0, by omega, by omega, rfl, HU0⟩
  case round =>
    clear HU0
    obtain ⟨i, hi, hik, rfl, HI⟩ := hrel
    by_cases hlt : i < nA
    · have hiA : i < As.length := by rw [← HIS.out.2.2.2]; exact hlt
      obtain ⟨g, rfl, d0, d1, d2, hen⟩ := HDM.out wr HI.out.2 i hiA
      obtain ⟨x, hx⟩ : ∃ x, x = As[i] := ⟨_, rfl⟩
      rw [← hx] at d0 d1 d2
      have HX : Hid (adD (As.take (i + 1)) = adD (As.take i) ++ [(x.b, x.es)] ∧ x.es.length ≤ 100000 ∧ x = As[i]) := hid ⟨by unfold adD; rw [List.take_succ_eq_append_getElem hiA, List.map_append, hx]; rfl, HIS.out.2.2.1 x (by rw [hx]; exact List.getElem_mem _), hx⟩
      obtain ⟨tn, htn⟩ : ∃ t, t = x.b.tn := ⟨_, rfl⟩
      obtain ⟨ar, har⟩ : ∃ t, t = x.b.ar := ⟨_, rfl⟩
      obtain ⟨le, hle⟩ : ∃ t, t = x.es.length := ⟨_, rfl⟩
      obtain ⟨xa, hxa⟩ : ∃ t, t = x.a := ⟨_, rfl⟩
      obtain ⟨xc, hxc⟩ : ∃ t, t = x.c := ⟨_, rfl⟩
      rw [← htn] at d0
      rw [← har] at d1
      rw [← hle, ← hxa, ← hxc] at d2
      have HXE : Hid (tn = x.b.tn ∧ le = x.es.length ∧ xa = x.a) := hid ⟨htn, hle, hxa⟩
      obtain ⟨B0, hB0⟩ : ∃ b, b = useB ow (adD (As.take i)) := ⟨_, rfl⟩
      obtain ⟨N0, hN0⟩ : ∃ b, b = useN ow (adD (As.take i)) := ⟨_, rfl⟩
      rw [← hB0, ← hN0] at HI
      have HBN : Hid (useB ow (adD (As.take (i + 1))) = (if tn = ow then B0 + byA x.es else B0) ∧ useN ow (adD (As.take (i + 1))) = (if tn = ow then N0 + le else N0)) := hid (by
        rw [HX.out.1]
        unfold useB at hB0 ⊢
        unfold useN at hN0 ⊢
        rw [List.map_append, List.sum_append, List.map_append, List.sum_append, ← hB0, ← hN0, htn, hle]
        simp only [List.map_cons, List.map_nil, List.sum_cons, List.sum_nil]
        constructor <;> (split <;> rfl))
      have hle2 : le ≤ 100000 := by rw [hle]; exact HX.out.2.1
      clear htn har hle hxa hxc hB0 hN0 hen hx
      by_cases hto : tn = ow
      · have ht1 : (tn.toList == ow.toList) = true := by rw [hto]; simp
        rw [if_pos hto, if_pos hto] at HBN
        have HBU : Hid (Blk wr u #[.int .i64 (wr14 B0), .int .i64 (wr14 N0)] 78) := hid HI.out.1
        have u0 := HBU.out.cell 0
        have u1 := HBU.out.cell 1
        simp only [List.getElem?_toArray, List.getElem?_cons_zero, List.getElem?_cons_succ] at u0 u1
        have hw1 : IntKind.i64.wrap (wr14 N0 + (le : Int)) = wr14 (N0 + le) := wr14_more N0 le
        clear hto
        go_wp2_with (first
          | (with_reducible refine at_alloc 83 7 ?_; refine wpl_alloc 83 _ Tryz.zeroArc ?_; intro w3 g3 hB3 hk3 hg3 hl3; have HB3 := hid hB3; have HK3 := hid hk3; clear hB3 hk3)
          | (with_reducible refine at_store 83 7 ?_; refine wpl_store 83 3 Tryz.sizeArc rfl (cells := [.string tn, .string ar, .slice xa le xc]) rfl HB3.out rfl rfl (by simp [Value.oneCell']) ?_; intro w4 hB4 hk4 hs4; have HK4 : Hid (Same wr w4) := hid (HK3.out.then hk4 (fun x hx e => by omega)); have HB4 := hid hB4; have f0 := hB4.cell 0; have f2 := hB4.cell 2; simp only [List.getElem?_toArray, List.getElem?_cons_zero, List.getElem?_cons_succ] at f0 f2; have u0 := HK4.out.cell u0 (fun f => f); have u1 := HK4.out.cell u1 (fun f => f); have z1 := (HBU.out.kept HK4.out (fun f => f)).frozen 1; clear hB4 hk4 hs4 HB3 HK3))
        obtain ⟨w5, hw5⟩ : ∃ W, W = w4.setCell ⟨u, 1, none⟩ (.int .i64 (wr14 (N0 + le))) := ⟨_, rfl⟩
        rw [← hw5]
        have HJ0 : Hid (UseI w2 w5 u (B0 + byA (x.es.take 0)) (N0 + le)) := hid (by rw [hw5]; exact (HI.out.same HK4.out).setN _)
        obtain ⟨gk0, hgk0⟩ : ∃ g, g = gk := ⟨_, rfl⟩
        rw [← hgk0] at hik
        clear hw5 f0 f2 u0 u1 z1 hw1 d0 d1 d2 HBU ht1
        go_loopg [9, 31] le (fun k _ z wx => ∃ j : Nat, j ≤ le ∧ le - j ≤ k ∧ z = .int .i64 (j : Nat) ∧ Hid (UseI w2 wx u (B0 + byA (x.es.take j)) (N0 + le)))
        case atStart => exact ⟨0, by omega, by omega, rfl, HJ0⟩
        case round =>
          clear HJ0
          obtain ⟨j, hj, hjk, rfl, HJ⟩ := hrel
          by_cases hjl : j < le
          · have hjx : j < x.es.length := by rw [← HXE.out.2.1]; exact hjl
            obtain ⟨g9, hg9, _, _, _, hen⟩ := HDM.out wr HJ.out.2 i hiA
            have hex := HX.out.2.2
            obtain ⟨k, hxk, c0, c1⟩ : ∃ k, xa = some ⟨k, 0, none⟩ ∧ wr.cell? ⟨k, j * 2, none⟩ = some (.string x.es[j].1.s) ∧ wr.cell? ⟨k, j * 2 + 1, none⟩ = some (.string x.es[j].2) := by
              rw [HXE.out.2.2]
              subst hex
              exact hen j hjx
            subst hxk
            obtain ⟨en, hen2⟩ : ∃ e, e = x.es[j].1.s := ⟨_, rfl⟩
            obtain ⟨ed, hed⟩ : ∃ e, e = x.es[j].2 := ⟨_, rfl⟩
            rw [← hen2] at c0
            rw [← hed] at c1
            have HSM : Hid (byA (x.es.take (j + 1)) = byA (x.es.take j) + ed.size) := hid (by
              unfold byA
              rw [List.take_succ_eq_append_getElem hjx, List.map_append, List.sum_append, hed]
              simp)
            obtain ⟨B1, hB1⟩ : ∃ b, b = B0 + byA (x.es.take j) := ⟨_, rfl⟩
            rw [← hB1] at HJ
            have HB1 := hid hB1
            have HBU : Hid (Blk wr u #[.int .i64 (wr14 B1), .int .i64 (wr14 (N0 + le))] 78) := hid HJ.out.1
            have u0 := HBU.out.cell 0
            simp only [List.getElem?_toArray, List.getElem?_cons_zero] at u0
            have hw2 : IntKind.i64.wrap (wr14 B1 + (ed.size : Int)) = wr14 (B1 + ed.size) := wr14_more B1 ed.size
            clear hen hex hen2 hed hB1 hg9
            go_wp2_with (first
              | (with_reducible refine at_alloc 108 9 ?_; refine wpl_alloc 108 _ Tryz.zeroEn ?_; intro w6 g6 hB6 hk6 hg6 hl6; have HB6 := hid hB6; have HK6 := hid hk6; clear hB6 hk6)
              | (with_reducible refine at_store 108 9 ?_; refine wpl_store 108 2 Tryz.sizeEn rfl (cells := [.string en, .string ed]) rfl HB6.out rfl rfl (by simp [Value.oneCell']) ?_; intro w7 hB7 hk7 hs7; have HK7 : Hid (Same wr w7) := hid (HK6.out.then hk7 (fun x hx e => by omega)); have f1 := hB7.cell 1; simp only [List.getElem?_toArray, List.getElem?_cons_zero, List.getElem?_cons_succ] at f1; have u0 := HK7.out.cell u0 (fun f => f); have z0 := (HBU.out.kept HK7.out (fun f => f)).frozen 0; clear hB7 hk7 hs7 HB6 HK6))
            go_roundg (gk - 1)
            case measure => omega
            case rel => exact ⟨j + 1, by omega, by omega, by go_num, hid (by rw [HSM.out, ← Nat.add_assoc, ← HB1.out]; exact (HJ.out.same HK7.out).setB _)⟩
          · have hjn : j = le := by omega
            have q0 : ¬ j < le := hjl
            go_wp2_with fail
            go_roundg (gk0 - 1)
            case measure => omega
            case rel =>
              refine ⟨i + 1, by omega, by omega, by go_num, hid ?_⟩
              rw [HBN.out.1, HBN.out.2]
              have h9 := HJ.out
              rw [List.take_of_length_le (by have := HXE.out.2.1; omega)] at h9
              exact h9
      · have ht1 : (tn.toList == ow.toList) = false := by
          cases hq : (tn.toList == ow.toList) with
          | false => rfl
          | true =>
            refine absurd ?_ hto
            have h9 := eq_of_beq hq
            rw [ByteArray.toList_eq, ByteArray.toList_eq] at h9
            exact ByteArray.ext (Array.toList_inj.1 h9)
        rw [if_neg hto, if_neg hto] at HBN
        clear hto
        go_wp2_with (first
          | (with_reducible refine at_alloc 83 7 ?_; refine wpl_alloc 83 _ Tryz.zeroArc ?_; intro w3 g3 hB3 hk3 hg3 hl3; have HB3 := hid hB3; have HK3 := hid hk3; clear hB3 hk3)
          | (with_reducible refine at_store 83 7 ?_; refine wpl_store 83 3 Tryz.sizeArc rfl (cells := [.string tn, .string ar, .slice xa le xc]) rfl HB3.out rfl rfl (by simp [Value.oneCell']) ?_; intro w4 hB4 hk4 hs4; have HK4 : Hid (Same wr w4) := hid (HK3.out.then hk4 (fun x hx e => by omega)); have f0 := hB4.cell 0; simp only [List.getElem?_toArray, List.getElem?_cons_zero] at f0; clear hB4 hk4 hs4 HB3 HK3))
        go_roundg (gk - 1)
        case measure => omega
        case rel => exact ⟨i + 1, by omega, by omega, by go_num, hid (by rw [HBN.out.1, HBN.out.2]; exact HI.out.same HK4.out)⟩
    · have hin : i = nA := by omega
      have HE : Hid (UseI w2 wr u (useB ow (adD As)) (useN ow (adD As))) := hid (by
        have h9 := HI.out
        rw [List.take_of_length_le (by have := HIS.out.2.2.2; omega)] at h9
        exact h9)
      obtain ⟨B0, hB0⟩ : ∃ b, b = useB ow (adD As) := ⟨_, rfl⟩
      obtain ⟨N0, hN0⟩ : ∃ b, b = useN ow (adD As) := ⟨_, rfl⟩
      rw [← hB0, ← hN0] at HE
      have HRB : Hid (Blk wr rb #[.int .i64 0, .int .i64 0] 78) := hid ((((HBR.out.kept HKA.out (fun f => f)).kept HK2.out (fun f => f)).kept HE.out.2 (by have := HLU.out; omega)))
      have HKE : Hid (Same w wr) := hid ((HKW.out.trans HK2.out).then HE.out.2 (fun k hk e => by have := HKR.out.size; have := HLU.out; omega))
      have HBU : Hid (Blk wr u #[.int .i64 (wr14 B0), .int .i64 (wr14 N0)] 78) := hid HE.out.1
      have hq : ¬ i < nA := hlt
      go_wp2_with (first
        | (with_reducible refine at_load 78 44 ?_; refine wpl_load 78 2 _ Tryz.underlying78 rfl Tryz.sizeUs rfl HBU.out [.int .i64 (wr14 B0), .int .i64 (wr14 N0)] (by simp) (by simp) ?_)
        | (with_reducible refine at_store 78 4 ?_; refine wpl_store 78 2 Tryz.sizeUs rfl (cells := [.int .i64 (wr14 B0), .int .i64 (wr14 N0)]) rfl HRB.out rfl rfl (by simp [Value.oneCell']) ?_; intro w4 hB4 hk4 hs4; have HB4 := hid hB4; have HK4 := hid hk4; clear hB4 hk4))
      refine bodyPost_ret (v := .agg #[.int .i64 (wr14 B0), .int .i64 (wr14 N0)]) (by rw [results_cell15 rfl 2 _ Tryz.underlying78 rfl Tryz.sizeUs _ rfl HB4.out rfl]) rfl ?_
      exact ⟨adD As, HIS.out.1, by rw [hB0, hN0], HKE.out.then HK4.out (fun k hk e => by omega)⟩

end Go.Proofs.YtcokedgoibiljaaGreatDoor
