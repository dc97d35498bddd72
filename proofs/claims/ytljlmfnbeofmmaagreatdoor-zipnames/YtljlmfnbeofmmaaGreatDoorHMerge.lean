import Derived.Test.YtljlmfnbeofmmaaGreatDoorHItem
namespace Go.Proofs.YtljlmfnbeofmmaaGreatDoor
open Go.RowKit

theorem slice_eq {a a' : Option Addr} {n n' c c' : Nat} (h1 : a = a') (h2 : n = n') (h3 : c = c') : Value.slice a n c = .slice a' n' c' := by rw [h1, h2, h3]

def wsOf (ns : List Nat) : List Nat := (ris ns).map (key ns)

theorem wsOf_length (ns : List Nat) : (wsOf ns).length = (ris ns).length := by simp [wsOf]
theorem wsOf_up (ns : List Nat) : Up (wsOf ns) := List.pairwise_map.2 ((ris_sorted ns).imp (fun {a b} h => by unfold Lt at h; omega))
theorem wsOf_get (ns : List Nat) (r : Nat) (h : r < (ris ns).length) : (wsOf ns)[r]'(by rw [wsOf_length]; exact h) = key ns (ris ns)[r] := by simp [wsOf]

theorem wsOf_drop (ns : List Nat) (r : Nat) (h : r < (ris ns).length) : (wsOf ns).drop r = key ns (ris ns)[r] :: (wsOf ns).drop (r + 1) := by
 rw [List.drop_eq_getElem_cons (by rw [wsOf_length]; exact h), wsOf_get ns r h]

structure Box2 (w : World) (bu bc : Nat) (vu vc : Value) (I : Nat → Prop) (ns : List Nat) : Prop where
 cu : w.cell? ⟨bu, 0, none⟩ = some vu
 cc : w.cell? ⟨bc, 0, none⟩ = some vc
 su : SrcE natV w I vu (ris ns)
 sc : SrcE natV w I vc ns

theorem Box2.same {w w' : World} {bu bc : Nat} {vu vc : Value} {I : Nat → Prop} {ns : List Nat} (h : Box2 w bu bc vu vc I ns) (hk : Same w w') : Box2 w' bu bc vu vc I ns :=
 ⟨hk.cell h.cu (fun h => h), hk.cell h.cc (fun h => h), h.su.same hk, h.sc.same hk⟩

set_option maxRecDepth 100000 in
set_option maxHeartbeats 4000000 in
theorem merge_any (w : World) (B0 bu bc : Nat) (vu vc : Value) (I : Nat → Prop) (ns : List Nat) (its : List (Nat × Bool)) (v : Value) (hb : Box2 w bu bc vu vc I ns) (hne : ris ns ≠ []) (hns : ns.length ≤ 288) (hrow : TRow B0 w v its) (hits : its.length ≤ 1000)
  (hW : ∀ x ∈ its, x.1 ≤ 40000000000000000) (hk : ∀ n ∈ ns, n ≤ 1000000000000) :
  Calls Tryz.prog 192 #[v, .pointer (some ⟨bu, 0, none⟩), .pointer (some ⟨bc, 0, none⟩)] w fun e w' => ∃ v', e = .returned v' ∧ TRow w.heap.size w' v' (mg (wsOf ns) (pairW (its.map (·.1)))) ∧ Same w w' := by
 obtain ⟨ps, hps⟩ : ∃ ps, ps = pairW (its.map (·.1)) := ⟨_, rfl⟩
 rw [← hps]
 have hpl : ps.length = its.length / 2 := by rw [hps, pairW_length, List.length_map]
 have hmlen : (ris ns).length ≤ 288 := Nat.le_trans (ris_length ns) hns
 have hm0 : 0 < (ris ns).length := List.length_pos_iff.2 hne
 obtain ⟨b, o, cap, hvu, _, _, _⟩ := hb.su.get 0 hm0
 subst hvu
 have hcap : (ris ns).length ≤ cap := by
  obtain ⟨_, _, e, h, _⟩ := hb.su
  simp only [Value.slice.injEq] at e
  omega
 obtain ⟨c0, oc, capc, hvc, _, _, _⟩ := hb.sc.get 0 (by have := ris_length ns; omega)
 subst hvc
 obtain ⟨ai, capi, rfl, hcapi, hcell⟩ := hrow.shape
 have cu := hb.cu
 have HB : Hid (Box2 w bu bc (.slice (some ⟨b, o, none⟩) (ris ns).length cap) (.slice (some ⟨c0, oc, none⟩) ns.length capc) I ns) := hb
 have HPS : Hid (ps = pairW (its.map (·.1)) ∧ ps.length = its.length / 2) := ⟨hps, hpl⟩
 have HCELL : Hid (its ≠ [] → ∃ g, ai = some ⟨g, 0, none⟩ ∧ g < w.heap.size ∧ ∀ j (_ : j < its.length), w.cell? ⟨g, j * 2, none⟩ = some (.int .i64 (its[j].1 : Int)) ∧ w.cell? ⟨g, j * 2 + 1, none⟩ = some (.bool its[j].2)) := hcell
 have HWW : Hid (∀ x ∈ its, x.1 ≤ 40000000000000000) := hW
 have HKK : Hid (∀ n ∈ ns, n ≤ 1000000000000) := hk
 obtain ⟨m, hm⟩ : ∃ m, m = (ris ns).length := ⟨_, rfl⟩
 have HMM : Hid (m = (ris ns).length) := hm
 rw [← hm] at hmlen hm0 hcap HB cu
 obtain ⟨tot, htot⟩ : ∃ tot, tot = mg (wsOf ns) ps := ⟨_, rfl⟩
 have HTOT : Hid (tot = mg (wsOf ns) ps ∧ tot.length ≤ 800) := ⟨htot, by rw [htot, mg_length, wsOf_length, hpl, ← hm]; omega⟩
 rw [← htot]
 clear hps hpl hb hrow hW hk hcell hne htot
 obtain ⟨il, hil⟩ : ∃ il, il = its.length := ⟨_, rfl⟩
 have HIL : Hid (il = its.length) := hil
 rw [← hil] at hits hcapi ⊢
 clear hil hm
 go_enter Tryz.func192, Tryz.ntmps192
 go_wp2_with fail
 go_loopg [5, 6, 7] il (fun q z5 z6 z7 wr => ∃ (i j r px : Nat) (out : List (Nat × Bool)), il - i ≤ q ∧ i ≤ 1002 ∧ r ≤ m ∧ Hid (r < m → px = o + r) ∧ z6 = .slice (some ⟨b, px, none⟩) (m - r) (cap - r) ∧ z7 = .int .i64 (i : Nat) ∧
   Hid (out ++ mg ((wsOf ns).drop r) (ps.drop j) = tot ∧ 2 * j ≤ il ∧ i = 1 + 2 * j) ∧ Hid (TRow w.heap.size wr z5 out) ∧ Hid (Same w wr))
 case atStart => exact ⟨1, 0, 0, o, [], by omega, by omega, by omega, hid (fun _ => rfl), rfl, rfl, hid ⟨by rw [HTOT.out.1]; simp, by omega, by omega⟩, TRow.nil, Kept.refl _ _⟩
 case round =>
  obtain ⟨i, j, r, px, out, hq, hi, hr, HPX, rfl, rfl, HF, HR, HK⟩ := hrel
  obtain ⟨gk0, hgk⟩ : ∃ x, x = gk := ⟨_, rfl⟩
  rw [← hgk] at hq
  have HG : Hid (gk0 = gk) := hgk
  clear hgk
  by_cases hlt : i < il
  ·have hjl : 2 * j + 1 < its.length := by have := HIL.out; have := HF.out.2.2; omega
   obtain ⟨gi, hai, hgi, hcl⟩ := HCELL.out (by intro e; rw [e] at hjl; simp at hjl)
   subst hai
   obtain ⟨x1, hx1⟩ : ∃ x, x = its[2 * j].1 := ⟨_, rfl⟩
   obtain ⟨x2, hx2⟩ : ∃ x, x = its[2 * j + 1].1 := ⟨_, rfl⟩
   obtain ⟨h, hh⟩ : ∃ h, h = 2 * j := ⟨_, rfl⟩
   have hi2 : i = h + 1 := by have := HF.out.2.2; omega
   have c1 : wr.cell? ⟨gi, h * 2, none⟩ = some (.int .i64 (x1 : Int)) := by rw [hx1, hh]; exact HK.out.cell (hcl (2 * j) (by omega)).1 (fun h => h)
   have c2 : wr.cell? ⟨gi, i * 2, none⟩ = some (.int .i64 (x2 : Int)) := by rw [hx2, hi2, hh]; exact HK.out.cell (hcl (2 * j + 1) (by omega)).1 (fun h => h)
   have hx1l : x1 ≤ 40000000000000000 := by rw [hx1]; exact HWW.out _ (List.getElem_mem _)
   have hx2l : x2 ≤ 40000000000000000 := by rw [hx2]; exact HWW.out _ (List.getElem_mem _)
   obtain ⟨P, hP⟩ : ∃ P, P = x1 + x2 := ⟨_, rfl⟩
   have HP : Hid (ps.drop j = P :: ps.drop (j + 1)) := hid (by
    have hjp : j < ps.length := by have := HPS.out.2; omega
    rw [List.drop_eq_getElem_cons hjp, hP]
    congr 1
    have h1 := HPS.out.1
    subst h1
    rw [pairW_get _ _ hjp]
    simp [hx1, hx2])
   have hPI : ((x1 : Int) + (x2 : Int)) = (P : Int) := by omega
   have hPl : P ≤ 80000000000000000 := by omega
   have hsub : ((i : Int) - 1) = (h : Int) := by omega
   have hhl : h < il := by omega
   clear hx1 hx2 hcl hP hi2 hh
   go_wp2_with fail
   go_quiet (fail)
   have HR2 : Hid (TRow w.heap.size (wr.drewN nq) u5 out) := HR
   have HK2 : Hid (Same w (wr.drewN nq)) := hid (HK.out.drewN nq)
   clear HR HK c1 c2
   generalize wr.drewN nq = wq at HR2 HK2
   go_wp2_with fail
   go_loopg [5, 6] (m - r) (fun q z5 z6 wx => ∃ (r px : Nat) (out : List (Nat × Bool)), m - r ≤ q ∧ r ≤ m ∧ Hid (r < m → px = o + r) ∧ z6 = .slice (some ⟨b, px, none⟩) (m - r) (cap - r) ∧
    Hid (out ++ mg ((wsOf ns).drop r) (P :: ps.drop (j + 1)) = tot) ∧ Hid (TRow w.heap.size wx z5 out) ∧ Hid (Same w wx))
   case atStart => exact ⟨r, px, out, by omega, by omega, HPX, rfl, hid (by rw [← HP.out]; exact HF.out.1), HR2, HK2⟩
   case round =>
    clear HR2 HK2
    have HF0 : Hid (2 * j ≤ il ∧ i = 1 + 2 * j) := HF.out.2
    clear HF hr HPX
    obtain ⟨r, px, out, hq2, hr, HPX, rfl, HF, HR, HK⟩ := hrel
    have hout : out.length ≤ 800 := by have h1 := HF.out; have h2 := HTOT.out.2; rw [← h1] at h2; simp at h2; omega
    have hsz := HK.out.size
    by_cases hrm : r < m
    ·have hpx := HPX.out hrm
     subst hpx
     have hrl : r < (ris ns).length := by have := HMM.out; omega
     have hbx := HB.out.same HK.out
     obtain ⟨b2, o2, cap2, e2, _, _, c3⟩ := hbx.su.get r hrl
     simp only [Value.slice.injEq, Option.some.injEq, Addr.mk.injEq, and_true] at e2
     obtain ⟨⟨rfl, rfl⟩, hxe, rfl⟩ := e2
     clear hxe
     obtain ⟨s, hs⟩ : ∃ s, s = (ris ns)[r] := ⟨_, rfl⟩
     have hsr : s < ns.length ∧ key ns s ≠ 0 := mem_ris.1 (by rw [hs]; exact List.getElem_mem _)
     rw [← hs] at c3
     obtain ⟨b3, o3, cap3, e3, _, _, c4⟩ := hbx.sc.get s hsr.1
     simp only [Value.slice.injEq, Option.some.injEq, Addr.mk.injEq, and_true] at e3
     obtain ⟨⟨rfl, rfl⟩, hxe, rfl⟩ := e3
     clear hxe
     rw [← key_get hsr.1] at c4
     obtain ⟨y, hy⟩ : ∃ y, y = key ns s := ⟨_, rfl⟩
     rw [← hy] at c4
     unfold natV at c3 c4
     have cb := hbx.cc
     have hyl : y ≤ 1000000000000 := by rw [hy, key_get hsr.1]; exact HKK.out _ (List.getElem_mem _)
     have hd : (wsOf ns).drop r = y :: (wsOf ns).drop (r + 1) := by rw [wsOf_drop ns r hrl, ← hs, hy]
     have hsn := hsr.1
     have hmr : 0 < m - r := by omega
     clear hs hsr hy hbx
     by_cases hle : y ≤ P
     ·have HF2 : Hid (out ++ [(y, false)] ++ mg ((wsOf ns).drop (r + 1)) (P :: ps.drop (j + 1)) = tot) := hid (by
       have h1 := HF.out
       rw [hd, mg_leaf _ _ hle] at h1
       simpa using h1)
      clear hd
      have hle' : decide (y ≤ P) = true := by simp [hle]
      go_wp2_with fail
      go_quiet (fail)
      have HR2 : Hid (TRow w.heap.size (wr.drewN nq) u5 out) := HR
      have HK2 : Hid (Same w (wr.drewN nq)) := hid (HK.out.drewN nq)
      have c3' : (wr.drewN nq).cell? ⟨b, o + r, none⟩ = some (.int .i64 (s : Int)) := c3
      have c4' : (wr.drewN nq).cell? ⟨c0, oc + s, none⟩ = some (.int .i64 (y : Int)) := c4
      have cb' : (wr.drewN nq).cell? ⟨bc, 0, none⟩ = some (.slice (some ⟨c0, oc, none⟩) ns.length capc) := cb
      have hsz' : w.heap.size ≤ (wr.drewN nq).heap.size := hsz
      clear HR HK c3 c4 cb hsz
      generalize wr.drewN nq = wq at HR2 HK2 c3' c4' cb' hsz'
      go_wp2_with fail
      go_region_law (refine step_append_item w.heap.size rfl (.tmp 43) (.tmp 51) rfl u5 out (by simp [Act.eval]) (World.ownsRow.alloc HR2.out _) ⟨wq.heap.size, 0, none⟩ (y, false) (by simp [Act.eval]) (item_new _ _ _) (by omega) (by simp; omega) ?_; intro v' w1 hrow hgr)
      all_goals
       have HR3 : Hid (TRow w.heap.size w1 v' (out ++ [(y, false)])) := hrow
       have HK3 : Hid (Same w w1) := hid (Kept.grown ((HK2.out.alloc _).drew) hgr (fun k e => .inr (HR2.out.ge e)))
       clear hrow hgr HR2 HK2 c3' c4' cb'
       go_wp2_with fail
       all_goals
        go_roundg (gk - 1)
        case measure => omega
        case rel =>
         refine ⟨r + 1, _, out ++ [(y, false)], by omega, by omega, ?_, slice_eq rfl (by omega) (by omega), HF2, HR3, HK3⟩
         exact hid (fun _ => by omega)
     ·have HF2 : Hid (out ++ [(P, true)] ++ mg ((wsOf ns).drop r) (ps.drop (j + 1)) = tot) := hid (by
       have h1 := HF.out
       rw [hd, mg_pack _ _ hle, ← hd] at h1
       simpa using h1)
      clear hd
      have hle' : decide (y ≤ P) = false := by simp; omega
      go_wp2_with fail
      go_quiet (fail)
      have HR2 : Hid (TRow w.heap.size (wr.drewN nq) u5 out) := HR
      have HK2 : Hid (Same w (wr.drewN nq)) := hid (HK.out.drewN nq)
      have hsz' : w.heap.size ≤ (wr.drewN nq).heap.size := hsz
      clear HR HK c3 c4 cb hsz
      generalize wr.drewN nq = wq at HR2 HK2 hsz'
      go_wp2_with (at_builtin; refine wpList_append_item _ w.heap.size rfl (.tmp 55) (.tmp 58) rfl u5 out rfl (World.ownsRow.alloc HR2.out _) ⟨wq.heap.size, 0, none⟩ (P, true) rfl (item_new _ _ _) (by omega) (by simp; omega) ?_; intro v' w1 hrow hgr)
      have HR3 : Hid (TRow w.heap.size w1 v' (out ++ [(P, true)])) := hrow
      have HK3 : Hid (Same w w1) := hid (Kept.grown (HK2.out.alloc _) hgr (fun k e => .inr (HR2.out.ge e)))
      clear hrow hgr HR2 HK2
      go_wp2_with fail
      go_roundg (gk0 - 1)
      case measure => have := HG.out; omega
      case rel => exact ⟨i + 2, j + 1, r, o + r, out ++ [(P, true)], by omega, by omega, by omega, hid (fun _ => rfl), rfl, by go_num, hid ⟨HF2.out, by have := HF0.out; omega, by have := HF0.out; omega⟩, HR3, HK3⟩
    ·have hrm2 : r = m := by omega
     have hd : (wsOf ns).drop r = [] := List.drop_eq_nil_of_le (by rw [wsOf_length]; have := HMM.out; omega)
     have HF2 : Hid (out ++ [(P, true)] ++ mg ((wsOf ns).drop r) (ps.drop (j + 1)) = tot) := hid (by
      have h1 := HF.out
      rw [hd, mg_none] at h1
      rw [hd]
      simpa using h1)
     have hmr : m - r = 0 := by omega
     clear hd hrm2
     go_wp2_with fail
     go_quiet (fail)
     have HR2 : Hid (TRow w.heap.size (wr.drewN nq) u5 out) := HR
     have HK2 : Hid (Same w (wr.drewN nq)) := hid (HK.out.drewN nq)
     have hsz' : w.heap.size ≤ (wr.drewN nq).heap.size := hsz
     clear HR HK hsz
     generalize wr.drewN nq = wq at HR2 HK2 hsz'
     go_wp2_with (at_builtin; refine wpList_append_item _ w.heap.size rfl (.tmp 55) (.tmp 58) rfl u5 out rfl (World.ownsRow.alloc HR2.out _) ⟨wq.heap.size, 0, none⟩ (P, true) rfl (item_new _ _ _) (by omega) (by simp; omega) ?_; intro v' w1 hrow hgr)
     have HR3 : Hid (TRow w.heap.size w1 v' (out ++ [(P, true)])) := hrow
     have HK3 : Hid (Same w w1) := hid (Kept.grown (HK2.out.alloc _) hgr (fun k e => .inr (HR2.out.ge e)))
     clear hrow hgr HR2 HK2
     go_wp2_with fail
     go_roundg (gk0 - 1)
     case measure => have := HG.out; omega
     case rel => exact ⟨i + 2, j + 1, r, _, out ++ [(P, true)], by omega, by omega, by omega, HPX, by rw [hmr], by go_num, hid ⟨HF2.out, by have := HF0.out; omega, by have := HF0.out; omega⟩, HR3, HK3⟩
  ·have hdn : ps.drop j = [] := List.drop_eq_nil_of_le (by have := HPS.out.2; have := HIL.out; have := HF.out; omega)
   have HF1 : Hid (out ++ mg ((wsOf ns).drop r) [] = tot) := hid (by have h := HF.out.1; rw [hdn] at h; exact h)
   clear hdn HF
   go_wp2_with fail
   go_loopg [5, 62] (m - r) (fun q z5 zk wx => ∃ (k : Nat) (out : List (Nat × Bool)), m - r - k ≤ q ∧ k ≤ m - r ∧ zk = .int .i64 (k : Nat) ∧ Hid (out ++ mg ((wsOf ns).drop (r + k)) [] = tot) ∧ Hid (TRow w.heap.size wx z5 out) ∧ Hid (Same w wx))
   case atStart => exact ⟨0, out, by omega, by omega, rfl, HF1, HR, HK⟩
   case round =>
    clear HF1 HR HK
    obtain ⟨k, out, hq2, hk, rfl, HF, HR, HK⟩ := hrel
    have hout : out.length ≤ 800 := by have h1 := HF.out; have h2 := HTOT.out.2; rw [← h1] at h2; simp at h2; omega
    have hsz := HK.out.size
    by_cases hrm : k < m - r
    ·have hpx := HPX.out (by omega)
     subst hpx
     have hrl : r + k < (ris ns).length := by have := HMM.out; omega
     have hbx := HB.out.same HK.out
     obtain ⟨b2, o2, cap2, e2, _, _, c3⟩ := hbx.su.get (r + k) hrl
     simp only [Value.slice.injEq, Option.some.injEq, Addr.mk.injEq, and_true] at e2
     obtain ⟨⟨rfl, rfl⟩, hxe, rfl⟩ := e2
     clear hxe
     obtain ⟨s, hs⟩ : ∃ s, s = (ris ns)[r + k] := ⟨_, rfl⟩
     have hsr : s < ns.length ∧ key ns s ≠ 0 := mem_ris.1 (by rw [hs]; exact List.getElem_mem _)
     rw [← hs] at c3
     obtain ⟨b3, o3, cap3, e3, _, _, c4⟩ := hbx.sc.get s hsr.1
     simp only [Value.slice.injEq, Option.some.injEq, Addr.mk.injEq, and_true] at e3
     obtain ⟨⟨rfl, rfl⟩, hxe, rfl⟩ := e3
     clear hxe
     rw [← key_get hsr.1] at c4
     obtain ⟨y, hy⟩ : ∃ y, y = key ns s := ⟨_, rfl⟩
     rw [← hy] at c4
     unfold natV at c3 c4
     rw [← Nat.add_assoc] at c3
     have cb := hbx.cc
     have hyl : y ≤ 1000000000000 := by rw [hy, key_get hsr.1]; exact HKK.out _ (List.getElem_mem _)
     have HF2 : Hid (out ++ [(y, false)] ++ mg ((wsOf ns).drop (r + (k + 1))) [] = tot) := hid (by
      have h1 := HF.out
      rw [wsOf_drop ns (r + k) hrl, ← hs, ← hy, mg_nil, List.map_cons, ← mg_nil] at h1
      rw [← Nat.add_assoc]
      simpa using h1)
     have hsn := hsr.1
     clear hs hsr hy hbx
     go_wp2_with (at_builtin; refine wpList_append_item _ w.heap.size rfl (.tmp 66) (.tmp 72) rfl u5 out rfl (World.ownsRow.alloc HR.out _) ⟨wr.heap.size, 0, none⟩ (y, false) rfl (item_new _ _ _) (by omega) (by simp; omega) ?_; intro v' w1 hrow hgr)
     have HR3 : Hid (TRow w.heap.size w1 v' (out ++ [(y, false)])) := hrow
     have HK3 : Hid (Same w w1) := hid (Kept.grown (HK.out.alloc _) hgr (fun k e => .inr (HR.out.ge e)))
     clear hrow hgr HR HK
     go_wp2_with fail
     go_roundg (gk - 1)
     case measure => omega
     case rel => exact ⟨k + 1, out ++ [(y, false)], by omega, by omega, by go_num, HF2, HR3, HK3⟩
    ·have hk2 : k = m - r := by omega
     subst hk2
     have he : out = tot := by
      have h1 := HF.out
      rw [List.drop_eq_nil_of_le (by rw [wsOf_length]; have := HMM.out; omega), mg_nil] at h1
      simpa using h1
     have HE : Hid (out = tot) := he
     clear he
     go_wp2_with fail
     go_ret
     exact ⟨_, rfl, by rw [← HE.out]; exact HR.out, HK.out⟩

end Go.Proofs.YtljlmfnbeofmmaaGreatDoor
