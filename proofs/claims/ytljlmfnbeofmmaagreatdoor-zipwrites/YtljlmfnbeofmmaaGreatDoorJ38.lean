/-
  Of the proof: parts LnMany, LnPk.
-/
import Derived.Deep.RegionHeld3
import Derived.Test.YtljlmfnbeofmmaaGreatDoorJ26
import Derived.Test.YtljlmfnbeofmmaaGreatDoorJ27
import Derived.Test.YtljlmfnbeofmmaaGreatDoorJ3
import Derived.Test.YtljlmfnbeofmmaaGreatDoorJ11

namespace Go.Proofs.YtljlmfnbeofmmaaGreatDoor
open Go.RowKit

abbrev ManyF (pn po B : Nat) (k : Nat) : Prop := k = pn ∨ k = po ∨ B ≤ k

theorem RowC.slice {α : Type} {B t k : Nat} {enc : α → List Value} {w : World} {v : Value} {xs : List α} (h : RowC B t k enc w v xs) : ∃ ao n cap, v = .slice ao n cap := by
 obtain ⟨ao, cap, hv, _⟩ := h.shape
 exact ⟨ao, _, cap, hv⟩

structure MSt (w : World) (pn po B : Nat) (n : Nat) (vo : Value) (ss : List (Int × Int)) : Prop where
 bn : Blk w pn #[.int .i64 (n : Nat)] 3
 bo : Blk w po #[vo] 172
 row : StRow B w vo ss

set_option maxRecDepth 100000 in
set_option maxHeartbeats 2000000 in
theorem many_any (w : World) (pn po B n : Nat) (vo : Value) (ss : List (Int × Int)) (sym : Int) (lo hi : Nat) (hlo : lo = leastM sym) (hhi : hi = lo + 2 ^ widthM sym - 1) (hst : MSt w pn po B n vo ss) (hne : pn ≠ po) (hpn : pn < B) (hpo : po < B) (hB : B ≤ w.heap.size) (hss : ss.length + n ≤ 1000) :
  Calls Tryz.prog 195 #[.int .i64 sym, .pointer (some ⟨pn, 0, none⟩), .pointer (some ⟨po, 0, none⟩)] w fun e w' => (∃ v vo', e = .returned v ∧ MSt w' pn po B (manyR lo hi n) vo' (ss ++ manyL sym lo hi n)) ∧ Kept (ManyF pn po B) w w' := by
 have hw7 := widthM_le sym
 have hl1 := leastM_le sym
 have HSH := shape_any w sym
 rw [← hlo] at HSH hl1
 obtain ⟨wd, hwd⟩ : ∃ x, x = widthM sym := ⟨_, rfl⟩
 rw [← hwd] at HSH hw7 hhi
 clear hwd hlo
 have hp7 := pow_le7 wd hw7
 have hp0 : 0 < 2 ^ wd := Nat.two_pow_pos wd
 have hshl : ∃ pw : Nat, wrap64 ((2 : Int) ^ wd) = (pw : Int) ∧ hi = lo + pw - 1 ∧ 0 < pw ∧ pw ≤ 128 := by
  refine ⟨2 ^ wd, ?_, hhi, hp0, hp7⟩
  have : (2 : Int) ^ wd = ((2 ^ wd : Nat) : Int) := by simp
  rw [this]; unfold wrap64; omega
 clear hhi hp7 hp0
 obtain ⟨pw, hshl, hhi, hp0, hp7⟩ := hshl
 obtain ⟨s1, hs1⟩ : ∃ x, x = lo + pw := ⟨_, rfl⟩
 have hs1I : (lo : Int) + (pw : Int) = (s1 : Int) := by omega
 have hs1w : IntKind.i64.wrap (s1 : Int) = (s1 : Int) := by rw [IntKind.wrap_i64]; omega
 have hhiI : (s1 : Int) - 1 = (hi : Int) := by omega
 have hhiw : IntKind.i64.wrap (hi : Int) = (hi : Int) := by rw [IntKind.wrap_i64]; omega
 have hlh : lo ≤ hi := by omega
 have hhi2 : hi ≤ 200 := by omega
 have HS : Hid (MSt w pn po B n vo ss) := hst
 have hll : 1 ≤ lo := hl1.1
 clear hs1 hhi hst
 go_enter Tryz.func195, Tryz.ntmps195
 go_wp2_with fail
 refine HSH.mono ?_
 rintro e w1 ⟨rfl, hw1⟩
 subst hw1
 clear HSH
 go_wp2_with fail
 rw [hshl]
 clear hshl
 go_loopg [7] n (fun q _ wr => ∃ (k : Nat) (em : List (Int × Int)) (v : Value), k ≤ q ∧ k ≤ n ∧ Hid (manyL sym lo hi n = em ++ manyL sym lo hi k ∧ manyR lo hi n = manyR lo hi k ∧ em.length + k ≤ n) ∧ Hid (MSt wr pn po B k v (ss ++ em)) ∧ Hid (Kept (ManyF pn po B) w1 wr))
 case atStart => exact ⟨n, [], vo, by omega, by omega, hid ⟨rfl, rfl, by simp⟩, hid (by simpa using HS.out), Kept.refl _ _⟩
 case round =>
  clear HS
  obtain ⟨k, em, v, hq, hkn, HZ, HS, HK⟩ := hrel
  have hsz := HK.out.size
  have c1 := HS.out.bn.cell 0
  have c2 := HS.out.bo.cell 0
  simp only [List.getElem?_toArray, List.getElem?_cons_zero] at c1 c2
  by_cases hlk : lo ≤ k
  ·by_cases hkh : k ≤ hi
   ·have hmin : min k hi = k := by omega
    obtain ⟨x, hx⟩ : ∃ x, x = k - lo := ⟨_, rfl⟩
    have hxI : (k : Int) - (lo : Int) = (x : Int) := by omega
    obtain ⟨k2, hk2⟩ : ∃ x, x = k - k := ⟨_, rfl⟩
    have hk2I : (k : Int) - (k : Int) = (k2 : Int) := by omega
    have hxw : IntKind.i64.wrap (x : Int) = (x : Int) := by rw [IntKind.wrap_i64]; omega
    have hk2w : IntKind.i64.wrap (k2 : Int) = (k2 : Int) := by rw [IntKind.wrap_i64]; omega
    have hk2k : k2 < k := by omega
    have HZ2 : Hid (manyL sym lo hi n = (em ++ [(sym, (x : Int))]) ++ manyL sym lo hi k2 ∧ manyR lo hi n = manyR lo hi k2 ∧ (em ++ [(sym, (x : Int))]).length + k2 ≤ n) := hid (by
     obtain ⟨h1, h2, h3⟩ := HZ.out
     refine ⟨?_, ?_, ?_⟩
     ·rw [h1, manyL_more hll hlh hlk, hmin, ← hx, ← hk2]; simp
     ·rw [h2, manyR_more hll hlh hlk, hmin, ← hk2]
     ·simp; omega)
    have hlen : (ss ++ em).length + 1 ≤ 1000000000 := by have := HZ.out.2.2; simp; omega
    have hlkd : decide ((lo : Int) ≤ (k : Int)) = true := by simp; omega
    clear hx hk2 hmin
    go_wp2_with (at_builtin; refine wpList_append_step _ B rfl (.tmp 24) (.tmp 30) rfl v _ rfl (World.ownsRow.alloc HS.out.row _) ⟨wr.heap.size, 0, none⟩ (sym, (x : Int)) rfl (step_new _ _ _) hlen (by simp; omega) ?_; intro v5 w5 hr5 hg5; obtain ⟨ao5, n5, cap5, hv5⟩ := RowC.slice hr5; subst hv5; have HK5 : Hid (Kept (fun j => v.ownBlock = some j) wr w5) := hid (((Kept.refl _ wr).alloc _).grown hg5 (fun j e => .inl e)); have HOW : Hid (∀ j, j < B → ¬ v.ownBlock = some j) := hid (fun j hj e => by have := HS.out.row.ge e; omega); have HBN : Hid (Blk w5 pn #[.int .i64 (k : Nat)] 3) := hid (HS.out.bn.kept HK5.out (HOW.out pn hpn)); have HBO : Hid (Blk w5 po #[v] 172) := hid (HS.out.bo.kept HK5.out (HOW.out po hpo)); have HR5 : Hid (StRow B w5 (.slice ao5 n5 cap5) (ss ++ (em ++ [(sym, (x : Int))]))) := hid (by rw [← List.append_assoc]; exact hr5); have c3 : w5.cell? ⟨pn, 0, none⟩ = some (.int .i64 (k : Nat)) := HBN.out.cell 0; have c4 : w5.cell? ⟨po, 0, none⟩ = some v := HBO.out.cell 0; have f3 : w5.frozen? ⟨pn, 0, none⟩ = false := HBN.out.frozen 0; have f4 : w5.frozen? ⟨po, 0, none⟩ = false := HBO.out.frozen 0; clear hr5 hg5)
    go_roundg (gk - 1)
    case measure => omega
    case rel =>
     refine ⟨k2, em ++ [(sym, (x : Int))], .slice ao5 n5 cap5, by omega, by omega, HZ2, hid ⟨?_, ?_, ?_⟩, hid ?_⟩
     ·exact (HBN.out.kept (Kept.setCell (Kept.refl (· = po) w5) ⟨po, 0, none⟩ _ (.inl rfl)) hne).set 0 _
     ·exact (HBO.out.set 0 _).kept (Kept.setCell (Kept.refl (· = pn) _) ⟨pn, 0, none⟩ _ (.inl rfl)) (fun e => hne e.symm)
     ·exact RowC.kept HR5.out (((Kept.refl (fun j => j = pn ∨ j = po) w5).setCell ⟨po, 0, none⟩ _ (.inl (.inr rfl))).setCell ⟨pn, 0, none⟩ _ (.inl (.inl rfl))) (fun j e h => by have := HR5.out.ge e; omega)
     ·have h15 : Kept (ManyF pn po B) w1 w5 := Kept.trans HK.out HK5.out (fun _ _ h => h) (fun j _ e => .inr (.inr (HS.out.row.ge e)))
      exact (h15.setCell ⟨po, 0, none⟩ _ (.inl (.inr (.inl rfl)))).setCell ⟨pn, 0, none⟩ _ (.inl (.inl rfl))
   ·have hmin : min k hi = hi := by omega
    obtain ⟨x, hx⟩ : ∃ x, x = hi - lo := ⟨_, rfl⟩
    have hxI : (hi : Int) - (lo : Int) = (x : Int) := by omega
    obtain ⟨k2, hk2⟩ : ∃ x, x = k - hi := ⟨_, rfl⟩
    have hk2I : (k : Int) - (hi : Int) = (k2 : Int) := by omega
    have hxw : IntKind.i64.wrap (x : Int) = (x : Int) := by rw [IntKind.wrap_i64]; omega
    have hk2w : IntKind.i64.wrap (k2 : Int) = (k2 : Int) := by rw [IntKind.wrap_i64]; omega
    have hk2k : k2 < k := by omega
    have HZ2 : Hid (manyL sym lo hi n = (em ++ [(sym, (x : Int))]) ++ manyL sym lo hi k2 ∧ manyR lo hi n = manyR lo hi k2 ∧ (em ++ [(sym, (x : Int))]).length + k2 ≤ n) := hid (by
     obtain ⟨h1, h2, h3⟩ := HZ.out
     refine ⟨?_, ?_, ?_⟩
     ·rw [h1, manyL_more hll hlh hlk, hmin, ← hx, ← hk2]; simp
     ·rw [h2, manyR_more hll hlh hlk, hmin, ← hk2]
     ·simp; omega)
    have hlen : (ss ++ em).length + 1 ≤ 1000000000 := by have := HZ.out.2.2; simp; omega
    have hlkd : decide ((lo : Int) ≤ (k : Int)) = true := by simp; omega
    clear hx hk2 hmin
    go_wp2_with (at_builtin; refine wpList_append_step _ B rfl (.tmp 24) (.tmp 30) rfl v _ rfl (World.ownsRow.alloc HS.out.row _) ⟨wr.heap.size, 0, none⟩ (sym, (x : Int)) rfl (step_new _ _ _) hlen (by simp; omega) ?_; intro v5 w5 hr5 hg5; obtain ⟨ao5, n5, cap5, hv5⟩ := RowC.slice hr5; subst hv5; have HK5 : Hid (Kept (fun j => v.ownBlock = some j) wr w5) := hid (((Kept.refl _ wr).alloc _).grown hg5 (fun j e => .inl e)); have HOW : Hid (∀ j, j < B → ¬ v.ownBlock = some j) := hid (fun j hj e => by have := HS.out.row.ge e; omega); have HBN : Hid (Blk w5 pn #[.int .i64 (k : Nat)] 3) := hid (HS.out.bn.kept HK5.out (HOW.out pn hpn)); have HBO : Hid (Blk w5 po #[v] 172) := hid (HS.out.bo.kept HK5.out (HOW.out po hpo)); have HR5 : Hid (StRow B w5 (.slice ao5 n5 cap5) (ss ++ (em ++ [(sym, (x : Int))]))) := hid (by rw [← List.append_assoc]; exact hr5); have c3 : w5.cell? ⟨pn, 0, none⟩ = some (.int .i64 (k : Nat)) := HBN.out.cell 0; have c4 : w5.cell? ⟨po, 0, none⟩ = some v := HBO.out.cell 0; have f3 : w5.frozen? ⟨pn, 0, none⟩ = false := HBN.out.frozen 0; have f4 : w5.frozen? ⟨po, 0, none⟩ = false := HBO.out.frozen 0; clear hr5 hg5)
    go_roundg (gk - 1)
    case measure => omega
    case rel =>
     refine ⟨k2, em ++ [(sym, (x : Int))], .slice ao5 n5 cap5, by omega, by omega, HZ2, hid ⟨?_, ?_, ?_⟩, hid ?_⟩
     ·exact (HBN.out.kept (Kept.setCell (Kept.refl (· = po) w5) ⟨po, 0, none⟩ _ (.inl rfl)) hne).set 0 _
     ·exact (HBO.out.set 0 _).kept (Kept.setCell (Kept.refl (· = pn) _) ⟨pn, 0, none⟩ _ (.inl rfl)) (fun e => hne e.symm)
     ·exact RowC.kept HR5.out (((Kept.refl (fun j => j = pn ∨ j = po) w5).setCell ⟨po, 0, none⟩ _ (.inl (.inr rfl))).setCell ⟨pn, 0, none⟩ _ (.inl (.inl rfl))) (fun j e h => by have := HR5.out.ge e; omega)
     ·have h15 : Kept (ManyF pn po B) w1 w5 := Kept.trans HK.out HK5.out (fun _ _ h => h) (fun j _ e => .inr (.inr (HS.out.row.ge e)))
      exact (h15.setCell ⟨po, 0, none⟩ _ (.inl (.inr (.inl rfl)))).setCell ⟨pn, 0, none⟩ _ (.inl (.inl rfl))
  ·have hlkd : decide ((lo : Int) ≤ (k : Int)) = false := by simp; omega
   have HE : Hid (manyR lo hi n = k ∧ manyL sym lo hi n = em) := hid ⟨by rw [HZ.out.2.1, manyR_end (by omega)], by rw [HZ.out.1, manyL_end (by omega), List.append_nil]⟩
   go_wp2_with fail
   go_end0
   exact ⟨⟨_, v, rfl, by rw [HE.out.1, HE.out.2]; exact HS.out⟩, HK.out⟩

set_option maxRecDepth 100000 in
set_option maxHeartbeats 2000000 in
theorem packRow_any (w : World) (x n : Nat) (hn : n ≤ 400) (hn1 : 1 ≤ n) :
  Calls Tryz.prog 163 #[.int .i64 (x : Nat), .int .i64 (n : Nat)] w fun e w' => ∃ v', e = .returned v' ∧ StRow w.heap.size w' v' (sayM x n) ∧ Same w w' := by
 obtain ⟨W, hW⟩ : ∃ W, W = (w.alloc (.cells #[.int .i64 (n : Nat)] 3)).alloc (.cells #[.slice none 0 0] 172) := ⟨_, rfl⟩
 have hWs : W.heap.size = w.heap.size + 2 := by rw [hW]; simp
 have HK : Hid (Same w W) := hid (by rw [hW]; exact ((Kept.refl _ w).alloc _).alloc _)
 have hst : MSt W w.heap.size (w.heap.size + 1) (w.heap.size + 2) n (.slice none 0 0) [] := by
  have hb2 := Blk.new (w.alloc (.cells #[.int .i64 (n : Nat)] 3)) #[.slice none 0 0] 172
  rw [World.size_alloc, ← hW] at hb2
  exact ⟨by rw [hW]; exact (Blk.new w _ _).kept ((Kept.refl (fun _ => False) _).alloc _) (fun h => h), hb2, RowC.nil⟩
 by_cases hx : x = 0
 ·subst hx
  have H18 := many_any W w.heap.size (w.heap.size + 1) (w.heap.size + 2) n (.slice none 0 0) [] 18 11 138 (by decide) (by decide) hst (by omega) (by omega) (by omega) (by omega) (by simp; omega)
  have HSAY : Hid (sayM 0 n = manyL 18 11 138 n ++ (manyL 17 3 10 (manyR 11 138 n) ++ List.replicate (manyR 3 10 (manyR 11 138 n)) (0, 0))) := hid (by unfold sayM; rw [if_pos rfl, zerosM_many])
  clear hst
  go_enter Tryz.func163, Tryz.ntmps163
  go_wp2_with fail
  rw [← hW]
  refine H18.mono ?_
  rintro e W2 ⟨⟨v2, vo2, rfl, hs2⟩, hk2⟩
  have hm := many_le 18 11 138 n (by decide) (by decide)
  have H17 := many_any W2 w.heap.size (w.heap.size + 1) (w.heap.size + 2) (manyR 11 138 n) vo2 _ 17 3 10 (by decide) (by decide) hs2 (by omega) (by omega) (by omega) (by have := hk2.size; omega) (by simp; omega)
  have HK2 : Hid (Kept (ManyF w.heap.size (w.heap.size + 1) (w.heap.size + 2)) W W2) := hk2
  clear hs2 hk2 H18 hm
  go_wp2_with fail
  refine H17.mono ?_
  rintro e W3 ⟨⟨v3, vo3, rfl, hs3⟩, hk3⟩
  obtain ⟨ao, n0, cap, rfl⟩ := RowC.slice hs3.row
  obtain ⟨k, hk⟩ : ∃ k, k = manyR 3 10 (manyR 11 138 n) := ⟨_, rfl⟩
  obtain ⟨ss, hss⟩ : ∃ ss, ss = [] ++ manyL 18 11 138 n ++ manyL 17 3 10 (manyR 11 138 n) := ⟨_, rfl⟩
  rw [← hk, ← hss] at hs3
  have HS3 : Hid (MSt W3 w.heap.size (w.heap.size + 1) (w.heap.size + 2) k (.slice ao n0 cap) ss) := hs3
  have HK3 : Hid (Kept (ManyF w.heap.size (w.heap.size + 1) (w.heap.size + 2)) W W3) := hid (Kept.trans HK2.out hk3 (fun _ _ h => h) (fun _ _ h => h))
  have HSS : Hid (ss = manyL 18 11 138 n ++ manyL 17 3 10 (manyR 11 138 n)) := hid (by rw [hss]; simp)
  have HKK : Hid (k = manyR 3 10 (manyR 11 138 n)) := hk
  have HLE : Hid (ss.length + k ≤ 400) := hid (by
   have h1 := many_le 18 11 138 n (by decide) (by decide)
   have h2 := many_le 17 3 10 (manyR 11 138 n) (by decide) (by decide)
   rw [hss, hk]
   simp
   omega)
  clear hs3 hk3 hk hss H17 HK2
  have HEND : Hid (sayM 0 n = ss ++ List.replicate k (0, 0)) := hid (by rw [HSS.out, HSAY.out, ← HKK.out, List.append_assoc])
  have hk4 : k ≤ 401 := by have := HLE.out; omega
  have hss4 : ss.length + k ≤ 401 := by have := HLE.out; omega
  have HSZ : Hid (w.heap.size + 2 ≤ W3.heap.size) := hid (by have := HK3.out.size; omega)
  have cN : W3.cell? ⟨w.heap.size, 0, none⟩ = some (.int .i64 (k : Nat)) := HS3.out.bn.cell 0
  have cO : W3.cell? ⟨w.heap.size + 1, 0, none⟩ = some (.slice ao n0 cap) := HS3.out.bo.cell 0
  have HREP : Hid (∀ W4 : World, CellsAt W4 ⟨W3.heap.size, 0, none⟩ (stC (0, 0)) → Calls Tryz.prog 196 #[.slice (some ⟨W3.heap.size, 0, none⟩) 1 1, .int .i64 (k : Nat)] W4 fun e w' => ∃ g, e = .returned (.slice (some ⟨g, 0, none⟩) k k) ∧ StRow W4.heap.size w' (.slice (some ⟨g, 0, none⟩) k k) (List.replicate k (0, 0)) ∧ Same W4 w') := hid (fun W4 h => repeatS_any W4 _ (0, 0) k h (by omega))
  have HOW : Hid (∀ j, j < w.heap.size + 2 → ¬ (Value.slice ao n0 cap).ownBlock = some j) := hid (fun j hj e => by have := HS3.out.row.ge e; omega)
  go_wp2_with fail
  go_region_held3 (fun w' => w'.cell? ⟨w.heap.size, 0, none⟩ = some (.int .i64 (k : Nat)) ∧ w'.cell? ⟨w.heap.size + 1, 0, none⟩ = some (.slice ao n0 cap))
   (first
    | (go_split_ands; exact ⟨hk5.cell (by assumption) (by unfold Over; simp), hk5.cell (by assumption) (by unfold Over; simp)⟩)
    | (go_split_ands; exact ⟨hk4.cell (by assumption) (fun f => f), hk4.cell (by assumption) (fun f => f)⟩)
    | go_keep)
   (first
    | (go_at_call 196; refine (HREP.out _ ?_).mono ?_; exact step_new _ _ _; rintro e w4 ⟨g, rfl, hr4, hk4⟩)
    | (have hw4 : Same W3 w4 := Same.trans (((Kept.refl _ W3).drew).alloc _) hk4; refine step_append_c stC 2 stC_ok (w.heap.size + 2) 172 220 (.agg #[.int .i64 0, .int .i64 0]) 16 Tryz.underlying172 Tryz.infoSt rfl (by decide) (by rfl) (.tmp 23) (.tmp 28) (by rfl) (.slice ao n0 cap) ss (by rfl) (RowC.kept HS3.out.row hw4 (fun _ _ f => f)) ⟨g, 0, none⟩ k k (List.replicate k (0, 0)) (by rfl) (by simp) (by have h := hr4.raw.at (k * 2); rw [List.take_of_length_le (by rw [flat_length stC_ok, List.length_replicate]; exact Nat.le_refl _)] at h; exact h) (by simp; omega) (by have h := hw4.size; have := HSZ.out; omega) ?_; intro v5 w5 hr5 hg5; have hk5 : Kept (Over (w.heap.size + 2)) w4 w5 := (Kept.refl _ w4).grown hg5 (fun j e => .inl (HS3.out.row.ge e)); clear hg5))
  all_goals
   go_wp2_with fail
   go_ret
   refine ⟨v5, rfl, by rw [HEND.out]; exact RowC.base hr5 (by omega), ?_⟩
   have h1 : Same w W3 := Same.then HK.out HK3.out (fun j hj e => by unfold ManyF at e; omega)
   exact Same.then (Same.trans h1 (Same.trans (((Kept.refl _ W3).drew).alloc _) hk4)) hk5 (fun j hj e => by unfold Over at e; omega)
 ·obtain ⟨m, hm⟩ : ∃ m, m = n - 1 := ⟨_, rfl⟩
  have hmI : (n : Int) - 1 = (m : Int) := by omega
  have hxd : ((x : Int) == 0) = false := by simp; omega
  have HSAY : Hid (sayM x n = ((x : Int), 0) :: (manyL 16 3 6 m ++ List.replicate (manyR 3 6 m) ((x : Int), 0))) := hid (by unfold sayM; rw [if_neg hx, ← hm, againM_many])
  have HC0 : Hid (CellsAt (W.alloc (.cells #[.int .i64 (x : Nat), .int .i64 0] 220)) ⟨w.heap.size + 2, 0, none⟩ ([((x : Int), 0)].flatMap stC)) := hid (by have h := step_new W x 0; rw [hWs] at h; exact h)
  have HST : Hid (MSt W w.heap.size (w.heap.size + 1) (w.heap.size + 2) n (.slice none 0 0) []) := hst
  have HW : Hid (W = (w.alloc (.cells #[.int .i64 (n : Nat)] 3)).alloc (.cells #[.slice none 0 0] 172)) := hW
  have hm4 : m ≤ 400 := by omega
  clear hst hm hx hW
  go_enter Tryz.func163, Tryz.ntmps163
  go_wp2_with (at_builtin; refine wpList_append_step _ (w.heap.size + 2) rfl (.tmp 14) (.tmp 17) rfl (.slice none 0 0) [] rfl RowC.nil ⟨w.heap.size + 2, 0, none⟩ ((x : Int), 0) rfl (by have h := HC0.out; rw [HW.out] at h; exact h) (by simp) (by simp) ?_; intro v5 w5 hr5 hg5; rw [← HW.out] at hg5; obtain ⟨ao5, n5, cap5, hv5⟩ := RowC.slice hr5; subst hv5; have HK5 : Hid (Same W w5) := hid (((Kept.refl _ W).alloc _).grown hg5 (fun j e => by cases e)); have HBN : Hid (Blk w5 w.heap.size #[.int .i64 (n : Nat)] 3) := hid (HST.out.bn.kept HK5.out (fun f => f)); have HBO : Hid (Blk w5 (w.heap.size + 1) #[.slice none 0 0] 172) := hid (HST.out.bo.kept HK5.out (fun f => f)); have HR5 : Hid (StRow (w.heap.size + 2) w5 (.slice ao5 n5 cap5) [((x : Int), 0)]) := hr5; have c3 : w5.cell? ⟨w.heap.size, 0, none⟩ = some (.int .i64 (n : Nat)) := HBN.out.cell 0; have c4 : w5.cell? ⟨w.heap.size + 1, 0, none⟩ = some (.slice none 0 0) := HBO.out.cell 0; have f3 : w5.frozen? ⟨w.heap.size, 0, none⟩ = false := HBN.out.frozen 0; have f4 : w5.frozen? ⟨w.heap.size + 1, 0, none⟩ = false := HBO.out.frozen 0; clear hr5 hg5)
  obtain ⟨W2, hW2⟩ : ∃ W2, W2 = (w5.setCell ⟨w.heap.size + 1, 0, none⟩ (.slice ao5 n5 cap5)).setCell ⟨w.heap.size, 0, none⟩ (.int .i64 (m : Nat)) := ⟨_, rfl⟩
  rw [← hW2]
  have hst2 : MSt W2 w.heap.size (w.heap.size + 1) (w.heap.size + 2) m (.slice ao5 n5 cap5) [((x : Int), 0)] := by
   rw [hW2]
   refine ⟨?_, ?_, ?_⟩
   ·exact (HBN.out.kept (Kept.setCell (Kept.refl (· = w.heap.size + 1) w5) ⟨w.heap.size + 1, 0, none⟩ _ (.inl rfl)) (by omega)).set 0 _
   ·exact (HBO.out.set 0 _).kept (Kept.setCell (Kept.refl (· = w.heap.size) _) ⟨w.heap.size, 0, none⟩ _ (.inl rfl)) (by omega)
   ·exact RowC.kept HR5.out (((Kept.refl (fun j => j = w.heap.size ∨ j = w.heap.size + 1) w5).setCell ⟨w.heap.size + 1, 0, none⟩ _ (.inl (.inr rfl))).setCell ⟨w.heap.size, 0, none⟩ _ (.inl (.inl rfl))) (fun j e h => by have := HR5.out.ge e; omega)
  have hk2 : Kept (ManyF w.heap.size (w.heap.size + 1) (w.heap.size + 2)) W W2 := by
   rw [hW2]
   exact ((HK5.out.mono (fun _ _ f => f.elim)).setCell ⟨w.heap.size + 1, 0, none⟩ _ (.inl (.inr (.inl rfl)))).setCell ⟨w.heap.size, 0, none⟩ _ (.inl (.inl rfl))
  have H16 := many_any W2 w.heap.size (w.heap.size + 1) (w.heap.size + 2) m (.slice ao5 n5 cap5) [((x : Int), 0)] 16 3 6 (by decide) (by decide) hst2 (by omega) (by omega) (by omega) (by have := hk2.size; omega) (by simp; omega)
  have HK2 : Hid (Kept (ManyF w.heap.size (w.heap.size + 1) (w.heap.size + 2)) W W2) := hk2
  clear hst2 hk2 hW2 HBN HBO HR5 c3 c4 f3 f4 HK5
  refine H16.mono ?_
  rintro e W3 ⟨⟨v3, vo3, rfl, hs3⟩, hk3⟩
  obtain ⟨ao, n0, cap, rfl⟩ := RowC.slice hs3.row
  obtain ⟨k, hk⟩ : ∃ k, k = manyR 3 6 m := ⟨_, rfl⟩
  obtain ⟨ss, hss⟩ : ∃ ss, ss = [((x : Int), (0 : Int))] ++ manyL 16 3 6 m := ⟨_, rfl⟩
  rw [← hk, ← hss] at hs3
  have HS3 : Hid (MSt W3 w.heap.size (w.heap.size + 1) (w.heap.size + 2) k (.slice ao n0 cap) ss) := hs3
  have HK3 : Hid (Kept (ManyF w.heap.size (w.heap.size + 1) (w.heap.size + 2)) W W3) := hid (Kept.trans HK2.out hk3 (fun _ _ h => h) (fun _ _ h => h))
  have HSS : Hid (ss = [((x : Int), (0 : Int))] ++ manyL 16 3 6 m) := hss
  have HKK : Hid (k = manyR 3 6 m) := hk
  have HLE : Hid (ss.length + k ≤ 401) := hid (by
   have h1 := many_le 16 3 6 m (by decide) (by decide)
   rw [hss, hk]
   simp
   omega)
  clear hs3 hk3 hk hss H16 HK2
  have HEND : Hid (sayM x n = ss ++ List.replicate k ((x : Int), 0)) := hid (by rw [HSS.out, HSAY.out, HKK.out]; simp)
  have hk4 : k ≤ 401 := by have := HLE.out; omega
  have hss4 : ss.length + k ≤ 401 := by have := HLE.out; omega
  have HSZ : Hid (w.heap.size + 2 ≤ W3.heap.size) := hid (by have := HK3.out.size; omega)
  have cN : W3.cell? ⟨w.heap.size, 0, none⟩ = some (.int .i64 (k : Nat)) := HS3.out.bn.cell 0
  have cO : W3.cell? ⟨w.heap.size + 1, 0, none⟩ = some (.slice ao n0 cap) := HS3.out.bo.cell 0
  have HREP : Hid (∀ W4 : World, CellsAt W4 ⟨W3.heap.size, 0, none⟩ (stC ((x : Int), 0)) → Calls Tryz.prog 196 #[.slice (some ⟨W3.heap.size, 0, none⟩) 1 1, .int .i64 (k : Nat)] W4 fun e w' => ∃ g, e = .returned (.slice (some ⟨g, 0, none⟩) k k) ∧ StRow W4.heap.size w' (.slice (some ⟨g, 0, none⟩) k k) (List.replicate k ((x : Int), 0)) ∧ Same W4 w') := hid (fun W4 h => repeatS_any W4 _ ((x : Int), 0) k h (by omega))
  have HOW : Hid (∀ j, j < w.heap.size + 2 → ¬ (Value.slice ao n0 cap).ownBlock = some j) := hid (fun j hj e => by have := HS3.out.row.ge e; omega)
  go_wp2_with fail
  go_region_held3 (fun w' => w'.cell? ⟨w.heap.size, 0, none⟩ = some (.int .i64 (k : Nat)) ∧ w'.cell? ⟨w.heap.size + 1, 0, none⟩ = some (.slice ao n0 cap))
   (first
    | (go_split_ands; exact ⟨hk5.cell (by assumption) (by unfold Over; simp), hk5.cell (by assumption) (by unfold Over; simp)⟩)
    | (go_split_ands; exact ⟨hk4.cell (by assumption) (fun f => f), hk4.cell (by assumption) (fun f => f)⟩)
    | go_keep)
   (first
    | (go_at_call 196; refine (HREP.out _ ?_).mono ?_; exact step_new _ _ _; rintro e w4 ⟨g, rfl, hr4, hk4⟩)
    | (have hw4 : Same W3 w4 := Same.trans (((Kept.refl _ W3).drew).alloc _) hk4; refine step_append_c stC 2 stC_ok (w.heap.size + 2) 172 220 (.agg #[.int .i64 0, .int .i64 0]) 16 Tryz.underlying172 Tryz.infoSt rfl (by decide) (by rfl) (.tmp 23) (.tmp 28) (by rfl) (.slice ao n0 cap) ss (by rfl) (RowC.kept HS3.out.row hw4 (fun _ _ f => f)) ⟨g, 0, none⟩ k k (List.replicate k ((x : Int), 0)) (by rfl) (by simp) (by have h := hr4.raw.at (k * 2); rw [List.take_of_length_le (by rw [flat_length stC_ok, List.length_replicate]; exact Nat.le_refl _)] at h; exact h) (by simp; omega) (by have h := hw4.size; have := HSZ.out; omega) ?_; intro v5 w5 hr5 hg5; have hk5 : Kept (Over (w.heap.size + 2)) w4 w5 := (Kept.refl _ w4).grown hg5 (fun j e => .inl (HS3.out.row.ge e)); clear hg5))
  all_goals
   go_wp2_with fail
   go_ret
   refine ⟨v5, rfl, by rw [HEND.out]; exact RowC.base hr5 (by omega), ?_⟩
   have h1 : Same w W3 := Same.then HK.out HK3.out (fun j hj e => by unfold ManyF at e; omega)
   exact Same.then (Same.trans h1 (Same.trans (((Kept.refl _ W3).drew).alloc _) hk4)) hk5 (fun j hj e => by unfold Over at e; omega)

end Go.Proofs.YtljlmfnbeofmmaaGreatDoor

namespace Go.Proofs.YtljlmfnbeofmmaaGreatDoor
open Go.RowKit

theorem sayM_ne (v n : Nat) (h : 1 ≤ n) : sayM v n ≠ [] := by
 unfold sayM
 split
 ·by_cases h11 : 11 ≤ n
  ·rw [zerosM_big n h11]; simp
  ·by_cases h3 : 3 ≤ n
   ·rw [zerosM_mid n (by omega) h3]; simp
   ·rw [zerosM_few n (by omega)]
    cases n with
    | zero => omega
    | succ n => simp [List.replicate_succ]
 ·simp

theorem SrcE.tail2 {w : World} {I : Nat → Prop} {b o cap : Nat} {l : List Nat} (h : SrcE natV w I (.slice (some ⟨b, o, none⟩) l.length cap) l) (k : Nat) (hk : k ≤ l.length) :
  SrcE natV w I (.slice (if cap = k then some ⟨b, o, none⟩ else some ⟨b, o + k, none⟩) (l.length - k) (cap - k)) (l.drop k) := by
 obtain ⟨ao, cap', e, hc, _⟩ := id h
 simp only [Value.slice.injEq] at e
 obtain ⟨_, _, rfl⟩ := e
 split
 ·exact h.tail k o hk (fun h2 => by omega)
 ·exact h.tail k (o + k) hk (fun _ => rfl)

theorem RowC.at {α : Type} {B t k : Nat} {enc : α → List Value} (ok : EncOk enc k) {w : World} {g n cap : Nat} {xs : List α} (h : RowC B t k enc w (.slice (some ⟨g, 0, none⟩) n cap) xs) : CellsAt w ⟨g, 0, none⟩ (xs.flatMap enc) := by
 have hl := h.len
 subst hl
 intro j u hu
 have hj : j < (xs.flatMap enc).length := (List.getElem?_eq_some_iff.1 hu).1
 rw [flat_length ok] at hj
 have e : (⟨g, 0, none⟩ : Addr).add j = ⟨g, j, none⟩ := by unfold Addr.add; split <;> simp_all
 rw [e, h.cellAt j hj, hu]

set_option maxRecDepth 100000 in
set_option maxHeartbeats 2000000 in
theorem lpack_good (w : World) (v : Value) (I : Nat → Prop) (zs : List Int) (ns : List Nat) (hs : SrcE intV w I v zs) (hl : zs.length ≤ 316) (hok : lensOk zs = true) (hns : ns = zs.map Int.toNat) :
  Calls Tryz.prog 128 #[v] w fun e w' => ∃ v', e = .returned (.tuple #[v', .int .i64 0]) ∧ StRow w.heap.size w' v' (packM ns) ∧ Same w w' := by
 have hb := (lensOk_iff zs).1 hok
 have eN : ns.map natV = zs.map intV := by
  rw [hns, List.map_map]
  refine List.map_congr_left (fun z hz => ?_)
  simp only [Function.comp, natV, intV]
  rw [Int.toNat_of_nonneg (hb z hz).1]
 obtain ⟨ao, cap, rfl, hx1, hx2⟩ := id hs
 clear hx1 hx2
 have HCT := lcontains_any w _ I zs hs (by omega)
 rw [hok] at HCT
 have HS : Hid (SrcE natV w I (.slice ao zs.length cap) ns) := hid (hs.recode eN)
 have hnl : zs.length = ns.length := by rw [hns]; simp
 obtain ⟨L, hL⟩ : ∃ L, L = zs.length := ⟨_, rfl⟩
 rw [← hL] at HCT HS hl ⊢
 have HL : Hid (L = ns.length) := hid (by omega)
 have b1 : decide ((316 : Int) < (L : Int)) = false := by simp; omega
 clear hs hb hok hns eN hnl hL
 go_enter Tryz.func128, Tryz.ntmps128
 go_wp2_with fail
 refine HCT.mono ?_
 rintro e w1 ⟨rfl, hw1⟩
 subst hw1
 clear HCT
 go_wp2_with fail
 clear b1
 go_loopg [0, 5, 6] L (fun q zl zo _ wr => ∃ (i d : Nat) (a2 : Option Addr) (c2 : Nat) (ss : List (Int × Int)), d ≤ q ∧ i + d = L ∧ zl = .slice a2 d c2 ∧ Hid (SrcE natV w1 I (.slice a2 d c2) (ns.drop i)) ∧ Hid (packM ns = ss ++ packM (ns.drop i) ∧ ss.length ≤ i) ∧ Hid (StRow w1.heap.size wr zo ss) ∧ Hid (Same w1 wr))
 case atStart => exact ⟨0, L, ao, cap, [], by omega, by omega, rfl, hid (by simpa using HS.out), hid ⟨by simp, by simp⟩, RowC.nil, Kept.refl _ _⟩
 case round =>
  clear HS
  obtain ⟨i, d, a2, c2, ss, hq, hi, rfl, HS, HP, HO, HK⟩ := hrel
  by_cases hlt : 0 < d
  ·have hin : i < ns.length := by have := HL.out; omega
   have hdr : ns.drop i = ns[i] :: ns.drop (i + 1) := List.drop_eq_getElem_cons hin
   obtain ⟨y, hy⟩ : ∃ y, y = ns[i] := ⟨_, rfl⟩
   rw [← hy] at hdr
   obtain ⟨r, hr⟩ : ∃ r, r = ns.drop (i + 1) := ⟨_, rfl⟩
   rw [← hr] at hdr
   have hlen : (y :: r).length = d := by rw [← hdr, List.length_drop]; have := HL.out; omega
   have hS2 := HS.out
   rw [hdr] at hS2
   obtain ⟨b, o, cap', e, _, _, cx⟩ := hS2.get 0 (by simp)
   simp only [Value.slice.injEq] at e
   obtain ⟨rfl, hxe, rfl⟩ := e
   clear hxe
   have cx2 : wr.cell? ⟨b, o, none⟩ = some (.int .i64 (y : Nat)) := HK.out.cell cx (fun f => f)
   rw [← hlen] at hS2
   have HAL := alike_any wr b o c2 I y r (hS2.same HK.out) (by omega)
   have hf := frontN_le y r
   obtain ⟨n, hn⟩ : ∃ n, n = 1 + frontN y r := ⟨_, rfl⟩
   have hn1 : 1 ≤ n := by omega
   have hnl : n ≤ d := by simp at hlen; omega
   have HT2 : Hid (SrcE natV w1 I (.slice (if c2 = n then some ⟨b, o, none⟩ else some ⟨b, o + n, none⟩) (d - n) (c2 - n)) (ns.drop (i + n))) := hid (by
    have h := hS2.tail2 n (by omega)
    rw [hlen, ← hdr, List.drop_drop] at h
    exact h)
   have HP2 : Hid (packM ns = ss ++ (sayM y n ++ packM (ns.drop (i + n)))) := hid (by
    rw [HP.out.1]
    have h := packM_next ns i n hin (by rw [← hy, ← hr]; exact hn)
    rw [← hy] at h
    rw [h])
   have HSL : Hid ((sayM y n).length ≤ n ∧ sayM y n ≠ []) := hid ⟨sayM_len y n hn1, sayM_ne y n hn1⟩
   rw [← hn, hlen] at HAL
   clear hlen hdr hy hr hS2 cx hn hf
   go_wp2_with fail
   refine HAL.mono ?_
   rintro e w2 ⟨rfl, hk2⟩
   have HK2 : Hid (Same wr w2) := hk2
   have cx3 : w2.cell? ⟨b, o, none⟩ = some (.int .i64 (y : Nat)) := hk2.cell cx2 (fun f => f)
   have HPR := packRow_any w2 y n (by omega) hn1
   clear hk2 HAL cx2
   go_wp2_with fail
   refine HPR.mono ?_
   rintro e w3 ⟨v3, rfl, hr3, hk3⟩
   obtain ⟨ao3, cap3, hv3, hg3, _⟩ := hr3.shape
   obtain ⟨g3, rfl⟩ := hg3 HSL.out.2
   subst hv3
   obtain ⟨m3, hm3⟩ : ∃ m, m = (sayM y n).length := ⟨_, rfl⟩
   rw [← hm3] at hr3 ⊢
   have HR3 : Hid (StRow w2.heap.size w3 (.slice (some ⟨g3, 0, none⟩) m3 cap3) (sayM y n)) := hr3
   have HK3 : Hid (Same wr w3) := hid (Same.trans HK2.out hk3)
   have HC3 : Hid (CellsAt w3 ⟨g3, 0, none⟩ ((sayM y n).flatMap stC)) := hid (RowC.at stC_ok hr3)
   have HM3 : Hid ((sayM y n).length = m3) := hid hm3.symm
   have hlen4 : ss.length + (sayM y n).length ≤ 1000 := by have h1 := HP.out.2; have h2 := HSL.out.1; omega
   have hsz3 : w1.heap.size ≤ w3.heap.size := by have h1 := HK.out.size; have h2 := HK3.out.size; omega
   clear hr3 hk3 HPR hm3 hg3 cx3
   have hn0 : (0 : Int) ≤ (n : Int) := by omega
   go_wp2_with (at_builtin; refine wpList_append_c _ stC 2 stC_ok (by decide) w1.heap.size 172 220 (.agg #[.int .i64 0, .int .i64 0]) 16 Tryz.underlying172 Tryz.infoSt rfl (by decide) rfl (.tmp 20) (.tmp 25) rfl u5 ss rfl (RowC.kept HO.out HK3.out (fun _ _ f => f)) ⟨g3, 0, none⟩ m3 cap3 (sayM y n) rfl HM3.out HC3.out (by omega) hsz3 ?_; intro v5 w5 hr5 hg5; have HR5 : Hid (StRow w1.heap.size w5 v5 (ss ++ sayM y n)) := hr5; have HK5 : Hid (Same w1 w5) := hid ((Same.trans HK.out HK3.out).grown hg5 (fun j e => .inr (HO.out.ge e))); clear hr5 hg5)
   all_goals
    go_roundg (gk - 1)
    case measure => omega
    case rel => exact ⟨i + n, d - n, _, _, ss ++ sayM y n, by omega, by omega, rfl, hid (by first | simpa using HT2.out | simpa [*] using HT2.out), hid ⟨by rw [HP2.out, List.append_assoc], by have h1 := HP.out.2; have h2 := HSL.out.1; simp; omega⟩, HR5, HK5⟩
  ·have hdd : d = 0 := by omega
   have HE : Hid (packM ns = ss) := hid (by rw [HP.out.1, List.drop_eq_nil_of_le (by have := HL.out; omega)]; simp [packM])
   subst hdd
   clear hlt
   go_wp2_with fail
   go_ret2
   exact ⟨_, rfl, by rw [HE.out]; exact HO.out, HK.out⟩

set_option maxHeartbeats 1000000 in
theorem lpack_bad (w : World) (v : Value) (I : Nat → Prop) (zs : List Int) (hs : SrcE intV w I v zs) (hn : zs.length ≤ 10000000) (hb : 316 < zs.length ∨ lensOk zs = false) :
  Calls Tryz.prog 128 #[v] w fun e w' => e = .returned (.tuple #[.slice none 0 0, .int .i64 1]) ∧ Same w w' := by
 obtain ⟨ao, cap, rfl, hx1, hx2⟩ := id hs
 clear hx1 hx2
 have HCT := lcontains_any w _ I zs hs hn
 clear hs
 by_cases hl : 316 < zs.length
 ·have b1 : decide ((316 : Int) < (zs.length : Int)) = true := by simp; omega
  clear hb hl
  go_enter Tryz.func128, Tryz.ntmps128
  go_wp2_with fail
  go_ret2
  exact ⟨rfl, Kept.refl _ _⟩
 ·have b1 : decide ((316 : Int) < (zs.length : Int)) = false := by simp; omega
  have hok : lensOk zs = false := by rcases hb with h | h; omega; exact h
  rw [hok] at HCT
  clear hb hl hok
  go_enter Tryz.func128, Tryz.ntmps128
  go_wp2_with fail
  refine HCT.mono ?_
  rintro e w1 ⟨rfl, hw1⟩
  subst hw1
  clear HCT
  go_wp2_with fail
  go_ret2
  exact ⟨rfl, Kept.refl _ _⟩

theorem lpack_any (w : World) (v : Value) (I : Nat → Prop) (zs : List Int) (hs : SrcE intV w I v zs) (hn : zs.length ≤ 10000000) :
  Calls Tryz.prog 128 #[v] w fun e w' => PackA w w' e (packA zs) := by
 by_cases hb : 316 < zs.length ∨ lensOk zs = false
 ·rw [packA_bad hb]
  exact lpack_bad w v I zs hs hn hb
 ·have h2 : lensOk zs = true := by
   cases h : lensOk zs with
   | true => rfl
   | false => exact absurd (.inr h) hb
  have h1 : zs.length ≤ 316 := Nat.le_of_not_lt (fun h => hb (.inl h))
  rw [packA_good h1 h2]
  exact lpack_good w v I zs _ hs h1 h2 rfl

end Go.Proofs.YtljlmfnbeofmmaaGreatDoor
