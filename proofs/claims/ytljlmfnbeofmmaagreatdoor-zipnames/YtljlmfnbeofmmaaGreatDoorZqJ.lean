import Derived.Test.YtljlmfnbeofmmaaGreatDoorZqG
import Derived.Test.YtljlmfnbeofmmaaGreatDoorCopyK
namespace Go.Proofs.YtljlmfnbeofmmaaGreatDoor
open Go.RowKit

def pre8 (D : List (List Nat × List Nat)) (o : Except Nat (List (List Nat × List Nat))) : Except Nat (List (List Nat × List Nat)) := match o with
 | .error e => .error e
 | .ok r => .ok (D ++ r)

theorem pre8_bad {D : List (List Nat × List Nat)} {L : List It} {j k : Nat} {y : It} (h : L[j]? = some y) (hu : unp8 y = .error k) : pre8 D (all8 (L.drop j)) = .error k := by
 have hj := (List.getElem?_eq_some_iff.1 h).1
 have e := (List.getElem?_eq_some_iff.1 h).2
 rw [List.drop_eq_getElem_cons hj, e, all8, hu]
 rfl

theorem pre8_next {D : List (List Nat × List Nat)} {L : List It} {j : Nat} {y : It} {d : List Nat} (h : L[j]? = some y) (hu : unp8 y = .ok d) : pre8 D (all8 (L.drop j)) = pre8 (D ++ [(y.lab.name, d)]) (all8 (L.drop (j + 1))) := by
 have hj := (List.getElem?_eq_some_iff.1 h).1
 have e := (List.getElem?_eq_some_iff.1 h).2
 rw [List.drop_eq_getElem_cons hj, e, all8, hu]
 simp only
 cases all8 (L.drop (j + 1)) with
 | error e => rfl
 | ok r => simp [pre8]

def enOf (p : List Nat × List Nat) : En := ⟨txt p.1, txt p.2⟩

def AllA (w w' : World) (o : Except Nat (List (List Nat × List Nat))) (e : Ending) : Prop :=
 (∀ k, o = .error k → e = pan8 k) ∧ (∀ D, o = .ok D → ∃ a n c, e = .returned (.slice a n c) ∧ RowC w.heap.size 34 2 enE w' (.slice a n c) (D.map enOf) ∧ n = D.length) ∧ Same w w'

theorem AllA.bad {w w' : World} {o : Except Nat (List (List Nat × List Nat))} {e : Ending} {k : Nat} (h : o = .error k) (he : e = pan8 k) (hk : Same w w') : AllA w w' o e :=
 ⟨fun n h' => by rw [h] at h'; simp only [Except.error.injEq] at h'; subst h'; exact he, fun d h' => (by rw [h] at h'; cases h'), hk⟩

structure UaI (w wr : World) (L : List It) (i : Nat) (v : Value) (D : List (List Nat × List Nat)) : Prop where
 row : RowC w.heap.size 34 2 enE wr v (D.map enOf)
 len : D.length = i
 same : Same w wr
 eq : all8 L = pre8 D (all8 (L.drop i))

theorem cellsAt_en (w : World) (y : En) : CellsAt (w.alloc (.cells #[.string y.n, .string y.d] 34)) ⟨w.heap.size, 0, none⟩ ([y].flatMap enE) := by
 intro j u hj
 match j, hj with
 | 0, hj => simp [enE] at hj; subst hj; simp [addAt]
 | 1, hj => simp [enE] at hj; subst hj; simp [addAt]
 | j + 2, hj => simp [enE] at hj

set_option maxRecDepth 100000 in
set_option maxHeartbeats 400000 in
theorem unpackAll_any (N : Nat) (w : World) (a : Option Addr) (n c : Nat) (xs : List Itv) (L : List It) (hrow : RowC N 78 6 itE w (.slice a n c) xs) (hits : Its N w xs L) (hn : n = xs.length) (h64 : n ≤ 64)
  (hU : ∀ (j : Nat) (x : Itv) (y : It) (wx : World), xs[j]? = some x → L[j]? = some y → Same w wx → Calls Tryz.prog 59 #[.agg (itZ x.m (.slice x.a x.n x.c))] wx fun e w' => UnpZ wx w' (unp8 y) e) :
  Calls Tryz.prog 54 #[.slice a n c] w fun e w' => AllA w w' (all8 L) e := by
 have HU : Hid _ := hid hU
 have HROW : Hid (RowC N 78 6 itE w (.slice a n c) xs) := hrow
 have HITS : Hid (Its N w xs L) := hits
 have HN : Hid (n = xs.length ∧ n = L.length) := hid ⟨hn, by rw [hn]; exact hits.1⟩
 clear hU hrow hits hn
 go_enter Tryz.func54, Tryz.ntmps54
 go_wp2_with fail
 go_loopg [3, 8] n (fun qq z3 z8 wr => ∃ (i : Nat) (D : List (List Nat × List Nat)), z8 = .int .i64 (i : Nat) ∧ i ≤ n ∧ n - i ≤ qq ∧ Hid (UaI w wr L i z3 D))
 case atStart => exact ⟨0, [], rfl, by omega, by omega, hid ⟨RowC.nil, rfl, Kept.refl _ _, by simp [pre8]; cases all8 L <;> rfl⟩⟩
 case round =>
  obtain ⟨i, D, rfl, hi1, hiq, HI⟩ := hrel
  obtain ⟨v0, hv0⟩ : ∃ v, v = u3 := ⟨_, rfl⟩
  rw [← hv0] at HI
  rw [← hv0]
  clear hv0
  obtain ⟨a0, c0, hv0, _⟩ := HI.out.row.shape
  rw [List.length_map, HI.out.len] at hv0
  subst hv0
  by_cases hi : i < n
  ·have hli : decide (i < n) = true := by simp; omega
   have hx := List.getElem?_eq_getElem (l := xs) (i := i) (by have := HN.out; omega)
   have hy := List.getElem?_eq_getElem (l := L) (i := i) (by have := HN.out; omega)
   obtain ⟨x, hxx⟩ : ∃ x, x = xs[i]'(by have := HN.out; omega) := ⟨_, rfl⟩
   obtain ⟨y, hyy⟩ : ∃ y, y = L[i]'(by have := HN.out; omega) := ⟨_, rfl⟩
   rw [← hxx] at hx
   rw [← hyy] at hy
   obtain ⟨g, cap, hv, _, hc⟩ := HROW.out.at8 itE_ok i (by have := HN.out; omega)
   rw [← hxx] at hc
   simp only [Value.slice.injEq] at hv
   have hv1 := hv.1
   clear hv
   subst hv1
   have hcx : ∀ k u, k < 6 → (itE x)[k]? = some u → wr.cell? ⟨g, i * 6 + k, none⟩ = some u := fun k u h1 h2 => HI.out.same.cell ((hc k h1).trans h2) (fun f => f)
   have k0 := hcx 0 _ (by decide) rfl
   have k1 := hcx 1 _ (by decide) rfl
   have k2 := hcx 2 _ (by decide) rfl
   have k3 := hcx 3 _ (by decide) rfl
   have k4 := hcx 4 _ (by decide) rfl
   have k5 := hcx 5 _ (by decide) rfl
   rw [Nat.add_zero] at k0
   have hiw : IntKind.i64.wrap ((i : Int) + 1) = ((i + 1 : Nat) : Int) := by rw [IntKind.wrap_i64]; omega
   have i1 : (0 : Int) ≤ (i : Int) := by omega
   have i2 : (i : Int) < (n : Int) := by omega
   have HY : Hid (L[i]? = some y) := hy
   have HXL : Hid (x.m = y.lab) := hid (HITS.out.2 i x y hx hy).lab
   obtain ⟨wA, hwA⟩ : ∃ W, W = wr.alloc (.cells (itZ x.m (.slice x.a x.n x.c)) 78) := ⟨_, rfl⟩
   obtain ⟨xb, hxb⟩ : ∃ b, b = wr.heap.size := ⟨_, rfl⟩
   have HKA : Hid (Same wr wA) := hid (by rw [hwA]; exact (Kept.refl _ wr).alloc _)
   have HXA : Hid (Blk wA xb (itZ x.m (.slice x.a x.n x.c)) 78) := hid (by rw [hwA, hxb]; exact Blk.new wr _ _)
   have HC : Hid (∀ wx, Same wA wx → Calls Tryz.prog 59 #[.agg (itZ x.m (.slice x.a x.n x.c))] wx fun e w' => UnpZ wx w' (unp8 y) e) := hid (fun wx hk => HU.out i x y wx hx hy (Same.trans HI.out.same (Same.trans HKA.out hk)))
   clear hxx hyy hx hy hc hcx
   unfold itZ at hwA HC HXA
   have q0 : wA.cell? ⟨xb, 0, none⟩ = some (.int .u16 (x.m.way : Nat)) := HXA.out.cell 0
   have q1 : wA.cell? ⟨xb, 1, none⟩ = some (.int .u32 (x.m.sum : Nat)) := HXA.out.cell 1
   have q2 : wA.cell? ⟨xb, 2, none⟩ = some (.int .u32 (x.m.packed : Nat)) := HXA.out.cell 2
   have q3 : wA.cell? ⟨xb, 3, none⟩ = some (.int .u32 (x.m.size : Nat)) := HXA.out.cell 3
   have q4 : wA.cell? ⟨xb, 4, none⟩ = some (.string (txt x.m.name)) := HXA.out.cell 4
   have q5 : wA.cell? ⟨xb, 5, none⟩ = some (.slice x.a x.n x.c) := HXA.out.cell 5
   cases hu : unp8 y with
   | error k =>
    rw [hu] at HC
    have HE : Hid (all8 L = .error k) := hid (by rw [HI.out.eq]; exact pre8_bad HY.out hu)
    clear hu
    go_wp2_with fail
    rw [← hwA, ← hxb]
    clear hwA hxb
    go_region_dies
    all_goals
     refine (HC.out _ ((Kept.refl _ wA).drew)).mono ?_
     intro e w4 h4
     obtain rfl := h4.2.1 k rfl
     exact ⟨rfl, AllA.bad HE.out rfl (Same.trans HI.out.same (Same.trans HKA.out (Same.trans ((Kept.refl _ wA).drew) h4.2.2)))⟩
   | ok d =>
    rw [hu] at HC
    have HE : Hid (all8 L = pre8 (D ++ [(y.lab.name, d)]) (all8 (L.drop (i + 1)))) := hid (by rw [HI.out.eq]; exact pre8_next HY.out hu)
    clear hu
    go_wp2_with fail
    rw [← hwA, ← hxb]
    clear hwA hxb
    have HSZ : Hid (w.heap.size ≤ wr.heap.size ∧ xb < wA.heap.size) := hid ⟨HI.out.same.size, HXA.out.lt⟩
    have HOX : Hid ((Value.slice a0 i c0).ownBlock ≠ some xb) := hid ((HI.out.row.kept HKA.out (fun _ _ f => f)).off HXA.out (by decide))
    go_region_held3 (fun w' => w'.cell? ⟨xb, 0, none⟩ = some (.int .u16 (x.m.way : Nat)) ∧ w'.cell? ⟨xb, 1, none⟩ = some (.int .u32 (x.m.sum : Nat)) ∧ w'.cell? ⟨xb, 2, none⟩ = some (.int .u32 (x.m.packed : Nat)) ∧ w'.cell? ⟨xb, 3, none⟩ = some (.int .u32 (x.m.size : Nat)) ∧ w'.cell? ⟨xb, 4, none⟩ = some (.string (txt x.m.name)) ∧ w'.cell? ⟨xb, 5, none⟩ = some (.slice x.a x.n x.c))
     (first
      | (go_split_ands; exact ⟨hk5.cell (by assumption) HOX.out, hk5.cell (by assumption) HOX.out, hk5.cell (by assumption) HOX.out, hk5.cell (by assumption) HOX.out, hk5.cell (by assumption) HOX.out, hk5.cell (by assumption) HOX.out⟩)
      | (go_split_ands; exact ⟨hk4.cell (by assumption) (fun f => f), hk4.cell (by assumption) (fun f => f), hk4.cell (by assumption) (fun f => f), hk4.cell (by assumption) (fun f => f), hk4.cell (by assumption) (fun f => f), hk4.cell (by assumption) (fun f => f)⟩)
      | go_keep)
     (first
      | (go_at_call 59; refine (HC.out _ (by first | exact (Kept.refl _ _).drew | exact Kept.refl _ _ | exact (Kept.refl _ _).drewN _)).mono ?_; intro e w4 h4; obtain rfl := h4.1 d rfl; have hk4 := h4.2.2; clear h4)
      | (have hw4 : Same wA w4 := Same.trans ((Kept.refl _ wA).drew) hk4; refine step_append_c enE 2 enE_ok w.heap.size 24 34 (.agg #[.string ⟨#[]⟩, .string ⟨#[]⟩]) 32 Tryz.underlying24 Tryz.infoEntry rfl (by decide) (by rfl) (.tmp 12) (.tmp 19) (by rfl) (.slice a0 i c0) (D.map enOf) (by rfl) (((HI.out.row.kept HKA.out (fun _ _ f => f)).kept hw4 (fun _ _ f => f)).kept (show Same _ _ from (Kept.refl _ _).alloc _) (fun _ _ f => f)) ⟨w4.heap.size, 0, none⟩ 1 1 [⟨txt x.m.name, txt d⟩] (by rfl) (by rfl) (cellsAt_en w4 ⟨txt x.m.name, txt d⟩) (by rw [List.length_map, HI.out.len]; simp; omega) (by have := HSZ.out; have := HKA.out.size; have := hw4.size; simp; omega) ?_; intro v5 w5 hr5 hg5; have hk5 : Kept (fun k => (Value.slice a0 i c0).ownBlock = some k) (w4.alloc (.cells #[.string (txt x.m.name), .string (txt d)] 34)) w5 := (Kept.refl _ _).grown hg5 (fun k e => .inl e); clear hg5))
    all_goals
     have HF : Hid (UaI w w5 L (i + 1) v5 (D ++ [(y.lab.name, d)])) := hid ⟨by rw [List.map_append]; show RowC _ _ _ _ _ _ (D.map enOf ++ [enOf (y.lab.name, d)]); rw [← HXL.out]; exact hr5, by rw [List.length_append, HI.out.len]; rfl, (Same.trans HI.out.same (Same.trans HKA.out (Same.trans ((Kept.refl _ wA).drew) (Same.trans hk4 (show Same w4 (w4.alloc (.cells #[.string (txt x.m.name), .string (txt d)] 34)) from (Kept.refl _ _).alloc _))))).then hk5 (fun x hx e => by have := HI.out.row.ge e; omega), HE.out⟩
     clear hr5 hk5 hk4
     go_wp2_with fail
     go_roundg (gk - 1)
     case measure => omega
     case rel => exact ⟨i + 1, _, by go_num, by omega, by omega, HF⟩
  ·have hli : decide (i < n) = false := by simp; omega
   obtain rfl : i = n := by omega
   go_wp2_with fail
   go_ret
   have h9 := HI.out.eq
   rw [List.drop_eq_nil_of_le (by have := HN.out; omega)] at h9
   refine ⟨fun k e => (by rw [h9] at e; cases e), fun D' e => ?_, HI.out.same⟩
   rw [h9] at e
   simp only [pre8, all8, List.append_nil, Except.ok.injEq] at e
   subst e
   exact ⟨_, _, _, rfl, HI.out.row, HI.out.len.symm⟩

end Go.Proofs.YtljlmfnbeofmmaaGreatDoor
