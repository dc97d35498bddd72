/-
  keep's Ints; what the law lends and gets back.
-/
import Derived.Test.YtofhlnpbflkdlabDoorHRef
namespace Go.Proofs.YtofhlnpbflkdlabDoor
open Go.RowKit

set_option maxHeartbeats 1000000 in
theorem keepInts_any (va vb : Value) (I J : Nat → Prop) (xs ys : List Int) (w : World) (ha : SrcE intV w I va xs) (hb : SrcE intV w J vb ys) (hx : xs.length ≤ 10000000) (hy : ys.length ≤ 10000000) :
    Calls Tryd.prog 11 #[va, vb] w fun e w' => e = .returned (.bool (decide (xs = ys))) ∧ Same w w' := by
  obtain ⟨ao, ca, rfl, hxa, hsa⟩ := id ha
  obtain ⟨bo, cb, rfl, hxb, hsb⟩ := id hb
  clear hxa hxb hsa hsb
  have HA : Hid (SrcE intV w I (.slice ao xs.length ca) xs) := ha
  have HB : Hid (SrcE intV w J (.slice bo ys.length cb) ys) := hb
  clear ha hb
  by_cases hl : xs.length = ys.length
  · have HL : Hid (xs.length = ys.length) := hl
    have hd : ((xs.length : Int) != (ys.length : Int)) = false := by simp [hl]
    clear hl
    go_enter Tryd.func11, Tryd.ntmps11
    go_wp2
    clear hd
    go_loopg [5] xs.length (fun k i wr => ∃ j : Nat, j ≤ xs.length ∧ xs.length - j ≤ k ∧ i = .int .i64 (j : Nat) ∧ Hid (Same w wr) ∧ Hid (xs.take j = ys.take j))
    case atStart => exact ⟨0, by omega, by omega, rfl, Kept.refl _ _, hid (by simp)⟩
    case round =>
      obtain ⟨j, hj, hjk, rfl, HK, HT⟩ := hrel
      by_cases hlt : j < xs.length
      · have hlt2 : j < ys.length := by have := HL.out; omega
        obtain ⟨a, oa, ca', ea, _, _, hc1⟩ := (HA.out.same HK.out).get j hlt
        obtain ⟨b, ob, cb', eb, _, _, hc2⟩ := (HB.out.same HK.out).get j hlt2
        simp only [Value.slice.injEq] at ea eb
        obtain ⟨rfl, hxe, rfl⟩ := ea
        obtain ⟨rfl, hxf, rfl⟩ := eb
        clear hxe hxf
        obtain ⟨x, hx1⟩ : ∃ x, x = xs[j] := ⟨_, rfl⟩
        obtain ⟨y, hy1⟩ : ∃ y, y = ys[j] := ⟨_, rfl⟩
        rw [← hx1] at hc1
        rw [← hy1] at hc2
        unfold intV at hc1 hc2
        have HX : Hid (x = xs[j]) := hx1
        have HY : Hid (y = ys[j]) := hy1
        clear hx1 hy1
        by_cases he : x = y
        · have hd : (x != y) = false := by simp [he]
          have HE : Hid (x = y) := he
          clear he
          go_wp2
          go_quiet (fail)
          go_wp2
          go_roundg (gk - 1)
          case measure => omega
          case rel => exact ⟨j + 1, by omega, by omega, by go_num, hid (HK.out.drewN _), hid (by rw [List.take_succ_eq_append_getElem hlt, List.take_succ_eq_append_getElem hlt2, HT.out, ← HX.out, ← HY.out, HE.out])⟩
        · have hd : (x != y) = true := by simp [he]
          have HE : Hid (¬ x = y) := he
          clear he
          go_wp2
          go_quiet (fail)
          go_wp2
          go_ret
          refine ⟨?_, HK.out.drewN _⟩
          have hne : ¬ xs = ys := by
            intro e
            subst e
            exact HE.out (HX.out.trans HY.out.symm)
          simp [hne]
      · have hjl : j = xs.length := by omega
        subst hjl
        go_wp2
        go_ret
        refine ⟨?_, HK.out⟩
        have h1 := HT.out
        rw [List.take_of_length_le (Nat.le_refl _), List.take_of_length_le (by have := HL.out; omega)] at h1
        simp [h1]
  · have hd : ((xs.length : Int) != (ys.length : Int)) = true := by simp; omega
    have HNE : Hid (¬ xs = ys) := hid (fun e => hl (by rw [e]))
    clear hl
    go_enter Tryd.func11, Tryd.ntmps11
    go_wp2
    go_ret
    exact ⟨by simp [HNE.out], Kept.refl _ _⟩

/-- copy(dst, src) of ints into a row of one's own. -/
theorem wpList_copy_ints {ops : Array Oper} {rest : List Oper} {o : Oper} {a : Act} {Q : Exit → Act → World → Prop} (w : World) (B : Nat) (hgd : o.guard = none) (d s : Operand) (ho : o.op = .call { callee := .builtin .copy, args := #[d, s], argTypes := #[22, 22] })
    (g n cap : Nat) (sp : Option Addr) (m c : Nat) (ds cs : List Int) (I : Nat → Prop) (hd : a.eval d = .slice (some ⟨g, 0, none⟩) n cap) (hs : a.eval s = .slice sp m c)
    (hrow : IRow B w (.slice (some ⟨g, 0, none⟩) n cap) ds) (hsrc : SrcE intV w I (.slice sp m c) cs) (hle : cs.length ≤ ds.length)
    (hK : ∀ w', IRow B w' (.slice (some ⟨g, 0, none⟩) n cap) (cs ++ ds.drop cs.length) → w.grownBy w' (some g) → wpList Tryd.prog ops Q rest (a.put o.dst (goInt cs.length)) w') : wpList Tryd.prog ops Q (o :: rest) a w := by
  obtain ⟨rfl, hat⟩ := hsrc.at
  have hsz : (Tryd.prog.info? 3).map (·.size) = some 1 := by kernel_rfl
  rcases hrow.2 with ⟨h', _⟩ | ⟨g', cap', cur, h', hb, hgg, hnc, hcm, hcs, htake⟩
  · simp at h'
  · simp only [Value.slice.injEq, Option.some.injEq, Addr.mk.injEq, and_true] at h'
    obtain ⟨rfl, rfl, rfl⟩ := h'
    by_cases h0 : cs = []
    · subst h0
      refine wpList_copy_nothing hgd d s _ _ ho 3 Tryd.underlying22 hsz _ _ _ _ _ _ hd hs (by simp) ?_
      exact hK w (by simpa using hrow) (World.grownBy.refl _ _)
    · obtain ⟨ad, rfl, hbytes⟩ := hat h0
      refine wpList_copy_own hgd d s _ _ ho 3 Tryd.underlying22 hsz g 0 _ _ ad _ _ hd hs cur 3 hgg (cs.map intV) (by rw [List.length_map]; exact (Nat.min_eq_left hle).symm) hbytes (by simp; omega) (intV_one _) ?_
      rw [show (goInt (cs.map intV).length) = goInt cs.length by simp]
      have e1 : (cs ++ ds.drop cs.length).length = ds.length := by simp; omega
      refine hK _ ?_ ⟨rfl, rfl, rfl, by simp, fun k _ hk => setRow_other w g k _ (fun e => hk (by simp [e]))⟩
      unfold IRow RowE
      rw [e1]
      refine ⟨by simp; omega, .inr ⟨g, cap, _, rfl, hb, setRow_heap w g cur _ 3 _ hgg, hnc, hcm, ?_, ?_⟩⟩
      · simp; omega
      · simp only [Nat.mul_one] at htake ⊢
        simp only [List.take_zero, List.nil_append, Nat.zero_add, List.length_map]
        rw [List.map_append, List.map_drop, ← htake, List.drop_take, List.take_append, List.take_of_length_le (by simpa using hle)]
        simp

/-- What is lent: the numbers, and a mark behind them. -/
structure Lent (w : World) (g : Nat) (zs : List Int) : Prop where
  row : IRow 0 w (.slice (some ⟨g, 0, none⟩) (zs.length + 1) (zs.length + 1)) (zs ++ [-77])

theorem Lent.kept {F : Nat → Prop} {w w' : World} {g : Nat} {zs : List Int} (h : Lent w g zs) (hk : Kept F w w') (hF : ¬ F g) : Lent w' g zs := ⟨h.row.kept hk (fun k e f => by simp [Value.ownBlock] at e; subst e; exact hF f)⟩

/-- The slice that is handed out. -/
theorem Lent.src {w : World} {g : Nat} {zs : List Int} (h : Lent w g zs) : SrcE intV w (fun k => k = g) (.slice (some ⟨g, 0, none⟩) zs.length (zs.length + 1)) zs :=
  (SrcE.ofRow (RowE.cut h.row)).mono (fun k e => by simp [Value.ownBlock] at e; exact e.symm)





end Go.Proofs.YtofhlnpbflkdlabDoor
