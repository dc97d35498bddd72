/-
  Of the proof: parts LnRef, RowX, LnUnp, Blk, HNextW, Cut, Lay, Writer, Reader, Ref, Ref2, Lend, Of, LnHead, LnStep, HRowsW, LnRead, LnWrM, LnStepsM.
-/
import Derived.Laws.BitsAllLaws
import Derived.Deep.RegionLaw
import Derived.Test.YtofhlnpbflkdlaaDoorJ2
import Derived.Test.YtofhlnpbflkdlaaDoorJ1

/-
  The reference's layer 4: lengths, times, says, With, Unpack.
-/
namespace Go.Proofs.YtofhlnpbflkdlaaDoor
open Go.RowKit

/-- A step's cells. -/
def stC (s : Int × Int) : List Value := [.int .i64 s.1, .int .i64 s.2]

theorem stC_ok : EncOk stC 2 := ⟨fun _ => rfl, fun x u hu => by simp [stC] at hu; rcases hu with rfl | rfl <;> rfl, by decide⟩

abbrev StRow (B : Nat) := RowC B 31 2 stC
abbrev StSrc := @SrcC (Int × Int) 2 stC

theorem Tryd.infoSt : (Tryd.prog.info? 31).map (fun i => (i.zero, i.size, i.bytes)) = some (some (.agg #[.int .i64 0, .int .i64 0]), 2, 16) := by kernel_rfl

theorem step_new (w : World) (x y : Int) : CellsAt (w.alloc (.cells #[.int .i64 x, .int .i64 y] 31)) ⟨w.heap.size, 0, none⟩ ([(x, y)].flatMap stC) := by
  intro j u hu
  match j, hu with
  | 0, hu => simp [stC] at hu; subst hu; simp [addAt]
  | 1, hu => simp [stC] at hu; subst hu; simp [addAt]
  | j + 2, hu => simp [stC] at hu

/-- append of one step. -/
theorem wpList_append_step {ops : Array Oper} {rest : List Oper} {o : Oper} {a : Act} {Q : Exit → Act → World → Prop} (w : World) (B : Nat) (hgd : o.guard = none) (s x : Operand)
    (ho : o.op = .call { callee := .builtin .append, args := #[s, x], argTypes := #[25, 25] })
    (v : Value) (ss : List (Int × Int)) (hs : a.eval s = v) (hrow : StRow B w v ss) (ad : Addr) (y : Int × Int) (hx : a.eval x = .slice (some ad) 1 1) (hcs : CellsAt w ad ([y].flatMap stC)) (hlen : ss.length + 1 ≤ 1000000000) (hB : B ≤ w.heap.size)
    (h : ∀ v' w', StRow B w' v' (ss ++ [y]) → w.grownBy w' v.ownBlock → wpList Tryd.prog ops Q rest (a.put o.dst v') w') : wpList Tryd.prog ops Q (o :: rest) a w :=
  wpList_append_c w stC 2 stC_ok (by decide) B 25 31 (.agg #[.int .i64 0, .int .i64 0]) 16 Tryd.underlying25 Tryd.infoSt rfl (by decide) hgd s x ho v ss hs hrow ad 1 1 [y] hx rfl hcs hlen hB h

/-- What lies at B or beyond may have turned. -/
abbrev Over (B : Nat) (k : Nat) : Prop := B ≤ k

theorem Kept.over {B : Nat} {a b c : World} (h : Kept (Over B) a b) (k : Kept (Over B) b c) : Kept (Over B) a c := Kept.trans h k (fun _ _ x => x) (fun _ _ x => x)
theorem Kept.same_over {a b : World} {B : Nat} (h : Kept (Over B) a b) (hB : a.heap.size ≤ B) : Same a b := h.mono (fun x hx e => by unfold Over at e; omega)
theorem Same.over {a b : World} (B : Nat) (h : Same a b) : Kept (Over B) a b := h.mono (fun _ _ e => e.elim)

/-- May all lengths be? -/
def lensOk (zs : List Int) : Bool := !(zs.any (badI 0 15))

theorem lensOk_iff (zs : List Int) : lensOk zs = true ↔ ∀ z ∈ zs, 0 ≤ z ∧ z ≤ 15 := by
  simp only [lensOk, Bool.not_eq_true', List.any_eq_false, badI]
  constructor
  · intro h z hz; have := h z hz; simp at this; omega
  · intro h z hz; have := h z hz; simp; omega

set_option maxHeartbeats 1000000 in
theorem lengths_any (w : World) (v : Value) (I : Nat → Prop) (zs : List Int) (hs : SrcE intV w I v zs) (hn : zs.length ≤ 10000000) :
    Calls Tryd.prog 37 #[v] w fun e w' => e = .returned (.bool (lensOk zs)) ∧ w' = w := by
  obtain ⟨ao, cap, rfl, hx1, hx2⟩ := id hs
  clear hx1 hx2
  have HS : Hid (SrcE intV w I (.slice ao zs.length cap) zs) := hs
  clear hs
  go_enter Tryd.func37, Tryd.ntmps37
  go_wp2_with fail
  go_loopg [3] zs.length (fun q zi wr => ∃ (i : Nat), zs.length - i ≤ q ∧ i ≤ zs.length ∧ zi = .int .i64 (i : Nat) ∧ wr = w ∧ Hid ((zs.take i).any (badI 0 15) = false))
  case atStart => exact ⟨0, by omega, by omega, rfl, rfl, hid (by simp)⟩
  case round =>
    obtain ⟨i, hq, hi, rfl, rfl, HF⟩ := hrel
    by_cases hlt : i < zs.length
    · obtain ⟨b, o, cap', e, _, _, cx⟩ := HS.out.get i hlt
      simp only [Value.slice.injEq] at e
      obtain ⟨rfl, hxe, rfl⟩ := e
      clear hxe
      obtain ⟨x, hx⟩ : ∃ x, x = zs[i] := ⟨_, rfl⟩
      rw [← hx] at cx
      unfold intV at cx
      have HX : Hid (x = zs[i]) := hx
      have HBAD : Hid (badI 0 15 x = true → lensOk zs = false) := hid (fun h => by
        have : zs.any (badI 0 15) = true := List.any_eq_true.2 ⟨x, by rw [hx]; exact List.getElem_mem _, h⟩
        simp [lensOk, this])
      clear hx
      by_cases hneg : x < 0
      · have HE : Hid (lensOk zs = false) := hid (HBAD.out (by simp [badI]; omega))
        go_wp2_with fail
        go_ret
        exact ⟨by rw [HE.out]; rfl, rfl⟩
      · by_cases hbig : 15 < x
        · have HE : Hid (lensOk zs = false) := hid (HBAD.out (by simp [badI]; omega))
          go_wp2_with fail
          go_ret
          exact ⟨by rw [HE.out]; rfl, rfl⟩
        · have HOKX : Hid (badI 0 15 x = false) := hid (by simp [badI]; omega)
          go_wp2_with fail
          go_roundg (gk - 1)
          case measure => omega
          case rel => exact ⟨i + 1, by omega, by omega, by go_num, rfl, hid (by rw [List.take_succ_eq_append_getElem hlt, List.any_append, HF.out, ← HX.out]; simp [HOKX.out])⟩
    · have HE : Hid (lensOk zs = true) := hid (by
        have h := HF.out
        rw [List.take_of_length_le (by omega)] at h
        simp [lensOk, h])
      go_wp2_with fail
      go_ret
      exact ⟨by rw [HE.out]; rfl, rfl⟩

set_option maxHeartbeats 1000000 in
theorem times_any (w : World) (B : Nat) (v : Value) (ss : List (Int × Int)) (n : Nat) (sym : Int) (hrow : StRow B w v ss) (hB : B ≤ w.heap.size) (hlen : ss.length + n ≤ 1000000) :
    Calls Tryd.prog 38 #[v, .int .i64 (n : Nat), .int .i64 sym] w fun e w' => ∃ v', e = .returned v' ∧ StRow B w' v' (ss ++ List.replicate n (sym, 0)) ∧ Kept (Over B) w w' := by
  have HR : Hid (StRow B w v ss) := hrow
  clear hrow
  go_enter Tryd.func38, Tryd.ntmps38
  go_wp2_with fail
  go_loopg [0, 7] n (fun q zv zi wr => ∃ (i : Nat), n - i ≤ q ∧ i ≤ n ∧ zi = .int .i64 (i : Nat) ∧ Hid (StRow B wr zv (ss ++ List.replicate i (sym, 0))) ∧ Hid (Kept (Over B) w wr))
  case atStart => exact ⟨0, by omega, by omega, rfl, hid (by simpa using HR.out), Kept.refl _ _⟩
  case round =>
    obtain ⟨i, hq, hi, rfl, HV, HK⟩ := hrel
    by_cases hlt : i < n
    · have hsz := HK.out.size
      have HL : Hid ((ss ++ List.replicate i (sym, (0 : Int))).length + 1 ≤ 1000000000) := hid (by simp; omega)
      go_wp2_with (at_builtin; refine wpList_append_step _ B rfl (.tmp 13) (.tmp 16) rfl u0 _ rfl (World.ownsRow.alloc HV.out _) ⟨wr.heap.size, 0, none⟩ (sym, 0) rfl (step_new _ _ _) HL.out (by simp; omega) ?_; intro v1 w1 hr1 hg1)
      have HV1 : Hid (StRow B w1 v1 (ss ++ List.replicate (i + 1) (sym, 0))) := hid (by rw [List.replicate_succ', ← List.append_assoc]; exact hr1)
      have HK1 : Hid (Kept (Over B) w w1) := hid ((HK.out.alloc _).grown hg1 (fun k e => .inl (by have := HV.out.ge e; exact this)))
      clear hr1 hg1
      go_wp2_with fail
      go_roundg (gk - 1)
      case measure => omega
      case rel => exact ⟨i + 1, by omega, by omega, by go_num, HV1, HK1⟩
    · have hin : i = n := by omega
      go_wp2_with fail
      go_ret
      exact ⟨_, rfl, by rw [← hin]; exact HV.out, HK.out⟩

/-- says' answer as a value. -/
def saysV : Option (Nat × Nat) → Value
  | some (v, k) => .tuple #[.int .i64 (v : Nat), .int .i64 (k : Nat), .bool true]
  | none => .tuple #[.int .i64 0, .int .i64 0, .bool false]

set_option maxRecDepth 100000 in
set_option maxHeartbeats 2000000 in
theorem says_any (w : World) (v : Value) (I : Nat → Prop) (l : List Nat) (a b : Int) (hs : SrcE natV w I v l) (hl : l.length ≤ 1000000) :
    Calls Tryd.prog 60 #[.agg #[.int .i64 a, .int .i64 b], v] w fun e w' => e = .returned (saysV (saysM (a, b) l)) ∧ Same w w' := by
  obtain ⟨ao, cap, rfl, hx1, hx2⟩ := id hs
  clear hx1 hx2
  have HS : Hid (SrcE natV w I (.slice ao l.length cap) l) := hs
  clear hs
  obtain ⟨L, hL⟩ : ∃ L, L = l.length := ⟨_, rfl⟩
  have HL : Hid (L = l.length) := hL
  by_cases h0 : 0 ≤ a
  · by_cases h15 : a ≤ 15
    · by_cases hb0 : b = 0
      · have HE : Hid (saysM (a, b) l = some (a.toNat, 1)) := hid (by unfold saysM; rw [if_pos ⟨h0, h15, hb0⟩])
        have ha : ((a.toNat : Nat) : Int) = a := by omega
        have HA : Hid (((a.toNat : Nat) : Int) = a) := ha
        subst hb0
        clear ha
        go_enter Tryd.func60, Tryd.ntmps60
        go_wp2_with fail
        refine bodyPost_ret (v := .tuple #[.int .i64 a, .int .i64 1, .bool true]) (by simp [results, Tryd.results60, go_sem]) rfl ⟨by rw [HE.out]; simp only [saysV]; rw [HA.out]; rfl, (Kept.refl _ w).alloc _⟩
      · have HE : Hid (saysM (a, b) l = none) := hid (by unfold saysM; simp only; repeat (rw [if_neg (by omega)]))
        have eb : (b == 0) = false := by simp; omega
        have e16 : (a == 16) = false := by simp; omega
        have e17 : (a == 17) = false := by simp; omega
        have e18 : (a == 18) = false := by simp; omega
        go_enter Tryd.func60, Tryd.ntmps60
        go_wp2_with fail
        refine bodyPost_ret (v := .tuple #[.int .i64 0, .int .i64 0, .bool false]) (by simp [results, Tryd.results60, go_sem]) rfl ⟨by rw [HE.out]; rfl, ((Kept.refl _ w).alloc _)⟩
    · have hd15 : decide (a ≤ 15) = false := by simp; omega
      by_cases h16 : a = 16
      · subst h16
        by_cases hb0 : 0 ≤ b
        · by_cases hb3 : b ≤ 3
          · by_cases hl0 : 0 < l.length
            · have HE : Hid (saysM (16, b) l = some (lastN l, b.toNat + 3)) := hid (by unfold saysM; rw [if_neg (by simp), if_pos ⟨rfl, hb0, hb3, hl0⟩])
              obtain ⟨b2, o2, cap2, e2, _, _, c2⟩ := HS.out.get (l.length - 1) (by omega)
              simp only [Value.slice.injEq] at e2
              obtain ⟨rfl, hxe, rfl⟩ := e2
              clear hxe
              obtain ⟨x, hx⟩ : ∃ x, x = lastN l := ⟨_, rfl⟩
              have hle : l[l.length - 1] = x := by rw [hx]; simp [lastN, List.getD, show l.length - 1 < l.length by omega]
              rw [hle] at c2
              unfold natV at c2
              have HX : Hid (x = lastN l) := hx
              clear hx hle
              obtain ⟨m, hm⟩ : ∃ m, m = l.length - 1 := ⟨_, rfl⟩
              rw [← hm] at c2
              have hmI : (L : Int) - 1 = (m : Int) := by omega
              have hmL : m < L := by omega
              have hwm : IntKind.i64.wrap (m : Int) = (m : Int) := by rw [IntKind.wrap_i64]; omega
              obtain ⟨k, hk⟩ : ∃ k, k = b.toNat + 3 := ⟨_, rfl⟩
              have hkI : b + 3 = (k : Int) := by omega
              have hwk : IntKind.i64.wrap (k : Int) = (k : Int) := by rw [IntKind.wrap_i64]; omega
              have HKK : Hid (k = b.toNat + 3) := hk
              have hlb : b2 < w.heap.size := World.block_lt_of_cell? w _ c2
              have c3 : (w.alloc (.cells #[.int .i64 16, .int .i64 b] 31)).cell? ⟨b2, o2 + m, none⟩ = some (.int .i64 (x : Nat)) := ((Kept.refl (fun _ => False) w).alloc _).cell c2 (fun h => h)
              rw [← hL] at hl0 ⊢
              clear hL hm hk c2
              go_enter Tryd.func60, Tryd.ntmps60
              go_wp2_with fail
              go_quiet (fail)
              go_wp2_with fail
              refine bodyPost_ret (v := .tuple #[.int .i64 (x : Nat), .int .i64 (k : Nat), .bool true]) (by simp [results, Tryd.results60, go_sem]) rfl ⟨by rw [HE.out]; simp only [saysV]; rw [← HX.out, ← HKK.out], ((Kept.refl _ w).alloc _).drewN _⟩
            · have HE : Hid (saysM (16, b) l = none) := hid (by unfold saysM; simp only; repeat (rw [if_neg (by omega)]))
              have hl1 : L = 0 := by omega
              rw [← hL] at hl ⊢
              clear hl0 hL HS
              subst hl1
              go_enter Tryd.func60, Tryd.ntmps60
              go_wp2_with fail
              refine bodyPost_ret (v := .tuple #[.int .i64 0, .int .i64 0, .bool false]) (by simp [results, Tryd.results60, go_sem]) rfl ⟨by rw [HE.out]; rfl, ((Kept.refl _ w).alloc _)⟩
          · have HE : Hid (saysM (16, b) l = none) := hid (by unfold saysM; simp only; repeat (rw [if_neg (by omega)]))
            have hb4 : decide (b ≤ 3) = false := by simp; omega
            go_enter Tryd.func60, Tryd.ntmps60
            go_wp2_with fail
            refine bodyPost_ret (v := .tuple #[.int .i64 0, .int .i64 0, .bool false]) (by simp [results, Tryd.results60, go_sem]) rfl ⟨by rw [HE.out]; rfl, ((Kept.refl _ w).alloc _)⟩
        · have HE : Hid (saysM (16, b) l = none) := hid (by unfold saysM; simp only; repeat (rw [if_neg (by omega)]))
          have hb4 : decide (0 ≤ b) = false := by simp; omega
          go_enter Tryd.func60, Tryd.ntmps60
          go_wp2_with fail
          refine bodyPost_ret (v := .tuple #[.int .i64 0, .int .i64 0, .bool false]) (by simp [results, Tryd.results60, go_sem]) rfl ⟨by rw [HE.out]; rfl, ((Kept.refl _ w).alloc _)⟩
      · have e16 : (a == 16) = false := by simp; omega
        by_cases h17 : a = 17
        · subst h17
          by_cases hb0 : 0 ≤ b
          · by_cases hb3 : b ≤ 7
            · have HE : Hid (saysM (17, b) l = some (0, b.toNat + 3)) := hid (by unfold saysM; rw [if_neg (by simp), if_neg (by simp), if_pos ⟨rfl, hb0, hb3⟩])
              obtain ⟨k, hk⟩ : ∃ k, k = b.toNat + 3 := ⟨_, rfl⟩
              have hkI : b + 3 = (k : Int) := by omega
              have hwk : IntKind.i64.wrap (k : Int) = (k : Int) := by rw [IntKind.wrap_i64]; omega
              have HKK : Hid (k = b.toNat + 3) := hk
              clear hk
              go_enter Tryd.func60, Tryd.ntmps60
              go_wp2_with fail
              go_quiet (fail)
              go_wp2_with fail
              refine bodyPost_ret (v := .tuple #[.int .i64 0, .int .i64 (k : Nat), .bool true]) (by simp [results, Tryd.results60, go_sem]) rfl ⟨by rw [HE.out]; simp only [saysV]; rw [← HKK.out]; rfl, ((Kept.refl _ w).alloc _).drewN _⟩
            · have HE : Hid (saysM (17, b) l = none) := hid (by unfold saysM; simp only; repeat (rw [if_neg (by omega)]))
              have hb4 : decide (b ≤ 7) = false := by simp; omega
              go_enter Tryd.func60, Tryd.ntmps60
              go_wp2_with fail
              refine bodyPost_ret (v := .tuple #[.int .i64 0, .int .i64 0, .bool false]) (by simp [results, Tryd.results60, go_sem]) rfl ⟨by rw [HE.out]; rfl, ((Kept.refl _ w).alloc _)⟩
          · have HE : Hid (saysM (17, b) l = none) := hid (by unfold saysM; simp only; repeat (rw [if_neg (by omega)]))
            have hb4 : decide (0 ≤ b) = false := by simp; omega
            go_enter Tryd.func60, Tryd.ntmps60
            go_wp2_with fail
            refine bodyPost_ret (v := .tuple #[.int .i64 0, .int .i64 0, .bool false]) (by simp [results, Tryd.results60, go_sem]) rfl ⟨by rw [HE.out]; rfl, ((Kept.refl _ w).alloc _)⟩
        · have e17 : (a == 17) = false := by simp; omega
          by_cases h18 : a = 18
          · subst h18
            by_cases hb0 : 0 ≤ b
            · by_cases hb3 : b ≤ 127
              · have HE : Hid (saysM (18, b) l = some (0, b.toNat + 11)) := hid (by unfold saysM; rw [if_neg (by simp), if_neg (by simp), if_neg (by simp), if_pos ⟨rfl, hb0, hb3⟩])
                obtain ⟨k, hk⟩ : ∃ k, k = b.toNat + 11 := ⟨_, rfl⟩
                have hkI : b + 11 = (k : Int) := by omega
                have hwk : IntKind.i64.wrap (k : Int) = (k : Int) := by rw [IntKind.wrap_i64]; omega
                have HKK : Hid (k = b.toNat + 11) := hk
                clear hk
                go_enter Tryd.func60, Tryd.ntmps60
                go_wp2_with fail
                go_quiet (fail)
                go_wp2_with fail
                refine bodyPost_ret (v := .tuple #[.int .i64 0, .int .i64 (k : Nat), .bool true]) (by simp [results, Tryd.results60, go_sem]) rfl ⟨by rw [HE.out]; simp only [saysV]; rw [← HKK.out]; rfl, ((Kept.refl _ w).alloc _).drewN _⟩
              · have HE : Hid (saysM (18, b) l = none) := hid (by unfold saysM; simp only; repeat (rw [if_neg (by omega)]))
                have hb4 : decide (b ≤ 127) = false := by simp; omega
                go_enter Tryd.func60, Tryd.ntmps60
                go_wp2_with fail
                refine bodyPost_ret (v := .tuple #[.int .i64 0, .int .i64 0, .bool false]) (by simp [results, Tryd.results60, go_sem]) rfl ⟨by rw [HE.out]; rfl, ((Kept.refl _ w).alloc _)⟩
            · have HE : Hid (saysM (18, b) l = none) := hid (by unfold saysM; simp only; repeat (rw [if_neg (by omega)]))
              have hb4 : decide (0 ≤ b) = false := by simp; omega
              go_enter Tryd.func60, Tryd.ntmps60
              go_wp2_with fail
              refine bodyPost_ret (v := .tuple #[.int .i64 0, .int .i64 0, .bool false]) (by simp [results, Tryd.results60, go_sem]) rfl ⟨by rw [HE.out]; rfl, ((Kept.refl _ w).alloc _)⟩
          · have HE : Hid (saysM (a, b) l = none) := hid (by unfold saysM; simp only; repeat (rw [if_neg (by omega)]))
            have e18 : (a == 18) = false := by simp; omega
            go_enter Tryd.func60, Tryd.ntmps60
            go_wp2_with fail
            refine bodyPost_ret (v := .tuple #[.int .i64 0, .int .i64 0, .bool false]) (by simp [results, Tryd.results60, go_sem]) rfl ⟨by rw [HE.out]; rfl, ((Kept.refl _ w).alloc _)⟩
  · have HE : Hid (saysM (a, b) l = none) := hid (by unfold saysM; simp only; repeat (rw [if_neg (by omega)]))
    have hda : decide (0 ≤ a) = false := by simp; omega
    have e16 : (a == 16) = false := by simp; omega
    have e17 : (a == 17) = false := by simp; omega
    have e18 : (a == 18) = false := by simp; omega
    go_enter Tryd.func60, Tryd.ntmps60
    go_wp2_with fail
    refine bodyPost_ret (v := .tuple #[.int .i64 0, .int .i64 0, .bool false]) (by simp [results, Tryd.results60, go_sem]) rfl ⟨by rw [HE.out]; rfl, ((Kept.refl _ w).alloc _)⟩

end Go.Proofs.YtofhlnpbflkdlaaDoor

/-
  append of whatever slice that can be read, nil among them, onto a row of one's own.
-/
namespace Go.Proofs.YtofhlnpbflkdlaaDoor
open Go.RowKit

theorem wpList_append_x {α : Type} {ops : Array Oper} {rest : List Oper} {o : Oper} {a : Act} {Q : Exit → Act → World → Prop} (w : World) (enc : α → Value) (hone : ∀ (l : List α), ∀ u ∈ l.map enc, u.oneCell' = true) (B sT eT : Nat) (z : Value) (bytes : Nat)
    (hU : Tryd.prog.underlying sT = some (.slice eT)) (hI : (Tryd.prog.info? eT).map (fun i => (i.zero, i.size, i.bytes)) = some (some z, 1, bytes)) (hz : z.cells.size = 1) (hby : bytes ≤ 24) (hgd : o.guard = none) (s x : Operand)
    (ho : o.op = .call { callee := .builtin .append, args := #[s, x], argTypes := #[sT, sT] })
    (v : Value) (xs : List α) (hs : a.eval s = v) (hrow : RowE B eT enc w v xs) (I : Nat → Prop) (ao : Option Addr) (n c : Nat) (cs : List α) (hx : a.eval x = .slice ao n c) (hsrc : SrcE enc w I (.slice ao n c) cs) (h0 : ao = none → c = 0) (hlen : xs.length + cs.length ≤ 1000000000) (hB : B ≤ w.heap.size)
    (h : ∀ v' w', RowE B eT enc w' v' (xs ++ cs) → w.grownBy w' v.ownBlock → wpList Tryd.prog ops Q rest (a.put o.dst v') w') : wpList Tryd.prog ops Q (o :: rest) a w := by
  obtain ⟨hn, hat⟩ := hsrc.at
  cases ao with
  | some ad =>
    refine wpList_append_e w enc hone B sT eT z bytes hU hI hz hby hgd s x ho v xs hs hrow ad n c cs hx hn.symm ?_ hlen hB h
    by_cases h0 : cs = []
    · subst h0; intro j u hu; simp at hu
    · obtain ⟨a', e, hb⟩ := hat h0
      injection e with e
      subst e
      exact hb
  | none =>
    have e0 : cs = [] := Classical.byContradiction (fun hne => by obtain ⟨_, e, _⟩ := hat hne; cases e)
    subst e0
    have hc := h0 rfl
    have hn0 : n = 0 := hn
    subst hc hn0
    obtain ⟨i0, hi, hz0, hz1, hz2⟩ := info_parts hI
    refine wpList_plain hgd fun K hK => ?_
    have hr := run_append_owned_none (P := Tryd.prog) w B sT o.type eT i0 1 hU hi v xs.length (xs.map enc) hrow
    unfold Oper.wp execOp
    simp only [ho, resolve, invoke, builtin, Sem.run_bind, Sem.run_pure, Result.andThen_ok, List.map_toArray, List.map_cons, List.map_nil, hs, hx, hr]
    exact hK _ _ (h v w (by simpa using hrow) (World.grownBy.refl _ _))

/-- The same of ints. -/
theorem wpList_append_ints {ops : Array Oper} {rest : List Oper} {o : Oper} {a : Act} {Q : Exit → Act → World → Prop} (w : World) (B : Nat) (hgd : o.guard = none) (s x : Operand)
    (ho : o.op = .call { callee := .builtin .append, args := #[s, x], argTypes := #[22, 22] })
    (v : Value) (xs : List Nat) (hs : a.eval s = v) (hrow : NRow B w v xs) (I : Nat → Prop) (ao : Option Addr) (n c : Nat) (cs : List Nat) (hx : a.eval x = .slice ao n c) (hsrc : SrcE natV w I (.slice ao n c) cs) (h0 : ao = none → c = 0) (hlen : xs.length + cs.length ≤ 1000000000) (hB : B ≤ w.heap.size)
    (h : ∀ v' w', NRow B w' v' (xs ++ cs) → w.grownBy w' v.ownBlock → wpList Tryd.prog ops Q rest (a.put o.dst v') w') : wpList Tryd.prog ops Q (o :: rest) a w :=
  wpList_append_x w natV natV_one B 22 3 (natV 0) 8 Tryd.underlying22 Tryd.infoN rfl (by decide) hgd s x ho v xs hs hrow I ao n c cs hx hsrc h0 hlen hB h

theorem SrcE.part {w : World} {I : Nat → Prop} {b o cap : Nat} {l : List Nat} (h : SrcE natV w I (.slice (some ⟨b, o, none⟩) l.length cap) l) (k : Nat) (hk : k ≤ l.length) : SrcE natV w I (.slice (some ⟨b, o, none⟩) k cap) (l.take k) := by
  obtain ⟨ao, cap', e, hc, hcell⟩ := h
  simp only [Value.slice.injEq] at e
  obtain ⟨rfl, _, rfl⟩ := e
  refine ⟨_, _, by rw [List.length_take, Nat.min_eq_left hk], by rw [List.length_take]; omega, fun hne => ?_⟩
  obtain ⟨b', o', e, h1, h2⟩ := hcell (by intro e; subst e; simp at hne)
  refine ⟨b', o', e, h1, fun j hj => ?_⟩
  rw [List.length_take] at hj
  rw [h2 j (by omega), List.getElem_take]

theorem SrcE.tail {w : World} {I : Nat → Prop} {b o cap : Nat} {l : List Nat} (h : SrcE natV w I (.slice (some ⟨b, o, none⟩) l.length cap) l) (k px : Nat) (hk : k ≤ l.length) (hp : k < l.length → px = o + k) : SrcE natV w I (.slice (some ⟨b, px, none⟩) (l.length - k) (cap - k)) (l.drop k) := by
  obtain ⟨ao, cap', e, hc, hcell⟩ := h
  simp only [Value.slice.injEq] at e
  obtain ⟨rfl, _, rfl⟩ := e
  refine ⟨_, _, by rw [List.length_drop], by rw [List.length_drop]; omega, fun hne => ?_⟩
  have hkl : k < l.length := by
    rcases Nat.lt_or_ge k l.length with h | h
    · exact h
    · rw [List.drop_eq_nil_of_le h] at hne; exact absurd rfl hne
  obtain ⟨b', o', e, h1, h2⟩ := hcell (by intro e; subst e; simp at hne)
  simp only [Option.some.injEq, Addr.mk.injEq, and_true] at e
  obtain ⟨rfl, rfl⟩ := e
  refine ⟨b, px, rfl, h1, fun j hj => ?_⟩
  rw [List.length_drop] at hj
  rw [hp hkl, Nat.add_assoc, h2 (k + j) (by omega), List.getElem_drop]

end Go.Proofs.YtofhlnpbflkdlaaDoor

/-
  The reference's With and Unpack.
-/
namespace Go.Proofs.YtofhlnpbflkdlaaDoor
open Go.RowKit

set_option maxRecDepth 100000 in
set_option maxHeartbeats 2000000 in
theorem with_no (w : World) (B : Nat) (v : Value) (l : List Nat) (a b : Int) (n : Nat) (hr : NRow B w v l) (hl : l.length ≤ 1000000) (hl15 : ∀ x ∈ l, x ≤ 15) (_hn : n ≤ 1000000) (h : withM l (a, b) n = none) :
    Calls Tryd.prog 41 #[v, .agg #[.int .i64 a, .int .i64 b], .int .i64 (n : Nat)] w fun e w' => e = .returned (.tuple #[.slice none 0 0, .int .i64 41]) ∧ Same w w' := by
  obtain ⟨ao, cap, hv, h1, h2, _⟩ := hr.shape
  subst hv
  have HR : Hid (NRow B w (.slice ao l.length cap) l) := hr
  have HSY := says_any (w.alloc (.cells #[.int .i64 a, .int .i64 b] 31)) _ _ l a b (SrcE.ofRow (World.ownsRow.alloc hr _)) hl
  have HW : Hid (withM l (a, b) n = none) := h
  have H15 : Hid (∀ x ∈ l, x ≤ 15) := hl15
  obtain ⟨L, hL⟩ : ∃ L, L = l.length := ⟨_, rfl⟩
  have HL : Hid (L = l.length) := hL
  rw [← hL] at hl HSY HR ⊢
  clear hr h hL h1 h2 hl15
  go_enter Tryd.func41, Tryd.ntmps41
  cases hsm : saysM (a, b) l with
  | none =>
    rw [hsm] at HSY
    unfold saysV at HSY
    go_wp2_with fail
    refine HSY.mono ?_
    rintro e w2 ⟨rfl, hk⟩
    have HK : Hid (Same w w2) := hid (Same.trans ((Kept.refl _ w).alloc _) hk)
    clear hk HSY hsm
    go_wp2_with fail
    go_ret2
    exact ⟨rfl, HK.out⟩
  | some p =>
    obtain ⟨x, k⟩ := p
    rw [hsm] at HSY
    have hk1 := saysM_le hsm H15.out
    have hbig : n < l.length + k := by
      have h := HW.out
      unfold withM at h
      rw [hsm] at h
      simp only at h
      split at h
      · assumption
      · cases h
    unfold saysV at HSY
    obtain ⟨t, ht⟩ : ∃ t, t = L + k := ⟨_, rfl⟩
    have htI : (L : Int) + (k : Int) = (t : Int) := by omega
    have htn : n < t := by have := HL.out; omega
    clear ht hbig hsm
    go_wp2_with fail
    refine HSY.mono ?_
    rintro e w2 ⟨rfl, hk⟩
    have HK : Hid (Same w w2) := hid (Same.trans ((Kept.refl _ w).alloc _) hk)
    clear hk HSY
    go_wp2_with fail
    go_ret2
    exact ⟨rfl, HK.out⟩

set_option maxRecDepth 100000 in
set_option maxHeartbeats 2000000 in
theorem with_yes (w : World) (B : Nat) (v : Value) (l m : List Nat) (a b : Int) (n : Nat) (hr : NRow B w v l) (hl : l.length ≤ 1000000) (hl15 : ∀ x ∈ l, x ≤ 15) (hn : n ≤ 1000000) (h : withM l (a, b) n = some m) :
    Calls Tryd.prog 41 #[v, .agg #[.int .i64 a, .int .i64 b], .int .i64 (n : Nat)] w fun e w' => ∃ v', e = .returned (.tuple #[v', .int .i64 0]) ∧ New w w' v' m := by
  obtain ⟨ao, cap, hv, h1, h2, _⟩ := hr.shape
  subst hv
  have HR : Hid (NRow B w (.slice ao l.length cap) l) := hr
  have HSY := says_any (w.alloc (.cells #[.int .i64 a, .int .i64 b] 31)) _ _ l a b (SrcE.ofRow (World.ownsRow.alloc hr _)) hl
  obtain ⟨x, k, hsm, hfit, hm⟩ : ∃ x k, saysM (a, b) l = some (x, k) ∧ l.length + k ≤ n ∧ m = l ++ List.replicate k x := by
    unfold withM at h
    split at h
    · cases h
    · rename_i x k hs
      split at h
      · cases h
      · simp only [Option.some.injEq] at h
        exact ⟨x, k, hs, by omega, h.symm⟩
  have hk1 := saysM_le hsm hl15
  rw [hsm] at HSY
  have HM : Hid (m = l ++ List.replicate k x) := hm
  have HC0 : Hid (ao = none → cap = 0) := h2
  obtain ⟨L, hL⟩ : ∃ L, L = l.length := ⟨_, rfl⟩
  have HL : Hid (L = l.length) := hL
  rw [← hL] at hl HSY HR hfit ⊢
  obtain ⟨t, ht⟩ : ∃ t, t = L + k := ⟨_, rfl⟩
  have htI : (L : Int) + (k : Int) = (t : Int) := by omega
  have htn : decide (n < t) = false := by simp; omega
  clear hr h hL h1 h2 hl15 hm hsm ht
  unfold saysV at HSY
  go_enter Tryd.func41, Tryd.ntmps41
  go_wp2_with fail
  refine HSY.mono ?_
  rintro e w2 ⟨rfl, hk⟩
  have HK : Hid (Same w w2) := hid (Same.trans ((Kept.refl _ w).alloc _) hk)
  have hsz := HK.out.size
  clear hk HSY
  go_wp2_with (at_builtin; refine wpList_append_ints _ w.heap.size rfl (.tmp 30) (.tmp 31) rfl (.slice none 0 0) [] rfl RowE.nil _ ao L cap l rfl (SrcE.ofRow (HR.out.same HK.out)) HC0.out (by have := HL.out; simp; omega) hsz ?_; intro v3 w3 hr3 hg3; have HR3 : Hid (NRow w.heap.size w3 v3 (l ++ List.replicate 0 x)) := hid (by simpa using hr3); have HK3 : Hid (Same w w3) := hid (HK.out.grown hg3 (fun j e => by cases e)); clear hr3 hg3)
  go_loopg [11, 12] k (fun q zv zi wr => ∃ (i : Nat), k - i ≤ q ∧ i ≤ k ∧ zi = .int .i64 (i : Nat) ∧ Hid (NRow w.heap.size wr zv (l ++ List.replicate i x)) ∧ Hid (Same w wr))
  case atStart => exact ⟨0, by omega, by omega, rfl, HR3, HK3⟩
  case round =>
    clear HR3 HK3
    obtain ⟨i, hq, hi, rfl, HV, HK4⟩ := hrel
    by_cases hlt : i < k
    · have hsz4 := HK4.out.size
      have HLN : Hid ((l ++ List.replicate i x).length + [x].length ≤ 1000000000) := hid (by have := HL.out; simp; omega)
      go_wp2_with (at_builtin; refine wpList_append_e _ natV natV_one w.heap.size 22 3 (natV 0) 8 Tryd.underlying22 Tryd.infoN rfl (by decide) rfl (.tmp 38) (.tmp 40) rfl u11 (l ++ List.replicate i x) rfl (World.ownsRow.alloc HV.out _) ⟨wr.heap.size, 0, none⟩ 1 1 [x] rfl rfl (cellsAt_new _ _ _) HLN.out (by simp; omega) ?_; intro v5 w5 hr5 hg5)
      have HV5 : Hid (NRow w.heap.size w5 v5 (l ++ List.replicate (i + 1) x)) := hid (by rw [List.replicate_succ', ← List.append_assoc]; exact hr5)
      have HK5 : Hid (Same w w5) := hid ((HK4.out.alloc _).grown hg5 (fun j e => .inr (HV.out.ge e)))
      clear hr5 hg5
      go_wp2_with fail
      go_roundg (gk - 1)
      case measure => omega
      case rel => exact ⟨i + 1, by omega, by omega, by go_num, HV5, HK5⟩
    · have hik : i = k := by omega
      have HV6 : Hid (New w wr u11 m) := hid ⟨by rw [HM.out, ← hik]; exact HV.out, HK4.out⟩
      clear hik
      go_wp2_with fail
      go_ret2
      exact ⟨_, rfl, HV6.out⟩

/-- An answer of Unpack: an error, or a new row. -/
def UnpA (w w' : World) (e : Ending) : Except Nat (List Nat) → Prop
  | .error c => e = .returned (.tuple #[.slice none 0 0, .int .i64 (c : Nat)]) ∧ Same w w'
  | .ok l => ∃ v', e = .returned (.tuple #[v', .int .i64 0]) ∧ New w w' v' l

set_option maxRecDepth 100000 in
set_option maxHeartbeats 2000000 in
theorem unpack_any (w : World) (v : Value) (I : Nat → Prop) (ss : List (Int × Int)) (nz : Int) (hs : StSrc w I v ss) (hlen : ss.length ≤ 10000000) :
    Calls Tryd.prog 16 #[v, .int .i64 nz] w fun e w' => UnpA w w' e (unpM ss nz) := by
  obtain ⟨ao, cap, rfl, hx1, hx2⟩ := id hs
  clear hx1 hx2
  have HS : Hid (StSrc w I (.slice ao ss.length cap) ss) := hs
  clear hs
  by_cases hneg : nz < 0
  · have HE : Hid (unpM ss nz = .error 1) := hid (by unfold unpM; rw [if_pos (.inl hneg)])
    go_enter Tryd.func16, Tryd.ntmps16
    go_wp2_with fail
    go_ret2
    rw [HE.out]
    exact ⟨rfl, Kept.refl _ _⟩
  · by_cases hbig : 316 < nz
    · have HE : Hid (unpM ss nz = .error 1) := hid (by unfold unpM; rw [if_pos (.inr hbig)])
      go_enter Tryd.func16, Tryd.ntmps16
      go_wp2_with fail
      go_ret2
      rw [HE.out]
      exact ⟨rfl, Kept.refl _ _⟩
    · obtain ⟨n, rfl⟩ : ∃ n : Nat, nz = (n : Int) := ⟨nz.toNat, by omega⟩
      have hn : n ≤ 316 := by omega
      have b1 : decide ((n : Int) < 0) = false := by simp
      have b2 : decide ((316 : Int) < (n : Int)) = false := by simp; omega
      have HU : Hid (unpM ss (n : Int) = match runM n [] ss with | none => .error 41 | some l => if l.length < n then .error 41 else .ok l) := hid (by
        unfold unpM
        rw [if_neg (by omega)]
        simp only [Int.toNat_natCast]
        rfl)
      clear hneg hbig
      go_enter Tryd.func16, Tryd.ntmps16
      go_wp2_with fail
      clear b1 b2
      go_loopg [6, 7] ss.length (fun q zl zi wr => ∃ (i : Nat) (l : List Nat), ss.length - i ≤ q ∧ i ≤ ss.length ∧ zi = .int .i64 (i : Nat) ∧ Hid (runM n [] (ss.take i) = some l ∧ l.length ≤ n ∧ ∀ x ∈ l, x ≤ 15) ∧ Hid (NRow w.heap.size wr zl l) ∧ Hid (Same w wr))
      case atStart => exact ⟨0, [], by omega, by omega, rfl, hid ⟨by simp [runM], by simp, by simp⟩, RowE.nil, Kept.refl _ _⟩
      case round =>
        obtain ⟨i, l, hq, hi, rfl, HRUN, HV, HK⟩ := hrel
        by_cases hlt : i < ss.length
        · obtain ⟨b, o, e1, _, hcell⟩ : ∃ b o, ao = some ⟨b, o, none⟩ ∧ True ∧ ∀ t (_ : t < 2), wr.cell? ⟨b, o + (i * 2 + t), none⟩ = (stC ss[i])[t]? := by
            obtain ⟨ao', cap', e1, _, e2⟩ := HS.out.kept stC_ok HK.out (fun _ _ _ f => f)
            injection e1 with e3 _ _
            subst e3
            obtain ⟨b, o, e4, _, e5⟩ := e2 (by intro e; rw [e] at hlt; simp at hlt)
            exact ⟨b, o, e4, trivial, e5 i hlt⟩
          subst e1
          obtain ⟨x, y, hxy⟩ : ∃ x y, ss[i] = (x, y) := ⟨_, _, rfl⟩
          rw [hxy] at hcell
          have c1 : wr.cell? ⟨b, o + i * 2, none⟩ = some (.int .i64 x) := hcell 0 (by decide)
          have c2 : wr.cell? ⟨b, o + i * 2 + 1, none⟩ = some (.int .i64 y) := hcell 1 (by decide)
          have HSN : Hid (runM n [] (ss.take (i + 1)) = withM l (x, y) n) := hid (by
            rw [List.take_succ_eq_append_getElem hlt, runM_snoc, HRUN.out.1, hxy]
            rfl)
          clear hcell hxy
          cases hw : withM l (x, y) n with
          | none =>
            have HW := with_no wr w.heap.size u6 l x y n HV.out (by have := HRUN.out.2.1; omega) HRUN.out.2.2 (by omega) hw
            have HE : Hid (unpM ss (n : Int) = .error 41) := hid (by
              have h := runM_none (n := n) (l := []) (ss.take (i + 1)) (ss.drop (i + 1)) (by rw [HSN.out, hw])
              rw [List.take_append_drop] at h
              rw [HU.out, h])
            clear hw
            go_wp2_with fail
            refine HW.mono ?_
            rintro e w2 ⟨rfl, hk2⟩
            have HK2 : Hid (Same w w2) := hid (Same.trans HK.out hk2)
            clear hk2 HW
            go_wp2_with fail
            first
              | (go_ret2; rw [HE.out]; exact ⟨rfl, HK2.out⟩)
              | (go_quiet (fail); go_wp2_with fail; go_ret2; rw [HE.out]; exact ⟨rfl, HK2.out.drewN _⟩)
          | some m =>
            have HW := with_yes wr w.heap.size u6 l m x y n HV.out (by have := HRUN.out.2.1; omega) HRUN.out.2.2 (by omega) hw
            have HM : Hid (runM n [] (ss.take (i + 1)) = some m ∧ m.length ≤ n ∧ ∀ x ∈ m, x ≤ 15) := hid ⟨by rw [HSN.out, hw], (withM_grows hw HRUN.out.2.2).2.1, (withM_grows hw HRUN.out.2.2).2.2⟩
            clear hw
            go_wp2_with fail
            refine HW.mono ?_
            rintro e w2 ⟨v2, rfl, hn2⟩
            have HK2 : Hid (Same w w2) := hid (Same.trans HK.out hn2.same)
            have HV2 : Hid (NRow w.heap.size w2 v2 m) := hid (RowE.base hn2.row HK.out.size)
            clear hn2 HW
            go_wp2_with fail
            go_roundg (gk - 1)
            case measure => omega
            case rel => exact ⟨i + 1, m, by omega, by omega, by go_num, HM, HV2, HK2⟩
        · have hrun : runM n [] ss = some l := by
            have h := HRUN.out.1
            rw [List.take_of_length_le (by omega)] at h
            exact h
          obtain ⟨ao2, cap2, hv2, _⟩ := HV.out.shape
          subst hv2
          obtain ⟨L, hL⟩ : ∃ L, L = l.length := ⟨_, rfl⟩
          rw [← hL] at HV ⊢
          by_cases hsh : L < n
          · have HE : Hid (unpM ss (n : Int) = .error 41) := hid (by rw [HU.out, hrun]; simp only; rw [if_pos (by omega)])
            clear hrun hL
            go_wp2_with fail
            go_ret2
            rw [HE.out]
            exact ⟨rfl, HK.out⟩
          · have HE : Hid (unpM ss (n : Int) = .ok l) := hid (by rw [HU.out, hrun]; simp only; rw [if_neg (by omega)])
            clear hrun hL
            go_wp2_with fail
            go_ret2
            rw [HE.out]
            exact ⟨_, rfl, HV.out, HK.out⟩

end Go.Proofs.YtofhlnpbflkdlaaDoor

/-
  A block of cells, whole: an object of some fields.
-/
namespace Go.Proofs.YtofhlnpbflkdlaaDoor
open Go.RowKit

/-- The block h holds just these cells, none of them frozen. -/
def Blk (w : World) (h : Nat) (cs : Array Value) (t : TypeId) : Prop := w.heap[h]? = some (.cells cs t (0, 0))

theorem Blk.lt {w : World} {h : Nat} {cs : Array Value} {t : TypeId} (b : Blk w h cs t) : h < w.heap.size := (Array.getElem?_eq_some_iff.1 b).1

theorem Blk.cell {w : World} {h : Nat} {cs : Array Value} {t : TypeId} (b : Blk w h cs t) (i : Nat) : w.cell? ⟨h, i, none⟩ = cs[i]? := by
  unfold Blk at b
  simp [World.cell?, b]

theorem Blk.frozen {w : World} {h : Nat} {cs : Array Value} {t : TypeId} (b : Blk w h cs t) (i : Nat) : w.frozen? ⟨h, i, none⟩ = false := by
  unfold Blk at b
  simp [World.frozen?, b]

theorem Blk.kept {F : Nat → Prop} {w w' : World} {h : Nat} {cs : Array Value} {t : TypeId} (b : Blk w h cs t) (hk : Kept F w w') (hF : ¬ F h) : Blk w' h cs t := by
  unfold Blk
  rw [hk.block h b.lt hF]
  exact b

theorem Blk.set {w : World} {h : Nat} {cs : Array Value} {t : TypeId} (b : Blk w h cs t) (i : Nat) (u : Value) : Blk (w.setCell ⟨h, i, none⟩ u) h (cs.setIfInBounds i u) t := by
  unfold Blk at b ⊢
  simp [World.setCell, Array.getElem?_modify, b]

theorem Blk.new (w : World) (cs : Array Value) (t : TypeId) : Blk (w.alloc (.cells cs t)) w.heap.size cs t := by
  unfold Blk World.alloc
  simp

theorem Blk.drewN {w : World} {h : Nat} {cs : Array Value} {t : TypeId} (b : Blk w h cs t) (n : Nat) : Blk (w.drewN n) h cs t := b

end Go.Proofs.YtofhlnpbflkdlaaDoor

/-
  The reference's Next, walked.
-/
namespace Go.Proofs.YtofhlnpbflkdlaaDoor
open Go.RowKit

theorem fit_step (r ls : List Nat) (c n : Nat) (hn : n < r.length) (hq : c + n < ls.length) (h : r.take n = (ls.drop c).take n) (he : r[n] = ls[c + n]) : r.take (n + 1) = (ls.drop c).take (n + 1) := by
  have hd : n < (ls.drop c).length := by rw [List.length_drop]; omega
  rw [List.take_succ_eq_append_getElem hn, List.take_succ_eq_append_getElem hd, h, List.getElem_drop, he]

theorem fit_no (r ls : List Nat) (c n : Nat) (hn : n < r.length) (h : ¬ c + n < ls.length ∨ ∃ hq : c + n < ls.length, r[n] ≠ ls[c + n]) : ¬ r <+: ls.drop c := by
  intro hp
  have hl := hp.length_le
  rw [List.length_drop] at hl
  rcases h with h | ⟨hq, hne⟩
  · omega
  · have := List.IsPrefix.getElem hp hn
    rw [List.getElem_drop] at this
    exact hne this

theorem beg_yes (r ls : List Nat) (c n : Nat) (_hn : n < r.length) (h : r.take n = (ls.drop c).take n) (he : c + n = ls.length) : ls.drop c <+: r := by
  rw [List.take_of_length_le (l := ls.drop c) (by rw [List.length_drop]; omega)] at h
  rw [← h]
  exact List.take_prefix _ _

theorem beg_no (r ls : List Nat) (c n : Nat) (hn : n < r.length) (hq : c + n < ls.length) (hne : r[n] ≠ ls[c + n]) : ¬ ls.drop c <+: r := by
  intro hp
  have hd : n < (ls.drop c).length := by rw [List.length_drop]; omega
  have := List.IsPrefix.getElem hp hd
  rw [List.getElem_drop] at this
  exact hne this.symm

/-- A flag that tells whether. -/
def Tells (B : Bool) (P : Prop) : Prop := (B = true ↔ P)

set_option maxRecDepth 100000 in
set_option maxHeartbeats 4000000 in
theorem rnext_any (w w0 : World) (go L : Nat) (ns : List Nat) (rs : List (Option Addr × Nat × Nat)) (v : Value) (I : Nat → Prop) (ls : List Nat) (c : Nat) (hR : RW w0 w go L ns (fun s => key ns s ≠ 0) rs) (hL : L = ns.length) (hl288 : L ≤ 288) (h15 : ∀ s, key ns s ≤ 15) (hs : Src w I v ls) (hlen : ls.length ≤ 100000000) (hc : c ≤ ls.length) :
    Calls Tryd.prog 68 #[.slice (some ⟨go, 0, none⟩) L L, v, .int .i64 (c : Nat)] w fun e w' => (∃ is k g : Nat, e = .returned (.tuple #[.int .i64 (is : Nat), .int .i64 (k : Nat), .int .i64 (g : Nat)]) ∧ RNext ns (ls.drop c) is k g) ∧ Same w w' := by
  obtain ⟨ao, cap, rfl, hsa⟩ := id hs
  have HS : Hid (Src w I (.slice ao ls.length cap) ls) := hs
  have HR : Hid (RW w0 w go L ns (fun s => key ns s ≠ 0) rs) := hR
  have HL : Hid (L = ns.length) := hL
  have HRL : Hid (rs.length = L) := hid hR.row.len
  have H15 : Hid (∀ s, key ns s ≤ 15) := h15
  clear hs hR hL hsa h15
  obtain ⟨M, hM⟩ : ∃ M, M = ls.length := ⟨_, rfl⟩
  rw [← hM] at HS hlen hc ⊢
  have HM : Hid (M = ls.length) := hM
  clear hM
  go_enter Tryd.func68, Tryd.ntmps68
  go_wp2_with fail
  go_loopg [9, 10] L (fun q zb zi wr => ∃ (i : Nat) (B : Bool), L - i ≤ q ∧ i ≤ L ∧ zi = .int .i64 (i : Nat) ∧ zb = .bool B ∧ Hid (∀ s, s < i → ¬ Fit ns (ls.drop c) s) ∧ Hid (Tells B (∃ s, s < i ∧ Beg ns (ls.drop c) s)) ∧ Hid (Same w wr))
  case atStart => exact ⟨0, false, by omega, by omega, rfl, rfl, hid (fun s h => by omega), hid ⟨(fun h => by cases h), (fun h => by obtain ⟨s, h, _⟩ := h; omega)⟩, Kept.refl _ _⟩
  case round =>
    obtain ⟨i, B, hq, hi, rfl, rfl, HF, HB, HK⟩ := hrel
    obtain ⟨gk0, hgk⟩ : ∃ x, x = gk := ⟨_, rfl⟩
    rw [← hgk] at hq
    have HG : Hid (gk0 = gk) := hgk
    clear hgk
    by_cases hlt : i < L
    · have hirs : i < rs.length := by have := HRL.out; omega
      have cr := (HR.out.row.same HK.out).cell i hirs
      by_cases hk0 : key ns i = 0
      · rw [HR.out.none' i hirs (fun h => h hk0)] at cr
        have cr2 : wr.cell? ⟨go, i, none⟩ = some (.slice none 0 0) := cr
        have HF2 : Hid (∀ s, s < i + 1 → ¬ Fit ns (ls.drop c) s) := hid (fun s h hf => by
          by_cases e : s = i
          · subst e; exact hf.1 hk0
          · exact HF.out s (by omega) hf)
        have HB2 : Hid (Tells B (∃ s, s < i + 1 ∧ Beg ns (ls.drop c) s)) := hid (by
          have hb' := HB.out
          unfold Tells at hb' ⊢
          rw [hb']
          constructor
          · rintro ⟨s, h1, h2⟩; exact ⟨s, by omega, h2⟩
          · rintro ⟨s, h1, h2⟩
            by_cases e : s = i
            · subst e; exact absurd hk0 h2.1
            · exact ⟨s, by omega, h2⟩)
        clear cr hk0
        go_wp2_with fail
        go_roundg (gk0 - 1)
        case measure => have := HG.out; omega
        case rel => exact ⟨i + 1, B, by omega, by omega, by go_num, rfl, HF2, HB2, HK⟩
      · have hrow : Row wr (slV rs[i]) (rowOf ns i) := (HR.out.have' i hirs hk0).1.kept HK.out (fun _ _ f => f)
        obtain ⟨ar, capr, hvr, hgr⟩ := hrow.shape
        have hrl := rowOf_length ns i
        obtain ⟨gr, hgr⟩ := hgr (by intro e; rw [e] at hrl; simp at hrl; omega)
        subst hgr
        rw [hvr] at cr hrow
        rw [hrl] at cr hrow
        obtain ⟨K, hK⟩ : ∃ K, K = key ns i := ⟨_, rfl⟩
        rw [← hK] at cr hrow hrl
        have hK0 : 0 < K := by omega
        have hK15 : K ≤ 15 := by rw [hK]; exact H15.out i
        have HRO : Hid (Row wr (.slice (some ⟨gr, 0, none⟩) (rowOf ns i).length capr) (rowOf ns i)) := hid (by rw [hrl]; exact hrow)
        have HRLN : Hid ((rowOf ns i).length = K) := hrl
        have HKY : Hid (K = key ns i ∧ key ns i ≠ 0) := hid ⟨hK, hk0⟩
        have HCR : Hid (wr.cell? ⟨go, i, none⟩ = some (.slice (some ⟨gr, 0, none⟩) K capr)) := cr
        have hnz : ((K : Int) == 0) = false := by simp; omega
        obtain ⟨w1, hw1⟩ : ∃ w1, w1 = wr := ⟨_, rfl⟩
        subst hw1
        clear hvr hrow hrl hK hk0
        go_wp2_with fail
        clear hnz cr
        go_loopg [11] K (fun q zn wr => ∃ (n : Nat), K - n ≤ q ∧ n ≤ K ∧ c + n ≤ M ∧ zn = .int .i64 (n : Nat) ∧ Hid ((rowOf ns i).take n = (ls.drop c).take n) ∧ Hid (Same w1 wr))
        case atStart => exact ⟨0, by omega, by omega, by omega, rfl, hid (by simp), Kept.refl _ _⟩
        case round =>
          obtain ⟨n, hq2, hnK, hcn, rfl, HT, HK2⟩ := hrel
          have cr : wr.cell? ⟨go, i, none⟩ = some (.slice (some ⟨gr, 0, none⟩) K capr) := HK2.out.cell HCR.out (fun h => h)
          obtain ⟨x, hx⟩ : ∃ x, x = c + n := ⟨_, rfl⟩
          have hxI : (c : Int) + (n : Int) = (x : Int) := by omega
          have hwx : IntKind.i64.wrap (x : Int) = (x : Int) := by rw [IntKind.wrap_i64]; omega
          have HX : Hid (x = c + n) := hx
          clear hx
          by_cases hnlt : n < K
          · have hnr : n < (rowOf ns i).length := by have := HRLN.out; omega
            have c1 : wr.cell? ⟨gr, n, none⟩ = some (.int .u8 ((rowOf ns i)[n] : Nat)) := HK2.out.cell (HRO.out.cell n hnr) (fun h => h)
            obtain ⟨y1, hy1⟩ : ∃ y, y = (rowOf ns i)[n] := ⟨_, rfl⟩
            rw [← hy1] at c1
            have hn1 : ((n : Int) == (K : Int)) = false := by simp; omega
            by_cases hxl : x < M
            · have hxl2 : c + n < ls.length := by have := HM.out; have := HX.out; omega
              obtain ⟨b, o, rfl, _, hcell⟩ : ∃ b o, ao = some ⟨b, o, none⟩ ∧ True ∧ wr.cell? ⟨b, o + x, none⟩ = some (.int .u8 (ls[c + n] : Nat)) := by
                obtain ⟨ao', cap', e1, e2⟩ := (HS.out.kept (Same.trans HK.out HK2.out) (fun _ _ _ f => f))
                injection e1 with e3 _ _
                subst e3
                obtain ⟨b, o, e4, _, e5⟩ := e2 (by intro e; rw [e] at hxl2; simp at hxl2)
                refine ⟨b, o, e4, trivial, ?_⟩
                rw [HX.out]
                exact e5 (c + n) hxl2
              obtain ⟨y2, hy2⟩ : ∃ y, y = ls[c + n] := ⟨_, rfl⟩
              rw [← hy2] at hcell
              by_cases he : y1 = y2
              · have hd : ((y1 : Int) == (y2 : Int)) = true := by simp [he]
                have HT2 : Hid ((rowOf ns i).take (n + 1) = (ls.drop c).take (n + 1)) := hid (fit_step _ _ c n hnr hxl2 HT.out (by rw [← hy1, ← hy2, he]))
                have hcn2 : c + (n + 1) ≤ M := by have := HX.out; omega
                clear hy1 hy2 he hn1
                go_wp2_with fail
                go_quiet (fail)
                go_wp2_with fail
                go_roundg (gk - 1)
                case measure => omega
                case rel => exact ⟨n + 1, by omega, by omega, hcn2, by go_num, HT2, hid (HK2.out.drewN _)⟩
              · have hd : ((y1 : Int) == (y2 : Int)) = false := by simp; omega
                have HNF : Hid (¬ Fit ns (ls.drop c) i ∧ ¬ Beg ns (ls.drop c) i) := hid ⟨fun h => fit_no _ _ c n hnr (.inr ⟨hxl2, by rw [← hy1, ← hy2]; exact he⟩) h.2, fun h => beg_no _ _ c n hnr hxl2 (by rw [← hy1, ← hy2]; exact he) h.2⟩
                have hxm : ((x : Int) == (M : Int)) = false := by simp; omega
                clear hy1 hy2 he
                have HF2 : Hid (∀ s, s < i + 1 → ¬ Fit ns (ls.drop c) s) := hid (fun s h hf => by
                  by_cases e : s = i
                  · subst e; exact HNF.out.1 hf
                  · exact HF.out s (by omega) hf)
                have HB2 : Hid (Tells B (∃ s, s < i + 1 ∧ Beg ns (ls.drop c) s)) := hid (by
                  have hb' := HB.out
                  unfold Tells at hb' ⊢
                  rw [hb']
                  constructor
                  · rintro ⟨s, h1, h2⟩; exact ⟨s, by omega, h2⟩
                  · rintro ⟨s, h1, h2⟩
                    by_cases e : s = i
                    · subst e; exact absurd h2 HNF.out.2
                    · exact ⟨s, by omega, h2⟩)
                go_wp2_with fail
                go_quiet (fail)
                cases B with
                | true =>
                  go_wp2_with fail
                  go_roundg (gk0 - 1)
                  case measure => have := HG.out; omega
                  case rel => exact ⟨i + 1, true, by omega, by omega, by go_num, rfl, HF2, HB2, hid (Same.trans HK.out (HK2.out.drewN _))⟩
                | false =>
                  go_wp2_with fail
                  go_roundg (gk0 - 1)
                  case measure => have := HG.out; omega
                  case rel => exact ⟨i + 1, false, by omega, by omega, by go_num, rfl, HF2, HB2, hid (Same.trans HK.out (HK2.out.drewN _))⟩
            · have hxm : ((x : Int) == (M : Int)) = true := by have := HX.out; simp; omega
              have hxd : decide (x < M) = false := by simp; omega
              have HNF : Hid (¬ Fit ns (ls.drop c) i ∧ Beg ns (ls.drop c) i) := hid ⟨fun h => fit_no _ _ c n hnr (.inl (by have := HM.out; have := HX.out; omega)) h.2, HKY.out.2, beg_yes _ _ c n hnr HT.out (by have := HM.out; have := HX.out; omega)⟩
              clear hy1 hxl
              have HF2 : Hid (∀ s, s < i + 1 → ¬ Fit ns (ls.drop c) s) := hid (fun s h hf => by
                by_cases e : s = i
                · subst e; exact HNF.out.1 hf
                · exact HF.out s (by omega) hf)
              have HB2 : Hid (Tells true (∃ s, s < i + 1 ∧ Beg ns (ls.drop c) s)) := hid ⟨fun _ => ⟨i, by omega, HNF.out.2⟩, fun _ => rfl⟩
              go_wp2_with fail
              go_quiet (fail)
              cases B with
              | true =>
                go_wp2_with fail
                go_roundg (gk0 - 1)
                case measure => have := HG.out; omega
                case rel => exact ⟨i + 1, true, by omega, by omega, by go_num, rfl, HF2, HB2, hid (Same.trans HK.out (HK2.out.drewN _))⟩
              | false =>
                go_wp2_with fail
                go_roundg (gk0 - 1)
                case measure => have := HG.out; omega
                case rel => exact ⟨i + 1, true, by omega, by omega, by go_num, rfl, HF2, HB2, hid (Same.trans HK.out (HK2.out.drewN _))⟩
          · have hnK2 : n = K := by omega
            have hnd : decide (n < K) = false := by simp; omega
            have hne : ((n : Int) == (K : Int)) = true := by simp; omega
            have HFIT : Hid (Fit ns (ls.drop c) i ∧ n = key ns i) := hid (by
              refine ⟨⟨HKY.out.2, ?_⟩, by rw [hnK2]; exact HKY.out.1⟩
              have h := HT.out
              rw [List.take_of_length_le (by have := HRLN.out; omega)] at h
              rw [h]
              exact List.take_prefix _ _)
            clear hnlt hnK2
            go_wp2_with fail
            go_quiet (fail)
            go_wp2_with fail
            refine bodyPost_ret (v := .tuple #[.int .i64 (i : Nat), .int .i64 (n : Nat), .int .i64 0]) (by simp [results, Tryd.results68, go_sem]) rfl ⟨⟨i, n, 0, rfl, .inl ⟨rfl, by have := HL.out; omega, HFIT.out.1, HFIT.out.2, HF.out⟩⟩, Same.trans HK.out (HK2.out.drewN _)⟩
    · have hil : i = L := by omega
      have hid' : decide (i < L) = false := by simp; omega
      have HF2 : Hid (∀ s, s < ns.length → ¬ Fit ns (ls.drop c) s) := hid (fun s h => HF.out s (by have := HL.out; omega))
      have HB2 : Hid (Tells B (∃ s, s < ns.length ∧ Beg ns (ls.drop c) s)) := hid (by have hb' := HB.out; rw [hil, HL.out] at hb'; exact hb')
      clear hil hlt
      cases B with
      | true =>
        go_wp2_with fail
        refine bodyPost_ret (v := .tuple #[.int .i64 0, .int .i64 0, .int .i64 10]) (by simp [results, Tryd.results68, go_sem]) rfl ⟨⟨0, 0, 10, rfl, .inr (.inl ⟨rfl, rfl, rfl, HF2.out, HB2.out.1 rfl⟩)⟩, HK.out⟩
      | false =>
        go_wp2_with fail
        refine bodyPost_ret (v := .tuple #[.int .i64 0, .int .i64 0, .int .i64 32]) (by simp [results, Tryd.results68, go_sem]) rfl ⟨⟨0, 0, 32, rfl, .inr (.inr ⟨rfl, rfl, rfl, HF2.out, fun s hs hb => by have := HB2.out.2 ⟨s, hs, hb⟩; cases this⟩)⟩, HK.out⟩

end Go.Proofs.YtofhlnpbflkdlaaDoor

/-
  The reader's inner function 'cut'.
-/
namespace Go.Proofs.YtofhlnpbflkdlaaDoor
open Go.RowKit

theorem cut_bits (V b u k got : Nat) (hV : V < 2 ^ got) (hb : b < 256) (hk : k ≤ 8) (hg : got + k ≤ 32) :
    bits .or .u32 (V : Int) (bits .and .u32 ((b : Int) % 4294967296 / 2 ^ u) ((2 ^ k - 1) % 4294967296) * 2 ^ got % 4294967296) = ((V + 2 ^ got * (b / 2 ^ u % 2 ^ k) : Nat) : Int) := by
  have hk2 : 2 ^ k ≤ 2 ^ 8 := Nat.pow_le_pow_right (by omega) hk
  have hk0 : 0 < 2 ^ k := Nat.two_pow_pos k
  have e1 : ((b : Int) % 4294967296 / 2 ^ u) = ((b / 2 ^ u : Nat) : Int) := by
    rw [show ((b : Int) % 4294967296) = (b : Int) by omega]; simp
  have e2 : (((2 : Int) ^ k - 1) % 4294967296) = ((2 ^ k - 1 : Nat) : Int) := by
    have : ((2 : Int) ^ k) = ((2 ^ k : Nat) : Int) := by simp
    rw [this]
    omega
  have h1 : b / 2 ^ u < 4294967296 := Nat.lt_of_le_of_lt (Nat.div_le_self _ _) (by omega)
  have h2 : 2 ^ k - 1 < 4294967296 := by omega
  rw [e1, e2, u32_and_nat _ _ h1 h2, and_mask]
  have hm : b / 2 ^ u % 2 ^ k < 2 ^ k := Nat.mod_lt _ hk0
  have hlt : b / 2 ^ u % 2 ^ k * 2 ^ got < 4294967296 := by
    have h3 : b / 2 ^ u % 2 ^ k * 2 ^ got < 2 ^ k * 2 ^ got := Nat.mul_lt_mul_of_pos_right hm (Nat.two_pow_pos _)
    have h4 : 2 ^ k * 2 ^ got ≤ 2 ^ 32 := by rw [← Nat.pow_add]; exact Nat.pow_le_pow_right (by omega) (by omega)
    omega
  have e3 : (((b / 2 ^ u % 2 ^ k : Nat) : Int) * 2 ^ got % 4294967296) = ((b / 2 ^ u % 2 ^ k * 2 ^ got : Nat) : Int) := by
    have : ((2 : Int) ^ got) = ((2 ^ got : Nat) : Int) := by simp
    rw [this, ← Int.natCast_mul]
    omega
  have hV32 : V < 4294967296 := by
    have : 2 ^ got ≤ 2 ^ 32 := Nat.pow_le_pow_right (by omega) (by omega)
    omega
  rw [e3, u32_or_nat _ _ hV32 hlt, Nat.mul_comm, or_add _ _ _ hV]

theorem cut_rel {w wr : World} {p : Nat} {s : Value} {bs : List Nat} {c n got k gk nq V b : Nat} (hs : St wr p s bs (c + got)) (hkp : Kept (· = p) w wr) (hlt : (c + got) / 8 < bs.length) (hb : b = bs[(c + got) / 8]) (hV : V = n256 bs / 2 ^ c % 2 ^ got)
    (hk : (c + got) % 8 + k ≤ 8) (hkn : got + k ≤ n) (hn : n ≤ 32) (hgk : n - (got + k) ≤ gk) {M G C : Int} (hM : M = bits .or .u32 (V : Int) (bits .and .u32 ((b : Int) % 4294967296 / 2 ^ ((c + got) % 8)) ((2 ^ k - 1) % 4294967296) * 2 ^ got % 4294967296))
    (hG : G = ((got + k : Nat) : Int)) (hC : C = ((c + (got + k) : Nat) : Int)) :
    ∃ got' : Nat, got' ≤ n ∧ n - got' ≤ gk ∧ Value.int .u32 M = .int .u32 (n256 bs / 2 ^ c % 2 ^ got' : Nat) ∧ Value.int .i64 G = .int .i64 (got' : Nat) ∧ St ((wr.drewN nq).setCell ⟨p, 1, none⟩ (.int .i64 C)) p s bs (c + got') ∧ Kept (· = p) w ((wr.drewN nq).setCell ⟨p, 1, none⟩ (.int .i64 C)) := by
  have hb8 : b < 256 := by rw [hb]; exact hs.byte _ (List.getElem_mem _)
  have hV2 : V < 2 ^ got := by rw [hV]; exact Nat.mod_lt _ (Nat.two_pow_pos _)
  have e := cut_step bs hs.byte c got k hk hlt
  subst hG hC
  refine ⟨got + k, hkn, hgk, ?_, rfl, (hs.drewN nq).setCount _, (hkp.drewN nq).setCell _ _ (.inl rfl)⟩
  rw [hM, cut_bits V b _ k got hV2 hb8 (by omega) (by omega), ← e, hb, hV]

set_option maxHeartbeats 1000000 in
theorem cut_any (w : World) (p : Nat) (s : Value) (bs : List Nat) (c n : Nat) (hst : St w p s bs c) (hn : n ≤ 32) (hc : c + n ≤ 8 * bs.length) (hlen : bs.length ≤ 100000000000) :
    Calls Tryd.prog 54 #[.pointer (some ⟨p, 0, none⟩), .int .i64 (n : Nat)] w fun e w' => e = .returned (.int .u32 (n256 bs / 2 ^ c % 2 ^ n : Nat)) ∧
      St w' p s bs (c + n) ∧ Kept (· = p) w w' := by
  go_enter Tryd.func54, Tryd.ntmps54
  go_wp2
  go_step3
  go_wp2
  go_step3
  go_wp2
  go_loopg [5, 6] n (fun k x y wr => ∃ got : Nat, got ≤ n ∧ n - got ≤ k ∧ x = .int .u32 (n256 bs / 2 ^ c % 2 ^ got : Nat) ∧ y = .int .i64 (got : Nat) ∧ St wr p s bs (c + got) ∧ Kept (· = p) w wr)
  case atStart => exact ⟨0, by omega, by omega, by simp [Nat.mod_one], rfl, hst, Kept.refl _ _⟩
  case round =>
    obtain ⟨got, hg1, hg2, rfl, rfl, hs, hk⟩ := hrel
    have HS : Hid (St wr p s bs (c + got)) := hs
    have HK : Hid (Kept (· = p) w wr) := hk
    by_cases h0 : got = n
    · subst h0
      clear hst hs
      go_wp2
      rw [Exit.noGoto_ret]
      go_ret
      exact ⟨rfl, HS.out, HK.out⟩
    · obtain ⟨ao, cap, hv, hg⟩ := hs.row.shape
      have hlt : (c + got) / 8 < bs.length := by omega
      obtain ⟨g, hao⟩ := hg (by intro e; rw [e] at hlt; simp at hlt)
      subst hao
      have hcell : wr.cell? ⟨g, (c + got) / 8, none⟩ = some (.int .u8 (bs[(c + got) / 8] : Nat)) := by
        have hr := hs.row; rw [hv] at hr; exact Row.cell hr _ hlt
      have hcb := hs.cb
      have hcc := hs.cc
      have hfc := hs.fc
      rw [hv] at hcb
      obtain ⟨u, hu⟩ : ∃ u, u = (c + got) % 8 := ⟨_, rfl⟩
      obtain ⟨b, hb⟩ : ∃ b, b = bs[(c + got) / 8] := ⟨_, rfl⟩
      rw [← hb] at hcell
      obtain ⟨V, hV⟩ : ∃ V, V = n256 bs / 2 ^ c % 2 ^ got := ⟨_, rfl⟩
      rw [← hV]
      have HB : Hid (b = bs[(c + got) / 8]) := hb
      have HU : Hid (V = n256 bs / 2 ^ c % 2 ^ got) := hV
      clear hst hs hk hv hg hu hb hV
      by_cases hp : 8 - (c + got) % 8 ≤ n - got
      · go_wp2
        go_quiet (fail)
        go_wp2
        go_roundg (gk - 1)
        case measure => omega
        case rel =>
          exact cut_rel (k := 8 - (c + got) % 8) HS.out HK.out hlt HB.out HU.out (by omega) (by omega) hn (by omega) rfl (by omega) (by omega)
      · go_wp2
        go_quiet (fail)
        go_wp2
        go_roundg (gk - 1)
        case measure => omega
        case rel =>
          exact cut_rel (k := n - got) HS.out HK.out hlt HB.out HU.out (by omega) (by omega) hn (by omega) rfl (by omega) (by omega)
end Go.Proofs.YtofhlnpbflkdlaaDoor

/-
  The writer's inner function 'lay'.
-/
namespace Go.Proofs.YtofhlnpbflkdlaaDoor
open Go.RowKit


/-- What holds at each round's head. -/
structure Lays (w0 w : World) (p : Nat) (v0 : Value) (X T : Nat) (v n : Nat) (s : Value) (bs : List Nat) (c : Nat) : Prop where
  st : St w p s bs c
  kept : Kept (Fp p v0) w0 w
  own : s.ownBlock = v0.ownBlock ∨ ∀ k, s.ownBlock = some k → w0.heap.size ≤ k
  sum : n256 bs + v * 2 ^ c = X
  cnt : c + n = T
  lo : c ≤ 8 * bs.length
  hi : 8 * bs.length ≤ c + 8
  hn : 8 * bs.length = c + 8 → 0 < n
  hv : v < 2 ^ n
  hx : n256 bs < 2 ^ c

theorem lays_app {w0 wr w1 : World} {p : Nat} {v0 s v' : Value} {X T v n c nq : Nat} {bs : List Nat} (h : Lays w0 wr p v0 X T v n s bs c) (h8 : 8 * bs.length = c) (h0 : 0 < n) {o : Obj}
    (hrow : Row w1 v' (bs ++ [0])) (hg : ((wr.drewN nq).alloc o).grownBy w1 s.ownBlock)
    (hv' : v'.ownBlock = s.ownBlock ∨ v'.ownBlock = some (((wr.drewN nq).alloc o).heap.size)) :
    Lays w0 (w1.setCell ⟨p, 0, none⟩ v') p v0 X T v n v' (bs ++ [0]) c := by
  have hk1 : Kept (fun k => s.ownBlock = some k) wr w1 := (((Kept.refl _ wr).drewN nq).alloc o).grown hg (fun k e => .inl e)
  have hsz : w0.heap.size ≤ wr.heap.size := h.kept.size
  have hlt := h.st.lt
  have hv : v'.ownBlock = s.ownBlock ∨ ∀ k, v'.ownBlock = some k → wr.heap.size ≤ k := by
    rcases hv' with e | e
    · exact .inl e
    · refine .inr (fun k e' => ?_)
      rw [e] at e'
      simp at e'
      omega
  have hne : v'.ownBlock ≠ some p := by
    rcases hv with e | e
    · rw [e]; exact h.st.ne
    · intro e'; have := e p e'; omega
  refine ⟨h.st.setBytes hk1 hrow hne ?_, ?_, ?_, ?_, h.cnt, by simp; omega, by simp; omega, fun _ => h0, h.hv, ?_⟩
  · intro b hb
    rcases List.mem_append.1 hb with hb | hb
    · exact h.st.byte b hb
    · simp at hb; omega
  · refine (Kept.trans (H := Fp p v0) h.kept hk1 (fun _ _ e => e) ?_).setCell _ _ (.inl (.inl rfl))
    intro x hx e
    rcases h.own with e' | e'
    · exact .inr (by rw [← e', e])
    · have := e' x e; omega
  · rcases hv with e | e
    · rw [e]; exact h.own
    · exact .inr (fun k e' => Nat.le_trans hsz (e k e'))
  · rw [n256_append]; simpa [n256] using h.sum
  · rw [n256_append]; simpa [n256] using h.hx

theorem lays_end {w0 wr : World} {p : Nat} {v0 s : Value} {X T v c : Nat} {bs : List Nat} (h : Lays w0 wr p v0 X T v 0 s bs c) (nq : Nat) : Lays w0 (wr.drewN nq) p v0 X T 0 0 s bs T := by
  have e : T = c := by have := h.cnt; omega
  have hv : v = 0 := by have := h.hv; simp at this; exact this
  subst e hv
  exact ⟨h.st.drewN nq, h.kept.drewN nq, h.own, h.sum, rfl, h.lo, h.hi, h.hn, by simp, h.hx⟩

theorem lays_put {w0 wr : World} {p : Nat} {v0 : Value} {X T v n c g cap b free : Nat} {bs : List Nat} (h : Lays w0 wr p v0 X T v n (.slice (some ⟨g, 0, none⟩) (bs.length + 1) cap) (bs ++ [b]) c)
    (hf : c + free = 8 * (bs.length + 1)) (hf0 : 0 < free) (hn : 0 < n) (nq : Nat) :
    Lays w0 (((wr.drewN nq).setCell ⟨g, bs.length, none⟩ (.int .u8 (b ||| (v * 2 ^ (8 - free) % 256) : Nat))).setCell ⟨p, 1, none⟩ (.int .i64 (c + min free n : Nat))) p v0 X T (v / 2 ^ min free n) (n - min free n)
      (.slice (some ⟨g, 0, none⟩) (bs.length + 1) cap) (bs ++ [b ||| (v * 2 ^ (8 - free) % 256)]) (c + min free n) := by
  have hf8 : free ≤ 8 := by have := h.hi; simp at this; omega
  have hb := last_lt bs b c free (by omega) hf8 h.hx
  have hx : b ||| (v * 2 ^ (8 - free) % 256) = b + 2 ^ (8 - free) * (v % 2 ^ free) := by rw [shl_byte v free hf8]; exact or_add _ _ _ hb
  have hx8 : b ||| (v * 2 ^ (8 - free) % 256) < 256 := by
    have h1 : b < 2 ^ 8 := h.st.byte b (by simp)
    have h2 : v * 2 ^ (8 - free) % 256 < 2 ^ 8 := Nat.mod_lt _ (by decide)
    exact Nat.or_lt_two_pow h1 h2
  have hrow0 : Row wr (.slice (some ⟨g, 0, none⟩) (bs.length + 1) cap) (bs ++ [b]) := h.st.row
  have hst := World.ownsRow.stored (n := bs.length + 1) (by simpa [Row] using hrow0) bs.length (.int .u8 (b ||| (v * 2 ^ (8 - free) % 256) : Nat))
  have hrow1 : Row (wr.setCell ⟨g, bs.length, none⟩ (.int .u8 (b ||| (v * 2 ^ (8 - free) % 256) : Nat))) (.slice (some ⟨g, 0, none⟩) (bs.length + 1) cap) (bs ++ [b ||| (v * 2 ^ (8 - free) % 256)]) := by
    have := hst.1
    rw [List.set_append_right _ _ (by simp)] at this
    simpa [Row, byteV] using this
  have hgp : g ≠ p := by have := h.st.ne; simpa [Value.ownBlock] using this
  have hk1 : Kept (· = g) wr (wr.setCell ⟨g, bs.length, none⟩ (.int .u8 (b ||| (v * 2 ^ (8 - free) % 256) : Nat))) := (Kept.refl _ wr).setCell _ _ (.inl rfl)
  have hs1 : St (wr.setCell ⟨g, bs.length, none⟩ (.int .u8 (b ||| (v * 2 ^ (8 - free) % 256) : Nat))) p (.slice (some ⟨g, 0, none⟩) (bs.length + 1) cap) (bs ++ [b ||| (v * 2 ^ (8 - free) % 256)]) c := by
    refine ⟨hk1.cell h.st.cb (Ne.symm hgp), hk1.cell h.st.cc (Ne.symm hgp), (hk1.frozen h.st.lt (Ne.symm hgp)).trans h.st.fb, (hk1.frozen h.st.lt (Ne.symm hgp)).trans h.st.fc, hrow1, h.st.ne, ?_⟩
    intro y hy
    rcases List.mem_append.1 hy with hy | hy
    · exact h.st.byte y (by simp [hy])
    · simp at hy; subst hy; exact hx8
  have hsum : n256 (bs ++ [b ||| (v * 2 ^ (8 - free) % 256)]) = n256 (bs ++ [b]) + 2 ^ c * (v % 2 ^ free) := by rw [hx]; exact last_set bs b c free _ (by omega) hf8
  refine ⟨(hs1.setCount (c + min free n)).drewN nq, ?_, h.own, ?_, ?_, ?_, ?_, ?_, ?_, ?_⟩
  · have hk2 := (Kept.refl (Fp p v0) (wr.setCell ⟨g, bs.length, none⟩ (.int .u8 (b ||| (v * 2 ^ (8 - free) % 256) : Nat)))).setCell ⟨p, 1, none⟩ (.int .i64 (c + min free n : Nat)) (.inl (.inl rfl))
    refine (Kept.trans (H := Fp p v0) ?_ hk2 (fun _ _ e => e) (fun _ _ e => e)).drewN nq
    refine Kept.trans (H := Fp p v0) h.kept hk1 (fun _ _ e => e) ?_
    intro x hx' e
    rcases h.own with e' | e'
    · exact .inr (by rw [← e', e]; rfl)
    · have := e' x (by rw [e]; rfl); omega
  · rw [hsum, lay_step _ _ _ _ _ h.hv]; exact h.sum
  · have := h.cnt; omega
  · simp; omega
  · simp; omega
  · intro e; simp at e; omega
  · have hv := h.hv
    rw [Nat.div_lt_iff_lt_mul (Nat.two_pow_pos _), ← Nat.pow_add, show n - min free n + min free n = n by omega]
    exact hv
  · rw [hsum, Nat.pow_add]
    have h1 := h.hx
    have h2 : v % 2 ^ free < 2 ^ min free n := by
      by_cases hfn : free ≤ n
      · rw [Nat.min_eq_left hfn]; exact Nat.mod_lt _ (Nat.two_pow_pos _)
      · rw [Nat.min_eq_right (by omega)]; exact Nat.lt_of_le_of_lt (Nat.mod_le _ _) h.hv
    have h3 : 2 ^ c * (v % 2 ^ free + 1) ≤ 2 ^ c * 2 ^ min free n := Nat.mul_le_mul_left _ h2
    rw [Nat.mul_add] at h3
    omega

theorem lays_rel {w0 wr : World} {p : Nat} {v0 s : Value} {X T v n c g cap b free m k : Nat} {bs bs1 : List Nat} (h : Lays w0 wr p v0 X T v n s bs1 c) (hs : s = .slice (some ⟨g, 0, none⟩) bs1.length cap) (hb : bs1 = bs ++ [b] ∧ m = bs.length)
    (hf : c + free = 8 * (m + 1)) (hf0 : 0 < free) (hn : 0 < n) (nq : Nat) {B V N C : Int} (hB : B = bits .or .u8 (b : Int) ((v : Int) * 2 ^ (8 - free) % 256)) (hV : V = (v : Int) / 2 ^ min free n) (hN : N = ((n - min free n : Nat) : Int)) (hC : C = ((c + min free n : Nat) : Int)) (hk : 2 * n - 1 ≤ k) :
    ∃ s' bs' c' v' n', Value.int .u32 V = Value.int .u32 (v' : Nat) ∧ Value.int .i64 N = Value.int .i64 (n' : Nat) ∧ (2 * n' + if c' = 8 * bs'.length then 1 else 0) ≤ k ∧
      Lays w0 (((wr.drewN nq).setCell ⟨g, m, none⟩ (.int .u8 B)).setCell ⟨p, 1, none⟩ (.int .i64 C)) p v0 X T v' n' s' bs' c' := by
  obtain ⟨rfl, rfl⟩ := hb
  rw [List.length_append, List.length_singleton] at hs
  subst hs
  have R := lays_put h hf hf0 hn nq
  have hb8 : b < 256 := h.st.byte b (by simp)
  have e : ((v : Int) * 2 ^ (8 - free) % 256) = ((v * 2 ^ (8 - free) % 256 : Nat) : Int) := by simp
  rw [e, u8_or_nat b _ hb8 (Nat.mod_lt _ (by decide))] at hB
  subst hB hN hC
  refine ⟨_, _, _, v / 2 ^ min free n, n - min free n, by rw [hV]; simp, rfl, ?_, R⟩
  split <;> omega

set_option maxHeartbeats 1000000 in
theorem lay_any (w : World) (p : Nat) (s : Value) (bs : List Nat) (c v n : Nat) (hst : St w p s bs c) (hv : v < 2 ^ n) (hn : n ≤ 32) (hc : c ≤ 1000000000000)
    (hlo : c ≤ 8 * bs.length) (hhi : 8 * bs.length < c + 8) (hx : n256 bs < 2 ^ c) :
    Calls Tryd.prog 43 #[.pointer (some ⟨p, 0, none⟩), .int .u32 v, .int .i64 n] w fun e w' => e = .returned (.tuple #[]) ∧
      ∃ s' bs', Lays w w' p s (n256 bs + v * 2 ^ c) (c + n) 0 0 s' bs' (c + n) := by
  go_enter Tryd.func43, Tryd.ntmps43
  go_wp2
  go_step3
  go_wp2
  go_step3
  go_wp2
  go_loopg [1, 2] (2 * n + 1) (fun k x y wr => ∃ s' bs' c' v' n', x = .int .u32 (v' : Nat) ∧ y = .int .i64 (n' : Nat) ∧ 2 * n' + (if c' = 8 * bs'.length then 1 else 0) ≤ k ∧ Lays w wr p s (n256 bs + v * 2 ^ c) (c + n) v' n' s' bs' c')
  case atStart => exact ⟨s, bs, c, v, n, rfl, rfl, by split <;> omega, hst, Kept.refl _ _, .inl rfl, rfl, rfl, hlo, by omega, by omega, hv, hx⟩
  case round =>
    obtain ⟨s1, bs1, c1, v1, n1, rfl, rfl, hk, hl⟩ := hrel
    have HL : Hid (Lays w wr p s (n256 bs + v * 2 ^ c) (c + n) v1 n1 s1 bs1 c1) := hl
    have hcc := hl.st.cc
    have hcb := hl.st.cb
    have hfb := hl.st.fb
    have hfc := hl.st.fc
    have hlo1 := hl.lo
    have hhi1 := hl.hi
    have hcn := hl.cnt
    obtain ⟨ao, cap, hs, hg⟩ := hl.st.row.shape
    have HS : Hid (s1 = Value.slice ao bs1.length cap) := hs
    have HK : Hid (2 * n1 + (if c1 = 8 * bs1.length then 1 else 0) ≤ gk) := hk
    rw [hs] at hcb
    obtain ⟨L, hL⟩ : ∃ L, L = bs1.length := ⟨_, rfl⟩
    rw [← hL] at hcb hlo1 hhi1
    have HLL : Hid (L = bs1.length) := hL
    clear hk hL hst hlo hhi hx hv hs hg hl
    have hcn' : c1 + n1 ≤ 1000000000032 := by omega
    clear hcn
    by_cases h0 : n1 = 0
    · go_wp2
      go_quiet (fail)
      go_wp2
      rw [Exit.noGoto_normal]
      go_end0
      have hl := HL.out
      subst h0
      exact ⟨rfl, s1, bs1, lays_end hl nq⟩
    · by_cases h8 : 8 * L = c1
      · go_wp2
        go_quiet (fail)
        have hrow : Row (wr.drewN nq) (.slice ao L cap) bs1 := by have := HL.out.st.row; rw [HS.out, ← HLL.out] at this; exact this
        have HR : Hid (Row ((wr.drewN nq).alloc (.cells #[.int .u8 0] 5)) (.slice ao L cap) bs1) := World.ownsRow.alloc hrow _
        have HLn : Hid (bs1.length + [0].length ≤ 1000000000000) := by have := HLL.out; show bs1.length + 1 ≤ _; omega
        clear hrow
        go_wp2_with (at_builtin; refine wpList_append_row _ rfl (.tmp 65) (.tmp 66) rfl (.slice ao L cap) bs1 rfl HR.out ⟨wr.heap.size, 0, none⟩ 1 1 [0] rfl rfl (bytesAt_new _ 0) HLn.out ?_)
        intro v' w1 hrow hgr hv'
        have hl := HL.out
        have hs := HS.out
        rw [← HLL.out] at hs
        rw [← hs] at hgr hv'
        have R := lays_app hl (by rw [← HLL.out]; exact h8) (by omega) hrow hgr (by simpa using hv')
        have hk1 : Kept (fun k => s1.ownBlock = some k) wr w1 := (((Kept.refl _ wr).drewN nq).alloc _).grown hgr (fun k e => .inl e)
        have hcb1 := hk1.cell hl.st.cb hl.st.ne
        have hfb1 := (hk1.frozen (p := ⟨p, 0, none⟩) hl.st.lt hl.st.ne).trans hl.st.fb
        have hm : 2 * n1 + 1 ≤ gk := by have := HK.out; rw [if_pos (by rw [← HLL.out]; omega)] at this; exact this
        obtain ⟨ao', cap', hs', _⟩ := Row.shape hrow
        have RR : Hid (Lays w (w1.setCell ⟨p, 0, none⟩ v') p s (n256 bs + v * 2 ^ c) (c + n) v1 n1 v' (bs1 ++ [0]) c1) := R
        have eL : (bs1 ++ [0]).length = bs1.length + 1 := by simp
        rw [eL] at hs'
        rw [hs'] at RR ⊢
        clear hrow hgr hv' hl hs R hk1 hs' HR eL
        go_wp2
        go_roundg (2 * n1)
        case measure => omega
        case rel => exact ⟨_, _, c1, v1, n1, rfl, rfl, by rw [if_neg (by rw [List.length_append]; have := HLL.out; simp; omega)]; omega, RR.out⟩
      · obtain ⟨bs2, b, hb⟩ : ∃ bs2 b, bs1 = bs2 ++ [b] := by
          have hne : bs1 ≠ [] := by intro e; have := HLL.out; rw [e] at this; simp at this; omega
          exact ⟨bs1.dropLast, bs1.getLast hne, (List.dropLast_concat_getLast hne).symm⟩
        obtain ⟨m, hm⟩ : ∃ m, m = bs2.length := ⟨_, rfl⟩
        have hLm : L = m + 1 := by rw [HLL.out, hb, hm]; simp
        subst hLm
        have hl := HL.out
        obtain ⟨g, hao, hcell, hfr⟩ : ∃ g, ao = some ⟨g, 0, none⟩ ∧ wr.cell? ⟨g, m, none⟩ = some (.int .u8 (b : Nat)) ∧ wr.frozen? ⟨g, m, none⟩ = false := by
          obtain ⟨ao', cap', e1, e2⟩ := hl.st.row.shape
          have e3 := HS.out
          rw [e1] at e3
          injection e3 with e3 e4 e5
          obtain ⟨g, e6⟩ := e2 (by rw [hb]; simp)
          subst e3 e5 e6
          have hr := hl.st.row
          rw [e1] at hr
          refine ⟨g, rfl, ?_, ?_⟩
          · rw [Row.cell hr m (by rw [hb, hm]; simp)]; simp [hb, hm]
          · exact World.ownsRow.frozenAt hr m
        subst hao
        have HB : Hid (bs1 = bs2 ++ [b] ∧ m = bs2.length) := ⟨hb, hm⟩
        clear hb hm hl
        obtain ⟨f, hf⟩ : ∃ f, c1 + f = 8 * (m + 1) := ⟨8 * (m + 1) - c1, by omega⟩
        have hgp : ¬ p = g := by intro e; have := HL.out.st.ne; rw [HS.out] at this; exact this (by rw [e]; rfl)
        by_cases hfn : f ≤ n1
        · go_wp2
          go_quiet (fail)
          go_wp2_with fail
          go_region
          go_wp2
          have hm : 2 * n1 ≤ gk := by have := HK.out; omega
          go_roundg (2 * n1 - 1)
          case measure => omega
          case rel =>
            have hmf : min f n1 = f := by omega
            exact lays_rel HL.out HS.out HB.out hf (by omega) (by omega) (nq + 1) (by rw [show (m + 1) * 8 - c1 = f by omega]) (by rw [hmf, show (m + 1) * 8 - c1 = f by omega]) (by omega) (by omega) (Nat.le_refl _)
        · go_wp2
          go_quiet (fail)
          go_wp2_with fail
          go_region
          go_wp2
          have hm : 2 * n1 ≤ gk := by have := HK.out; omega
          go_roundg (2 * n1 - 1)
          case measure => omega
          case rel =>
            have hmf : min f n1 = n1 := by omega
            exact lays_rel HL.out HS.out HB.out hf (by omega) (by omega) (nq + 1) (by rw [show (m + 1) * 8 - c1 = f by omega]) (by rw [hmf]) (by omega) (by omega) (Nat.le_refl _)
end Go.Proofs.YtofhlnpbflkdlaaDoor

/-
  The writer's calls.
-/
namespace Go.Proofs.YtofhlnpbflkdlaaDoor
open Go.RowKit

/-- A writer at block p with the bits of the number X, c of them. -/
structure Wr (w : World) (p : Nat) (s : Value) (X c : Nat) : Prop where
  ex : ∃ bs, St w p s bs c ∧ n256 bs = X ∧ c ≤ 8 * bs.length ∧ 8 * bs.length < c + 8
  lt : X < 2 ^ c

/-- Where the bytes lie: where they lay, or in new memory. -/
def Grew (w : World) (s s' : Value) : Prop := s'.ownBlock = s.ownBlock ∨ ∀ k, s'.ownBlock = some k → w.heap.size ≤ k

theorem Wr.kept {F : Nat → Prop} {w w' : World} {p : Nat} {s : Value} {X c : Nat} (h : Wr w p s X c) (hk : Kept F w w') (hn : ∀ k, Fp p s k → ¬ F k) : Wr w' p s X c := by
  obtain ⟨bs, h1, h2⟩ := h.ex
  exact ⟨⟨bs, h1.kept hk hn, h2⟩, h.lt⟩

theorem Wr.fp_lt {w : World} {p : Nat} {s : Value} {X c : Nat} (h : Wr w p s X c) {k : Nat} (hk : Fp p s k) : k < w.heap.size := by
  obtain ⟨bs, h1, _⟩ := h.ex
  exact h1.fp_lt hk

theorem newWriter_any (w : World) :
    Calls Tryd.prog 18 #[] w fun e w' => e = .returned (.pointer (some ⟨w.heap.size, 0, none⟩)) ∧ Wr w' w.heap.size (.slice none 0 0) 0 0 ∧ Kept (fun _ => False) w w' ∧ w'.heap.size = w.heap.size + 1 := by
  go_enter Tryd.func18, Tryd.ntmps18
  go_wp2
  go_ret
  refine ⟨rfl, ⟨⟨[], ⟨by simp, by simp, by simp, by simp, World.ownsRow_nil _ _ _ _, by simp [Value.ownBlock], by simp⟩, rfl, by simp, by simp⟩, by simp⟩, (Kept.refl _ w).alloc _, by simp⟩

set_option maxHeartbeats 400000 in
theorem fits_any (n : Int) (w : World) :
    Calls Tryd.prog 42 #[.int .i64 n] w fun e w' => e = .returned (.bool (decide (0 ≤ n ∧ n ≤ 32))) ∧ w' = w := by
  by_cases h0 : 0 ≤ n
  · by_cases h1 : n ≤ 32
    all_goals
      go_enter Tryd.func42, Tryd.ntmps42
      go_wp2
      go_ret
      exact ⟨by simp [h0, h1], rfl⟩
  · go_enter Tryd.func42, Tryd.ntmps42
    go_wp2
    go_ret
    exact ⟨by simp; omega, rfl⟩

theorem put_nil (v n : Int) (w : World) :
    Calls Tryd.prog 19 #[.pointer none, .int .u32 v, .int .i64 n] w fun e w' => e = .returned (.int .i64 3) ∧ w' = w := by
  go_enter Tryd.func19, Tryd.ntmps19
  go_wp2
  go_ret
  exact ⟨rfl, rfl⟩

set_option maxHeartbeats 400000 in
theorem put_far (p : Nat) (v n : Int) (w : World) (h : ¬ (0 ≤ n ∧ n ≤ 32)) :
    Calls Tryd.prog 19 #[.pointer (some ⟨p, 0, none⟩), .int .u32 v, .int .i64 n] w fun e w' => e = .returned (.int .i64 1) ∧ w' = w := by
  have hd : decide (0 ≤ n ∧ n ≤ 32) = false := by simpa using h
  clear h
  go_enter Tryd.func19, Tryd.ntmps19
  go_wp2_with (go_at_call 42; refine (fits_any _ _).mono ?_; rintro e w' ⟨rfl, rfl⟩; rw [hd])
  go_ret
  exact ⟨rfl, rfl⟩

set_option maxHeartbeats 400000 in
theorem put_wide (p v n : Nat) (w : World) (h : n ≤ 32) (hv : 2 ^ n ≤ v) :
    Calls Tryd.prog 19 #[.pointer (some ⟨p, 0, none⟩), .int .u32 (v : Nat), .int .i64 (n : Nat)] w fun e w' => e = .returned (.int .i64 1) ∧ w' = w := by
  have hd : decide (0 ≤ (n : Int) ∧ (n : Int) ≤ 32) = true := by simp; omega
  have hq : (v : Int) / 2 ^ n ≠ 0 := by
    rw [show ((v : Int) / 2 ^ n) = ((v / 2 ^ n : Nat) : Int) by simp]
    have : 1 ≤ v / 2 ^ n := (Nat.one_le_div_iff (Nat.two_pow_pos _)).2 hv
    omega
  go_enter Tryd.func19, Tryd.ntmps19
  go_wp2_with (go_at_call 42; refine (fits_any _ _).mono ?_; rintro e w' ⟨rfl, rfl⟩; rw [hd])
  go_ret
  exact ⟨rfl, rfl⟩

set_option maxHeartbeats 400000 in
theorem put_good (p v n X c : Nat) (s : Value) (w : World) (h : n ≤ 32) (hv : v < 2 ^ n) (hw : Wr w p s X c) (hc : c ≤ 1000000000000) :
    Calls Tryd.prog 19 #[.pointer (some ⟨p, 0, none⟩), .int .u32 (v : Nat), .int .i64 (n : Nat)] w fun e w' => e = .returned (.int .i64 0) ∧
      ∃ s', Wr w' p s' (X + v * 2 ^ c) (c + n) ∧ Kept (Fp p s) w w' ∧ Grew w s s' := by
  have hd : decide (0 ≤ (n : Int) ∧ (n : Int) ≤ 32) = true := by simp; omega
  have hq : (v : Int) / 2 ^ n = 0 := by
    rw [show ((v : Int) / 2 ^ n) = ((v / 2 ^ n : Nat) : Int) by simp, Nat.div_eq_of_lt hv]; rfl
  obtain ⟨bs, hst, hX, hlo, hhi⟩ := hw.ex
  have HX : Hid (n256 bs = X) := hX
  have HW : Hid (X < 2 ^ c) := hw.lt
  have HC := lay_any w p s bs c v n hst hv h hc hlo hhi (by rw [hX]; exact hw.lt)
  clear hX hw hst hlo hhi
  go_enter Tryd.func19, Tryd.ntmps19
  go_wp2_with (first | (go_at_call 42; refine (fits_any _ _).mono ?_; rintro e w' ⟨rfl, rfl⟩; rw [hd]) | (go_at_call 43; refine HC.mono ?_; rintro e w' ⟨rfl, s', bs', hl⟩))
  go_ret
  refine ⟨rfl, s', ⟨⟨bs', hl.st, ?_, hl.lo, ?_⟩, ?_⟩, hl.kept, hl.own⟩
  · have := hl.sum; rw [HX.out] at this; simpa using this
  · have := hl.hi; have := hl.hn; omega
  · have h1 := hl.sum
    have h2 := hl.hx
    rw [HX.out] at h1
    simp at h1
    omega

set_option maxHeartbeats 400000 in
theorem len_nil (w : World) :
    Calls Tryd.prog 22 #[.pointer none] w fun e w' => e = .returned (.int .i64 0) ∧ w' = w := by
  go_enter Tryd.func22, Tryd.ntmps22
  go_wp2
  go_ret
  exact ⟨rfl, rfl⟩

set_option maxHeartbeats 400000 in
theorem len_any (p : Nat) (c X : Nat) (s : Value) (w : World) (h : Wr w p s X c) :
    Calls Tryd.prog 22 #[.pointer (some ⟨p, 0, none⟩)] w fun e w' => e = .returned (.int .i64 (c : Nat)) ∧ w' = w := by
  obtain ⟨bs, hst, _⟩ := h.ex
  have hcc := hst.cc
  clear h hst
  go_enter Tryd.func22, Tryd.ntmps22
  go_wp2
  go_ret
  exact ⟨rfl, rfl⟩





set_option maxHeartbeats 400000 in
theorem wbytes_nil (w : World) :
    Calls Tryd.prog 24 #[.pointer none] w fun e w' => e = .returned (.slice none 0 0) ∧ w' = w := by
  go_enter Tryd.func24, Tryd.ntmps24
  go_wp2
  go_ret
  exact ⟨rfl, rfl⟩

end Go.Proofs.YtofhlnpbflkdlaaDoor

/-
  The reader's calls; the writer's Bytes; two rows of bytes held against one another.
-/
namespace Go.Proofs.YtofhlnpbflkdlaaDoor
open Go.RowKit

theorem ret_int {k : IntKind} {a b : Int} (h : a = b) : Ending.returned (.int k a) = .returned (.int k b) := by rw [h]

theorem left_nil (w : World) :
    Calls Tryd.prog 29 #[.pointer none] w fun e w' => e = .returned (.int .i64 0) ∧ w' = w := by
  go_enter Tryd.func29, Tryd.ntmps29
  go_wp2
  go_ret
  exact ⟨rfl, rfl⟩

theorem left_any (p c : Nat) (s : Value) (bs : List Nat) (w : World) (h : St w p s bs c) (hc : c ≤ 8 * bs.length) (hlen : bs.length ≤ 100000000000) :
    Calls Tryd.prog 29 #[.pointer (some ⟨p, 0, none⟩)] w fun e w' => e = .returned (.int .i64 ((8 * bs.length - c : Nat) : Int)) ∧ ∃ m, w' = w.drewN m := by
  obtain ⟨ao, cap, hv, _⟩ := h.row.shape
  have hcb := h.cb
  have hcc := h.cc
  rw [hv] at hcb
  clear h hv
  go_enter Tryd.func29, Tryd.ntmps29
  go_wp2
  go_quiet (fail)
  go_wp2
  go_ret
  exact ⟨ret_int (by omega), _, rfl⟩

theorem gone_nil (w : World) :
    Calls Tryd.prog 28 #[.pointer none] w fun e w' => e = .returned (.int .i64 0) ∧ w' = w := by
  go_enter Tryd.func28, Tryd.ntmps28
  go_wp2
  go_ret
  exact ⟨rfl, rfl⟩

theorem gone_any (p c : Nat) (s : Value) (bs : List Nat) (w : World) (h : St w p s bs c) :
    Calls Tryd.prog 28 #[.pointer (some ⟨p, 0, none⟩)] w fun e w' => e = .returned (.int .i64 (c : Nat)) ∧ w' = w := by
  have hcc := h.cc
  clear h
  go_enter Tryd.func28, Tryd.ntmps28
  go_wp2
  go_ret
  exact ⟨rfl, rfl⟩

theorem back_nil (n : Int) (w : World) :
    Calls Tryd.prog 53 #[.pointer none, .int .i64 n] w fun e w' => e = .returned (.int .i64 3) ∧ w' = w := by
  go_enter Tryd.func53, Tryd.ntmps53
  go_wp2
  go_ret
  exact ⟨rfl, rfl⟩

theorem back_bad (p c : Nat) (n : Int) (s : Value) (bs : List Nat) (w : World) (h : St w p s bs c) (hn : n < 0 ∨ (c : Int) < n) :
    Calls Tryd.prog 53 #[.pointer (some ⟨p, 0, none⟩), .int .i64 n] w fun e w' => e = .returned (.int .i64 1) ∧ w' = w := by
  have hcc := h.cc
  clear h
  by_cases h0 : n < 0
  · clear hn
    go_enter Tryd.func53, Tryd.ntmps53
    go_wp2
    go_ret
    exact ⟨rfl, rfl⟩
  · have h1 : (c : Int) < n := by omega
    clear hn
    go_enter Tryd.func53, Tryd.ntmps53
    go_wp2
    go_ret
    exact ⟨rfl, rfl⟩

theorem back_good (p c n : Nat) (s : Value) (bs : List Nat) (w : World) (h : St w p s bs c) (hn : n ≤ c) (hc : c ≤ 1000000000000) :
    Calls Tryd.prog 53 #[.pointer (some ⟨p, 0, none⟩), .int .i64 (n : Nat)] w fun e w' => e = .returned (.int .i64 0) ∧ St w' p s bs (c - n) ∧ Kept (· = p) w w' := by
  have hcc := h.cc
  have hfc := h.fc
  have HS : Hid (St w p s bs c) := h
  clear h
  go_enter Tryd.func53, Tryd.ntmps53
  go_wp2
  go_ret
  refine ⟨rfl, ?_, (Kept.refl _ w).setCell _ _ (.inl rfl)⟩
  have := HS.out.setCount (c - n)
  rw [show ((c - n : Nat) : Int) = (c : Int) - (n : Int) by omega] at this
  exact this





theorem take_nil (n : Int) (w : World) :
    Calls Tryd.prog 31 #[.pointer none, .int .i64 n] w fun e w' => e = .returned (.tuple #[.int .u32 0, .int .i64 3]) ∧ w' = w := by
  go_enter Tryd.func31, Tryd.ntmps31
  go_wp2
  go_ret2
  exact ⟨rfl, rfl⟩

theorem take_far (p : Nat) (n : Int) (w : World) (h : ¬ (0 ≤ n ∧ n ≤ 32)) :
    Calls Tryd.prog 31 #[.pointer (some ⟨p, 0, none⟩), .int .i64 n] w fun e w' => e = .returned (.tuple #[.int .u32 0, .int .i64 1]) ∧ w' = w := by
  have hd : decide (0 ≤ n ∧ n ≤ 32) = false := by simpa using h
  clear h
  go_enter Tryd.func31, Tryd.ntmps31
  go_wp2_with (go_at_call 42; refine (fits_any _ _).mono ?_; rintro e w' ⟨rfl, rfl⟩; rw [hd])
  go_ret2
  exact ⟨rfl, rfl⟩

set_option maxHeartbeats 400000 in
theorem take_end (p c n : Nat) (s : Value) (bs : List Nat) (w : World) (h : St w p s bs c) (hc : c ≤ 8 * bs.length) (hlen : bs.length ≤ 100000000000) (hn : n ≤ 32) (hm : 8 * bs.length < c + n) :
    Calls Tryd.prog 31 #[.pointer (some ⟨p, 0, none⟩), .int .i64 (n : Nat)] w fun e w' => e = .returned (.tuple #[.int .u32 0, .int .i64 10]) ∧ ∃ m, w' = w.drewN m := by
  have hd : decide (0 ≤ (n : Int) ∧ (n : Int) ≤ 32) = true := by simp; omega
  have hh : ((8 * bs.length - c : Nat) : Int) < (n : Int) := by omega
  have HC := left_any p c s bs w h hc hlen
  obtain ⟨q, hq⟩ : ∃ q, q = 8 * bs.length - c := ⟨_, rfl⟩
  rw [← hq] at HC hh
  clear h hc hlen hm hq
  go_enter Tryd.func31, Tryd.ntmps31
  go_wp2_with (first | (go_at_call 42; refine (fits_any _ _).mono ?_; rintro e w' ⟨rfl, rfl⟩; rw [hd]) | (go_at_call 29; refine HC.mono ?_; rintro e w' ⟨rfl, mq, rfl⟩))
  go_ret2
  exact ⟨rfl, _, rfl⟩

set_option maxHeartbeats 400000 in
theorem take_good (p c n : Nat) (s : Value) (bs : List Nat) (w : World) (h : St w p s bs c) (hlen : bs.length ≤ 100000000000) (hn : n ≤ 32) (hm : c + n ≤ 8 * bs.length) :
    Calls Tryd.prog 31 #[.pointer (some ⟨p, 0, none⟩), .int .i64 (n : Nat)] w fun e w' => e = .returned (.tuple #[.int .u32 (n256 bs / 2 ^ c % 2 ^ n : Nat), .int .i64 0]) ∧
      St w' p s bs (c + n) ∧ Kept (· = p) w w' := by
  have hd : decide (0 ≤ (n : Int) ∧ (n : Int) ≤ 32) = true := by simp; omega
  have hh : ¬ ((8 * bs.length - c : Nat) : Int) < (n : Int) := by omega
  have HC := left_any p c s bs w h (by omega) hlen
  have HD := fun m => cut_any (w.drewN m) p s bs c n (h.drewN m) hn hm hlen
  obtain ⟨q, hq⟩ : ∃ q, q = 8 * bs.length - c := ⟨_, rfl⟩
  rw [← hq] at HC hh
  clear h hlen hm hq
  go_enter Tryd.func31, Tryd.ntmps31
  go_wp2_with (first | (go_at_call 42; refine (fits_any _ _).mono ?_; rintro e w' ⟨rfl, rfl⟩; rw [hd]) | (go_at_call 29; refine HC.mono ?_; rintro e w' ⟨rfl, mq, rfl⟩) | (go_at_call 54; refine (HD mq).mono ?_; rintro e w' ⟨rfl, hs', hk'⟩))
  go_ret2
  exact ⟨rfl, hs', ⟨hk'.os, hk'.tape, hk'.output, hk'.size, hk'.block⟩⟩



set_option maxHeartbeats 400000 in
theorem newReader_any (v : Value) (I : Nat → Prop) (cs : List Nat) (w : World) (h : Src w I v cs) (hlen : cs.length ≤ 100000000000) (hb : ∀ b ∈ cs, b < 256) :
    Calls Tryd.prog 30 #[v] w fun e w' => ∃ p s, e = .returned (.pointer (some ⟨p, 0, none⟩)) ∧ St w' p s cs 0 ∧ Kept (fun _ => False) w w' ∧ (∀ k, Fp p s k → w.heap.size ≤ k) := by
  obtain ⟨ao, cap, rfl, hsrc⟩ := id h
  have HS : Hid (Src w I (.slice ao cs.length cap) cs) := h
  clear h hsrc
  go_enter Tryd.func30, Tryd.ntmps30
  go_wp2_with (first | (at_make; refine wpList_make_bytes _ rfl _ _ rfl _ _ _ _ cs.length rfl rfl rfl rfl (by omega) ?_; intro w1 hr1 hg1 hs1; have HR : Hid (Row w1 (.slice (some ⟨w.heap.size, 0, none⟩) cs.length cs.length) (List.replicate cs.length 0)) := hr1; have HK : Hid (Kept (fun _ => False) w w1) := (Kept.refl _ w).grown hg1 (by simp); clear hr1 hg1) | (with_reducible refine atCopy ?_; refine wpList_copy_bytes _ rfl (.tmp 12) (.tmp 13) rfl w.heap.size cs.length cs.length ao cs.length cap (List.replicate cs.length 0) cs I rfl rfl (World.ownsRow.alloc HR.out _) (HS.out.kept (HK.out.alloc _) (fun _ _ _ h => h)) (by simp) ?_; intro w2 hr2 hg2 hs2))
  go_ret
  have hk2 : Kept (· = w.heap.size) (w1.alloc (.cells #[.slice (some ⟨w.heap.size, 0, none⟩) cs.length cs.length, .int .i64 0] 84)) w2 := (Kept.refl _ _).grown hg2 (fun k e => .inl (by simpa using e.symm))
  have hne : ¬ w1.heap.size = w.heap.size := by omega
  refine ⟨w1.heap.size, .slice (some ⟨w.heap.size, 0, none⟩) cs.length cs.length, rfl, ⟨hk2.cell (by simp) hne, hk2.cell (by simp) hne, (hk2.frozen (by simp) hne).trans (by simp), (hk2.frozen (by simp) hne).trans (by simp), ?_, by simp [Value.ownBlock]; omega, hb⟩, ?_, ?_⟩
  · simpa using hr2
  · exact Kept.trans (H := fun _ => False) (HK.out.alloc _) hk2 (fun _ _ h => h) (fun x hx e => by omega)
  · intro k hk
    rcases hk with rfl | hk
    · exact HK.out.size
    · simp [Value.ownBlock] at hk; omega

set_option maxHeartbeats 400000 in
theorem wbytes_any (p X c : Nat) (s : Value) (w : World) (h : Wr w p s X c) (hc : c ≤ 100000000000) :
    Calls Tryd.prog 24 #[.pointer (some ⟨p, 0, none⟩)] w fun e w' => ∃ g bs, e = .returned (.slice (some ⟨g, 0, none⟩) bs.length bs.length) ∧ Row w' (.slice (some ⟨g, 0, none⟩) bs.length bs.length) bs ∧ (∀ b ∈ bs, b < 256) ∧
      n256 bs = X ∧ bs.length = (c + 7) / 8 ∧ Kept (fun _ => False) w w' ∧ w.heap.size ≤ g := by
  obtain ⟨bs, hst, hX, hlo, hhi⟩ := h.ex
  obtain ⟨ao, cap, hv, _⟩ := hst.row.shape
  have hcb := hst.cb
  have hcb1 : ∀ w1, Kept (fun _ => False) w w1 → w1.cell? ⟨p, 0, none⟩ = some (.slice ao bs.length cap) := fun w1 hk => hk.cell (by rw [hcb, hv]) (fun h => h)
  rw [hv] at hcb
  have HS : Hid (Src w (fun k => (Value.slice ao bs.length cap).ownBlock = some k) (.slice ao bs.length cap) bs) := by have := Src.ofRow hst.row; rw [hv] at this; exact this
  have HB : Hid (∀ b ∈ bs, b < 256) := hst.byte
  have HX : Hid (n256 bs = X) := hX
  have hlen : bs.length ≤ 100000000000 := by omega
  have HL : Hid (bs.length = (c + 7) / 8) := by show _ = _; omega
  clear h hst hX hlo hhi hc hv
  go_enter Tryd.func24, Tryd.ntmps24
  go_wp2_with (first | (at_make; refine wpList_make_bytes _ rfl _ _ rfl _ _ _ _ bs.length rfl rfl rfl rfl (by omega) ?_; intro w1 hr1 hg1 hs1; have HR : Hid (Row w1 (.slice (some ⟨w.heap.size, 0, none⟩) bs.length bs.length) (List.replicate bs.length 0)) := hr1; have HK : Hid (Kept (fun _ => False) w w1) := (Kept.refl _ w).grown hg1 (by simp); have hcb2 := hcb1 w1 HK.out; clear hr1 hg1) | (with_reducible refine atCopy ?_; refine wpList_copy_bytes _ rfl (.tmp 12) (.tmp 16) rfl w.heap.size bs.length bs.length ao bs.length cap (List.replicate bs.length 0) bs _ rfl rfl HR.out (HS.out.kept HK.out (fun _ _ _ h => h)) (by simp) ?_; intro w2 hr2 hg2 hs2))
  go_ret
  refine ⟨w.heap.size, bs, rfl, by simpa using hr2, HB.out, HX.out, HL.out, ?_, Nat.le_refl _⟩
  refine HK.out.grown hg2 (fun k e => .inr ?_)
  simp at e; omega



end Go.Proofs.YtofhlnpbflkdlaaDoor

/-
  The reference's calls on rows of bits; what is written over.
-/
namespace Go.Proofs.YtofhlnpbflkdlaaDoor
open Go.RowKit

/-- A row that came from another row by appending: what is known of it. -/
structure Grows (w w' : World) (v v' : Value) (bs : List Nat) : Prop where
  row : Row w' v' bs
  kept : Kept (fun k => v.ownBlock = some k) w w'
  own : Grew w v v'

theorem Grows.refl {w : World} {v : Value} {bs : List Nat} (h : Row w v bs) : Grows w w v v bs := ⟨h, Kept.refl _ _, .inl rfl⟩

/-- One byte more. -/
theorem Grows.app {w wr w1 : World} {v v1 v' : Value} {bs : List Nat} {x : Nat} {o : Obj} (h : Grows w wr v v1 bs) (hrow : Row w1 v' (bs ++ [x])) (hg : (wr.alloc o).grownBy w1 v1.ownBlock) (ho : v'.ownBlock = v1.ownBlock ∨ v'.ownBlock = some (wr.alloc o).heap.size) : Grows w w1 v v' (bs ++ [x]) := by
  have hsz := h.kept.size
  refine ⟨hrow, ?_, ?_⟩
  · refine Kept.grown (h.kept.alloc o) hg (fun k e => ?_)
    rcases h.own with e' | e'
    · exact .inl (by rw [← e', e])
    · exact .inr (e' k e)
  · rcases ho with e | e
    · rcases h.own with e' | e'
      · exact .inl (by rw [e, e'])
      · exact .inr (fun k hk => e' k (by rw [← e, hk]))
    · refine .inr (fun k hk => ?_)
      rw [e] at hk
      simp at hk
      omega



/-- How many noughts Align lays. -/
def gap (n : Nat) : Nat := (n + 7) / 8 * 8 - n



end Go.Proofs.YtofhlnpbflkdlaaDoor

/-
  The reference's Bytes; what is written over.
-/
namespace Go.Proofs.YtofhlnpbflkdlaaDoor
open Go.RowKit

theorem Grows.ofNil {w wr : World} {v v' : Value} {bs : List Nat} (h : Grows w wr v v' bs) (hv : v.ownBlock = none) : Kept (fun _ => False) w wr ∧ ∀ k, v'.ownBlock = some k → w.heap.size ≤ k := by
  refine ⟨h.kept.mono (fun x _ e => by rw [hv] at e; cases e), fun k hk => ?_⟩
  rcases h.own with e | e
  · rw [e, hv] at hk; cases hk
  · exact e k hk



/-- A byte of a row is written. -/
theorem Row.set {w : World} {g n cap : Nat} {ds : List Nat} (h : Row w (.slice (some ⟨g, 0, none⟩) n cap) ds) (j x : Nat) : Row (w.setCell ⟨g, j, none⟩ (.int .u8 x)) (.slice (some ⟨g, 0, none⟩) n cap) (ds.set j x) := by
  have hl : ds.length = n := by
    rcases h.2 with ⟨e, _⟩ | ⟨_, _, _, e, _⟩
    · simp at e
    · injection e with _ e _; exact e.symm
  subst hl
  have := (World.ownsRow.stored h j (.int .u8 x)).1
  rw [show (Value.int .u8 x) = byteV x from rfl, ← List.map_set] at this
  unfold Row
  rw [List.length_set]
  exact this



end Go.Proofs.YtofhlnpbflkdlaaDoor

/-
  What is lent and comes back; a reader's More; the bits of bytes.
-/
namespace Go.Proofs.YtofhlnpbflkdlaaDoor
open Go.RowKit

/-- append of whatever source of bytes. -/
theorem wpList_append_src {ops : Array Oper} {rest : List Oper} {o : Oper} {a : Act} {Q : Exit → Act → World → Prop} (w : World) (hgd : o.guard = none) (s x : Operand)
    (ho : o.op = .call { callee := .builtin .append, args := #[s, x], argTypes := #[43, 43] })
    (v : Value) (bs : List Nat) (hs : a.eval s = v) (hrow : Row w v bs) (I : Nat → Prop) (xv : Value) (cs : List Nat) (hx : a.eval x = xv) (hnil : ∀ n c, xv = .slice none n c → n = 0 ∧ c = 0) (hsrc : Src w I xv cs) (hlen : bs.length + cs.length ≤ 1000000000000)
    (h : ∀ v' w', Row w' v' (bs ++ cs) → w.grownBy w' v.ownBlock → (v'.ownBlock = v.ownBlock ∨ v'.ownBlock = some w.heap.size) → wpList Tryd.prog ops Q rest (a.put o.dst v') w') : wpList Tryd.prog ops Q (o :: rest) a w := by
  obtain ⟨ao, cap, rfl, hc⟩ := id hsrc
  cases ao with
  | some ad =>
    refine wpList_append_row w hgd s x ho v bs hs hrow ad cs.length cap cs hx rfl ?_ hlen h
    by_cases h0 : cs = []
    · subst h0; intro j u hu; simp at hu
    · obtain ⟨a', e, hb⟩ := (Src.at hsrc).2 h0
      injection e with e
      subst e
      exact hb
  | none =>
    obtain ⟨h0, h1⟩ := hnil _ _ rfl
    have hcs : cs = [] := List.eq_nil_of_length_eq_zero h0
    subst hcs h1
    obtain ⟨i0, hi, hz0, hz1, hz2⟩ := info_parts Tryd.info8
    refine wpList_plain hgd fun K hK => ?_
    have hr := run_append_owned_none (P := Tryd.prog) w 0 43 o.type 5 i0 1 Tryd.underlying43 hi v bs.length (bs.map byteV) hrow
    unfold Oper.wp execOp
    simp only [ho, resolve, invoke, builtin, Sem.run_bind, Sem.run_pure, Result.andThen_ok, List.map_toArray, List.map_cons, List.map_nil, hs, hx, List.length_nil, hr]
    exact hK _ _ (h v w (by simpa using hrow) (World.grownBy.refl _ _) (.inl rfl))







end Go.Proofs.YtofhlnpbflkdlaaDoor

/-
  The reference's Of and Number.
-/
namespace Go.Proofs.YtofhlnpbflkdlaaDoor
open Go.RowKit

set_option maxHeartbeats 2000000 in
theorem refOf_any (w : World) (v : Value) (I : Nat → Prop) (cs : List Nat) (hsrc : Src w I v cs) (hlen : cs.length ≤ 100000000) (hb : ∀ b ∈ cs, b < 256) :
    Calls Tryd.prog 23 #[v] w fun e w' => ∃ v', e = .returned v' ∧ Grows w w' (.slice none 0 0) v' (ofBytes cs) := by
  obtain ⟨ao, cap, rfl, _⟩ := id hsrc
  have HS : Hid (Src w I (.slice ao cs.length cap) cs) := hsrc
  have HB : Hid (∀ b ∈ cs, b < 256) := hb
  clear hsrc hb
  go_enter Tryd.func23, Tryd.ntmps23
  go_wp2
  go_loopg [3, 4] cs.length (fun k x y wr => ∃ j : Nat, j ≤ cs.length ∧ cs.length - j ≤ k ∧ y = .int .i64 (j : Nat) ∧ Grows w wr (.slice none 0 0) x (ofBytes (cs.take j)))
  case atStart => exact ⟨0, by omega, by omega, rfl, Grows.refl (World.ownsRow_nil _ _ _ _)⟩
  case round =>
    obtain ⟨j, hj, hjk, rfl, hg⟩ := hrel
    have HG : Hid (Grows w wr (.slice none 0 0) u3 (ofBytes (cs.take j))) := hg
    have hk0 := (hg.ofNil rfl).1
    have HS2 : Hid (Src wr I (.slice ao cs.length cap) cs) := HS.out.kept hk0 (fun _ _ _ e => e)
    clear hg hk0
    by_cases hlt : j < cs.length
    · obtain ⟨b, o, rfl, _, hcell⟩ : ∃ b o, ao = some ⟨b, o, none⟩ ∧ True ∧ wr.cell? ⟨b, o + j, none⟩ = some (.int .u8 (cs[j] : Nat)) := by
        obtain ⟨ao', cap', e1, e2⟩ := HS2.out
        injection e1 with e3 _ _
        subst e3
        obtain ⟨b, o, e4, _, e5⟩ := e2 (by intro e; rw [e] at hlt; simp at hlt)
        exact ⟨b, o, e4, trivial, e5 j hlt⟩
      obtain ⟨x, hx⟩ : ∃ x, x = cs[j] := ⟨_, rfl⟩
      have hx2 : x < 256 := by rw [hx]; exact HB.out _ (List.getElem_mem _)
      rw [← hx] at hcell
      have HX : Hid (ofBytes (cs.take (j + 1)) = ofBytes (cs.take j) ++ bitsOf x 8) := by
        show _ = _
        rw [List.take_succ_eq_append_getElem hlt, ofBytes_append, hx]; simp [ofBytes]
      obtain ⟨ps, hps⟩ : ∃ ps, ps = ofBytes (cs.take j) := ⟨_, rfl⟩
      have hpl : ps.length ≤ 800000000 := by rw [hps, ofBytes_length, List.length_take]; omega
      have HG2 : Hid (Grows w wr (.slice none 0 0) u3 ps) := by rw [hps]; exact HG.out
      have HX2 : Hid (ofBytes (cs.take (j + 1)) = ps ++ bitsOf x 8) := by rw [hps]; exact HX.out
      clear hx hps HG HX
      obtain ⟨g0, hg0⟩ : ∃ g0, g0 = gk := ⟨_, rfl⟩
      subst hg0
      go_wp2_with fail
      go_loopg [3, 5, 6] 8 (fun k x3 x5 x6 wx => ∃ t u : Nat, t ≤ 8 ∧ 8 - t ≤ k ∧ x6 = .int .i64 (t : Nat) ∧ x5 = .int .u8 (u : Nat) ∧ u = x / 2 ^ t ∧ Grows w wx (.slice none 0 0) x3 (ps ++ bitsOf x t))
      case atStart => exact ⟨0, x, by omega, by omega, rfl, rfl, by simp, by simpa [bitsOf] using HG2.out⟩
      case round =>
        obtain ⟨t, u, ht, htk, rfl, rfl, hu, hg⟩ := hrel
        have HU : Hid (u = x / 2 ^ t) := hu
        have hu2 : u < 256 := by rw [hu]; exact Nat.lt_of_le_of_lt (Nat.div_le_self _ _) hx2
        have HG3 : Hid (Grows w wr (.slice none 0 0) u3 (ps ++ bitsOf x t)) := hg
        have HL2 : Hid ((ps ++ bitsOf x t).length + [u % 2].length ≤ 1000000000000) := by show _ ≤ _; rw [List.length_append, bitsOf_length]; simp; omega
        clear hu hg HG2 hcell
        by_cases hlt2 : t < 8
        · go_wp2_with (at_builtin; refine wpList_append_row _ rfl (.tmp 21) (.tmp 24) rfl u3 (ps ++ bitsOf x t) rfl (World.ownsRow.alloc HG3.out.row _) ⟨wr.heap.size, 0, none⟩ 1 1 [u % 2] rfl rfl (bytesAt_int _ _ _ (by omega)) HL2.out ?_)
          intro v' w1 hrow hgr hv'
          have R : Hid (Grows w w1 (.slice none 0 0) v' (ps ++ bitsOf x (t + 1))) := by
            have h := HG3.out.app (x := u % 2) (by rw [List.append_assoc]; exact hrow) hgr (by simpa using hv')
            rw [List.append_assoc, HU.out] at h
            exact h
          clear hrow hgr hv' HL2
          go_wp2_with fail
          go_roundg (gk - 1)
          case measure => omega
          case rel => exact ⟨t + 1, u / 2, by omega, by omega, by go_num, by go_num, by rw [HU.out, Nat.div_div_eq_div_mul, ← Nat.pow_succ], R.out⟩
        · have ht8 : t = 8 := by omega
          subst ht8
          clear HL2
          go_wp2_with fail
          go_roundg (g0 - 1)
          case measure => omega
          case rel => exact ⟨j + 1, by omega, by omega, by go_num, by rw [HX2.out]; exact HG3.out⟩
    · have hjl : j = cs.length := by omega
      go_wp2_with fail
      go_ret
      have h := HG.out
      rw [List.take_of_length_le (by omega)] at h
      exact ⟨_, rfl, h⟩

set_option maxHeartbeats 1000000 in
theorem refNumber_any (w : World) (v : Value) (I : Nat → Prop) (ls : List Nat) (hsrc : Src w I v ls) (hb : ∀ b ∈ ls, b < 2) (a n : Nat) (hn : n ≤ 32) (hl : a + n ≤ ls.length) (hlen : ls.length ≤ 1000000000000) :
    Calls Tryd.prog 64 #[v, .int .i64 (a : Nat), .int .i64 (n : Nat)] w fun e w' => e = .returned (.int .u32 (n2 ls / 2 ^ a % 2 ^ n : Nat)) ∧ w' = w := by
  obtain ⟨ao, cap, rfl, hsa⟩ := id hsrc
  rw [← n2_part ls hb a n hl]
  have HSA : Hid (ls ≠ [] → ∃ b o, ao = some ⟨b, o, none⟩ ∧ I b ∧ ∀ j (_ : j < ls.length), w.cell? ⟨b, o + j, none⟩ = some (.int .u8 (ls[j] : Nat))) := hsa
  have HB : Hid (∀ b ∈ ls, b < 2) := hb
  obtain ⟨R, hR⟩ : ∃ R, R = n2 ((ls.drop a).take n) := ⟨_, rfl⟩
  rw [← hR]
  have HR : Hid (R = n2 ((ls.drop a).take n)) := hR
  clear hsrc hsa hb hR
  go_enter Tryd.func64, Tryd.ntmps64
  go_wp2
  go_loopg [7, 8] n (fun k x y wr => ∃ (i X : Nat), i ≤ n ∧ i ≤ k ∧ y = .int .i64 ((i : Int) - 1) ∧ x = .int .u32 (X : Nat) ∧ X = n2 ((ls.drop (a + i)).take (n - i)) ∧ wr = w)
  case atStart => exact ⟨n, 0, by omega, by omega, rfl, rfl, by simp [n2], rfl⟩
  case round =>
    obtain ⟨i, X, hi, hik, rfl, rfl, hX, rfl⟩ := hrel
    have HX : Hid (X = n2 ((ls.drop (a + i)).take (n - i))) := hX
    by_cases h0 : i = 0
    · have H0 : Hid (i = 0) := h0
      have hneg : (i : Int) - 1 < 0 := by omega
      clear hX h0
      go_wp2
      go_ret
      refine ⟨?_, rfl⟩
      have : X = R := by rw [HX.out, HR.out, H0.out]; simp
      subst this
      rfl
    · obtain ⟨t, ht⟩ : ∃ t, i = t + 1 := ⟨i - 1, by omega⟩
      subst ht
      have hat : a + t < ls.length := by omega
      obtain ⟨b, o, rfl, _, hcell⟩ := HSA.out (by intro e; rw [e] at hat; simp at hat)
      have hc := hcell (a + t) hat
      obtain ⟨x, hx⟩ : ∃ x, x = ls[a + t] := ⟨_, rfl⟩
      have hx2 : x < 2 := by rw [hx]; exact HB.out _ (List.getElem_mem _)
      rw [← hx] at hc
      have hXb : X < 2147483648 := by
        rw [hX]
        exact Nat.lt_of_lt_of_le (n2_take_lt ls HB.out _ _) (Nat.le_trans (Nat.pow_le_pow_right (by omega) (show n - (t + 1) ≤ 31 by omega)) (by decide))
      have HN : Hid (2 * X + x = n2 ((ls.drop (a + t)).take (n - t))) := by
        show _ = _
        rw [show n - t = (n - (t + 1)) + 1 by omega, List.drop_eq_getElem_cons hat, List.take_succ_cons, n2, ← hx, hX, show a + t + 1 = a + (t + 1) by omega]
        omega
      clear hX hcell hx
      go_wp2
      go_roundg t
      case measure => omega
      case rel => exact ⟨t, 2 * X + x, by omega, by omega, by go_num, by go_num, HN.out, rfl⟩

end Go.Proofs.YtofhlnpbflkdlaaDoor

/-
  The reference's head: take, step.
-/
namespace Go.Proofs.YtofhlnpbflkdlaaDoor
open Go.RowKit

abbrev HdB (w : World) (h : Nat) (v : Value) (c e : Nat) : Prop := Blk w h #[v, .int .i64 (c : Nat), .int .i64 (e : Nat)] 76

/-- A number is taken: what is told, the place, the error. -/
def hTake (ls : List Nat) (c e n : Nat) : Nat × Nat × Nat :=
  if e ≠ 0 then (0, c, e) else if ls.length < c + n then (0, c, 10) else (numAt ls c n, c + n, 0)

set_option maxRecDepth 100000 in
set_option maxHeartbeats 2000000 in
theorem htake_any (w : World) (h : Nat) (v : Value) (I : Nat → Prop) (ls : List Nat) (c e n : Nat) (hH : HdB w h v c e) (hs : Src w I v ls) (hb : ∀ b ∈ ls, b < 2) (hn : n ≤ 32) (hc : c ≤ ls.length) (hlen : ls.length ≤ 1000000000) :
    Calls Tryd.prog 48 #[.pointer (some ⟨h, 0, none⟩), .int .i64 (n : Nat)] w fun r w' => r = .returned (.int .i64 ((hTake ls c e n).1 : Nat)) ∧ HdB w' h v (hTake ls c e n).2.1 (hTake ls c e n).2.2 ∧ Kept (· = h) w w' := by
  obtain ⟨ao, cap, rfl, hsa⟩ := id hs
  have c0 := hH.cell 0
  have c1 := hH.cell 1
  have c2 := hH.cell 2
  have f1 := hH.frozen 1
  have f2 := hH.frozen 2
  simp at c0 c1 c2
  have HH : Hid (HdB w h (.slice ao ls.length cap) c e) := hH
  have HS : Hid (Src w I (.slice ao ls.length cap) ls) := hs
  have HB : Hid (∀ b ∈ ls, b < 2) := hb
  obtain ⟨M, hM⟩ : ∃ M, M = ls.length := ⟨_, rfl⟩
  rw [← hM] at c0 HH HS hc hlen
  have HM : Hid (M = ls.length) := hM
  clear hs hsa hb hH
  by_cases he : e = 0
  · subst he
    obtain ⟨d, hd⟩ : ∃ d, d = M - c := ⟨_, rfl⟩
    have hdI : (M : Int) - (c : Int) = (d : Int) := by omega
    have hwd : IntKind.i64.wrap (d : Int) = (d : Int) := by rw [IntKind.wrap_i64]; omega
    by_cases hdn : d < n
    · have HE : Hid (hTake ls c 0 n = (0, c, 10)) := hid (by unfold hTake; rw [if_neg (by simp), if_pos (by omega)])
      clear hd hM
      go_enter Tryd.func48, Tryd.ntmps48
      go_wp2_with fail
      go_quiet (fail)
      go_wp2_with fail
      go_ret
      rw [HE.out]
      refine ⟨rfl, ?_, ((Kept.refl (· = h) w).drewN _).setCell ⟨h, 2, none⟩ _ (.inl rfl)⟩
      have hb := (HH.out.drewN nq).set 2 (.int .i64 10)
      rw [HM.out] at hb
      simp at hb
      exact hb
    · have hdd : decide (d < n) = false := by simp; omega
      have hfit : c + n ≤ M := by omega
      obtain ⟨x, hx⟩ : ∃ x, x = numAt ls c n := ⟨_, rfl⟩
      have HE : Hid (hTake ls c 0 n = (x, c + n, 0)) := hid (by unfold hTake; rw [if_neg (by simp), if_neg (by omega), hx])
      have HNB : ∀ wx : World, Src wx I (.slice ao M cap) ls → Calls Tryd.prog 64 #[.slice ao M cap, .int .i64 (c : Nat), .int .i64 (n : Nat)] wx fun e w' => e = .returned (.int .u32 (x : Nat)) ∧ w' = wx := by
        intro wx hsx
        have h1 := refNumber_any wx _ I ls hsx HB.out c n hn (by omega) (by omega)
        rw [← n2_part ls HB.out c n (by omega)] at h1
        have e1 : n2 ((ls.drop c).take n) = x := hx.symm
        rw [e1] at h1
        exact h1
      have hx32 : x < 4294967296 := by
        rw [hx]
        exact Nat.lt_of_lt_of_le (numAt_lt ls HB.out c n) (Nat.le_trans (Nat.pow_le_pow_right (by omega) hn) (by decide))
      obtain ⟨cn, hcn⟩ : ∃ cn, cn = c + n := ⟨_, rfl⟩
      have hcnI : (c : Int) + (n : Int) = (cn : Int) := by omega
      have HCN : Hid (cn = c + n) := hcn
      have hcnle : cn ≤ 1000000000 := by omega
      clear hd hM hx hcn hdn hfit
      go_enter Tryd.func48, Tryd.ntmps48
      go_wp2_with fail
      go_quiet (fail)
      go_wp2_with fail
      have HS1 : Hid (Src (w.drewN nq) I (.slice ao M cap) ls) := hid (HS.out.kept ((Kept.refl (fun _ => False) w).drewN nq) (fun _ _ _ f => f))
      have HH1 : Hid (HdB (w.drewN nq) h (.slice ao M cap) c 0) := hid (HH.out.drewN nq)
      have HK1 : Hid (Kept (· = h) w (w.drewN nq)) := hid ((Kept.refl (· = h) w).drewN nq)
      generalize w.drewN nq = w1 at *
      have c0 := HH1.out.cell 0
      have c1 := HH1.out.cell 1
      have f1 := HH1.out.frozen 1
      simp at c0 c1
      have HN1 := fun q => HNB (w1.drewN q) (HS1.out.kept ((Kept.refl (fun _ => False) w1).drewN q) (fun _ _ _ f => f))
      go_quiet ((go_at_call 64; exact Calls.quiet_of_same (HN1 _)))
      go_wp2_with fail
      go_ret
      rw [HE.out, ← HCN.out]
      refine ⟨rfl, ?_, (HK1.out.drewN _).setCell ⟨h, 1, none⟩ _ (.inl rfl)⟩
      have hb := (HH1.out.drewN nq).set 1 (.int .i64 (cn : Nat))
      rw [HM.out] at hb
      simp at hb
      exact hb
  · have HE : Hid (hTake ls c e n = (0, c, e)) := hid (by unfold hTake; rw [if_pos he])
    have hed : ((e : Int) != 0) = true := by simp; omega
    have hed2 : ((e : Int) == 0) = false := by simp; omega
    clear he hM
    go_enter Tryd.func48, Tryd.ntmps48
    go_wp2_with fail
    go_quiet (fail)
    go_wp2_with fail
    go_ret
    rw [HE.out]
    refine ⟨rfl, ?_, (Kept.refl (· = h) w).drewN _⟩
    have hb := HH.out.drewN nq
    rw [HM.out] at hb
    exact hb

end Go.Proofs.YtofhlnpbflkdlaaDoor

/-
  The reference's head: step.
-/
namespace Go.Proofs.YtofhlnpbflkdlaaDoor
open Go.RowKit

theorem RW.kept {F : Nat → Prop} {w0 w' w2 : World} {go n : Nat} {ns : List Nat} {p : Nat → Prop} {rs : List (Option Addr × Nat × Nat)} (h : RW w0 w' go n ns p rs) (hk : Kept F w' w2) (h1 : ∀ k, k < w0.heap.size → ¬ F k) (h2 : ¬ F go) (h3 : ∀ s (hs : s < rs.length), p s → ∀ k, (slV rs[s]).ownBlock = some k → ¬ F k) : RW w0 w2 go n ns p rs :=
  ⟨h.row.kept hk (fun k e => by simp [Value.ownBlock] at e; subst e; exact h2), fun s hs hp => ⟨(h.have' s hs hp).1.kept hk (fun k e => h3 s hs hp k e), (h.have' s hs hp).2⟩, h.none', Same.then h.same hk h1⟩

/-- The blocks of the rows lie apart from one. -/
def RowsOff (w0 : World) (go : Nat) (ns : List Nat) (rs : List (Option Addr × Nat × Nat)) (h : Nat) : Prop := w0.heap.size ≤ h ∧ go ≠ h ∧ ∀ s (hs : s < rs.length), key ns s ≠ 0 → (slV rs[s]).ownBlock ≠ some h

theorem RW.off {w0 w' w2 : World} {go n h : Nat} {ns : List Nat} {rs : List (Option Addr × Nat × Nat)} (hr : RW w0 w' go n ns (fun s => key ns s ≠ 0) rs) (ho : RowsOff w0 go ns rs h) (hk : Kept (· = h) w' w2) : RW w0 w2 go n ns (fun s => key ns s ≠ 0) rs :=
  hr.kept hk (fun k hk e => by have := ho.1; omega) ho.2.1 (fun s hs hp k e e2 => by subst e2; exact ho.2.2 s hs hp e)

/-- A step's answer. -/
def StepA (h : Nat) (v : Value) (w' : World) (r : Ending) : Except Nat ((Nat × Nat) × Nat) → Prop
  | .error er => ∃ (a b : Int) (c : Nat), r = .returned (.agg #[.int .i64 a, .int .i64 b]) ∧ HdB w' h v c er ∧ er ≠ 0
  | .ok ((s, x), c) => r = .returned (.agg #[.int .i64 (s : Nat), .int .i64 (x : Nat)]) ∧ HdB w' h v c 0

theorem stepA_of {h : Nat} {v : Value} {wF : World} {r : Ending} {ns ls : List Nat} {c is k x c2 e2 : Nat} (hnf : nextF ns (ls.drop c) = (is, k, 0)) (ht : hTake ls (c + k) 0 (xbits is) = (x, c2, e2)) (hr : r = .returned (.agg #[.int .i64 (is : Nat), .int .i64 (x : Nat)])) (hh : HdB wF h v c2 e2) : StepA h v wF r (stepF ns ls c) := by
  unfold stepF
  rw [hnf]
  simp only
  unfold hTake at ht
  rw [if_neg (by simp)] at ht
  rw [if_neg (by simp)]
  by_cases hl : ls.length < c + k + xbits is
  · rw [if_pos hl] at ht ⊢
    simp only [Prod.mk.injEq] at ht
    obtain ⟨rfl, rfl, rfl⟩ := ht
    exact ⟨_, _, _, hr, hh, by decide⟩
  · rw [if_neg hl] at ht ⊢
    simp only [Prod.mk.injEq] at ht
    obtain ⟨rfl, rfl, rfl⟩ := ht
    exact ⟨hr, hh⟩

theorem stepA_err {h : Nat} {v : Value} {wF : World} {r : Ending} {ns ls : List Nat} {c is k g c2 : Nat} (hnf : nextF ns (ls.drop c) = (is, k, g)) (hg : g ≠ 0) (a b : Int) (hr : r = .returned (.agg #[.int .i64 a, .int .i64 b])) (hh : HdB wF h v c2 g) : StepA h v wF r (stepF ns ls c) := by
  unfold stepF
  rw [hnf]
  simp only
  rw [if_pos hg]
  exact ⟨a, b, c2, hr, hh, hg⟩

set_option maxRecDepth 100000 in
set_option maxHeartbeats 4000000 in
theorem hstep_any (w w0 : World) (h : Nat) (v : Value) (I : Nat → Prop) (ls : List Nat) (c go L : Nat) (ns : List Nat) (rs : List (Option Addr × Nat × Nat)) (hH : HdB w h v c 0) (hs : Src w I v ls) (hI : ∀ k, I k → k ≠ h) (hb : ∀ b ∈ ls, b < 2) (hc : c ≤ ls.length) (hlen : ls.length ≤ 100000000)
    (hR : RW w0 w go L ns (fun s => key ns s ≠ 0) rs) (hL : L = ns.length) (hl288 : L ≤ 288) (h15 : ∀ s, key ns s ≤ 15) (ho : RowsOff w0 go ns rs h) :
    Calls Tryd.prog 51 #[.pointer (some ⟨h, 0, none⟩), .slice (some ⟨go, 0, none⟩) L L] w fun r w' => StepA h v w' r (stepF ns ls c) ∧ Kept (· = h) w w' := by
  obtain ⟨ao, cap, rfl, hsa⟩ := id hs
  clear hsa
  have HH : Hid (HdB w h (.slice ao ls.length cap) c 0) := hH
  have HS : Hid (Src w I (.slice ao ls.length cap) ls) := hs
  have HI : Hid (∀ k, I k → k ≠ h) := hI
  have HB : Hid (∀ b ∈ ls, b < 2) := hb
  have HR : Hid (RW w0 w go L ns (fun s => key ns s ≠ 0) rs) := hR
  have HO : Hid (RowsOff w0 go ns rs h) := ho
  have HA : Hid (L = ns.length ∧ ∀ s, key ns s ≤ 15) := ⟨hL, h15⟩
  obtain ⟨M, hM⟩ : ∃ M, M = ls.length := ⟨_, rfl⟩
  rw [← hM] at HH HS hc hlen ⊢
  have HM : Hid (M = ls.length) := hM
  obtain ⟨is, k, g, hnf⟩ : ∃ is k g, nextF ns (ls.drop c) = (is, k, g) := ⟨_, _, _, rfl⟩
  have HNF : Hid (nextF ns (ls.drop c) = (is, k, g)) := hnf
  have hrn := nextF_is ns (ls.drop c)
  rw [hnf] at hrn
  simp only at hrn
  have HRN : Hid (RNext ns (ls.drop c) is k g) := hrn
  have hkle : c + k ≤ M := by
    rcases hrn with ⟨_, _, hf, hk, _⟩ | ⟨_, _, hk, _⟩ | ⟨_, _, hk, _⟩
    · have h1 := hf.2.length_le
      rw [rowOf_length, List.length_drop] at h1
      omega
    · omega
    · omega
  clear hH hs hI hb hR ho hL h15 hM hnf hrn
  have hsz := HH.out.lt
  -- the world behind the result's place
  have HK0 : Hid (Same w (w.alloc (.cells #[.int .i64 0, .int .i64 0] 31))) := (Kept.refl _ w).alloc _
  have HRB : Hid (Blk (w.alloc (.cells #[.int .i64 0, .int .i64 0] 31)) w.heap.size #[.int .i64 0, .int .i64 0] 31) := Blk.new w _ _
  go_enter Tryd.func51, Tryd.ntmps51
  go_upto_region 1 with fail
  generalize w.alloc (.cells #[.int .i64 0, .int .i64 0] 31) = wA at *
  have HHA : Hid (HdB wA h (.slice ao M cap) c 0) := hid (HH.out.kept HK0.out (fun f => f))
  have c0 := HHA.out.cell 0
  have c1 := HHA.out.cell 1
  simp at c0 c1
  have HNX := rnext_any wA.drew w0 go L ns rs (.slice ao M cap) I ls c (HR.out.kept (F := fun _ => False) (HK0.out.drew) (fun _ _ f => f) (fun f => f) (fun _ _ _ _ _ f => f)) HA.out.1 hl288 HA.out.2 (HS.out.kept HK0.out.drew (fun _ _ _ f => f)) (by have := HM.out; omega) (by have := HM.out; omega)
  have HHX : Hid (Calls Tryd.prog 68 #[.slice (some ⟨go, 0, none⟩) L L, .slice ao M cap, .int .i64 (c : Nat)] wA.drew fun e w' => e = .returned (.tuple #[.int .i64 (is : Nat), .int .i64 (k : Nat), .int .i64 (g : Nat)]) ∧ Same wA w') := hid (HNX.mono (by
    rintro e w' ⟨⟨is2, k2, g2, rfl, hr2⟩, hk⟩
    obtain ⟨rfl, rfl, rfl⟩ := hr2.one HRN.out
    exact ⟨rfl, ⟨hk.os, hk.tape, hk.output, hk.size, hk.block⟩⟩))
  clear HNX
  go_region_with (go_at_call 68; refine HHX.out.mono ?_; rintro e w4 ⟨rfl, hk4⟩)
  all_goals
    have HK4 : Hid (Same wA w4) := hk4
    have HH4 : Hid (HdB w4 h (.slice ao M cap) c 0) := hid (HHA.out.kept hk4 (fun f => f))
    have HB4 : Hid (Blk w4 w.heap.size #[.int .i64 0, .int .i64 0] 31) := hid (HRB.out.kept hk4 (fun f => f))
    have HS4 : Hid (Src w4 I (.slice ao M cap) ls) := hid (HS.out.kept (Same.trans HK0.out hk4) (fun _ _ _ f => f))
    have HKW : Hid (Kept (· = h) w w4) := hid (Kept.mono (Same.trans HK0.out hk4) (fun _ _ f => f.elim))
    have d1 := HH4.out.cell 1
    have d2 := HH4.out.cell 2
    have g1 := HH4.out.frozen 1
    have g2 := HH4.out.frozen 2
    have r0 := HB4.out.cell 0
    have r1 := HB4.out.cell 1
    have q0 := HB4.out.frozen 0
    have q1 := HB4.out.frozen 1
    simp at d1 d2 r0 r1
    have hne : h ≠ w.heap.size := by omega
    have hne2 : w.heap.size ≠ h := by omega
    clear hk4 c0 c1
    by_cases hg0 : g = 0
    · subst hg0
      obtain ⟨ck, hck⟩ : ∃ ck, ck = c + k := ⟨_, rfl⟩
      have hckI : (c : Int) + (k : Int) = (ck : Int) := by omega
      have HCK : Hid (ck = c + k) := hck
      have hckM : ck ≤ M := by omega
      clear hck
      have HH5 : Hid (HdB (w4.setCell ⟨h, 1, none⟩ (.int .i64 (ck : Nat))) h (.slice ao M cap) ck 0) := hid (by have hb := HH4.out.set 1 (.int .i64 (ck : Nat)); simp at hb; exact hb)
      have HK5 : Hid (Kept (· = h) w4 (w4.setCell ⟨h, 1, none⟩ (.int .i64 (ck : Nat)))) := hid ((Kept.refl (· = h) w4).setCell ⟨h, 1, none⟩ _ (.inl rfl))
      have HTK := fun n (hn : n ≤ 32) => htake_any (w4.setCell ⟨h, 1, none⟩ (.int .i64 (ck : Nat))) h (.slice ao M cap) I ls ck 0 n HH5.out (HS4.out.kept HK5.out (fun k hk _ e => HI.out k hk e)) HB.out hn (by have := HM.out; omega) (by have := HM.out; omega)
      by_cases h16 : is = 16
      · subst h16
        obtain ⟨x, c2, e2, ht⟩ : ∃ x c2 e2, hTake ls ck 0 2 = (x, c2, e2) := ⟨_, _, _, rfl⟩
        have HT := HTK 2 (by decide)
        rw [ht] at HT
        have HTT : Hid (hTake ls (c + k) 0 (xbits 16) = (x, c2, e2)) := hid (by rw [← HCK.out]; exact ht)
        clear ht HTK
        go_wp2_with fail
        refine HT.mono ?_
        rintro e w6 ⟨rfl, hh6, hk6⟩
        have HH6 : Hid (HdB w6 h (.slice ao M cap) c2 e2) := hh6
        have HK6 : Hid (Kept (· = h) w w6) := hid (HKW.out.trans (Kept.trans HK5.out hk6 (H := (· = h)) (fun _ _ f => f) (fun _ _ f => f)) (fun _ _ f => f) (fun _ _ f => f))
        have HB6 : Hid (Blk w6 w.heap.size #[.int .i64 0, .int .i64 0] 31) := hid ((HB4.out.kept HK5.out (fun e => hne2 e)).kept hk6 (fun e => hne2 e))
        have r0 := HB6.out.cell 0
        have r1 := HB6.out.cell 1
        have q0 := HB6.out.frozen 0
        have q1 := HB6.out.frozen 1
        simp at r0 r1
        clear hh6 hk6 HT
        go_wp2_with fail
        refine bodyPost_ret (v := .agg #[.int .i64 (16), .int .i64 (x : Nat)]) (by simp [results, Tryd.results51, go_sem, r0, r1]) rfl ⟨stepA_of HNF.out HTT.out rfl ?_, ?_⟩
        · skip
          exact HH6.out.kept (((Kept.refl (· = w.heap.size) w6).setCell ⟨w.heap.size, 0, none⟩ _ (.inl rfl)).setCell ⟨w.heap.size, 1, none⟩ _ (.inl rfl)) hne
        · exact (HK6.out.setCell ⟨w.heap.size, 0, none⟩ _ (.inr (Nat.le_refl _))).setCell ⟨w.heap.size, 1, none⟩ _ (.inr (Nat.le_refl _))
      · have e16 : ((is : Int) == 16) = false := by simp; omega
        by_cases h17 : is = 17
        · subst h17
          obtain ⟨x, c2, e2, ht⟩ : ∃ x c2 e2, hTake ls ck 0 3 = (x, c2, e2) := ⟨_, _, _, rfl⟩
          have HT := HTK 3 (by decide)
          rw [ht] at HT
          have HTT : Hid (hTake ls (c + k) 0 (xbits 17) = (x, c2, e2)) := hid (by rw [← HCK.out]; exact ht)
          clear ht HTK
          go_wp2_with fail
          refine HT.mono ?_
          rintro e w6 ⟨rfl, hh6, hk6⟩
          have HH6 : Hid (HdB w6 h (.slice ao M cap) c2 e2) := hh6
          have HK6 : Hid (Kept (· = h) w w6) := hid (HKW.out.trans (Kept.trans HK5.out hk6 (H := (· = h)) (fun _ _ f => f) (fun _ _ f => f)) (fun _ _ f => f) (fun _ _ f => f))
          have HB6 : Hid (Blk w6 w.heap.size #[.int .i64 0, .int .i64 0] 31) := hid ((HB4.out.kept HK5.out (fun e => hne2 e)).kept hk6 (fun e => hne2 e))
          have r0 := HB6.out.cell 0
          have r1 := HB6.out.cell 1
          have q0 := HB6.out.frozen 0
          have q1 := HB6.out.frozen 1
          simp at r0 r1
          clear hh6 hk6 HT
          go_wp2_with fail
          refine bodyPost_ret (v := .agg #[.int .i64 (17), .int .i64 (x : Nat)]) (by simp [results, Tryd.results51, go_sem, r0, r1]) rfl ⟨stepA_of HNF.out HTT.out rfl ?_, ?_⟩
          · skip
            exact HH6.out.kept (((Kept.refl (· = w.heap.size) w6).setCell ⟨w.heap.size, 0, none⟩ _ (.inl rfl)).setCell ⟨w.heap.size, 1, none⟩ _ (.inl rfl)) hne
          · exact (HK6.out.setCell ⟨w.heap.size, 0, none⟩ _ (.inr (Nat.le_refl _))).setCell ⟨w.heap.size, 1, none⟩ _ (.inr (Nat.le_refl _))
        · have e17 : ((is : Int) == 17) = false := by simp; omega
          by_cases h18 : is = 18
          · subst h18
            obtain ⟨x, c2, e2, ht⟩ : ∃ x c2 e2, hTake ls ck 0 7 = (x, c2, e2) := ⟨_, _, _, rfl⟩
            have HT := HTK 7 (by decide)
            rw [ht] at HT
            have HTT : Hid (hTake ls (c + k) 0 (xbits 18) = (x, c2, e2)) := hid (by rw [← HCK.out]; exact ht)
            clear ht HTK
            go_wp2_with fail
            refine HT.mono ?_
            rintro e w6 ⟨rfl, hh6, hk6⟩
            have HH6 : Hid (HdB w6 h (.slice ao M cap) c2 e2) := hh6
            have HK6 : Hid (Kept (· = h) w w6) := hid (HKW.out.trans (Kept.trans HK5.out hk6 (H := (· = h)) (fun _ _ f => f) (fun _ _ f => f)) (fun _ _ f => f) (fun _ _ f => f))
            have HB6 : Hid (Blk w6 w.heap.size #[.int .i64 0, .int .i64 0] 31) := hid ((HB4.out.kept HK5.out (fun e => hne2 e)).kept hk6 (fun e => hne2 e))
            have r0 := HB6.out.cell 0
            have r1 := HB6.out.cell 1
            have q0 := HB6.out.frozen 0
            have q1 := HB6.out.frozen 1
            simp at r0 r1
            clear hh6 hk6 HT
            go_wp2_with fail
            refine bodyPost_ret (v := .agg #[.int .i64 (18), .int .i64 (x : Nat)]) (by simp [results, Tryd.results51, go_sem, r0, r1]) rfl ⟨stepA_of HNF.out HTT.out rfl ?_, ?_⟩
            · skip
              exact HH6.out.kept (((Kept.refl (· = w.heap.size) w6).setCell ⟨w.heap.size, 0, none⟩ _ (.inl rfl)).setCell ⟨w.heap.size, 1, none⟩ _ (.inl rfl)) hne
            · exact (HK6.out.setCell ⟨w.heap.size, 0, none⟩ _ (.inr (Nat.le_refl _))).setCell ⟨w.heap.size, 1, none⟩ _ (.inr (Nat.le_refl _))
          · have e18 : ((is : Int) == 18) = false := by simp; omega
            have HTT : Hid (hTake ls (c + k) 0 (xbits is) = (0, ck, 0)) := hid (by
              unfold hTake xbits
              rw [if_neg h16, if_neg h17, if_neg h18, if_neg (by simp), if_neg (by have := HM.out; have := HCK.out; omega), HCK.out]
              simp [numAt, n2])
            clear HTK h16 h17 h18
            go_wp2_with fail
            refine bodyPost_ret (v := .agg #[.int .i64 (is : Nat), .int .i64 0]) (by simp [results, Tryd.results51, go_sem, r0, r1]) rfl ⟨stepA_of HNF.out HTT.out rfl ?_, ?_⟩
            · skip
              exact HH5.out.kept (((Kept.refl (· = w.heap.size) _).setCell ⟨w.heap.size, 0, none⟩ _ (.inl rfl)).setCell ⟨w.heap.size, 1, none⟩ _ (.inl rfl)) hne
            · exact ((HKW.out.trans HK5.out (fun _ _ f => f) (fun _ _ f => f)).setCell ⟨w.heap.size, 0, none⟩ _ (.inr (Nat.le_refl _))).setCell ⟨w.heap.size, 1, none⟩ _ (.inr (Nat.le_refl _))
    · have hgd : ((g : Int) != 0) = true := by simp; omega
      have HG0 : Hid (g ≠ 0) := hg0
      clear hg0
      go_wp2_with fail
      refine bodyPost_ret (v := .agg #[.int .i64 0, .int .i64 0]) (by simp [results, Tryd.results51, go_sem, r0, r1]) rfl ⟨stepA_err (c2 := c) HNF.out HG0.out 0 0 rfl ?_, ?_⟩
      · skip
        have hb := HH4.out.set 2 (.int .i64 (g : Nat))
        simp at hb
        exact Blk.kept hb (((Kept.refl (· = w.heap.size) _).setCell ⟨w.heap.size, 0, none⟩ _ (.inl rfl)).setCell ⟨w.heap.size, 1, none⟩ _ (.inl rfl)) hne
      · exact ((HKW.out.setCell ⟨h, 2, none⟩ _ (.inl rfl)).setCell ⟨w.heap.size, 0, none⟩ _ (.inr (Nat.le_refl _))).setCell ⟨w.heap.size, 1, none⟩ _ (.inr (Nat.le_refl _))

end Go.Proofs.YtofhlnpbflkdlaaDoor

/-
  The reference's Rows, walked.
-/
namespace Go.Proofs.YtofhlnpbflkdlaaDoor
open Go.RowKit

/-- The counters of Rows: the last code, the last length. -/
def Cnt (ns : List Nat) (n i code last : Nat) : Prop := (last = 0 ∧ code = 0 ∧ sumP ns n i = 0) ∨ (0 < last ∧ last ≤ n ∧ (code + 1) * 2 ^ (15 - last) = sumP ns n i)

theorem sumP_le (ns : List Nat) (n i : Nat) : sumP ns n i ≤ measure ns := by
  unfold sumP
  rw [← sumTo_all]
  unfold sumTo
  rw [List.take_of_length_le (Nat.le_refl _)]
  generalize ris ns = l
  induction l with
  | nil => simp
  | cons a r ih =>
    rw [List.filter_cons]
    split
    · simp only [List.map_cons, List.sum_cons]; omega
    · simp only [List.map_cons, List.sum_cons]; omega

theorem Cnt.code_le {ns : List Nat} {n i code last : Nat} (h : Cnt ns n i code last) (hm : measure ns ≤ 32768) : code ≤ 32768 := by
  rcases h with ⟨_, h, _⟩ | ⟨_, _, h⟩
  · omega
  · have h1 := sumP_le ns n i
    have h2 : (code + 1) * 1 ≤ (code + 1) * 2 ^ (15 - last) := Nat.mul_le_mul_left _ (Nat.two_pow_pos _)
    omega

/-- The code of a symbol that comes. -/
theorem Cnt.hit {ns : List Nat} {n i code last : Nat} (h : Cnt ns n i code last) (hk : key ns i = n) (hn : n ≤ 15) : codeOf ns i = (if 0 < last then (code + 1) * 2 ^ (n - last) else code) := by
  have h1 := code_start ns i
  have h2 := sumP_hit ns i
  rw [hk] at h1 h2
  rw [← h2] at h1
  rcases h with ⟨e1, e2, e3⟩ | ⟨e1, e2, e3⟩
  · rw [if_neg (by omega), e2]
    rw [e3] at h1
    rcases Nat.mul_eq_zero.1 h1 with h | h
    · exact h
    · have := Nat.two_pow_pos (15 - n); omega
  · rw [if_pos e1]
    have e4 : (code + 1) * 2 ^ (n - last) * 2 ^ (15 - n) = codeOf ns i * 2 ^ (15 - n) := by
      rw [Nat.mul_assoc, ← Nat.pow_add, show n - last + (15 - n) = 15 - last by omega, e3, h1]
    exact (Nat.eq_of_mul_eq_mul_right (Nat.two_pow_pos _) e4).symm

theorem Cnt.next {ns : List Nat} {i : Nat} (hi : i ∈ ris ns) : Cnt ns (key ns i) (i + 1) (codeOf ns i) (key ns i) := by
  refine .inr ⟨by have := (mem_ris.1 hi).2; omega, Nat.le_refl _, ?_⟩
  rw [sumP_next ns i hi, Nat.add_mul, code_start, Nat.one_mul]

theorem Cnt.miss {ns : List Nat} {n i code last : Nat} (h : Cnt ns n i code last) (hk : key ns i ≠ n) : Cnt ns n (i + 1) code last := by
  unfold Cnt
  rw [sumP_miss ns n i hk]
  exact h

theorem Cnt.round {ns : List Nat} {n code last : Nat} (h : Cnt ns n ns.length code last) : Cnt ns (n + 1) 0 code last := by
  unfold Cnt
  rw [← sumP_round]
  rcases h with h | ⟨h1, h2, h3⟩
  · exact .inl h
  · exact .inr ⟨h1, by omega, h3⟩

/-- The symbols whose rows are laid. -/
def laidR (ns : List Nat) (n i s : Nat) : Prop := key ns s ≠ 0 ∧ pre ns n i s

set_option maxRecDepth 100000 in
set_option maxHeartbeats 4000000 in
theorem rows_any (w : World) (v : Value) (I : Nat → Prop) (ns : List Nat) (hs : SrcE natV w I v ns) (hn : ns.length ≤ 288) (h15 : ∀ n ∈ ns, n ≤ 15) (hm : measure ns ≤ 32768) :
    Calls Tryd.prog 50 #[v] w fun e w' => ∃ go rs, e = .returned (.slice (some ⟨go, 0, none⟩) ns.length ns.length) ∧ RW w w' go ns.length ns (fun s => key ns s ≠ 0) rs := by
  obtain ⟨ao, cap, rfl, hx1, hx2⟩ := id hs
  clear hx1 hx2
  have HS : Hid (SrcE natV w I (.slice ao ns.length cap) ns) := hs
  have H15 : Hid (∀ n ∈ ns, n ≤ 15) := h15
  have HM : Hid (measure ns ≤ 32768) := hm
  clear hs h15 hm
  obtain ⟨L, hL⟩ : ∃ L, L = ns.length := ⟨_, rfl⟩
  rw [← hL] at HS hn ⊢
  have HL : Hid (L = ns.length) := hL
  clear hL
  go_enter Tryd.func50, Tryd.ntmps50
  go_wp2_with (at_make; refine wpList_make_e _ slV (none, 0, 0) w.heap.size 79 43 24 Tryd.underlying79 Tryd.infoB rfl (by decide) rfl _ _ rfl _ _ _ _ L rfl rfl rfl rfl (by omega) (Nat.le_refl _) ?_; intro w1 hr1 hg1 hs1; have HRW0 : Hid (RW w w1 w.heap.size L ns (laidR ns 1 0) (List.replicate L (none, 0, 0))) := hid ⟨hr1, fun s hs hp => absurd hp (by rintro ⟨h1, h2 | h2⟩ <;> omega), fun s hs _ => by simp, (Kept.refl _ w).grown hg1 (by simp)⟩; clear hr1 hg1)
  go_loopg [4, 5, 6] 15 (fun q zc zl zn wr => ∃ (n code last : Nat) (rs : List (Option Addr × Nat × Nat)), 16 - n ≤ q ∧ 1 ≤ n ∧ n ≤ 16 ∧ code ≤ 32768 ∧ last ≤ 15 ∧ zn = .int .i64 (n : Nat) ∧ zc = .int .i64 (code : Nat) ∧ zl = .int .i64 (last : Nat) ∧ Hid (Cnt ns n 0 code last) ∧ Hid (RW w wr w.heap.size L ns (laidR ns n 0) rs ∧ rs.length = L))
  case atStart => exact ⟨1, 0, 0, _, by omega, by omega, by omega, by omega, by omega, rfl, rfl, rfl, hid (.inl ⟨rfl, rfl, sumP_start ns⟩), hid ⟨HRW0.out, by simp⟩⟩
  case round =>
    obtain ⟨n, code, last, rs, hq, hn1, hn16, hcode, hlast, rfl, rfl, rfl, HC, HR⟩ := hrel
    clear HRW0
    obtain ⟨gk0, hgk⟩ : ∃ x, x = gk := ⟨_, rfl⟩
    rw [← hgk] at hq
    have HG : Hid (gk0 = gk) := hgk
    clear hgk
    by_cases hn15 : n ≤ 15
    · have bn : decide ((n : Int) ≤ 15) = true := by simp; omega
      go_wp2_with fail
      go_loopg [4, 5, 7] L (fun q zc zl zi wr => ∃ (i code last : Nat) (rs : List (Option Addr × Nat × Nat)), L - i ≤ q ∧ i ≤ L ∧ code ≤ 32768 ∧ last ≤ n ∧ zi = .int .i64 (i : Nat) ∧ zc = .int .i64 (code : Nat) ∧ zl = .int .i64 (last : Nat) ∧ Hid (Cnt ns n i code last) ∧ Hid (RW w wr w.heap.size L ns (laidR ns n i) rs ∧ rs.length = L))
      case atStart => exact ⟨0, code, last, rs, by omega, by omega, by omega, by rcases HC.out with ⟨h, _⟩ | ⟨_, h, _⟩ <;> omega, rfl, rfl, rfl, HC, HR⟩
      case round =>
        clear HC HR hcode hlast
        obtain ⟨i, code, last, rs, hq2, hi, hcode, hlast, rfl, rfl, rfl, HC, HR⟩ := hrel
        obtain ⟨gk1, hgk1⟩ : ∃ x, x = gk := ⟨_, rfl⟩
        rw [← hgk1] at hq2
        have HG1 : Hid (gk1 = gk) := hgk1
        clear hgk1
        by_cases hlt : i < L
        · have hin : i < ns.length := by have := HL.out; omega
          obtain ⟨b, o, cap', e, _, _, cx⟩ := (HS.out.same HR.out.1.same).get i hin
          simp only [Value.slice.injEq] at e
          obtain ⟨rfl, hxe, rfl⟩ := e
          clear hxe
          rw [← key_get hin] at cx
          unfold natV at cx
          obtain ⟨k, hk⟩ : ∃ k, k = key ns i := ⟨_, rfl⟩
          rw [← hk] at cx
          by_cases hkn : k = n
          · have hkn' : key ns i = n := by omega
            have hmem : i ∈ ris ns := mem_ris.2 ⟨hin, by omega⟩
            have hbd : ((k : Int) != (n : Int)) = false := by simp [hkn]
            obtain ⟨co, hco⟩ : ∃ co, co = codeOf ns i := ⟨_, rfl⟩
            have hcol : co ≤ 32768 := by rw [hco]; exact Cnt.code_le (Cnt.next hmem) HM.out
            have hhit := HC.out.hit hkn' hn15
            rw [← hco] at hhit
            have HCN : Hid (Cnt ns n (i + 1) co n) := hid (by have h := Cnt.next hmem; rw [hkn', ← hco] at h; exact h)
            have HFIN : Hid (∀ (w5 : World) (a : Option Addr) (l c : Nat), RW w w5 w.heap.size L ns (laidR ns n i) rs → Row w5 (.slice a l c) (rowB n co) → (∀ k, (Value.slice a l c).ownBlock = some k → w.heap.size ≤ k) → RW w (w5.setCell ⟨w.heap.size, i, none⟩ (.slice a l c)) w.heap.size L ns (laidR ns n (i + 1)) (rs.set i (a, l, c))) := hid (by
              intro w5 a l c h1 h2 h3
              refine (h1.put i a l c (by have := HR.out.2; omega) (by rw [hkn', ← hco]; exact h2) h3).mono (fun s hs => ?_)
              unfold laidR pre
              constructor
              · rintro (rfl | ⟨h4, h5⟩)
                · exact ⟨by omega, .inr ⟨hkn', by omega⟩⟩
                · exact ⟨h4, by rcases h5 with h5 | h5; exact .inl h5; exact .inr ⟨h5.1, by omega⟩⟩
              · rintro ⟨h4, h5⟩
                by_cases e : s = i
                · exact .inl e
                · exact .inr ⟨h4, by rcases h5 with h5 | h5; exact .inl h5; exact .inr ⟨h5.1, by omega⟩⟩)
            have cgo : ∀ w5, RW w w5 w.heap.size L ns (laidR ns n i) rs → (∃ u, w5.cell? ⟨w.heap.size, i, none⟩ = some u) ∧ w5.frozen? ⟨w.heap.size, i, none⟩ = false := fun w5 h => ⟨⟨_, h.row.cell i (by have := HR.out.2; omega)⟩, h.row.frozen i⟩
            have HGO : Hid (∀ w5, RW w w5 w.heap.size L ns (laidR ns n i) rs → (∃ u, w5.cell? ⟨w.heap.size, i, none⟩ = some u) ∧ w5.frozen? ⟨w.heap.size, i, none⟩ = false) := cgo
            clear cgo hk hkn hmem hco
            by_cases hl0 : 0 < last
            · rw [if_pos hl0] at hhit
              have HPW := power_any wr (n - last) (by omega)
              obtain ⟨pw, hpw⟩ : ∃ pw, pw = 2 ^ (n - last) := ⟨_, rfl⟩
              rw [← hpw] at HPW hhit
              have hsub : ((n : Int) - (last : Int)) = ((n - last : Nat) : Int) := by omega
              have hcoI : ((code : Int) + 1) * (pw : Int) = (co : Int) := by rw [hhit]; simp
              have bl : decide (0 < last) = true := by simp [hl0]
              clear hpw hhit
              go_wp2_with fail
              refine HPW.mono ?_
              rintro e w2 ⟨rfl, rfl⟩
              clear HPW
              have hWs : w.heap.size < w2.heap.size := HR.out.1.row.lt rfl
              go_wp2_with (at_make; refine wpList_make_bytes _ rfl _ _ rfl _ _ _ _ n rfl rfl rfl rfl (by omega) ?_; intro w5 hr5 hg5 hs5; have HROW0 : Hid (Row w5 (.slice (some ⟨w2.heap.size, 0, none⟩) n n) (List.replicate n 0)) := hr5; have HSM0 : Hid (Same w2 w5) := hid ((Kept.refl _ w2).grown hg5 (by simp)); clear hr5 hg5 hs5)
              go_loopg [9, 10] n (fun q zc zk wx => ∃ (m cc : Nat) (tl : List Nat), m ≤ q ∧ m ≤ n ∧ cc ≤ 32768 ∧ zc = .int .i64 (cc : Nat) ∧ zk = .int .i64 ((m : Int) - 1) ∧ Hid (rowB n co = rowB m cc ++ tl) ∧ Hid (RowE 0 5 byteV wx (.slice (some ⟨w2.heap.size, 0, none⟩) n n) (List.replicate m 0 ++ tl)) ∧ Hid (Same w2 wx))
              case atStart => exact ⟨n, co, [], by omega, by omega, by omega, rfl, by first | rfl | (congr 1; omega), hid (by simp), hid (by simpa using HROW0.out), HSM0⟩
              case round =>
                clear HROW0 HSM0
                obtain ⟨m, cc, tl, hq3, hmn, hcc, rfl, rfl, HB, HROW, HSM⟩ := hrel
                cases m with
                | zero =>
                  obtain ⟨⟨u5, cu5⟩, fu5⟩ := HGO.out wr (HR.out.1.later HSM.out)
                  have HRNEW : Hid (RW w (wr.setCell ⟨w.heap.size, i, none⟩ (.slice (some ⟨w2.heap.size, 0, none⟩) n n)) w.heap.size L ns (laidR ns n (i + 1)) (rs.set i (some ⟨w2.heap.size, 0, none⟩, n, n))) := hid (HFIN.out wr _ n n (HR.out.1.later HSM.out) (by
                    have h := HROW.out
                    have e : rowB n co = List.replicate 0 0 ++ tl := by rw [HB.out]; rfl
                    rw [← e] at h
                    exact h) (fun j hj => by simp [Value.ownBlock] at hj; omega))
                  have bk : decide ((0 : Int) ≤ ((0 : Nat) : Int) - 1) = false := by decide
                  go_wp2_with fail
                  go_roundg (gk1 - 1)
                  case measure => have := HG1.out; omega
                  case rel => exact ⟨i + 1, co, n, rs.set i (some ⟨w2.heap.size, 0, none⟩, n, n), by omega, by omega, by omega, by omega, by go_num, rfl, rfl, HCN, hid ⟨HRNEW.out, by rw [List.length_set]; exact HR.out.2⟩⟩
                | succ m =>
                  have hkm : (((m + 1 : Nat) : Int) - 1) = (m : Int) := by omega
                  have hml : m < (List.replicate (m + 1) 0 ++ tl).length := by simp; omega
                  obtain ⟨y, cy⟩ : ∃ y : Nat, wr.cell? ⟨w2.heap.size, m, none⟩ = some (.int .u8 (y : Nat)) := ⟨_, HROW.out.cell m hml⟩
                  have fy := HROW.out.frozen m
                  obtain ⟨bt, hbt⟩ : ∃ bt, bt = cc % 2 := ⟨_, rfl⟩
                  obtain ⟨c2, hc2⟩ : ∃ c2, c2 = cc / 2 := ⟨_, rfl⟩
                  have hbI : ((cc : Int) % 2) = (bt : Int) := by omega
                  have hcI : ((cc : Int) / 2) = (c2 : Int) := by omega
                  have hb2 : bt < 2 := by omega
                  have hc2l : c2 ≤ 32768 := by omega
                  have HB2 : Hid (rowB n co = rowB m c2 ++ bt :: tl) := hid (by rw [HB.out, hbt, hc2]; simp [rowB])
                  have HROW2 : Hid (RowE 0 5 byteV (wr.setCell ⟨w2.heap.size, m, none⟩ (.int .u8 (bt : Nat))) (.slice (some ⟨w2.heap.size, 0, none⟩) n n) (List.replicate m 0 ++ bt :: tl)) := hid (by
                    have h := HROW.out.lay m bt
                    have e : (List.replicate (m + 1) 0 ++ tl).set m bt = List.replicate m 0 ++ bt :: tl := by
                      rw [List.replicate_succ', List.append_assoc, List.set_append_right _ _ (by simp)]
                      simp
                    rw [e] at h
                    exact h)
                  have HSM2 : Hid (Same w2 (wr.setCell ⟨w2.heap.size, m, none⟩ (.int .u8 (bt : Nat)))) := hid (HSM.out.setCell _ _ (.inr (Nat.le_refl _)))
                  clear hbt hc2
                  go_wp2_with fail
                  go_roundg (gk - 1)
                  case measure => omega
                  case rel => exact ⟨m, c2, bt :: tl, by omega, by omega, hc2l, by first | rfl | (congr 1; omega), by first | rfl | (congr 1; omega), HB2, HROW2, HSM2⟩
            · rw [if_neg hl0] at hhit
              have bl : decide (0 < last) = false := by simp; omega
              have hcoI : (code : Int) = (co : Int) := by rw [hhit]
              rw [← hhit] at *
              obtain ⟨w2, hw2⟩ : ∃ w2, w2 = wr := ⟨_, rfl⟩
              subst hw2
              have hWs : w.heap.size < w2.heap.size := HR.out.1.row.lt rfl
              go_wp2_with (at_make; refine wpList_make_bytes _ rfl _ _ rfl _ _ _ _ n rfl rfl rfl rfl (by omega) ?_; intro w5 hr5 hg5 hs5; have HROW0 : Hid (Row w5 (.slice (some ⟨w2.heap.size, 0, none⟩) n n) (List.replicate n 0)) := hr5; have HSM0 : Hid (Same w2 w5) := hid ((Kept.refl _ w2).grown hg5 (by simp)); clear hr5 hg5 hs5)
              go_loopg [9, 10] n (fun q zc zk wx => ∃ (m cc : Nat) (tl : List Nat), m ≤ q ∧ m ≤ n ∧ cc ≤ 32768 ∧ zc = .int .i64 (cc : Nat) ∧ zk = .int .i64 ((m : Int) - 1) ∧ Hid (rowB n co = rowB m cc ++ tl) ∧ Hid (RowE 0 5 byteV wx (.slice (some ⟨w2.heap.size, 0, none⟩) n n) (List.replicate m 0 ++ tl)) ∧ Hid (Same w2 wx))
              case atStart => exact ⟨n, co, [], by omega, by omega, by omega, rfl, by first | rfl | (congr 1; omega), hid (by simp), hid (by simpa using HROW0.out), HSM0⟩
              case round =>
                clear HROW0 HSM0
                obtain ⟨m, cc, tl, hq3, hmn, hcc, rfl, rfl, HB, HROW, HSM⟩ := hrel
                cases m with
                | zero =>
                  obtain ⟨⟨u5, cu5⟩, fu5⟩ := HGO.out wr (HR.out.1.later HSM.out)
                  have HRNEW : Hid (RW w (wr.setCell ⟨w.heap.size, i, none⟩ (.slice (some ⟨w2.heap.size, 0, none⟩) n n)) w.heap.size L ns (laidR ns n (i + 1)) (rs.set i (some ⟨w2.heap.size, 0, none⟩, n, n))) := hid (HFIN.out wr _ n n (HR.out.1.later HSM.out) (by
                    have h := HROW.out
                    have e : rowB n co = List.replicate 0 0 ++ tl := by rw [HB.out]; rfl
                    rw [← e] at h
                    exact h) (fun j hj => by simp [Value.ownBlock] at hj; omega))
                  have bk : decide ((0 : Int) ≤ ((0 : Nat) : Int) - 1) = false := by decide
                  go_wp2_with fail
                  go_roundg (gk1 - 1)
                  case measure => have := HG1.out; omega
                  case rel => exact ⟨i + 1, co, n, rs.set i (some ⟨w2.heap.size, 0, none⟩, n, n), by omega, by omega, by omega, by omega, by go_num, rfl, rfl, HCN, hid ⟨HRNEW.out, by rw [List.length_set]; exact HR.out.2⟩⟩
                | succ m =>
                  have hkm : (((m + 1 : Nat) : Int) - 1) = (m : Int) := by omega
                  have hml : m < (List.replicate (m + 1) 0 ++ tl).length := by simp; omega
                  obtain ⟨y, cy⟩ : ∃ y : Nat, wr.cell? ⟨w2.heap.size, m, none⟩ = some (.int .u8 (y : Nat)) := ⟨_, HROW.out.cell m hml⟩
                  have fy := HROW.out.frozen m
                  obtain ⟨bt, hbt⟩ : ∃ bt, bt = cc % 2 := ⟨_, rfl⟩
                  obtain ⟨c2, hc2⟩ : ∃ c2, c2 = cc / 2 := ⟨_, rfl⟩
                  have hbI : ((cc : Int) % 2) = (bt : Int) := by omega
                  have hcI : ((cc : Int) / 2) = (c2 : Int) := by omega
                  have hb2 : bt < 2 := by omega
                  have hc2l : c2 ≤ 32768 := by omega
                  have HB2 : Hid (rowB n co = rowB m c2 ++ bt :: tl) := hid (by rw [HB.out, hbt, hc2]; simp [rowB])
                  have HROW2 : Hid (RowE 0 5 byteV (wr.setCell ⟨w2.heap.size, m, none⟩ (.int .u8 (bt : Nat))) (.slice (some ⟨w2.heap.size, 0, none⟩) n n) (List.replicate m 0 ++ bt :: tl)) := hid (by
                    have h := HROW.out.lay m bt
                    have e : (List.replicate (m + 1) 0 ++ tl).set m bt = List.replicate m 0 ++ bt :: tl := by
                      rw [List.replicate_succ', List.append_assoc, List.set_append_right _ _ (by simp)]
                      simp
                    rw [e] at h
                    exact h)
                  have HSM2 : Hid (Same w2 (wr.setCell ⟨w2.heap.size, m, none⟩ (.int .u8 (bt : Nat)))) := hid (HSM.out.setCell _ _ (.inr (Nat.le_refl _)))
                  clear hbt hc2
                  go_wp2_with fail
                  go_roundg (gk - 1)
                  case measure => omega
                  case rel => exact ⟨m, c2, bt :: tl, by omega, by omega, hc2l, by first | rfl | (congr 1; omega), by first | rfl | (congr 1; omega), HB2, HROW2, HSM2⟩
          · have hbd : ((k : Int) != (n : Int)) = true := by simp; omega
            have HCM : Hid (Cnt ns n (i + 1) code last) := hid (HC.out.miss (by omega))
            have HRM : Hid (RW w wr w.heap.size L ns (laidR ns n (i + 1)) rs ∧ rs.length = L) := hid ⟨HR.out.1.mono (fun s hs => by
              unfold laidR pre
              constructor
              · rintro ⟨h4, h5⟩
                exact ⟨h4, by rcases h5 with h5 | h5; exact .inl h5; exact .inr ⟨h5.1, by omega⟩⟩
              · rintro ⟨h4, h5⟩
                refine ⟨h4, ?_⟩
                rcases h5 with h5 | h5
                · exact .inl h5
                · refine .inr ⟨h5.1, ?_⟩
                  by_cases e : s = i
                  · subst e; omega
                  · omega), HR.out.2⟩
            clear hk hkn
            go_wp2_with fail
            go_roundg (gk1 - 1)
            case measure => have := HG1.out; omega
            case rel => exact ⟨i + 1, code, last, rs, by omega, by omega, by omega, by omega, by go_num, rfl, rfl, HCM, HRM⟩
        · have hiL : i = L := by omega
          have HCR : Hid (Cnt ns (n + 1) 0 code last) := hid (Cnt.round (by have h := HC.out; rw [hiL, HL.out] at h; exact h))
          have HRR : Hid (RW w wr w.heap.size L ns (laidR ns (n + 1) 0) rs ∧ rs.length = L) := hid ⟨HR.out.1.mono (fun s hs => by
            have := HR.out.2
            unfold laidR pre
            constructor
            · rintro ⟨h4, h5⟩
              exact ⟨h4, .inl (by omega)⟩
            · rintro ⟨h4, h5⟩
              refine ⟨h4, ?_⟩
              rcases h5 with h5 | h5
              · by_cases e : key ns s < n
                · exact .inl e
                · exact .inr ⟨by omega, by omega⟩
              · omega), HR.out.2⟩
          clear hiL
          go_wp2_with fail
          go_roundg (gk0 - 1)
          case measure => have := HG.out; omega
          case rel => exact ⟨n + 1, code, last, rs, by omega, by omega, by omega, by omega, by omega, by go_num, rfl, rfl, HCR, HRR⟩
    · have bn : decide ((n : Int) ≤ 15) = false := by simp; omega
      go_wp2_with fail
      go_ret
      refine ⟨w.heap.size, rs, rfl, HR.out.1.mono (fun s hs => ?_)⟩
      have h15 : key ns s ≤ 15 := by
        by_cases e : s < ns.length
        · rw [key_get e]; exact H15.out _ (List.getElem_mem _)
        · simp [key, e]
      unfold laidR pre
      constructor
      · exact fun h => h.1
      · exact fun h => ⟨h, .inl (by omega)⟩

end Go.Proofs.YtofhlnpbflkdlaaDoor

/-
  The reference's Read.
-/
namespace Go.Proofs.YtofhlnpbflkdlaaDoor
open Go.RowKit

/-- A literal row of numbers. -/
theorem src_nats (w : World) (zs : List Nat) (n : Nat) (hn : zs.length = n) : SrcE natV (w.alloc (.cells (zs.map natV).toArray 3)) (fun k => k = w.heap.size) (.slice (some ⟨w.heap.size, 0, none⟩) n n) zs := by
  subst hn
  refine ⟨_, _, rfl, Nat.le_refl _, fun _ => ⟨_, _, rfl, rfl, fun j hj => ?_⟩⟩
  simp [hj]

theorem RW.down {w w0 w' : World} {go n : Nat} {ns : List Nat} {p : Nat → Prop} {rs : List (Option Addr × Nat × Nat)} (h : RW w0 w' go n ns p rs) (hk : Same w w0) : RW w w' go n ns p rs :=
  ⟨RowE.base h.row hk.size, fun s hs hp => ⟨(h.have' s hs hp).1, fun k e => Nat.le_trans hk.size ((h.have' s hs hp).2 k e)⟩, h.none', Same.trans hk h.same⟩

theorem chk_codes (l : List Nat) (hl : l.length = 19) (h7 : ∀ x ∈ l, x ≤ 7) : chk (l.map (fun (n : Nat) => (n : Int))) = chkN l := by
  have hok : okAll (l.map (fun (n : Nat) => (n : Int))) 0 15 = true := by
    simp only [okAll, List.length_map, Bool.and_eq_true, decide_eq_true_eq, Bool.not_eq_true', List.any_eq_false]
    refine ⟨⟨by omega, by omega⟩, fun z hz => ?_⟩
    obtain ⟨n, hn, rfl⟩ := List.mem_map.1 hz
    have := h7 n hn
    simp [badI]; omega
  unfold chk
  rw [if_pos hok, List.map_map]
  have e : l.map (Int.toNat ∘ fun (n : Nat) => (n : Int)) = l := by
    conv => rhs; rw [← List.map_id l]
    exact List.map_congr_left (fun n _ => by simp)
  rw [e]

theorem stepF_le {ns ls : List Nat} {c s x c' : Nat} (h : stepF ns ls c = .ok ((s, x), c')) : c' ≤ ls.length := by
  unfold stepF at h
  split at h
  · cases h
  · split at h
    · cases h
    · simp only [Except.ok.injEq, Prod.mk.injEq] at h
      omega

theorem bodyF_step {ns ls : List Nat} {N f c s x c' : Nat} {l : List Nat} (hl : l.length < N) (hs : stepF ns ls c = .ok ((s, x), c')) : bodyF ns ls N (f + 1) l c = match withM l ((s : Int), (x : Int)) N with | none => .error 41 | some m => bodyF ns ls N f m c' := by
  simp only [bodyF]
  rw [if_neg (by omega), hs]
  rfl

theorem bodyF_err {ns ls : List Nat} {N f c e : Nat} {l : List Nat} (hl : l.length < N) (hs : stepF ns ls c = .error e) : bodyF ns ls N (f + 1) l c = .error e := by
  simp only [bodyF]
  rw [if_neg (by omega), hs]

theorem bodyF_end {ns ls : List Nat} {N f c : Nat} {l : List Nat} (hl : N ≤ l.length) : bodyF ns ls N f l c = .ok (l, c) := by
  cases f with
  | zero => rfl
  | succ f => simp only [bodyF]; rw [if_pos hl]

/-- An answer of Read. -/
def ReadA (w w' : World) (r : Ending) : Except Nat ((List Nat × List Nat) × Nat) → Prop
  | .error e => r = .returned (.tuple #[.slice none 0 0, .slice none 0 0, .int .i64 0, .int .i64 (e : Nat)]) ∧ Same w w'
  | .ok ((a, b), n) => (∃ va vb, r = .returned (.tuple #[va, vb, .int .i64 (n : Nat), .int .i64 0]) ∧ SrcE natV w' (fun k => w.heap.size ≤ k) va a ∧ SrcE natV w' (fun k => w.heap.size ≤ k) vb b) ∧ Same w w'

theorem hTake_ok {ls : List Nat} {c n : Nat} (h : c + n ≤ ls.length) : hTake ls c 0 n = (numAt ls c n, c + n, 0) := by
  unfold hTake
  rw [if_neg (by simp), if_neg (by omega)]
theorem hTake_le (ls : List Nat) (c e n : Nat) (hc : c ≤ ls.length) : (hTake ls c e n).2.1 ≤ ls.length := by
  unfold hTake
  split
  · exact hc
  · split
    · exact hc
    · simp only; omega
theorem hTake_stuck {ls : List Nat} {c e n : Nat} (h : e ≠ 0) : hTake ls c e n = (0, c, e) := by unfold hTake; rw [if_pos h]
theorem hTake_end {ls : List Nat} {c n : Nat} (h : ls.length < c + n) : hTake ls c 0 n = (0, c, 10) := by
  unfold hTake
  rw [if_neg (by simp), if_pos h]

/-- Three numbers that are not there. -/
theorem hTake_three (ls : List Nat) (a : Nat) (h : ls.length < a + 14) (t1 t2 t3 : Nat × Nat × Nat) (h1 : hTake ls a 0 5 = t1) (h2 : hTake ls t1.2.1 t1.2.2 5 = t2) (h3 : hTake ls t2.2.1 t2.2.2 4 = t3) : t3.2.2 = 10 := by
  by_cases k1 : ls.length < a + 5
  · rw [hTake_end k1] at h1
    subst h1
    rw [hTake_stuck (by simp)] at h2
    subst h2
    rw [hTake_stuck (by simp)] at h3
    subst h3
    rfl
  · rw [hTake_ok (by omega)] at h1
    subst h1
    simp only at h2
    by_cases k2 : ls.length < a + 5 + 5
    · rw [hTake_end k2] at h2
      subst h2
      rw [hTake_stuck (by simp)] at h3
      subst h3
      rfl
    · rw [hTake_ok (by omega)] at h2
      subst h2
      simp only at h3
      rw [hTake_end (by omega)] at h3
      subst h3
      rfl

theorem stepF_ge {ns ls : List Nat} {c s x c' : Nat} (h : stepF ns ls c = .ok ((s, x), c')) : c ≤ c' := by
  unfold stepF at h
  split at h
  · cases h
  · split at h
    · cases h
    · simp only [Except.ok.injEq, Prod.mk.injEq] at h
      omega

/-- The lengths of the steps' codes, as they are read: all is well, or the bits have ended. -/
def CodesAt (ls : List Nat) (a i c e : Nat) (xs : List Nat) : Prop := (a + 14 + 3 * i ≤ ls.length ∧ c = a + 14 + 3 * i ∧ e = 0 ∧ xs = codesF ls (a + 14) i) ∨ (ls.length < a + 14 + 3 * i ∧ e = 10)

theorem CodesAt.next {ls : List Nat} {a i c e : Nat} {xs : List Nat} (h : CodesAt ls a i c e xs) {x c' e' : Nat} (ht : hTake ls c e 3 = (x, c', e')) : CodesAt ls a (i + 1) c' e' (xs.set (ord.getD i 0) x) := by
  rcases h with ⟨h1, rfl, rfl, rfl⟩ | ⟨h1, rfl⟩
  · by_cases hf : a + 14 + 3 * i + 3 ≤ ls.length
    · rw [hTake_ok hf] at ht
      simp only [Prod.mk.injEq] at ht
      obtain ⟨rfl, rfl, rfl⟩ := ht
      exact .inl ⟨by omega, by omega, rfl, rfl⟩
    · rw [hTake_end (by omega)] at ht
      simp only [Prod.mk.injEq] at ht
      obtain ⟨rfl, rfl, rfl⟩ := ht
      exact .inr ⟨by omega, rfl⟩
  · rw [hTake_stuck (by decide)] at ht
    simp only [Prod.mk.injEq] at ht
    obtain ⟨rfl, rfl, rfl⟩ := ht
    exact .inr ⟨by omega, rfl⟩

theorem ord_le : ∀ i, i < 19 → ord.getD i 0 ≤ 18 := by decide

theorem numAt3 (ls : List Nat) (h : ∀ b ∈ ls, b < 2) (c e : Nat) : (hTake ls c e 3).1 ≤ 7 := by
  have := numAt_lt ls h c 3
  unfold hTake
  split
  · simp
  · split
    · simp
    · simp only; omega

end Go.Proofs.YtofhlnpbflkdlaaDoor

/-
  A head that is laid is read as what was laid.
-/
namespace Go.Proofs.YtofhlnpbflkdlaaDoor

theorem fitL_iff {ns : List Nat} {s : Nat} (hm : measure ns ≤ 32768) (hs : s ∈ ris ns) (h15 : key ns s ≤ 15) (t : List Nat) (ht : ∀ b ∈ t, b < 2) : Fit ns t s ↔ key ns s ≤ t.length ∧ rv (key ns s) (n2 t) = codeOf ns s := by
  have hcl := code_lt2 hm hs h15
  have hpart : ∀ n, n ≤ t.length → n2 (t.take n) = n2 t % 2 ^ n := fun n hn => by
    have := n2_part t ht 0 n (by omega)
    simpa using this
  unfold Fit
  rw [List.prefix_iff_eq_take, rowOf_length]
  constructor
  · rintro ⟨_, h⟩
    have hl := congrArg List.length h
    rw [rowOf_length, List.length_take] at hl
    have hk : key ns s ≤ t.length := by omega
    refine ⟨hk, ?_⟩
    have h2 := congrArg n2 h
    rw [rowOf_n2, hpart _ hk] at h2
    rw [← rv_mod (key ns s) (key ns s) _ (Nat.le_refl _), ← h2, rv_rv, Nat.mod_eq_of_lt hcl]
  · rintro ⟨hk, h⟩
    refine ⟨(mem_ris.1 hs).2, ?_⟩
    refine n2_inj _ _ (by rw [rowOf_length, List.length_take]; omega) (rowOf_bit ns s) (fun x hx => ht x (List.mem_of_mem_take hx)) ?_
    rw [rowOf_n2, hpart _ hk, ← h, rv_rv]

/-- The row of a symbol that comes is read as it. -/
theorem nextF_row {ns : List Nat} {s : Nat} (hm : measure ns ≤ 32768) (h15 : ∀ x, key ns x ≤ 15) (hs : s < ns.length) (h0 : key ns s ≠ 0) (rest : List Nat) (hr : ∀ b ∈ rest, b < 2) : nextF ns (rowOf ns s ++ rest) = (s, key ns s, 0) := by
  have hb : ∀ b ∈ rowOf ns s ++ rest, b < 2 := fun b hb => by
    rcases List.mem_append.1 hb with h | h
    · exact rowOf_bit ns s b h
    · exact hr b h
  have hsr : s ∈ ris ns := mem_ris.2 ⟨hs, h0⟩
  have hf : Fit ns (rowOf ns s ++ rest) s := ⟨h0, List.prefix_append _ _⟩
  refine nextF_of (.inl ⟨rfl, hs, hf, rfl, fun j hj hfj => ?_⟩)
  have hjr : j ∈ ris ns := mem_ris.2 ⟨by omega, hfj.1⟩
  have h1 := ((fitL_iff hm hsr (h15 s) _ hb).1 hf).2
  have h2 := ((fitL_iff hm hjr (h15 j) _ hb).1 hfj).2
  have := fits_one hjr hsr h15 h2 h1
  omega

theorem numAt_laid (A B : List Nat) (v n : Nat) (h : v < 2 ^ n) : numAt (A ++ (bitsOf v n ++ B)) A.length n = v := by
  unfold numAt
  rw [List.drop_left, List.take_append_of_le_length (by rw [bitsOf_length]; exact Nat.le_refl _), List.take_of_length_le (by rw [bitsOf_length]; exact Nat.le_refl _), bitsOf_n2, Nat.mod_eq_of_lt h]

/-- A step's bits. -/
def stepBits (cs : List Nat) (s : Nat × Nat) : List Nat := rowOf cs s.1 ++ bitsOf s.2 (xbits s.1)

theorem stepBits_length (cs : List Nat) (s : Nat × Nat) : (stepBits cs s).length = key cs s.1 + xbits s.1 := by rw [stepBits, List.length_append, rowOf_length, bitsOf_length]

theorem stepBits_bit (cs : List Nat) (s : Nat × Nat) : ∀ b ∈ stepBits cs s, b < 2 := by
  intro b hb
  rcases List.mem_append.1 hb with h | h
  · exact rowOf_bit _ _ b h
  · exact bitsOf_lt _ _ b h

/-- Steps that may be laid by these codes. -/
def StepsOk (cs : List Nat) (ss : List (Nat × Nat)) : Prop := ∀ s ∈ ss, s.1 < cs.length ∧ key cs s.1 ≠ 0 ∧ s.2 < 2 ^ xbits s.1

theorem stepF_laid {cs : List Nat} (hm : measure cs ≤ 32768) (h15 : ∀ x, key cs x ≤ 15) (A B : List Nat) (hB : ∀ b ∈ B, b < 2) (s : Nat × Nat) (h1 : s.1 < cs.length) (h2 : key cs s.1 ≠ 0) (h3 : s.2 < 2 ^ xbits s.1) :
    stepF cs (A ++ (stepBits cs s ++ B)) A.length = .ok (s, A.length + (stepBits cs s).length) := by
  have hn : nextF cs ((A ++ (stepBits cs s ++ B)).drop A.length) = (s.1, key cs s.1, 0) := by
    rw [List.drop_left, stepBits, List.append_assoc]
    refine nextF_row hm h15 h1 h2 _ (fun b hb => ?_)
    rcases List.mem_append.1 hb with h | h
    · exact bitsOf_lt _ _ b h
    · exact hB b h
  have hx : numAt (A ++ (stepBits cs s ++ B)) (A.length + key cs s.1) (xbits s.1) = s.2 := by
    have := numAt_laid (A ++ rowOf cs s.1) B s.2 (xbits s.1) h3
    rw [List.length_append, rowOf_length] at this
    rw [stepBits, List.append_assoc, ← List.append_assoc A]
    exact this
  unfold stepF
  rw [hn]
  simp only
  rw [if_neg (by simp), if_neg (by rw [List.length_append, List.length_append, stepBits_length]; omega), hx, stepBits_length, Nat.add_assoc]

theorem bodyF_laid {cs : List Nat} (hm : measure cs ≤ 32768) (h15 : ∀ x, key cs x ≤ 15) (N : Nat) (B : List Nat) (hB : ∀ b ∈ B, b < 2) (ss : List (Nat × Nat)) (hs : StepsOk cs ss) (A l m : List Nat) (f : Nat) (hl : ∀ x ∈ l, x ≤ 15) (hf : N - l.length ≤ f)
    (hr : runM N l (ss.map (fun s => ((s.1 : Int), (s.2 : Int)))) = some m) (hN : m.length = N) : bodyF cs (A ++ (ss.flatMap (stepBits cs) ++ B)) N f l A.length = .ok (m, A.length + (ss.flatMap (stepBits cs)).length) := by
  induction ss generalizing A l f with
  | nil =>
    simp only [List.map_nil, runM, Option.some.injEq] at hr
    subst hr
    rw [bodyF_end (by omega)]
    simp
  | cons s r ih =>
    have h1 := hs s (by simp)
    simp only [List.map_cons, runM] at hr
    cases hw : withM l ((s.1 : Int), (s.2 : Int)) N with
    | none => rw [hw] at hr; cases hr
    | some l2 =>
      rw [hw] at hr
      simp only at hr
      have hg := withM_grows hw hl
      obtain ⟨f, rfl⟩ : ∃ g, f = g + 1 := ⟨f - 1, by omega⟩
      have hB2 : ∀ b ∈ r.flatMap (stepBits cs) ++ B, b < 2 := fun b hb => by
        rcases List.mem_append.1 hb with h | h
        · obtain ⟨t, _, ht⟩ := List.mem_flatMap.1 h
          exact stepBits_bit cs t b ht
        · exact hB b h
      have hst := stepF_laid hm h15 A (r.flatMap (stepBits cs) ++ B) hB2 s h1.1 h1.2.1 h1.2.2
      rw [List.flatMap_cons, List.append_assoc, bodyF_step (by omega) hst, hw]
      simp only
      have := ih (fun t ht => hs t (List.mem_cons_of_mem _ ht)) (A ++ stepBits cs s) l2 f hg.2.2 (by omega) hr
      rw [List.append_assoc, List.length_append] at this
      rw [this, List.length_append, Nat.add_assoc]

/-- The lengths of the steps' codes, as bits. -/
def codeBits (cs : List Nat) : Nat → List Nat
  | 0 => []
  | i + 1 => codeBits cs i ++ bitsOf (cs.getD (ord.getD i 0) 0) 3

theorem codeBits_length (cs : List Nat) (i : Nat) : (codeBits cs i).length = 3 * i := by
  induction i with
  | zero => rfl
  | succ i ih => rw [codeBits, List.length_append, ih, bitsOf_length]; omega

theorem codeBits_bit (cs : List Nat) (i : Nat) : ∀ b ∈ codeBits cs i, b < 2 := by
  induction i with
  | zero => simp [codeBits]
  | succ i ih =>
    intro b hb
    rcases List.mem_append.1 hb with h | h
    · exact ih b h
    · exact bitsOf_lt _ _ b h

theorem codeBits_split (cs : List Nat) (i n : Nat) (h : i < n) : ∃ r, codeBits cs n = codeBits cs i ++ (bitsOf (cs.getD (ord.getD i 0) 0) 3 ++ r) := by
  induction n with
  | zero => omega
  | succ n ih =>
    by_cases e : i = n
    · subst e; exact ⟨[], by simp [codeBits]⟩
    · obtain ⟨r, hr⟩ := ih (by omega)
      exact ⟨r ++ bitsOf (cs.getD (ord.getD n 0) 0) 3, by rw [codeBits, hr]; simp⟩

theorem ord_all : ∀ p, p < 19 → ∃ j, j < 19 ∧ ord.getD j 0 = p := by decide

theorem codesF_laid (cs : List Nat) (h7 : ∀ x ∈ cs, x ≤ 7) (hl : cs.length = 19) (A B : List Nat) (n : Nat) (hn : n ≤ 19) (i : Nat) (hi : i ≤ n) : ∀ p, p < 19 → (codesF (A ++ (codeBits cs n ++ B)) A.length i).getD p 0 = if (∃ j, j < i ∧ ord.getD j 0 = p) then cs.getD p 0 else 0 := by
  induction i with
  | zero =>
    intro p hp
    rw [if_neg (by rintro ⟨j, hj, _⟩; omega)]
    rw [codesF, List.getD_eq_getElem?_getD, List.getElem?_replicate, if_pos hp]
    rfl
  | succ i ih =>
    intro p hp
    have ih := ih (by omega) p hp
    obtain ⟨r, hr⟩ := codeBits_split cs i n (by omega)
    have ho := ord_le i (by omega)
    have hv : cs.getD (ord.getD i 0) 0 < 2 ^ 3 := by
      have hlt : ord.getD i 0 < cs.length := by omega
      have e : cs.getD (ord.getD i 0) 0 = cs[ord.getD i 0] := by rw [List.getD_eq_getElem?_getD, List.getElem?_eq_getElem hlt]; rfl
      rw [e]
      have := h7 _ (List.getElem_mem hlt)
      omega
    have hnum : numAt (A ++ (codeBits cs n ++ B)) (A.length + 3 * i) 3 = cs.getD (ord.getD i 0) 0 := by
      have := numAt_laid (A ++ codeBits cs i) (r ++ B) _ 3 hv
      rw [List.length_append, codeBits_length] at this
      rw [hr]
      simp only [List.append_assoc] at this ⊢
      exact this
    rw [codesF, hnum]
    have hlen := codesF_length (A ++ (codeBits cs n ++ B)) A.length i
    by_cases e : ord.getD i 0 = p
    · rw [if_pos ⟨i, by omega, e⟩, e]
      rw [List.getD_eq_getElem?_getD, List.getElem?_set_self (by omega)]
      rfl
    · rw [List.getD_eq_getElem?_getD, List.getElem?_set_ne e, ← List.getD_eq_getElem?_getD, ih]
      by_cases h : ∃ j, j < i ∧ ord.getD j 0 = p
      · obtain ⟨j, hj, hp⟩ := h
        rw [if_pos ⟨j, hj, hp⟩, if_pos ⟨j, by omega, hp⟩]
      · rw [if_neg h, if_neg]
        rintro ⟨j, hj, hp⟩
        by_cases e2 : j = i
        · subst e2; exact e hp
        · exact h ⟨j, by omega, hp⟩

/-- What is laid for two lists. -/
structure HeadOk (lit dist : List Nat) (many : Nat) (cs : List Nat) (ss : List (Nat × Nat)) : Prop where
  l1 : 257 ≤ lit.length
  l2 : lit.length ≤ 286
  d1 : 1 ≤ dist.length
  d2 : dist.length ≤ 30
  m1 : 4 ≤ many
  m2 : many ≤ 19
  c19 : cs.length = 19
  c7 : ∀ x ∈ cs, x ≤ 7
  ok : chkN cs = 0
  rest : ∀ j, many ≤ j → j < 19 → cs.getD (ord.getD j 0) 0 = 0
  st : StepsOk cs ss
  run : runM (lit.length + dist.length) [] (ss.map (fun s => ((s.1 : Int), (s.2 : Int)))) = some (lit ++ dist)

def headBits (nl nd many : Nat) (cs : List Nat) (ss : List (Nat × Nat)) : List Nat :=
  bitsOf (nl - 257) 5 ++ (bitsOf (nd - 1) 5 ++ (bitsOf (many - 4) 4 ++ (codeBits cs many ++ ss.flatMap (stepBits cs))))

theorem headBits_bit (nl nd many : Nat) (cs : List Nat) (ss : List (Nat × Nat)) : ∀ b ∈ headBits nl nd many cs ss, b < 2 := by
  intro b hb
  unfold headBits at hb
  rcases List.mem_append.1 hb with h | h
  · exact bitsOf_lt _ _ b h
  · rcases List.mem_append.1 h with h | h
    · exact bitsOf_lt _ _ b h
    · rcases List.mem_append.1 h with h | h
      · exact bitsOf_lt _ _ b h
      · rcases List.mem_append.1 h with h | h
        · exact codeBits_bit _ _ b h
        · obtain ⟨t, _, ht⟩ := List.mem_flatMap.1 h
          exact stepBits_bit cs t b ht

theorem headBits_length (nl nd many : Nat) (cs : List Nat) (ss : List (Nat × Nat)) : (headBits nl nd many cs ss).length = 14 + 3 * many + (ss.flatMap (stepBits cs)).length := by
  unfold headBits
  simp only [List.length_append, bitsOf_length, codeBits_length]
  omega

theorem readF_laid {lit dist : List Nat} {many : Nat} {cs : List Nat} {ss : List (Nat × Nat)} (h : HeadOk lit dist many cs ss) (A B : List Nat) (hB : ∀ b ∈ B, b < 2) :
    readF (A ++ (headBits lit.length dist.length many cs ss ++ B)) A.length = .ok ((lit, dist), (headBits lit.length dist.length many cs ss).length) := by
  have hm : measure cs ≤ 32768 := by
    have := h.ok
    unfold chkN at this
    split at this
    · omega
    · omega
  have h15 : ∀ x, key cs x ≤ 15 := fun x => by
    by_cases e : x < cs.length
    · rw [key_get e]; have := h.c7 _ (List.getElem_mem e); omega
    · simp [key, e]
  have hl1 := h.l1; have hl2 := h.l2; have hd1 := h.d1; have hd2 := h.d2; have hm1 := h.m1; have hm2 := h.m2
  have hlen := headBits_length lit.length dist.length many cs ss
  obtain ⟨T, hT⟩ : ∃ T, T = A ++ (headBits lit.length dist.length many cs ss ++ B) := ⟨_, rfl⟩
  have hTl : T.length = A.length + (14 + 3 * many + (ss.flatMap (stepBits cs)).length) + B.length := by rw [hT, List.length_append, List.length_append, hlen]; omega
  have n1 : numAt T A.length 5 = lit.length - 257 := by
    have := numAt_laid A (bitsOf (dist.length - 1) 5 ++ (bitsOf (many - 4) 4 ++ (codeBits cs many ++ ss.flatMap (stepBits cs))) ++ B) (lit.length - 257) 5 (by omega)
    rw [hT]
    unfold headBits
    simp only [List.append_assoc] at this ⊢
    exact this
  have n2' : numAt T (A.length + 5) 5 = dist.length - 1 := by
    have := numAt_laid (A ++ bitsOf (lit.length - 257) 5) (bitsOf (many - 4) 4 ++ (codeBits cs many ++ ss.flatMap (stepBits cs)) ++ B) (dist.length - 1) 5 (by omega)
    rw [List.length_append, bitsOf_length] at this
    rw [hT]
    unfold headBits
    simp only [List.append_assoc] at this ⊢
    exact this
  have n3 : numAt T (A.length + 10) 4 = many - 4 := by
    have := numAt_laid (A ++ (bitsOf (lit.length - 257) 5 ++ bitsOf (dist.length - 1) 5)) (codeBits cs many ++ ss.flatMap (stepBits cs) ++ B) (many - 4) 4 (by omega)
    rw [List.length_append, List.length_append, bitsOf_length, bitsOf_length] at this
    rw [hT]
    unfold headBits
    simp only [List.append_assoc] at this ⊢
    exact this
  have hcs : codesF T (A.length + 14) many = cs := by
    have hA : (A ++ (bitsOf (lit.length - 257) 5 ++ (bitsOf (dist.length - 1) 5 ++ bitsOf (many - 4) 4))).length = A.length + 14 := by simp [bitsOf_length]
    have := codesF_laid cs h.c7 h.c19 (A ++ (bitsOf (lit.length - 257) 5 ++ (bitsOf (dist.length - 1) 5 ++ bitsOf (many - 4) 4))) (ss.flatMap (stepBits cs) ++ B) many hm2 many (Nat.le_refl _)
    rw [hA] at this
    have eT : A ++ (bitsOf (lit.length - 257) 5 ++ (bitsOf (dist.length - 1) 5 ++ bitsOf (many - 4) 4)) ++ (codeBits cs many ++ (ss.flatMap (stepBits cs) ++ B)) = T := by rw [hT]; unfold headBits; simp only [List.append_assoc]
    rw [eT] at this
    refine List.ext_getElem (by rw [codesF_length, h.c19]) (fun p h1 h2 => ?_)
    rw [codesF_length] at h1
    have hp := this p h1
    have e1 : (codesF T (A.length + 14) many).getD p 0 = (codesF T (A.length + 14) many)[p] := by rw [List.getD_eq_getElem?_getD, List.getElem?_eq_getElem]; rfl
    have e2 : cs.getD p 0 = cs[p] := by rw [List.getD_eq_getElem?_getD, List.getElem?_eq_getElem]; rfl
    rw [e1] at hp
    rw [hp]
    obtain ⟨j, hj, hjp⟩ := ord_all p h1
    by_cases hjm : j < many
    · rw [if_pos ⟨j, hjm, hjp⟩, e2]
    · have hz := h.rest j (by omega) hj
      rw [hjp, e2] at hz
      split
      · exact e2
      · exact hz.symm
  have hbody : bodyF cs T (lit.length + dist.length) (lit.length + dist.length) [] (A.length + 14 + 3 * many) = .ok (lit ++ dist, A.length + 14 + 3 * many + (ss.flatMap (stepBits cs)).length) := by
    have hA : (A ++ (bitsOf (lit.length - 257) 5 ++ (bitsOf (dist.length - 1) 5 ++ (bitsOf (many - 4) 4 ++ codeBits cs many)))).length = A.length + 14 + 3 * many := by simp [bitsOf_length, codeBits_length]; omega
    have := bodyF_laid hm h15 (lit.length + dist.length) B hB ss h.st (A ++ (bitsOf (lit.length - 257) 5 ++ (bitsOf (dist.length - 1) 5 ++ (bitsOf (many - 4) 4 ++ codeBits cs many)))) [] (lit ++ dist) (lit.length + dist.length) (by simp) (by simp) h.run (by simp)
    rw [hA] at this
    have eT : A ++ (bitsOf (lit.length - 257) 5 ++ (bitsOf (dist.length - 1) 5 ++ (bitsOf (many - 4) 4 ++ codeBits cs many))) ++ (ss.flatMap (stepBits cs) ++ B) = T := by rw [hT]; unfold headBits; simp only [List.append_assoc]
    rw [eT] at this
    exact this
  rw [← hT]
  unfold readF
  rw [n1, n2', n3, show many - 4 + 4 = many by omega, show lit.length - 257 + 257 = lit.length by omega, show dist.length - 1 + 1 = dist.length by omega, hcs, hbody, if_neg (by omega), if_neg (by omega), if_neg (by omega), if_neg (by rw [h.ok]; simp)]
  simp only
  rw [List.take_left, List.drop_left, hlen]
  congr 2
  omega

end Go.Proofs.YtofhlnpbflkdlaaDoor

/-
  Unpack of Pack; how long a head is.
-/
namespace Go.Proofs.YtofhlnpbflkdlaaDoor

theorem withM_mono {l m : List Nat} {s : Int × Int} {n n' : Nat} (h : n' ≤ n) (hw : withM l s n' = some m) : withM l s n = some m := by
  unfold withM at hw ⊢
  split at hw
  · cases hw
  · split at hw
    · cases hw
    · rename_i v k hs _
      rw [if_neg (by omega)]
      exact hw

theorem runM_mono {l m : List Nat} {ss : List (Int × Int)} {n n' : Nat} (h : n' ≤ n) (hr : runM n' l ss = some m) : runM n l ss = some m := by
  induction ss generalizing l with
  | nil => exact hr
  | cons a r ih =>
    simp only [runM] at hr ⊢
    cases hw : withM l a n' with
    | none => rw [hw] at hr; cases hr
    | some k =>
      rw [hw] at hr
      rw [withM_mono h hw]
      exact ih hr

theorem unp_same (l : List Nat) (h15 : ∀ x ∈ l, x ≤ 15) (hn : l.length ≤ 316) : unpM (packM l) (l.length : Int) = .ok l := by
  unfold unpM
  rw [if_neg (by omega), Int.toNat_natCast, runM_pack l.length l [] h15 (by simp)]
  simp

theorem unp_less (l : List Nat) (h15 : ∀ x ∈ l, x ≤ 15) (hn : l.length ≤ 316) (h0 : 0 < l.length) : unpM (packM l) ((l.length : Int) - 1) = .error 41 := by
  unfold unpM
  rw [if_neg (by omega)]
  have e : ((l.length : Int) - 1).toNat = l.length - 1 := by omega
  rw [e]
  cases hr : runM (l.length - 1) [] (packM l) with
  | none => rfl
  | some m =>
    exfalso
    have h1 := runM_mono (n := l.length) (by omega) hr
    rw [runM_pack l.length l [] h15 (by simp)] at h1
    simp only [List.nil_append, Option.some.injEq] at h1
    have h2 := runM_le hr (by simp) (by simp)
    rw [← h1] at h2
    omega

theorem unp_more (l : List Nat) (h15 : ∀ x ∈ l, x ≤ 15) (hn : l.length < 316) : unpM (packM l) ((l.length : Int) + 1) = .error 41 := by
  unfold unpM
  rw [if_neg (by omega)]
  have e : ((l.length : Int) + 1).toNat = l.length + 1 := by omega
  rw [e, runM_pack (l.length + 1) l [] h15 (by simp)]
  simp

theorem unp_far (ss : List (Int × Int)) (n : Int) (h : n < 0 ∨ 316 < n) : unpM ss n = .error 1 := by
  unfold unpM
  rw [if_pos h]

theorem xbits_le (s : Nat) : xbits s ≤ 7 := by
  unfold xbits
  split
  · omega
  · split
    · omega
    · split <;> omega

theorem steps_len (cs : List Nat) (h7 : ∀ x ∈ cs, x ≤ 7) (ss : List (Nat × Nat)) : (ss.flatMap (stepBits cs)).length ≤ 14 * ss.length := by
  induction ss with
  | nil => simp
  | cons s r ih =>
    rw [List.flatMap_cons, List.length_append, stepBits_length, List.length_cons]
    have h1 := xbits_le s.1
    have h2 : key cs s.1 ≤ 7 := by
      by_cases e : s.1 < cs.length
      · rw [key_get e]; exact h7 _ (List.getElem_mem e)
      · simp [key, e]
    omega

theorem head_len {lit dist : List Nat} {many : Nat} {cs : List Nat} {ss : List (Nat × Nat)} (h : HeadOk lit dist many cs ss) (hs : ss.length ≤ lit.length + dist.length) : (headBits lit.length dist.length many cs ss).length ≤ 71 + 14 * (lit.length + dist.length) := by
  rw [headBits_length]
  have h1 := steps_len cs h.c7 ss
  have h2 := h.m2
  omega

/-- Pack's steps in numbers from 0 on, and what they are. -/
def packN (l : List Nat) : List (Nat × Nat) := (packM l).map (fun s => (s.1.toNat, s.2.toNat))

/-- A step that may be. -/
def StepIs (s : Int × Int) : Prop := 0 ≤ s.1 ∧ s.1 ≤ 18 ∧ 0 ≤ s.2 ∧ s.2.toNat < 2 ^ xbits s.1.toNat

theorem zerosM_is (n : Nat) : ∀ s ∈ zerosM n, StepIs s := by
  induction n using Nat.strongRecOn with
  | ind n ih =>
    intro s hs
    by_cases h : 11 ≤ n
    · rw [zerosM_big n h] at hs
      rcases List.mem_cons.1 hs with rfl | hs
      · refine ⟨by simp, by simp, by simp only; omega, ?_⟩
        show (((min n 138 - 11 : Nat) : Int)).toNat < 2 ^ 7
        omega
      · exact ih _ (by omega) s hs
    · by_cases h3 : 3 ≤ n
      · rw [zerosM_mid n (by omega) h3] at hs
        have : s = (17, ((n - 3 : Nat) : Int)) := by simpa using hs
        subst this
        refine ⟨by simp, by simp, by simp only; omega, ?_⟩
        show (((n - 3 : Nat) : Int)).toNat < 2 ^ 3
        omega
      · rw [zerosM_few n (by omega)] at hs
        have := List.eq_of_mem_replicate hs
        subst this
        exact ⟨by simp, by simp, by simp, by decide⟩

theorem againM_is (v n : Nat) (hv : v ≤ 15) : ∀ s ∈ againM v n, StepIs s := by
  induction n using Nat.strongRecOn with
  | ind n ih =>
    intro s hs
    by_cases h : 3 ≤ n
    · rw [againM_big v n h] at hs
      rcases List.mem_cons.1 hs with rfl | hs
      · refine ⟨by simp, by simp, by simp only; omega, ?_⟩
        show (((min n 6 - 3 : Nat) : Int)).toNat < 2 ^ 2
        omega
      · exact ih _ (by omega) s hs
    · rw [againM_few v n (by omega)] at hs
      have := List.eq_of_mem_replicate hs
      subst this
      refine ⟨by simp, by simp only; omega, by simp, ?_⟩
      show (0 : Int).toNat < 2 ^ xbits _
      exact Nat.two_pow_pos _

theorem sayM_is (v n : Nat) (hv : v ≤ 15) : ∀ s ∈ sayM v n, StepIs s := by
  intro s hs
  unfold sayM at hs
  split at hs
  · exact zerosM_is n s hs
  · rcases List.mem_cons.1 hs with rfl | hs
    · refine ⟨by simp, by simp only; omega, by simp, ?_⟩
      show (0 : Int).toNat < 2 ^ xbits _
      exact Nat.two_pow_pos _
    · exact againM_is v _ hv s hs

theorem packM_is (l : List Nat) (h15 : ∀ x ∈ l, x ≤ 15) : ∀ s ∈ packM l, StepIs s := by
  induction hn : l.length using Nat.strongRecOn generalizing l with
  | ind n ih =>
    cases l with
    | nil => intro s hs; simp [packM] at hs
    | cons v r =>
      intro s hs
      rw [packM_cons] at hs
      rcases List.mem_append.1 hs with hs | hs
      · exact sayM_is v _ (h15 v (by simp)) s hs
      · exact ih (r.drop (frontN v r)).length (by simp at hn ⊢; omega) _ (fun x hx => h15 x (List.mem_cons_of_mem _ (List.mem_of_mem_drop hx))) rfl s hs

theorem packN_cast (l : List Nat) (h15 : ∀ x ∈ l, x ≤ 15) : (packN l).map (fun s => ((s.1 : Int), (s.2 : Int))) = packM l := by
  unfold packN
  rw [List.map_map]
  conv => rhs; rw [← List.map_id (packM l)]
  refine List.map_congr_left (fun s hs => ?_)
  have h := packM_is l h15 s hs
  simp only [Function.comp, id]
  rw [Int.toNat_of_nonneg h.1, Int.toNat_of_nonneg h.2.2.1]

theorem packN_length (l : List Nat) : (packN l).length ≤ l.length := by
  unfold packN
  rw [List.length_map]
  exact packM_len l

end Go.Proofs.YtofhlnpbflkdlaaDoor
