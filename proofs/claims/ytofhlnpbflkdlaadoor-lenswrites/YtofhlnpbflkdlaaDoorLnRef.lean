/-
  The reference's layer 4: lengths, times, says, With, Unpack.
-/
import Derived.Test.YtofhlnpbflkdlaaDoorLnM
import Derived.Test.YtofhlnpbflkdlaaDoorRec
namespace Go.Proofs.YtofhlnpbflkdlaaDoor
open Go.RowKit

/-- A step's cells. -/
def stC (s : Int × Int) : List Value := [.int .i64 s.1, .int .i64 s.2]

theorem stC_ok : EncOk stC 2 := ⟨fun _ => rfl, fun x u hu => by simp [stC] at hu; rcases hu with rfl | rfl <;> rfl, by decide⟩

abbrev StRow (B : Nat) := RowC B 31 2 stC
abbrev StSrc := @SrcC (Int × Int) 2 stC

theorem Tryd.infoSt : (Tryd.prog.info? 31).map (fun i => (i.zero, i.size, i.bytes)) = some (some (.agg #[.int .i64 0, .int .i64 0]), 2, 16) := by kernel_rfl

theorem step_new (w : World) (x y : Int) : CellsAt (w.alloc (.cells #[.int .i64 x, .int .i64 y] 31)) ⟨w.heap.size, 0, none⟩ ([(x, y)].flatMap stC) := by
  intro j u hu
  match j, hu with
  | 0, hu => simp [stC] at hu; subst hu; simp [addAt]
  | 1, hu => simp [stC] at hu; subst hu; simp [addAt]
  | j + 2, hu => simp [stC] at hu

/-- append of one step. -/
theorem wpList_append_step {ops : Array Oper} {rest : List Oper} {o : Oper} {a : Act} {Q : Exit → Act → World → Prop} (w : World) (B : Nat) (hgd : o.guard = none) (s x : Operand)
    (ho : o.op = .call { callee := .builtin .append, args := #[s, x], argTypes := #[25, 25] })
    (v : Value) (ss : List (Int × Int)) (hs : a.eval s = v) (hrow : StRow B w v ss) (ad : Addr) (y : Int × Int) (hx : a.eval x = .slice (some ad) 1 1) (hcs : CellsAt w ad ([y].flatMap stC)) (hlen : ss.length + 1 ≤ 1000000000) (hB : B ≤ w.heap.size)
    (h : ∀ v' w', StRow B w' v' (ss ++ [y]) → w.grownBy w' v.ownBlock → wpList Tryd.prog ops Q rest (a.put o.dst v') w') : wpList Tryd.prog ops Q (o :: rest) a w :=
  wpList_append_c w stC 2 stC_ok (by decide) B 25 31 (.agg #[.int .i64 0, .int .i64 0]) 16 Tryd.underlying25 Tryd.infoSt rfl (by decide) hgd s x ho v ss hs hrow ad 1 1 [y] hx rfl hcs hlen hB h

/-- What lies at B or beyond may have turned. -/
abbrev Over (B : Nat) (k : Nat) : Prop := B ≤ k

theorem Kept.over {B : Nat} {a b c : World} (h : Kept (Over B) a b) (k : Kept (Over B) b c) : Kept (Over B) a c := Kept.trans h k (fun _ _ x => x) (fun _ _ x => x)
theorem Kept.same_over {a b : World} {B : Nat} (h : Kept (Over B) a b) (hB : a.heap.size ≤ B) : Same a b := h.mono (fun x hx e => by unfold Over at e; omega)
theorem Same.over {a b : World} (B : Nat) (h : Same a b) : Kept (Over B) a b := h.mono (fun _ _ e => e.elim)

/-- May all lengths be? -/
def lensOk (zs : List Int) : Bool := !(zs.any (badI 0 15))

theorem lensOk_iff (zs : List Int) : lensOk zs = true ↔ ∀ z ∈ zs, 0 ≤ z ∧ z ≤ 15 := by
  simp only [lensOk, Bool.not_eq_true', List.any_eq_false, badI]
  constructor
  · intro h z hz; have := h z hz; simp at this; omega
  · intro h z hz; have := h z hz; simp; omega

set_option maxHeartbeats 1000000 in
theorem lengths_any (w : World) (v : Value) (I : Nat → Prop) (zs : List Int) (hs : SrcE intV w I v zs) (hn : zs.length ≤ 10000000) :
    Calls Tryd.prog 37 #[v] w fun e w' => e = .returned (.bool (lensOk zs)) ∧ w' = w := by
  obtain ⟨ao, cap, rfl, hx1, hx2⟩ := id hs
  clear hx1 hx2
  have HS : Hid (SrcE intV w I (.slice ao zs.length cap) zs) := hs
  clear hs
  go_enter Tryd.func37, Tryd.ntmps37
  go_wp2_with fail
  go_loopg [3] zs.length (fun q zi wr => ∃ (i : Nat), zs.length - i ≤ q ∧ i ≤ zs.length ∧ zi = .int .i64 (i : Nat) ∧ wr = w ∧ Hid ((zs.take i).any (badI 0 15) = false))
  case atStart => exact ⟨0, by omega, by omega, rfl, rfl, hid (by simp)⟩
  case round =>
    obtain ⟨i, hq, hi, rfl, rfl, HF⟩ := hrel
    by_cases hlt : i < zs.length
    · obtain ⟨b, o, cap', e, _, _, cx⟩ := HS.out.get i hlt
      simp only [Value.slice.injEq] at e
      obtain ⟨rfl, hxe, rfl⟩ := e
      clear hxe
      obtain ⟨x, hx⟩ : ∃ x, x = zs[i] := ⟨_, rfl⟩
      rw [← hx] at cx
      unfold intV at cx
      have HX : Hid (x = zs[i]) := hx
      have HBAD : Hid (badI 0 15 x = true → lensOk zs = false) := hid (fun h => by
        have : zs.any (badI 0 15) = true := List.any_eq_true.2 ⟨x, by rw [hx]; exact List.getElem_mem _, h⟩
        simp [lensOk, this])
      clear hx
      by_cases hneg : x < 0
      · have HE : Hid (lensOk zs = false) := hid (HBAD.out (by simp [badI]; omega))
        go_wp2_with fail
        go_ret
        exact ⟨by rw [HE.out]; rfl, rfl⟩
      · by_cases hbig : 15 < x
        · have HE : Hid (lensOk zs = false) := hid (HBAD.out (by simp [badI]; omega))
          go_wp2_with fail
          go_ret
          exact ⟨by rw [HE.out]; rfl, rfl⟩
        · have HOKX : Hid (badI 0 15 x = false) := hid (by simp [badI]; omega)
          go_wp2_with fail
          go_roundg (gk - 1)
          case measure => omega
          case rel => exact ⟨i + 1, by omega, by omega, by go_num, rfl, hid (by rw [List.take_succ_eq_append_getElem hlt, List.any_append, HF.out, ← HX.out]; simp [HOKX.out])⟩
    · have HE : Hid (lensOk zs = true) := hid (by
        have h := HF.out
        rw [List.take_of_length_le (by omega)] at h
        simp [lensOk, h])
      go_wp2_with fail
      go_ret
      exact ⟨by rw [HE.out]; rfl, rfl⟩

set_option maxHeartbeats 1000000 in
theorem times_any (w : World) (B : Nat) (v : Value) (ss : List (Int × Int)) (n : Nat) (sym : Int) (hrow : StRow B w v ss) (hB : B ≤ w.heap.size) (hlen : ss.length + n ≤ 1000000) :
    Calls Tryd.prog 38 #[v, .int .i64 (n : Nat), .int .i64 sym] w fun e w' => ∃ v', e = .returned v' ∧ StRow B w' v' (ss ++ List.replicate n (sym, 0)) ∧ Kept (Over B) w w' := by
  have HR : Hid (StRow B w v ss) := hrow
  clear hrow
  go_enter Tryd.func38, Tryd.ntmps38
  go_wp2_with fail
  go_loopg [0, 7] n (fun q zv zi wr => ∃ (i : Nat), n - i ≤ q ∧ i ≤ n ∧ zi = .int .i64 (i : Nat) ∧ Hid (StRow B wr zv (ss ++ List.replicate i (sym, 0))) ∧ Hid (Kept (Over B) w wr))
  case atStart => exact ⟨0, by omega, by omega, rfl, hid (by simpa using HR.out), Kept.refl _ _⟩
  case round =>
    obtain ⟨i, hq, hi, rfl, HV, HK⟩ := hrel
    by_cases hlt : i < n
    · have hsz := HK.out.size
      have HL : Hid ((ss ++ List.replicate i (sym, (0 : Int))).length + 1 ≤ 1000000000) := hid (by simp; omega)
      go_wp2_with (at_builtin; refine wpList_append_step _ B rfl (.tmp 13) (.tmp 16) rfl u0 _ rfl (World.ownsRow.alloc HV.out _) ⟨wr.heap.size, 0, none⟩ (sym, 0) rfl (step_new _ _ _) HL.out (by simp; omega) ?_; intro v1 w1 hr1 hg1)
      have HV1 : Hid (StRow B w1 v1 (ss ++ List.replicate (i + 1) (sym, 0))) := hid (by rw [List.replicate_succ', ← List.append_assoc]; exact hr1)
      have HK1 : Hid (Kept (Over B) w w1) := hid ((HK.out.alloc _).grown hg1 (fun k e => .inl (by have := HV.out.ge e; exact this)))
      clear hr1 hg1
      go_wp2_with fail
      go_roundg (gk - 1)
      case measure => omega
      case rel => exact ⟨i + 1, by omega, by omega, by go_num, HV1, HK1⟩
    · have hin : i = n := by omega
      go_wp2_with fail
      go_ret
      exact ⟨_, rfl, by rw [← hin]; exact HV.out, HK.out⟩

/-- says' answer as a value. -/
def saysV : Option (Nat × Nat) → Value
  | some (v, k) => .tuple #[.int .i64 (v : Nat), .int .i64 (k : Nat), .bool true]
  | none => .tuple #[.int .i64 0, .int .i64 0, .bool false]

set_option maxRecDepth 100000 in
set_option maxHeartbeats 2000000 in
theorem says_any (w : World) (v : Value) (I : Nat → Prop) (l : List Nat) (a b : Int) (hs : SrcE natV w I v l) (hl : l.length ≤ 1000000) :
    Calls Tryd.prog 60 #[.agg #[.int .i64 a, .int .i64 b], v] w fun e w' => e = .returned (saysV (saysM (a, b) l)) ∧ Same w w' := by
  obtain ⟨ao, cap, rfl, hx1, hx2⟩ := id hs
  clear hx1 hx2
  have HS : Hid (SrcE natV w I (.slice ao l.length cap) l) := hs
  clear hs
  obtain ⟨L, hL⟩ : ∃ L, L = l.length := ⟨_, rfl⟩
  have HL : Hid (L = l.length) := hL
  by_cases h0 : 0 ≤ a
  · by_cases h15 : a ≤ 15
    · by_cases hb0 : b = 0
      · have HE : Hid (saysM (a, b) l = some (a.toNat, 1)) := hid (by unfold saysM; rw [if_pos ⟨h0, h15, hb0⟩])
        have ha : ((a.toNat : Nat) : Int) = a := by omega
        have HA : Hid (((a.toNat : Nat) : Int) = a) := ha
        subst hb0
        clear ha
        go_enter Tryd.func60, Tryd.ntmps60
        go_wp2_with fail
        refine bodyPost_ret (v := .tuple #[.int .i64 a, .int .i64 1, .bool true]) (by simp [results, Tryd.results60, go_sem]) rfl ⟨by rw [HE.out]; simp only [saysV]; rw [HA.out]; rfl, (Kept.refl _ w).alloc _⟩
      · have HE : Hid (saysM (a, b) l = none) := hid (by unfold saysM; simp only; repeat (rw [if_neg (by omega)]))
        have eb : (b == 0) = false := by simp; omega
        have e16 : (a == 16) = false := by simp; omega
        have e17 : (a == 17) = false := by simp; omega
        have e18 : (a == 18) = false := by simp; omega
        go_enter Tryd.func60, Tryd.ntmps60
        go_wp2_with fail
        refine bodyPost_ret (v := .tuple #[.int .i64 0, .int .i64 0, .bool false]) (by simp [results, Tryd.results60, go_sem]) rfl ⟨by rw [HE.out]; rfl, ((Kept.refl _ w).alloc _)⟩
    · have hd15 : decide (a ≤ 15) = false := by simp; omega
      by_cases h16 : a = 16
      · subst h16
        by_cases hb0 : 0 ≤ b
        · by_cases hb3 : b ≤ 3
          · by_cases hl0 : 0 < l.length
            · have HE : Hid (saysM (16, b) l = some (lastN l, b.toNat + 3)) := hid (by unfold saysM; rw [if_neg (by simp), if_pos ⟨rfl, hb0, hb3, hl0⟩])
              obtain ⟨b2, o2, cap2, e2, _, _, c2⟩ := HS.out.get (l.length - 1) (by omega)
              simp only [Value.slice.injEq] at e2
              obtain ⟨rfl, hxe, rfl⟩ := e2
              clear hxe
              obtain ⟨x, hx⟩ : ∃ x, x = lastN l := ⟨_, rfl⟩
              have hle : l[l.length - 1] = x := by rw [hx]; simp [lastN, List.getD, show l.length - 1 < l.length by omega]
              rw [hle] at c2
              unfold natV at c2
              have HX : Hid (x = lastN l) := hx
              clear hx hle
              obtain ⟨m, hm⟩ : ∃ m, m = l.length - 1 := ⟨_, rfl⟩
              rw [← hm] at c2
              have hmI : (L : Int) - 1 = (m : Int) := by omega
              have hmL : m < L := by omega
              have hwm : IntKind.i64.wrap (m : Int) = (m : Int) := by rw [IntKind.wrap_i64]; omega
              obtain ⟨k, hk⟩ : ∃ k, k = b.toNat + 3 := ⟨_, rfl⟩
              have hkI : b + 3 = (k : Int) := by omega
              have hwk : IntKind.i64.wrap (k : Int) = (k : Int) := by rw [IntKind.wrap_i64]; omega
              have HKK : Hid (k = b.toNat + 3) := hk
              have hlb : b2 < w.heap.size := World.block_lt_of_cell? w _ c2
              have c3 : (w.alloc (.cells #[.int .i64 16, .int .i64 b] 31)).cell? ⟨b2, o2 + m, none⟩ = some (.int .i64 (x : Nat)) := ((Kept.refl (fun _ => False) w).alloc _).cell c2 (fun h => h)
              rw [← hL] at hl0 ⊢
              clear hL hm hk c2
              go_enter Tryd.func60, Tryd.ntmps60
              go_wp2_with fail
              go_quiet (fail)
              go_wp2_with fail
              refine bodyPost_ret (v := .tuple #[.int .i64 (x : Nat), .int .i64 (k : Nat), .bool true]) (by simp [results, Tryd.results60, go_sem]) rfl ⟨by rw [HE.out]; simp only [saysV]; rw [← HX.out, ← HKK.out], ((Kept.refl _ w).alloc _).drewN _⟩
            · have HE : Hid (saysM (16, b) l = none) := hid (by unfold saysM; simp only; repeat (rw [if_neg (by omega)]))
              have hl1 : L = 0 := by omega
              rw [← hL] at hl ⊢
              clear hl0 hL HS
              subst hl1
              go_enter Tryd.func60, Tryd.ntmps60
              go_wp2_with fail
              refine bodyPost_ret (v := .tuple #[.int .i64 0, .int .i64 0, .bool false]) (by simp [results, Tryd.results60, go_sem]) rfl ⟨by rw [HE.out]; rfl, ((Kept.refl _ w).alloc _)⟩
          · have HE : Hid (saysM (16, b) l = none) := hid (by unfold saysM; simp only; repeat (rw [if_neg (by omega)]))
            have hb4 : decide (b ≤ 3) = false := by simp; omega
            go_enter Tryd.func60, Tryd.ntmps60
            go_wp2_with fail
            refine bodyPost_ret (v := .tuple #[.int .i64 0, .int .i64 0, .bool false]) (by simp [results, Tryd.results60, go_sem]) rfl ⟨by rw [HE.out]; rfl, ((Kept.refl _ w).alloc _)⟩
        · have HE : Hid (saysM (16, b) l = none) := hid (by unfold saysM; simp only; repeat (rw [if_neg (by omega)]))
          have hb4 : decide (0 ≤ b) = false := by simp; omega
          go_enter Tryd.func60, Tryd.ntmps60
          go_wp2_with fail
          refine bodyPost_ret (v := .tuple #[.int .i64 0, .int .i64 0, .bool false]) (by simp [results, Tryd.results60, go_sem]) rfl ⟨by rw [HE.out]; rfl, ((Kept.refl _ w).alloc _)⟩
      · have e16 : (a == 16) = false := by simp; omega
        by_cases h17 : a = 17
        · subst h17
          by_cases hb0 : 0 ≤ b
          · by_cases hb3 : b ≤ 7
            · have HE : Hid (saysM (17, b) l = some (0, b.toNat + 3)) := hid (by unfold saysM; rw [if_neg (by simp), if_neg (by simp), if_pos ⟨rfl, hb0, hb3⟩])
              obtain ⟨k, hk⟩ : ∃ k, k = b.toNat + 3 := ⟨_, rfl⟩
              have hkI : b + 3 = (k : Int) := by omega
              have hwk : IntKind.i64.wrap (k : Int) = (k : Int) := by rw [IntKind.wrap_i64]; omega
              have HKK : Hid (k = b.toNat + 3) := hk
              clear hk
              go_enter Tryd.func60, Tryd.ntmps60
              go_wp2_with fail
              go_quiet (fail)
              go_wp2_with fail
              refine bodyPost_ret (v := .tuple #[.int .i64 0, .int .i64 (k : Nat), .bool true]) (by simp [results, Tryd.results60, go_sem]) rfl ⟨by rw [HE.out]; simp only [saysV]; rw [← HKK.out]; rfl, ((Kept.refl _ w).alloc _).drewN _⟩
            · have HE : Hid (saysM (17, b) l = none) := hid (by unfold saysM; simp only; repeat (rw [if_neg (by omega)]))
              have hb4 : decide (b ≤ 7) = false := by simp; omega
              go_enter Tryd.func60, Tryd.ntmps60
              go_wp2_with fail
              refine bodyPost_ret (v := .tuple #[.int .i64 0, .int .i64 0, .bool false]) (by simp [results, Tryd.results60, go_sem]) rfl ⟨by rw [HE.out]; rfl, ((Kept.refl _ w).alloc _)⟩
          · have HE : Hid (saysM (17, b) l = none) := hid (by unfold saysM; simp only; repeat (rw [if_neg (by omega)]))
            have hb4 : decide (0 ≤ b) = false := by simp; omega
            go_enter Tryd.func60, Tryd.ntmps60
            go_wp2_with fail
            refine bodyPost_ret (v := .tuple #[.int .i64 0, .int .i64 0, .bool false]) (by simp [results, Tryd.results60, go_sem]) rfl ⟨by rw [HE.out]; rfl, ((Kept.refl _ w).alloc _)⟩
        · have e17 : (a == 17) = false := by simp; omega
          by_cases h18 : a = 18
          · subst h18
            by_cases hb0 : 0 ≤ b
            · by_cases hb3 : b ≤ 127
              · have HE : Hid (saysM (18, b) l = some (0, b.toNat + 11)) := hid (by unfold saysM; rw [if_neg (by simp), if_neg (by simp), if_neg (by simp), if_pos ⟨rfl, hb0, hb3⟩])
                obtain ⟨k, hk⟩ : ∃ k, k = b.toNat + 11 := ⟨_, rfl⟩
                have hkI : b + 11 = (k : Int) := by omega
                have hwk : IntKind.i64.wrap (k : Int) = (k : Int) := by rw [IntKind.wrap_i64]; omega
                have HKK : Hid (k = b.toNat + 11) := hk
                clear hk
                go_enter Tryd.func60, Tryd.ntmps60
                go_wp2_with fail
                go_quiet (fail)
                go_wp2_with fail
                refine bodyPost_ret (v := .tuple #[.int .i64 0, .int .i64 (k : Nat), .bool true]) (by simp [results, Tryd.results60, go_sem]) rfl ⟨by rw [HE.out]; simp only [saysV]; rw [← HKK.out]; rfl, ((Kept.refl _ w).alloc _).drewN _⟩
              · have HE : Hid (saysM (18, b) l = none) := hid (by unfold saysM; simp only; repeat (rw [if_neg (by omega)]))
                have hb4 : decide (b ≤ 127) = false := by simp; omega
                go_enter Tryd.func60, Tryd.ntmps60
                go_wp2_with fail
                refine bodyPost_ret (v := .tuple #[.int .i64 0, .int .i64 0, .bool false]) (by simp [results, Tryd.results60, go_sem]) rfl ⟨by rw [HE.out]; rfl, ((Kept.refl _ w).alloc _)⟩
            · have HE : Hid (saysM (18, b) l = none) := hid (by unfold saysM; simp only; repeat (rw [if_neg (by omega)]))
              have hb4 : decide (0 ≤ b) = false := by simp; omega
              go_enter Tryd.func60, Tryd.ntmps60
              go_wp2_with fail
              refine bodyPost_ret (v := .tuple #[.int .i64 0, .int .i64 0, .bool false]) (by simp [results, Tryd.results60, go_sem]) rfl ⟨by rw [HE.out]; rfl, ((Kept.refl _ w).alloc _)⟩
          · have HE : Hid (saysM (a, b) l = none) := hid (by unfold saysM; simp only; repeat (rw [if_neg (by omega)]))
            have e18 : (a == 18) = false := by simp; omega
            go_enter Tryd.func60, Tryd.ntmps60
            go_wp2_with fail
            refine bodyPost_ret (v := .tuple #[.int .i64 0, .int .i64 0, .bool false]) (by simp [results, Tryd.results60, go_sem]) rfl ⟨by rw [HE.out]; rfl, ((Kept.refl _ w).alloc _)⟩
  · have HE : Hid (saysM (a, b) l = none) := hid (by unfold saysM; simp only; repeat (rw [if_neg (by omega)]))
    have hda : decide (0 ≤ a) = false := by simp; omega
    have e16 : (a == 16) = false := by simp; omega
    have e17 : (a == 17) = false := by simp; omega
    have e18 : (a == 18) = false := by simp; omega
    go_enter Tryd.func60, Tryd.ntmps60
    go_wp2_with fail
    refine bodyPost_ret (v := .tuple #[.int .i64 0, .int .i64 0, .bool false]) (by simp [results, Tryd.results60, go_sem]) rfl ⟨by rw [HE.out]; rfl, ((Kept.refl _ w).alloc _)⟩

end Go.Proofs.YtofhlnpbflkdlaaDoor
