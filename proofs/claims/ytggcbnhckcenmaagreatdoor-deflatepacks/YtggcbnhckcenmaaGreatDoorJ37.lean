/-
  Of the proof: parts HRCodes.
-/
import Derived.Test.YtggcbnhckcenmaaGreatDoorJ9

/-
  The reference's Codes.
-/
namespace Go.Proofs.YtggcbnhckcenmaaGreatDoor
open Go.RowKit
theorem set_mid {α : Type} (A : List α) (x y : α) (B : List α) (i : Nat) (h : i = A.length) : (A ++ x :: B).set i y = A ++ y :: B := by
  subst h
  rw [List.set_append_right _ _ (Nat.le_refl _), Nat.sub_self, List.set_cons_zero]

theorem get_mid {α : Type} (A : List α) (x : α) (B : List α) (i : Nat) (h : i = A.length) (hi : i < (A ++ x :: B).length) : (A ++ x :: B)[i] = x := by
  subst h
  simp

theorem n2_drop (l : List Nat) (m : Nat) (h : m < l.length) : n2 (l.drop m) = l[m] + 2 * n2 (l.drop (m + 1)) := by
  rw [List.drop_eq_getElem_cons h]
  rfl

set_option maxRecDepth 100000 in
set_option maxHeartbeats 4000000 in
theorem rcodes_good (w : World) (v : Value) (I : Nat → Prop) (zs : List Int) (ns : List Nat) (hs : SrcE intV w I v zs) (hg : Good zs ns) (hb : chk zs = 0) :
    Calls Tryz.prog 44 #[v] w fun e w' => (∃ g n, e = .returned (.tuple #[.slice (some ⟨g, 0, none⟩) n n, .int .i64 0]) ∧ WRow w.heap.size w' (.slice (some ⟨g, 0, none⟩) n n) (codesL ns)) ∧ Same w w' := by
  obtain ⟨ao, cap, rfl, hx1, hx2⟩ := id hs
  clear hx1 hx2
  have HC := rcheck_any w _ I zs hs (by have := hg.len; have := hg.max; omega)
  rw [hb] at HC
  have HG : Hid (Good zs ns) := hg
  have HROWS := rows_any w _ I ns (hs.recode hg.eq) hg.max hg.le hg.measure_le
  have hl : zs.length = ns.length := hg.len.symm
  have hmx := hg.max
  rw [hl] at HC HROWS ⊢
  clear hs hg hb hl
  obtain ⟨L, hL⟩ : ∃ L, L = ns.length := ⟨_, rfl⟩
  rw [← hL] at HC HROWS hmx ⊢
  have HL : Hid (L = ns.length) := hL
  clear hL
  go_enter Tryz.func44, Tryz.ntmps44
  go_wp2_with fail
  refine HC.mono ?_
  rintro e w0 ⟨rfl, rfl⟩
  clear HC
  go_wp2_with fail
  refine HROWS.mono ?_
  rintro e w2 ⟨go, rs, rfl, hrw⟩
  have HRW : Hid (RW w0 w2 go L ns (fun s => key ns s ≠ 0) rs ∧ rs.length = L) := ⟨hrw, hrw.row.len⟩
  have hz2 := hrw.same.size
  clear hrw HROWS
  go_wp2_with (at_make; refine wpList_make_e _ wordV 0 w2.heap.size 59 63 4 Tryz.underlying59 Tryz.infoW rfl (by decide) rfl _ _ rfl _ _ _ _ L rfl rfl rfl rfl (by omega) (Nat.le_refl _) ?_; intro w3 hr3 hg3 hs3; have HR3 : Hid (WRow w2.heap.size w3 (.slice (some ⟨w2.heap.size, 0, none⟩) L L) (List.replicate L 0)) := hr3; have HK3 : Hid (Same w2 w3) := hid ((Kept.refl _ w2).grown hg3 (by simp)); clear hr3 hg3)
  go_loopg [7] L (fun q zi wr => ∃ (i : Nat), L - i ≤ q ∧ i ≤ L ∧ zi = .int .i64 (i : Nat) ∧ Hid (WRow w2.heap.size wr (.slice (some ⟨w2.heap.size, 0, none⟩) L L) ((codesL ns).take i ++ List.replicate (L - i) 0)) ∧ Hid (Same w2 wr))
  case atStart => exact ⟨0, by omega, by omega, rfl, hid (by simpa using HR3.out), HK3⟩
  case round =>
    obtain ⟨i, hq, hi, rfl, HR, HK⟩ := hrel
    clear HR3 HK3
    obtain ⟨gk0, hgk⟩ : ∃ x, x = gk := ⟨_, rfl⟩
    rw [← hgk] at hq
    have HG0 : Hid (gk0 = gk) := hgk
    clear hgk
    by_cases hlt : i < L
    · have hin : i < ns.length := by have := HL.out; omega
      have hirs : i < rs.length := by have := HRW.out.2; omega
      have hcl : i < (codesL ns).length := by rw [codesL_length]; exact hin
      have HRc := HRW.out.1.later HK.out
      obtain ⟨ra, rn, rc, hri⟩ : ∃ ra rn rc, rs[i] = (ra, rn, rc) := ⟨_, _, _, rfl⟩
      have cr : wr.cell? ⟨go, i, none⟩ = some (.slice ra rn rc) := by rw [HRc.row.cell i hirs, hri]; rfl
      -- the row of this symbol
      obtain ⟨bs, hbs, hrow, hrbl⟩ : ∃ bs, Hid (n2 bs = cdOf ns i ∧ (∀ b ∈ bs, b < 2) ∧ bs.length ≤ 15) ∧ Row wr (.slice ra rn rc) bs ∧ ∀ k, (Value.slice ra rn rc).ownBlock = some k → k < w2.heap.size := by
        by_cases hk : key ns i = 0
        · have e := HRc.none' i hirs (by simpa using hk)
          rw [hri] at e
          simp only [Prod.mk.injEq] at e
          obtain ⟨rfl, rfl, rfl⟩ := e
          exact ⟨[], hid ⟨by simp [cdOf, hk, n2], by simp, by simp⟩, World.ownsRow_nil _ _ _ _, fun k hk => by simp [Value.ownBlock] at hk⟩
        · have h := (HRc.have' i hirs hk).1
          have h2 := (HRW.out.1.have' i hirs hk).1
          rw [hri] at h h2
          exact ⟨_, hid ⟨by rw [rowB_n2, cdOf, if_neg hk], rowB_bit _ _, by rw [rowB_length]; exact HG.out.key_le i⟩, h, fun k hk => Row.lt h2 hk⟩
      have hrn : bs.length = rn := by
        obtain ⟨_, _, e, _⟩ := Row.shape hrow
        simp only [Value.slice.injEq] at e
        exact e.2.1.symm
      have hrn15 : rn ≤ 15 := by have := hbs.out.2.2; omega
      have HROW : Hid (Row wr (.slice ra rn rc) bs ∧ bs.length = rn ∧ ∀ k, (Value.slice ra rn rc).ownBlock = some k → k < w2.heap.size) := ⟨hrow, hrn, hrbl⟩
      have HRI : Hid (∃ h : i < rs.length, rs[i] = (ra, rn, rc)) := hid ⟨hirs, hri⟩
      have HCL : Hid ((codesL ns)[i] = cdOf ns i) := hid (by simp [codesL])
      have HRS : Hid ((codesL ns).take i ++ List.replicate (L - i) 0 = (codesL ns).take i ++ 0 :: List.replicate (L - i - 1) 0 ∧ ((codesL ns).take i).length = i) := hid ⟨by
        conv => lhs; rw [show L - i = (L - i - 1) + 1 by omega, List.replicate_succ], by rw [List.length_take]; omega⟩
      have hgo : go < w2.heap.size := HRW.out.1.row.lt rfl
      have hgl : i < (codesL ns).length := hcl
      clear hrow hrn hri HRc hrbl
      go_wp2_with fail
      go_loopg [8] rn (fun q zk wx => ∃ (m x : Nat), m ≤ q ∧ m ≤ rn ∧ zk = .int .i64 ((m : Int) - 1) ∧ x < 32768 ∧ Hid (x = n2 (bs.drop m)) ∧ Hid (WRow w2.heap.size wx (.slice (some ⟨w2.heap.size, 0, none⟩) L L) ((codesL ns).take i ++ x :: List.replicate (L - i - 1) 0)) ∧ Hid (Kept (· = w2.heap.size) wr wx))
      case atStart => exact ⟨rn, 0, by omega, by omega, by first | rfl | (congr 1; omega), by omega, hid (by rw [List.drop_eq_nil_of_le (by have := HROW.out.2.1; omega)]; rfl), hid (by rw [← HRS.out.1]; exact HR.out), Kept.refl _ _⟩
      case round =>
        clear cr
        obtain ⟨m, x, hq2, hm, rfl, hx, HX, HRx, HKx⟩ := hrel
        have HSx : Hid (Same w2 wr) := hid (Same.then HK.out HKx.out (fun j hj e => by omega))
        cases m with
        | zero =>
          have HRN : Hid (WRow w2.heap.size wr (.slice (some ⟨w2.heap.size, 0, none⟩) L L) ((codesL ns).take (i + 1) ++ List.replicate (L - (i + 1)) 0)) := hid (by
            have h := HRx.out
            have e : x = (codesL ns)[i] := by rw [HX.out, HCL.out, ← hbs.out.1]; rfl
            rw [e] at h
            rw [List.take_succ_eq_append_getElem hgl, show L - (i + 1) = L - i - 1 by omega, List.append_assoc]
            exact h)
          have bk : decide ((0 : Int) ≤ ((0 : Nat) : Int) - 1) = false := by decide
          go_wp2_with fail
          go_roundg (gk0 - 1)
          case measure => have := HG0.out; omega
          case rel => exact ⟨i + 1, by omega, by omega, by go_num, HRN, HSx⟩
        | succ m =>
          have hkm : (((m + 1 : Nat) : Int) - 1) = (m : Int) := by omega
          have hmb : m < bs.length := by have := HROW.out.2.1; omega
          have hnd := n2_drop bs m hmb
          have hb2 : bs[m] < 2 := hbs.out.2.1 _ (List.getElem_mem _)
          have hxb : 2 * x + bs[m] < 32768 := by
            have h1 := n2_lt (bs.drop m) (fun b hb => hbs.out.2.1 b (List.mem_of_mem_drop hb))
            have h2 : 2 ^ (bs.drop m).length ≤ 2 ^ 15 := Nat.pow_le_pow_right (by omega) (by have := hbs.out.2.2; rw [List.length_drop]; omega)
            have h3 : (2 : Nat) ^ 15 = 32768 := by decide
            have := HX.out
            omega
          obtain ⟨bb, hbb⟩ : ∃ bb, bb = bs[m] := ⟨_, rfl⟩
          rw [← hbb] at hnd hb2 hxb
          have HRc := HRW.out.1.later HSx.out
          obtain ⟨hirs, hri⟩ := HRI.out
          have cr : wr.cell? ⟨go, i, none⟩ = some (.slice ra rn rc) := by rw [HRc.row.cell i hirs, hri]; rfl
          have hrowx : Row wr (.slice ra rn rc) bs := HROW.out.1.kept HKx.out (fun k hk e => by
            have h1 := HROW.out.2.2 k hk
            omega)
          obtain ⟨_, _, e8, h8⟩ := Row.shape hrowx
          simp only [Value.slice.injEq] at e8
          obtain ⟨rfl, _, rfl⟩ := e8
          obtain ⟨gr, rfl⟩ := h8 (by intro e; rw [e] at hmb; simp at hmb)
          have cb : wr.cell? ⟨gr, m, none⟩ = some (.int .u8 (bb : Nat)) := by
            rw [hbb]
            exact RowE.cell (t := 5) (enc := byteV) (B := 0) hrowx m hmb
          have hio : i < ((codesL ns).take i ++ x :: List.replicate (L - i - 1) 0).length := by rw [List.length_append, HRS.out.2]; simp
          have co : wr.cell? ⟨w2.heap.size, i, none⟩ = some (.int .u32 (x : Nat)) := by
            rw [HRx.out.cell i hio, get_mid _ _ _ _ HRS.out.2.symm]
            rfl
          have fo := HRx.out.frozen i
          have HRx2 : Hid (WRow w2.heap.size (wr.setCell ⟨w2.heap.size, i, none⟩ (.int .u32 (2 * (x : Int) + (bb : Int)))) (.slice (some ⟨w2.heap.size, 0, none⟩) L L) ((codesL ns).take i ++ (2 * x + bb) :: List.replicate (L - i - 1) 0)) := hid (by
            have h := HRx.out.lay i (2 * x + bb)
            rw [set_mid _ _ _ _ _ HRS.out.2.symm] at h
            have e : wordV (2 * x + bb) = .int .u32 (2 * (x : Int) + (bb : Int)) := by unfold wordV; congr 1
            rw [e] at h
            exact h)
          have HX2 : Hid (2 * x + bb = n2 (bs.drop m)) := hid (by rw [hnd, ← HX.out]; omega)
          have hmr : m < rn := by omega
          clear hnd hbb HRc hri hrowx hio h8
          go_wp2_with fail
          go_region
          all_goals
            go_wp2_with fail
            go_roundg (gk - 1)
            case measure => omega
            case rel => exact ⟨m, 2 * x + bb, by omega, by omega, by first | rfl | (congr 1; omega), hxb, HX2, HRx2, (HKx.out.setCell ⟨w2.heap.size, i, none⟩ _ (.inl rfl)).drew⟩
    · have hiL : i = L := by omega
      have HFIN : Hid (WRow w0.heap.size wr (.slice (some ⟨w2.heap.size, 0, none⟩) L L) (codesL ns)) := hid (by
        have h := HR.out
        rw [hiL, Nat.sub_self, List.take_of_length_le (by rw [codesL_length]; have := HL.out; omega)] at h
        exact RowE.base (by simpa using h) hz2)
      clear hiL
      go_wp2_with fail
      first
        | go_ret2
        | (go_quiet (fail); go_wp2_with fail; go_ret2)
      exact ⟨⟨_, _, rfl, HFIN.out⟩, Same.trans HRW.out.1.same HK.out⟩

end Go.Proofs.YtggcbnhckcenmaaGreatDoor
