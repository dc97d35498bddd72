/-
  The reference's LimitErr; the law HuffLimits, walked.
-/
import Derived.Test.YtddjbofdepamhaaHLeast2
import Derived.Test.YtddjbofdepamhaaHKeep
namespace Go.Proofs.Ytddjbofdepamhaa
open Go.RowKit

theorem usedN_ris (ns : List Nat) : usedN ns = (ris ns).length := by
  have h : ∀ i, i ≤ ns.length → usedN (ns.take i) = (usedTo ns i).length := by
    intro i
    induction i with
    | zero => intro _; simp [usedN, usedTo]
    | succ i ih =>
      intro hi
      rw [List.take_succ_eq_append_getElem (by omega), usedN_snoc, ih (by omega), usedTo_succ, List.length_append, ← key_get (by omega)]
      by_cases h : key ns i = 0 <;> simp [h]
  have h2 := h ns.length (Nat.le_refl _)
  rw [List.take_length] at h2
  rw [h2, (ris_perm ns).length_eq]
  rfl

set_option maxRecDepth 100000 in
set_option maxHeartbeats 2000000 in
theorem limerr_arg (w : World) (v : Value) (I : Nat → Prop) (zs : List Int) (mz : Int) (hs : SrcE intV w I v zs) (hn : zs.length ≤ 1000000) (hb : okAll zs 0 1000000000000 = false ∨ mz < 1 ∨ 15 < mz) :
    Calls Try.prog 16 #[v, .int .i64 mz] w fun e w' => e = .returned (.int .i64 1) ∧ w' = w := by
  obtain ⟨ao, cap, rfl, hx1, hx2⟩ := id hs
  clear hx1 hx2
  have HS : Hid (SrcE intV w I (.slice ao zs.length cap) zs) := hs
  clear hs
  by_cases h0 : zs.length < 1
  · have b0 : decide ((zs.length : Int) < 1) = true := by simp; omega
    clear hb
    go_enter Try.func16, Try.ntmps16
    go_wp2_with fail
    go_ret
    exact ⟨rfl, rfl⟩
  · have b0 : decide ((zs.length : Int) < 1) = false := by simp; omega
    by_cases h288 : 288 < zs.length
    · have b1 : decide ((288 : Int) < (zs.length : Int)) = true := by simp; omega
      clear h0 hb
      go_enter Try.func16, Try.ntmps16
      go_wp2_with fail
      go_ret
      exact ⟨rfl, rfl⟩
    · have b1 : decide ((288 : Int) < (zs.length : Int)) = false := by simp; omega
      by_cases hm1 : mz < 1
      · clear hb
        go_enter Try.func16, Try.ntmps16
        go_wp2_with fail
        go_ret
        exact ⟨rfl, rfl⟩
      · by_cases hm2 : 15 < mz
        · clear hb
          go_enter Try.func16, Try.ntmps16
          go_wp2_with fail
          go_ret
          exact ⟨rfl, rfl⟩
        · have hbad : okAll zs 0 1000000000000 = false := by
            rcases hb with h | h | h
            · exact h
            · omega
            · omega
          have HB : Hid (zs.any (badI 0 1000000000000) = true) := hid (by
            cases h : zs.any (badI 0 1000000000000) with
            | true => rfl
            | false =>
              have : okAll zs 0 1000000000000 = true := by simp [okAll, h]; omega
              rw [this] at hbad
              cases hbad)
          clear hb hbad
          go_enter Try.func16, Try.ntmps16
          go_wp2_with fail
          clear b0 b1
          go_loopg [5] zs.length (fun q zi wr => ∃ (i : Nat), zs.length - i ≤ q ∧ i ≤ zs.length ∧ zi = .int .i64 (i : Nat) ∧ wr = w ∧ Hid ((zs.take i).any (badI 0 1000000000000) = false))
          case atStart => exact ⟨0, by omega, by omega, rfl, rfl, hid (by simp)⟩
          case round =>
            obtain ⟨i, hq, hi, rfl, rfl, HF⟩ := hrel
            by_cases hlt : i < zs.length
            · obtain ⟨b, o, cap', e, _, _, cx⟩ := HS.out.get i hlt
              simp only [Value.slice.injEq] at e
              obtain ⟨rfl, hxe, rfl⟩ := e
              clear hxe
              obtain ⟨x, hx⟩ : ∃ x, x = zs[i] := ⟨_, rfl⟩
              rw [← hx] at cx
              unfold intV at cx
              have HX : Hid (x = zs[i]) := hx
              clear hx
              by_cases hneg : x < 0
              · go_wp2_with fail
                go_ret
                exact ⟨rfl, rfl⟩
              · by_cases hbig : 1000000000000 < x
                · go_wp2_with fail
                  go_ret
                  exact ⟨rfl, rfl⟩
                · have HOKX : Hid (badI 0 1000000000000 x = false) := hid (by simp [badI]; omega)
                  go_wp2_with fail
                  go_roundg (gk - 1)
                  case measure => omega
                  case rel => exact ⟨i + 1, by omega, by omega, by go_num, rfl, hid (by rw [List.take_succ_eq_append_getElem hlt, List.any_append, HF.out, ← HX.out]; simp [HOKX.out])⟩
            · exfalso
              have h := HF.out
              rw [List.take_of_length_le (by omega), HB.out] at h
              cases h

set_option maxRecDepth 100000 in
set_option maxHeartbeats 2000000 in
theorem limerr_ok (w : World) (v : Value) (I : Nat → Prop) (zs : List Int) (ns : List Nat) (most c : Nat) (hs : SrcE intV w I v zs) (hok : okAll zs 0 1000000000000 = true) (hns : ns = zs.map Int.toNat) (h1 : 1 ≤ most) (h15 : most ≤ 15) (hc : c = if 2 ^ most < (ris ns).length then 30 else 0) :
    Calls Try.prog 16 #[v, .int .i64 (most : Nat)] w fun e w' => e = .returned (.int .i64 (c : Nat)) ∧ w' = w := by
  obtain ⟨eN, h0, h288, hle⟩ := okAll_nat hok
  rw [← hns] at eN
  obtain ⟨ao, cap, rfl, hx1, hx2⟩ := id hs
  clear hx1 hx2
  have HS : Hid (SrcE intV w I (.slice ao zs.length cap) zs) := hs
  have hnl : ns.length = zs.length := by rw [hns]; simp
  have HUS := used_any w _ I ns (hs.recode eN) (by omega)
  rw [usedN_ris] at HUS
  have HPO := power_any w most h15
  have HOK : Hid (∀ z ∈ zs, 0 ≤ z ∧ z ≤ 1000000000000) := hid (by
    simp only [okAll, Bool.and_eq_true, decide_eq_true_eq, Bool.not_eq_true', List.any_eq_false] at hok
    intro z hz
    have := hok.2 z hz
    simp [badI] at this
    omega)
  have b0 : decide ((zs.length : Int) < 1) = false := by simp; omega
  have b1 : decide ((288 : Int) < (zs.length : Int)) = false := by simp; omega
  have b2 : decide ((most : Int) < 1) = false := by simp; omega
  have b3 : decide ((15 : Int) < (most : Int)) = false := by simp; omega
  clear hs hok eN hle hns hnl
  generalize (ris ns).length = u at *
  obtain ⟨pw, hpw⟩ : ∃ pw, pw = 2 ^ most := ⟨_, rfl⟩
  rw [← hpw] at HPO hc
  have HC : Hid (c = if pw < u then 30 else 0) := hc
  clear hpw hc
  go_enter Try.func16, Try.ntmps16
  go_wp2_with fail
  clear b0 b1 b2 b3
  go_loopg [5] zs.length (fun q zi wr => ∃ (i : Nat), zs.length - i ≤ q ∧ i ≤ zs.length ∧ zi = .int .i64 (i : Nat) ∧ wr = w)
  case atStart => exact ⟨0, by omega, by omega, rfl, rfl⟩
  case round =>
    obtain ⟨i, hq, hi, rfl, rfl⟩ := hrel
    by_cases hlt : i < zs.length
    · obtain ⟨b, o, cap', e, _, _, cx⟩ := HS.out.get i hlt
      simp only [Value.slice.injEq] at e
      obtain ⟨rfl, hxe, rfl⟩ := e
      clear hxe
      obtain ⟨x, hx⟩ : ∃ x, x = zs[i] := ⟨_, rfl⟩
      rw [← hx] at cx
      unfold intV at cx
      have hxr := HOK.out x (by rw [hx]; exact List.getElem_mem _)
      have hneg : ¬ x < 0 := by omega
      have hbig : ¬ 1000000000000 < x := by omega
      clear hx hxr
      go_wp2_with fail
      go_roundg (gk - 1)
      case measure => omega
      case rel => exact ⟨i + 1, by omega, by omega, by go_num, rfl⟩
    · go_wp2_with fail
      refine HUS.mono ?_
      rintro e w2 ⟨rfl, rfl⟩
      go_wp2_with fail
      refine HPO.mono ?_
      rintro e w3 ⟨rfl, rfl⟩
      clear HUS HPO
      by_cases ho : pw < u
      · have HE : Hid (c = 30) := hid (by rw [HC.out, if_pos ho])
        go_wp2_with fail
        go_ret
        exact ⟨by rw [HE.out]; rfl, rfl⟩
      · have HE : Hid (c = 0) := hid (by rw [HC.out, if_neg ho])
        go_wp2_with fail
        go_ret
        exact ⟨by rw [HE.out]; rfl, rfl⟩

/-- The counts times their lengths, of the first i symbols. -/
def costTo (ns lm : List Nat) (i : Nat) : Nat := ((List.range i).map (fun s => if key ns s = 0 then 0 else key ns s * lm.getD s 0)).sum

theorem costTo_succ (ns lm : List Nat) (i : Nat) : costTo ns lm (i + 1) = costTo ns lm i + (if key ns i = 0 then 0 else key ns i * lm.getD i 0) := by
  simp [costTo, List.range_succ]

theorem costTo_many (ns : List Nat) (most : Nat) (hm : Many ns most) : costTo ns (limL ns most) ns.length = (((lev (wsOf ns) (most - 1)).take (2 * (wsOf ns).length - 2)).map (·.1)).sum := by
  rw [← hm.cost]
  unfold costTo
  rw [sum_ris ns (fun s => key ns s * (limL ns most).getD s 0)]
  refine sumI_congr _ _ _ (fun i hi => ?_)
  have h2 := hm.two
  have e1 : (ris ns).getD i 0 = (ris ns)[i] := by simp [List.getD, hi]
  have hi2 : i < (wsOf ns).length := by rw [wsOf_length]; exact hi
  have e2 : (wsOf ns).getD i 0 = (wsOf ns)[i] := by simp [List.getD, hi2]
  have hmem := mem_ris.1 (List.getElem_mem hi)
  have hl : (ris ns)[i] < (limL ns most).length := by rw [limL_length]; exact hmem.1
  have e3 : (limL ns most).getD ((ris ns)[i]) 0 = (limL ns most)[(ris ns)[i]] := by simp [List.getD, hl]
  show key ns ((ris ns).getD i 0) * (limL ns most).getD ((ris ns).getD i 0) 0 = _
  rw [e1, e2, e3, limL_get, if_neg hmem.2, if_neg (by omega), idx_ris ns i hi, wsOf_get ns i hi]

end Go.Proofs.Ytddjbofdepamhaa
