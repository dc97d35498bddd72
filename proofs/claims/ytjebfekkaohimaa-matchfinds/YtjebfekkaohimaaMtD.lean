/-
  The program's layer 6: Expand.
-/
import Derived.Test.YtjebfekkaohimaaMtC
namespace Go.Proofs.Ytjebfekkaohimaa
open Go.RowKit

/-- What Expand answers. -/
def ExpA (w w' : World) (e : Ending) (ts : List TK) : Except Nat Nat → Prop
  | .error c => e = .returned (.tuple #[.slice none 0 0, .int .i64 (c : Nat)]) ∧ Same w w'
  | .ok _ => ∃ v', e = .returned (.tuple #[v', .int .i64 0]) ∧ Fresh w w' v' (expT ts [])

theorem inT_true {n lo hi : Int} (h : lo ≤ n ∧ n ≤ hi) : inT n lo hi = true := by simp [inT, h]
theorem inT_false {n lo hi : Int} (h : ¬ (lo ≤ n ∧ n ≤ hi)) : inT n lo hi = false := by
  unfold inT
  rcases Classical.not_and_iff_not_or_not.1 h with h | h
  · simp [h]
  · simp [h]

set_option maxHeartbeats 1000000 in
theorem mexp_bad (w : World) (v : Value) (m : Int) (hm : m < 0 ∨ 16384 < m) :
    Calls Try.prog 11 #[v, .int .i64 m] w fun e w' => e = .returned (.tuple #[.slice none 0 0, .int .i64 1]) ∧ Same w w' := by
  have HW := mwithin_any w m 0 16384
  rw [inT_false (by omega)] at HW
  clear hm
  go_enter Try.func11, Try.ntmps11
  go_wp2_with fail
  refine HW.mono ?_
  rintro e w1 ⟨rfl, rfl⟩
  clear HW
  go_wp2_with fail
  go_ret2
  exact ⟨rfl, Kept.refl _ _⟩

theorem expT_snoc (ts : List TK) (i : Nat) (h : i < ts.length) : expT (ts.take (i + 1)) [] = sayT (expT (ts.take i) []) ts[i] := by
  unfold expT
  rw [List.take_succ_eq_append_getElem h, List.foldl_append]
  rfl

theorem measT_may {most c n : Nat} {ts : List TK} {i : Nat} (h : i < ts.length) (hm : measT most (ts.drop i) c = .ok n) : mayT ts[i] c = true ∧ c + tlen ts[i] ≤ most ∧ measT most (ts.drop (i + 1)) (c + tlen ts[i]) = .ok n := by
  rw [List.drop_eq_getElem_cons h, measT] at hm
  split at hm
  · cases hm
  · rename_i h1
    split at hm
    · cases hm
    · exact ⟨by simpa using h1, by omega, hm⟩

set_option maxRecDepth 100000 in
set_option maxHeartbeats 2000000 in
theorem mexp_any (w : World) (v : Value) (I : Nat → Prop) (ts : List TK) (most : Nat) (hs : TkSrc w I v ts) (hlen : ts.length ≤ 10000000) (hm : most ≤ 16384) :
    Calls Try.prog 11 #[v, .int .i64 (most : Nat)] w fun e w' => ExpA w w' e ts (measT most ts 0) := by
  obtain ⟨ao, cap, rfl, hx1, hx2⟩ := id hs
  clear hx1 hx2
  have HS : Hid (TkSrc w I (.slice ao ts.length cap) ts) := hs
  have HW := mwithin_any w (most : Nat) 0 16384
  rw [inT_true (by omega)] at HW
  have HM := mmeas_any w _ I ts most hs hlen hm
  clear hs
  cases hr : measT most ts 0 with
  | error c =>
    have hc := measT_err hr
    rw [hr] at HM
    simp only [okT, errT] at HM
    have hcd : ((c : Int) != 0) = true := by simp; omega
    clear hr hc
    go_enter Try.func11, Try.ntmps11
    go_wp2_with fail
    refine HW.mono ?_
    rintro e w1 ⟨rfl, rfl⟩
    clear HW
    go_wp2_with fail
    refine HM.mono ?_
    rintro e w2 ⟨rfl, hk⟩
    have HK : Hid (Same w1 w2) := hk
    clear hk HM
    go_wp2_with fail
    go_ret2
    exact ⟨rfl, HK.out⟩
  | ok n =>
    have hn := measT_le hr (Nat.zero_le _)
    rw [hr] at HM
    simp only [okT, errT] at HM
    have HR : Hid (measT most ts 0 = .ok n) := hr
    clear hr
    go_enter Try.func11, Try.ntmps11
    go_wp2_with fail
    refine HW.mono ?_
    rintro e w1 ⟨rfl, rfl⟩
    clear HW
    go_wp2_with fail
    refine HM.mono ?_
    rintro e w2 ⟨rfl, hk⟩
    have HK : Hid (Same w1 w2) := hk
    clear hk HM
    have hn2 : n ≤ 16384 := by omega
    go_wp2_with (at_make; refine wpList_make_room _ rfl _ _ rfl _ _ _ _ 0 n rfl rfl rfl rfl (by omega) (by omega) ?_; intro w3 hr3 hg3 hs3)
    have HF : Hid (Fresh w1 w3 (.slice (some ⟨w2.heap.size, 0, none⟩) 0 n) []) := hid ⟨by simpa using hr3, HK.out.grown hg3 (fun k e => by cases e), fun k e => by
      have := HK.out.size
      simp [Value.ownBlock] at e
      omega⟩
    clear hr3 hg3 hs3
    go_wp2_with fail
    go_loopg [8, 27] ts.length (fun q zo zi wr => ∃ (i : Nat), ts.length - i ≤ q ∧ i ≤ ts.length ∧ zi = .int .i64 (i : Nat) ∧ Hid (Fresh w1 wr zo (expT (ts.take i) [])) ∧ Hid (measT most (ts.drop i) (expT (ts.take i) []).length = .ok n))
    case atStart => exact ⟨0, by omega, by omega, rfl, HF, hid (by simpa [expT] using HR.out)⟩
    case round =>
      clear HF HK
      obtain ⟨i, hq, hi, rfl, HF, HME⟩ := hrel
      by_cases hlt : i < ts.length
      · obtain ⟨b, o, e1, c1, c2, c3⟩ := HS.out.at HF.out.kept i hlt
        subst e1
        obtain ⟨h1, h2, h3⟩ := measT_may hlt HME.out
        have HX : Hid (expT (ts.take (i + 1)) [] = sayT (expT (ts.take i) []) ts[i]) := hid (expT_snoc ts i hlt)
        have HME2 : Hid (measT most (ts.drop (i + 1)) (expT (ts.take (i + 1)) []).length = .ok n) := hid (by rw [HX.out, sayT_length h1]; exact h3)
        have HSY := msay_any w1 (wr.alloc (.cells #[.int .u8 (ts[i].lit : Nat), .int .i64 ts[i].len, .int .i64 ts[i].dist] 38)) u8 (expT (ts.take i) []) ts[i] (HF.out.later ((Kept.refl (fun _ => False) wr).alloc _) (fun _ f => f.elim)) h1 (by omega)
        rw [← HX.out] at HSY
        simp only [tkA] at HSY
        generalize ts[i].lit = lit at c1 HSY
        generalize ts[i].len = len at c2 HSY
        generalize ts[i].dist = dist at c3 HSY
        clear h1 h2 h3 HX
        go_wp2_with fail
        refine HSY.mono ?_
        rintro e w4 ⟨v4, rfl, hf4⟩
        have HF4 : Hid (Fresh w1 w4 v4 (expT (ts.take (i + 1)) [])) := hf4
        clear hf4 HSY c1 c2 c3
        go_wp2_with fail
        go_roundg (gk - 1)
        case measure => omega
        case rel => exact ⟨i + 1, by omega, by omega, by go_num, HF4, HME2⟩
      · have hin : i = ts.length := by omega
        have HF2 : Hid (Fresh w1 wr u8 (expT ts [])) := hid (by have h := HF.out; rwa [hin, List.take_length] at h)
        clear hin
        go_wp2_with fail
        go_ret2
        exact ⟨_, rfl, HF2.out⟩

end Go.Proofs.Ytjebfekkaohimaa
