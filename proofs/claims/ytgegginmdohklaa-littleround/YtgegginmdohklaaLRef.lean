/-
  The reference's Put and Same; what the law lends and gets back.
-/
import Derived.Test.YtgegginmdohklaaLPut
namespace Go.Proofs.Ytgegginmdohklaa
open Go.RowKit

theorem Row.len {w : World} {g n cap : Nat} {ds : List Nat} (h : Row w (.slice (some ⟨g, 0, none⟩) n cap) ds) : ds.length = n := by
  rcases h.2 with ⟨e, _⟩ | ⟨_, _, _, e, _⟩
  · simp at e
  · injection e with _ e _; exact e.symm

theorem Row.lay {w : World} {g n cap : Nat} {ds : List Nat} (h : Row w (.slice (some ⟨g, 0, none⟩) n cap) ds) (j x : Nat) : Row (w.setCell ⟨g, j, none⟩ (.int .u8 x)) (.slice (some ⟨g, 0, none⟩) n cap) (ds.set j x) := by
  have hl := h.len
  subst hl
  have := (World.ownsRow.stored h j (.int .u8 x)).1
  rw [show (Value.int .u8 x) = byteV x from rfl, ← List.map_set] at this
  unfold Row
  rw [List.length_set]
  exact this

theorem Row.cell' {w : World} {g n cap : Nat} {bs : List Nat} (h : Row w (.slice (some ⟨g, 0, none⟩) n cap) bs) (j : Nat) (hj : j < bs.length) : w.cell? ⟨g, j, none⟩ = some (.int .u8 (bs[j] : Nat)) := by
  have hl := h.len
  subst hl
  exact Row.cell h j hj

theorem Row.frozen' {w : World} {g n cap : Nat} {bs : List Nat} (h : Row w (.slice (some ⟨g, 0, none⟩) n cap) bs) (j : Nat) : w.frozen? ⟨g, j, none⟩ = false := by
  have hl := h.len
  subst hl
  exact World.ownsRow.frozenAt h j

theorem set_at (cs ds : List Nat) (j x y : Nat) (h : cs.length = j) : (cs ++ y :: ds).set j x = cs ++ x :: ds := by
  subst h
  rw [List.set_append_right _ _ (by omega)]; simp

set_option maxHeartbeats 1000000 in
theorem rput_any {X : Int} (w : World) (v : Value) (I : Nat → Prop) (cs : List Nat) (hsrc : Src w I v cs) (x n : Nat) (hX : X = (x : Nat)) (hn : n ≤ 8) (_hx : x < 18446744073709551616) (hlen : cs.length ≤ 100000000) :
    Calls Try.prog 16 #[v, .int .u64 X, .int .i64 (n : Nat)] w fun e w' => ∃ v', e = .returned v' ∧ Fresh w w' v' (cs ++ leOf x n) := by
  subst hX
  obtain ⟨ao, cap, rfl, _⟩ := id hsrc
  have HS : Hid (Src w I (.slice ao cs.length cap) cs) := hsrc
  clear hsrc
  go_enter Try.func16, Try.ntmps16
  go_wp2_with (first | (at_make; refine wpList_make_bytes _ rfl _ _ rfl _ _ _ _ (cs.length + n) rfl rfl (by omega) (by omega) (by omega) ?_; intro w1 hr1 hg1 hs1; have HR : Hid (Row w1 (.slice (some ⟨w.heap.size, 0, none⟩) (cs.length + n) (cs.length + n)) (List.replicate (cs.length + n) 0)) := hr1; have HK : Hid (Kept (fun _ => False) w w1) := (Kept.refl _ w).grown hg1 (by simp); clear hr1 hg1) | (with_reducible refine atCopy ?_; refine wpList_copy_bytes _ rfl (.tmp 14) (.tmp 15) rfl w.heap.size (cs.length + n) (cs.length + n) ao cs.length cap (List.replicate (cs.length + n) 0) cs I rfl rfl HR.out (HS.out.kept HK.out (fun _ _ _ h => h)) (by simp) ?_))
  intro w2 hr2 hg2 hs2
  have HF : Hid (Row w2 (.slice (some ⟨w.heap.size, 0, none⟩) (cs.length + n) (cs.length + n)) (cs ++ List.replicate n 0)) := by
    have h : Row w2 (.slice (some ⟨w.heap.size, 0, none⟩) (cs.length + n) (cs.length + n)) (cs ++ List.replicate n 0) := by simpa using hr2
    exact h
  have HK2 : Hid (Kept (fun _ => False) w w2) := HK.out.grown hg2 (fun k e => .inr (by simp at e; omega))
  clear hr2 hg2 hs2 HR HK
  go_wp2_with fail
  go_loopg [8] n (fun k z wr => ∃ i : Nat, i ≤ n ∧ n - i ≤ k ∧ z = .int .i64 (i : Nat) ∧ Row wr (.slice (some ⟨w.heap.size, 0, none⟩) (cs.length + n) (cs.length + n)) (cs ++ leOf x i ++ List.replicate (n - i) 0) ∧ Kept (fun _ => False) w wr)
  case atStart => exact ⟨0, by omega, by omega, rfl, by simpa [leOf] using HF.out, HK2.out⟩
  case round =>
    obtain ⟨i, hi, hik, rfl, hr, hk⟩ := hrel
    have HR2 : Hid (Row wr (.slice (some ⟨w.heap.size, 0, none⟩) (cs.length + n) (cs.length + n)) (cs ++ leOf x i ++ List.replicate (n - i) 0)) := hr
    have HK3 : Hid (Kept (fun _ => False) w wr) := hk
    clear hk HF HK2
    by_cases hlt : i < n
    · have hj : cs.length + i < (cs ++ leOf x i ++ List.replicate (n - i) 0).length := by simp [leOf_length]; omega
      have hc : ∃ y : Nat, wr.cell? ⟨w.heap.size, cs.length + i, none⟩ = some (.int .u8 (y : Nat)) := ⟨_, Row.cell' hr _ hj⟩
      obtain ⟨y, hc⟩ := hc
      have hf : wr.frozen? ⟨w.heap.size, cs.length + i, none⟩ = false := Row.frozen' hr _
      clear hr hj
      go_wp2_with fail
      go_roundg (gk - 1)
      case measure => omega
      case rel =>
        refine ⟨i + 1, by omega, by omega, by go_num, ?_, HK3.out.setCell _ _ (.inr (Nat.le_refl _))⟩
        have h := Row.lay HR2.out (cs.length + i) (x / 256 ^ i % 256)
        rw [show n - i = (n - (i + 1)) + 1 by omega, List.replicate_succ, set_at _ _ _ _ _ (by simp [leOf_length])] at h
        rw [show cs ++ leOf x (i + 1) ++ List.replicate (n - (i + 1)) 0 = cs ++ leOf x i ++ x / 256 ^ i % 256 :: List.replicate (n - (i + 1)) 0 by simp [leOf]]
        refine Eq.mp (congrArg (fun z : Int => Row (wr.setCell ⟨w.heap.size, cs.length + i, none⟩ (.int .u8 z)) _ _) ?_) h
        rw [pow8]
        simp
        done
    · have hin : i = n := by omega
      subst hin
      go_wp2
      go_ret
      refine ⟨_, rfl, by simpa using HR2.out, HK3.out, ?_⟩
      intro k hk
      simp [Value.ownBlock] at hk
      omega

set_option maxHeartbeats 400000 in
theorem same_any (va vb : Value) (I J : Nat → Prop) (xs ys : List Nat) (w : World) (ha : Src w I va xs) (hb : Src w J vb ys) (hx : xs.length ≤ 1000000000000) (hy : ys.length ≤ 1000000000000) :
    Calls Try.prog 15 #[va, vb] w fun e w' => e = .returned (.bool (decide (xs = ys))) ∧ ∃ m, w' = w.drewN m := by
  obtain ⟨ao, ca, rfl, hsa⟩ := id ha
  obtain ⟨bo, cb, rfl, hsb⟩ := id hb
  clear ha hb
  by_cases hl : xs.length = ys.length
  · have HL : Hid (xs.length = ys.length) := hl
    have hd : ((xs.length : Int) != (ys.length : Int)) = false := by simp [hl]
    clear hl
    go_enter Try.func15, Try.ntmps15
    go_wp2
    clear hd
    go_loopg [5] xs.length (fun k i wr => ∃ j : Nat, j ≤ xs.length ∧ xs.length - j ≤ k ∧ i = .int .i64 j ∧ (∃ m, wr = w.drewN m) ∧ xs.take j = ys.take j)
    case atStart => exact ⟨0, by omega, by omega, rfl, ⟨0, rfl⟩, by simp⟩
    case round =>
      obtain ⟨j, hj, hjk, rfl, ⟨m, rfl⟩, ht⟩ := hrel
      have HT : Hid (xs.take j = ys.take j) := ht
      clear ht
      by_cases hlt : j < xs.length
      · have hlt2 : j < ys.length := by have := HL.out; omega
        obtain ⟨a, oa, rfl, _, hca⟩ := hsa (by intro e; rw [e] at hlt; simp at hlt)
        obtain ⟨b, ob, rfl, _, hcb⟩ := hsb (by intro e; rw [e] at hlt2; simp at hlt2)
        have hc1 := hca j hlt
        have hc2 := hcb j hlt2
        obtain ⟨x, hx1⟩ : ∃ x, x = xs[j] := ⟨_, rfl⟩
        obtain ⟨y, hy1⟩ : ∃ y, y = ys[j] := ⟨_, rfl⟩
        rw [← hx1] at hc1
        rw [← hy1] at hc2
        have HX : Hid (x = xs[j]) := hx1
        have HY : Hid (y = ys[j]) := hy1
        clear hca hcb hsa hsb hx1 hy1
        by_cases he : x = y
        · have hd : ((x : Int) != (y : Int)) = false := by simp [he]
          have HE : Hid (x = y) := he
          clear he
          go_wp2
          go_quiet (fail)
          go_wp2
          go_roundg (gk - 1)
          case measure => omega
          case rel => exact ⟨j + 1, by omega, by omega, by go_num, ⟨_, rfl⟩, by rw [List.take_succ_eq_append_getElem hlt, List.take_succ_eq_append_getElem hlt2, HT.out, ← HX.out, ← HY.out, HE.out]⟩
        · have hd : ((x : Int) != (y : Int)) = true := by simp; omega
          have HE : Hid (¬ x = y) := he
          clear he
          go_wp2
          go_quiet (fail)
          go_wp2
          go_ret
          refine ⟨?_, _, drewN_add _ _ _⟩
          have hne : ¬ xs = ys := by
            intro e
            subst e
            exact HE.out (HX.out.trans HY.out.symm)
          simp [hne]
      · have hjl : j = xs.length := by omega
        subst hjl
        go_wp2
        go_ret
        refine ⟨?_, _, rfl⟩
        have h1 := HT.out
        rw [List.take_of_length_le (Nat.le_refl _), List.take_of_length_le (by have := HL.out; omega)] at h1
        simp [h1]
  · have hd : ((xs.length : Int) != (ys.length : Int)) = true := by simp; omega
    have hne : ¬ xs = ys := fun e => hl (by rw [e])
    have HNE : Hid (¬ xs = ys) := hne
    clear hne hl
    go_enter Try.func15, Try.ntmps15
    go_wp2
    go_ret
    exact ⟨by simp [HNE.out], 0, rfl⟩

set_option maxHeartbeats 400000 in
theorem lent_any (w : World) (v : Value) (I : Nat → Prop) (cs : List Nat) (hsrc : Src w I v cs) (hlen : cs.length ≤ 100000000) :
    Calls Try.prog 10 #[v] w fun e w' => ∃ g, e = .returned (.slice (some ⟨g, 0, none⟩) cs.length (cs.length + 1)) ∧ Row w' (.slice (some ⟨g, 0, none⟩) (cs.length + 1) (cs.length + 1)) (cs ++ [99]) ∧ Kept (fun _ => False) w w' ∧ w.heap.size ≤ g := by
  obtain ⟨ao, cap, rfl, _⟩ := id hsrc
  have HS : Hid (Src w I (.slice ao cs.length cap) cs) := hsrc
  clear hsrc
  go_enter Try.func10, Try.ntmps10
  go_wp2_with (first | (at_make; refine wpList_make_bytes _ rfl _ _ rfl _ _ _ _ (cs.length + 1) rfl rfl (by omega) (by omega) (by omega) ?_; intro w1 hr1 hg1 hs1; have HR : Hid (Row w1 (.slice (some ⟨w.heap.size, 0, none⟩) (cs.length + 1) (cs.length + 1)) (List.replicate (cs.length + 1) 0)) := hr1; have HK : Hid (Kept (fun _ => False) w w1) := (Kept.refl _ w).grown hg1 (by simp); clear hr1 hg1) | (with_reducible refine atCopy ?_; refine wpList_copy_bytes _ rfl (.tmp 8) (.tmp 9) rfl w.heap.size (cs.length + 1) (cs.length + 1) ao cs.length cap (List.replicate (cs.length + 1) 0) cs I rfl rfl HR.out (HS.out.kept HK.out (fun _ _ _ h => h)) (by simp) ?_))
  intro w2 hr2 hg2 hs2
  have hr3 : Row w2 (.slice (some ⟨w.heap.size, 0, none⟩) (cs.length + 1) (cs.length + 1)) (cs ++ [0]) := by simpa using hr2
  have c1 : w2.cell? ⟨w.heap.size, cs.length, none⟩ = some (.int .u8 0) := by
    rw [Row.cell' hr3 cs.length (by simp)]; simp
  have f1 : w2.frozen? ⟨w.heap.size, cs.length, none⟩ = false := Row.frozen' hr3 _
  have HR2 : Hid (Row w2 (.slice (some ⟨w.heap.size, 0, none⟩) (cs.length + 1) (cs.length + 1)) (cs ++ [0])) := hr3
  have HK2 : Hid (Kept (fun _ => False) w w2) := HK.out.grown hg2 (fun k e => .inr (by simp at e; omega))
  clear hr2 hr3 hg2 hs2 HR HK
  go_wp2_with fail
  go_ret
  refine ⟨w.heap.size, rfl, ?_, HK2.out.setCell _ _ (.inr (Nat.le_refl _)), Nat.le_refl _⟩
  have h := Row.lay HR2.out cs.length 99
  rw [set_at _ _ _ _ _ rfl] at h
  exact h

set_option maxHeartbeats 1000000 in
theorem back_any (w : World) (g : Nat) (v : Value) (I : Nat → Prop) (cs : List Nat) (hrow : Row w (.slice (some ⟨g, 0, none⟩) (cs.length + 1) (cs.length + 1)) (cs ++ [99])) (hsrc : Src w I v cs) (hlen : cs.length ≤ 100000000) :
    Calls Try.prog 14 #[.slice (some ⟨g, 0, none⟩) cs.length (cs.length + 1), v] w fun e w' => e = .returned (.bool true) ∧ Kept (· = g) w w' := by
  obtain ⟨ao, cap, rfl, hsa⟩ := id hsrc
  have c1 : w.cell? ⟨g, cs.length, none⟩ = some (.int .u8 99) := by
    rw [Row.cell' hrow cs.length (by simp)]; simp
  have HR : Hid (Row w (.slice (some ⟨g, 0, none⟩) (cs.length + 1) (cs.length + 1)) (cs ++ [99])) := hrow
  have HC := same_any _ _ _ _ cs cs w (Src.ofRow (Row.cut hrow)) hsrc (by omega) (by omega)
  have hd : decide (cs = cs) = true := by simp
  clear hrow hsrc hsa
  go_enter Try.func14, Try.ntmps14
  go_wp2_with fail
  refine HC.mono ?_
  rintro e w2 ⟨rfl, m, rfl⟩
  clear c1
  go_wp2_with fail
  go_loopg [7] (cs.length + 1) (fun k x wx => ∃ (t : Nat) (es : List Nat), t ≤ cs.length + 1 ∧ cs.length + 1 - t ≤ k ∧ x = .int .i64 (t : Nat) ∧ Row wx (.slice (some ⟨g, 0, none⟩) (cs.length + 1) (cs.length + 1)) es ∧ Kept (· = g) w wx)
  case atStart => exact ⟨0, cs ++ [99], by omega, by omega, rfl, HR.out, (Kept.refl _ w).drewN m⟩
  case round =>
    obtain ⟨t, es, ht, htk, rfl, hr, hk⟩ := hrel
    have HR2 : Hid (Row wr (.slice (some ⟨g, 0, none⟩) (cs.length + 1) (cs.length + 1)) es) := hr
    have HK2 : Hid (Kept (· = g) w wr) := hk
    by_cases hlt2 : t < cs.length + 1
    · have hje : t < es.length := by rw [hr.len]; exact hlt2
      have hc : ∃ y : Nat, wr.cell? ⟨g, t, none⟩ = some (.int .u8 (y : Nat)) := ⟨_, Row.cell' hr t hje⟩
      obtain ⟨y, hc⟩ := hc
      have hf : wr.frozen? ⟨g, t, none⟩ = false := Row.frozen' hr _
      clear hr hk hje
      go_wp2_with fail
      go_roundg (gk - 1)
      case measure => omega
      case rel => exact ⟨t + 1, es.set t 55, by omega, by omega, by go_num, Row.lay HR2.out t 55, HK2.out.setCell _ _ (.inl rfl)⟩
    · clear hr hk
      go_wp2_with fail
      go_ret
      exact ⟨rfl, HK2.out⟩

end Go.Proofs.Ytgegginmdohklaa
