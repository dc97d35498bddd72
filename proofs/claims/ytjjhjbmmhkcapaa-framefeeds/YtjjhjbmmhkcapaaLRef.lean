/-
  The reference's Put and Same; what the law lends and gets back.
-/
import Derived.Test.YtjjhjbmmhkcapaaLPut
namespace Go.Proofs.Ytjjhjbmmhkcapaa
open Go.RowKit

theorem Row.len {w : World} {g n cap : Nat} {ds : List Nat} (h : Row w (.slice (some ⟨g, 0, none⟩) n cap) ds) : ds.length = n := by
  rcases h.2 with ⟨e, _⟩ | ⟨_, _, _, e, _⟩
  · simp at e
  · injection e with _ e _; exact e.symm

theorem Row.lay {w : World} {g n cap : Nat} {ds : List Nat} (h : Row w (.slice (some ⟨g, 0, none⟩) n cap) ds) (j x : Nat) : Row (w.setCell ⟨g, j, none⟩ (.int .u8 x)) (.slice (some ⟨g, 0, none⟩) n cap) (ds.set j x) := by
  have hl := h.len
  subst hl
  have := (World.ownsRow.stored h j (.int .u8 x)).1
  rw [show (Value.int .u8 x) = byteV x from rfl, ← List.map_set] at this
  unfold Row
  rw [List.length_set]
  exact this

theorem Row.cell' {w : World} {g n cap : Nat} {bs : List Nat} (h : Row w (.slice (some ⟨g, 0, none⟩) n cap) bs) (j : Nat) (hj : j < bs.length) : w.cell? ⟨g, j, none⟩ = some (.int .u8 (bs[j] : Nat)) := by
  have hl := h.len
  subst hl
  exact Row.cell h j hj

theorem Row.frozen' {w : World} {g n cap : Nat} {bs : List Nat} (h : Row w (.slice (some ⟨g, 0, none⟩) n cap) bs) (j : Nat) : w.frozen? ⟨g, j, none⟩ = false := by
  have hl := h.len
  subst hl
  exact World.ownsRow.frozenAt h j

theorem set_at (cs ds : List Nat) (j x y : Nat) (h : cs.length = j) : (cs ++ y :: ds).set j x = cs ++ x :: ds := by
  subst h
  rw [List.set_append_right _ _ (by omega)]; simp

set_option maxHeartbeats 1000000 in
theorem rput_any {X : Int} (w : World) (v : Value) (I : Nat → Prop) (cs : List Nat) (hsrc : Src w I v cs) (x n : Nat) (hX : X = (x : Nat)) (hn : n ≤ 8) (_hx : x < 18446744073709551616) (hlen : cs.length ≤ 100000000) :
    Calls Try.prog 25 #[v, .int .u64 X, .int .i64 (n : Nat)] w fun e w' => ∃ v', e = .returned v' ∧ Fresh w w' v' (cs ++ leOf x n) := by
  subst hX
  obtain ⟨ao, cap, rfl, _⟩ := id hsrc
  have HS : Hid (Src w I (.slice ao cs.length cap) cs) := hsrc
  clear hsrc
  go_enter Try.func25, Try.ntmps25
  go_wp2_with (first | (at_make; refine wpList_make_bytes _ rfl _ _ rfl _ _ _ _ (cs.length + n) rfl rfl (by omega) (by omega) (by omega) ?_; intro w1 hr1 hg1 hs1; have HR : Hid (Row w1 (.slice (some ⟨w.heap.size, 0, none⟩) (cs.length + n) (cs.length + n)) (List.replicate (cs.length + n) 0)) := hr1; have HK : Hid (Kept (fun _ => False) w w1) := (Kept.refl _ w).grown hg1 (by simp); clear hr1 hg1) | (with_reducible refine atCopy ?_; refine wpList_copy_bytes _ rfl (.tmp 14) (.tmp 15) rfl w.heap.size (cs.length + n) (cs.length + n) ao cs.length cap (List.replicate (cs.length + n) 0) cs I rfl rfl HR.out (HS.out.kept HK.out (fun _ _ _ h => h)) (by simp) ?_))
  intro w2 hr2 hg2 hs2
  have HF : Hid (Row w2 (.slice (some ⟨w.heap.size, 0, none⟩) (cs.length + n) (cs.length + n)) (cs ++ List.replicate n 0)) := by
    have h : Row w2 (.slice (some ⟨w.heap.size, 0, none⟩) (cs.length + n) (cs.length + n)) (cs ++ List.replicate n 0) := by simpa using hr2
    exact h
  have HK2 : Hid (Kept (fun _ => False) w w2) := HK.out.grown hg2 (fun k e => .inr (by simp at e; omega))
  clear hr2 hg2 hs2 HR HK
  go_wp2_with fail
  go_loopg [8] n (fun k z wr => ∃ i : Nat, i ≤ n ∧ n - i ≤ k ∧ z = .int .i64 (i : Nat) ∧ Row wr (.slice (some ⟨w.heap.size, 0, none⟩) (cs.length + n) (cs.length + n)) (cs ++ leOf x i ++ List.replicate (n - i) 0) ∧ Kept (fun _ => False) w wr)
  case atStart => exact ⟨0, by omega, by omega, rfl, by simpa [leOf] using HF.out, HK2.out⟩
  case round =>
    obtain ⟨i, hi, hik, rfl, hr, hk⟩ := hrel
    have HR2 : Hid (Row wr (.slice (some ⟨w.heap.size, 0, none⟩) (cs.length + n) (cs.length + n)) (cs ++ leOf x i ++ List.replicate (n - i) 0)) := hr
    have HK3 : Hid (Kept (fun _ => False) w wr) := hk
    clear hk HF HK2
    by_cases hlt : i < n
    · have hj : cs.length + i < (cs ++ leOf x i ++ List.replicate (n - i) 0).length := by simp [leOf_length]; omega
      have hc : ∃ y : Nat, wr.cell? ⟨w.heap.size, cs.length + i, none⟩ = some (.int .u8 (y : Nat)) := ⟨_, Row.cell' hr _ hj⟩
      obtain ⟨y, hc⟩ := hc
      have hf : wr.frozen? ⟨w.heap.size, cs.length + i, none⟩ = false := Row.frozen' hr _
      clear hr hj
      go_wp2_with fail
      go_roundg (gk - 1)
      case measure => omega
      case rel =>
        refine ⟨i + 1, by omega, by omega, by go_num, ?_, HK3.out.setCell _ _ (.inr (Nat.le_refl _))⟩
        have h := Row.lay HR2.out (cs.length + i) (x / 256 ^ i % 256)
        rw [show n - i = (n - (i + 1)) + 1 by omega, List.replicate_succ, set_at _ _ _ _ _ (by simp [leOf_length])] at h
        rw [show cs ++ leOf x (i + 1) ++ List.replicate (n - (i + 1)) 0 = cs ++ leOf x i ++ x / 256 ^ i % 256 :: List.replicate (n - (i + 1)) 0 by simp [leOf]]
        refine Eq.mp (congrArg (fun z : Int => Row (wr.setCell ⟨w.heap.size, cs.length + i, none⟩ (.int .u8 z)) _ _) ?_) h
        rw [pow8]
        simp
        done
    · have hin : i = n := by omega
      subst hin
      go_wp2
      go_ret
      refine ⟨_, rfl, by simpa using HR2.out, HK3.out, ?_⟩
      intro k hk
      simp [Value.ownBlock] at hk
      omega







end Go.Proofs.Ytjjhjbmmhkcapaa
