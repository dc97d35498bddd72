/-
  Layer 18: two lists of frames are the same; two rows of bytes.
-/
import Derived.Test.YtjjhjbmmhkcapaaFmC
import Derived.Test.YtjjhjbmmhkcapaaFmD
import Derived.Test.YtjjhjbmmhkcapaaReader
namespace Go.Proofs.Ytjjhjbmmhkcapaa
open Go.RowKit

theorem bytes18 (w : World) (va vb : Value) (I J : Nat → Prop) (xs ys : List Nat) (ha : Src w I va xs) (hb : Src w J vb ys) (hx : xs.length ≤ 1000000000000) (hy : ys.length ≤ 1000000000000) :
    Calls Try.prog 12 #[va, vb] w fun e w' => e = .returned (.bool (decide (xs = ys))) ∧ Same w w' :=
  (keepBytes_any va vb I J xs ys w ha hb hx hy).mono (fun e w' h => by obtain ⟨h1, m, rfl⟩ := h; exact ⟨h1, (Kept.refl _ w).drewN m⟩)

/-- A part of a row of frames. -/
theorem SrcC.sub18 {w : World} {I : Nat → Prop} {a a' : Option Addr} {n c : Nat} {xs : List Fm} (h : SrcC 2 fmE w I (.slice a n c) xs) (i : Nat) (hi : i ≤ xs.length) (ha : i < xs.length → ∀ b o, a = some ⟨b, o, none⟩ → a' = some ⟨b, o + i * 2, none⟩) (c' : Nat) (hc : n - i ≤ c') : SrcC 2 fmE w I (.slice a' (n - i) c') (xs.drop i) := by
  obtain ⟨ao, cp, e, hle, hs⟩ := h
  simp only [Value.slice.injEq] at e
  obtain ⟨rfl, rfl, rfl⟩ := e
  refine ⟨a', c', by rw [List.length_drop], by rw [List.length_drop]; exact hc, fun hne => ?_⟩
  have hlt : i < xs.length := Classical.byContradiction (fun hc => hne (List.drop_eq_nil_of_le (by omega)))
  obtain ⟨b, o, rfl, hI, hc⟩ := hs (fun e => by rw [e] at hlt; simp at hlt)
  refine ⟨b, o + i * 2, ha hlt b o rfl, hI, fun j hj q hq => ?_⟩
  rw [List.length_drop] at hj
  rw [List.getElem_drop]
  have h9 := hc (i + j) (by omega) q hq
  rw [show o + i * 2 + (j * 2 + q) = o + ((i + j) * 2 + q) by omega]
  exact h9

theorem SrcC.same18 {w w' : World} {I : Nat → Prop} {v : Value} {xs : List Fm} (h : SrcC 2 fmE w I v xs) (hk : Same w w') : SrcC 2 fmE w' I v xs := h.kept fmE_ok hk (fun _ _ _ f => f)

set_option maxRecDepth 100000 in
set_option maxHeartbeats 1000000 in
theorem fsame_true (w : World) (I J : Nat → Prop) (v v' : Value) (xs : List Fm) (h : SrcC 2 fmE w I v xs) (h' : SrcC 2 fmE w J v' xs) (hl : xs.length ≤ 100000000) : Calls Try.prog 21 #[v, v'] w fun e w' => e = .returned (.bool true) ∧ Same w w' := by
  obtain ⟨a, c, hv, _, hg⟩ := id h
  obtain ⟨a', c', hv', _, hg'⟩ := id h'
  obtain ⟨n, hn⟩ : ∃ n, n = xs.length := ⟨_, rfl⟩
  rw [← hn] at hv hv' hl
  subst hv hv'
  have HG : Hid ((xs ≠ [] → ∃ b o, a = some ⟨b, o, none⟩ ∧ I b ∧ ∀ j (_ : j < xs.length) i (_ : i < 2), w.cell? ⟨b, o + (j * 2 + i), none⟩ = (fmE xs[j])[i]?) ∧ (xs ≠ [] → ∃ b o, a' = some ⟨b, o, none⟩ ∧ J b ∧ ∀ j (_ : j < xs.length) i (_ : i < 2), w.cell? ⟨b, o + (j * 2 + i), none⟩ = (fmE xs[j])[i]?) ∧ n = xs.length ∧ n ≤ 100000000) := hid ⟨hg, hg', hn, hl⟩
  have hb1 : ((n : Int) != (n : Int)) = false := by simp
  clear h h' hg hg' hn hl
  go_enter Try.func21, Try.ntmps21
  go_wp2_with fail
  go_loopg [5] n (fun q z wr => ∃ i : Nat, n - i ≤ q ∧ i ≤ n ∧ z = .int .i64 (i : Nat) ∧ Hid (Same w wr))
  case atStart => exact ⟨0, by omega, by omega, rfl, hid (Kept.refl _ _)⟩
  case round =>
    obtain ⟨i, hq, hil, rfl, HS⟩ := hrel
    by_cases hlt : i < n
    · have hli : decide (i < n) = true := decide_eq_true hlt
      have hli2 : (i : Int) < (n : Int) := by omega
      have hlt2 : i < xs.length := by have := HG.out.2.2.1; omega
      obtain ⟨b, o, hb, _, hc⟩ := HG.out.1 (fun e => by rw [e] at hlt2; simp at hlt2)
      obtain ⟨b', o', hb', _, hc'⟩ := HG.out.2.1 (fun e => by rw [e] at hlt2; simp at hlt2)
      subst hb hb'
      obtain ⟨y, hy⟩ : ∃ y, y = xs[i] := ⟨_, rfl⟩
      have k0 : wr.cell? ⟨b, o + i * 2, none⟩ = some (.int .i64 y.k) := HS.out.cell (by have h9 := hc i hlt2 0 (by omega); rw [← hy] at h9; exact h9) (fun f => f)
      have k1 : wr.cell? ⟨b, o + i * 2 + 1, none⟩ = some (.string y.s) := HS.out.cell (by have h9 := hc i hlt2 1 (by omega); rw [← hy] at h9; exact h9) (fun f => f)
      have j0 : wr.cell? ⟨b', o' + i * 2, none⟩ = some (.int .i64 y.k) := HS.out.cell (by have h9 := hc' i hlt2 0 (by omega); rw [← hy] at h9; exact h9) (fun f => f)
      have j1 : wr.cell? ⟨b', o' + i * 2 + 1, none⟩ = some (.string y.s) := HS.out.cell (by have h9 := hc' i hlt2 1 (by omega); rw [← hy] at h9; exact h9) (fun f => f)
      have hiw : IntKind.i64.wrap ((i : Int) + 1) = ((i + 1 : Nat) : Int) := by have := HG.out.2.2.2; rw [IntKind.wrap_i64]; omega
      clear hc hc' hy
      go_wp2_with fail
      go_region
      all_goals go_wp2_with fail
      all_goals go_roundg (gk - 1)
      all_goals first
        | (case measure => omega)
        | skip
      all_goals exact ⟨i + 1, by omega, by omega, by go_num, hid HS.out.drew⟩
    · have hli : decide (i < n) = false := decide_eq_false hlt
      go_wp2_with fail
      go_ret
      exact ⟨rfl, HS.out⟩

/-- What was told lies apart from the decoder. -/
theorem Dc.off {w : World} {d : Nat} {v : Value} {q : List Nat} {e : Int} (h : Dc w d v q e) {B : Nat} {vo : Value} {fs : List Fm} (ho : RowC B 23 2 fmE w vo fs) : ∀ k, vo.ownBlock = some k → ¬ Fd d v k := by
  intro k hk hf
  rcases hf with rfl | hf
  · exact ho.offB h.blk (by decide) hk
  · exact owns_off ho h.row (by decide) k hk hf

/-- One frame that is written out. -/
theorem src_fm (w : World) (f : Fm) : SrcC 2 fmE (w.alloc (.cells #[.int .i64 f.k, .string f.s] 23)) (fun k => k = w.heap.size) (.slice (some ⟨w.heap.size, 0, none⟩) 1 1) [f] := by
  have hb := Blk.new w #[.int .i64 f.k, .string f.s] 23
  refine ⟨some ⟨w.heap.size, 0, none⟩, 1, rfl, Nat.le_refl _, fun _ => ⟨w.heap.size, 0, rfl, rfl, fun j hj i hi => ?_⟩⟩
  obtain rfl : j = 0 := by simp at hj; exact hj
  match i, hi with
  | 0, _ => exact hb.cell 0
  | 1, _ => exact hb.cell 1

end Go.Proofs.Ytjjhjbmmhkcapaa
