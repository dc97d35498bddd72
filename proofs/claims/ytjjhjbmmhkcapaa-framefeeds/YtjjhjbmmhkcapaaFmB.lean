/-
  Layer 18: a decoder in memory; New, Wrong, Wants; the calls of no decoder.
-/
import Derived.Test.YtjjhjbmmhkcapaaFmA
import Derived.BigQuiet
import Derived.Deep.RegionHeld3
namespace Go.Proofs.Ytjjhjbmmhkcapaa
open Go.RowKit

/-- A decoder in memory: what waits, what is wrong. -/
structure Dc (w : World) (d : Nat) (v : Value) (q : List Nat) (e : Int) : Prop where
  blk : Blk w d #[v, .int .i64 e] 56
  row : Row w v q
  ne : v.ownBlock ≠ some d
  byt : ∀ b ∈ q, b < 256
  nx : e = 0 → nx q = .stop 0
  nil : e ≠ 0 → v = .slice none 0 0

def Fd (d : Nat) (v : Value) (k : Nat) : Prop := k = d ∨ v.ownBlock = some k

section
variable {w : World} {d : Nat} {v : Value} {q : List Nat} {e : Int}

theorem Dc.kept {F : Nat → Prop} {w' : World} (h : Dc w d v q e) (hk : Kept F w w') (hn : ∀ k, Fd d v k → ¬ F k) : Dc w' d v q e :=
  ⟨h.blk.kept hk (hn d (.inl rfl)), h.row.kept hk (fun k e => hn k (.inr e)), h.ne, h.byt, h.nx, h.nil⟩

theorem Dc.lt (h : Dc w d v q e) {k : Nat} (hk : Fd d v k) : k < w.heap.size := by
  rcases hk with rfl | hk
  · exact h.blk.lt
  · exact h.row.lt hk

theorem Dc.same {w' : World} (h : Dc w d v q e) (hk : Same w w') : Dc w' d v q e := h.kept hk (fun _ _ f => f)

theorem Dc.short (h : Dc w d v q e) : q.length ≤ 20008 := by
  by_cases he : e = 0
  · exact (nx_short (h.nx he)).1
  · have hv := h.nil he
    subst hv
    have := h.row.1
    rcases h.row.2 with ⟨_, h0⟩ | ⟨g, cap, cur, e, _⟩
    · omega
    · cases e

theorem Row.cap18 {w : World} {v : Value} {bs : List Nat} (h : Row w v bs) : ∀ a n c, v = .slice a n c → n ≤ c := by
  intro a n c e
  rcases h.2 with ⟨rfl, hn⟩ | ⟨g, cap, cur, rfl, _, _, hle, _⟩
  · injection e with _ e2 e3; omega
  · injection e with _ e2 e3; omega

theorem Try.zeroDc : (Try.prog.info? 56).bind (·.zero) = some (.agg #[.slice none 0 0, .int .i64 0]) := by kernel_rfl

set_option maxRecDepth 100000 in
set_option maxHeartbeats 400000 in
theorem dnew18 (w : World) : Calls Try.prog 14 #[] w fun x w' => ∃ d, x = .returned (.pointer (some ⟨d, 0, none⟩)) ∧ Dc w' d (.slice none 0 0) [] 0 ∧ Same w w' ∧ w.heap.size ≤ d := by
  obtain ⟨W1, hW1⟩ : ∃ W, W = w.alloc (.cells #[.slice none 0 0, .int .i64 0] 56) := ⟨_, rfl⟩
  obtain ⟨xb, hxb⟩ : ∃ b, b = w.heap.size := ⟨_, rfl⟩
  have HK1 : Hid (Same w W1 ∧ w.heap.size ≤ xb) := hid ⟨by rw [hW1]; exact (Kept.refl _ w).alloc _, by omega⟩
  have HB : Hid (Blk W1 xb #[.slice none 0 0, .int .i64 0] 56) := hid (by rw [hW1, hxb]; exact Blk.new w _ _)
  go_enter Try.func14, Try.ntmps14
  go_wp2_with fail
  rw [← hW1, ← hxb]
  go_ret
  exact ⟨xb, rfl, ⟨HB.out, World.ownsRow_nil W1 0 5 1, (fun e => by cases e), (fun b hb => by simp at hb), fun _ => rfl, fun e => absurd rfl e⟩, HK1.out.1, Nat.le_refl _⟩

theorem dwrong18 (h : Dc w d v q e) : Calls Try.prog 18 #[.pointer (some ⟨d, 0, none⟩)] w fun x w' => x = .returned (.int .i64 e) ∧ w' = w := by
  obtain ⟨c0, c1, f0, f1⟩ := h.blk.two
  clear h
  go_enter Try.func18, Try.ntmps18
  go_wp2_with fail
  go_ret
  exact ⟨rfl, rfl⟩

theorem dwrong_nil (w : World) : Calls Try.prog 18 #[.pointer none] w fun x w' => x = .returned (.int .i64 3) ∧ w' = w := by
  go_enter Try.func18, Try.ntmps18
  go_wp2_with fail
  go_ret
  exact ⟨rfl, rfl⟩

theorem dwants_nil (w : World) : Calls Try.prog 19 #[.pointer none] w fun x w' => x = .returned (.int .i64 0) ∧ w' = w := by
  go_enter Try.func19, Try.ntmps19
  go_wp2_with fail
  go_ret
  exact ⟨rfl, rfl⟩

theorem dfeed_nil18 (w : World) (b : Value) : Calls Try.prog 16 #[.pointer none, b] w fun x w' => x = .returned (.tuple #[.slice none 0 0, .int .i64 3]) ∧ w' = w := by
  go_enter Try.func16, Try.ntmps16
  go_wp2_with fail
  go_step3
  go_wp2_with fail
  rw [Exit.noGoto_ret]
  go_ret2
  exact ⟨rfl, rfl⟩

theorem dwants_err (h : Dc w d v q e) (he : e ≠ 0) : Calls Try.prog 19 #[.pointer (some ⟨d, 0, none⟩)] w fun x w' => x = .returned (.int .i64 0) ∧ w' = w := by
  obtain ⟨c0, c1, f0, f1⟩ := h.blk.two
  have hne : (e != 0) = true := by simp [bne, he]
  clear h
  go_enter Try.func19, Try.ntmps19
  go_wp2_with fail
  go_ret
  exact ⟨rfl, rfl⟩

set_option maxHeartbeats 1000000 in
theorem dwants_ok (h : Dc w d v q 0) : Calls Try.prog 19 #[.pointer (some ⟨d, 0, none⟩)] w fun x w' => x = .returned (.int .i64 ((lenF q : Nat) + 9 - (q.length : Nat))) ∧ Same w w' := by
  obtain ⟨c0, c1, f0, f1⟩ := h.blk.two
  obtain ⟨ao, cap, hv, _⟩ := h.row.shape
  have HC : Hid (∀ W, Same w W → Calls Try.prog 28 #[v] W fun e w' => e = .returned (.int .i64 ((lenF q + 9 : Nat) : Int)) ∧ Same W w') := hid (fun W hk => whole_any W v _ q (Src.ofRow (h.row.kept hk (fun _ _ f => f))) (Row.cap18 h.row) h.byt (by have := h.short; omega))
  have hl := lenF_lt q h.byt
  have hs := h.short
  have HKK : Hid (Same w w) := hid (Kept.refl _ _)
  obtain ⟨L, hL⟩ : ∃ L, L = lenF q := ⟨_, rfl⟩
  obtain ⟨n, hn⟩ : ∃ n, n = q.length := ⟨_, rfl⟩
  rw [← hL] at hl
  rw [← hn] at hs hv
  rw [← hL] at HC
  rw [← hL, ← hn]
  subst hv
  clear h hL hn
  go_enter Try.func19, Try.ntmps19
  go_upto_region 3 with fail
  go_region_held3 (fun w' => w'.cell? ⟨d, 0, none⟩ = some (.slice ao n cap))
    (first
      | exact hkc.cell (by assumption) (fun f => f)
      | go_keep)
    (first
      | (go_at_call 28; refine (HC.out _ (by first | exact HKK.out | exact HKK.out.drew)).mono ?_; rintro e wk ⟨rfl, hkc⟩; have HK2 : Hid (Same w wk) := hid (by first | exact Same.trans HKK.out hkc | exact Same.trans HKK.out.drew hkc)))
  have hwr : IntKind.i64.wrap ((L : Int) + 9 - (n : Int)) = (L : Int) + 9 - (n : Int) := by rw [IntKind.wrap_i64]; omega
  go_wp2_with fail
  go_ret
  refine ⟨?_, HK2.out⟩
  rw [hwr]
  rfl

/-- What Wants tells. -/
def wantD (q : List Nat) (e : Int) : Int := if e = 0 then (lenF q : Nat) + 9 - (q.length : Nat) else 0

theorem dwants_any (h : Dc w d v q e) : Calls Try.prog 19 #[.pointer (some ⟨d, 0, none⟩)] w fun x w' => x = .returned (.int .i64 (wantD q e)) ∧ Same w w' := by
  unfold wantD
  by_cases he : e = 0
  · subst he
    rw [if_pos rfl]
    exact dwants_ok h
  · rw [if_neg he]
    exact (dwants_err h he).mono (fun _ _ ⟨h1, h2⟩ => ⟨h1, by rw [h2]; exact Kept.refl _ _⟩)

theorem dwrong_any (h : Dc w d v q e) : Calls Try.prog 18 #[.pointer (some ⟨d, 0, none⟩)] w fun x w' => x = .returned (.int .i64 e) ∧ Same w w' :=
  (dwrong18 h).mono (fun _ _ ⟨h1, h2⟩ => ⟨h1, by rw [h2]; exact Kept.refl _ _⟩)
end

end Go.Proofs.Ytjjhjbmmhkcapaa
