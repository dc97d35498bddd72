/-
  Layer 19, the reference: fields, within, number, text.
-/
import Derived.Test.YtaefgnakdadgeaaWiW
namespace Go.Proofs.Ytaefgnakdadgeaa
open Go.RowKit

/-- Which fields a kind has, as the reference tells it. -/
def flA (k : Int) : Array Value := #[.bool (hasQ k 1), .bool (hasQ k 2), .bool (hasQ k 3), .bool (hasQ k 4), .bool (hasQ k 5), .bool (hasQ k 6), .bool (hasQ k 7)]

theorem Try.size7b : (Try.prog.info? 53).map (·.size) = some 7 := by kernel_rfl

theorem load7b {W : World} {g : Nat} {b1 b2 b3 b4 b5 b6 b7 : Bool} {ty : TypeId} (hb : Blk W g #[.bool b1, .bool b2, .bool b3, .bool b4, .bool b5, .bool b6, .bool b7] ty) : (loadVar 53 ⟨g, 0, none⟩).run Try.prog W = .ok (.agg #[.bool b1, .bool b2, .bool b3, .bool b4, .bool b5, .bool b6, .bool b7]) W :=
  run_load15 53 7 _ Try.underlying53 rfl Try.size7b hb [.bool b1, .bool b2, .bool b3, .bool b4, .bool b5, .bool b6, .bool b7] rfl rfl

theorem okK_iff (k : Int) : okK k = true ↔ (k = 1 ∨ k = 2 ∨ k = 3 ∨ k = 4 ∨ k = 5 ∨ k = 6 ∨ k = 7 ∨ k = 8 ∨ k = 9 ∨ k = 10 ∨ k = 11 ∨ k = 12 ∨ k = 13) := by
  unfold okK
  simp only [decide_eq_true_eq]
  omega

/-- What fields tells. -/
def FlA (k : Int) (w w' : World) (e : Ending) : Prop := e = .returned (.tuple #[.agg (flA k), .bool (okK k)]) ∧ Same w w'

theorem set7b {w : World} {g : Nat} {z0 z1 z2 z3 z4 z5 z6 : Value} {b1 b2 b3 b4 b5 b6 b7 : Bool} {t : TypeId} (hb : Blk w g #[z0, z1, z2, z3, z4, z5, z6] t) :
    Blk (((((((w.setCell ⟨g, 0, none⟩ (.bool b1)).setCell ⟨g, 1, none⟩ (.bool b2)).setCell ⟨g, 2, none⟩ (.bool b3)).setCell ⟨g, 3, none⟩ (.bool b4)).setCell ⟨g, 4, none⟩ (.bool b5)).setCell ⟨g, 5, none⟩ (.bool b6)).setCell ⟨g, 6, none⟩ (.bool b7)) g #[.bool b1, .bool b2, .bool b3, .bool b4, .bool b5, .bool b6, .bool b7] t ∧ Kept (· = g) w (((((((w.setCell ⟨g, 0, none⟩ (.bool b1)).setCell ⟨g, 1, none⟩ (.bool b2)).setCell ⟨g, 2, none⟩ (.bool b3)).setCell ⟨g, 3, none⟩ (.bool b4)).setCell ⟨g, 4, none⟩ (.bool b5)).setCell ⟨g, 5, none⟩ (.bool b6)).setCell ⟨g, 6, none⟩ (.bool b7)) := by
  refine ⟨?_, ((((((((Kept.refl (· = g) w).setCell _ _ (.inl rfl)).setCell _ _ (.inl rfl)).setCell _ _ (.inl rfl)).setCell _ _ (.inl rfl)).setCell _ _ (.inl rfl)).setCell _ _ (.inl rfl)).setCell _ _ (.inl rfl))⟩
  have h9 := (((((((hb.set 0 (.bool b1)).set 1 (.bool b2)).set 2 (.bool b3)).set 3 (.bool b4)).set 4 (.bool b5)).set 5 (.bool b6)).set 6 (.bool b7))
  simpa using h9

set_option maxRecDepth 100000 in
set_option maxHeartbeats 1000000 in
theorem rfields19 (w : World) (k : Int) : Calls Try.prog 29 #[.int .i64 k] w fun e w' => FlA k w w' e := by
  obtain ⟨W1, hW1⟩ : ∃ W, W = w.alloc (.cells #[.bool false, .bool false, .bool false, .bool false, .bool false, .bool false, .bool false] 53) := ⟨_, rfl⟩
  obtain ⟨p, hp⟩ : ∃ b, b = w.heap.size := ⟨_, rfl⟩
  have hb : Blk W1 p #[.bool false, .bool false, .bool false, .bool false, .bool false, .bool false, .bool false] 53 := by rw [hW1, hp]; exact Blk.new _ _ _
  have HB := hid hb
  have HK : Hid (Same w W1) := hid (by rw [hW1]; exact (Kept.refl _ w).alloc _)
  have HP : Hid (w.heap.size ≤ p) := hid (by omega)
  have c0 : W1.cell? ⟨p, 0, none⟩ = some (.bool false) := hb.cell 0
  have c1 : W1.cell? ⟨p, 1, none⟩ = some (.bool false) := hb.cell 1
  have c2 : W1.cell? ⟨p, 2, none⟩ = some (.bool false) := hb.cell 2
  have c3 : W1.cell? ⟨p, 3, none⟩ = some (.bool false) := hb.cell 3
  have c4 : W1.cell? ⟨p, 4, none⟩ = some (.bool false) := hb.cell 4
  have c5 : W1.cell? ⟨p, 5, none⟩ = some (.bool false) := hb.cell 5
  have c6 : W1.cell? ⟨p, 6, none⟩ = some (.bool false) := hb.cell 6
  have z0 := hb.frozen 0
  have z1 := hb.frozen 1
  have z2 := hb.frozen 2
  have z3 := hb.frozen 3
  have z4 := hb.frozen 4
  have z5 := hb.frozen 5
  have z6 := hb.frozen 6
  clear hb
  go_enter Try.func29, Try.ntmps29
  go_upto_region 1 with fail
  rw [← hp, ← hW1]
  clear hp hW1
  have HN : True := trivial
  by_cases h1 : k = 1
  · subst h1
    clear HN
    go_wp2_with fail
    refine bodyPost_ret (v := .tuple #[.agg (flA 1), .bool (okK 1)]) (by rw [results_c2 (p := 2) (b := 3) (ty := 53) rfl _ _ _ _ _ ⟨p, 0, none⟩ _ rfl (load7b (set7b HB.out).1)]; rfl) rfl ?_
    exact ⟨rfl, Same.then HK.out (set7b HB.out).2 (fun x hx e => by have := HP.out; omega)⟩
  by_cases h2 : k = 2
  · subst h2
    clear HN
    go_wp2_with fail
    refine bodyPost_ret (v := .tuple #[.agg (flA 2), .bool (okK 2)]) (by rw [results_c2 (p := 2) (b := 3) (ty := 53) rfl _ _ _ _ _ ⟨p, 0, none⟩ _ rfl (load7b (set7b HB.out).1)]; rfl) rfl ?_
    exact ⟨rfl, Same.then HK.out (set7b HB.out).2 (fun x hx e => by have := HP.out; omega)⟩
  by_cases h3 : k = 3
  · subst h3
    clear HN
    go_wp2_with fail
    refine bodyPost_ret (v := .tuple #[.agg (flA 3), .bool (okK 3)]) (by rw [results_c2 (p := 2) (b := 3) (ty := 53) rfl _ _ _ _ _ ⟨p, 0, none⟩ _ rfl (load7b (set7b HB.out).1)]; rfl) rfl ?_
    exact ⟨rfl, Same.then HK.out (set7b HB.out).2 (fun x hx e => by have := HP.out; omega)⟩
  by_cases h4 : k = 4
  · subst h4
    clear HN
    go_wp2_with fail
    refine bodyPost_ret (v := .tuple #[.agg (flA 4), .bool (okK 4)]) (by rw [results_c2 (p := 2) (b := 3) (ty := 53) rfl _ _ _ _ _ ⟨p, 0, none⟩ _ rfl (load7b (set7b HB.out).1)]; rfl) rfl ?_
    exact ⟨rfl, Same.then HK.out (set7b HB.out).2 (fun x hx e => by have := HP.out; omega)⟩
  by_cases h5 : k = 5
  · subst h5
    clear HN
    go_wp2_with fail
    refine bodyPost_ret (v := .tuple #[.agg (flA 5), .bool (okK 5)]) (by rw [results_c2 (p := 2) (b := 3) (ty := 53) rfl _ _ _ _ _ ⟨p, 0, none⟩ _ rfl (load7b (set7b HB.out).1)]; rfl) rfl ?_
    exact ⟨rfl, Same.then HK.out (set7b HB.out).2 (fun x hx e => by have := HP.out; omega)⟩
  by_cases h6 : k = 6
  · subst h6
    clear HN
    go_wp2_with fail
    refine bodyPost_ret (v := .tuple #[.agg (flA 6), .bool (okK 6)]) (by rw [results_c2 (p := 2) (b := 3) (ty := 53) rfl _ _ _ _ _ ⟨p, 0, none⟩ _ rfl (load7b (set7b HB.out).1)]; rfl) rfl ?_
    exact ⟨rfl, Same.then HK.out (set7b HB.out).2 (fun x hx e => by have := HP.out; omega)⟩
  by_cases h7 : k = 7
  · subst h7
    clear HN
    go_wp2_with fail
    refine bodyPost_ret (v := .tuple #[.agg (flA 7), .bool (okK 7)]) (by rw [results_c2 (p := 2) (b := 3) (ty := 53) rfl _ _ _ _ _ ⟨p, 0, none⟩ _ rfl (load7b (set7b HB.out).1)]; rfl) rfl ?_
    exact ⟨rfl, Same.then HK.out (set7b HB.out).2 (fun x hx e => by have := HP.out; omega)⟩
  by_cases h8 : k = 8
  · subst h8
    clear HN
    go_wp2_with fail
    refine bodyPost_ret (v := .tuple #[.agg (flA 8), .bool (okK 8)]) (by rw [results_c2 (p := 2) (b := 3) (ty := 53) rfl _ _ _ _ _ ⟨p, 0, none⟩ _ rfl (load7b (set7b HB.out).1)]; rfl) rfl ?_
    exact ⟨rfl, Same.then HK.out (set7b HB.out).2 (fun x hx e => by have := HP.out; omega)⟩
  by_cases h9 : k = 9
  · subst h9
    clear HN
    go_wp2_with fail
    refine bodyPost_ret (v := .tuple #[.agg (flA 9), .bool (okK 9)]) (by rw [results_c2 (p := 2) (b := 3) (ty := 53) rfl _ _ _ _ _ ⟨p, 0, none⟩ _ rfl (load7b (set7b HB.out).1)]; rfl) rfl ?_
    exact ⟨rfl, Same.then HK.out (set7b HB.out).2 (fun x hx e => by have := HP.out; omega)⟩
  by_cases h10 : k = 10
  · subst h10
    clear HN
    go_wp2_with fail
    refine bodyPost_ret (v := .tuple #[.agg (flA 10), .bool (okK 10)]) (by rw [results_c2 (p := 2) (b := 3) (ty := 53) rfl _ _ _ _ _ ⟨p, 0, none⟩ _ rfl (load7b (set7b HB.out).1)]; rfl) rfl ?_
    exact ⟨rfl, Same.then HK.out (set7b HB.out).2 (fun x hx e => by have := HP.out; omega)⟩
  by_cases h11 : k = 11
  · subst h11
    clear HN
    go_wp2_with fail
    refine bodyPost_ret (v := .tuple #[.agg (flA 11), .bool (okK 11)]) (by rw [results_c2 (p := 2) (b := 3) (ty := 53) rfl _ _ _ _ _ ⟨p, 0, none⟩ _ rfl (load7b (set7b HB.out).1)]; rfl) rfl ?_
    exact ⟨rfl, Same.then HK.out (set7b HB.out).2 (fun x hx e => by have := HP.out; omega)⟩
  by_cases h12 : k = 12
  · subst h12
    clear HN
    go_wp2_with fail
    refine bodyPost_ret (v := .tuple #[.agg (flA 12), .bool (okK 12)]) (by rw [results_c2 (p := 2) (b := 3) (ty := 53) rfl _ _ _ _ _ ⟨p, 0, none⟩ _ rfl (load7b (set7b HB.out).1)]; rfl) rfl ?_
    exact ⟨rfl, Same.then HK.out (set7b HB.out).2 (fun x hx e => by have := HP.out; omega)⟩
  by_cases h13 : k = 13
  · subst h13
    clear HN
    go_wp2_with fail
    refine bodyPost_ret (v := .tuple #[.agg (flA 13), .bool (okK 13)]) (by rw [results_c2 (p := 2) (b := 3) (ty := 53) rfl _ _ _ _ _ ⟨p, 0, none⟩ _ rfl (load7b (set7b HB.out).1)]; rfl) rfl ?_
    exact ⟨rfl, Same.then HK.out (set7b HB.out).2 (fun x hx e => by have := HP.out; omega)⟩
  have e1 : (k == 1) = false := by simp; omega
  have d1 : decide (k = 1) = false := by simp; omega
  have e2 : (k == 2) = false := by simp; omega
  have d2 : decide (k = 2) = false := by simp; omega
  have e3 : (k == 3) = false := by simp; omega
  have d3 : decide (k = 3) = false := by simp; omega
  have e4 : (k == 4) = false := by simp; omega
  have d4 : decide (k = 4) = false := by simp; omega
  have e5 : (k == 5) = false := by simp; omega
  have d5 : decide (k = 5) = false := by simp; omega
  have e6 : (k == 6) = false := by simp; omega
  have d6 : decide (k = 6) = false := by simp; omega
  have e7 : (k == 7) = false := by simp; omega
  have d7 : decide (k = 7) = false := by simp; omega
  have e8 : (k == 8) = false := by simp; omega
  have d8 : decide (k = 8) = false := by simp; omega
  have e9 : (k == 9) = false := by simp; omega
  have d9 : decide (k = 9) = false := by simp; omega
  have e10 : (k == 10) = false := by simp; omega
  have d10 : decide (k = 10) = false := by simp; omega
  have e11 : (k == 11) = false := by simp; omega
  have d11 : decide (k = 11) = false := by simp; omega
  have e12 : (k == 12) = false := by simp; omega
  have d12 : decide (k = 12) = false := by simp; omega
  have e13 : (k == 13) = false := by simp; omega
  have d13 : decide (k = 13) = false := by simp; omega
  have hok : okK k = false := by unfold okK; simp; omega
  have hfq : fdQ k = [] := by unfold fdQ; rw [if_neg h1, if_neg h3, if_neg h4, if_neg (by omega), if_neg h7, if_neg (by omega), if_neg h10, if_neg h11]
  have hfl : flA k = #[.bool false, .bool false, .bool false, .bool false, .bool false, .bool false, .bool false] := by unfold flA hasQ; rw [hfq]; rfl
  have HOK := hid hok
  have HFL := hid hfl
  clear HN hok hfq hfl h1 h2 h3 h4 h5 h6 h7 h8 h9 h10 h11 h12 h13
  go_wp2_with fail
  refine bodyPost_ret (v := .tuple #[.agg (flA k), .bool (okK k)]) (by rw [results_c2 (p := 2) (b := 3) (ty := 53) rfl _ _ _ _ _ ⟨p, 0, none⟩ _ rfl (load7b (set7b HB.out).1), HFL.out, HOK.out]; rfl) rfl ?_
  exact ⟨rfl, Same.then HK.out (set7b HB.out).2 (fun x hx e => by have := HP.out; omega)⟩

def win (x : Int) : Bool := decide (0 ≤ x ∧ x ≤ 1000000000)

set_option maxHeartbeats 400000 in
theorem rwithin19 (w : World) (x : Int) : Calls Try.prog 30 #[.int .i64 x] w fun e w' => e = .returned (.bool (win x)) ∧ w' = w := by
  by_cases h1 : 0 ≤ x
  · have d1 : decide (0 ≤ x) = true := by simp; omega
    by_cases h2 : x ≤ 1000000000
    · have d2 : decide (x ≤ 1000000000) = true := by simp; omega
      have HE : Hid (win x = true) := hid (by unfold win; simp; omega)
      clear h1 h2
      go_enter Try.func30, Try.ntmps30
      go_wp2_with fail
      go_ret
      exact ⟨by rw [HE.out]; rfl, rfl⟩
    · have d2 : decide (x ≤ 1000000000) = false := by simp; omega
      have HE : Hid (win x = false) := hid (by unfold win; simp; omega)
      clear h1 h2
      go_enter Try.func30, Try.ntmps30
      go_wp2_with fail
      go_ret
      exact ⟨by rw [HE.out]; rfl, rfl⟩
  · have d1 : decide (0 ≤ x) = false := by simp; omega
    have HE : Hid (win x = false) := hid (by unfold win; simp; omega)
    clear h1
    go_enter Try.func30, Try.ntmps30
    go_wp2_with fail
    go_ret
    exact ⟨by rw [HE.out]; rfl, rfl⟩

end Go.Proofs.Ytaefgnakdadgeaa
