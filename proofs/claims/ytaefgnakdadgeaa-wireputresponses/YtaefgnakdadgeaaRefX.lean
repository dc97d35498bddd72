/-
  Joined: WiX, WiY, WiZ.
-/
import Derived.Test.YtaefgnakdadgeaaWiW

/-
  Layer 19, the reference: fields, within, number, text.
-/
namespace Go.Proofs.Ytaefgnakdadgeaa
open Go.RowKit

/-- Which fields a kind has, as the reference tells it. -/
def flA (k : Int) : Array Value := #[.bool (hasQ k 1), .bool (hasQ k 2), .bool (hasQ k 3), .bool (hasQ k 4), .bool (hasQ k 5), .bool (hasQ k 6), .bool (hasQ k 7)]

theorem Try.size7b : (Try.prog.info? 53).map (·.size) = some 7 := by kernel_rfl

theorem load7b {W : World} {g : Nat} {b1 b2 b3 b4 b5 b6 b7 : Bool} {ty : TypeId} (hb : Blk W g #[.bool b1, .bool b2, .bool b3, .bool b4, .bool b5, .bool b6, .bool b7] ty) : (loadVar 53 ⟨g, 0, none⟩).run Try.prog W = .ok (.agg #[.bool b1, .bool b2, .bool b3, .bool b4, .bool b5, .bool b6, .bool b7]) W :=
  run_load15 53 7 _ Try.underlying53 rfl Try.size7b hb [.bool b1, .bool b2, .bool b3, .bool b4, .bool b5, .bool b6, .bool b7] rfl rfl

theorem okK_iff (k : Int) : okK k = true ↔ (k = 1 ∨ k = 2 ∨ k = 3 ∨ k = 4 ∨ k = 5 ∨ k = 6 ∨ k = 7 ∨ k = 8 ∨ k = 9 ∨ k = 10 ∨ k = 11 ∨ k = 12 ∨ k = 13) := by
  unfold okK
  simp only [decide_eq_true_eq]
  omega

/-- What fields tells. -/
def FlA (k : Int) (w w' : World) (e : Ending) : Prop := e = .returned (.tuple #[.agg (flA k), .bool (okK k)]) ∧ Same w w'

theorem set7b {w : World} {g : Nat} {z0 z1 z2 z3 z4 z5 z6 : Value} {b1 b2 b3 b4 b5 b6 b7 : Bool} {t : TypeId} (hb : Blk w g #[z0, z1, z2, z3, z4, z5, z6] t) :
    Blk (((((((w.setCell ⟨g, 0, none⟩ (.bool b1)).setCell ⟨g, 1, none⟩ (.bool b2)).setCell ⟨g, 2, none⟩ (.bool b3)).setCell ⟨g, 3, none⟩ (.bool b4)).setCell ⟨g, 4, none⟩ (.bool b5)).setCell ⟨g, 5, none⟩ (.bool b6)).setCell ⟨g, 6, none⟩ (.bool b7)) g #[.bool b1, .bool b2, .bool b3, .bool b4, .bool b5, .bool b6, .bool b7] t ∧ Kept (· = g) w (((((((w.setCell ⟨g, 0, none⟩ (.bool b1)).setCell ⟨g, 1, none⟩ (.bool b2)).setCell ⟨g, 2, none⟩ (.bool b3)).setCell ⟨g, 3, none⟩ (.bool b4)).setCell ⟨g, 4, none⟩ (.bool b5)).setCell ⟨g, 5, none⟩ (.bool b6)).setCell ⟨g, 6, none⟩ (.bool b7)) := by
  refine ⟨?_, ((((((((Kept.refl (· = g) w).setCell _ _ (.inl rfl)).setCell _ _ (.inl rfl)).setCell _ _ (.inl rfl)).setCell _ _ (.inl rfl)).setCell _ _ (.inl rfl)).setCell _ _ (.inl rfl)).setCell _ _ (.inl rfl))⟩
  have h9 := (((((((hb.set 0 (.bool b1)).set 1 (.bool b2)).set 2 (.bool b3)).set 3 (.bool b4)).set 4 (.bool b5)).set 5 (.bool b6)).set 6 (.bool b7))
  simpa using h9

set_option maxRecDepth 100000 in
set_option maxHeartbeats 1000000 in
theorem rfields19 (w : World) (k : Int) : Calls Try.prog 29 #[.int .i64 k] w fun e w' => FlA k w w' e := by
  obtain ⟨W1, hW1⟩ : ∃ W, W = w.alloc (.cells #[.bool false, .bool false, .bool false, .bool false, .bool false, .bool false, .bool false] 53) := ⟨_, rfl⟩
  obtain ⟨p, hp⟩ : ∃ b, b = w.heap.size := ⟨_, rfl⟩
  have hb : Blk W1 p #[.bool false, .bool false, .bool false, .bool false, .bool false, .bool false, .bool false] 53 := by rw [hW1, hp]; exact Blk.new _ _ _
  have HB := hid hb
  have HK : Hid (Same w W1) := hid (by rw [hW1]; exact (Kept.refl _ w).alloc _)
  have HP : Hid (w.heap.size ≤ p) := hid (by omega)
  have c0 : W1.cell? ⟨p, 0, none⟩ = some (.bool false) := hb.cell 0
  have c1 : W1.cell? ⟨p, 1, none⟩ = some (.bool false) := hb.cell 1
  have c2 : W1.cell? ⟨p, 2, none⟩ = some (.bool false) := hb.cell 2
  have c3 : W1.cell? ⟨p, 3, none⟩ = some (.bool false) := hb.cell 3
  have c4 : W1.cell? ⟨p, 4, none⟩ = some (.bool false) := hb.cell 4
  have c5 : W1.cell? ⟨p, 5, none⟩ = some (.bool false) := hb.cell 5
  have c6 : W1.cell? ⟨p, 6, none⟩ = some (.bool false) := hb.cell 6
  have z0 := hb.frozen 0
  have z1 := hb.frozen 1
  have z2 := hb.frozen 2
  have z3 := hb.frozen 3
  have z4 := hb.frozen 4
  have z5 := hb.frozen 5
  have z6 := hb.frozen 6
  clear hb
  go_enter Try.func29, Try.ntmps29
  go_upto_region 1 with fail
  rw [← hp, ← hW1]
  clear hp hW1
  have HN : True := trivial
  by_cases h1 : k = 1
  · subst h1
    clear HN
    go_wp2_with fail
    refine bodyPost_ret (v := .tuple #[.agg (flA 1), .bool (okK 1)]) (by rw [results_c2 (p := 2) (b := 3) (ty := 53) rfl _ _ _ _ _ ⟨p, 0, none⟩ _ rfl (load7b (set7b HB.out).1)]; rfl) rfl ?_
    exact ⟨rfl, Same.then HK.out (set7b HB.out).2 (fun x hx e => by have := HP.out; omega)⟩
  by_cases h2 : k = 2
  · subst h2
    clear HN
    go_wp2_with fail
    refine bodyPost_ret (v := .tuple #[.agg (flA 2), .bool (okK 2)]) (by rw [results_c2 (p := 2) (b := 3) (ty := 53) rfl _ _ _ _ _ ⟨p, 0, none⟩ _ rfl (load7b (set7b HB.out).1)]; rfl) rfl ?_
    exact ⟨rfl, Same.then HK.out (set7b HB.out).2 (fun x hx e => by have := HP.out; omega)⟩
  by_cases h3 : k = 3
  · subst h3
    clear HN
    go_wp2_with fail
    refine bodyPost_ret (v := .tuple #[.agg (flA 3), .bool (okK 3)]) (by rw [results_c2 (p := 2) (b := 3) (ty := 53) rfl _ _ _ _ _ ⟨p, 0, none⟩ _ rfl (load7b (set7b HB.out).1)]; rfl) rfl ?_
    exact ⟨rfl, Same.then HK.out (set7b HB.out).2 (fun x hx e => by have := HP.out; omega)⟩
  by_cases h4 : k = 4
  · subst h4
    clear HN
    go_wp2_with fail
    refine bodyPost_ret (v := .tuple #[.agg (flA 4), .bool (okK 4)]) (by rw [results_c2 (p := 2) (b := 3) (ty := 53) rfl _ _ _ _ _ ⟨p, 0, none⟩ _ rfl (load7b (set7b HB.out).1)]; rfl) rfl ?_
    exact ⟨rfl, Same.then HK.out (set7b HB.out).2 (fun x hx e => by have := HP.out; omega)⟩
  by_cases h5 : k = 5
  · subst h5
    clear HN
    go_wp2_with fail
    refine bodyPost_ret (v := .tuple #[.agg (flA 5), .bool (okK 5)]) (by rw [results_c2 (p := 2) (b := 3) (ty := 53) rfl _ _ _ _ _ ⟨p, 0, none⟩ _ rfl (load7b (set7b HB.out).1)]; rfl) rfl ?_
    exact ⟨rfl, Same.then HK.out (set7b HB.out).2 (fun x hx e => by have := HP.out; omega)⟩
  by_cases h6 : k = 6
  · subst h6
    clear HN
    go_wp2_with fail
    refine bodyPost_ret (v := .tuple #[.agg (flA 6), .bool (okK 6)]) (by rw [results_c2 (p := 2) (b := 3) (ty := 53) rfl _ _ _ _ _ ⟨p, 0, none⟩ _ rfl (load7b (set7b HB.out).1)]; rfl) rfl ?_
    exact ⟨rfl, Same.then HK.out (set7b HB.out).2 (fun x hx e => by have := HP.out; omega)⟩
  by_cases h7 : k = 7
  · subst h7
    clear HN
    go_wp2_with fail
    refine bodyPost_ret (v := .tuple #[.agg (flA 7), .bool (okK 7)]) (by rw [results_c2 (p := 2) (b := 3) (ty := 53) rfl _ _ _ _ _ ⟨p, 0, none⟩ _ rfl (load7b (set7b HB.out).1)]; rfl) rfl ?_
    exact ⟨rfl, Same.then HK.out (set7b HB.out).2 (fun x hx e => by have := HP.out; omega)⟩
  by_cases h8 : k = 8
  · subst h8
    clear HN
    go_wp2_with fail
    refine bodyPost_ret (v := .tuple #[.agg (flA 8), .bool (okK 8)]) (by rw [results_c2 (p := 2) (b := 3) (ty := 53) rfl _ _ _ _ _ ⟨p, 0, none⟩ _ rfl (load7b (set7b HB.out).1)]; rfl) rfl ?_
    exact ⟨rfl, Same.then HK.out (set7b HB.out).2 (fun x hx e => by have := HP.out; omega)⟩
  by_cases h9 : k = 9
  · subst h9
    clear HN
    go_wp2_with fail
    refine bodyPost_ret (v := .tuple #[.agg (flA 9), .bool (okK 9)]) (by rw [results_c2 (p := 2) (b := 3) (ty := 53) rfl _ _ _ _ _ ⟨p, 0, none⟩ _ rfl (load7b (set7b HB.out).1)]; rfl) rfl ?_
    exact ⟨rfl, Same.then HK.out (set7b HB.out).2 (fun x hx e => by have := HP.out; omega)⟩
  by_cases h10 : k = 10
  · subst h10
    clear HN
    go_wp2_with fail
    refine bodyPost_ret (v := .tuple #[.agg (flA 10), .bool (okK 10)]) (by rw [results_c2 (p := 2) (b := 3) (ty := 53) rfl _ _ _ _ _ ⟨p, 0, none⟩ _ rfl (load7b (set7b HB.out).1)]; rfl) rfl ?_
    exact ⟨rfl, Same.then HK.out (set7b HB.out).2 (fun x hx e => by have := HP.out; omega)⟩
  by_cases h11 : k = 11
  · subst h11
    clear HN
    go_wp2_with fail
    refine bodyPost_ret (v := .tuple #[.agg (flA 11), .bool (okK 11)]) (by rw [results_c2 (p := 2) (b := 3) (ty := 53) rfl _ _ _ _ _ ⟨p, 0, none⟩ _ rfl (load7b (set7b HB.out).1)]; rfl) rfl ?_
    exact ⟨rfl, Same.then HK.out (set7b HB.out).2 (fun x hx e => by have := HP.out; omega)⟩
  by_cases h12 : k = 12
  · subst h12
    clear HN
    go_wp2_with fail
    refine bodyPost_ret (v := .tuple #[.agg (flA 12), .bool (okK 12)]) (by rw [results_c2 (p := 2) (b := 3) (ty := 53) rfl _ _ _ _ _ ⟨p, 0, none⟩ _ rfl (load7b (set7b HB.out).1)]; rfl) rfl ?_
    exact ⟨rfl, Same.then HK.out (set7b HB.out).2 (fun x hx e => by have := HP.out; omega)⟩
  by_cases h13 : k = 13
  · subst h13
    clear HN
    go_wp2_with fail
    refine bodyPost_ret (v := .tuple #[.agg (flA 13), .bool (okK 13)]) (by rw [results_c2 (p := 2) (b := 3) (ty := 53) rfl _ _ _ _ _ ⟨p, 0, none⟩ _ rfl (load7b (set7b HB.out).1)]; rfl) rfl ?_
    exact ⟨rfl, Same.then HK.out (set7b HB.out).2 (fun x hx e => by have := HP.out; omega)⟩
  have e1 : (k == 1) = false := by simp; omega
  have d1 : decide (k = 1) = false := by simp; omega
  have e2 : (k == 2) = false := by simp; omega
  have d2 : decide (k = 2) = false := by simp; omega
  have e3 : (k == 3) = false := by simp; omega
  have d3 : decide (k = 3) = false := by simp; omega
  have e4 : (k == 4) = false := by simp; omega
  have d4 : decide (k = 4) = false := by simp; omega
  have e5 : (k == 5) = false := by simp; omega
  have d5 : decide (k = 5) = false := by simp; omega
  have e6 : (k == 6) = false := by simp; omega
  have d6 : decide (k = 6) = false := by simp; omega
  have e7 : (k == 7) = false := by simp; omega
  have d7 : decide (k = 7) = false := by simp; omega
  have e8 : (k == 8) = false := by simp; omega
  have d8 : decide (k = 8) = false := by simp; omega
  have e9 : (k == 9) = false := by simp; omega
  have d9 : decide (k = 9) = false := by simp; omega
  have e10 : (k == 10) = false := by simp; omega
  have d10 : decide (k = 10) = false := by simp; omega
  have e11 : (k == 11) = false := by simp; omega
  have d11 : decide (k = 11) = false := by simp; omega
  have e12 : (k == 12) = false := by simp; omega
  have d12 : decide (k = 12) = false := by simp; omega
  have e13 : (k == 13) = false := by simp; omega
  have d13 : decide (k = 13) = false := by simp; omega
  have hok : okK k = false := by unfold okK; simp; omega
  have hfq : fdQ k = [] := by unfold fdQ; rw [if_neg h1, if_neg h3, if_neg h4, if_neg (by omega), if_neg h7, if_neg (by omega), if_neg h10, if_neg h11]
  have hfl : flA k = #[.bool false, .bool false, .bool false, .bool false, .bool false, .bool false, .bool false] := by unfold flA hasQ; rw [hfq]; rfl
  have HOK := hid hok
  have HFL := hid hfl
  clear HN hok hfq hfl h1 h2 h3 h4 h5 h6 h7 h8 h9 h10 h11 h12 h13
  go_wp2_with fail
  refine bodyPost_ret (v := .tuple #[.agg (flA k), .bool (okK k)]) (by rw [results_c2 (p := 2) (b := 3) (ty := 53) rfl _ _ _ _ _ ⟨p, 0, none⟩ _ rfl (load7b (set7b HB.out).1), HFL.out, HOK.out]; rfl) rfl ?_
  exact ⟨rfl, Same.then HK.out (set7b HB.out).2 (fun x hx e => by have := HP.out; omega)⟩

def win (x : Int) : Bool := decide (0 ≤ x ∧ x ≤ 1000000000)

set_option maxHeartbeats 400000 in
theorem rwithin19 (w : World) (x : Int) : Calls Try.prog 30 #[.int .i64 x] w fun e w' => e = .returned (.bool (win x)) ∧ w' = w := by
  by_cases h1 : 0 ≤ x
  · have d1 : decide (0 ≤ x) = true := by simp; omega
    by_cases h2 : x ≤ 1000000000
    · have d2 : decide (x ≤ 1000000000) = true := by simp; omega
      have HE : Hid (win x = true) := hid (by unfold win; simp; omega)
      clear h1 h2
      go_enter Try.func30, Try.ntmps30
      go_wp2_with fail
      go_ret
      exact ⟨by rw [HE.out]; rfl, rfl⟩
    · have d2 : decide (x ≤ 1000000000) = false := by simp; omega
      have HE : Hid (win x = false) := hid (by unfold win; simp; omega)
      clear h1 h2
      go_enter Try.func30, Try.ntmps30
      go_wp2_with fail
      go_ret
      exact ⟨by rw [HE.out]; rfl, rfl⟩
  · have d1 : decide (0 ≤ x) = false := by simp; omega
    have HE : Hid (win x = false) := hid (by unfold win; simp; omega)
    clear h1
    go_enter Try.func30, Try.ntmps30
    go_wp2_with fail
    go_ret
    exact ⟨by rw [HE.out]; rfl, rfl⟩

end Go.Proofs.Ytaefgnakdadgeaa

/-
  Layer 19, the reference: number, text.
-/
namespace Go.Proofs.Ytaefgnakdadgeaa
open Go.RowKit

set_option maxRecDepth 100000 in
set_option maxHeartbeats 1000000 in
theorem rnumber19 (w0 w : World) (v : Value) (bs : List Nat) (hv : Fresh w0 w v bs) (x : Nat) (hx : x < 4294967296) (hb : bs.length ≤ 1000000) :
    Calls Try.prog 31 #[v, .int .i64 (x : Nat)] w fun e w' => ∃ v', e = .returned v' ∧ Fresh w0 w' v' (bs ++ leOf x 4) := by
  have HV := hid hv
  have HBL : Hid (bs.length ≤ 1000000) := hb
  clear hv hb
  go_enter Try.func31, Try.ntmps31
  go_wp2_with fail
  go_loopg [0, 1, 5] 4 (fun k o y z wr => ∃ i u : Nat, i ≤ 4 ∧ 4 - i ≤ k ∧ z = .int .i64 (i : Nat) ∧ y = .int .i64 (u : Nat) ∧ u < 4294967296 ∧ Hid (u = x / 256 ^ i ∧ Fresh w0 wr o (bs ++ leOf x i)))
  case atStart => exact ⟨0, x, by omega, by omega, rfl, rfl, hx, hid ⟨by simp, by simpa [leOf] using HV.out⟩⟩
  case round =>
    obtain ⟨i, u, hi, hik, rfl, rfl, hu, HX⟩ := hrel
    obtain ⟨vo, hvo⟩ : ∃ x, x = u0 := ⟨_, rfl⟩
    rw [← hvo] at HX ⊢
    clear hvo
    by_cases hlt : i < 4
    · obtain ⟨M, hM⟩ : ∃ M, M = u % 256 := ⟨_, rfl⟩
      obtain ⟨D, hD⟩ : ∃ D, D = u / 256 := ⟨_, rfl⟩
      have b1 : decide ((i : Int) < 4) = true := by simp; omega
      have b2 : decide (i < 4) = true := by simp; omega
      have m1 : Int.tmod (u : Int) 256 = (M : Int) := by rw [Int.tmod_eq_emod_of_nonneg (by omega)]; omega
      have m2 : (u : Int) % 256 = (M : Int) := by omega
      have m3 : Int.tdiv (u : Int) 256 = (D : Int) := by rw [Int.tdiv_eq_ediv_of_nonneg (by omega)]; omega
      have m4 : (u : Int) / 256 = (D : Int) := by omega
      have m5 : IntKind.u8.wrap (M : Int) = (M : Int) := by rw [IntKind.wrap_u8]; omega
      have m6 : IntKind.i64.wrap (D : Int) = (D : Int) := by rw [IntKind.wrap_i64]; omega
      have m7 : IntKind.i64.wrap (M : Int) = (M : Int) := by rw [IntKind.wrap_i64]; omega
      have hiw : IntKind.i64.wrap ((i : Int) + 1) = ((i + 1 : Nat) : Int) := by rw [IntKind.wrap_i64]; omega
      have hDl : D < 4294967296 := by rw [hD]; omega
      have HMD : Hid (M = x / 256 ^ i % 256 ∧ D = x / 256 ^ (i + 1)) := hid (by
        rw [hM, hD, HX.out.1]
        exact ⟨rfl, by rw [Nat.div_div_eq_div_mul, ← Nat.pow_succ]⟩)
      have HLL : Hid ((bs ++ leOf x i).length + 1 ≤ 2000000) := hid (by have := HBL.out; rw [List.length_append, leOf_length]; omega)
      clear hM hD hu
      go_wp2_with (at_builtin; refine wpList_append_row _ rfl (.tmp 10) (.tmp 14) rfl vo _ rfl (World.ownsRow.alloc HX.out.2.row _) ⟨wr.heap.size, 0, none⟩ 1 1 [M] rfl rfl (bytesAt_int _ _ _ (by first | rfl | (simp; omega))) (by have := HLL.out; simp only [List.length_cons, List.length_nil]; omega) ?_)
      intro v1 w1 hr1 hg1 ho1
      have HX2 : Hid (Fresh w0 w1 v1 (bs ++ leOf x (i + 1))) := hid (by
        have h := HX.out.2.app (cs := [M]) (by simpa using hr1) hg1 (by simpa using ho1)
        rw [List.append_assoc, HMD.out.1] at h
        exact h)
      clear hr1 hg1 ho1
      go_wp2_with fail
      go_roundg (gk - 1)
      case measure => omega
      case rel => exact ⟨i + 1, D, by omega, by omega, by go_num, rfl, hDl, hid ⟨HMD.out.2, HX2.out⟩⟩
    · obtain rfl : i = 4 := by omega
      have b1 : decide ((4 : Int) < 4) = false := by decide
      go_wp2_with fail
      go_ret
      exact ⟨_, rfl, HX.out.2⟩

theorem rtext19_bytes (n : Nat) : leOf n 2 = [n % 256, n / 256 % 256] := by simp [leOf]

set_option maxRecDepth 100000 in
set_option maxHeartbeats 1000000 in
theorem rtext19 (w0 w : World) (v : Value) (bs : List Nat) (hv : Fresh w0 w v bs) (T : ByteArray) (hT : T.size < 65536) (hb : bs.length ≤ 1000000) :
    Calls Try.prog 32 #[v, .string T] w fun e w' => ∃ v', e = .returned v' ∧ Fresh w0 w' v' (bs ++ (leOf T.size 2 ++ sb T)) := by
  obtain ⟨u, hu⟩ : ∃ u, u = T.size := ⟨_, rfl⟩
  have hu2 : T.size = u := hu.symm
  obtain ⟨M, hM⟩ : ∃ M, M = u % 256 := ⟨_, rfl⟩
  obtain ⟨D, hD⟩ : ∃ D, D = u / 256 := ⟨_, rfl⟩
  have m1 : Int.tmod (u : Int) 256 = (M : Int) := by rw [Int.tmod_eq_emod_of_nonneg (by omega)]; omega
  have m2 : (u : Int) % 256 = (M : Int) := by omega
  have m3 : Int.tdiv (u : Int) 256 = (D : Int) := by rw [Int.tdiv_eq_ediv_of_nonneg (by omega)]; omega
  have m4 : (u : Int) / 256 = (D : Int) := by omega
  have m5 : IntKind.u8.wrap (M : Int) = (M : Int) := by rw [IntKind.wrap_u8]; omega
  have m6 : IntKind.i64.wrap (D : Int) = (D : Int) := by rw [IntKind.wrap_i64]; omega
  have m7 : IntKind.i64.wrap (M : Int) = (M : Int) := by rw [IntKind.wrap_i64]; omega
  have m8 : IntKind.u8.wrap (D : Int) = (D : Int) := by rw [IntKind.wrap_u8]; omega
  have HLE : Hid (leOf u 2 = [M, D] ∧ u < 65536 ∧ T.size = u) := hid ⟨by rw [rtext19_bytes, ← hM, hD, Nat.mod_eq_of_lt (by omega)], by omega, hu2⟩
  have HV := hid hv
  have HBL : Hid (bs.length ≤ 1000000) := hb
  have HSB := hid (sb_lt T)
  have HTS := hid (txt_sb T)
  clear hv hb hM hD hu hT
  rw [hu2]
  go_enter Try.func32, Try.ntmps32
  go_wp2_with (at_builtin; refine wpList_append_row _ rfl (.tmp 5) (.tmp 14) rfl v bs rfl (World.ownsRow.alloc HV.out.row _) ⟨w.heap.size, 0, none⟩ 2 2 [M, D] rfl rfl (by intro j v hv; match j, hv with | 0, hv => (simp [byteV] at hv; subst hv; exact (Blk.new w _ _).cell 0) | 1, hv => (simp [byteV] at hv; subst hv; exact (Blk.new w _ _).cell 1) | j + 2, hv => (simp at hv)) (by have := HBL.out; simp; omega) ?_)
  intro v1 w1 hr1 hg1 ho1
  have HF1 : Hid (Fresh w0 w1 v1 (bs ++ leOf u 2)) := hid (by rw [HLE.out.1]; exact HV.out.app hr1 hg1 (by simpa using ho1))
  clear hr1 hg1 ho1
  go_wp2_with (at_builtin; refine wpList_append_txt _ rfl (.tmp 16) (.tmp 17) rfl w0 v1 _ rfl HF1.out (sb T) (by rw [HTS.out]; rfl) HSB.out (by have := HBL.out; have := HLE.out.2; rw [List.length_append, leOf_length, sb_size]; omega) ?_)
  intro v2 w2 hf2
  have HF2 : Hid (Fresh w0 w2 v2 (bs ++ (leOf u 2 ++ sb T))) := hid hf2
  clear hf2
  go_wp2_with fail
  go_ret
  exact ⟨_, rfl, HF2.out⟩

end Go.Proofs.Ytaefgnakdadgeaa

/-
  Layer 19, the reference: what PutRequest refuses (mathematics).
-/
namespace Go.Proofs.Ytaefgnakdadgeaa
open Go.RowKit

theorem flags_cases (k : Int) : (hasQ k 1 = false ∧ hasQ k 2 = false ∧ hasQ k 3 = false ∧ hasQ k 4 = false ∧ hasQ k 5 = false ∧ hasQ k 6 = false ∧ hasQ k 7 = true) ∨ (hasQ k 1 = true ∧ hasQ k 2 = true ∧ hasQ k 3 = true ∧ hasQ k 4 = false ∧ hasQ k 5 = true ∧ hasQ k 6 = true ∧ hasQ k 7 = false) ∨ (hasQ k 1 = true ∧ hasQ k 2 = true ∧ hasQ k 3 = false ∧ hasQ k 4 = false ∧ hasQ k 5 = false ∧ hasQ k 6 = false ∧ hasQ k 7 = false) ∨ (hasQ k 1 = true ∧ hasQ k 2 = true ∧ hasQ k 3 = true ∧ hasQ k 4 = true ∧ hasQ k 5 = false ∧ hasQ k 6 = false ∧ hasQ k 7 = false) ∨ (hasQ k 1 = true ∧ hasQ k 2 = true ∧ hasQ k 3 = true ∧ hasQ k 4 = false ∧ hasQ k 5 = false ∧ hasQ k 6 = false ∧ hasQ k 7 = false) ∨ (hasQ k 1 = true ∧ hasQ k 2 = false ∧ hasQ k 3 = false ∧ hasQ k 4 = false ∧ hasQ k 5 = false ∧ hasQ k 6 = false ∧ hasQ k 7 = false) ∨ (hasQ k 1 = true ∧ hasQ k 2 = true ∧ hasQ k 3 = false ∧ hasQ k 4 = false ∧ hasQ k 5 = true ∧ hasQ k 6 = true ∧ hasQ k 7 = false) ∨ (hasQ k 1 = true ∧ hasQ k 2 = true ∧ hasQ k 3 = false ∧ hasQ k 4 = true ∧ hasQ k 5 = false ∧ hasQ k 6 = false ∧ hasQ k 7 = false) ∨ (hasQ k 1 = false ∧ hasQ k 2 = false ∧ hasQ k 3 = false ∧ hasQ k 4 = false ∧ hasQ k 5 = false ∧ hasQ k 6 = false ∧ hasQ k 7 = false) := by
  unfold hasQ
  rcases fdQ_cases k with h | h | h | h | h | h | h | h | h
  all_goals
    rw [h]
    simp

theorem win_false {x : Int} : win x = false ↔ (x < 0 ∨ 1000000000 < x) := by
  unfold win
  rw [decide_eq_false_iff_not]
  omega

theorem numA_win (x : Int) : numA x = if win x = false then 1 else 0 := by
  unfold numA
  by_cases h : win x = false
  · rw [if_pos h, if_pos (win_false.1 h)]
  · rw [if_neg h, if_neg (fun e => h (win_false.2 e))]

theorem win_zero : win 0 = true := by decide

def bigQ (q : Rq) : Prop := 255 < q.a.size ∨ 255 < q.e.size ∨ 256 < q.o.size ∨ 16384 < q.d.size
def badQ (q : Rq) : Prop := win q.x = false ∨ win q.f = false ∨ win q.m = false

theorem size_nil : (ByteArray.mk #[]).size = 0 := rfl

theorem wrongL_num {cs : List Cel} {l : List Fd} : wrongL cs l = 1 ↔ ∃ f ∈ l, wrongF cs f = 1 := by
  unfold wrongL
  by_cases h : (l.any fun f => decide (wrongF cs f = 1)) = true
  · rw [if_pos h]
    simp only [List.any_eq_true, decide_eq_true_eq] at h
    exact ⟨fun _ => h, fun _ => rfl⟩
  · rw [if_neg h]
    simp only [List.any_eq_true, decide_eq_true_eq] at h
    constructor
    · intro h2; split at h2 <;> cases h2
    · intro h2; exact absurd h2 h

theorem wrongL_big {cs : List Cel} {l : List Fd} (h1 : ¬ ∃ f ∈ l, wrongF cs f = 1) : wrongL cs l = if (∃ f ∈ l, wrongF cs f = 2) then 2 else 0 := by
  unfold wrongL
  rw [if_neg (by simp only [List.any_eq_true, decide_eq_true_eq]; exact h1)]
  by_cases h : ∃ f ∈ l, wrongF cs f = 2
  · rw [if_pos h, if_pos (by simp only [List.any_eq_true, decide_eq_true_eq]; exact h)]
  · rw [if_neg h, if_neg (by simp only [List.any_eq_true, decide_eq_true_eq]; exact h)]

theorem numA_one {x : Int} : numA x = 1 ↔ win x = false := by
  rw [numA_win]
  by_cases h : win x = false
  · rw [if_pos h]; simp [h]
  · rw [if_neg h]; simp [h]

theorem numA_two {x : Int} : ¬ numA x = 2 := by
  rw [numA_win]
  split <;> decide

theorem txt_one {n m : Nat} : ¬ (if m < n then 2 else 0) = 1 := by split <;> decide
theorem txt_two {n m : Nat} : (if m < n then 2 else 0) = 2 ↔ m < n := by
  constructor
  · intro h; split at h
    · assumption
    · cases h
  · intro h; rw [if_pos h]

set_option maxRecDepth 100000 in
theorem wrong_is {q : Rq} (h : othQ q = false) : (wrongL q.cs (fdQ q.k) = 1 ↔ badQ q) ∧ (¬ badQ q → (wrongL q.cs (fdQ q.k) = 2 ↔ bigQ q)) := by
  have key : ((∃ f ∈ fdQ q.k, wrongF q.cs f = 1) ↔ badQ q) ∧ ((∃ f ∈ fdQ q.k, wrongF q.cs f = 2) ↔ bigQ q) := by
    unfold othQ clrQ at h
    simp only [Bool.not_eq_false', Bool.and_eq_true, decide_eq_true_eq] at h
    unfold badQ bigQ
    obtain ⟨k, x, a, e, d, f, m, o⟩ := q
    simp only at h ⊢
    unfold hasQ at h
    rcases fdQ_cases k with e1 | e1 | e1 | e1 | e1 | e1 | e1 | e1 | e1
    all_goals
      rw [e1] at h ⊢
      simp at h
      simp [wrongF, Rq.cs, numA_one, numA_two, txt_one, h, win_zero, size_nil]
    all_goals
      first
        | done
        | (simp [or_comm, or_left_comm, or_assoc]; done)
        | skip
  refine ⟨wrongL_num.trans key.1, fun hb => ?_⟩
  rw [wrongL_big (fun h9 => hb (key.1.1 h9))]
  by_cases h2 : bigQ q
  · rw [if_pos (key.2.2 h2)]; simp [h2]
  · rw [if_neg (fun h9 => h2 (key.2.1 h9))]; simp [h2]

theorem perr_is (q : Rq) : (okK q.k = false → perr q = 191) ∧ (okK q.k = true → othQ q = true → perr q = 1) ∧ (okK q.k = true → othQ q = false → badQ q → perr q = 1) ∧ (okK q.k = true → othQ q = false → ¬ badQ q → bigQ q → perr q = 2) ∧ (okK q.k = true → othQ q = false → ¬ badQ q → ¬ bigQ q → perr q = 0) := by
  unfold perr
  refine ⟨fun h => by rw [if_pos h], fun h h2 => by rw [if_neg (by rw [h]; decide), if_pos h2], fun h h2 h3 => ?_, fun h h2 h3 h4 => ?_, fun h h2 h3 h4 => ?_⟩
  all_goals rw [if_neg (by rw [h]; decide), if_neg (by rw [h2]; decide)]
  · exact (wrong_is h2).1.2 h3
  · exact ((wrong_is h2).2 h3).2 h4
  · rcases wrongL_two q.cs (fdQ q.k) with h5 | h5 | h5
    · exact h5
    · exact absurd ((wrong_is h2).1.1 h5) h3
    · exact absurd (((wrong_is h2).2 h3).1 h5) h4

end Go.Proofs.Ytaefgnakdadgeaa
