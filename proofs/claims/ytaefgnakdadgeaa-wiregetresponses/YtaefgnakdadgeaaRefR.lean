/-
  Joined: WiX, WjB, WjC, WiY, WiZ, WjD, WjG.
-/
import Derived.Test.YtaefgnakdadgeaaWiW
import Derived.Test.YtaefgnakdadgeaaWiLw

/-
  Layer 19, the reference: fields, within, number, text.
-/
namespace Go.Proofs.Ytaefgnakdadgeaa
open Go.RowKit

/-- Which fields a kind has, as the reference tells it. -/
def flA (k : Int) : Array Value := #[.bool (hasQ k 1), .bool (hasQ k 2), .bool (hasQ k 3), .bool (hasQ k 4), .bool (hasQ k 5), .bool (hasQ k 6), .bool (hasQ k 7)]

theorem Try.size7b : (Try.prog.info? 53).map (·.size) = some 7 := by kernel_rfl

theorem load7b {W : World} {g : Nat} {b1 b2 b3 b4 b5 b6 b7 : Bool} {ty : TypeId} (hb : Blk W g #[.bool b1, .bool b2, .bool b3, .bool b4, .bool b5, .bool b6, .bool b7] ty) : (loadVar 53 ⟨g, 0, none⟩).run Try.prog W = .ok (.agg #[.bool b1, .bool b2, .bool b3, .bool b4, .bool b5, .bool b6, .bool b7]) W :=
  run_load15 53 7 _ Try.underlying53 rfl Try.size7b hb [.bool b1, .bool b2, .bool b3, .bool b4, .bool b5, .bool b6, .bool b7] rfl rfl

theorem okK_iff (k : Int) : okK k = true ↔ (k = 1 ∨ k = 2 ∨ k = 3 ∨ k = 4 ∨ k = 5 ∨ k = 6 ∨ k = 7 ∨ k = 8 ∨ k = 9 ∨ k = 10 ∨ k = 11 ∨ k = 12 ∨ k = 13) := by
  unfold okK
  simp only [decide_eq_true_eq]
  omega

/-- What fields tells. -/
def FlA (k : Int) (w w' : World) (e : Ending) : Prop := e = .returned (.tuple #[.agg (flA k), .bool (okK k)]) ∧ Same w w'

theorem set7b {w : World} {g : Nat} {z0 z1 z2 z3 z4 z5 z6 : Value} {b1 b2 b3 b4 b5 b6 b7 : Bool} {t : TypeId} (hb : Blk w g #[z0, z1, z2, z3, z4, z5, z6] t) :
    Blk (((((((w.setCell ⟨g, 0, none⟩ (.bool b1)).setCell ⟨g, 1, none⟩ (.bool b2)).setCell ⟨g, 2, none⟩ (.bool b3)).setCell ⟨g, 3, none⟩ (.bool b4)).setCell ⟨g, 4, none⟩ (.bool b5)).setCell ⟨g, 5, none⟩ (.bool b6)).setCell ⟨g, 6, none⟩ (.bool b7)) g #[.bool b1, .bool b2, .bool b3, .bool b4, .bool b5, .bool b6, .bool b7] t ∧ Kept (· = g) w (((((((w.setCell ⟨g, 0, none⟩ (.bool b1)).setCell ⟨g, 1, none⟩ (.bool b2)).setCell ⟨g, 2, none⟩ (.bool b3)).setCell ⟨g, 3, none⟩ (.bool b4)).setCell ⟨g, 4, none⟩ (.bool b5)).setCell ⟨g, 5, none⟩ (.bool b6)).setCell ⟨g, 6, none⟩ (.bool b7)) := by
  refine ⟨?_, ((((((((Kept.refl (· = g) w).setCell _ _ (.inl rfl)).setCell _ _ (.inl rfl)).setCell _ _ (.inl rfl)).setCell _ _ (.inl rfl)).setCell _ _ (.inl rfl)).setCell _ _ (.inl rfl)).setCell _ _ (.inl rfl))⟩
  have h9 := (((((((hb.set 0 (.bool b1)).set 1 (.bool b2)).set 2 (.bool b3)).set 3 (.bool b4)).set 4 (.bool b5)).set 5 (.bool b6)).set 6 (.bool b7))
  simpa using h9

set_option maxRecDepth 100000 in
set_option maxHeartbeats 1000000 in
theorem rfields19 (w : World) (k : Int) : Calls Try.prog 29 #[.int .i64 k] w fun e w' => FlA k w w' e := by
  obtain ⟨W1, hW1⟩ : ∃ W, W = w.alloc (.cells #[.bool false, .bool false, .bool false, .bool false, .bool false, .bool false, .bool false] 53) := ⟨_, rfl⟩
  obtain ⟨p, hp⟩ : ∃ b, b = w.heap.size := ⟨_, rfl⟩
  have hb : Blk W1 p #[.bool false, .bool false, .bool false, .bool false, .bool false, .bool false, .bool false] 53 := by rw [hW1, hp]; exact Blk.new _ _ _
  have HB := hid hb
  have HK : Hid (Same w W1) := hid (by rw [hW1]; exact (Kept.refl _ w).alloc _)
  have HP : Hid (w.heap.size ≤ p) := hid (by omega)
  have c0 : W1.cell? ⟨p, 0, none⟩ = some (.bool false) := hb.cell 0
  have c1 : W1.cell? ⟨p, 1, none⟩ = some (.bool false) := hb.cell 1
  have c2 : W1.cell? ⟨p, 2, none⟩ = some (.bool false) := hb.cell 2
  have c3 : W1.cell? ⟨p, 3, none⟩ = some (.bool false) := hb.cell 3
  have c4 : W1.cell? ⟨p, 4, none⟩ = some (.bool false) := hb.cell 4
  have c5 : W1.cell? ⟨p, 5, none⟩ = some (.bool false) := hb.cell 5
  have c6 : W1.cell? ⟨p, 6, none⟩ = some (.bool false) := hb.cell 6
  have z0 := hb.frozen 0
  have z1 := hb.frozen 1
  have z2 := hb.frozen 2
  have z3 := hb.frozen 3
  have z4 := hb.frozen 4
  have z5 := hb.frozen 5
  have z6 := hb.frozen 6
  clear hb
  go_enter Try.func29, Try.ntmps29
  go_upto_region 1 with fail
  rw [← hp, ← hW1]
  clear hp hW1
  have HN : True := trivial
  by_cases h1 : k = 1
  · subst h1
    clear HN
    go_wp2_with fail
    refine bodyPost_ret (v := .tuple #[.agg (flA 1), .bool (okK 1)]) (by rw [results_c2 (p := 2) (b := 3) (ty := 53) rfl _ _ _ _ _ ⟨p, 0, none⟩ _ rfl (load7b (set7b HB.out).1)]; rfl) rfl ?_
    exact ⟨rfl, Same.then HK.out (set7b HB.out).2 (fun x hx e => by have := HP.out; omega)⟩
  by_cases h2 : k = 2
  · subst h2
    clear HN
    go_wp2_with fail
    refine bodyPost_ret (v := .tuple #[.agg (flA 2), .bool (okK 2)]) (by rw [results_c2 (p := 2) (b := 3) (ty := 53) rfl _ _ _ _ _ ⟨p, 0, none⟩ _ rfl (load7b (set7b HB.out).1)]; rfl) rfl ?_
    exact ⟨rfl, Same.then HK.out (set7b HB.out).2 (fun x hx e => by have := HP.out; omega)⟩
  by_cases h3 : k = 3
  · subst h3
    clear HN
    go_wp2_with fail
    refine bodyPost_ret (v := .tuple #[.agg (flA 3), .bool (okK 3)]) (by rw [results_c2 (p := 2) (b := 3) (ty := 53) rfl _ _ _ _ _ ⟨p, 0, none⟩ _ rfl (load7b (set7b HB.out).1)]; rfl) rfl ?_
    exact ⟨rfl, Same.then HK.out (set7b HB.out).2 (fun x hx e => by have := HP.out; omega)⟩
  by_cases h4 : k = 4
  · subst h4
    clear HN
    go_wp2_with fail
    refine bodyPost_ret (v := .tuple #[.agg (flA 4), .bool (okK 4)]) (by rw [results_c2 (p := 2) (b := 3) (ty := 53) rfl _ _ _ _ _ ⟨p, 0, none⟩ _ rfl (load7b (set7b HB.out).1)]; rfl) rfl ?_
    exact ⟨rfl, Same.then HK.out (set7b HB.out).2 (fun x hx e => by have := HP.out; omega)⟩
  by_cases h5 : k = 5
  · subst h5
    clear HN
    go_wp2_with fail
    refine bodyPost_ret (v := .tuple #[.agg (flA 5), .bool (okK 5)]) (by rw [results_c2 (p := 2) (b := 3) (ty := 53) rfl _ _ _ _ _ ⟨p, 0, none⟩ _ rfl (load7b (set7b HB.out).1)]; rfl) rfl ?_
    exact ⟨rfl, Same.then HK.out (set7b HB.out).2 (fun x hx e => by have := HP.out; omega)⟩
  by_cases h6 : k = 6
  · subst h6
    clear HN
    go_wp2_with fail
    refine bodyPost_ret (v := .tuple #[.agg (flA 6), .bool (okK 6)]) (by rw [results_c2 (p := 2) (b := 3) (ty := 53) rfl _ _ _ _ _ ⟨p, 0, none⟩ _ rfl (load7b (set7b HB.out).1)]; rfl) rfl ?_
    exact ⟨rfl, Same.then HK.out (set7b HB.out).2 (fun x hx e => by have := HP.out; omega)⟩
  by_cases h7 : k = 7
  · subst h7
    clear HN
    go_wp2_with fail
    refine bodyPost_ret (v := .tuple #[.agg (flA 7), .bool (okK 7)]) (by rw [results_c2 (p := 2) (b := 3) (ty := 53) rfl _ _ _ _ _ ⟨p, 0, none⟩ _ rfl (load7b (set7b HB.out).1)]; rfl) rfl ?_
    exact ⟨rfl, Same.then HK.out (set7b HB.out).2 (fun x hx e => by have := HP.out; omega)⟩
  by_cases h8 : k = 8
  · subst h8
    clear HN
    go_wp2_with fail
    refine bodyPost_ret (v := .tuple #[.agg (flA 8), .bool (okK 8)]) (by rw [results_c2 (p := 2) (b := 3) (ty := 53) rfl _ _ _ _ _ ⟨p, 0, none⟩ _ rfl (load7b (set7b HB.out).1)]; rfl) rfl ?_
    exact ⟨rfl, Same.then HK.out (set7b HB.out).2 (fun x hx e => by have := HP.out; omega)⟩
  by_cases h9 : k = 9
  · subst h9
    clear HN
    go_wp2_with fail
    refine bodyPost_ret (v := .tuple #[.agg (flA 9), .bool (okK 9)]) (by rw [results_c2 (p := 2) (b := 3) (ty := 53) rfl _ _ _ _ _ ⟨p, 0, none⟩ _ rfl (load7b (set7b HB.out).1)]; rfl) rfl ?_
    exact ⟨rfl, Same.then HK.out (set7b HB.out).2 (fun x hx e => by have := HP.out; omega)⟩
  by_cases h10 : k = 10
  · subst h10
    clear HN
    go_wp2_with fail
    refine bodyPost_ret (v := .tuple #[.agg (flA 10), .bool (okK 10)]) (by rw [results_c2 (p := 2) (b := 3) (ty := 53) rfl _ _ _ _ _ ⟨p, 0, none⟩ _ rfl (load7b (set7b HB.out).1)]; rfl) rfl ?_
    exact ⟨rfl, Same.then HK.out (set7b HB.out).2 (fun x hx e => by have := HP.out; omega)⟩
  by_cases h11 : k = 11
  · subst h11
    clear HN
    go_wp2_with fail
    refine bodyPost_ret (v := .tuple #[.agg (flA 11), .bool (okK 11)]) (by rw [results_c2 (p := 2) (b := 3) (ty := 53) rfl _ _ _ _ _ ⟨p, 0, none⟩ _ rfl (load7b (set7b HB.out).1)]; rfl) rfl ?_
    exact ⟨rfl, Same.then HK.out (set7b HB.out).2 (fun x hx e => by have := HP.out; omega)⟩
  by_cases h12 : k = 12
  · subst h12
    clear HN
    go_wp2_with fail
    refine bodyPost_ret (v := .tuple #[.agg (flA 12), .bool (okK 12)]) (by rw [results_c2 (p := 2) (b := 3) (ty := 53) rfl _ _ _ _ _ ⟨p, 0, none⟩ _ rfl (load7b (set7b HB.out).1)]; rfl) rfl ?_
    exact ⟨rfl, Same.then HK.out (set7b HB.out).2 (fun x hx e => by have := HP.out; omega)⟩
  by_cases h13 : k = 13
  · subst h13
    clear HN
    go_wp2_with fail
    refine bodyPost_ret (v := .tuple #[.agg (flA 13), .bool (okK 13)]) (by rw [results_c2 (p := 2) (b := 3) (ty := 53) rfl _ _ _ _ _ ⟨p, 0, none⟩ _ rfl (load7b (set7b HB.out).1)]; rfl) rfl ?_
    exact ⟨rfl, Same.then HK.out (set7b HB.out).2 (fun x hx e => by have := HP.out; omega)⟩
  have e1 : (k == 1) = false := by simp; omega
  have d1 : decide (k = 1) = false := by simp; omega
  have e2 : (k == 2) = false := by simp; omega
  have d2 : decide (k = 2) = false := by simp; omega
  have e3 : (k == 3) = false := by simp; omega
  have d3 : decide (k = 3) = false := by simp; omega
  have e4 : (k == 4) = false := by simp; omega
  have d4 : decide (k = 4) = false := by simp; omega
  have e5 : (k == 5) = false := by simp; omega
  have d5 : decide (k = 5) = false := by simp; omega
  have e6 : (k == 6) = false := by simp; omega
  have d6 : decide (k = 6) = false := by simp; omega
  have e7 : (k == 7) = false := by simp; omega
  have d7 : decide (k = 7) = false := by simp; omega
  have e8 : (k == 8) = false := by simp; omega
  have d8 : decide (k = 8) = false := by simp; omega
  have e9 : (k == 9) = false := by simp; omega
  have d9 : decide (k = 9) = false := by simp; omega
  have e10 : (k == 10) = false := by simp; omega
  have d10 : decide (k = 10) = false := by simp; omega
  have e11 : (k == 11) = false := by simp; omega
  have d11 : decide (k = 11) = false := by simp; omega
  have e12 : (k == 12) = false := by simp; omega
  have d12 : decide (k = 12) = false := by simp; omega
  have e13 : (k == 13) = false := by simp; omega
  have d13 : decide (k = 13) = false := by simp; omega
  have hok : okK k = false := by unfold okK; simp; omega
  have hfq : fdQ k = [] := by unfold fdQ; rw [if_neg h1, if_neg h3, if_neg h4, if_neg (by omega), if_neg h7, if_neg (by omega), if_neg h10, if_neg h11]
  have hfl : flA k = #[.bool false, .bool false, .bool false, .bool false, .bool false, .bool false, .bool false] := by unfold flA hasQ; rw [hfq]; rfl
  have HOK := hid hok
  have HFL := hid hfl
  clear HN hok hfq hfl h1 h2 h3 h4 h5 h6 h7 h8 h9 h10 h11 h12 h13
  go_wp2_with fail
  refine bodyPost_ret (v := .tuple #[.agg (flA k), .bool (okK k)]) (by rw [results_c2 (p := 2) (b := 3) (ty := 53) rfl _ _ _ _ _ ⟨p, 0, none⟩ _ rfl (load7b (set7b HB.out).1), HFL.out, HOK.out]; rfl) rfl ?_
  exact ⟨rfl, Same.then HK.out (set7b HB.out).2 (fun x hx e => by have := HP.out; omega)⟩

def win (x : Int) : Bool := decide (0 ≤ x ∧ x ≤ 1000000000)

set_option maxHeartbeats 400000 in
theorem rwithin19 (w : World) (x : Int) : Calls Try.prog 30 #[.int .i64 x] w fun e w' => e = .returned (.bool (win x)) ∧ w' = w := by
  by_cases h1 : 0 ≤ x
  · have d1 : decide (0 ≤ x) = true := by simp; omega
    by_cases h2 : x ≤ 1000000000
    · have d2 : decide (x ≤ 1000000000) = true := by simp; omega
      have HE : Hid (win x = true) := hid (by unfold win; simp; omega)
      clear h1 h2
      go_enter Try.func30, Try.ntmps30
      go_wp2_with fail
      go_ret
      exact ⟨by rw [HE.out]; rfl, rfl⟩
    · have d2 : decide (x ≤ 1000000000) = false := by simp; omega
      have HE : Hid (win x = false) := hid (by unfold win; simp; omega)
      clear h1 h2
      go_enter Try.func30, Try.ntmps30
      go_wp2_with fail
      go_ret
      exact ⟨by rw [HE.out]; rfl, rfl⟩
  · have d1 : decide (0 ≤ x) = false := by simp; omega
    have HE : Hid (win x = false) := hid (by unfold win; simp; omega)
    clear h1
    go_enter Try.func30, Try.ntmps30
    go_wp2_with fail
    go_ret
    exact ⟨by rw [HE.out]; rfl, rfl⟩

end Go.Proofs.Ytaefgnakdadgeaa

/-
  Layer 19, the reference: what cuts bytes.
-/
namespace Go.Proofs.Ytaefgnakdadgeaa
open Go.RowKit

/-- Bytes that are being cut. -/
structure Ct19 (N : Nat) (w : World) (c : Nat) (y : List Nat) (bad : Bool) (a : Option Addr) (cap : Nat) : Prop where
  blk : Blk w c #[.slice a y.length cap, .bool bad] 63
  src : Src w (fun k => k < N) (.slice a y.length cap) y
  room : y.length ≤ cap
  new : N ≤ c
  byte : ∀ b ∈ y, b < 256
  len : y.length ≤ 2000000
  nil : a = none → cap = 0

theorem Ct19.kept {F : Nat → Prop} {N : Nat} {w w' : World} {c : Nat} {y : List Nat} {bad : Bool} {a : Option Addr} {cap : Nat} (h : Ct19 N w c y bad a cap) (hk : Kept F w w') (h1 : ¬ F c) (h2 : ∀ k, k < N → ¬ F k) : Ct19 N w' c y bad a cap :=
  ⟨h.blk.kept hk h1, h.src.kept hk (fun k hk _ => h2 k hk), h.room, h.new, h.byte, h.len, h.nil⟩

theorem Ct19.mark {N : Nat} {w : World} {c : Nat} {y : List Nat} {bad b : Bool} {a : Option Addr} {cap : Nat} (h : Ct19 N w c y bad a cap) : Ct19 N (w.setCell ⟨c, 1, none⟩ (.bool b)) c y b a cap ∧ Kept (· = c) w (w.setCell ⟨c, 1, none⟩ (.bool b)) := by
  have hk : Kept (· = c) w (w.setCell ⟨c, 1, none⟩ (.bool b)) := (Kept.refl (· = c) w).setCell _ _ (.inl rfl)
  have hN := h.new
  refine ⟨⟨by simpa using h.blk.set 1 (.bool b), h.src.kept hk (fun k h1 _ e => by omega), h.room, hN, h.byte, h.len, h.nil⟩, hk⟩

/-- What cutting leads to. -/
def Oc {α : Type} (bad : Bool) (o : Option (α × List Nat)) (v : α) (y' : List Nat) (bad' : Bool) : Prop :=
  (bad = true → bad' = true) ∧ (bad = false → (bad' = false ∧ o = some (v, y')) ∨ (bad' = true ∧ o = none))

theorem Oc.good {α : Type} {bad : Bool} {o : Option (α × List Nat)} {v : α} {y' : List Nat} (h : o = some (v, y')) : Oc bad o v y' bad :=
  ⟨fun h => h, fun hb => .inl ⟨hb, h⟩⟩
theorem Oc.none {α : Type} {bad : Bool} {o : Option (α × List Nat)} {v : α} {y' : List Nat} (h : o = none) : Oc bad o v y' true :=
  ⟨fun _ => rfl, fun _ => .inr ⟨rfl, h⟩⟩
theorem Oc.bad {α : Type} {o : Option (α × List Nat)} {v : α} {y' : List Nat} {bad' : Bool} (h : bad' = true) : Oc true o v y' bad' :=
  ⟨fun _ => h, fun e => by cases e⟩

/-- What take tells. -/
def TaC (N : Nat) (w w' : World) (c n : Nat) (y : List Nat) (bad : Bool) (e : Ending) : Prop :=
  ∃ va vc x y' bad' a' cap', e = .returned (.slice va n vc) ∧ Src w' (fun _ => True) (.slice va n vc) x ∧ x.length = n ∧ (∀ b ∈ x, b < 256) ∧ n ≤ vc ∧ Ct19 N w' c y' bad' a' cap' ∧ Kept (· = c) w w' ∧ Oc bad (tk8 n y) x y' bad'

theorem Ct19.cut {N : Nat} {w : World} {c : Nat} {y : List Nat} {bad : Bool} {a a' : Option Addr} {cap n : Nat} (h : Ct19 N w c y bad a cap) (hn : n ≤ y.length) (ha : n < y.length → ∃ b o, a = some ⟨b, o, none⟩ ∧ a' = some ⟨b, o + n, none⟩) (hnil : a' = none → cap - n = 0) (u : Value) (hu : u = .slice a' (y.length - n) (cap - n)) :
    Src (w.setCell ⟨c, 0, none⟩ u) (fun _ => True) (.slice a n cap) (y.take n) ∧ Ct19 N (w.setCell ⟨c, 0, none⟩ u) c (y.drop n) bad a' (cap - n) ∧ Kept (· = c) w (w.setCell ⟨c, 0, none⟩ u) := by
  have hk : Kept (· = c) w (w.setCell ⟨c, 0, none⟩ u) := (Kept.refl (· = c) w).setCell _ _ (.inl rfl)
  have hN := h.new
  have hr := h.room
  have hl := h.len
  refine ⟨Src.mono ((h.src.head19 hn cap).kept hk (fun k h1 _ e => by omega)) (fun _ _ => trivial), ⟨?_, ?_, by rw [List.length_drop]; omega, hN, fun b hb => h.byte b (List.mem_of_mem_drop hb), by rw [List.length_drop]; omega, hnil⟩, hk⟩
  · have := h.blk.set 0 u
    rw [List.length_drop, ← hu]
    simpa using this
  · have h9 := h.src.tail19 (a' := a') (c' := cap - n) hn ha
    rw [List.length_drop]
    exact h9.kept hk (fun k h1 _ e => by omega)

set_option maxRecDepth 100000 in
set_option maxHeartbeats 1000000 in
theorem rtake19 (N : Nat) (w : World) (c : Nat) (y : List Nat) (bad : Bool) (a : Option Addr) (cap n : Nat) (h : Ct19 N w c y bad a cap) (hn : n ≤ 100000) :
    Calls Try.prog 45 #[.pointer (some ⟨c, 0, none⟩), .int .i64 (n : Nat)] w fun e w' => TaC N w w' c n y bad e := by
  obtain ⟨c0, c1, z0, z1⟩ := h.blk.two
  have HC := hid h
  obtain ⟨L, hL⟩ : ∃ L, L = y.length := ⟨_, rfl⟩
  have HLr := hid hL
  have hL2 : L ≤ 2000000 := by have := h.len; omega
  have hLc : L ≤ cap := by have := h.room; omega
  rw [← hL] at c0
  by_cases hgt : L < n
  · have HT : Hid (tk8 n y = none) := hid (by unfold tk8; rw [if_neg (by omega)])
    have b1 : decide ((L : Int) < (n : Int)) = true := by simp; omega
    have b2 : decide (L < n) = true := by simp; omega
    obtain ⟨M9, HM9⟩ := hid (h.mark (b := true)) |> fun h => (⟨h.out.1, hid h.out⟩ : ∃ _ : Ct19 N (w.setCell ⟨c, 1, none⟩ (.bool true)) c y true a cap, Hid (Ct19 N (w.setCell ⟨c, 1, none⟩ (.bool true)) c y true a cap ∧ Kept (· = c) w (w.setCell ⟨c, 1, none⟩ (.bool true))))
    clear M9 h hL hgt
    go_enter Try.func45, Try.ntmps45
    go_wp2_with (at_make; refine wpList_make_bytes _ rfl _ _ rfl _ _ _ _ n rfl rfl rfl rfl (by omega) ?_)
    intro w1 hr1 hg1 hs1
    have HR1 := hid hr1
    have HK1 : Hid (Same (w.setCell ⟨c, 1, none⟩ (.bool true)) w1) := hid ((Kept.refl _ _).grown hg1 (by simp))
    clear hr1 hg1 hs1
    go_wp2_with fail
    go_ret
    refine ⟨_, _, List.replicate n 0, y, true, a, cap, rfl, ?_, by simp, fun b hb => by rw [List.mem_replicate] at hb; omega, Nat.le_refl _, HM9.out.1.kept HK1.out (fun f => f) (fun _ _ f => f), Kept.trans HM9.out.2 HK1.out (fun _ _ f => f) (fun _ _ f => f.elim), Oc.none HT.out⟩
    exact Src.mono (Src.ofRow HR1.out) (fun _ _ => trivial)
  · have hle : n ≤ y.length := by omega
    have HT : Hid (tk8 n y = some (y.take n, y.drop n) ∧ n ≤ y.length) := hid ⟨by unfold tk8; rw [if_pos hle], hle⟩
    have b1 : decide ((L : Int) < (n : Int)) = false := by simp; omega
    have b2 : decide (L < n) = false := by simp; omega
    have hnc : n ≤ cap := by omega
    have i1 : (0 : Int) ≤ (n : Int) := by omega
    have i2 : (n : Int) ≤ (cap : Int) := by omega
    have i3 : (n : Int) ≤ (L : Int) := by omega
    have i4 : (L : Int) ≤ (cap : Int) := by omega
    have HLEN : Hid ((y.take n).length = n ∧ ∀ b ∈ y.take n, b < 256) := hid ⟨by rw [List.length_take]; omega, fun b hb => h.byte b (List.mem_of_mem_take hb)⟩
    have HAD : Hid (n < y.length → ∃ b o, a = some ⟨b, o, none⟩) := hid (fun h8 => by
      obtain ⟨ao, co, e9, h9⟩ := h.src
      simp only [Value.slice.injEq] at e9
      obtain ⟨b, o, h1, _⟩ := h9 (fun e => by rw [e] at h8; simp at h8)
      exact ⟨b, o, by rw [e9.1]; exact h1⟩)
    clear hL hle h hgt
    by_cases hcn : cap = n
    · obtain rfl : L = n := by omega
      subst hcn
      go_enter Try.func45, Try.ntmps45
      go_wp2_with fail
      go_ret
      have hlr := HLr.out
      obtain ⟨h1, h2, h3⟩ := HC.out.cut (n := cap) (a' := a) HT.out.2 (fun h8 => by omega) (fun _ => by omega) (.slice a 0 0) (by rw [← hlr]; simp)
      exact ⟨_, _, _, _, _, _, _, rfl, h1, HLEN.out.1, HLEN.out.2, Nat.le_refl _, h2, h3, Oc.good HT.out.1⟩
    · go_enter Try.func45, Try.ntmps45
      go_wp2_with fail
      go_ret
      have hlr := HLr.out
      obtain ⟨h1, h2, h3⟩ := HC.out.cut (n := n) (a' := a.map (Addr.add · n)) HT.out.2 (fun h8 => by obtain ⟨b9, o9, hab⟩ := HAD.out h8; exact ⟨b9, o9, hab, by rw [hab]; simp [addAt]⟩) (fun e => by have := HC.out.nil (by cases h9 : a with | none => rfl | some x => rw [h9] at e; cases e); omega) (.slice (a.map (Addr.add · n)) (L - n) (cap - n)) (by rw [← hlr])
      exact ⟨_, _, _, _, _, _, _, rfl, h1, HLEN.out.1, HLEN.out.2, hnc, h2, h3, Oc.good HT.out.1⟩

end Go.Proofs.Ytaefgnakdadgeaa

/-
  Layer 19, the reference: numbers and texts that are cut.
-/
namespace Go.Proofs.Ytaefgnakdadgeaa
open Go.RowKit

theorem n256_drop (x : List Nat) (i : Nat) (h : i < x.length) : n256 (x.drop i) = x[i] + 256 * n256 (x.drop (i + 1)) := by
  rw [List.drop_eq_getElem_cons h]
  rfl

/-- What small tells. -/
def SmC (N : Nat) (w w' : World) (c k : Nat) (y : List Nat) (bad : Bool) (e : Ending) : Prop :=
  ∃ V y' bad' a' cap', e = .returned (.int .i64 (V : Nat)) ∧ V < 256 ^ k ∧ Ct19 N w' c y' bad' a' cap' ∧ Kept (· = c) w w' ∧ Oc bad (nm8 k y) V y' bad'

set_option maxRecDepth 100000 in
set_option maxHeartbeats 1000000 in
theorem rsmall19 (N : Nat) (w : World) (c : Nat) (y : List Nat) (bad : Bool) (a : Option Addr) (cap k : Nat) (h : Ct19 N w c y bad a cap) (hk1 : 0 < k) (hk : k ≤ 4) :
    Calls Try.prog 44 #[.pointer (some ⟨c, 0, none⟩), .int .i64 (k : Nat)] w fun e w' => SmC N w w' c k y bad e := by
  have HT := rtake19 N w c y bad a cap k h (by omega)
  have hkw : IntKind.i64.wrap ((k : Int) - 1) = ((k : Nat) : Int) - 1 := by rw [IntKind.wrap_i64]; omega
  have HKK : Hid (0 < k ∧ k ≤ 4) := hid ⟨hk1, hk⟩
  clear h hk1 hk
  go_enter Try.func44, Try.ntmps44
  go_wp2_with fail
  refine HT.mono ?_
  rintro e w1 ⟨va, vc, x, y', bad', a', cap', rfl, hsx, hlx, hbx, hvc, hct, hk1, hoc⟩
  have HSX := hid hsx
  have HLX : Hid (x.length = k ∧ ∀ b ∈ x, b < 256) := hid ⟨hlx, hbx⟩
  have HCT := hid hct
  have HK1 := hid hk1
  have HOC := hid hoc
  have HVC := hid hvc
  clear hsx hlx hbx hvc hct hk1 hoc HT
  go_wp2_with fail
  go_loopg [6, 7] (k + 1) (fun g n z wr => ∃ (i : Nat) (j : Int) (V : Nat), j = (i : Int) - 1 ∧ i ≤ k ∧ i ≤ g ∧ z = .int .i64 j ∧ n = .int .i64 (V : Nat) ∧ V < 4294967296 ∧ wr = w1 ∧ Hid (V = n256 (x.drop i)))
  case atStart => exact ⟨k, (k : Int) - 1, 0, rfl, by omega, by omega, by first | rfl | (congr 1; omega), rfl, by decide, rfl, hid (by rw [List.drop_eq_nil_of_le (by have := HLX.out.1; omega)]; rfl)⟩
  case round =>
    obtain ⟨i, j, V, hj, hi, hg, rfl, rfl, hV, rfl, HV⟩ := hrel
    by_cases hlt : 0 < i
    · obtain ⟨i2, rfl⟩ : ∃ i2, i = i2 + 1 := ⟨i - 1, by omega⟩
      obtain rfl : j = (i2 : Int) := by omega
      obtain ⟨ao, cp, e9, hs9⟩ := HSX.out
      simp only [Value.slice.injEq] at e9
      obtain ⟨rfl, _, rfl⟩ := e9
      have hi2 : i2 < x.length := by have := HLX.out.1; omega
      obtain ⟨b, o, rfl, _, hce⟩ := hs9 (fun e => by rw [e] at hi2; simp at hi2)
      have c0 := hce i2 hi2
      obtain ⟨X, hX⟩ : ∃ X, X = x[i2]'hi2 := ⟨_, rfl⟩
      rw [← hX] at c0
      have hX256 : X < 256 := by rw [hX]; exact HLX.out.2 _ (List.getElem_mem _)
      obtain ⟨V2, hV2⟩ : ∃ V2, V2 = 256 * V + X := ⟨_, rfl⟩
      have HV2 : Hid (V2 = n256 (x.drop i2) ∧ V2 < 4294967296) := hid (by
        have h9 : V2 = n256 (x.drop i2) := by rw [n256_drop x i2 hi2, ← hX, hV2, HV.out]; omega
        refine ⟨h9, ?_⟩
        rw [h9]
        have h8 := n256_lt (x.drop i2) (fun b hb => HLX.out.2 b (List.mem_of_mem_drop hb))
        have h7 : (x.drop i2).length ≤ 4 := by rw [List.length_drop]; have := HLX.out.1; have := HKK.out; omega
        exact Nat.lt_of_lt_of_le h8 (Nat.le_trans (Nat.pow_le_pow_right (by decide) h7) (by decide)))
      have hVs : V < 16777216 := by have := HV2.out.2; omega
      obtain ⟨P, hP⟩ : ∃ P, P = 256 * V := ⟨_, rfl⟩
      have m1 : IntKind.i64.wrap (256 * (V : Int)) = (P : Int) := by rw [IntKind.wrap_i64]; omega
      have m2 : IntKind.i64.wrap ((P : Int) + (X : Int)) = (V2 : Int) := by rw [IntKind.wrap_i64]; omega
      have m3 : IntKind.i64.wrap (X : Int) = (X : Int) := by rw [IntKind.wrap_i64]; omega
      have m4 : IntKind.i64.wrap ((i2 : Int) - 1) = (i2 : Int) - 1 := by have := HKK.out; rw [IntKind.wrap_i64]; omega
      have b1 : decide ((0 : Int) ≤ (i2 : Int)) = true := by simp
      have i1 : (i2 : Int) < (k : Int) := by omega
      have i3 : (0 : Int) ≤ (i2 : Int) := by omega
      have hil : i2 < k := by omega
      clear hce hs9 hX hV2 hP hX256 hVs hV hj
      go_wp2_with fail
      go_roundg i2
      case measure => omega
      case rel => exact ⟨i2, (i2 : Int) - 1, V2, rfl, by omega, by omega, rfl, rfl, HV2.out.2, rfl, hid HV2.out.1⟩
    · obtain rfl : i = 0 := by omega
      have b1 : decide ((0 : Int) ≤ j) = false := by simp; omega
      clear hj
      go_wp2_with fail
      go_ret
      have h9 := HV.out
      rw [List.drop_zero] at h9
      refine ⟨V, y', bad', a', cap', rfl, ?_, HCT.out, HK1.out, ?_⟩
      · rw [h9, ← HLX.out.1]; exact n256_lt x HLX.out.2
      · rw [h9]
        refine ⟨HOC.out.1, fun hb => ?_⟩
        rcases HOC.out.2 hb with ⟨h1, h2⟩ | ⟨h1, h2⟩
        · exact .inl ⟨h1, nm19_of h2⟩
        · exact .inr ⟨h1, nm19_no h2⟩

/-- A number that is cut; a text. -/
def rdN (y : List Nat) : Option (Nat × List Nat) := bnd8 (nm8 4 y) fun q => if q.1 ≤ 1000000000 then some q else none
def rdT (m : Nat) (y : List Nat) : Option (ByteArray × List Nat) := bnd8 (nm8 2 y) fun q => if q.1 ≤ m then bnd8 (tk8 q.1 q.2) (fun s => some (txt s.1, s.2)) else none

theorem readF_num (cs : List Cel) (i : Nat) (y : List Nat) : readF cs (.num i) y = bnd8 (rdN y) (fun q => some (cs.set i (.n (q.1 : Nat)), q.2)) := by
  simp only [readF, rdN]
  cases nm8 4 y with
  | none => rfl
  | some q =>
    simp only [bnd8]
    by_cases h : q.1 ≤ 1000000000
    · rw [if_pos h, if_pos h]
    · rw [if_neg h, if_neg h]

theorem readF_txt (cs : List Cel) (i m : Nat) (y : List Nat) : readF cs (.txt i m) y = bnd8 (rdT m y) (fun q => some (cs.set i (.s q.1), q.2)) := by
  simp only [readF, rdT]
  cases nm8 2 y with
  | none => rfl
  | some q =>
    simp only [bnd8]
    by_cases h : q.1 ≤ m
    · rw [if_pos h, if_pos h]
      cases tk8 q.1 q.2 with
      | none => rfl
      | some s => rfl
    · rw [if_neg h, if_neg h]

/-- What number tells. -/
def NuC (N : Nat) (w w' : World) (c : Nat) (y : List Nat) (bad : Bool) (e : Ending) : Prop :=
  ∃ V y' bad' a' cap', e = .returned (.int .i64 (V : Nat)) ∧ Ct19 N w' c y' bad' a' cap' ∧ Kept (· = c) w w' ∧ Oc bad (rdN y) V y' bad'

theorem oc_num {bad : Bool} {y : List Nat} {V : Nat} {y' : List Nat} {bad' : Bool} (h : Oc bad (nm8 4 y) V y' bad') : Oc bad (rdN y) V y' (bad' || !win (V : Nat)) := by
  refine ⟨fun hb => by rw [h.1 hb]; rfl, fun hb => ?_⟩
  unfold rdN
  rcases h.2 hb with ⟨h1, h2⟩ | ⟨h1, h2⟩
  · rw [h2, h1]
    simp only [bnd8]
    by_cases hv : V ≤ 1000000000
    · have : win (V : Nat) = true := by unfold win; simp; omega
      rw [if_pos hv, this]
      exact .inl ⟨rfl, rfl⟩
    · have : win (V : Nat) = false := by unfold win; simp; omega
      rw [if_neg hv, this]
      exact .inr ⟨rfl, rfl⟩
  · rw [h2, h1]
    exact .inr ⟨rfl, rfl⟩

set_option maxRecDepth 100000 in
set_option maxHeartbeats 1000000 in
theorem rnum19 (N : Nat) (w : World) (c : Nat) (y : List Nat) (bad : Bool) (a : Option Addr) (cap : Nat) (h : Ct19 N w c y bad a cap) :
    Calls Try.prog 36 #[.pointer (some ⟨c, 0, none⟩)] w fun e w' => NuC N w w' c y bad e := by
  have HT := rsmall19 N w c y bad a cap 4 h (by decide) (by decide)
  clear h
  go_enter Try.func36, Try.ntmps36
  go_wp2_with fail
  refine HT.mono ?_
  rintro e w1 ⟨V, y', bad', a', cap', rfl, _, hct, hk1, hoc⟩
  have HCT := hid hct
  have HK1 := hid hk1
  have HOC := hid (oc_num hoc)
  obtain ⟨c0, c1, z0, z1⟩ := hct.blk.two
  have HWI := rwithin19 w1 (V : Nat)
  obtain ⟨B, hB⟩ : ∃ B, B = win (V : Nat) := ⟨_, rfl⟩
  rw [← hB] at HOC HWI
  clear hct hk1 hoc HT hB c0 z0
  cases bad' with
  | true =>
    go_wp2_with fail
    go_ret
    exact ⟨V, y', true, a', cap', rfl, HCT.out.mark.1, Kept.trans HK1.out HCT.out.mark.2 (fun _ _ f => f) (fun _ _ f => f), HOC.out⟩
  | false =>
    go_wp2_with fail
    refine HWI.mono ?_
    rintro e w2 ⟨rfl, hw2⟩
    subst hw2
    clear HWI
    go_wp2_with fail
    go_ret
    exact ⟨V, y', !B, a', cap', rfl, HCT.out.mark.1, Kept.trans HK1.out HCT.out.mark.2 (fun _ _ f => f) (fun _ _ f => f), HOC.out⟩

/-- What text tells. -/
def TxC (N : Nat) (w w' : World) (c m : Nat) (y : List Nat) (bad : Bool) (e : Ending) : Prop :=
  ∃ T y' bad' a' cap', e = .returned (.string T) ∧ Ct19 N w' c y' bad' a' cap' ∧ Kept (· = c) w w' ∧ Oc bad (rdT m y) T y' bad'

theorem oc_far {bad : Bool} {y : List Nat} {V m : Nat} {y' : List Nat} {bad' : Bool} {T : ByteArray} (h : Oc bad (nm8 2 y) V y' bad') (hm : m < V) : Oc bad (rdT m y) T y' true := by
  refine ⟨fun hb => rfl, fun hb => .inr ⟨rfl, ?_⟩⟩
  unfold rdT
  rcases h.2 hb with ⟨h1, h2⟩ | ⟨h1, h2⟩
  · rw [h2]
    simp only [bnd8]
    rw [if_neg (by omega)]
  · rw [h2]; rfl

theorem oc_txt {bad : Bool} {y : List Nat} {V m : Nat} {y' y2 x : List Nat} {bad' bad2 : Bool} (h : Oc bad (nm8 2 y) V y' bad') (hm : V ≤ m) (h2 : Oc bad' (tk8 V y') x y2 bad2) : Oc bad (rdT m y) (txt x) y2 bad2 := by
  refine ⟨fun hb => h2.1 (h.1 hb), fun hb => ?_⟩
  unfold rdT
  rcases h.2 hb with ⟨h3, h4⟩ | ⟨h3, h4⟩
  · rw [h4]
    simp only [bnd8]
    rw [if_pos hm]
    rcases h2.2 h3 with ⟨h5, h6⟩ | ⟨h5, h6⟩
    · rw [h6]; exact .inl ⟨h5, rfl⟩
    · rw [h6]; exact .inr ⟨h5, rfl⟩
  · rw [h4]
    exact .inr ⟨h2.1 h3, rfl⟩

set_option maxRecDepth 100000 in
set_option maxHeartbeats 1000000 in
theorem rtxt19 (N : Nat) (w : World) (c : Nat) (y : List Nat) (bad : Bool) (a : Option Addr) (cap m : Nat) (h : Ct19 N w c y bad a cap) :
    Calls Try.prog 37 #[.pointer (some ⟨c, 0, none⟩), .int .i64 (m : Nat)] w fun e w' => TxC N w w' c m y bad e := by
  have HT := rsmall19 N w c y bad a cap 2 h (by decide) (by decide)
  clear h
  go_enter Try.func37, Try.ntmps37
  go_wp2_with fail
  refine HT.mono ?_
  rintro e w1 ⟨V, y', bad', a', cap', rfl, hV, hct, hk1, hoc⟩
  have HCT := hid hct
  have HK1 := hid hk1
  have HOC := hid hoc
  have hV2 : V < 65536 := hV
  clear hct hk1 hoc HT hV
  by_cases hm : m < V
  · have b1 : decide ((m : Int) < (V : Int)) = true := by simp; omega
    have b2 : decide (m < V) = true := by simp; omega
    obtain ⟨c0, c1, z0, z1⟩ := HCT.out.blk.two
    have HM := hid hm
    clear hm c0 z0 hV2
    go_wp2_with fail
    go_ret
    exact ⟨⟨#[]⟩, y', true, a', cap', rfl, HCT.out.mark.1, Kept.trans HK1.out HCT.out.mark.2 (fun _ _ f => f) (fun _ _ f => f), oc_far HOC.out HM.out⟩
  · have b1 : decide ((m : Int) < (V : Int)) = false := by simp; omega
    have b2 : decide (m < V) = false := by simp; omega
    have HTK := rtake19 N w1 c y' bad' a' cap' V HCT.out (by omega)
    have HM : Hid (V ≤ m) := hid (by omega)
    clear hm hV2
    go_wp2_with fail
    refine HTK.mono ?_
    rintro e w2 ⟨va, vc, x, y2, bad2, a2, cap2, rfl, hsx, hlx, hbx, hvc, hct, hk2, hoc2⟩
    have hst := str8 (a := va) (c := vc) hsx hlx
    have HCT2 := hid hct
    have HK2 := hid (Kept.trans HK1.out hk2 (fun _ _ f => f) (fun _ _ f => f) : Kept (· = c) w w2)
    have HOC2 := hid (oc_txt HOC.out HM.out hoc2)
    clear hsx hlx hbx hvc hct hk2 hoc2 HTK
    go_wp2_with fail
    go_ret
    exact ⟨txt x, y2, bad2, a2, cap2, rfl, HCT2.out, HK2.out, HOC2.out⟩

end Go.Proofs.Ytaefgnakdadgeaa

/-
  Layer 19, the reference: number, text.
-/
namespace Go.Proofs.Ytaefgnakdadgeaa
open Go.RowKit

set_option maxRecDepth 100000 in
set_option maxHeartbeats 1000000 in
theorem rnumber19 (w0 w : World) (v : Value) (bs : List Nat) (hv : Fresh w0 w v bs) (x : Nat) (hx : x < 4294967296) (hb : bs.length ≤ 1000000) :
    Calls Try.prog 31 #[v, .int .i64 (x : Nat)] w fun e w' => ∃ v', e = .returned v' ∧ Fresh w0 w' v' (bs ++ leOf x 4) := by
  have HV := hid hv
  have HBL : Hid (bs.length ≤ 1000000) := hb
  clear hv hb
  go_enter Try.func31, Try.ntmps31
  go_wp2_with fail
  go_loopg [0, 1, 5] 4 (fun k o y z wr => ∃ i u : Nat, i ≤ 4 ∧ 4 - i ≤ k ∧ z = .int .i64 (i : Nat) ∧ y = .int .i64 (u : Nat) ∧ u < 4294967296 ∧ Hid (u = x / 256 ^ i ∧ Fresh w0 wr o (bs ++ leOf x i)))
  case atStart => exact ⟨0, x, by omega, by omega, rfl, rfl, hx, hid ⟨by simp, by simpa [leOf] using HV.out⟩⟩
  case round =>
    obtain ⟨i, u, hi, hik, rfl, rfl, hu, HX⟩ := hrel
    obtain ⟨vo, hvo⟩ : ∃ x, x = u0 := ⟨_, rfl⟩
    rw [← hvo] at HX ⊢
    clear hvo
    by_cases hlt : i < 4
    · obtain ⟨M, hM⟩ : ∃ M, M = u % 256 := ⟨_, rfl⟩
      obtain ⟨D, hD⟩ : ∃ D, D = u / 256 := ⟨_, rfl⟩
      have b1 : decide ((i : Int) < 4) = true := by simp; omega
      have b2 : decide (i < 4) = true := by simp; omega
      have m1 : Int.tmod (u : Int) 256 = (M : Int) := by rw [Int.tmod_eq_emod_of_nonneg (by omega)]; omega
      have m2 : (u : Int) % 256 = (M : Int) := by omega
      have m3 : Int.tdiv (u : Int) 256 = (D : Int) := by rw [Int.tdiv_eq_ediv_of_nonneg (by omega)]; omega
      have m4 : (u : Int) / 256 = (D : Int) := by omega
      have m5 : IntKind.u8.wrap (M : Int) = (M : Int) := by rw [IntKind.wrap_u8]; omega
      have m6 : IntKind.i64.wrap (D : Int) = (D : Int) := by rw [IntKind.wrap_i64]; omega
      have m7 : IntKind.i64.wrap (M : Int) = (M : Int) := by rw [IntKind.wrap_i64]; omega
      have hiw : IntKind.i64.wrap ((i : Int) + 1) = ((i + 1 : Nat) : Int) := by rw [IntKind.wrap_i64]; omega
      have hDl : D < 4294967296 := by rw [hD]; omega
      have HMD : Hid (M = x / 256 ^ i % 256 ∧ D = x / 256 ^ (i + 1)) := hid (by
        rw [hM, hD, HX.out.1]
        exact ⟨rfl, by rw [Nat.div_div_eq_div_mul, ← Nat.pow_succ]⟩)
      have HLL : Hid ((bs ++ leOf x i).length + 1 ≤ 2000000) := hid (by have := HBL.out; rw [List.length_append, leOf_length]; omega)
      clear hM hD hu
      go_wp2_with (at_builtin; refine wpList_append_row _ rfl (.tmp 10) (.tmp 14) rfl vo _ rfl (World.ownsRow.alloc HX.out.2.row _) ⟨wr.heap.size, 0, none⟩ 1 1 [M] rfl rfl (bytesAt_int _ _ _ (by first | rfl | (simp; omega))) (by have := HLL.out; simp only [List.length_cons, List.length_nil]; omega) ?_)
      intro v1 w1 hr1 hg1 ho1
      have HX2 : Hid (Fresh w0 w1 v1 (bs ++ leOf x (i + 1))) := hid (by
        have h := HX.out.2.app (cs := [M]) (by simpa using hr1) hg1 (by simpa using ho1)
        rw [List.append_assoc, HMD.out.1] at h
        exact h)
      clear hr1 hg1 ho1
      go_wp2_with fail
      go_roundg (gk - 1)
      case measure => omega
      case rel => exact ⟨i + 1, D, by omega, by omega, by go_num, rfl, hDl, hid ⟨HMD.out.2, HX2.out⟩⟩
    · obtain rfl : i = 4 := by omega
      have b1 : decide ((4 : Int) < 4) = false := by decide
      go_wp2_with fail
      go_ret
      exact ⟨_, rfl, HX.out.2⟩

theorem rtext19_bytes (n : Nat) : leOf n 2 = [n % 256, n / 256 % 256] := by simp [leOf]

set_option maxRecDepth 100000 in
set_option maxHeartbeats 1000000 in
theorem rtext19 (w0 w : World) (v : Value) (bs : List Nat) (hv : Fresh w0 w v bs) (T : ByteArray) (hT : T.size < 65536) (hb : bs.length ≤ 1000000) :
    Calls Try.prog 32 #[v, .string T] w fun e w' => ∃ v', e = .returned v' ∧ Fresh w0 w' v' (bs ++ (leOf T.size 2 ++ sb T)) := by
  obtain ⟨u, hu⟩ : ∃ u, u = T.size := ⟨_, rfl⟩
  have hu2 : T.size = u := hu.symm
  obtain ⟨M, hM⟩ : ∃ M, M = u % 256 := ⟨_, rfl⟩
  obtain ⟨D, hD⟩ : ∃ D, D = u / 256 := ⟨_, rfl⟩
  have m1 : Int.tmod (u : Int) 256 = (M : Int) := by rw [Int.tmod_eq_emod_of_nonneg (by omega)]; omega
  have m2 : (u : Int) % 256 = (M : Int) := by omega
  have m3 : Int.tdiv (u : Int) 256 = (D : Int) := by rw [Int.tdiv_eq_ediv_of_nonneg (by omega)]; omega
  have m4 : (u : Int) / 256 = (D : Int) := by omega
  have m5 : IntKind.u8.wrap (M : Int) = (M : Int) := by rw [IntKind.wrap_u8]; omega
  have m6 : IntKind.i64.wrap (D : Int) = (D : Int) := by rw [IntKind.wrap_i64]; omega
  have m7 : IntKind.i64.wrap (M : Int) = (M : Int) := by rw [IntKind.wrap_i64]; omega
  have m8 : IntKind.u8.wrap (D : Int) = (D : Int) := by rw [IntKind.wrap_u8]; omega
  have HLE : Hid (leOf u 2 = [M, D] ∧ u < 65536 ∧ T.size = u) := hid ⟨by rw [rtext19_bytes, ← hM, hD, Nat.mod_eq_of_lt (by omega)], by omega, hu2⟩
  have HV := hid hv
  have HBL : Hid (bs.length ≤ 1000000) := hb
  have HSB := hid (sb_lt T)
  have HTS := hid (txt_sb T)
  clear hv hb hM hD hu hT
  rw [hu2]
  go_enter Try.func32, Try.ntmps32
  go_wp2_with (at_builtin; refine wpList_append_row _ rfl (.tmp 5) (.tmp 14) rfl v bs rfl (World.ownsRow.alloc HV.out.row _) ⟨w.heap.size, 0, none⟩ 2 2 [M, D] rfl rfl (by intro j v hv; match j, hv with | 0, hv => (simp [byteV] at hv; subst hv; exact (Blk.new w _ _).cell 0) | 1, hv => (simp [byteV] at hv; subst hv; exact (Blk.new w _ _).cell 1) | j + 2, hv => (simp at hv)) (by have := HBL.out; simp; omega) ?_)
  intro v1 w1 hr1 hg1 ho1
  have HF1 : Hid (Fresh w0 w1 v1 (bs ++ leOf u 2)) := hid (by rw [HLE.out.1]; exact HV.out.app hr1 hg1 (by simpa using ho1))
  clear hr1 hg1 ho1
  go_wp2_with (at_builtin; refine wpList_append_txt _ rfl (.tmp 16) (.tmp 17) rfl w0 v1 _ rfl HF1.out (sb T) (by rw [HTS.out]; rfl) HSB.out (by have := HBL.out; have := HLE.out.2; rw [List.length_append, leOf_length, sb_size]; omega) ?_)
  intro v2 w2 hf2
  have HF2 : Hid (Fresh w0 w2 v2 (bs ++ (leOf u 2 ++ sb T))) := hid hf2
  clear hf2
  go_wp2_with fail
  go_ret
  exact ⟨_, rfl, HF2.out⟩

end Go.Proofs.Ytaefgnakdadgeaa

/-
  Layer 19, the reference: what PutRequest refuses (mathematics).
-/
namespace Go.Proofs.Ytaefgnakdadgeaa
open Go.RowKit

theorem flags_cases (k : Int) : (hasQ k 1 = false ∧ hasQ k 2 = false ∧ hasQ k 3 = false ∧ hasQ k 4 = false ∧ hasQ k 5 = false ∧ hasQ k 6 = false ∧ hasQ k 7 = true) ∨ (hasQ k 1 = true ∧ hasQ k 2 = true ∧ hasQ k 3 = true ∧ hasQ k 4 = false ∧ hasQ k 5 = true ∧ hasQ k 6 = true ∧ hasQ k 7 = false) ∨ (hasQ k 1 = true ∧ hasQ k 2 = true ∧ hasQ k 3 = false ∧ hasQ k 4 = false ∧ hasQ k 5 = false ∧ hasQ k 6 = false ∧ hasQ k 7 = false) ∨ (hasQ k 1 = true ∧ hasQ k 2 = true ∧ hasQ k 3 = true ∧ hasQ k 4 = true ∧ hasQ k 5 = false ∧ hasQ k 6 = false ∧ hasQ k 7 = false) ∨ (hasQ k 1 = true ∧ hasQ k 2 = true ∧ hasQ k 3 = true ∧ hasQ k 4 = false ∧ hasQ k 5 = false ∧ hasQ k 6 = false ∧ hasQ k 7 = false) ∨ (hasQ k 1 = true ∧ hasQ k 2 = false ∧ hasQ k 3 = false ∧ hasQ k 4 = false ∧ hasQ k 5 = false ∧ hasQ k 6 = false ∧ hasQ k 7 = false) ∨ (hasQ k 1 = true ∧ hasQ k 2 = true ∧ hasQ k 3 = false ∧ hasQ k 4 = false ∧ hasQ k 5 = true ∧ hasQ k 6 = true ∧ hasQ k 7 = false) ∨ (hasQ k 1 = true ∧ hasQ k 2 = true ∧ hasQ k 3 = false ∧ hasQ k 4 = true ∧ hasQ k 5 = false ∧ hasQ k 6 = false ∧ hasQ k 7 = false) ∨ (hasQ k 1 = false ∧ hasQ k 2 = false ∧ hasQ k 3 = false ∧ hasQ k 4 = false ∧ hasQ k 5 = false ∧ hasQ k 6 = false ∧ hasQ k 7 = false) := by
  unfold hasQ
  rcases fdQ_cases k with h | h | h | h | h | h | h | h | h
  all_goals
    rw [h]
    simp

theorem win_false {x : Int} : win x = false ↔ (x < 0 ∨ 1000000000 < x) := by
  unfold win
  rw [decide_eq_false_iff_not]
  omega

theorem numA_win (x : Int) : numA x = if win x = false then 1 else 0 := by
  unfold numA
  by_cases h : win x = false
  · rw [if_pos h, if_pos (win_false.1 h)]
  · rw [if_neg h, if_neg (fun e => h (win_false.2 e))]

theorem win_zero : win 0 = true := by decide

def bigQ (q : Rq) : Prop := 255 < q.a.size ∨ 255 < q.e.size ∨ 256 < q.o.size ∨ 16384 < q.d.size
def badQ (q : Rq) : Prop := win q.x = false ∨ win q.f = false ∨ win q.m = false

theorem size_nil : (ByteArray.mk #[]).size = 0 := rfl

theorem wrongL_num {cs : List Cel} {l : List Fd} : wrongL cs l = 1 ↔ ∃ f ∈ l, wrongF cs f = 1 := by
  unfold wrongL
  by_cases h : (l.any fun f => decide (wrongF cs f = 1)) = true
  · rw [if_pos h]
    simp only [List.any_eq_true, decide_eq_true_eq] at h
    exact ⟨fun _ => h, fun _ => rfl⟩
  · rw [if_neg h]
    simp only [List.any_eq_true, decide_eq_true_eq] at h
    constructor
    · intro h2; split at h2 <;> cases h2
    · intro h2; exact absurd h2 h

theorem wrongL_big {cs : List Cel} {l : List Fd} (h1 : ¬ ∃ f ∈ l, wrongF cs f = 1) : wrongL cs l = if (∃ f ∈ l, wrongF cs f = 2) then 2 else 0 := by
  unfold wrongL
  rw [if_neg (by simp only [List.any_eq_true, decide_eq_true_eq]; exact h1)]
  by_cases h : ∃ f ∈ l, wrongF cs f = 2
  · rw [if_pos h, if_pos (by simp only [List.any_eq_true, decide_eq_true_eq]; exact h)]
  · rw [if_neg h, if_neg (by simp only [List.any_eq_true, decide_eq_true_eq]; exact h)]

theorem numA_one {x : Int} : numA x = 1 ↔ win x = false := by
  rw [numA_win]
  by_cases h : win x = false
  · rw [if_pos h]; simp [h]
  · rw [if_neg h]; simp [h]

theorem numA_two {x : Int} : ¬ numA x = 2 := by
  rw [numA_win]
  split <;> decide

theorem txt_one {n m : Nat} : ¬ (if m < n then 2 else 0) = 1 := by split <;> decide
theorem txt_two {n m : Nat} : (if m < n then 2 else 0) = 2 ↔ m < n := by
  constructor
  · intro h; split at h
    · assumption
    · cases h
  · intro h; rw [if_pos h]

set_option maxRecDepth 100000 in
theorem wrong_is {q : Rq} (h : othQ q = false) : (wrongL q.cs (fdQ q.k) = 1 ↔ badQ q) ∧ (¬ badQ q → (wrongL q.cs (fdQ q.k) = 2 ↔ bigQ q)) := by
  have key : ((∃ f ∈ fdQ q.k, wrongF q.cs f = 1) ↔ badQ q) ∧ ((∃ f ∈ fdQ q.k, wrongF q.cs f = 2) ↔ bigQ q) := by
    unfold othQ clrQ at h
    simp only [Bool.not_eq_false', Bool.and_eq_true, decide_eq_true_eq] at h
    unfold badQ bigQ
    obtain ⟨k, x, a, e, d, f, m, o⟩ := q
    simp only at h ⊢
    unfold hasQ at h
    rcases fdQ_cases k with e1 | e1 | e1 | e1 | e1 | e1 | e1 | e1 | e1
    all_goals
      rw [e1] at h ⊢
      simp at h
      simp [wrongF, Rq.cs, numA_one, numA_two, txt_one, h, win_zero, size_nil]
    all_goals
      first
        | done
        | (simp [or_comm, or_left_comm, or_assoc]; done)
        | skip
  refine ⟨wrongL_num.trans key.1, fun hb => ?_⟩
  rw [wrongL_big (fun h9 => hb (key.1.1 h9))]
  by_cases h2 : bigQ q
  · rw [if_pos (key.2.2 h2)]; simp [h2]
  · rw [if_neg (fun h9 => h2 (key.2.1 h9))]; simp [h2]

theorem perr_is (q : Rq) : (okK q.k = false → perr q = 191) ∧ (okK q.k = true → othQ q = true → perr q = 1) ∧ (okK q.k = true → othQ q = false → badQ q → perr q = 1) ∧ (okK q.k = true → othQ q = false → ¬ badQ q → bigQ q → perr q = 2) ∧ (okK q.k = true → othQ q = false → ¬ badQ q → ¬ bigQ q → perr q = 0) := by
  unfold perr
  refine ⟨fun h => by rw [if_pos h], fun h h2 => by rw [if_neg (by rw [h]; decide), if_pos h2], fun h h2 h3 => ?_, fun h h2 h3 h4 => ?_, fun h h2 h3 h4 => ?_⟩
  all_goals rw [if_neg (by rw [h]; decide), if_neg (by rw [h2]; decide)]
  · exact (wrong_is h2).1.2 h3
  · exact ((wrong_is h2).2 h3).2 h4
  · rcases wrongL_two q.cs (fdQ q.k) with h5 | h5 | h5
    · exact h5
    · exact absurd ((wrong_is h2).1.1 h5) h3
    · exact absurd (((wrong_is h2).2 h3).1 h5) h4

end Go.Proofs.Ytaefgnakdadgeaa

/-
  Layer 19, the reference: fields that are cut, one behind the other.
-/
namespace Go.Proofs.Ytaefgnakdadgeaa
open Go.RowKit

/-- An object's fields are being cut: what is left of them, and what all comes to. -/
def GI {α : Type} (N : Nat) (w : World) (rb cb t : Nat) (cs0 : List Cel) (l : List Fd) (G : Option α) (F : List Cel × List Nat → Option α) : Prop :=
  ∃ cs y bad a cap, Ob w rb t cs ∧ Alike cs0 cs ∧ OKeep cs0 cs ∧ Ct19 N w cb y bad a cap ∧ ((bad = true ∧ G = none) ∨ (bad = false ∧ G = bnd8 (readL l cs y) F))

/-- What a field's cut tells. -/
def GnA {α : Type} (N : Nat) (w w' : World) (rb cb t : Nat) (cs0 : List Cel) (i : Nat) (l : List Fd) (G : Option α) (F : List Cel × List Nat → Option α) (e : Ending) : Prop :=
  ∃ (V : Nat) (o : Int), e = .returned (.int .i64 (V : Nat)) ∧ w'.cell? ⟨rb, i, none⟩ = some (.int .i64 o) ∧ w'.frozen? ⟨rb, i, none⟩ = false ∧ GI N (w'.setCell ⟨rb, i, none⟩ (.int .i64 (V : Nat))) rb cb t cs0 l G F ∧ Kept (fun k => k = cb ∨ k = rb) w (w'.setCell ⟨rb, i, none⟩ (.int .i64 (V : Nat)))

def GtA {α : Type} (N : Nat) (w w' : World) (rb cb t : Nat) (cs0 : List Cel) (i : Nat) (l : List Fd) (G : Option α) (F : List Cel × List Nat → Option α) (e : Ending) : Prop :=
  ∃ (T o : ByteArray), e = .returned (.string T) ∧ w'.cell? ⟨rb, i, none⟩ = some (.string o) ∧ w'.frozen? ⟨rb, i, none⟩ = false ∧ GI N (w'.setCell ⟨rb, i, none⟩ (.string T)) rb cb t cs0 l G F ∧ Kept (fun k => k = cb ∨ k = rb) w (w'.setCell ⟨rb, i, none⟩ (.string T))

theorem GI.num {α : Type} {N : Nat} {w : World} {rb cb t : Nat} {cs0 : List Cel} {i : Nat} {l : List Fd} {G : Option α} {F : List Cel × List Nat → Option α} (h : GI N w rb cb t cs0 (.num i :: l) G F) (hf : (Fd.num i).fits cs0) (hrc : rb ≠ cb) (hrN : N ≤ rb) :
    Calls Try.prog 36 #[.pointer (some ⟨cb, 0, none⟩)] w fun e w' => GnA N w w' rb cb t cs0 i l G F e := by
  obtain ⟨cs, y, bad, a, cap, ho, hal, hok, hct, hor⟩ := h
  refine (rnum19 N w cb y bad a cap hct).mono ?_
  rintro e w' ⟨V, y', bad', a', cap', rfl, hct', hk, hoc⟩
  obtain ⟨x, hx⟩ := hf.alike hal
  have ho' : Ob w' rb t cs := ho.kept hk hrc
  have hks : Kept (· = rb) w' (w'.setCell ⟨rb, i, none⟩ (.int .i64 (V : Nat))) := (Kept.refl (· = rb) w').setCell _ _ (.inl rfl)
  refine ⟨V, x, rfl, ho'.cell hx, ho'.frozen i, ⟨cs.set i (.n (V : Nat)), y', bad', a', cap', ho'.set i (.n (V : Nat)), hal.trans (alike_setn hx), fun j v hj => okeep_set (fun v e => by rw [hx] at e; simp at e) j v (hok j v hj), hct'.kept hks (fun e => hrc e.symm) (fun k hk e => by omega), ?_⟩, Kept.trans hk hks (fun _ _ f => .inl f) (fun _ _ f => .inr f)⟩
  rcases hor with ⟨hb, hg⟩ | ⟨hb, hg⟩
  · exact .inl ⟨hoc.1 hb, hg⟩
  · rcases hoc.2 hb with ⟨h1, h2⟩ | ⟨h1, h2⟩
    · refine .inr ⟨h1, ?_⟩
      rw [hg]
      simp only [readL]
      rw [readF_num, h2]
      rfl
    · refine .inl ⟨h1, ?_⟩
      rw [hg]
      simp only [readL]
      rw [readF_num, h2]
      rfl

theorem GI.txt {α : Type} {N : Nat} {w : World} {rb cb t : Nat} {cs0 : List Cel} {i m : Nat} {l : List Fd} {G : Option α} {F : List Cel × List Nat → Option α} (h : GI N w rb cb t cs0 (.txt i m :: l) G F) (hf : (Fd.txt i m).fits cs0) (hrc : rb ≠ cb) (hrN : N ≤ rb) :
    Calls Try.prog 37 #[.pointer (some ⟨cb, 0, none⟩), .int .i64 (m : Nat)] w fun e w' => GtA N w w' rb cb t cs0 i l G F e := by
  obtain ⟨cs, y, bad, a, cap, ho, hal, hok, hct, hor⟩ := h
  refine (rtxt19 N w cb y bad a cap m hct).mono ?_
  rintro e w' ⟨T, y', bad', a', cap', rfl, hct', hk, hoc⟩
  obtain ⟨⟨x, hx⟩, _⟩ := hf.alike hal
  have ho' : Ob w' rb t cs := ho.kept hk hrc
  have hks : Kept (· = rb) w' (w'.setCell ⟨rb, i, none⟩ (.string T)) := (Kept.refl (· = rb) w').setCell _ _ (.inl rfl)
  refine ⟨T, x, rfl, ho'.cell hx, ho'.frozen i, ⟨cs.set i (.s T), y', bad', a', cap', ho'.set i (.s T), hal.trans (alike_sets hx), fun j v hj => okeep_set (fun v e => by rw [hx] at e; simp at e) j v (hok j v hj), hct'.kept hks (fun e => hrc e.symm) (fun k hk e => by omega), ?_⟩, Kept.trans hk hks (fun _ _ f => .inl f) (fun _ _ f => .inr f)⟩
  rcases hor with ⟨hb, hg⟩ | ⟨hb, hg⟩
  · exact .inl ⟨hoc.1 hb, hg⟩
  · rcases hoc.2 hb with ⟨h1, h2⟩ | ⟨h1, h2⟩
    · refine .inr ⟨h1, ?_⟩
      rw [hg]
      simp only [readL]
      rw [readF_txt, h2]
      rfl
    · refine .inl ⟨h1, ?_⟩
      rw [hg]
      simp only [readL]
      rw [readF_txt, h2]
      rfl

end Go.Proofs.Ytaefgnakdadgeaa

/-
  Layer 19, the reference: GetResponse.
-/
namespace Go.Proofs.Ytaefgnakdadgeaa
open Go.RowKit

def finR (cs : List Cel) (t : List ByteArray × List Nat) : Option (Rs × List ByteArray) := if t.2 = [] then some (rsOf cs, t.1) else none
def namR (p : List Cel × List Nat) : Option (Rs × List ByteArray) := bnd8 (readNm p.2) (finR p.1)
def gotR0 (r : List Nat) : Option (Rs × List ByteArray) := bnd8 (nm8 2 r) fun q => bnd8 (readL fdR ((zeroR (q.1 : Nat)).cs nilV) q.2) namR

theorem gotR_is (r : List Nat) : gotR r = if r.length ≤ 20000 then gotR0 r else none := rfl

/-- A cut over bytes that came in. -/
theorem In19.cut0 {w W : World} {a : Option Addr} {n cap : Nat} {r : List Nat} (h : In19 w a n cap r) (hnil : a = none → cap = 0) (hk : Same w W) : Ct19 w.heap.size (W.alloc (.cells #[.slice a n cap, .bool false] 63)) W.heap.size r false a cap := by
  have hn := h.n
  have hk2 : Same w (W.alloc (.cells #[.slice a n cap, .bool false] 63)) := hk.alloc _
  refine ⟨by rw [← hn]; exact Blk.new W _ _, ?_, by rw [← hn]; exact h.room, hk.size, h.byte, h.len, hnil⟩
  rw [← hn]
  exact h.src.kept hk2 (fun _ _ _ f => f)

/-- What all comes to, when some names are read. -/
def NmO (bad : Bool) (N i : Nat) (y : List Nat) (rs : Rs) (L : List ByteArray) (G : Option (Rs × List ByteArray)) : Prop :=
  (bad = true ∧ G = none) ∨ (bad = false ∧ N ≤ 64 ∧ G = bnd8 (readK (N - i) y) (fun t => if t.2 = [] then some (rs, L ++ t.1) else none))

/-- What the loop over the names keeps. -/
def NmI (N9 : Nat) (B : Nat) (w : World) (rb cb : Nat) (rs : Rs) (v : Value) (i N : Nat) (G : Option (Rs × List ByteArray)) : Prop :=
  ∃ L y bad a cap, L.length = i ∧ RowC B 9 1 nsE w v L ∧ Ob w rb 40 (rs.cs v) ∧ Ct19 N9 w cb y bad a cap ∧ NmO bad N i y rs L G

theorem nmI_step {rs : Rs} {L : List ByteArray} {N i V : Nat} {y y2 y3 x : List Nat} {bad bad2 bad3 : Bool} {G : Option (Rs × List ByteArray)} (hi : i < N)
    (hor : NmO bad N i y rs L G)
    (h1 : Oc bad (nm8 1 y) V y2 bad2) (h2 : Oc bad2 (tk8 V y2) x y3 bad3) :
    NmO bad3 N (i + 1) y3 rs (L ++ [txt x]) G := by
  rcases hor with ⟨hb, hg⟩ | ⟨hb, hN, hg⟩
  · exact .inl ⟨h2.1 (h1.1 hb), hg⟩
  · obtain ⟨m, hm⟩ : ∃ m, N - i = m + 1 := ⟨N - i - 1, by omega⟩
    have hm2 : N - (i + 1) = m := by omega
    rw [hm] at hg
    simp only [readK] at hg
    rcases h1.2 hb with ⟨h3, h4⟩ | ⟨h3, h4⟩
    · rw [h4] at hg
      simp only [bnd8] at hg
      rcases h2.2 h3 with ⟨h5, h6⟩ | ⟨h5, h6⟩
      · rw [h6] at hg
        refine .inr ⟨h5, hN, ?_⟩
        rw [hg, hm2]
        simp only
        cases readK m y3 with
        | none => rfl
        | some t => simp [bnd8]
      · rw [h6] at hg
        exact .inl ⟨h5, by rw [hg]⟩
    · rw [h4] at hg
      exact .inl ⟨h2.1 h3, by rw [hg]; rfl⟩

theorem set8r' {w : World} {g : Nat} {q : Rs} {v : Value} {q0 : Rs} {v0 : Value} {t : TypeId} (hb : Ob w g t (q0.cs v0)) :
    Ob ((((((((w.setCell ⟨g, 0, none⟩ (.int .i64 q.c)).setCell ⟨g, 1, none⟩ (.int .i64 q.x)).setCell ⟨g, 2, none⟩ (.int .i64 q.a)).setCell ⟨g, 3, none⟩ (.int .i64 q.z)).setCell ⟨g, 4, none⟩ (.string q.d)).setCell ⟨g, 5, none⟩ v).setCell ⟨g, 6, none⟩ (.int .i64 q.b)).setCell ⟨g, 7, none⟩ (.int .i64 q.e)) g t (q.cs v) ∧ Kept (· = g) w ((((((((w.setCell ⟨g, 0, none⟩ (.int .i64 q.c)).setCell ⟨g, 1, none⟩ (.int .i64 q.x)).setCell ⟨g, 2, none⟩ (.int .i64 q.a)).setCell ⟨g, 3, none⟩ (.int .i64 q.z)).setCell ⟨g, 4, none⟩ (.string q.d)).setCell ⟨g, 5, none⟩ v).setCell ⟨g, 6, none⟩ (.int .i64 q.b)).setCell ⟨g, 7, none⟩ (.int .i64 q.e)) := set8r (show Blk w g #[.int .i64 q0.c, .int .i64 q0.x, .int .i64 q0.a, .int .i64 q0.z, .string q0.d, v0, .int .i64 q0.b, .int .i64 q0.e] t from hb)

set_option maxRecDepth 100000 in
set_option maxHeartbeats 2000000 in
theorem rgetres19 (w : World) (a : Option Addr) (n cap : Nat) (r : List Nat) (h : In19 w a n cap r) (hnil : a = none → cap = 0) :
    Calls Try.prog 23 #[.slice a n cap] w fun e w' => GrA w w' r e := by
  obtain ⟨W1, hW1⟩ : ∃ W, W = w.alloc (.cells #[.int .i64 0, .int .i64 0, .int .i64 0, .int .i64 0, .string ⟨#[]⟩, .slice none 0 0, .int .i64 0, .int .i64 0] 40) := ⟨_, rfl⟩
  obtain ⟨p, hp⟩ : ∃ b, b = w.heap.size := ⟨_, rfl⟩
  have HK1 : Hid (Same w W1) := hid (by rw [hW1]; exact (Kept.refl _ w).alloc _)
  have HB1 : Hid (Ob W1 p 40 ((zeroR 0).cs nilV)) := hid (by rw [hW1, hp]; exact Blk.new w (rsV (zeroR 0) nilV) _)
  have HPN : Hid (w.heap.size ≤ p) := hid (by omega)
  obtain ⟨W2, hW2⟩ : ∃ W, W = W1.alloc (.cells #[.slice a n cap, .bool false] 63) := ⟨_, rfl⟩
  obtain ⟨cb, hcb⟩ : ∃ b, b = W1.heap.size := ⟨_, rfl⟩
  have HK2 : Hid (Same w W2) := hid (by rw [hW2]; exact HK1.out.alloc _)
  have HB2 : Hid (Ob W2 p 40 ((zeroR 0).cs nilV)) := hid (by rw [hW2]; exact HB1.out.kept ((Kept.refl (fun _ => False) _).alloc _) (fun f => f))
  have hct : Ct19 w.heap.size W2 cb r false a cap := by rw [hW2, hcb]; exact h.cut0 hnil HK1.out
  have HPC : Hid (p < cb ∧ cb < W2.heap.size) := hid ⟨by rw [hcb]; exact HB1.out.lt, hct.blk.lt⟩
  have HN : Hid (n = r.length) := hid h.n
  have HSM := rsmall19 w.heap.size W2 cb r false a cap 2 hct (by decide) (by decide)
  clear h hnil hct
  go_enter Try.func23, Try.ntmps23
  go_upto_region 1 with fail
  rw [← hW1, ← hp]
  clear hW1 hp
  go_upto_region 2 with fail
  rw [← hW2, ← hcb]
  clear hW2 hcb
  go_wp2_with fail
  refine HSM.mono ?_
  rintro e w3 ⟨V0, y0, bad0, a0, cap0, rfl, _, hct0, hk3, hoc⟩
  obtain ⟨W4, hW4⟩ : ∃ W, W = w3.alloc (.cells #[.int .i64 (V0 : Nat), .int .i64 0, .int .i64 0, .int .i64 0, .string ⟨#[]⟩, .slice none 0 0, .int .i64 0, .int .i64 0] 40) := ⟨_, rfl⟩
  obtain ⟨rb, hrb⟩ : ∃ b, b = w3.heap.size := ⟨_, rfl⟩
  have hk34 : Same w3 W4 := by rw [hW4]; exact (Kept.refl _ _).alloc _
  have HK4 : Hid (Kept (fun k => k = cb ∨ k = rb) W2 W4) := hid (Kept.trans hk3 hk34 (fun _ _ f => .inl f) (fun _ _ f => f.elim))
  have HRB : Hid (cb < rb ∧ p < rb ∧ W2.heap.size ≤ rb ∧ rb < W4.heap.size) := hid (by
    have h1 := HPC.out
    have h2 := hk3.size
    have h3 : rb < W4.heap.size := by rw [hW4, hrb]; simp
    omega)
  have HX0 : Hid (GI w.heap.size W4 rb cb 40 ((zeroR (V0 : Nat)).cs nilV) fdR (gotR0 r) namR) := hid (by
    refine ⟨(zeroR (V0 : Nat)).cs nilV, y0, bad0, a0, cap0, by rw [hW4, hrb]; exact Blk.new w3 (rsV (zeroR (V0 : Nat)) nilV) _, Alike.refl _, fun _ _ h => h, hct0.kept hk34 (fun f => f) (fun _ _ f => f), ?_⟩
    rcases hoc.2 rfl with ⟨h1, h2⟩ | ⟨h1, h2⟩
    · exact .inr ⟨h1, by unfold gotR0; rw [h2]; rfl⟩
    · exact .inl ⟨h1, by unfold gotR0; rw [h2]; rfl⟩)
  have HB4 := hid (HB2.out.kept HK4.out (by have h1 := HPC.out; have h2 := HRB.out; omega))
  have HCB : Hid (rb ≠ cb ∧ w.heap.size ≤ rb ∧ w.heap.size ≤ cb ∧ p ≠ rb ∧ p ≠ cb) := hid (by have h1 := HPC.out; have h2 := HRB.out; have h3 := HPN.out; omega)
  unfold fdR at HX0
  have HG0 : Hid (Kept (fun k => k = cb ∨ k = rb) W4 W4) := hid (Kept.refl _ _)
  clear hct0 hk3 hoc hk34 HSM
  go_upto_region 3 with fail
  rw [← hrb, ← hW4]
  clear hrb hW4
  go_wp2_with fail
  refine (HX0.out.num ⟨_, rfl⟩ HCB.out.1 HCB.out.2.1).mono ?_
  rintro e v0 ⟨V, o, rfl, hc, hz, hgi, hkk⟩
  obtain ⟨x0, hx0⟩ : ∃ X, X = v0.setCell ⟨rb, 1, none⟩ (.int .i64 (V : Nat)) := ⟨_, rfl⟩
  rw [← hx0] at hgi hkk
  have HX1 := hid hgi
  have HG1 : Hid (Kept (fun k => k = cb ∨ k = rb) W4 x0) := hid (Kept.trans HG0.out hkk (fun _ _ f => f) (fun _ _ f => f))
  clear hgi hkk
  go_upto_region 4 with fail
  rw [← hx0]
  clear hx0 hc hz
  go_wp2_with fail
  refine (HX1.out.num ⟨_, rfl⟩ HCB.out.1 HCB.out.2.1).mono ?_
  rintro e v1 ⟨V, o, rfl, hc, hz, hgi, hkk⟩
  obtain ⟨x1, hx1⟩ : ∃ X, X = v1.setCell ⟨rb, 2, none⟩ (.int .i64 (V : Nat)) := ⟨_, rfl⟩
  rw [← hx1] at hgi hkk
  have HX2 := hid hgi
  have HG2 : Hid (Kept (fun k => k = cb ∨ k = rb) W4 x1) := hid (Kept.trans HG1.out hkk (fun _ _ f => f) (fun _ _ f => f))
  clear hgi hkk
  go_upto_region 5 with fail
  rw [← hx1]
  clear hx1 hc hz
  go_wp2_with fail
  refine (HX2.out.num ⟨_, rfl⟩ HCB.out.1 HCB.out.2.1).mono ?_
  rintro e v2 ⟨V, o, rfl, hc, hz, hgi, hkk⟩
  obtain ⟨x2, hx2⟩ : ∃ X, X = v2.setCell ⟨rb, 3, none⟩ (.int .i64 (V : Nat)) := ⟨_, rfl⟩
  rw [← hx2] at hgi hkk
  have HX3 := hid hgi
  have HG3 : Hid (Kept (fun k => k = cb ∨ k = rb) W4 x2) := hid (Kept.trans HG2.out hkk (fun _ _ f => f) (fun _ _ f => f))
  clear hgi hkk
  go_upto_region 6 with fail
  rw [← hx2]
  clear hx2 hc hz
  go_wp2_with fail
  refine (HX3.out.num ⟨_, rfl⟩ HCB.out.1 HCB.out.2.1).mono ?_
  rintro e v3 ⟨V, o, rfl, hc, hz, hgi, hkk⟩
  obtain ⟨x3, hx3⟩ : ∃ X, X = v3.setCell ⟨rb, 6, none⟩ (.int .i64 (V : Nat)) := ⟨_, rfl⟩
  rw [← hx3] at hgi hkk
  have HX4 := hid hgi
  have HG4 : Hid (Kept (fun k => k = cb ∨ k = rb) W4 x3) := hid (Kept.trans HG3.out hkk (fun _ _ f => f) (fun _ _ f => f))
  clear hgi hkk
  go_upto_region 7 with fail
  rw [← hx3]
  clear hx3 hc hz
  go_wp2_with fail
  refine (HX4.out.num ⟨_, rfl⟩ HCB.out.1 HCB.out.2.1).mono ?_
  rintro e v4 ⟨V, o, rfl, hc, hz, hgi, hkk⟩
  obtain ⟨x4, hx4⟩ : ∃ X, X = v4.setCell ⟨rb, 7, none⟩ (.int .i64 (V : Nat)) := ⟨_, rfl⟩
  rw [← hx4] at hgi hkk
  have HX5 := hid hgi
  have HG5 : Hid (Kept (fun k => k = cb ∨ k = rb) W4 x4) := hid (Kept.trans HG4.out hkk (fun _ _ f => f) (fun _ _ f => f))
  clear hgi hkk
  go_upto_region 8 with fail
  rw [← hx4]
  clear hx4 hc hz
  go_wp2_with fail
  refine (HX5.out.txt ⟨⟨_, rfl⟩, by decide⟩ HCB.out.1 HCB.out.2.1).mono ?_
  rintro e v5 ⟨V, o, rfl, hc, hz, hgi, hkk⟩
  obtain ⟨x5, hx5⟩ : ∃ X, X = v5.setCell ⟨rb, 4, none⟩ (.string V) := ⟨_, rfl⟩
  rw [← hx5] at hgi hkk
  have HX6 := hid hgi
  have HG6 : Hid (Kept (fun k => k = cb ∨ k = rb) W4 x5) := hid (Kept.trans HG5.out hkk (fun _ _ f => f) (fun _ _ f => f))
  clear hgi hkk
  go_upto_region 9 with fail
  rw [← hx5]
  clear hx5 hc hz
  obtain ⟨cs, y, bad, a5, cap5, hob, hal, hok, hct, hor⟩ := HX6.out
  have hcs := alike_rs hal hok
  obtain ⟨rs, hrs⟩ : ∃ s, s = rsOf cs := ⟨_, rfl⟩
  rw [← hrs] at hcs
  rw [hcs] at hob hor
  have HOR := hid hor
  have HOB := hid hob
  have HSM := rsmall19 w.heap.size x5 cb y bad a5 cap5 1 hct (by decide) (by decide)
  clear hob hal hok hct hor hcs hrs
  go_wp2_with fail
  refine HSM.mono ?_
  rintro e w6 ⟨N, y6, bad6, a6, cap6, rfl, hN, hct6, hk6, hoc6⟩
  have HCT6 := hid hct6
  have HOB6 := hid (HOB.out.kept hk6 HCB.out.1)
  have HKK6 : Hid (Kept (fun k => k = cb ∨ k = rb) W4 w6) := hid (Kept.trans HG6.out hk6 (fun _ _ f => f) (fun _ _ f => .inl f))
  have hN256 : N < 256 := hN
  obtain ⟨BB, hBB⟩ : ∃ b, b = (bad6 || decide (64 < N)) := ⟨_, rfl⟩
  have HST : Hid ((BB = true ∧ gotR0 r = none) ∨ (BB = false ∧ N ≤ 64 ∧ gotR0 r = bnd8 (readK N y6) (fun t => if t.2 = [] then some (rs, t.1) else none))) := hid (by
    have h1 : namR (rs.cs nilV, y) = bnd8 (readNm y) (fun t => if t.2 = [] then some (rs, t.1) else none) := rfl
    rcases HOR.out with ⟨h2, h3⟩ | ⟨h2, h3⟩
    · exact .inl ⟨by rw [hBB, hoc6.1 h2]; rfl, h3⟩
    · have h4 : gotR0 r = bnd8 (readNm y) (fun t => if t.2 = [] then some (rs, t.1) else none) := by rw [h3]; exact h1
      unfold readNm at h4
      rcases hoc6.2 h2 with ⟨h5, h6⟩ | ⟨h5, h6⟩
      · rw [h6] at h4
        simp only [bnd8] at h4
        by_cases h7 : N ≤ 64
        · rw [if_pos h7] at h4
          exact .inr ⟨by rw [hBB, h5]; simp; omega, h7, h4⟩
        · rw [if_neg h7] at h4
          exact .inl ⟨by rw [hBB, h5]; simp; omega, h4⟩
      · rw [h6] at h4
        exact .inl ⟨by rw [hBB, h5]; rfl, h4⟩)
  obtain ⟨d0, d1, f0, f1⟩ := hct6.blk.two
  have HNL : Hid (N < 256) := hN256
  clear hct6 hk6 hoc6 hN HSM d0 f0
  go_upto_region 10 with fail
  go_cut [] from 38 to 48 (fun wx => wx = w6.setCell ⟨cb, 1, none⟩ (.bool BB))
  case first =>
    cases bad6 with
    | true =>
      obtain rfl : BB = true := by rw [hBB]; rfl
      clear hBB
      go_wp2_with fail
      go_meet
      rfl
    | false =>
      by_cases h64 : 64 < N
      · have b1 : decide ((64 : Int) < (N : Int)) = true := by simp; omega
        have b2 : decide (64 < N) = true := by simp; omega
        obtain rfl : BB = true := by rw [hBB]; simp; omega
        clear hBB h64
        go_wp2_with fail
        go_meet
        rfl
      · have b1 : decide ((64 : Int) < (N : Int)) = false := by simp; omega
        have b2 : decide (64 < N) = false := by simp; omega
        obtain rfl : BB = false := by rw [hBB]; simp; omega
        clear hBB h64
        go_wp2_with fail
        go_meet
        rfl
  case rest =>
    obtain ⟨w7, hw7⟩ : ∃ X, X = wc := ⟨_, rfl⟩
    rw [← hw7] at hcut ⊢
    clear hw7
    have hmk := HCT6.out.mark (b := BB)
    rw [← hcut] at hmk
    have HCT7 := hid hmk.1
    have HOB7 := hid (HOB6.out.kept hmk.2 HCB.out.1)
    have HKK7 : Hid (Kept (fun k => k = cb ∨ k = rb) W4 w7) := hid (Kept.trans HKK6.out hmk.2 (fun _ _ f => f) (fun _ _ f => .inl f))
    have HB7 := hid (HB4.out.kept HKK7.out (by have h1 := HCB.out; omega))
    have HSZ : Hid (rb < w7.heap.size ∧ cb < w7.heap.size ∧ p < w7.heap.size ∧ w.heap.size ≤ w7.heap.size) := hid (by
      have h1 := HRB.out
      have h2 := HKK7.out.size
      have h3 := HCB.out
      omega)
    have HSW : Hid (Same w w7) := hid (Same.then (Same.then HK2.out HK4.out (fun x hx e => by have := HCB.out; omega)) HKK7.out (fun x hx e => by have := HCB.out; omega))
    clear hcut hmk hBB d1 f1 hN256
    go_wp2_with fail
    go_loopg [7] (N + 1) (fun g z wr => ∃ i : Nat, i ≤ N ∧ N - i + 1 ≤ g ∧ z = .int .i64 (i : Nat) ∧ Hid (∃ v, NmI w.heap.size w7.heap.size wr rb cb rs v i N (gotR0 r) ∧ Kept (fun k => k = cb ∨ k = rb) w7 wr))
    case atStart =>
      refine ⟨0, by omega, by omega, rfl, hid ⟨nilV, ⟨[], y6, BB, a6, cap6, rfl, RowC.nil, HOB7.out, HCT7.out, ?_⟩, Kept.refl _ _⟩⟩
      rcases HST.out with h1 | ⟨h1, h2, h3⟩
      · exact .inl h1
      · exact .inr ⟨h1, h2, by rw [h3]; rfl⟩
    case round =>
      obtain ⟨i, hi, hg, rfl, HX⟩ := hrel
      obtain ⟨v, ⟨L, y, bad, a8, cap8, hLn, hrow, hob, hct, hor⟩, hkw⟩ := HX.out
      have HLN := hid hLn
      have HROW := hid hrow
      have HOBR := hid hob
      have HCTR := hid hct
      have HORR := hid hor
      have HKWR := hid hkw
      obtain ⟨d0, d1, f0, f1⟩ := hct.blk.two
      by_cases hgo : i < N ∧ bad = false
      · obtain ⟨hlt, rfl⟩ := hgo
        have b1 : decide ((i : Int) < (N : Int)) = true := by simp; omega
        have b2 : decide (i < N) = true := by simp; omega
        have HLT := hid hlt
        have HSM := rsmall19 w.heap.size wr cb y false a8 cap8 1 hct (by decide) (by decide)
        have hiw : IntKind.i64.wrap ((i : Int) + 1) = ((i + 1 : Nat) : Int) := by have := HNL.out; rw [IntKind.wrap_i64]; omega
        clear hLn hrow hob hct hor hkw HX d0 f0 f1
        go_wp2_with fail
        refine HSM.mono ?_
        rintro e x1 ⟨V1, y1, bad1, a1, cap1, rfl, hV1, hct1, hk1, hoc1⟩
        have HOC1 := hid hoc1
        have HK1r := hid hk1
        have HTK := rtake19 w.heap.size x1 cb y1 bad1 a1 cap1 V1 hct1 (by have : V1 < 256 := hV1; omega)
        clear hct1 hk1 hoc1 hV1 HSM d1
        go_wp2_with fail
        refine HTK.mono ?_
        rintro e x2 ⟨va, vc, x, y2, bad2, a2, cap2, rfl, hsx, hlx, hbx, hvc, hct2, hk2, hoc2⟩
        have hst := str8 (a := va) (c := vc) hsx hlx
        have HCT2 := hid hct2
        have HSTP := hid (nmI_step HLT.out HORR.out HOC1.out hoc2)
        have hkc : Kept (· = cb) wr x2 := Kept.trans HK1r.out hk2 (fun _ _ f => f) (fun _ _ f => f)
        have HKC := hid hkc
        have HROW2 := hid (HROW.out.kept hkc (fun j e f => by have h1 := HROW.out.ge e; have h2 := HSZ.out; omega))
        have HOB2 := hid (HOBR.out.kept hkc HCB.out.1)
        obtain ⟨ra, rc, hv2, _⟩ := HROW2.out.shape
        obtain ⟨rn, hrn⟩ : ∃ k, k = L.length := ⟨_, rfl⟩
        rw [← hrn] at hv2
        subst hv2
        obtain ⟨c0, c1, c2, c3, c4, c5, c6, c7⟩ := HOB2.out.eightR
        have z5 := HOB2.out.frozen 5
        have HSX2 : Hid (w7.heap.size ≤ x2.heap.size) := hid (Nat.le_trans HKWR.out.size hkc.size)
        clear hsx hlx hbx hvc hct2 hk2 hoc2 HTK hkc c0 c1 c2 c3 c4 c6 c7 hrn
        go_wp2_with (at_builtin; refine wpList_append_c _ nsE 1 nsE_ok (by decide) w7.heap.size 36 9 (.string ⟨#[]⟩) 16 Try.underlying36 Try.infoStr19 rfl (by decide) rfl (.tmp 67) (.tmp 70) rfl (.slice ra rn rc) L rfl (HROW2.out.kept (show Same _ _ from (Kept.refl _ _).alloc _) (fun _ _ f => f)) ⟨x2.heap.size, 0, none⟩ 1 1 [txt x] rfl rfl (cellsAt_ns _ (txt x)) (by have := HLN.out; have := HNL.out; simp only [List.length_singleton]; omega) (by have := HSX2.out; simp; omega) ?_)
        intro v3 x3 hr3 hg3
        have hk3 : Kept (fun k => (Value.slice ra rn rc).ownBlock = some k) x2 x3 := Kept.trans (show Same x2 _ from (Kept.refl _ x2).alloc _) ((Kept.refl _ _).grown hg3 (fun k e => .inl e)) (fun _ _ f => f.elim) (fun _ _ e => e)
        have hge : ∀ k, (Value.slice ra rn rc).ownBlock = some k → w7.heap.size ≤ k := fun k e => HROW2.out.ge e
        obtain ⟨ra3, rn3, rc3, e3⟩ : ∃ a n c, v3 = Value.slice a n c := by obtain ⟨a, c, e, _⟩ := RowC.shape hr3; exact ⟨a, _, c, e⟩
        subst e3
        have hob3 := HOB2.out.kept hk3 (fun e => by have h1 := hge _ e; have h2 := HSZ.out; omega)
        have hct3 := HCT2.out.kept hk3 (fun e => by have h1 := hge _ e; have h2 := HSZ.out; omega) (fun k hk e => by have h1 := hge _ e; have h2 := HSZ.out; omega)
        obtain ⟨x4, hx4⟩ : ∃ X, X = x3.setCell ⟨rb, 5, none⟩ (.slice ra3 rn3 rc3) := ⟨_, rfl⟩
        have hk4 : Kept (· = rb) x3 x4 := by rw [hx4]; exact (Kept.refl (· = rb) x3).setCell _ _ (.inl rfl)
        have HX2 : Hid (∃ v, NmI w.heap.size w7.heap.size x4 rb cb rs v (i + 1) N (gotR0 r) ∧ Kept (fun k => k = cb ∨ k = rb) w7 x4) := hid ⟨.slice ra3 rn3 rc3, ⟨L ++ [txt x], y2, bad2, a2, cap2, by rw [List.length_append, HLN.out]; rfl, hr3.kept hk4 (fun k e f => by have h1 := RowC.ge hr3 e; have h2 := HSZ.out; omega), by rw [hx4]; exact hob3.set 5 (.o (.slice ra3 rn3 rc3)), hct3.kept hk4 (fun e => HCB.out.1 e.symm) (fun k hk e => by have := HCB.out; omega), HSTP.out⟩, Kept.trans (Kept.trans (Kept.trans HKWR.out HKC.out (fun _ _ f => f) (fun _ _ f => .inl f) : Kept (fun k => k = cb ∨ k = rb) w7 x2) hk3 (fun _ _ f => f) (fun k hk e => by have h1 := hge _ e; omega) : Kept (fun k => k = cb ∨ k = rb) w7 x3) hk4 (fun _ _ f => f) (fun _ _ f => .inr f)⟩
        have c5' : x3.cell? ⟨rb, 5, none⟩ = some (.slice ra rn rc) := hob3.eightR.2.2.2.2.2.1
        have z5' := hob3.frozen 5
        clear hr3 hg3 hk3 hge hob3 hct3 hk4 c5 z5
        go_upto_region 13 with fail
        rw [← hx4]
        clear hx4 c5' z5'
        go_wp2_with fail
        go_roundg (gk - 1)
        case measure => omega
        case rel => exact ⟨i + 1, by omega, by omega, by go_num, HX2⟩
      · have HGO := hid hgo
        have HBW := hid (HB7.out.kept hkw (by have := HCB.out; omega))
        have HSR : Hid (Same w wr) := hid (Same.then HSW.out hkw (fun x hx e => by have := HCB.out; omega))
        obtain ⟨ra, rc, hv2, _⟩ := HROW.out.shape
        obtain ⟨rn, hrn⟩ : ∃ k, k = L.length := ⟨_, rfl⟩
        rw [← hrn] at hv2
        subst hv2
        obtain ⟨s0, s1, s2, s3, s4, s5, s6, s7⟩ := hob.eightR
        obtain ⟨t0, t1, t2, t3, t4, t5, t6, t7⟩ := HBW.out.eightR
        have z0 := HBW.out.frozen 0
        have z1 := HBW.out.frozen 1
        have z2 := HBW.out.frozen 2
        have z3 := HBW.out.frozen 3
        have z4 := HBW.out.frozen 4
        have z5 := HBW.out.frozen 5
        have z6 := HBW.out.frozen 6
        have z7 := HBW.out.frozen 7
        obtain ⟨M, hM⟩ : ∃ L, L = y.length := ⟨_, rfl⟩
        rw [← hM] at d0
        have HM := hid hM
        have HBADE : Hid (gotR r = none → GrA w ((((((((wr.setCell ⟨p, 0, none⟩ (.int .i64 0)).setCell ⟨p, 1, none⟩ (.int .i64 0)).setCell ⟨p, 2, none⟩ (.int .i64 0)).setCell ⟨p, 3, none⟩ (.int .i64 0)).setCell ⟨p, 4, none⟩ (.string ⟨#[]⟩)).setCell ⟨p, 5, none⟩ (.slice none 0 0)).setCell ⟨p, 6, none⟩ (.int .i64 0)).setCell ⟨p, 7, none⟩ (.int .i64 0)) r (.returned (.tuple #[.agg (rsV (zeroR 0) nilV), .int .i64 190])) ∧ Ob ((((((((wr.setCell ⟨p, 0, none⟩ (.int .i64 0)).setCell ⟨p, 1, none⟩ (.int .i64 0)).setCell ⟨p, 2, none⟩ (.int .i64 0)).setCell ⟨p, 3, none⟩ (.int .i64 0)).setCell ⟨p, 4, none⟩ (.string ⟨#[]⟩)).setCell ⟨p, 5, none⟩ (.slice none 0 0)).setCell ⟨p, 6, none⟩ (.int .i64 0)).setCell ⟨p, 7, none⟩ (.int .i64 0)) p 40 ((zeroR 0).cs nilV)) := hid (fun hg => by
          obtain ⟨h1, h2⟩ := set8r' (q := zeroR 0) (v := nilV) HBW.out
          refine ⟨⟨none, 0, 0, ?_, ?_, Same.then HSR.out h2 (fun x hx e => by have := HPN.out; omega)⟩, h1⟩
          · rw [(grE_none hg).1, (grE_none hg).2.1]; rfl
          · rw [(grE_none hg).2.2]; exact RowC.nil)
        clear hLn hrow hob hct hor hkw HX hM hrn hgo f0 f1
        cases bad with
        | true =>
          have HGN : Hid (gotR r = none) := hid (by
            rw [gotR_is]
            split
            · rcases HORR.out with h1 | h1
              · exact h1.2
              · exact absurd h1.1 (by decide)
            · rfl)
          by_cases hlt : i < N
          case' pos =>
            have b1 : decide ((i : Int) < (N : Int)) = true := by simp; omega
            have b2 : decide (i < N) = true := by simp; omega
          case' neg =>
            have b1 : decide ((i : Int) < (N : Int)) = false := by simp; omega
            have b2 : decide (i < N) = false := by simp; omega
          all_goals
            clear hlt
            go_wp2_with fail
            obtain ⟨e1, e2⟩ := HBADE.out HGN.out
            refine bodyPost_ret (v := .tuple #[.agg (rsV (zeroR 0) nilV), .int .i64 190]) (by rw [results_c2 (p := 2) (b := 3) (ty := 40) rfl _ _ _ _ _ ⟨p, 0, none⟩ _ rfl (loadR e2)]; rfl) rfl ?_
            exact e1
        | false =>
          have hNi : ¬ i < N := fun h => HGO.out ⟨h, rfl⟩
          obtain rfl : i = N := by omega
          have b1 : decide ((i : Int) < (i : Int)) = false := by simp
          have b2 : decide (i < i) = false := by simp
          have HG0' : Hid (gotR0 r = if y = [] then some (rs, L) else none) := hid (by
            rcases HORR.out with h1 | ⟨_, _, h1⟩
            · exact absurd h1.1 (by decide)
            · rw [h1, Nat.sub_self]
              show (if y = [] then some (rs, L ++ []) else none) = _
              rw [List.append_nil])
          by_cases hy : y = []
          · have hM0 : M = 0 := by rw [HM.out, hy]; rfl
            subst hM0
            by_cases hbig : 20000 < n
            · have HGN : Hid (gotR r = none) := hid (by rw [gotR_is, if_neg (by have := HN.out; omega)])
              have l1 : decide ((20000 : Int) < (n : Int)) = true := by simp; omega
              have l2 : decide (20000 < n) = true := by simp; omega
              clear hy hbig hNi
              go_wp2_with fail
              obtain ⟨e1, e2⟩ := HBADE.out HGN.out
              refine bodyPost_ret (v := .tuple #[.agg (rsV (zeroR 0) nilV), .int .i64 190]) (by rw [results_c2 (p := 2) (b := 3) (ty := 40) rfl _ _ _ _ _ ⟨p, 0, none⟩ _ rfl (loadR e2)]; rfl) rfl ?_
              exact e1
            · have HGN : Hid (gotR r = some (rs, L)) := hid (by rw [gotR_is, if_pos (by have := HN.out; omega), HG0'.out, if_pos hy])
              have l1 : decide ((20000 : Int) < (n : Int)) = false := by simp; omega
              have l2 : decide (20000 < n) = false := by simp; omega
              clear hy hbig hNi
              go_wp2_with fail
              obtain ⟨e1, e2⟩ := set8r' (q := rs) (v := .slice ra rn rc) HBW.out
              refine bodyPost_ret (v := .tuple #[.agg (rsV rs (.slice ra rn rc)), .int .i64 0]) (by rw [results_c2 (p := 2) (b := 3) (ty := 40) rfl _ _ _ _ _ ⟨p, 0, none⟩ _ rfl (loadR e1)]; rfl) rfl ?_
              refine ⟨ra, rn, rc, ?_, ?_, Same.then HSR.out e2 (fun x hx e => by have := HPN.out; omega)⟩
              · rw [(grE_some HGN.out).1, (grE_some HGN.out).2.1]; rfl
              · rw [(grE_some HGN.out).2.2]
                exact (HROW.out.kept e2 (fun k e f => by have h1 := HROW.out.ge e; have h2 := HSZ.out; omega)).base HSZ.out.2.2.2
          · have hM0 : 0 < M := by rw [HM.out]; exact List.length_pos_iff.2 hy
            have l1 : decide ((0 : Int) < (M : Int)) = true := by simp; omega
            have l2 : decide (0 < M) = true := by simp; omega
            have HGN : Hid (gotR r = none) := hid (by
              rw [gotR_is, HG0'.out, if_neg hy]
              split <;> rfl)
            clear hy hNi hM0
            go_wp2_with fail
            obtain ⟨e1, e2⟩ := HBADE.out HGN.out
            refine bodyPost_ret (v := .tuple #[.agg (rsV (zeroR 0) nilV), .int .i64 190]) (by rw [results_c2 (p := 2) (b := 3) (ty := 40) rfl _ _ _ _ _ ⟨p, 0, none⟩ _ rfl (loadR e2)]; rfl) rfl ?_
            exact e1

end Go.Proofs.Ytaefgnakdadgeaa
