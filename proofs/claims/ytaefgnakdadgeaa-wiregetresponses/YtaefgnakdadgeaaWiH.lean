/-
  Layer 19: the fields that requests and responses have.
-/
import Derived.Test.YtaefgnakdadgeaaWiC
import Derived.BigRegion
namespace Go.Proofs.Ytaefgnakdadgeaa
open Go.RowKit

/-- A request. -/
structure Rq where
  k : Int
  x : Int
  a : ByteArray
  e : ByteArray
  d : ByteArray
  f : Int
  m : Int
  o : ByteArray

def Rq.cs (q : Rq) : List Cel := [.n q.k, .n q.x, .s q.a, .s q.e, .s q.d, .n q.f, .n q.m, .s q.o]

/-- The fields that a kind has. -/
def fdQ (k : Int) : List Fd :=
  if k = 1 then [.txt 7 256]
  else if k = 3 then [.num 1, .txt 2 255, .txt 3 255, .num 5, .num 6]
  else if k = 4 then [.num 1, .txt 2 255]
  else if k = 5 ∨ k = 6 then [.num 1, .txt 2 255, .txt 3 255, .txt 4 16384]
  else if k = 7 then [.num 1, .txt 2 255, .txt 3 255]
  else if k = 8 ∨ k = 9 then [.num 1]
  else if k = 10 then [.num 1, .txt 2 255, .num 5, .num 6]
  else if k = 11 then [.num 1, .txt 2 255, .txt 4 16384]
  else []

/-- What requestFields tells. -/
def FdsA (w w' : World) (p : Nat) (l : List Fd) (e : Ending) : Prop := ∃ ao n c, e = .returned (.slice ao n c) ∧ SrcC 1 (fdE p) w' (fun k => w.heap.size ≤ k) (.slice ao n c) l ∧ Same w w'

theorem fdsA_nil {w w' : World} {p : Nat} {l : List Fd} (h : l = []) (hk : Same w w') : FdsA w w' p l (.returned (.slice none 0 0)) := by
  subst h
  exact ⟨none, 0, 0, rfl, ⟨none, 0, rfl, Nat.le_refl _, fun h => absurd rfl h⟩, hk⟩

theorem fdsA_row {w W : World} {p : Nat} {l : List Fd} {n : Nat} {t : TypeId} (h : n = l.length) (hk : Same w W) (vs : List Value) (hv : vs = l.map (fdV p)) : FdsA w (W.alloc (.cells vs.toArray t)) p l (.returned (.slice (some ⟨W.heap.size, 0, none⟩) n n)) := by
  subst h hv
  refine ⟨_, _, _, rfl, ⟨_, _, rfl, Nat.le_refl _, fun _ => ⟨W.heap.size, 0, rfl, hk.size, fun j hj i hi => ?_⟩⟩, hk.alloc _⟩
  have hi0 : i = 0 := by omega
  subst hi0
  have := (Blk.new W (l.map (fdV p)).toArray t).cell j
  rw [Nat.mul_one, Nat.zero_add, Nat.add_zero, this]
  simp [fdE, hj]

theorem al1 (w : World) (A : Array Value) (a : TypeId) : Same w (w.alloc (.cells A a)) ∧ Blk (w.alloc (.cells A a)) w.heap.size A a := ⟨(Kept.refl _ w).alloc _, Blk.new w A a⟩

theorem al2 (w : World) (A B : Array Value) (a b : TypeId) : Same w ((w.alloc (.cells A a)).alloc (.cells B b)) ∧ Blk ((w.alloc (.cells A a)).alloc (.cells B b)) w.heap.size A a ∧ Blk ((w.alloc (.cells A a)).alloc (.cells B b)) (w.heap.size + 1) B b := by
  obtain ⟨h1, h2⟩ := al1 w A a
  refine ⟨h1.alloc _, Blk.kept h2 ((Kept.refl (fun _ => False) _).alloc _) (fun f => f), ?_⟩
  have := Blk.new (w.alloc (.cells A a)) B b
  rwa [show (w.alloc (.cells A a)).heap.size = w.heap.size + 1 by simp] at this

theorem al3 (w : World) (A B C : Array Value) (a b c : TypeId) : Same w (((w.alloc (.cells A a)).alloc (.cells B b)).alloc (.cells C c)) ∧ Blk (((w.alloc (.cells A a)).alloc (.cells B b)).alloc (.cells C c)) w.heap.size A a ∧ Blk (((w.alloc (.cells A a)).alloc (.cells B b)).alloc (.cells C c)) (w.heap.size + 1) B b ∧ Blk (((w.alloc (.cells A a)).alloc (.cells B b)).alloc (.cells C c)) (w.heap.size + 1 + 1) C c := by
  obtain ⟨h1, h2, h3⟩ := al2 w A B a b
  have hk := (Kept.refl (fun _ => False) ((w.alloc (.cells A a)).alloc (.cells B b))).alloc (.cells C c)
  refine ⟨h1.alloc _, Blk.kept h2 hk (fun f => f), Blk.kept h3 hk (fun f => f), ?_⟩
  have := Blk.new ((w.alloc (.cells A a)).alloc (.cells B b)) C c
  rwa [show ((w.alloc (.cells A a)).alloc (.cells B b)).heap.size = w.heap.size + 1 + 1 by simp] at this

set_option maxRecDepth 100000 in
set_option maxHeartbeats 1000000 in
theorem reqf_any (w : World) (p : Nat) (q : Rq) (hO : Ob w p 24 q.cs) :
    Calls Try.prog 26 #[.pointer (some ⟨p, 0, none⟩)] w fun e w' => FdsA w w' p (fdQ q.k) e := by
  have c0 : w.cell? ⟨p, 0, none⟩ = some (.int .i64 q.k) := hO.cell (i := 0) (c := .n q.k) rfl
  obtain ⟨k, hk⟩ : ∃ k, k = q.k := ⟨_, rfl⟩
  rw [← hk] at c0 ⊢
  have HC0 := hid c0
  clear hO hk c0
  go_enter Try.func26, Try.ntmps26
  go_upto_region 1 with fail
  go_cut [3, 4, 5] from 3 to 20 (fun z3 z4 z5 wx => ∃ b3 b4 b5, z3 = .pointer (some ⟨b3, 0, none⟩) ∧ z4 = .pointer (some ⟨b4, 0, none⟩) ∧ z5 = .pointer (some ⟨b5, 0, none⟩) ∧ Hid (Same w wx ∧ Blk wx b3 #[.pointer (some ⟨p, 1, none⟩)] 79 ∧ Blk wx b4 #[.pointer (some ⟨p, 5, none⟩)] 79 ∧ Blk wx b5 #[.pointer (some ⟨p, 6, none⟩)] 79))
  case first =>
    go_region
    all_goals
      go_wp2_with fail
      go_meet
      refine ⟨_, _, _, rfl, rfl, rfl, hid ⟨?_, ?_, ?_, ?_⟩⟩
      all_goals first | exact (al3 w _ _ _ _ _ _).1.drew | exact (al3 w _ _ _ _ _ _).1 | exact (al3 w _ _ _ _ _ _).2.1 | exact (al3 w _ _ _ _ _ _).2.2.1 | exact (al3 w _ _ _ _ _ _).2.2.2
  case rest =>
    obtain ⟨b3, b4, b5, rfl, rfl, rfl, HB⟩ := hcut
    obtain ⟨w1, hw1⟩ : ∃ x, x = wc := ⟨_, rfl⟩
    rw [← hw1] at HB ⊢
    clear hw1
    go_upto_region 2 with fail
    go_cut [6, 7] from 6 to 28 (fun z6 z7 wx => ∃ b6 b7, z6 = .pointer (some ⟨b6, 0, none⟩) ∧ z7 = .pointer (some ⟨b7, 0, none⟩) ∧ Hid (Same w1 wx ∧ Blk wx b6 #[.pointer (some ⟨p, 2, none⟩), .int .i64 255] 82 ∧ Blk wx b7 #[.pointer (some ⟨p, 3, none⟩), .int .i64 255] 82))
    case first =>
      go_region
      all_goals
        go_wp2_with fail
        go_meet
        refine ⟨_, _, rfl, rfl, hid ⟨?_, ?_, ?_⟩⟩
        all_goals first | exact (al2 w1 _ _ _ _).1.drew | exact (al2 w1 _ _ _ _).1 | exact (al2 w1 _ _ _ _).2.1 | exact (al2 w1 _ _ _ _).2.2
    case rest =>
      obtain ⟨b6, b7, rfl, rfl, HD⟩ := hcut
      obtain ⟨w2, hw2⟩ : ∃ x, x = wc := ⟨_, rfl⟩
      rw [← hw2] at HD ⊢
      clear hw2
      obtain ⟨w3, hw3⟩ : ∃ W, W = w2.alloc (.cells #[.pointer (some ⟨p, 4, none⟩), .int .i64 16384] 82) := ⟨_, rfl⟩
      obtain ⟨b8, hb8⟩ : ∃ b, b = w2.heap.size := ⟨_, rfl⟩
      have HE : Hid (Same w2 w3 ∧ Blk w3 b8 #[.pointer (some ⟨p, 4, none⟩), .int .i64 16384] 82) := hid (by rw [hw3, hb8]; exact al1 _ _ _)
      have HK : Hid (Same w w3) := hid (Same.trans HB.out.1 (Same.trans HD.out.1 HE.out.1))
      have hk13 : Same w1 w3 := Same.trans HD.out.1 HE.out.1
      obtain ⟨_, n3⟩ := Blk.cell (HB.out.2.1.kept hk13 (fun f => f)) 0 |> fun h => (⟨trivial, by simpa using h⟩ : True ∧ w3.cell? ⟨b3, 0, none⟩ = some (.pointer (some ⟨p, 1, none⟩)))
      obtain ⟨_, n4⟩ := Blk.cell (HB.out.2.2.1.kept hk13 (fun f => f)) 0 |> fun h => (⟨trivial, by simpa using h⟩ : True ∧ w3.cell? ⟨b4, 0, none⟩ = some (.pointer (some ⟨p, 5, none⟩)))
      obtain ⟨_, n5⟩ := Blk.cell (HB.out.2.2.2.kept hk13 (fun f => f)) 0 |> fun h => (⟨trivial, by simpa using h⟩ : True ∧ w3.cell? ⟨b5, 0, none⟩ = some (.pointer (some ⟨p, 6, none⟩)))
      obtain ⟨m6, m7, _, _⟩ := (HD.out.2.1.kept HE.out.1 (fun f => f)).two
      obtain ⟨l6, l7, _, _⟩ := (HD.out.2.2.kept HE.out.1 (fun f => f)).two
      obtain ⟨k6, k7, _, _⟩ := HE.out.2.two
      have c1 : w3.cell? ⟨p, 0, none⟩ = some (.int .i64 k) := HK.out.cell HC0.out (fun f => f)
      clear hk13
      go_upto_region 4 with fail
      rw [← hw3, ← hb8]
      clear hw3 hb8
      by_cases h1 : k = 1
      · subst h1
        go_wp2_with fail
        go_ret
        exact fdsA_row rfl HK.out _ rfl
      by_cases h3 : k = 3
      · subst h3
        go_wp2_with fail
        go_ret
        exact fdsA_row rfl HK.out _ rfl
      by_cases h4 : k = 4
      · subst h4
        go_wp2_with fail
        go_ret
        exact fdsA_row rfl HK.out _ rfl
      by_cases h5 : k = 5
      · subst h5
        go_wp2_with fail
        go_ret
        exact fdsA_row rfl HK.out _ rfl
      by_cases h6 : k = 6
      · subst h6
        go_wp2_with fail
        go_ret
        exact fdsA_row rfl HK.out _ rfl
      by_cases h7 : k = 7
      · subst h7
        go_wp2_with fail
        go_ret
        exact fdsA_row rfl HK.out _ rfl
      by_cases h8 : k = 8
      · subst h8
        go_wp2_with fail
        go_ret
        exact fdsA_row rfl HK.out _ rfl
      by_cases h9 : k = 9
      · subst h9
        go_wp2_with fail
        go_ret
        exact fdsA_row rfl HK.out _ rfl
      by_cases h10 : k = 10
      · subst h10
        go_wp2_with fail
        go_ret
        exact fdsA_row rfl HK.out _ rfl
      by_cases h11 : k = 11
      · subst h11
        go_wp2_with fail
        go_ret
        exact fdsA_row rfl HK.out _ rfl
      have HN : Hid (fdQ k = []) := hid (by
        unfold fdQ
        rw [if_neg h1, if_neg h3, if_neg h4, if_neg (by omega), if_neg h7, if_neg (by omega), if_neg h10, if_neg h11])
      have e1 : (k == 1) = false := by simp; omega
      have d1 : decide (k = 1) = false := by simp; omega
      have e3 : (k == 3) = false := by simp; omega
      have d3 : decide (k = 3) = false := by simp; omega
      have e4 : (k == 4) = false := by simp; omega
      have d4 : decide (k = 4) = false := by simp; omega
      have e5 : (k == 5) = false := by simp; omega
      have d5 : decide (k = 5) = false := by simp; omega
      have e6 : (k == 6) = false := by simp; omega
      have d6 : decide (k = 6) = false := by simp; omega
      have e7 : (k == 7) = false := by simp; omega
      have d7 : decide (k = 7) = false := by simp; omega
      have e8 : (k == 8) = false := by simp; omega
      have d8 : decide (k = 8) = false := by simp; omega
      have e9 : (k == 9) = false := by simp; omega
      have d9 : decide (k = 9) = false := by simp; omega
      have e10 : (k == 10) = false := by simp; omega
      have d10 : decide (k = 10) = false := by simp; omega
      have e11 : (k == 11) = false := by simp; omega
      have d11 : decide (k = 11) = false := by simp; omega
      clear h1 h3 h4 h5 h6 h7 h8 h9 h10 h11
      go_wp2_with fail
      go_ret
      exact fdsA_nil HN.out HK.out

end Go.Proofs.Ytaefgnakdadgeaa
