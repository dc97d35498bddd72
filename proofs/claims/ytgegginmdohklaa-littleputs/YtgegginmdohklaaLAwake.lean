/-
  The law's 'awake': the document's examples.
-/
import Derived.Test.YtgegginmdohklaaLGets
import Derived.Test.YtgegginmdohklaaLSum
import Derived.Lib.SlBytesConst
namespace Go.Proofs.Ytgegginmdohklaa
open Go.RowKit Go.Shelf

/-- Blocks from N on. -/
def Above (N k : Nat) : Prop := N ≤ k

theorem Fresh.src {w w' : World} {v : Value} {bs : List Nat} (h : Fresh w w' v bs) : Src w' (Above w.heap.size) v bs := (Src.ofRow h.row).mono h.new

theorem Row.room {w : World} {v : Value} {bs : List Nat} (h : Row w v bs) : ∀ a n c, v = .slice a n c → n ≤ c := by
  intro a n c e
  rcases h.2 with ⟨e', hn⟩ | ⟨g, cap, cur, e', _, _, hnc, _⟩
  · rw [e] at e'; injection e' with _ e1 e2; omega
  · rw [e] at e'; injection e' with _ e1 e2; omega

theorem Fresh.bel {w0 w1 : World} {v : Value} {bs : List Nat} {w : World} (h : Fresh w w0 v bs) (hb : Below w0.heap.size w0 w1) : Fresh w w1 v bs := h.later (F := fun _ => False) (Kept.ofBelow hb) (fun _ e => e.elim)

theorem Below.ofFresh {w w' : World} {v : Value} {bs : List Nat} (h : Fresh w w' v bs) : Below w.heap.size w w' := h.kept.below (Nat.le_refl _) (fun _ _ e => e)

/-- A literal row of bytes. -/
theorem src_lit (w : World) (cs : List Nat) (n : Nat) (hn : cs.length = n) : Src (w.alloc (.cells (cs.map byteV).toArray 5)) (fun k => k = w.heap.size) (.slice (some ⟨w.heap.size, 0, none⟩) n n) cs := by
  subst hn
  refine ⟨_, _, rfl, fun _ => ⟨_, _, rfl, rfl, fun j hj => ?_⟩⟩
  simp [byteV, hj]

theorem get16_at {V E : Int} (w : World) (v : Value) (I : Nat → Prop) (cs : List Nat) (hsrc : Src w I v cs) (hroom : ∀ a n c, v = .slice a n c → n ≤ c) (hb : ∀ b ∈ cs, b < 256) (hlen : cs.length ≤ 100000000) (z : Int) (hV : V = (gotV cs z 2 : Nat)) (hE : E = gotE cs.length z 2) :
    Calls Try.prog 17 #[v, .int .i64 z] w fun e w' => e = .returned (.tuple #[.int .u16 V, .int .i64 E]) ∧ Below w.heap.size w w' := by
  subst hV hE; exact get16_any w v I cs hsrc hroom hb hlen z

theorem sum_at {V : Int} (w : World) (v : Value) (I : Nat → Prop) (cs : List Nat) (hsrc : Src w I v cs) (hb : ∀ b ∈ cs, b < 256) (hlen : cs.length ≤ 100000000) (hV : V = (more 0 cs : Nat)) :
    Calls Try.prog 21 #[v] w fun e w' => e = .returned (.int .u32 V) ∧ Below w.heap.size w w' := by
  subst hV
  refine (lsum_any w v I cs hsrc hb hlen).mono ?_
  rintro e w' ⟨rfl, rfl⟩
  exact ⟨rfl, Below.refl _ _⟩

theorem more_at {S V : Int} (w : World) (v : Value) (I : Nat → Prop) (cs : List Nat) (s : Nat) (hsrc : Src w I v cs) (hb : ∀ b ∈ cs, b < 256) (hlen : cs.length ≤ 100000000) (hS : S = (s : Nat)) (hs : s < 4294967296) (hV : V = (more s cs : Nat)) :
    Calls Try.prog 22 #[.int .u32 S, v] w fun e w' => e = .returned (.int .u32 V) ∧ Below w.heap.size w w' := by
  subst hV hS
  refine (lmore_any w v I cs hsrc hb s hs hlen).mono ?_
  rintro e w' ⟨rfl, rfl⟩
  exact ⟨rfl, Below.refl _ _⟩

theorem sum9 : more 0 [49, 50, 51, 52, 53, 54, 55, 56, 57] = 3421780262 := by decide +kernel
theorem sum4 : more 0 [49, 50, 51, 52] = 2615402659 := by decide +kernel
theorem sum5 : more 2615402659 [53, 54, 55, 56, 57] = 3421780262 := by decide +kernel

theorem Fresh.alloc {w w' : World} {v : Value} {bs : List Nat} (h : Fresh w w' v bs) (o : Obj) : Fresh w (w'.alloc o) v bs := h.later (F := fun _ => False) ((Kept.refl _ w').alloc o) (fun _ e => e.elim)
theorem Fresh.drewN {w w' : World} {v : Value} {bs : List Nat} (h : Fresh w w' v bs) (m : Nat) : Fresh w (w'.drewN m) v bs := h.later (F := fun _ => False) ((Kept.refl _ w').drewN m) (fun _ e => e.elim)

theorem same_bel (va vb : Value) (I J : Nat → Prop) (xs ys : List Nat) (w : World) (ha : Src w I va xs) (hb : Src w J vb ys) (hx : xs.length ≤ 1000000000000) (hy : ys.length ≤ 1000000000000) :
    Calls Try.prog 15 #[va, vb] w fun e w' => e = .returned (.bool (decide (xs = ys))) ∧ Below w.heap.size w w' := by
  refine (same_any va vb I J xs ys w ha hb hx hy).mono ?_
  rintro e w' ⟨rfl, m, rfl⟩
  exact ⟨rfl, ((Kept.refl (fun _ => False) w).drewN m).below (Nat.le_refl _) (fun _ _ e => e)⟩

theorem cell_mark (w : World) (C : Array Value) (t : TypeId) (fr : Nat × Nat) (j : Nat) : (w.alloc (.cells C t fr)).cell? ⟨w.heap.size, j, none⟩ = C[j]? := by
  have : (w.alloc (.cells C t fr)).heap[w.heap.size]? = some (.cells C t fr) := by
    show (w.heap.push _)[w.heap.size]? = _
    simp
  simp only [World.cell?, this]
  simp

/-- A constant text's bytes. -/
theorem src_mark (w : World) (cs : List Nat) (n : Nat) (fr : Nat × Nat) (hn : cs.length = n) : Src (w.alloc (.cells (cs.map byteV).toArray 5 fr)) (fun k => k = w.heap.size) (.slice (some ⟨w.heap.size, 0, none⟩) n n) cs := by
  subst hn
  refine ⟨_, _, rfl, fun _ => ⟨_, _, rfl, rfl, fun j hj => ?_⟩⟩
  rw [Nat.zero_add, cell_mark]
  simp [byteV, hj]

set_option maxHeartbeats 2000000 in
theorem awake_any (w : World) :
    Calls Try.prog 9 #[] w fun e w' => e = .returned (.bool true) ∧ Below w.heap.size w w' := by
  have kc := fun (w : World) (C : Array Value) (n c : Nat) => Lib.run_convert_bytes_const (P := Try.prog) w 22 5 C n c Try.underlying22 Try.underlying5
  go_enter Try.func9, Try.ntmps9
  go_wp2_with fail
  refine (put16_any _ _ _ [7] (src_lit w [7] 1 rfl) 258 rfl (by omega) (by simp)).mono ?_
  rintro e w1 ⟨va, rfl, ha⟩
  have HA : Hid (Fresh (w.alloc (.cells #[.int .u8 7] 5)) w1 va [7, 2, 1]) := ha
  clear ha
  go_wp2_with fail
  have hnil : Src w1 (fun _ => True) (.slice none 0 0) [] := ⟨_, _, rfl, fun h => absurd rfl h⟩
  refine (put32_any _ _ _ [] hnil 1 rfl (by omega) (by simp)).mono ?_
  rintro e w2 ⟨vb, rfl, hb⟩
  have HB : Hid (Fresh w1 w2 vb [1, 0, 0, 0]) := hb
  have HA2 : Hid (Fresh (w.alloc (.cells #[.int .u8 7] 5)) w2 va [7, 2, 1]) := HA.out.bel (Below.ofFresh hb)
  clear hb hnil HA
  go_wp2_with fail
  refine (get16_at _ _ _ [7, 2, 1] HA2.out.src HA2.out.row.room (by simp) (by simp) 1 (V := 258) (E := 0) (by decide) (by decide)).mono ?_
  rintro e w3 ⟨rfl, hb3⟩
  have HA3 : Hid (Fresh (w.alloc (.cells #[.int .u8 7] 5)) w3 va [7, 2, 1]) := HA2.out.bel hb3
  have HB3 : Hid (Fresh w1 w3 vb [1, 0, 0, 0]) := HB.out.bel hb3
  clear HA2 HB hb3
  go_wp2_with fail
  refine (get16_at _ _ _ [7, 2, 1] HA3.out.src HA3.out.row.room (by simp) (by simp) 2 (V := 0) (E := 20) (by decide) (by decide)).mono ?_
  rintro e w4 ⟨rfl, hb4⟩
  have HA4 : Hid (Fresh (w.alloc (.cells #[.int .u8 7] 5)) w4 va [7, 2, 1]) := HA3.out.bel hb4
  have HB4 : Hid (Fresh w1 w4 vb [1, 0, 0, 0]) := HB3.out.bel hb4
  clear HA3 HB3 hb4
  go_wp2_with fail
  refine (same_bel _ _ _ _ [7, 2, 1] [7, 2, 1] _ (HA4.out.alloc _).src (src_lit w4 [7, 2, 1] 3 rfl) (by simp) (by simp)).mono ?_
  rintro e w5 ⟨rfl, hb5⟩
  have HA5 : Hid (Fresh (w.alloc (.cells #[.int .u8 7] 5)) w5 va [7, 2, 1]) := (HA4.out.alloc _).bel hb5
  have HB5 : Hid (Fresh w1 w5 vb [1, 0, 0, 0]) := (HB4.out.alloc _).bel hb5
  clear HA4 HB4 hb5
  have hd1 : decide ([7, 2, 1] = [7, 2, 1]) = true := by decide
  have hd2 : decide ([1, 0, 0, 0] = [1, 0, 0, 0]) = true := by decide
  go_wp2_with fail
  refine (same_bel _ _ _ _ [1, 0, 0, 0] [1, 0, 0, 0] _ (HB5.out.alloc _).src (src_lit w5 [1, 0, 0, 0] 4 rfl) (by simp) (by simp)).mono ?_
  rintro e w6 ⟨rfl, hb6⟩
  have HA6 : Hid (Fresh (w.alloc (.cells #[.int .u8 7] 5)) w6 va [7, 2, 1]) := (HA5.out.alloc _).bel hb6
  clear HA5 HB5 hb6
  go_wp2_with fail
  refine (sum_at _ _ _ [49, 50, 51, 52, 53, 54, 55, 56, 57] (src_mark w6 _ 9 _ rfl) (by simp) (by simp) (V := 3421780262) (by rw [sum9]; rfl)).mono ?_
  rintro e w7 ⟨rfl, hb7⟩
  have HA7 : Hid (Fresh (w.alloc (.cells #[.int .u8 7] 5)) w7 va [7, 2, 1]) := (HA6.out.alloc _).bel hb7
  clear HA6 hb7
  go_wp2_with fail
  refine (sum_at _ _ _ [49, 50, 51, 52] (src_mark w7 _ 4 _ rfl) (by simp) (by simp) (V := 2615402659) (by rw [sum4]; rfl)).mono ?_
  rintro e w8 ⟨rfl, hb8⟩
  have HA8 : Hid (Fresh (w.alloc (.cells #[.int .u8 7] 5)) w8 va [7, 2, 1]) := (HA7.out.alloc _).bel hb8
  clear HA7 hb8
  go_wp2_with fail
  refine (more_at _ _ _ [53, 54, 55, 56, 57] 2615402659 (src_mark w8 _ 5 _ rfl) (by simp) (by simp) rfl (by decide) (V := 3421780262) (by rw [sum5]; rfl)).mono ?_
  rintro e w9 ⟨rfl, hb9⟩
  have HA9 : Hid (Fresh (w.alloc (.cells #[.int .u8 7] 5)) w9 va [7, 2, 1]) := (HA8.out.alloc _).bel hb9
  clear HA8 hb9
  go_wp2_with fail
  go_ret
  refine ⟨rfl, ?_⟩
  have hk := Kept.trans (H := fun _ => False) ((Kept.refl (fun _ => False) w).alloc (.cells #[.int .u8 7] 5)) HA9.out.kept (fun _ _ e => e) (fun _ _ e => e)
  exact hk.below (Nat.le_refl _) (fun _ _ e => e)

end Go.Proofs.Ytgegginmdohklaa
