/-
  A writer and a reader side by side; the law's 'awake'.
-/
import Derived.Test.YtlbolkifdghhnaaReader
namespace Go.Proofs.Ytlbolkifdghhnaa
open Go.RowKit

/-- Blocks from N on. -/
def Above (N k : Nat) : Prop := N ≤ k

structure Two (w0 w : World) (p : Nat) (s : Value) (X c q : Nat) (t : Value) (bs : List Nat) (g : Nat) : Prop where
  wr : Wr w p s X c
  rd : St w q t bs g
  dis : ∀ k, Fp q t k → ¬ Fp p s k
  ap : ∀ k, Fp p s k → w0.heap.size ≤ k
  aq : ∀ k, Fp q t k → w0.heap.size ≤ k
  kept : Kept (Above w0.heap.size) w0 w

theorem Two.put {w0 w w' : World} {p X X' c c' q g : Nat} {s s' t : Value} {bs : List Nat} (h : Two w0 w p s X c q t bs g) (hw : Wr w' p s' X' c') (hk : Kept (Fp p s) w w') (hg : Grew w s s') : Two w0 w' p s' X' c' q t bs g := by
  have hsz := h.kept.size
  refine ⟨hw, h.rd.kept hk h.dis, ?_, ?_, h.aq, h.kept.trans hk (fun _ _ e => e) (fun x _ e => h.ap x e)⟩
  · intro k hk1 hk2
    rcases hk2 with e | e
    · exact h.dis k hk1 (.inl e)
    · rcases hg with e' | e'
      · exact h.dis k hk1 (.inr (by rw [← e', e]))
      · have := e' k e; have := h.rd.fp_lt hk1; omega
  · intro k hk2
    rcases hk2 with e | e
    · exact h.ap k (.inl e)
    · rcases hg with e' | e'
      · exact h.ap k (.inr (by rw [← e', e]))
      · have := e' k e; omega

theorem Two.take {w0 w w' : World} {p X c q g g' : Nat} {s t : Value} {bs : List Nat} (h : Two w0 w p s X c q t bs g) (hr : St w' q t bs g') (hk : Kept (· = q) w w') : Two w0 w' p s X c q t bs g' := by
  refine ⟨h.wr.kept hk (fun k hk1 e => h.dis q (.inl rfl) (by rw [← e]; exact hk1)), hr, h.dis, h.ap, h.aq, h.kept.trans hk (fun _ _ e => e) (fun x _ e => h.aq x (.inl e))⟩

theorem Two.draw {w0 w : World} {p X c q g : Nat} {s t : Value} {bs : List Nat} (h : Two w0 w p s X c q t bs g) (m : Nat) : Two w0 (w.drewN m) p s X c q t bs g :=
  ⟨h.wr.kept ((Kept.refl (fun _ => False) w).drewN m) (fun _ _ e => e), h.rd.drewN m, h.dis, h.ap, h.aq, h.kept.drewN m⟩

theorem Two.fresh {w0 w w' : World} {p X c q g : Nat} {s t : Value} {bs : List Nat} (h : Two w0 w p s X c q t bs g) (hk : Kept (fun _ => False) w w') : Two w0 w' p s X c q t bs g :=
  ⟨h.wr.kept hk (fun _ _ e => e), h.rd.kept hk (fun _ _ e => e), h.dis, h.ap, h.aq, h.kept.trans hk (fun _ _ e => e) (fun _ _ e => e.elim)⟩

theorem kept_below {w0 w : World} (h : Kept (Above w0.heap.size) w0 w) : Below w0.heap.size w0 w := h.below (Nat.le_refl _) (fun x hx e => by unfold Above at e; omega)

theorem below_kept {w0 w : World} (h : Below w0.heap.size w0 w) (F : Nat → Prop) : Kept F w0 w := Kept.ofBelow h

theorem src_lit2 (w : World) : Src (w.alloc (.cells #[.int .u8 180, .int .u8 1] 5)) (fun k => k = w.heap.size) (.slice (some ⟨w.heap.size, 0, none⟩) 2 2) [180, 1] := by
  refine ⟨_, _, rfl, fun _ => ⟨_, _, rfl, rfl, fun j hj => ?_⟩⟩
  match j, hj with
  | 0, _ => simp
  | 1, _ => simp

theorem src_lit1 (w : World) : Src (w.alloc (.cells #[.int .u8 13] 5)) (fun k => k = w.heap.size) (.slice (some ⟨w.heap.size, 0, none⟩) 1 1) [13] := by
  refine ⟨_, _, rfl, fun _ => ⟨_, _, rfl, rfl, fun j hj => ?_⟩⟩
  match j, hj with
  | 0, _ => simp

theorem put_at {V N : Int} (p v n X c : Nat) (s : Value) (w : World) (hV : V = (v : Nat)) (hN : N = (n : Nat)) (h : n ≤ 32) (hv : v < 2 ^ n) (hw : Wr w p s X c) (hc : c ≤ 1000000000000) :
    Calls Try.prog 11 #[.pointer (some ⟨p, 0, none⟩), .int .u32 V, .int .i64 N] w fun e w' => e = .returned (.int .i64 0) ∧
      ∃ s', Wr w' p s' (X + v * 2 ^ c) (c + n) ∧ Kept (Fp p s) w w' ∧ Grew w s s' := by
  subst hV hN; exact put_good p v n X c s w h hv hw hc

theorem put_wide_at {V N : Int} (p v n : Nat) (w : World) (hV : V = (v : Nat)) (hN : N = (n : Nat)) (h : n ≤ 32) (hv : 2 ^ n ≤ v) :
    Calls Try.prog 11 #[.pointer (some ⟨p, 0, none⟩), .int .u32 V, .int .i64 N] w fun e w' => e = .returned (.int .i64 1) ∧ w' = w := by
  subst hV hN; exact put_wide p v n w h hv

theorem take_at {N V : Int} (p c n : Nat) (s : Value) (bs : List Nat) (w : World) (hN : N = (n : Nat)) (h : St w p s bs c) (hlen : bs.length ≤ 100000000000) (hn : n ≤ 32) (hm : c + n ≤ 8 * bs.length) (hV : V = (n256 bs / 2 ^ c % 2 ^ n : Nat)) :
    Calls Try.prog 28 #[.pointer (some ⟨p, 0, none⟩), .int .i64 N] w fun e w' => e = .returned (.tuple #[.int .u32 V, .int .i64 0]) ∧
      St w' p s bs (c + n) ∧ Kept (· = p) w w' := by
  subst hV hN; exact take_good p c n s bs w h hlen hn hm

theorem take_end_at {N : Int} (p c n : Nat) (s : Value) (bs : List Nat) (w : World) (hN : N = (n : Nat)) (h : St w p s bs c) (hc : c ≤ 8 * bs.length) (hlen : bs.length ≤ 100000000000) (hn : n ≤ 32) (hm : 8 * bs.length < c + n) :
    Calls Try.prog 28 #[.pointer (some ⟨p, 0, none⟩), .int .i64 N] w fun e w' => e = .returned (.tuple #[.int .u32 0, .int .i64 10]) ∧ ∃ m, w' = w.drewN m := by
  subst hN; exact take_end p c n s bs w h hc hlen hn hm

set_option maxHeartbeats 1000000 in
theorem awake_any (w : World) :
    Calls Try.prog 19 #[] w fun e w' => e = .returned (.bool true) ∧ Below w.heap.size w w' := by
  go_enter Try.func19, Try.ntmps19
  go_wp2_with fail
  refine (newWriter_any _).mono ?_
  rintro e w1 ⟨rfl, hw1, hk1, hs1⟩
  have hs1' : w.heap.size < w1.heap.size := by omega
  clear hs1
  go_wp2_with fail
  have hsrc := src_lit2 w1
  refine (newReader_any _ _ [180, 1] _ hsrc (by simp) (by simp)).mono ?_
  rintro e w2 ⟨q, t, rfl, hr2, hk2, hf2⟩
  have T2 : Hid (Two w w2 w.heap.size (.slice none 0 0) 0 0 q t [180, 1] 0) := by
    refine ⟨(hw1.kept ((Kept.refl (fun _ => False) w1).alloc _) (fun _ _ e => e)).kept hk2 (fun _ _ e => e), hr2, ?_, ?_, ?_, ?_⟩
    · intro k h1 h2
      have := hf2 k h1
      rcases h2 with e | e
      · simp at this; omega
      · cases e
    · intro k h2
      rcases h2 with e | e
      · omega
      · cases e
    · intro k h2; have := hf2 k h2; simp at this; omega
    · exact ((hk1.alloc _).trans hk2 (H := Above w.heap.size) (fun _ _ e => e.elim) (fun _ _ e => e.elim))
  clear hr2 hk2 hf2 hsrc hw1 hk1 hs1'
  go_wp2_with fail
  refine (put_at w.heap.size 5 3 _ _ _ _ rfl rfl (by omega) (by omega) T2.out.wr (by omega)).mono ?_
  rintro e w3 ⟨rfl, s3, hw3, hk3, hg3⟩
  have T3 : Hid (Two w w3 w.heap.size s3 5 3 q t [180, 1] 0) := T2.out.put hw3 hk3 hg3
  clear T2 hw3 hk3 hg3
  go_wp2_with fail
  refine (put_at w.heap.size 1 1 _ _ _ _ rfl rfl (by omega) (by omega) T3.out.wr (by omega)).mono ?_
  rintro e w4 ⟨rfl, s4, hw4, hk4, hg4⟩
  have T4 : Hid (Two w w4 w.heap.size s4 13 4 q t [180, 1] 0) := T3.out.put hw4 hk4 hg4
  clear T3 hw4 hk4 hg4
  go_wp2_with fail
  refine (put_wide_at w.heap.size 8 3 _ rfl rfl (by omega) (by omega)).mono ?_
  rintro e w5 ⟨rfl, rfl⟩
  go_wp2_with fail
  refine (take_at q 0 2 t [180, 1] _ rfl T4.out.rd (by simp) (by omega) (by simp) (V := 0) (by decide)).mono ?_
  rintro e w6 ⟨rfl, hr6, hk6⟩
  have T6 : Hid (Two w w6 w.heap.size s4 13 4 q t [180, 1] 2) := T4.out.take hr6 hk6
  clear T4 hr6 hk6
  go_wp2_with fail
  refine (take_at q 2 4 t [180, 1] _ rfl T6.out.rd (by simp) (by omega) (by simp) (V := 13) (by decide)).mono ?_
  rintro e w7 ⟨rfl, hr7, hk7⟩
  have T7 : Hid (Two w w7 w.heap.size s4 13 4 q t [180, 1] 6) := T6.out.take hr7 hk7
  clear T6 hr7 hk7
  go_wp2_with fail
  refine (take_at q 6 3 t [180, 1] _ rfl T7.out.rd (by simp) (by omega) (by simp) (V := 6) (by decide)).mono ?_
  rintro e w8 ⟨rfl, hr8, hk8⟩
  have T8 : Hid (Two w w8 w.heap.size s4 13 4 q t [180, 1] 9) := T7.out.take hr8 hk8
  clear T7 hr8 hk8
  go_wp2_with fail
  refine (take_end_at q 9 8 t [180, 1] _ rfl T8.out.rd (by simp) (by simp) (by omega) (by simp)).mono ?_
  rintro e w9 ⟨rfl, m9, rfl⟩
  have T9 : Hid (Two w (w8.drewN m9) w.heap.size s4 13 4 q t [180, 1] 9) := T8.out.draw m9
  clear T8
  go_wp2_with fail
  refine (len_any _ _ _ _ _ T9.out.wr).mono ?_
  rintro e w10 ⟨rfl, rfl⟩
  go_wp2_with fail
  refine (wbytes_any _ _ _ _ _ T9.out.wr (by omega)).mono ?_
  rintro e w11 ⟨g, bs, rfl, hrow, hb8, hbX, hbl, hk11, hg11⟩
  have hbs : bs = [13] := n256_inj bs [13] (by simpa using hbl) hb8 (by simp) (by rw [hbX]; rfl)
  subst hbs
  have T11 : Hid (Two w w11 w.heap.size s4 13 4 q t [180, 1] 9) := T9.out.fresh hk11
  have HR : Hid (Row w11 (.slice (some ⟨g, 0, none⟩) 1 1) [13]) := hrow
  clear T9 hrow hb8 hbX hbl hk11 hg11
  go_wp2_with fail
  refine (keepBytes_any _ _ _ _ [13] [13] _ ((Src.ofRow HR.out).kept ((Kept.refl (fun _ => False) w11).alloc _) (fun _ _ _ e => e)) (src_lit1 w11) (by simp) (by simp)).mono ?_
  rintro e w12 ⟨rfl, m12, rfl⟩
  have T12 : Hid (Two w ((w11.alloc (.cells #[.int .u8 13] 5)).drewN m12) w.heap.size s4 13 4 q t [180, 1] 9) := (T11.out.fresh ((Kept.refl (fun _ => False) w11).alloc _)).draw m12
  clear T11 HR
  go_wp2_with fail
  refine (left_any q 9 t [180, 1] _ T12.out.rd (by simp) (by simp)).mono ?_
  rintro e w13 ⟨rfl, m13, rfl⟩
  have T13 : Hid (Two w _ w.heap.size s4 13 4 q t [180, 1] 9) := T12.out.draw m13
  clear T12
  go_wp2_with fail
  go_ret
  have hk := T13.out.kept
  rw [drewN_add] at hk
  exact ⟨rfl, kept_below hk⟩

end Go.Proofs.Ytlbolkifdghhnaa
