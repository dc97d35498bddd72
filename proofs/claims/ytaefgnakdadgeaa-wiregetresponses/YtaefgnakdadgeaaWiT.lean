/-
  Layer 19: the document's examples.
-/
import Derived.Test.YtaefgnakdadgeaaWiS
import Derived.Test.YtaefgnakdadgeaaReader
import Derived.BigQuiet
namespace Go.Proofs.Ytaefgnakdadgeaa
open Go.RowKit

theorem Row.room19 {w : World} {v : Value} {bs : List Nat} (h : Row w v bs) : ∀ a n c, v = .slice a n c → n ≤ c := by
  intro a n c e
  rcases h.2 with ⟨e', hn⟩ | ⟨g, cap, cur, e', _, _, hnc, _⟩
  · rw [e] at e'; injection e' with _ e1 e2; omega
  · rw [e] at e'; injection e' with _ e1 e2; omega

theorem Fresh.in19 {w w' : World} {v : Value} {bs : List Nat} (h : Fresh w w' v bs) (hl : bs.length ≤ 2000000) (hb : ∀ b ∈ bs, b < 256) : ∃ a n c, v = .slice a n c ∧ n = bs.length ∧ In19 w' a n c bs := by
  obtain ⟨a, c, e, _⟩ := h.row.shape
  refine ⟨a, _, c, e, rfl, ?_, Row.room19 h.row _ _ _ e, hl, hb⟩
  rw [← e]
  exact (Src.ofRow h.row).mono (fun k hk => h.row.lt hk)

def ex1 : Rq := ⟨4, 7, ⟨#[97]⟩, ⟨#[]⟩, ⟨#[]⟩, 0, 0, ⟨#[]⟩⟩
def ex2 : Rq := ⟨2, 1, ⟨#[]⟩, ⟨#[]⟩, ⟨#[]⟩, 0, 0, ⟨#[]⟩⟩
def ex3 : Rs := ⟨140, 0, 0, 0, ⟨#[]⟩, 0, 0⟩

theorem ex1_err : perr ex1 = 0 := by decide +kernel
theorem ex1_byt : pqB ex1 = [4, 7, 0, 0, 0, 1, 0, 97] := by decide +kernel
theorem ex1_got : gotQ [4, 7, 0, 0, 0, 1, 0, 97] = some ex1 := by rfl
theorem ex14 : gotQ [14] = none := by rfl
theorem ex2_err : perr ex2 = 1 := by decide +kernel
theorem ex3_err : rerr ex3 [⟨#[120]⟩] = 0 := by decide +kernel
theorem ex3_byt : prB ex3 [⟨#[120]⟩] = [140, 0, 0, 0, 0, 0, 0, 0, 0, 0, 0, 0, 0, 0, 0, 0, 0, 0, 0, 0, 0, 0, 0, 0, 1, 1, 120] := by decide +kernel
theorem ex3_got : gotR [140, 0, 0, 0, 0, 0, 0, 0, 0, 0, 0, 0, 0, 0, 0, 0, 0, 0, 0, 0, 0, 0, 0, 0, 1, 1, 120] = some (ex3, [⟨#[120]⟩]) := by rfl

theorem Src.mono19 {w : World} {I J : Nat → Prop} {v : Value} {bs : List Nat} (h : Src w I v bs) (hJ : ∀ k, I k → J k) : Src w J v bs := by
  obtain ⟨ao, c, e, h2⟩ := h
  exact ⟨ao, c, e, fun hne => by obtain ⟨b, o, h3, h4, h5⟩ := h2 hne; exact ⟨b, o, h3, hJ _ h4, h5⟩⟩

theorem bytes19 (w : World) (va vb : Value) (I J : Nat → Prop) (xs ys : List Nat) (ha : Src w I va xs) (hb : Src w J vb ys) (hx : xs.length ≤ 1000000000000) (hy : ys.length ≤ 1000000000000) :
    Calls Try.prog 13 #[va, vb] w fun e w' => e = .returned (.bool (decide (xs = ys))) ∧ Same w w' :=
  (keepBytes_any va vb I J xs ys w ha hb hx hy).mono (fun e w' h => by obtain ⟨h1, m, rfl⟩ := h; exact ⟨h1, (Kept.refl _ w).drewN m⟩)

/-- A row that is written out comes in. -/
theorem in19_lit (w : World) (cs : List Nat) (n : Nat) (hn : cs.length = n) (hm : n ≤ 1000) (hb : ∀ b ∈ cs, b < 256) : In19 (w.alloc (.cells (cs.map byteV).toArray 5)) (some ⟨w.heap.size, 0, none⟩) n n cs := by
  have h := fresh_lit w w (Kept.refl _ w) cs n hn hm
  exact ⟨(Src.ofRow h.row).mono19 (fun k hk => h.row.lt hk), Nat.le_refl _, by omega, hb⟩

set_option maxRecDepth 100000 in
set_option maxHeartbeats 1000000 in
theorem awake19 (w : World) : Calls Try.prog 12 #[] w fun e w' => e = .returned (.bool true) ∧ Same w w' := by
  have HP1 := putreq_any w ex1
  rw [ex1_err, ex1_byt] at HP1
  go_enter Try.func12, Try.ntmps12
  go_wp2_with fail
  refine HP1.mono ?_
  rintro e w1 ⟨v1, rfl, hf1⟩
  obtain ⟨a1, n1, c1, rfl, hn1, hi1⟩ := hf1.in19 (by decide) (by decide)
  have hn8 : n1 = 8 := hn1
  subst hn8
  have HI1 := hid hi1
  have HK1 := hid hf1.kept
  have HG1 := getreq_any w1 a1 8 c1 _ hi1
  rw [show gqV [4, 7, 0, 0, 0, 1, 0, 97] = ex1 by unfold gqV; rw [ex1_got]; rfl, show gqE [4, 7, 0, 0, 0, 1, 0, 97] = 0 by unfold gqE; rw [ex1_got]] at HG1
  clear hf1 hn1 hi1 HP1
  go_wp2_with fail
  refine HG1.mono ?_
  rintro e w2 ⟨rfl, hk2⟩
  have HK2 := hid (Same.trans HK1.out hk2)
  have HI2 := hid (HI1.out.kept hk2)
  clear hk2 HG1
  obtain ⟨p, hp⟩ : ∃ b, b = w2.heap.size := ⟨_, rfl⟩
  obtain ⟨W3, hW3⟩ : ∃ W, W = w2.alloc (.cells #[.int .i64 4, .int .i64 7, .string ⟨#[97]⟩, .string ⟨#[]⟩, .string ⟨#[]⟩, .int .i64 0, .int .i64 0, .string ⟨#[]⟩] 24) := ⟨_, rfl⟩
  obtain ⟨W4, hW4⟩ : ∃ W, W = W3.alloc (.cells #[.int .u8 14] 5) := ⟨_, rfl⟩
  have hp1 : W3.heap.size = p + 1 := by rw [hW3, hp]; simp
  have hk23 : Same w2 W3 := by rw [hW3]; exact (Kept.refl _ _).alloc _
  have hk34 : Same W3 W4 := by rw [hW4]; exact (Kept.refl _ _).alloc _
  have HK4 := hid (Same.trans HK2.out (Same.trans hk23 hk34))
  have HI4 := hid (HI2.out.kept (Same.trans hk23 hk34))
  have hob3 : Ob W3 p 24 ex1.cs := by rw [hW3, hp]; exact Blk.new w2 (rqV ex1) _
  have HO4 := hid (hob3.kept hk34 (fun f => f))
  have hi14 : In19 W4 (some ⟨p + 1, 0, none⟩) 1 1 [14] := by rw [hW4, ← hp1]; exact in19_lit W3 [14] 1 rfl (by decide) (by decide)
  have HG2 := getreq_any W4 _ 1 1 _ hi14
  rw [show gqV [14] = zeroQ 0 by unfold gqV; rw [ex14]; rfl, show gqE [14] = 191 by unfold gqE; rw [ex14]; rfl] at HG2
  clear hp1 hk23 hk34 hob3 hi14
  unfold ex1 rqV
  go_wp2_with fail
  rw [← hp, ← hW3, ← hW4]
  clear hW3 hW4 hp
  refine HG2.mono ?_
  rintro e w5 ⟨rfl, hk5⟩
  have HK5 := hid (Same.trans HK4.out hk5)
  have HI5 := hid (HI4.out.kept hk5)
  have HO5 := hid (HO4.out.kept hk5 (fun f => f))
  clear hk5 HG2
  obtain ⟨W6, hW6⟩ : ∃ W, W = w5.alloc (.cells #[.int .i64 0, .int .i64 0, .string ⟨#[]⟩, .string ⟨#[]⟩, .string ⟨#[]⟩, .int .i64 0, .int .i64 0, .string ⟨#[]⟩] 24) := ⟨_, rfl⟩
  have hk56 : Same w5 W6 := by rw [hW6]; exact (Kept.refl _ _).alloc _
  have HK6 := hid (Same.trans HK5.out hk56)
  have HI6 := hid (HI5.out.kept hk56)
  have HO6 := hid (HO5.out.kept hk56 (fun f => f))
  have HP2 := putreq_any W6 ex2
  rw [ex2_err] at HP2
  clear hk56
  unfold zeroQ rqV
  go_wp2_with fail
  rw [← hW6]
  clear hW6
  refine HP2.mono ?_
  rintro e w7 ⟨v7, rfl, hf7⟩
  have HK7 := hid (Same.trans HK6.out hf7.kept)
  have HI7 := hid (HI6.out.kept hf7.kept)
  have HO7 := hid (HO6.out.kept hf7.kept (fun f => f))
  clear hf7 HP2
  obtain ⟨W8, hW8⟩ : ∃ W, W = w7.alloc (.cells #[.string ⟨#[120]⟩] 9) := ⟨_, rfl⟩
  obtain ⟨xb, hxb⟩ : ∃ b, b = w7.heap.size := ⟨_, rfl⟩
  have hk78 : Same w7 W8 := by rw [hW8]; exact (Kept.refl _ _).alloc _
  have HK8 := hid (Same.trans HK7.out hk78)
  have HI8 := hid (HI7.out.kept hk78)
  have HO8 := hid (HO7.out.kept hk78 (fun f => f))
  have hs8 : SrcC 1 nsE W8 (fun k => k < W8.heap.size) (.slice (some ⟨xb, 0, none⟩) 1 1) [⟨#[120]⟩] := by
    refine ⟨_, _, rfl, Nat.le_refl _, fun _ => ⟨xb, 0, rfl, by rw [hW8, hxb]; simp, fun j hj i hi => ?_⟩⟩
    have hb : Blk W8 xb #[.string ⟨#[120]⟩] 9 := by rw [hW8, hxb]; exact Blk.new _ _ _
    simp only [List.length_singleton] at hj
    obtain rfl : j = 0 := by omega
    obtain rfl : i = 0 := by omega
    exact hb.cell 0
  have HP3 := putres_any W8 ex3 _ 1 1 _ hs8
  rw [ex3_err, ex3_byt] at HP3
  clear hk78 hs8
  go_wp2_with fail
  rw [← hxb, ← hW8]
  clear hxb hW8
  refine HP3.mono ?_
  rintro e w9 ⟨v9, rfl, hf9⟩
  obtain ⟨a9, n9, c9, rfl, hn9, hi9⟩ := hf9.in19 (by decide) (by decide)
  have hn27 : n9 = 27 := hn9
  subst hn27
  have HK9 := hid (Same.trans HK8.out hf9.kept)
  have HI9 := hid (HI8.out.kept hf9.kept)
  have HO9 := hid (HO8.out.kept hf9.kept (fun f => f))
  have HG3 := getres_any w9 a9 27 c9 _ hi9
  unfold GrA at HG3
  rw [show grS [140, 0, 0, 0, 0, 0, 0, 0, 0, 0, 0, 0, 0, 0, 0, 0, 0, 0, 0, 0, 0, 0, 0, 0, 1, 1, 120] = ex3 by unfold grS; rw [ex3_got], show grE [140, 0, 0, 0, 0, 0, 0, 0, 0, 0, 0, 0, 0, 0, 0, 0, 0, 0, 0, 0, 0, 0, 0, 0, 1, 1, 120] = 0 by unfold grE; rw [ex3_got], show grL [140, 0, 0, 0, 0, 0, 0, 0, 0, 0, 0, 0, 0, 0, 0, 0, 0, 0, 0, 0, 0, 0, 0, 0, 1, 1, 120] = [⟨#[120]⟩] by unfold grL; rw [ex3_got]] at HG3
  clear hn9 hf9 hi9 HP3
  go_wp2_with fail
  refine HG3.mono ?_
  rintro e w10 ⟨ao, n10, c10, rfl, hrow, hk10⟩
  obtain ⟨ra, rc, hv10, hne10, _⟩ := hrow.shape
  simp only [Value.slice.injEq, List.length_singleton] at hv10
  obtain ⟨rfl, rfl, rfl⟩ := hv10
  obtain ⟨rg, rfl⟩ := hne10 (by simp)
  have hrc : w10.cell? ⟨rg, 0, none⟩ = some (.string ⟨#[120]⟩) := by
    have := RowC.cell nsE_ok hrow 0 0 (by decide) (by decide)
    simpa [nsE] using this
  have HK10 := hid (Same.trans HK9.out hk10)
  have HI10 := hid (HI9.out.kept hk10)
  have HO10 := hid (HO9.out.kept hk10 (fun f => f))
  clear hrow hk10 hne10 HG3
  obtain ⟨W11, hW11⟩ : ∃ W, W = w10.alloc (.cells #[.int .i64 140, .int .i64 0, .int .i64 0, .int .i64 0, .string ⟨#[]⟩, .slice (some ⟨rg, 0, none⟩) 1 c10, .int .i64 0, .int .i64 0] 40) := ⟨_, rfl⟩
  obtain ⟨rb, hrb⟩ : ∃ b, b = w10.heap.size := ⟨_, rfl⟩
  obtain ⟨W12, hW12⟩ : ∃ W, W = W11.alloc (.cells #[.int .u8 4, .int .u8 7, .int .u8 0, .int .u8 0, .int .u8 0, .int .u8 1, .int .u8 0, .int .u8 97] 5) := ⟨_, rfl⟩
  have hp1 : W11.heap.size = rb + 1 := by rw [hW11, hrb]; simp
  have hk1 : Same w10 W11 := by rw [hW11]; exact (Kept.refl _ _).alloc _
  have hk2 : Same W11 W12 := by rw [hW12]; exact (Kept.refl _ _).alloc _
  have HK12 := hid (Same.trans HK10.out (Same.trans hk1 hk2))
  have hi12 := HI10.out.kept (Same.trans hk1 hk2)
  have HO12 := hid (HO10.out.kept (Same.trans hk1 hk2) (fun f => f))
  have hr12 := (Same.trans hk1 hk2).cell hrc (fun f => f)
  have hrb11 : Blk W11 rb #[.int .i64 140, .int .i64 0, .int .i64 0, .int .i64 0, .string ⟨#[]⟩, .slice (some ⟨rg, 0, none⟩) 1 c10, .int .i64 0, .int .i64 0] 40 := by rw [hW11, hrb]; exact Blk.new _ _ _
  have HRB12 := hid (hrb11.kept hk2 (fun f => f))
  have hlit : In19 W12 (some ⟨rb + 1, 0, none⟩) 8 8 [4, 7, 0, 0, 0, 1, 0, 97] := by rw [hW12, ← hp1]; exact in19_lit W11 [4, 7, 0, 0, 0, 1, 0, 97] 8 rfl (by decide) (by decide)
  have HBY := bytes19 W12 _ _ _ _ _ _ hi12.src hlit.src (by decide) (by decide)
  rw [decide_eq_true rfl] at HBY
  clear hp1 hk1 hk2 hi12 hrc hrb11 hlit
  unfold ex3 rsV
  go_wp2_with fail
  rw [← hrb, ← hW11, ← hW12]
  clear hrb hW11 hW12
  refine HBY.mono ?_
  rintro e w13 ⟨rfl, hk13⟩
  have HK13 := hid (Same.trans HK12.out hk13)
  have hr13 := hk13.cell hr12 (fun f => f)
  obtain ⟨t0, t1, t2, t3, t4, t5, t6, t7⟩ := (HO12.out.kept hk13 (fun f => f)).eight
  have hb13 := HRB12.out.kept hk13 (fun f => f)
  have s0 : w13.cell? ⟨rb, 0, none⟩ = some (.int .i64 140) := hb13.cell 0
  have s5 : w13.cell? ⟨rb, 5, none⟩ = some (.slice (some ⟨rg, 0, none⟩) 1 c10) := hb13.cell 5
  simp only [ex1] at t0 t1 t2 t3 t4 t5 t6 t7
  clear hk13 hr12 hb13 HBY
  go_wp2_with fail
  go_ret
  exact ⟨rfl, HK13.out⟩

end Go.Proofs.Ytaefgnakdadgeaa
