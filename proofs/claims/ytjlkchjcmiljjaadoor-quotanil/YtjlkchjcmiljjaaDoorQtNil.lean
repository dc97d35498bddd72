/-
  QuotaNil's walk.
-/
import Derived.Test.YtjlkchjcmiljjaaDoorQtJ
namespace Go.Proofs.YtjlkchjcmiljjaaDoor
open Go.RowKit Go.Maps

theorem Blk.c2' {w : World} {g : Nat} {a b : Value} {t : TypeId} (hb : Blk w g #[a, b] t) {w' : World} (hk : Same w w') : w'.cell? ⟨g, 0, none⟩ = some a ∧ w'.cell? ⟨g, 1, none⟩ = some b :=
  ⟨(hb.kept hk (fun f => f)).cell 0, (hb.kept hk (fun f => f)).cell 1⟩

set_option maxRecDepth 100000 in
set_option maxHeartbeats 2000000 in
theorem nil17 (w : World) (s : ByteArray) (u : Us) (z : Int) : Calls Tryd.prog 7 #[.string s, .agg #[.int .i64 u.b, .int .i64 u.e], .int .i64 z] w fun e w' => e = .returned (.bool true) ∧ Same w w' := by
  obtain ⟨W1, hW1⟩ : ∃ W, W = w.alloc (.cells #[.int .i64 u.b, .int .i64 u.e] 31) := ⟨_, rfl⟩
  obtain ⟨b1, hb1⟩ : ∃ b, b = w.heap.size := ⟨_, rfl⟩
  have HB1 : Hid (Blk W1 b1 #[.int .i64 u.b, .int .i64 u.e] 31) := hid (by rw [hW1, hb1]; exact Blk.new w _ _)
  have HK1 : Hid (Same w W1) := hid (by rw [hW1]; exact (Kept.refl _ w).alloc _)
  have H2 := quse_err W1 (.pointer none) s 3 rfl (fun W _ => qfind_nil W s)
  unfold noU at H2
  go_enter Tryd.func7, Tryd.ntmps7
  go_upto_region 1 with fail
  rw [← hW1, ← hb1]
  clear hW1 hb1
  go_wp2_with fail
  refine H2.mono ?_
  rintro e w2 ⟨rfl, hk2⟩
  obtain ⟨W3, hW3⟩ : ∃ W, W = w2.alloc (.cells #[.int .i64 0, .int .i64 0] 31) := ⟨_, rfl⟩
  obtain ⟨g3, hg3⟩ : ∃ b, b = w2.heap.size := ⟨_, rfl⟩
  have HB3 : Hid (Blk W3 g3 #[.int .i64 0, .int .i64 0] 31) := hid (by rw [hW3, hg3]; exact Blk.new w2 _ _)
  have HK3 : Hid (Same W1 W3) := hid (by rw [hW3]; exact hk2.alloc _)
  have H4 := qleft_err W3 (.pointer none) s 3 rfl (fun W _ => qfind_nil W s)
  unfold noU at H4
  clear hk2 H2
  go_upto_region 3 with fail
  rw [← hW3, ← hg3]
  clear hW3 hg3
  go_wp2_with fail
  refine H4.mono ?_
  rintro e w4 ⟨rfl, hk4⟩
  obtain ⟨W5, hW5⟩ : ∃ W, W = w4.alloc (.cells #[.int .i64 0, .int .i64 0] 31) := ⟨_, rfl⟩
  obtain ⟨g5, hg5⟩ : ∃ b, b = w4.heap.size := ⟨_, rfl⟩
  have HB5 : Hid (Blk W5 g5 #[.int .i64 0, .int .i64 0] 31) := hid (by rw [hW5, hg5]; exact Blk.new w4 _ _)
  have HK35 : Hid (Same W3 W5) := hid (by rw [hW5]; exact hk4.alloc _)
  have HK5 : Hid (Same W1 W5) := hid (Same.trans HK3.out HK35.out)
  have H6 := qres_err W5 (.pointer none) s u 3 rfl (fun W _ => qfind_nil W s)
  unfold usV at H6
  obtain ⟨c0, c1⟩ := HB1.out.c2' HK5.out
  clear hk4 H4
  go_upto_region 4 with fail
  rw [← hW5, ← hg5]
  clear hW5 hg5
  go_wp2_with fail
  refine H6.mono ?_
  rintro e w6 ⟨rfl, hk6⟩
  have HK6 := hid hk6
  have H7 := awake17 w6
  clear hk6 H6 c0 c1
  go_wp2_with fail
  refine H7.mono ?_
  rintro e w7 ⟨rfl, hk7⟩
  have HK7 : Hid (Same W5 w7) := hid (Same.trans HK6.out hk7)
  obtain ⟨c0, c1⟩ := HB1.out.c2' (Same.trans HK5.out HK7.out)
  have H8 := qset_err w7 (.pointer none) s u 3 rfl (fun W _ => qfind_nil W s)
  unfold usV at H8
  clear hk7 H7
  go_wp2_with fail
  refine H8.mono ?_
  rintro e w8 ⟨rfl, hk8⟩
  have HK8 : Hid (Same W5 w8) := hid (Same.trans HK7.out hk8)
  obtain ⟨d0, d1⟩ := HB3.out.c2' (Same.trans HK35.out HK8.out)
  obtain ⟨e0, e1⟩ := HB5.out.c2' HK8.out
  have H9 := qtake_nil w8 z
  clear hk8 H8 c0 c1
  go_wp2_with fail
  refine H9.mono ?_
  rintro e w9 ⟨rfl, hk9⟩
  have HK9 : Hid (Same W5 w9) := hid (Same.trans HK8.out hk9)
  have H10 := qfree_nil w9 z
  clear hk9 H9 d0 d1 e0 e1
  go_wp2_with fail
  refine H10.mono ?_
  rintro e w10 ⟨rfl, hk10⟩
  have HK10 : Hid (Same w w10) := hid (Same.trans HK1.out (Same.trans HK5.out (Same.trans HK9.out hk10)))
  clear hk10 H10
  go_wp2_with fail
  go_ret
  exact ⟨rfl, HK10.out⟩

theorem quotaNil_all (s : ByteArray) (b e : Int) (z : Int) (W : World) (_hs : s.size ≤ maxLen) (_hu : (Lit.int .i64 b).wf = true ∧ (Lit.int .i64 e).wf = true) (_hz : (Lit.int .i64 z).wf = true) (_hT : Mxl W) :
    Calls Tryd.prog 7 #[.string s, .agg #[.int .i64 b, .int .i64 e], .int .i64 z] W fun e W' => e = .returned (.bool true) ∧ Below W.heap.size W W' :=
  (nil17 W s ⟨b, e⟩ z).mono fun _ _ ⟨he, hk⟩ => ⟨he, Kept.below hk (Nat.le_refl _) (fun _ _ f => f)⟩

end Go.Proofs.YtjlkchjcmiljjaaDoor
