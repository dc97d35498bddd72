/-
  Layer 17's law: one step of the script.
-/
import Derived.Test.YtjlkchjcmiljjaaDoorQtZ
namespace Go.Proofs.YtjlkchjcmiljjaaDoor
open Go.RowKit Go.Maps

def owV (o : Ow) : Value := .agg #[.int .i64 o.kind, .string o.tn, .int .i64 o.u.b, .int .i64 o.u.e, .int .i64 o.id]

theorem Blk.c5w {w : World} {g : Nat} {a b c d e : Value} {t : TypeId} (hb : Blk w g #[a, b, c, d, e] t) : w.cell? ⟨g, 0, none⟩ = some a ∧ w.cell? ⟨g, 1, none⟩ = some b ∧ w.cell? ⟨g, 2, none⟩ = some c ∧ w.cell? ⟨g, 3, none⟩ = some d ∧ w.cell? ⟨g, 4, none⟩ = some e :=
  ⟨hb.cell 0, hb.cell 1, hb.cell 2, hb.cell 3, hb.cell 4⟩

theorem useV_ex (xs : List Tn) (S : Sq) (s : ByteArray) : ∃ (u : Us) (z : Int), useV xs S s = .tuple #[.agg #[.int .i64 u.b, .int .i64 u.e], .int .i64 z] := by
  unfold useV
  cases idxT xs s with
  | none => exact ⟨⟨0, 0⟩, 170, rfl⟩
  | some k => exact ⟨S.use k, 0, rfl⟩

theorem leftV_ex (xs : List Tn) (S : Sq) (s : ByteArray) : ∃ (u : Us) (z : Int), leftV xs S s = .tuple #[.agg #[.int .i64 u.b, .int .i64 u.e], .int .i64 z] := by
  unfold leftV
  cases idxT xs s with
  | none => exact ⟨⟨0, 0⟩, 170, rfl⟩
  | some k => exact ⟨leftQ xs S k, 0, rfl⟩

section
variable {w0 w : World} {N p ma mr q : Nat} {bl : List Nat} {lv uv : Value} {xs : List Tn} {S : Sq}

set_option maxRecDepth 100000 in
set_option maxHeartbeats 2000000 in
theorem step_k1 (h : Bo w0 N w p ma mr bl q lv uv xs S) (o : Ow) (hk : o.kind = 1) : Calls Tryd.prog 15 #[.pointer (some ⟨p, 0, none⟩), .pointer (some ⟨q, 0, none⟩), owV o] w fun e w' => e = .returned (.bool true) ∧ Bo w0 N w' p ma mr bl q lv uv xs (setS xs S o.tn o.u) := by
  obtain ⟨W1, hW1⟩ : ∃ W, W = w.alloc (.cells #[.int .i64 o.kind, .string o.tn, .int .i64 o.u.b, .int .i64 o.u.e, .int .i64 o.id] 41) := ⟨_, rfl⟩
  obtain ⟨xb, hxb⟩ : ∃ b, b = w.heap.size := ⟨_, rfl⟩
  have HK1 : Hid (Same w W1) := hid (by rw [hW1]; exact (Kept.refl _ w).alloc _)
  have HB : Hid (Blk W1 xb #[.int .i64 1, .string o.tn, .int .i64 o.u.b, .int .i64 o.u.e, .int .i64 o.id] 41) := hid (by rw [hW1, hxb, ← hk]; exact Blk.new w _ _)
  have HX := hid hxb
  have hp := pair_set h o
  unfold Pair usV at hp
  have HP := hid hp
  obtain ⟨c0, c1, c2, c3, c4⟩ := HB.out.c5w
  unfold owV
  rw [hk]
  rw [hk] at hW1
  clear h hp
  go_enter Tryd.func15, Tryd.ntmps15
  go_upto_region 1 with fail
  rw [← hW1, ← hxb]
  clear hW1 hxb hk
  obtain ⟨z, hz⟩ : ∃ z, z = setZ xs o.tn o.u := ⟨_, rfl⟩
  rw [← hz] at HP
  clear hz
  go_upto_region 3 with fail
  go_region_held3 (fun w' => w'.cell? ⟨xb, 1, none⟩ = some (.string o.tn) ∧ w'.cell? ⟨xb, 2, none⟩ = some (.int .i64 o.u.b) ∧ w'.cell? ⟨xb, 3, none⟩ = some (.int .i64 o.u.e)) (first | go_keep | (go_split_ands; exact ⟨by assumption, by assumption, by assumption⟩))
    (first
      | (go_at_call 19; refine (HP.out _ (by first | exact Same.trans HK1.out (Kept.refl _ _) | exact HK1.out.drew)).mono ?_; rintro e w2 ⟨rfl, hk2, hn2⟩; have HN2 := hid hn2; have HB2 := hid ((HB.out.kept (show Same W1 _ from by first | exact Kept.refl _ _ | exact (Kept.refl _ _).drew) (fun f => f)).kept hk2 (fun e => by have := HX.out; omega)); clear hk2 hn2 c0 c1 c2 c3 c4; obtain ⟨c0, c1, c2, c3, c4⟩ := HB2.out.c5w)
      | (go_at_call 24; refine (HN2.out _ (by first | exact Kept.refl _ _ | exact (Kept.refl _ _).drew)).mono ?_; rintro e w3 ⟨rfl, hk3, hb3⟩; have HBO := hid hb3; have HB3 := hid ((HB2.out.kept (show Same w2 _ from by first | exact Kept.refl _ _ | exact (Kept.refl _ _).drew) (fun f => f)).kept hk3 (fun e => by have := HX.out; omega)); clear hk3 hb3 c0 c1 c2 c3 c4; obtain ⟨c0, c1, c2, c3, c4⟩ := HB3.out.c5w))
  all_goals
    go_wp2_with fail
    go_ret
    exact ⟨by simp, HBO.out⟩

set_option maxRecDepth 100000 in
set_option maxHeartbeats 2000000 in
theorem step_k5 (h : Bo w0 N w p ma mr bl q lv uv xs S) (hL : S.last ≤ 1000000) (o : Ow) (hk : o.kind = 5) : Calls Tryd.prog 15 #[.pointer (some ⟨p, 0, none⟩), .pointer (some ⟨q, 0, none⟩), owV o] w fun e w' => e = .returned (.bool true) ∧ Bo w0 N w' p ma mr bl q lv uv xs (takeS S o.id) := by
  obtain ⟨W1, hW1⟩ : ∃ W, W = w.alloc (.cells #[.int .i64 o.kind, .string o.tn, .int .i64 o.u.b, .int .i64 o.u.e, .int .i64 o.id] 41) := ⟨_, rfl⟩
  obtain ⟨xb, hxb⟩ : ∃ b, b = w.heap.size := ⟨_, rfl⟩
  have HK1 : Hid (Same w W1) := hid (by rw [hW1]; exact (Kept.refl _ w).alloc _)
  have HB : Hid (Blk W1 xb #[.int .i64 5, .string o.tn, .int .i64 o.u.b, .int .i64 o.u.e, .int .i64 o.id] 41) := hid (by rw [hW1, hxb, ← hk]; exact Blk.new w _ _)
  have HX := hid hxb
  have hp := pair_take h hL o
  unfold Pair at hp
  have HP := hid hp
  obtain ⟨c0, c1, c2, c3, c4⟩ := HB.out.c5w
  unfold owV
  rw [hk]
  rw [hk] at hW1
  clear h hp hL
  go_enter Tryd.func15, Tryd.ntmps15
  go_upto_region 1 with fail
  rw [← hW1, ← hxb]
  clear hW1 hxb hk
  obtain ⟨z, hz⟩ : ∃ z, z = takeZ S o.id := ⟨_, rfl⟩
  rw [← hz] at HP
  clear hz
  go_upto_region 17 with fail
  go_region_held3 (fun w' => w'.cell? ⟨xb, 4, none⟩ = some (.int .i64 o.id)) (first | go_keep | (go_split_ands; assumption))
    (first
      | (go_at_call 17; refine (HP.out _ (by first | exact Same.trans HK1.out (Kept.refl _ _) | exact HK1.out.drew)).mono ?_; rintro e w2 ⟨rfl, hk2, hn2⟩; have HN2 := hid hn2; have HB2 := hid ((HB.out.kept (show Same W1 _ from by first | exact Kept.refl _ _ | exact (Kept.refl _ _).drew) (fun f => f)).kept hk2 (fun e => by have := HX.out; omega)); clear hk2 hn2 c0 c1 c2 c3 c4; obtain ⟨c0, c1, c2, c3, c4⟩ := HB2.out.c5w)
      | (go_at_call 28; refine (HN2.out _ (by first | exact Kept.refl _ _ | exact (Kept.refl _ _).drew)).mono ?_; rintro e w3 ⟨rfl, hk3, hb3⟩; have HBO := hid hb3; have HB3 := hid ((HB2.out.kept (show Same w2 _ from by first | exact Kept.refl _ _ | exact (Kept.refl _ _).drew) (fun f => f)).kept hk3 (fun e => by have := HX.out; omega)); clear hk3 hb3 c0 c1 c2 c3 c4; obtain ⟨c0, c1, c2, c3, c4⟩ := HB3.out.c5w))
  all_goals
    go_wp2_with fail
    go_ret
    exact ⟨by simp, HBO.out⟩

set_option maxRecDepth 100000 in
set_option maxHeartbeats 2000000 in
theorem step_k6 (h : Bo w0 N w p ma mr bl q lv uv xs S) (hL : S.last ≤ 1000000) (o : Ow) (hk : o.kind = 6) : Calls Tryd.prog 15 #[.pointer (some ⟨p, 0, none⟩), .pointer (some ⟨q, 0, none⟩), owV o] w fun e w' => e = .returned (.bool true) ∧ Bo w0 N w' p ma mr bl q lv uv xs (freeS S o.id) := by
  obtain ⟨W1, hW1⟩ : ∃ W, W = w.alloc (.cells #[.int .i64 o.kind, .string o.tn, .int .i64 o.u.b, .int .i64 o.u.e, .int .i64 o.id] 41) := ⟨_, rfl⟩
  obtain ⟨xb, hxb⟩ : ∃ b, b = w.heap.size := ⟨_, rfl⟩
  have HK1 : Hid (Same w W1) := hid (by rw [hW1]; exact (Kept.refl _ w).alloc _)
  have HB : Hid (Blk W1 xb #[.int .i64 6, .string o.tn, .int .i64 o.u.b, .int .i64 o.u.e, .int .i64 o.id] 41) := hid (by rw [hW1, hxb, ← hk]; exact Blk.new w _ _)
  have HX := hid hxb
  have hp := pair_free h hL o
  unfold Pair at hp
  have HP := hid hp
  obtain ⟨c0, c1, c2, c3, c4⟩ := HB.out.c5w
  unfold owV
  rw [hk]
  rw [hk] at hW1
  clear h hp hL
  go_enter Tryd.func15, Tryd.ntmps15
  go_upto_region 1 with fail
  rw [← hW1, ← hxb]
  clear hW1 hxb hk
  obtain ⟨z, hz⟩ : ∃ z, z = takeZ S o.id := ⟨_, rfl⟩
  rw [← hz] at HP
  clear hz
  go_upto_region 19 with fail
  go_region_held3 (fun w' => w'.cell? ⟨xb, 4, none⟩ = some (.int .i64 o.id)) (first | go_keep | (go_split_ands; assumption))
    (first
      | (go_at_call 18; refine (HP.out _ (by first | exact Same.trans HK1.out (Kept.refl _ _) | exact HK1.out.drew)).mono ?_; rintro e w2 ⟨rfl, hk2, hn2⟩; have HN2 := hid hn2; have HB2 := hid ((HB.out.kept (show Same W1 _ from by first | exact Kept.refl _ _ | exact (Kept.refl _ _).drew) (fun f => f)).kept hk2 (fun e => by have := HX.out; omega)); clear hk2 hn2 c0 c1 c2 c3 c4; obtain ⟨c0, c1, c2, c3, c4⟩ := HB2.out.c5w)
      | (go_at_call 29; refine (HN2.out _ (by first | exact Kept.refl _ _ | exact (Kept.refl _ _).drew)).mono ?_; rintro e w3 ⟨rfl, hk3, hb3⟩; have HBO := hid hb3; have HB3 := hid ((HB2.out.kept (show Same w2 _ from by first | exact Kept.refl _ _ | exact (Kept.refl _ _).drew) (fun f => f)).kept hk3 (fun e => by have := HX.out; omega)); clear hk3 hb3 c0 c1 c2 c3 c4; obtain ⟨c0, c1, c2, c3, c4⟩ := HB3.out.c5w))
  all_goals
    go_wp2_with fail
    go_ret
    exact ⟨by simp, HBO.out⟩

set_option maxRecDepth 100000 in
set_option maxHeartbeats 2000000 in
theorem step_k2 (h : Bo w0 N w p ma mr bl q lv uv xs S) (o : Ow) (hk : o.kind = 2) : Calls Tryd.prog 15 #[.pointer (some ⟨p, 0, none⟩), .pointer (some ⟨q, 0, none⟩), owV o] w fun e w' => e = .returned (.bool true) ∧ Bo w0 N w' p ma mr bl q lv uv xs S := by
  obtain ⟨W1, hW1⟩ : ∃ W, W = w.alloc (.cells #[.int .i64 o.kind, .string o.tn, .int .i64 o.u.b, .int .i64 o.u.e, .int .i64 o.id] 41) := ⟨_, rfl⟩
  obtain ⟨xb, hxb⟩ : ∃ b, b = w.heap.size := ⟨_, rfl⟩
  have HK1 : Hid (Same w W1) := hid (by rw [hW1]; exact (Kept.refl _ w).alloc _)
  have HB : Hid (Blk W1 xb #[.int .i64 2, .string o.tn, .int .i64 o.u.b, .int .i64 o.u.e, .int .i64 o.id] 41) := hid (by rw [hW1, hxb, ← hk]; exact Blk.new w _ _)
  have HX := hid hxb
  have hp := pair_use h o
  unfold Pair at hp
  have HP := hid hp
  obtain ⟨c0, c1, c2, c3, c4⟩ := HB.out.c5w
  unfold owV
  rw [hk]
  rw [hk] at hW1
  clear h hp
  go_enter Tryd.func15, Tryd.ntmps15
  go_upto_region 1 with fail
  rw [← hW1, ← hxb]
  clear hW1 hxb hk
  obtain ⟨us, z, hz⟩ := useV_ex xs S o.tn
  rw [hz] at HP
  clear hz
  go_wp2_with fail
  refine (HP.out _ HK1.out).mono ?_
  rintro e w2 ⟨rfl, hk2, hn2⟩
  obtain ⟨W3, hW3⟩ : ∃ W, W = w2.alloc (.cells #[.int .i64 us.b, .int .i64 us.e] 31) := ⟨_, rfl⟩
  obtain ⟨g3, hg3⟩ : ∃ b, b = w2.heap.size := ⟨_, rfl⟩
  have hk23 : Same w2 W3 := by rw [hW3]; exact (Kept.refl _ _).alloc _
  have hb2 := HB.out.kept hk2 (fun e => by have := HX.out; omega)
  have HB3 := hid (hb2.kept hk23 (fun f => f))
  have HG3 : Hid (Blk W3 g3 #[.int .i64 us.b, .int .i64 us.e] 31) := hid (by rw [hW3, hg3]; exact Blk.new w2 _ _)
  have HL3 : Hid (w.heap.size ≤ g3) := hid (by rw [hg3]; have := HK1.out.size; have := hk2.size; omega)
  have HN2 := hid (hn2 W3 hk23)
  clear c0 c1 c2 c3 c4 hk2 hk23 hb2 hn2
  obtain ⟨c0, c1, c2, c3, c4⟩ := HB3.out.c5w
  go_upto_region 6 with fail
  rw [← hW3, ← hg3]
  clear hW3 hg3
  go_wp2_with fail
  refine HN2.out.mono ?_
  rintro e w4 ⟨rfl, hk4, hb4⟩
  obtain ⟨W5, hW5⟩ : ∃ W, W = w4.alloc (.cells #[.int .i64 us.b, .int .i64 us.e] 31) := ⟨_, rfl⟩
  obtain ⟨g5, hg5⟩ : ∃ b, b = w4.heap.size := ⟨_, rfl⟩
  have hk45 : Same w4 W5 := by rw [hW5]; exact (Kept.refl _ _).alloc _
  obtain ⟨d0, d1, _, _⟩ := ((HG3.out.kept hk4 (fun e => by have := HL3.out; omega)).kept hk45 (fun f => f)).c2
  obtain ⟨e0, e1, _, _⟩ := (show Blk W5 g5 #[.int .i64 us.b, .int .i64 us.e] 31 from by rw [hW5, hg5]; exact Blk.new w4 _ _).c2
  have HBO := hid (hb4.to hk45)
  clear c0 c1 c2 c3 c4 hk4 hk45 hb4
  go_upto_region 7 with fail
  rw [← hW5, ← hg5]
  clear hW5 hg5
  go_wp2_with fail
  go_ret
  exact ⟨rfl, HBO.out⟩

set_option maxRecDepth 100000 in
set_option maxHeartbeats 2000000 in
theorem step_k3 (h : Bo w0 N w p ma mr bl q lv uv xs S) (hL : S.last ≤ 1000000) (o : Ow) (hk : o.kind = 3) : Calls Tryd.prog 15 #[.pointer (some ⟨p, 0, none⟩), .pointer (some ⟨q, 0, none⟩), owV o] w fun e w' => e = .returned (.bool true) ∧ Bo w0 N w' p ma mr bl q lv uv xs S := by
  obtain ⟨W1, hW1⟩ : ∃ W, W = w.alloc (.cells #[.int .i64 o.kind, .string o.tn, .int .i64 o.u.b, .int .i64 o.u.e, .int .i64 o.id] 41) := ⟨_, rfl⟩
  obtain ⟨xb, hxb⟩ : ∃ b, b = w.heap.size := ⟨_, rfl⟩
  have HK1 : Hid (Same w W1) := hid (by rw [hW1]; exact (Kept.refl _ w).alloc _)
  have HB : Hid (Blk W1 xb #[.int .i64 3, .string o.tn, .int .i64 o.u.b, .int .i64 o.u.e, .int .i64 o.id] 41) := hid (by rw [hW1, hxb, ← hk]; exact Blk.new w _ _)
  have HX := hid hxb
  have hp := pair_left h hL o
  unfold Pair at hp
  have HP := hid hp
  obtain ⟨c0, c1, c2, c3, c4⟩ := HB.out.c5w
  unfold owV
  rw [hk]
  rw [hk] at hW1
  clear h hp hL
  go_enter Tryd.func15, Tryd.ntmps15
  go_upto_region 1 with fail
  rw [← hW1, ← hxb]
  clear hW1 hxb hk
  obtain ⟨us, z, hz⟩ := leftV_ex xs S o.tn
  rw [hz] at HP
  clear hz
  go_wp2_with fail
  refine (HP.out _ HK1.out).mono ?_
  rintro e w2 ⟨rfl, hk2, hn2⟩
  obtain ⟨W3, hW3⟩ : ∃ W, W = w2.alloc (.cells #[.int .i64 us.b, .int .i64 us.e] 31) := ⟨_, rfl⟩
  obtain ⟨g3, hg3⟩ : ∃ b, b = w2.heap.size := ⟨_, rfl⟩
  have hk23 : Same w2 W3 := by rw [hW3]; exact (Kept.refl _ _).alloc _
  have hb2 := HB.out.kept hk2 (fun e => by have := HX.out; omega)
  have HB3 := hid (hb2.kept hk23 (fun f => f))
  have HG3 : Hid (Blk W3 g3 #[.int .i64 us.b, .int .i64 us.e] 31) := hid (by rw [hW3, hg3]; exact Blk.new w2 _ _)
  have HL3 : Hid (w.heap.size ≤ g3) := hid (by rw [hg3]; have := HK1.out.size; have := hk2.size; omega)
  have HN2 := hid (hn2 W3 hk23)
  clear c0 c1 c2 c3 c4 hk2 hk23 hb2 hn2
  obtain ⟨c0, c1, c2, c3, c4⟩ := HB3.out.c5w
  go_upto_region 10 with fail
  rw [← hW3, ← hg3]
  clear hW3 hg3
  go_wp2_with fail
  refine HN2.out.mono ?_
  rintro e w4 ⟨rfl, hk4, hb4⟩
  obtain ⟨W5, hW5⟩ : ∃ W, W = w4.alloc (.cells #[.int .i64 us.b, .int .i64 us.e] 31) := ⟨_, rfl⟩
  obtain ⟨g5, hg5⟩ : ∃ b, b = w4.heap.size := ⟨_, rfl⟩
  have hk45 : Same w4 W5 := by rw [hW5]; exact (Kept.refl _ _).alloc _
  obtain ⟨d0, d1, _, _⟩ := ((HG3.out.kept hk4 (fun e => by have := HL3.out; omega)).kept hk45 (fun f => f)).c2
  obtain ⟨e0, e1, _, _⟩ := (show Blk W5 g5 #[.int .i64 us.b, .int .i64 us.e] 31 from by rw [hW5, hg5]; exact Blk.new w4 _ _).c2
  have HBO := hid (hb4.to hk45)
  clear c0 c1 c2 c3 c4 hk4 hk45 hb4
  go_upto_region 11 with fail
  rw [← hW5, ← hg5]
  clear hW5 hg5
  go_wp2_with fail
  go_ret
  exact ⟨rfl, HBO.out⟩

set_option maxRecDepth 100000 in
set_option maxHeartbeats 2000000 in
theorem step_k4 (h : Bo w0 N w p ma mr bl q lv uv xs S) (hL : S.last ≤ 1000000) (o : Ow) (hk : o.kind = 4) : Calls Tryd.prog 15 #[.pointer (some ⟨p, 0, none⟩), .pointer (some ⟨q, 0, none⟩), owV o] w fun e w' => e = .returned (.bool true) ∧ Bo w0 N w' p ma mr bl q lv uv xs (resS xs S o.tn o.u) := by
  obtain ⟨W1, hW1⟩ : ∃ W, W = w.alloc (.cells #[.int .i64 o.kind, .string o.tn, .int .i64 o.u.b, .int .i64 o.u.e, .int .i64 o.id] 41) := ⟨_, rfl⟩
  obtain ⟨xb, hxb⟩ : ∃ b, b = w.heap.size := ⟨_, rfl⟩
  have HK1 : Hid (Same w W1) := hid (by rw [hW1]; exact (Kept.refl _ w).alloc _)
  have HB : Hid (Blk W1 xb #[.int .i64 4, .string o.tn, .int .i64 o.u.b, .int .i64 o.u.e, .int .i64 o.id] 41) := hid (by rw [hW1, hxb, ← hk]; exact Blk.new w _ _)
  have HX := hid hxb
  have hp := pair_res h hL o
  unfold Pair usV at hp
  have HP := hid hp
  obtain ⟨c0, c1, c2, c3, c4⟩ := HB.out.c5w
  unfold owV
  rw [hk]
  rw [hk] at hW1
  clear h hp hL
  go_enter Tryd.func15, Tryd.ntmps15
  go_upto_region 1 with fail
  rw [← hW1, ← hxb]
  clear hW1 hxb hk
  obtain ⟨z1, hz1⟩ : ∃ z, z = (resZ xs S o.tn o.u).1 := ⟨_, rfl⟩
  obtain ⟨z2, hz2⟩ : ∃ z, z = (resZ xs S o.tn o.u).2 := ⟨_, rfl⟩
  rw [← hz1, ← hz2] at HP
  clear hz1 hz2
  go_wp2_with fail
  refine (HP.out _ HK1.out).mono ?_
  rintro e w2 ⟨rfl, hk2, hn2⟩
  have HB2 := hid (HB.out.kept hk2 (fun e => by have := HX.out; omega))
  have HN2 := hid (hn2 w2 (Kept.refl _ _))
  clear c0 c1 c2 c3 c4 hk2 hn2
  obtain ⟨c0, c1, c2, c3, c4⟩ := HB2.out.c5w
  go_wp2_with fail
  refine HN2.out.mono ?_
  rintro e w4 ⟨rfl, hk4, hb4⟩
  have HBO := hid hb4
  clear c0 c1 c2 c3 c4 hk4 hb4
  go_wp2_with fail
  go_ret
  exact ⟨rfl, HBO.out⟩

set_option maxRecDepth 100000 in
set_option maxHeartbeats 2000000 in
theorem step_k0 (h : Bo w0 N w p ma mr bl q lv uv xs S) (o : Ow) (hk : o.kind ≠ 1 ∧ o.kind ≠ 2 ∧ o.kind ≠ 3 ∧ o.kind ≠ 4 ∧ o.kind ≠ 5 ∧ o.kind ≠ 6) : Calls Tryd.prog 15 #[.pointer (some ⟨p, 0, none⟩), .pointer (some ⟨q, 0, none⟩), owV o] w fun e w' => e = .returned (.bool true) ∧ Bo w0 N w' p ma mr bl q lv uv xs S := by
  obtain ⟨W1, hW1⟩ : ∃ W, W = w.alloc (.cells #[.int .i64 o.kind, .string o.tn, .int .i64 o.u.b, .int .i64 o.u.e, .int .i64 o.id] 41) := ⟨_, rfl⟩
  obtain ⟨xb, hxb⟩ : ∃ b, b = w.heap.size := ⟨_, rfl⟩
  have HBO : Hid (Bo w0 N W1 p ma mr bl q lv uv xs S) := hid (h.to (by rw [hW1]; exact (Kept.refl _ w).alloc _))
  have HB : Blk W1 xb #[.int .i64 o.kind, .string o.tn, .int .i64 o.u.b, .int .i64 o.u.e, .int .i64 o.id] 41 := by rw [hW1, hxb]; exact Blk.new w _ _
  obtain ⟨c0, c1, c2, c3, c4⟩ := HB.c5w
  obtain ⟨k1, k2, k3, k4, k5, k6⟩ := hk
  have b1 : (o.kind == 1) = false := by simpa using k1
  have b2 : (o.kind == 2) = false := by simpa using k2
  have b3 : (o.kind == 3) = false := by simpa using k3
  have b4 : (o.kind == 4) = false := by simpa using k4
  have b5 : (o.kind == 5) = false := by simpa using k5
  have b6 : (o.kind == 6) = false := by simpa using k6
  unfold owV
  clear h HB k1 k2 k3 k4 k5 k6
  go_enter Tryd.func15, Tryd.ntmps15
  go_upto_region 1 with fail
  rw [← hW1, ← hxb]
  clear hW1 hxb
  go_wp2_with fail
  go_ret
  exact ⟨rfl, HBO.out⟩

/-- What a step makes of the books. -/
def stepS (xs : List Tn) (S : Sq) (o : Ow) : Sq := if o.kind = 1 then setS xs S o.tn o.u else if o.kind = 4 then resS xs S o.tn o.u else if o.kind = 5 then takeS S o.id else if o.kind = 6 then freeS S o.id else S

theorem step17 (h : Bo w0 N w p ma mr bl q lv uv xs S) (hL : S.last ≤ 1000000) (o : Ow) : Calls Tryd.prog 15 #[.pointer (some ⟨p, 0, none⟩), .pointer (some ⟨q, 0, none⟩), owV o] w fun e w' => e = .returned (.bool true) ∧ Bo w0 N w' p ma mr bl q lv uv xs (stepS xs S o) := by
  unfold stepS
  by_cases k1 : o.kind = 1
  · rw [if_pos k1]; exact step_k1 h o k1
  rw [if_neg k1]
  by_cases k4 : o.kind = 4
  · rw [if_pos k4]; exact step_k4 h hL o k4
  rw [if_neg k4]
  by_cases k5 : o.kind = 5
  · rw [if_pos k5]; exact step_k5 h hL o k5
  rw [if_neg k5]
  by_cases k6 : o.kind = 6
  · rw [if_pos k6]; exact step_k6 h hL o k6
  rw [if_neg k6]
  by_cases k2 : o.kind = 2
  · exact step_k2 h o k2
  by_cases k3 : o.kind = 3
  · exact step_k3 h hL o k3
  exact step_k0 h o ⟨k1, k2, k3, k4, k5, k6⟩

theorem stepS_last (xs : List Tn) (S : Sq) (o : Ow) : (stepS xs S o).last ≤ S.last + 1 := by
  unfold stepS
  split
  · unfold setS; split
    · omega
    · split <;> simp [Sq.set]
  split
  · unfold resS; split
    · omega
    · split <;> simp [Sq.res]
  split
  · unfold takeS; split
    · omega
    · simp [Sq.take, Sq.set, Sq.gone]
  split
  · unfold freeS; split
    · omega
    · simp [Sq.gone]
  omega

end

end Go.Proofs.YtjlkchjcmiljjaaDoor
