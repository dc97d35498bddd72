/-
  Layer 13: entries by their order; Writes.
-/
import Derived.Test.YtlfibbghkdbomaaVaH
import Derived.Test.YtlfibbghkdbomaaVaShD
import Derived.Test.YtlfibbghkdbomaaChYa
import Derived.Deep.RegionHeld3
namespace Go.Proofs.Ytlfibbghkdbomaa
open Go.RowKit Go.Maps Go.Sort Go.Shelf Go.Lib

def kT (k : Ke) : List UInt8 := k.1.tn.data.toList
def kA (k : Ke) : List UInt8 := k.1.ar.data.toList
def kE (k : Ke) : List UInt8 := k.2.s.data.toList

/-- The order of entries. -/
def cmpK (a b : Ke) : Int := if compareBytes (kT a) (kT b) = 0 then (if compareBytes (kA a) (kA b) = 0 then compareBytes (kE a) (kE b) else compareBytes (kA a) (kA b)) else compareBytes (kT a) (kT b)

theorem vcompare_any (a b : ByteArray) (w : World) : Calls Try.prog 42 #[.string a, .string b] w fun e w' => e = .returned (.int .i64 (compareBytes a.data.toList b.data.toList)) ∧ w' = w := Any.strings_Compare Try.cmp13 a b w

set_option maxHeartbeats 1000000 in
theorem or3_any (w : World) (g : Nat) (x y z : Int) (h0 : w.cell? ⟨g, 0, none⟩ = some (.int .i64 x)) (h1 : w.cell? ⟨g, 1, none⟩ = some (.int .i64 y)) (h2 : w.cell? ⟨g, 2, none⟩ = some (.int .i64 z)) :
    Calls Try.prog 41 #[.slice (some ⟨g, 0, none⟩) 3 3] w fun e w' => e = .returned (.int .i64 (if x = 0 then (if y = 0 then z else y) else x)) ∧ w' = w := by
  by_cases hx : x = 0
  · have bx : (x != 0) = false := by simp [hx]
    rw [if_pos hx]
    by_cases hy : y = 0
    · have by' : (y != 0) = false := by simp [hy]
      rw [if_pos hy]
      by_cases hz : z = 0
      · have bz : (z != 0) = false := by simp [hz]
        have HZ : Hid (z = 0) := hz
        clear hx hy hz
        go_enter Try.func41, Try.ntmps41
        go_wp2_with fail
        refine wp_loop_rounds 4 ?_
        rw [rounds_succ]
        go_wp2_with fail
        rw [rounds_succ]
        go_wp2_with fail
        rw [rounds_succ]
        go_wp2_with fail
        rw [rounds_succ]
        go_wp2_with fail
        go_ret
        exact ⟨by rw [HZ.out]; rfl, rfl⟩
      · have bz : (z != 0) = true := by simp [hz]
        clear hx hy hz
        go_enter Try.func41, Try.ntmps41
        go_wp2_with fail
        refine wp_loop_rounds 4 ?_
        rw [rounds_succ]
        go_wp2_with fail
        rw [rounds_succ]
        go_wp2_with fail
        rw [rounds_succ]
        go_wp2_with fail
        go_ret
        exact ⟨rfl, rfl⟩
    · have by' : (y != 0) = true := by simp [hy]
      rw [if_neg hy]
      clear hx hy
      go_enter Try.func41, Try.ntmps41
      go_wp2_with fail
      refine wp_loop_rounds 4 ?_
      rw [rounds_succ]
      go_wp2_with fail
      rw [rounds_succ]
      go_wp2_with fail
      go_ret
      exact ⟨rfl, rfl⟩
  · have bx : (x != 0) = true := by simp [hx]
    rw [if_neg hx]
    clear hx
    go_enter Try.func41, Try.ntmps41
    go_wp2_with fail
    refine wp_loop_rounds 4 ?_
    rw [rounds_succ]
    go_wp2_with fail
    go_ret
    exact ⟨rfl, rfl⟩

set_option maxRecDepth 100000 in
set_option maxHeartbeats 1000000 in
theorem vorder_any (W : World) (x y : Ke) : Calls Try.prog 29 #[.agg #[.string x.1.tn, .string x.1.ar, .string x.2.s], .agg #[.string y.1.tn, .string y.1.ar, .string y.2.s]] W fun e w' => e = .returned (.int .i64 (cmpK x y)) ∧ Gr W w' := by
  obtain ⟨wA, hwA⟩ : ∃ V, V = (W.alloc (.cells #[.string x.1.tn, .string x.1.ar, .string x.2.s] 24)).alloc (.cells #[.string y.1.tn, .string y.1.ar, .string y.2.s] 24) := ⟨_, rfl⟩
  have HG : Hid (Gr W wA) := hid (by rw [hwA]; exact ((Gr.refl W).alloc _).alloc _)
  obtain ⟨xb, hxb⟩ : ∃ z, z = W.heap.size := ⟨_, rfl⟩
  have B1 : Blk wA xb #[.string x.1.tn, .string x.1.ar, .string x.2.s] 24 := by rw [hwA, hxb]; exact (Blk.new W _ _).kept (F := fun _ => False) ((Kept.refl _ _).alloc _) (fun f => f)
  have B2 : Blk wA (xb + 1) #[.string y.1.tn, .string y.1.ar, .string y.2.s] 24 := by
    rw [hwA, hxb]
    have := Blk.new (W.alloc (.cells #[.string x.1.tn, .string x.1.ar, .string x.2.s] 24)) #[.string y.1.tn, .string y.1.ar, .string y.2.s] 24
    rwa [World.size_alloc] at this
  have HOR : Hid (∀ w : World, Calls Try.prog 41 #[.slice (some ⟨w.heap.size, 0, none⟩) 3 3] (w.alloc (.cells #[.int .i64 (compareBytes x.1.tn.data.toList y.1.tn.data.toList), .int .i64 (compareBytes x.1.ar.data.toList y.1.ar.data.toList), .int .i64 (compareBytes x.2.s.data.toList y.2.s.data.toList)] 3)).drew fun e w' => e = .returned (.int .i64 (cmpK x y)) ∧ Gr w w') := hid (fun w => (or3_any _ _ _ _ _ ((Blk.new w _ _).cell 0) ((Blk.new w _ _).cell 1) ((Blk.new w _ _).cell 2)).mono (fun e w' h => ⟨h.1, by rw [h.2]; exact ((Gr.refl w).alloc _).drew⟩))
  have a0 := B1.cell 0
  have a1 := B1.cell 1
  have a2 := B1.cell 2
  have b0 := B2.cell 0
  have b1 := B2.cell 1
  have b2 := B2.cell 2
  simp at a0 a1 a2 b0 b1 b2
  clear B1 B2
  go_enter Try.func29, Try.ntmps29
  go_upto_region 1 with fail
  rw [← hwA, ← hxb]
  clear hwA hxb
  go_region_held3 (fun w' => w'.cell? ⟨xb, 0, none⟩ = some (.string x.1.tn) ∧ w'.cell? ⟨xb, 1, none⟩ = some (.string x.1.ar) ∧ w'.cell? ⟨xb, 2, none⟩ = some (.string x.2.s) ∧ w'.cell? ⟨xb + 1, 0, none⟩ = some (.string y.1.tn) ∧ w'.cell? ⟨xb + 1, 1, none⟩ = some (.string y.1.ar) ∧ w'.cell? ⟨xb + 1, 2, none⟩ = some (.string y.2.s))
    (first
      | (go_split_ands; exact ⟨hg3.same.cell ((show Same _ _ from (Kept.refl _ _).drew).cell (by assumption) (fun f => f)) (fun f => f), hg3.same.cell (by assumption) (fun f => f), hg3.same.cell (by assumption) (fun f => f), hg3.same.cell (by assumption) (fun f => f), hg3.same.cell (by assumption) (fun f => f), hg3.same.cell (by assumption) (fun f => f)⟩)
      | go_keep
      | (go_split_ands; exact ⟨(show Same _ _ from (Kept.refl _ _).alloc _).cell (by assumption) (fun f => f), (show Same _ _ from (Kept.refl _ _).alloc _).cell (by assumption) (fun f => f), (show Same _ _ from (Kept.refl _ _).alloc _).cell (by assumption) (fun f => f), (show Same _ _ from (Kept.refl _ _).alloc _).cell (by assumption) (fun f => f), (show Same _ _ from (Kept.refl _ _).alloc _).cell (by assumption) (fun f => f), (show Same _ _ from (Kept.refl _ _).alloc _).cell (by assumption) (fun f => f)⟩))
    (first
      | (go_at_call 42; refine (vcompare_any _ _ _).mono ?_; rintro e w2 ⟨rfl, rfl⟩)
      | (go_at_call 41; refine (HOR.out _).mono ?_; rintro e w3 ⟨rfl, hg3⟩))
  go_wp2_with fail
  go_ret
  exact ⟨rfl, HG.out.trans hg3⟩

end Go.Proofs.Ytlfibbghkdbomaa
