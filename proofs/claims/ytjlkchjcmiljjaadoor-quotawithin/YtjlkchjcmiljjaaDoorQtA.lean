/-
  Layer 17: uses in memory; plus, minus, raised, within.
-/
import Derived.Test.YtjlkchjcmiljjaaDoorQtM
import Derived.Test.YtjlkchjcmiljjaaDoorVaA
import Derived.Test.YtjlkchjcmiljjaaDoorNbK
import Derived.Deep.RegionHeld3
namespace Go.Proofs.YtjlkchjcmiljjaaDoor
open Go.RowKit Go.Maps

def usV (u : Us) : Value := .agg #[.int .i64 u.b, .int .i64 u.e]
def usE (u : Us) : List Value := [.int .i64 u.b, .int .i64 u.e]
theorem usE_ok : EncOk usE 2 := ⟨fun _ => rfl, fun x u hu => by simp [usE] at hu; rcases hu with rfl | rfl <;> rfl, by decide⟩

theorem Tryd.sizeUs : (Tryd.prog.info? 31).map (·.size) = some 2 := by kernel_rfl

theorem loadU {W : World} {g : Nat} {x y : Value} {ty : TypeId} (hb : Blk W g #[x, y] ty) : (loadVar 31 ⟨g, 0, none⟩).run Tryd.prog W = .ok (.agg #[x, y]) W :=
  run_load15 31 2 _ Tryd.underlying31 rfl Tryd.sizeUs hb [x, y] rfl rfl

theorem Blk.c2 {w : World} {g : Nat} {a b : Value} {t : TypeId} (hb : Blk w g #[a, b] t) : w.cell? ⟨g, 0, none⟩ = some a ∧ w.cell? ⟨g, 1, none⟩ = some b ∧ w.frozen? ⟨g, 0, none⟩ = false ∧ w.frozen? ⟨g, 1, none⟩ = false :=
  ⟨hb.cell 0, hb.cell 1, hb.frozen 0, hb.frozen 1⟩

theorem set17 {w : World} {g : Nat} {a0 a1 x0 x1 : Value} {t : TypeId} (hb : Blk w g #[a0, a1] t) : Blk ((w.setCell ⟨g, 0, none⟩ x0).setCell ⟨g, 1, none⟩ x1) g #[x0, x1] t ∧ Kept (· = g) w ((w.setCell ⟨g, 0, none⟩ x0).setCell ⟨g, 1, none⟩ x1) := by
  refine ⟨?_, ((Kept.refl (· = g) w).setCell _ _ (.inl rfl)).setCell _ _ (.inl rfl)⟩
  have h9 := (hb.set 0 x0).set 1 x1
  simpa using h9

theorem results_17 {fn : Func} {p : Tmp} {ty : TypeId} (h : fn.results = #[.cell p ty]) (tmps : Array Value) (P : Program) (w w1 w2 : World) (x : Addr) (v : Value) (h1 : (asAddr (tmps.getD p undef)).run P w = .ok x w1) (h2 : (loadVar ty x).run P w1 = .ok v w2) :
    (results fn tmps).run P w = .ok v w2 := by
  simp only [results, h]
  simp only [Array.getD_eq_getD_getElem?] at h1 ⊢
  simp [Sem.run_bind, Result.andThen, h1, h2]

theorem results_17b {fn : Func} {p b : Tmp} {ty : TypeId} (h : fn.results = #[.cell p ty, .tmp b]) (tmps : Array Value) (P : Program) (w w1 w2 : World) (x : Addr) (v : Value) (h1 : (asAddr (tmps.getD p undef)).run P w = .ok x w1) (h2 : (loadVar ty x).run P w1 = .ok v w2) :
    (results fn tmps).run P w = .ok (.tuple #[v, tmps.getD b undef]) w2 := by
  simp only [results, h]
  simp only [Array.getD_eq_getD_getElem?] at h1 ⊢
  simp [Sem.run_bind, Result.andThen, h1, h2]

theorem wrap_in {z : Int} (h1 : -9000000000 ≤ z) (h2 : z ≤ 9000000000) : IntKind.i64.wrap z = z := by rw [IntKind.wrap_i64]; omega

set_option maxRecDepth 100000 in
set_option maxHeartbeats 400000 in
theorem uplus_any (w : World) (u v : Us) (hu : u.inn (-4000000000) 4000000000) (hv : v.inn (-4000000000) 4000000000) : Calls Tryd.prog 32 #[usV u, usV v] w fun e w' => e = .returned (usV (u.add v)) ∧ Same w w' := by
  obtain ⟨u0, u1⟩ := u
  obtain ⟨v0, v1⟩ := v
  unfold Us.inn at hu hv
  simp only at hu hv
  have e0 : IntKind.i64.wrap (u0 + v0) = u0 + v0 := wrap_in (by omega) (by omega)
  have e1 : IntKind.i64.wrap (u1 + v1) = u1 + v1 := wrap_in (by omega) (by omega)
  obtain ⟨W1, hW1⟩ : ∃ W, W = ((w.alloc (.cells #[.int .i64 u0, .int .i64 u1] 31)).alloc (.cells #[.int .i64 v0, .int .i64 v1] 31)).alloc (.cells #[.int .i64 0, .int .i64 0] 31) := ⟨_, rfl⟩
  obtain ⟨b0, hb0⟩ : ∃ b, b = w.heap.size := ⟨_, rfl⟩
  obtain ⟨b1, hb1⟩ : ∃ b, b = w.heap.size + 1 := ⟨_, rfl⟩
  obtain ⟨b2, hb2⟩ : ∃ b, b = w.heap.size + 1 + 1 := ⟨_, rfl⟩
  have HK1 : Hid (Same w W1) := hid (by rw [hW1]; exact (((Kept.refl _ w).alloc _).alloc _).alloc _)
  have hk2 := fun (W : World) (o : Obj) => (show Same W (W.alloc o) from (Kept.refl _ W).alloc o)
  have HB0 : Blk W1 b0 #[.int .i64 u0, .int .i64 u1] 31 := by rw [hW1, hb0]; exact ((Blk.new w _ _).kept (hk2 _ _) (fun f => f)).kept (hk2 _ _) (fun f => f)
  have HB1 : Blk W1 b1 #[.int .i64 v0, .int .i64 v1] 31 := by
    rw [hW1, hb1]
    have h9 := (Blk.new (w.alloc (.cells #[.int .i64 u0, .int .i64 u1] 31)) #[.int .i64 v0, .int .i64 v1] 31).kept (hk2 _ (.cells #[.int .i64 0, .int .i64 0] 31)) (fun f => f)
    simpa using h9
  have HB2 : Hid (Blk W1 b2 #[.int .i64 0, .int .i64 0] 31) := hid (by
    rw [hW1, hb2]
    have h9 := Blk.new ((w.alloc (.cells #[.int .i64 u0, .int .i64 u1] 31)).alloc (.cells #[.int .i64 v0, .int .i64 v1] 31)) #[.int .i64 0, .int .i64 0] 31
    simpa using h9)
  have HG : Hid (w.heap.size ≤ b2) := hid (by omega)
  obtain ⟨x0, x1, _, _⟩ := HB0.c2
  obtain ⟨y0, y1, _, _⟩ := HB1.c2
  obtain ⟨z0, z1, z2, z3⟩ := HB2.out.c2
  unfold usV Us.add
  simp only
  clear hu hv HB0 HB1 hk2
  go_enter Tryd.func32, Tryd.ntmps32
  go_upto_region 1 with fail
  rw [← hW1, ← hb2, ← hb1, ← hb0]
  clear hW1 hb0 hb1 hb2
  go_wp2_with fail
  refine bodyPost_ret (v := .agg #[.int .i64 (u0 + v0), .int .i64 (u1 + v1)]) (by rw [results_17 (p := 4) (ty := 31) rfl _ _ _ _ _ ⟨b2, 0, none⟩ _ rfl (loadU (set17 HB2.out).1)]) rfl ?_
  exact ⟨rfl, HK1.out.then (set17 HB2.out).2 (fun k hk e => by have := HG.out; omega)⟩

set_option maxRecDepth 100000 in
set_option maxHeartbeats 400000 in
theorem uminus_any (w : World) (u v : Us) (hu : u.inn (-4000000000) 4000000000) (hv : v.inn (-4000000000) 4000000000) : Calls Tryd.prog 37 #[usV u, usV v] w fun e w' => e = .returned (usV (u.sub v)) ∧ Same w w' := by
  obtain ⟨u0, u1⟩ := u
  obtain ⟨v0, v1⟩ := v
  unfold Us.inn at hu hv
  simp only at hu hv
  have e0 : IntKind.i64.wrap (u0 - v0) = u0 - v0 := wrap_in (by omega) (by omega)
  have e1 : IntKind.i64.wrap (u1 - v1) = u1 - v1 := wrap_in (by omega) (by omega)
  obtain ⟨W1, hW1⟩ : ∃ W, W = ((w.alloc (.cells #[.int .i64 u0, .int .i64 u1] 31)).alloc (.cells #[.int .i64 v0, .int .i64 v1] 31)).alloc (.cells #[.int .i64 0, .int .i64 0] 31) := ⟨_, rfl⟩
  obtain ⟨b0, hb0⟩ : ∃ b, b = w.heap.size := ⟨_, rfl⟩
  obtain ⟨b1, hb1⟩ : ∃ b, b = w.heap.size + 1 := ⟨_, rfl⟩
  obtain ⟨b2, hb2⟩ : ∃ b, b = w.heap.size + 1 + 1 := ⟨_, rfl⟩
  have HK1 : Hid (Same w W1) := hid (by rw [hW1]; exact (((Kept.refl _ w).alloc _).alloc _).alloc _)
  have hk2 := fun (W : World) (o : Obj) => (show Same W (W.alloc o) from (Kept.refl _ W).alloc o)
  have HB0 : Blk W1 b0 #[.int .i64 u0, .int .i64 u1] 31 := by rw [hW1, hb0]; exact ((Blk.new w _ _).kept (hk2 _ _) (fun f => f)).kept (hk2 _ _) (fun f => f)
  have HB1 : Blk W1 b1 #[.int .i64 v0, .int .i64 v1] 31 := by
    rw [hW1, hb1]
    have h9 := (Blk.new (w.alloc (.cells #[.int .i64 u0, .int .i64 u1] 31)) #[.int .i64 v0, .int .i64 v1] 31).kept (hk2 _ (.cells #[.int .i64 0, .int .i64 0] 31)) (fun f => f)
    simpa using h9
  have HB2 : Hid (Blk W1 b2 #[.int .i64 0, .int .i64 0] 31) := hid (by
    rw [hW1, hb2]
    have h9 := Blk.new ((w.alloc (.cells #[.int .i64 u0, .int .i64 u1] 31)).alloc (.cells #[.int .i64 v0, .int .i64 v1] 31)) #[.int .i64 0, .int .i64 0] 31
    simpa using h9)
  have HG : Hid (w.heap.size ≤ b2) := hid (by omega)
  obtain ⟨x0, x1, _, _⟩ := HB0.c2
  obtain ⟨y0, y1, _, _⟩ := HB1.c2
  obtain ⟨z0, z1, z2, z3⟩ := HB2.out.c2
  unfold usV Us.sub
  simp only
  clear hu hv HB0 HB1 hk2
  go_enter Tryd.func37, Tryd.ntmps37
  go_upto_region 1 with fail
  rw [← hW1, ← hb2, ← hb1, ← hb0]
  clear hW1 hb0 hb1 hb2
  go_wp2_with fail
  refine bodyPost_ret (v := .agg #[.int .i64 (u0 - v0), .int .i64 (u1 - v1)]) (by rw [results_17 (p := 4) (ty := 31) rfl _ _ _ _ _ ⟨b2, 0, none⟩ _ rfl (loadU (set17 HB2.out).1)]) rfl ?_
  exact ⟨rfl, HK1.out.then (set17 HB2.out).2 (fun k hk e => by have := HG.out; omega)⟩

set_option maxRecDepth 100000 in
set_option maxHeartbeats 400000 in
theorem uraised_any (w : World) (u : Us) : Calls Tryd.prog 33 #[usV u] w fun e w' => e = .returned (usV u.up) ∧ Same w w' := by
  obtain ⟨u0, u1⟩ := u
  obtain ⟨W1, hW1⟩ : ∃ W, W = (w.alloc (.cells #[.int .i64 u0, .int .i64 u1] 31)).alloc (.cells #[.int .i64 0, .int .i64 0] 31) := ⟨_, rfl⟩
  obtain ⟨b0, hb0⟩ : ∃ b, b = w.heap.size := ⟨_, rfl⟩
  obtain ⟨b1, hb1⟩ : ∃ b, b = w.heap.size + 1 := ⟨_, rfl⟩
  have HK1 : Hid (Same w W1) := hid (by rw [hW1]; exact ((Kept.refl _ w).alloc _).alloc _)
  have hk2 := fun (W : World) (o : Obj) => (show Same W (W.alloc o) from (Kept.refl _ W).alloc o)
  have HB0 : Blk W1 b0 #[.int .i64 u0, .int .i64 u1] 31 := by rw [hW1, hb0]; exact (Blk.new w _ _).kept (hk2 _ _) (fun f => f)
  have HB2 : Hid (Blk W1 b1 #[.int .i64 0, .int .i64 0] 31) := hid (by
    rw [hW1, hb1]
    have h9 := Blk.new (w.alloc (.cells #[.int .i64 u0, .int .i64 u1] 31)) #[.int .i64 0, .int .i64 0] 31
    simpa using h9)
  have HG : Hid (w.heap.size ≤ b1) := hid (by omega)
  obtain ⟨x0, x1, _, _⟩ := HB0.c2
  obtain ⟨z0, z1, z2, z3⟩ := HB2.out.c2
  obtain ⟨m0, hm0⟩ : ∃ m, m = max 0 u0 := ⟨_, rfl⟩
  obtain ⟨m1, hm1⟩ : ∃ m, m = max 0 u1 := ⟨_, rfl⟩
  unfold usV Us.up
  simp only
  clear HB0 hk2
  go_enter Tryd.func33, Tryd.ntmps33
  go_upto_region 1 with fail
  rw [← hW1, ← hb1, ← hb0]
  clear hW1 hb0 hb1
  go_wp2_with fail
  rw [← hm0, ← hm1]
  refine bodyPost_ret (v := .agg #[.int .i64 m0, .int .i64 m1]) (by rw [results_17 (p := 2) (ty := 31) rfl _ _ _ _ _ ⟨b1, 0, none⟩ _ rfl (loadU (set17 HB2.out).1)]) rfl ?_
  exact ⟨rfl, HK1.out.then (set17 HB2.out).2 (fun k hk e => by have := HG.out; omega)⟩

set_option maxRecDepth 100000 in
set_option maxHeartbeats 400000 in
theorem within_any (w : World) (u : Us) (l h : Int) (b : Bool) (hb : decide (u.inn l h) = b) : Calls Tryd.prog 30 #[usV u, .int .i64 l, .int .i64 h] w fun e w' => e = .returned (.bool b) ∧ Same w w' := by
  obtain ⟨u0, u1⟩ := u
  unfold Us.inn at hb
  simp only at hb
  obtain ⟨W1, hW1⟩ : ∃ W, W = w.alloc (.cells #[.int .i64 u0, .int .i64 u1] 31) := ⟨_, rfl⟩
  obtain ⟨b0, hb0⟩ : ∃ b, b = w.heap.size := ⟨_, rfl⟩
  have HK1 : Hid (Same w W1) := hid (by rw [hW1]; exact (Kept.refl _ w).alloc _)
  have HB0 : Blk W1 b0 #[.int .i64 u0, .int .i64 u1] 31 := by rw [hW1, hb0]; exact Blk.new w _ _
  obtain ⟨x0, x1, _, _⟩ := HB0.c2
  unfold usV
  simp only
  clear HB0
  cases B1 : decide (l ≤ u0) with
  | false =>
    obtain rfl : false = b := by rw [← hb]; have := of_decide_eq_false B1; simp [this]
    clear hb
    go_enter Tryd.func30, Tryd.ntmps30
    go_upto_region 1 with fail
    rw [← hW1, ← hb0]
    clear hW1 hb0
    go_wp2_with fail
    go_ret
    exact ⟨rfl, HK1.out⟩
  | true =>
    cases B2 : decide (u0 ≤ h) with
    | false =>
      obtain rfl : false = b := by rw [← hb]; have := of_decide_eq_false B2; simp [this]
      clear hb
      go_enter Tryd.func30, Tryd.ntmps30
      go_upto_region 1 with fail
      rw [← hW1, ← hb0]
      clear hW1 hb0
      go_wp2_with fail
      go_ret
      exact ⟨rfl, HK1.out⟩
    | true =>
      cases B3 : decide (l ≤ u1) with
      | false =>
        obtain rfl : false = b := by rw [← hb]; have := of_decide_eq_false B3; simp [this]
        clear hb
        go_enter Tryd.func30, Tryd.ntmps30
        go_upto_region 1 with fail
        rw [← hW1, ← hb0]
        clear hW1 hb0
        go_wp2_with fail
        go_ret
        exact ⟨rfl, HK1.out⟩
      | true =>
        obtain rfl : decide (u1 ≤ h) = b := by
          have h1 := of_decide_eq_true B1
          have h2 := of_decide_eq_true B2
          have h3 := of_decide_eq_true B3
          rw [← hb]
          simp [h1, h2, h3]
        clear hb
        go_enter Tryd.func30, Tryd.ntmps30
        go_upto_region 1 with fail
        rw [← hW1, ← hb0]
        clear hW1 hb0
        go_wp2_with fail
        go_ret
        exact ⟨rfl, HK1.out⟩

end Go.Proofs.YtjlkchjcmiljjaaDoor
