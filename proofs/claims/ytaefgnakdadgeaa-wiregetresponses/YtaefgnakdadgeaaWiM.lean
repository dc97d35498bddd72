/-
  Layer 19: GetRequest.
-/
import Derived.Test.YtaefgnakdadgeaaWiL
import Derived.Defers
import Derived.Recover
namespace Go.Proofs.Ytaefgnakdadgeaa
open Go.RowKit

theorem gaveNone19 (w : World) : Calls Try.prog 34 #[.nilIface] w fun e w' => e = .returned (.int .i64 0) ∧ w' = w := by
  go_enter Try.func34, Try.ntmps34
  go_wp2_with fail
  go_ret
  exact ⟨rfl, rfl⟩

theorem Try.asErrno19 (v : Value) (w : World) : (Instr.typeAssert (.iface 27 v) 20 27 false).run Try.prog w = .ok v w := by kernel_rfl

set_option maxRecDepth 100000 in
set_option maxHeartbeats 400000 in
theorem gaveSome19 (w : World) (n : Nat) : Calls Try.prog 34 #[.iface 27 (.int .i64 (n : Nat))] w fun e w' => e = .returned (.int .i64 (n : Nat)) ∧ w' = w := by
  have hta := Try.asErrno19 (.int .i64 (n : Nat)) w
  go_enter Try.func34, Try.ntmps34
  go_wp2_with fail
  go_ret
  exact ⟨rfl, rfl⟩

theorem qcatch_panicking (p : Nat) (x : Int) (n : Nat) (w : World) (hc : w.cell? ⟨p, 0, none⟩ = some (.int .i64 x)) (hz : w.frozen? ⟨p, 0, none⟩ = false) :
    CallsD Try.prog 33 #[.pointer (some ⟨p, 0, none⟩)] (.panicking [{ v := .iface 27 (.int .i64 (n : Nat)), recovered := false }]) w fun e u' w' =>
      e = .returned (.tuple #[]) ∧ u' = .panicking [{ v := .iface 27 (.int .i64 (n : Nat)), recovered := true }] ∧ w' = w.setCell ⟨p, 0, none⟩ (.int .i64 (n : Nat)) := by
  refine callsD_of_wpS Try.func33 rfl fun c₀ cs hu => ?_
  have HG := gaveSome19 w n
  apply wpS_region
  simp [wpOpsS, go_sem, recoverD, hu, Try.ntmps33]
  refine HG.mono ?_
  rintro e w' ⟨rfl, rfl⟩
  simp [go_sem, hc, hz, bodyPostS, results, Try.results33]

theorem qcatch_idle (p : Nat) (x : Int) (w : World) (hc : w.cell? ⟨p, 0, none⟩ = some (.int .i64 x)) (hz : w.frozen? ⟨p, 0, none⟩ = false) :
    CallsD Try.prog 33 #[.pointer (some ⟨p, 0, none⟩)] .returning w fun e u' w' => e = .returned (.tuple #[]) ∧ u' = .returning ∧ w' = w.setCell ⟨p, 0, none⟩ (.int .i64 0) := by
  refine callsD_of_wpS Try.func33 rfl fun c₀ cs hu => ?_
  have HG := gaveNone19 w
  apply wpS_region
  simp [wpOpsS, go_sem, recoverD, hu, Try.ntmps33]
  refine HG.mono ?_
  rintro e w' ⟨rfl, rfl⟩
  cases c₀
  simp_all [go_sem, bodyPostS, results, Try.results33]

theorem pcatch_panicking (p : Nat) (x : Int) (n : Nat) (w : World) (hc : w.cell? ⟨p, 0, none⟩ = some (.int .i64 x)) (hz : w.frozen? ⟨p, 0, none⟩ = false) :
    CallsD Try.prog 42 #[.pointer (some ⟨p, 0, none⟩)] (.panicking [{ v := .iface 27 (.int .i64 (n : Nat)), recovered := false }]) w fun e u' w' =>
      e = .returned (.tuple #[]) ∧ u' = .panicking [{ v := .iface 27 (.int .i64 (n : Nat)), recovered := true }] ∧ w' = w.setCell ⟨p, 0, none⟩ (.int .i64 (n : Nat)) := by
  refine callsD_of_wpS Try.func42 rfl fun c₀ cs hu => ?_
  have HG := gaveSome19 w n
  apply wpS_region
  simp [wpOpsS, go_sem, recoverD, hu, Try.ntmps42]
  refine HG.mono ?_
  rintro e w' ⟨rfl, rfl⟩
  simp [go_sem, hc, hz, bodyPostS, results, Try.results42]

theorem pcatch_idle (p : Nat) (x : Int) (w : World) (hc : w.cell? ⟨p, 0, none⟩ = some (.int .i64 x)) (hz : w.frozen? ⟨p, 0, none⟩ = false) :
    CallsD Try.prog 42 #[.pointer (some ⟨p, 0, none⟩)] .returning w fun e u' w' => e = .returned (.tuple #[]) ∧ u' = .returning ∧ w' = w.setCell ⟨p, 0, none⟩ (.int .i64 0) := by
  refine callsD_of_wpS Try.func42 rfl fun c₀ cs hu => ?_
  have HG := gaveNone19 w
  apply wpS_region
  simp [wpOpsS, go_sem, recoverD, hu, Try.ntmps42]
  refine HG.mono ?_
  rintro e w' ⟨rfl, rfl⟩
  cases c₀
  simp_all [go_sem, bodyPostS, results, Try.results42]

theorem results_cc {fn : Func} {p b : Tmp} {ty te : TypeId} (h : fn.results = #[.cell p ty, .cell b te]) (tmps : Array Value) (P : Program) (w w1 w2 w3 w4 : World) (x y : Addr) (v u : Value) (h1 : (asAddr (tmps.getD p undef)).run P w = .ok x w1) (h2 : (loadVar ty x).run P w1 = .ok v w2) (h3 : (asAddr (tmps.getD b undef)).run P w2 = .ok y w3) (h4 : (loadVar te y).run P w3 = .ok u w4) :
    (results fn tmps).run P w = .ok (.tuple #[v, u]) w4 := by
  simp only [results, h]
  simp only [Array.getD_eq_getD_getElem?] at h1 h3 ⊢
  simp [Sem.run_bind, Result.andThen, h1, h2, h3, h4]

def gqE (r : List Nat) : Nat := match gotQ r with
  | some _ => 0
  | none => gerrN r

def gqV (r : List Nat) : Rq := (gotQ r).getD (zeroQ 0)

set_option maxRecDepth 100000 in
set_option maxHeartbeats 1000000 in
theorem getreq_any (w : World) (a : Option Addr) (n cap : Nat) (r : List Nat) (h : In19 w a n cap r) :
    Calls Try.prog 15 #[.slice a n cap] w fun e w' => e = .returned (.tuple #[.agg (rqV (gqV r)), .int .i64 (gqE r : Nat)]) ∧ Same w w' := by
  have hmf : ∀ (fn : Fn) (first cap : Array Value) (w : World), (Instr.makeFunc fn first cap).run Try.prog w = .ok (.func fn first cap) w := fun _ _ _ _ => rfl
  obtain ⟨W1, hW1⟩ : ∃ W, W = w.alloc (.cells #[.int .i64 0, .int .i64 0, .string ⟨#[]⟩, .string ⟨#[]⟩, .string ⟨#[]⟩, .int .i64 0, .int .i64 0, .string ⟨#[]⟩] 24) := ⟨_, rfl⟩
  obtain ⟨p, hp⟩ : ∃ b, b = w.heap.size := ⟨_, rfl⟩
  have HK1 : Hid (Same w W1) := hid (by rw [hW1]; exact (Kept.refl _ w).alloc _)
  have HB1 : Hid (Ob W1 p 24 (zeroQ 0).cs) := hid (by rw [hW1, hp]; exact Blk.new w (rqV (zeroQ 0)) _)
  have HPN : Hid (w.heap.size ≤ p) := hid (by omega)
  obtain ⟨W2, hW2⟩ : ∃ W, W = W1.alloc (.cells #[.int .i64 0] 27) := ⟨_, rfl⟩
  obtain ⟨eb, heb2⟩ : ∃ b, b = W1.heap.size := ⟨_, rfl⟩
  have heb : eb = p + 1 := by rw [heb2, hW1, hp]; simp
  have HK2 : Hid (Same w W2) := hid (by rw [hW2]; exact HK1.out.alloc _)
  have HB2 : Hid (Ob W2 p 24 (zeroQ 0).cs) := hid (by rw [hW2]; exact HB1.out.kept ((Kept.refl (fun _ => False) _).alloc _) (fun f => f))
  have HPE : Hid (p < eb) := hid (by omega)
  have HE2 : Hid (Blk W2 eb #[.int .i64 0] 27) := hid (by rw [hW2, heb2]; exact Blk.new W1 _ _)
  have HR := readreq_any W2 a n cap r (h.kept HK2.out)
  clear h
  go_enter_defers Try.func15, Try.ntmps15
  go_upto_region 1 with fail
  rw [← hW1, ← hp]
  rw [← hW2, ← heb]
  clear hW1 hp hW2 heb heb2
  cases hq : gotQ r with
  | none =>
    have HQ := hid hq
    clear hq
    go_wp2_with fail
    refine HR.mono ?_
    rintro e w3 ⟨_, h2, hk3⟩
    obtain rfl := h2 HQ.out
    have HK3 := hid (Same.trans HK2.out hk3)
    have HB3 := hid (HB2.out.kept hk3 (fun f => f))
    have HE3 := hid (HE2.out.kept hk3 (fun f => f))
    clear h2 hk3 HR
    unfold pan19
    go_wp2_with fail
    refine leaves_cons (f := 33) (args := #[.pointer (some ⟨eb, 0, none⟩)]) (by simp) (by simp [go_sem]) ?_
    refine (qcatch_panicking eb 0 (gerrN r) w3 (HE3.out.cell 0) (HE3.out.frozen 0)).mono ?_
    rintro e u' w'' ⟨rfl, rfl, rfl⟩
    have hks : Kept (· = eb) w3 (w3.setCell ⟨eb, 0, none⟩ (.int .i64 (gerrN r : Nat))) := (Kept.refl (· = eb) w3).setCell _ _ (.inl rfl)
    have hb4 := HB3.out.kept hks (by have := HPE.out; omega)
    have hl1 := loadQ hb4
    have hd4 : Blk (w3.setCell ⟨eb, 0, none⟩ (.int .i64 (gerrN r : Nat))) eb #[.int .i64 (gerrN r : Nat)] 27 := by simpa using HE3.out.set 0 (.int .i64 (gerrN r : Nat))
    have d0 : (w3.setCell ⟨eb, 0, none⟩ (.int .i64 (gerrN r : Nat))).cell? ⟨eb, 0, none⟩ = some (.int .i64 (gerrN r : Nat)) := hd4.cell 0
    have hl2 : (loadVar 27 ⟨eb, 0, none⟩).run Try.prog (w3.setCell ⟨eb, 0, none⟩ (.int .i64 (gerrN r : Nat))) = .ok (.int .i64 (gerrN r : Nat)) (w3.setCell ⟨eb, 0, none⟩ (.int .i64 (gerrN r : Nat))) := by simp [go_sem, d0]
    have hqe : gqE r = gerrN r := by unfold gqE; rw [HQ.out]
    have hqv : gqV r = zeroQ 0 := by unfold gqV; rw [HQ.out]; rfl
    simp [Leaves, settle]
    refine ⟨_, results_cc (p := 2) (b := 3) (ty := 24) (te := 27) rfl _ _ _ _ _ _ _ ⟨p, 0, none⟩ ⟨eb, 0, none⟩ _ _ rfl hl1 rfl hl2, by rw [hqe, hqv], Same.then HK3.out hks (fun x hx e => by have h1 := HPE.out; have h2 := HPN.out; omega)⟩
  | some q =>
    have HQ := hid hq
    clear hq
    go_wp2_with fail
    refine HR.mono ?_
    rintro e w3 ⟨h1, _, hk3⟩
    obtain rfl := h1 q HQ.out
    have HK3 := hid (Same.trans HK2.out hk3)
    have HB3 := hid (HB2.out.kept hk3 (fun f => f))
    have HE3 := hid (HE2.out.kept hk3 (fun f => f))
    obtain ⟨t0, t1, t2, t3, t4, t5, t6, t7⟩ := HB3.out.eight
    have z0 := HB3.out.frozen 0
    have z1 := HB3.out.frozen 1
    have z2 := HB3.out.frozen 2
    have z3 := HB3.out.frozen 3
    have z4 := HB3.out.frozen 4
    have z5 := HB3.out.frozen 5
    have z6 := HB3.out.frozen 6
    have z7 := HB3.out.frozen 7
    have e0 : w3.cell? ⟨eb, 0, none⟩ = some (.int .i64 0) := HE3.out.cell 0
    have f0 := HE3.out.frozen 0
    have hb3 : Blk w3 p #[.int .i64 0, .int .i64 0, .string ⟨#[]⟩, .string ⟨#[]⟩, .string ⟨#[]⟩, .int .i64 0, .int .i64 0, .string ⟨#[]⟩] 24 := HB3.out
    have HS3 := hid (set8q (q := q) hb3)
    have hbe := hid (HE3.out.kept HS3.out.2 (by have := HPE.out; omega))
    have hpe : eb ≠ p := by have := HPE.out; omega
    have hpe2 : p ≠ eb := by have := HPE.out; omega
    clear h1 hk3 HR hb3
    unfold rqV
    go_wp2_with fail
    obtain ⟨w4, hw4⟩ : ∃ W, W = ((((((((w3.setCell ⟨p, 0, none⟩ (.int .i64 q.k)).setCell ⟨p, 1, none⟩ (.int .i64 q.x)).setCell ⟨p, 2, none⟩ (.string q.a)).setCell ⟨p, 3, none⟩ (.string q.e)).setCell ⟨p, 4, none⟩ (.string q.d)).setCell ⟨p, 5, none⟩ (.int .i64 q.f)).setCell ⟨p, 6, none⟩ (.int .i64 q.m)).setCell ⟨p, 7, none⟩ (.string q.o)) := ⟨_, rfl⟩
    have hs3 := HS3.out
    have hbe4 := hbe.out
    rw [← hw4] at hs3 hbe4 ⊢
    clear hw4
    obtain ⟨w5, hw5⟩ : ∃ W, W = w4.setCell ⟨eb, 0, none⟩ (.int .i64 0) := ⟨_, rfl⟩
    have hb5 : Blk w5 eb #[.int .i64 0] 27 := by rw [hw5]; simpa using hbe4.set 0 (.int .i64 0)
    have hk5 : Kept (· = eb) w4 (w5.setCell ⟨eb, 0, none⟩ (.int .i64 0)) := by rw [hw5]; exact ((Kept.refl (· = eb) w4).setCell _ _ (.inl rfl)).setCell _ _ (.inl rfl)
    rw [← hw5]
    refine leaves_cons (f := 33) (args := #[.pointer (some ⟨eb, 0, none⟩)]) (by simp) (by simp [go_sem]) ?_
    refine (qcatch_idle eb 0 w5 (hb5.cell 0) (hb5.frozen 0)).mono ?_
    rintro e u' w'' ⟨rfl, rfl, rfl⟩
    have hl1 := loadQ (hs3.1.kept hk5 hpe2)
    have hd6 : Blk (w5.setCell ⟨eb, 0, none⟩ (.int .i64 0)) eb #[.int .i64 0] 27 := by simpa using hb5.set 0 (.int .i64 0)
    have d0 : (w5.setCell ⟨eb, 0, none⟩ (.int .i64 0)).cell? ⟨eb, 0, none⟩ = some (.int .i64 0) := hd6.cell 0
    have hl2 : (loadVar 27 ⟨eb, 0, none⟩).run Try.prog (w5.setCell ⟨eb, 0, none⟩ (.int .i64 0)) = .ok (.int .i64 0) (w5.setCell ⟨eb, 0, none⟩ (.int .i64 0)) := by simp [go_sem, d0]
    have hqe : gqE r = 0 := by unfold gqE; rw [HQ.out]
    have hqv : gqV r = q := by unfold gqV; rw [HQ.out]; rfl
    simp [Leaves, settle]
    refine ⟨_, results_cc (p := 2) (b := 3) (ty := 24) (te := 27) rfl _ _ _ _ _ _ _ ⟨p, 0, none⟩ ⟨eb, 0, none⟩ _ _ rfl hl1 rfl hl2, by rw [hqe, hqv]; rfl, ?_⟩
    refine Same.then HK3.out (Kept.trans hs3.2 hk5 (H := fun k => k = p ∨ k = eb) (fun _ _ f => .inl f) (fun _ _ f => .inr f)) (fun x hx e => by have h1 := HPE.out; have h2 := HPN.out; omega)

end Go.Proofs.Ytaefgnakdadgeaa
