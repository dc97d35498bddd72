/-
  Layer 19: GetResponse.
-/
import Derived.Test.YtaefgnakdadgeaaWiR
namespace Go.Proofs.Ytaefgnakdadgeaa
open Go.RowKit

def grE (r : List Nat) : Nat := match gotR r with
  | some _ => 0
  | none => 190

def grS (r : List Nat) : Rs := match gotR r with
  | some x => x.1
  | none => zeroR 0

def grL (r : List Nat) : List ByteArray := match gotR r with
  | some x => x.2
  | none => []

/-- What GetResponse tells. -/
def GrA (w w' : World) (r : List Nat) (e : Ending) : Prop := ∃ ao n c, e = .returned (.tuple #[.agg (rsV (grS r) (.slice ao n c)), .int .i64 (grE r : Nat)]) ∧ RowC w.heap.size 9 1 nsE w' (.slice ao n c) (grL r) ∧ Same w w'

set_option maxRecDepth 100000 in
set_option maxHeartbeats 1000000 in
theorem getres_any (w : World) (a : Option Addr) (n cap : Nat) (r : List Nat) (h : In19 w a n cap r) :
    Calls Try.prog 22 #[.slice a n cap] w fun e w' => GrA w w' r e := by
  have hmf : ∀ (fn : Fn) (first cap : Array Value) (w : World), (Instr.makeFunc fn first cap).run Try.prog w = .ok (.func fn first cap) w := fun _ _ _ _ => rfl
  obtain ⟨W1, hW1⟩ : ∃ W, W = w.alloc (.cells #[.int .i64 0, .int .i64 0, .int .i64 0, .int .i64 0, .string ⟨#[]⟩, .slice none 0 0, .int .i64 0, .int .i64 0] 40) := ⟨_, rfl⟩
  obtain ⟨p, hp⟩ : ∃ b, b = w.heap.size := ⟨_, rfl⟩
  have HK1 : Hid (Same w W1) := hid (by rw [hW1]; exact (Kept.refl _ w).alloc _)
  have HB1 : Hid (Ob W1 p 40 ((zeroR 0).cs nilV)) := hid (by rw [hW1, hp]; exact Blk.new w (rsV (zeroR 0) nilV) _)
  have HPN : Hid (w.heap.size ≤ p) := hid (by omega)
  obtain ⟨W2, hW2⟩ : ∃ W, W = W1.alloc (.cells #[.int .i64 0] 27) := ⟨_, rfl⟩
  obtain ⟨eb, heb2⟩ : ∃ b, b = W1.heap.size := ⟨_, rfl⟩
  have heb : eb = p + 1 := by rw [heb2, hW1, hp]; simp
  have HK2 : Hid (Same w W2) := hid (by rw [hW2]; exact HK1.out.alloc _)
  have HB2 : Hid (Ob W2 p 40 ((zeroR 0).cs nilV)) := hid (by rw [hW2]; exact HB1.out.kept ((Kept.refl (fun _ => False) _).alloc _) (fun f => f))
  have HPE : Hid (p < eb) := hid (by omega)
  have HE2 : Hid (Blk W2 eb #[.int .i64 0] 27) := hid (by rw [hW2, heb2]; exact Blk.new W1 _ _)
  have HR := readres_any W2 a n cap r (h.kept HK2.out)
  clear h
  go_enter_defers Try.func22, Try.ntmps22
  go_upto_region 1 with fail
  rw [← hW1, ← hp]
  rw [← hW2, ← heb]
  clear hW1 hp hW2 heb heb2
  cases hq : gotR r with
  | none =>
    have HQ := hid hq
    clear hq
    go_wp2_with fail
    refine HR.mono ?_
    rintro e w3 ⟨_, h2, hk3⟩
    obtain rfl := h2 HQ.out
    have HK3 := hid (Same.trans HK2.out hk3)
    have HB3 := hid (HB2.out.kept hk3 (fun f => f))
    have HE3 := hid (HE2.out.kept hk3 (fun f => f))
    clear h2 hk3 HR
    unfold pan19
    go_wp2_with fail
    refine leaves_cons (f := 42) (args := #[.pointer (some ⟨eb, 0, none⟩)]) (by simp) (by simp [go_sem]) ?_
    refine (pcatch_panicking eb 0 190 w3 (HE3.out.cell 0) (HE3.out.frozen 0)).mono ?_
    rintro e u' w'' ⟨rfl, rfl, rfl⟩
    have hks : Kept (· = eb) w3 (w3.setCell ⟨eb, 0, none⟩ (.int .i64 190)) := (Kept.refl (· = eb) w3).setCell _ _ (.inl rfl)
    have hb4 := HB3.out.kept hks (by have := HPE.out; omega)
    have hl1 := loadR hb4
    have hd4 : Blk (w3.setCell ⟨eb, 0, none⟩ (.int .i64 190)) eb #[.int .i64 190] 27 := by simpa using HE3.out.set 0 (.int .i64 190)
    have d0 : (w3.setCell ⟨eb, 0, none⟩ (.int .i64 190)).cell? ⟨eb, 0, none⟩ = some (.int .i64 190) := hd4.cell 0
    have hl2 : (loadVar 27 ⟨eb, 0, none⟩).run Try.prog (w3.setCell ⟨eb, 0, none⟩ (.int .i64 190)) = .ok (.int .i64 190) (w3.setCell ⟨eb, 0, none⟩ (.int .i64 190)) := by simp [go_sem, d0]
    have hqe : grE r = 190 := by unfold grE; rw [HQ.out]
    have hqv : grS r = zeroR 0 := by unfold grS; rw [HQ.out]
    have hql : grL r = [] := by unfold grL; rw [HQ.out]
    simp [Leaves, settle]
    refine ⟨_, results_cc (p := 2) (b := 3) (ty := 40) (te := 27) rfl _ _ _ _ _ _ _ ⟨p, 0, none⟩ ⟨eb, 0, none⟩ _ _ rfl hl1 rfl hl2, none, 0, 0, by rw [hqe, hqv]; rfl, by rw [hql]; exact RowC.nil, Same.then HK3.out hks (fun x hx e => by have h1 := HPE.out; have h2 := HPN.out; omega)⟩
  | some x =>
    obtain ⟨q, L⟩ := x
    have HQ := hid hq
    clear hq
    go_wp2_with fail
    refine HR.mono ?_
    rintro e w3 ⟨h1, _, hk3⟩
    obtain ⟨ra, rn, rc, rfl, hrow⟩ := h1 q L HQ.out
    have HROW := hid hrow
    have HSZ2 : Hid (eb < W2.heap.size ∧ w.heap.size ≤ W2.heap.size) := hid ⟨HE2.out.lt, HK2.out.size⟩
    have HK3 := hid (Same.trans HK2.out hk3)
    have HB3 := hid (HB2.out.kept hk3 (fun f => f))
    have HE3 := hid (HE2.out.kept hk3 (fun f => f))
    obtain ⟨t0, t1, t2, t3, t4, t5, t6, t7⟩ := HB3.out.eightR
    have z0 := HB3.out.frozen 0
    have z1 := HB3.out.frozen 1
    have z2 := HB3.out.frozen 2
    have z3 := HB3.out.frozen 3
    have z4 := HB3.out.frozen 4
    have z5 := HB3.out.frozen 5
    have z6 := HB3.out.frozen 6
    have z7 := HB3.out.frozen 7
    have e0 : w3.cell? ⟨eb, 0, none⟩ = some (.int .i64 0) := HE3.out.cell 0
    have f0 := HE3.out.frozen 0
    have hb3 : Blk w3 p #[.int .i64 0, .int .i64 0, .int .i64 0, .int .i64 0, .string ⟨#[]⟩, .slice none 0 0, .int .i64 0, .int .i64 0] 40 := HB3.out
    have HS3 := hid (set8r (q := q) (v := .slice ra rn rc) hb3)
    have hbe := hid (HE3.out.kept HS3.out.2 (by have := HPE.out; omega))
    have hpe : eb ≠ p := by have := HPE.out; omega
    have hpe2 : p ≠ eb := by have := HPE.out; omega
    clear h1 hk3 HR hb3 hrow
    unfold rsV
    go_wp2_with fail
    obtain ⟨w4, hw4⟩ : ∃ W, W = ((((((((w3.setCell ⟨p, 0, none⟩ (.int .i64 q.c)).setCell ⟨p, 1, none⟩ (.int .i64 q.x)).setCell ⟨p, 2, none⟩ (.int .i64 q.a)).setCell ⟨p, 3, none⟩ (.int .i64 q.z)).setCell ⟨p, 4, none⟩ (.string q.d)).setCell ⟨p, 5, none⟩ (.slice ra rn rc)).setCell ⟨p, 6, none⟩ (.int .i64 q.b)).setCell ⟨p, 7, none⟩ (.int .i64 q.e)) := ⟨_, rfl⟩
    have hs3 := HS3.out
    have hbe4 := hbe.out
    rw [← hw4] at hs3 hbe4 ⊢
    clear hw4
    obtain ⟨w5, hw5⟩ : ∃ W, W = w4.setCell ⟨eb, 0, none⟩ (.int .i64 0) := ⟨_, rfl⟩
    have hb5 : Blk w5 eb #[.int .i64 0] 27 := by rw [hw5]; simpa using hbe4.set 0 (.int .i64 0)
    have hk5 : Kept (· = eb) w4 (w5.setCell ⟨eb, 0, none⟩ (.int .i64 0)) := by rw [hw5]; exact ((Kept.refl (· = eb) w4).setCell _ _ (.inl rfl)).setCell _ _ (.inl rfl)
    rw [← hw5]
    refine leaves_cons (f := 42) (args := #[.pointer (some ⟨eb, 0, none⟩)]) (by simp) (by simp [go_sem]) ?_
    refine (pcatch_idle eb 0 w5 (hb5.cell 0) (hb5.frozen 0)).mono ?_
    rintro e u' w'' ⟨rfl, rfl, rfl⟩
    have hl1 := loadR (hs3.1.kept hk5 hpe2)
    have hd6 : Blk (w5.setCell ⟨eb, 0, none⟩ (.int .i64 0)) eb #[.int .i64 0] 27 := by simpa using hb5.set 0 (.int .i64 0)
    have d0 : (w5.setCell ⟨eb, 0, none⟩ (.int .i64 0)).cell? ⟨eb, 0, none⟩ = some (.int .i64 0) := hd6.cell 0
    have hl2 : (loadVar 27 ⟨eb, 0, none⟩).run Try.prog (w5.setCell ⟨eb, 0, none⟩ (.int .i64 0)) = .ok (.int .i64 0) (w5.setCell ⟨eb, 0, none⟩ (.int .i64 0)) := by simp [go_sem, d0]
    have hqe : grE r = 0 := by unfold grE; rw [HQ.out]
    have hqv : grS r = q := by unfold grS; rw [HQ.out]
    have hql : grL r = L := by unfold grL; rw [HQ.out]
    have hk6 : Kept (fun k => k = p ∨ k = eb) w3 (w5.setCell ⟨eb, 0, none⟩ (.int .i64 0)) := Kept.trans hs3.2 hk5 (fun _ _ f => .inl f) (fun _ _ f => .inr f)
    simp [Leaves, settle]
    refine ⟨_, results_cc (p := 2) (b := 3) (ty := 40) (te := 27) rfl _ _ _ _ _ _ _ ⟨p, 0, none⟩ ⟨eb, 0, none⟩ _ _ rfl hl1 rfl hl2, ra, rn, rc, by rw [hqe, hqv]; rfl, ?_, ?_⟩
    · rw [hql]
      exact (HROW.out.kept hk6 (fun k e f => by have h1 := HROW.out.ge e; have h2 := HSZ2.out; have h3 := HPE.out; omega)).base HSZ2.out.2
    · exact Same.then HK3.out hk6 (fun x hx e => by have h1 := HPE.out; have h2 := HPN.out; omega)

end Go.Proofs.Ytaefgnakdadgeaa
