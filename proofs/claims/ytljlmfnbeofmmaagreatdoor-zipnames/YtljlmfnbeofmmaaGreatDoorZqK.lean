import Derived.Test.YtljlmfnbeofmmaaGreatDoorZqH
import Derived.Test.YtljlmfnbeofmmaaGreatDoorZqJ
namespace Go.Proofs.YtljlmfnbeofmmaaGreatDoor
open Go.RowKit

theorem end8_ok {r : List Nat} {p n f : Nat} (h : end8 r p = .ok (n, f)) : f ≤ p ∧ n ≤ 64 := by
 unfold end8 at h
 split at h
 ·cases h
 ·split at h
  ·cases h
  ·split at h
   ·cases h
   ·simp only [Except.ok.injEq, Prod.mk.injEq] at h
    omega

theorem open_any (w : World) (a : Option Addr) (n c : Nat) (bs : List Nat) (hs : Src w (fun k => k < w.heap.size) (.slice a n c) bs) (hL : n = bs.length) (hb : ∀ x ∈ bs, x < 256) (hcap : n ≤ c) (hn : n ≤ 100000000) (hx : Mxl w) :
  Calls Tryz.prog 51 #[.slice a n c] w fun e w' => OpnA w w' (opf8 bs) e := by
 by_cases h1 : 1048576 < n
 ·refine (open_long w a n c h1 hn).mono ?_
  rintro e w' ⟨he, hk⟩
  exact OpnA.bad (by unfold opf8; rw [if_pos (by omega)]) he hk
 ·by_cases h2 : n < 22
  ·refine (open_short w a n c h2).mono ?_
   rintro e w' ⟨he, hk⟩
   exact OpnA.bad (by unfold opf8; rw [if_neg (by omega), if_pos (by omega)]) he hk
  ·obtain ⟨b, o, ha⟩ : ∃ b o, a = some ⟨b, o, none⟩ := by
    obtain ⟨ao, cap, e, h9⟩ := id hs
    simp only [Value.slice.injEq] at e
    obtain ⟨b, o, e4, _⟩ := h9 (fun e => by rw [e] at hL; simp at hL; omega)
    exact ⟨b, o, by rw [e.1]; exact e4⟩
   subst ha
   have e1 : opf8 bs = match end8 (bs.drop (n - 22)) (n - 22) with
     | .error e => .error e
     | .ok x => opn8 x.2 x.1 (bs.take x.2) ((bs.take (n - 22)).drop x.2) [] := by
    unfold opf8
    rw [if_neg (by omega), if_neg (by omega), hL]
    rfl
   cases he : end8 (bs.drop (n - 22)) (n - 22) with
   | error x =>
    rw [he] at e1
    refine (open_end w b o c bs n hL hs hb hcap (by omega) (by omega) x he).mono ?_
    rintro e w' ⟨he, hk⟩
    exact OpnA.bad e1 he hk
   | ok x =>
    obtain ⟨cnt, fs⟩ := x
    rw [he] at e1
    obtain ⟨h3, h4⟩ := end8_ok he
    rw [e1]
    exact open_loop w b o c bs n hL hs hb hcap (by omega) (by omega) cnt fs he h3 h4 hx

theorem unpz_zero {N : Nat} {w : World} {x : Itv} {y : It} (h : ItAt N w x y) (hz : y.lab.way = 0) : Calls Tryz.prog 59 #[.agg (itZ x.m (.slice x.a x.n x.c))] w fun e w' => UnpZ w w' (unp8 y) e := by
 rw [h.lab]
 obtain ⟨a, ha⟩ := h.ck
 have hl : y.bytes.length ≤ 100000 := by have := (chk8_zero ha).2.2.2.2.1; have := h.pk; omega
 by_cases hq : more 0 y.bytes = y.lab.sum
 ·have e : unp8 y = .ok y.bytes := by unfold unp8; rw [if_neg (by omega), if_pos hq]
  rw [e]
  exact unpack0_good w y.lab x.a x.n x.c _ y.bytes h.src h.byte hl hz hq
 ·have e : unp8 y = .error 83 := by unfold unp8; rw [if_neg (by omega), if_neg hq]
  rw [e]
  exact unpack0_bad w y.lab x.a x.n x.c _ y.bytes h.src h.byte hl hz hq

def UnpOk (w : World) (L : List It) : Prop := ∀ (N : Nat) (wx : World) (x : Itv) (y : It), y ∈ L → ItAt N wx x y → Same w wx → Calls Tryz.prog 59 #[.agg (itZ x.m (.slice x.a x.n x.c))] wx fun e w' => UnpZ wx w' (unp8 y) e

theorem UnpOk.zero (w : World) (L : List It) (h : ∀ y ∈ L, y.lab.way = 0) : UnpOk w L := fun _ _ _ y hy hi _ => unpz_zero hi (h y hy)

def rd8 (bs : List Nat) : Except Nat (List (List Nat × List Nat)) := match opf8 bs with
 | .error e => .error e
 | .ok L => all8 L

def RdA (w w' : World) (o : Except Nat (List (List Nat × List Nat))) (e : Ending) : Prop :=
 (∀ k, o = .error k → e = .returned (.tuple #[.slice none 0 0, .int .i64 (k : Nat)])) ∧ (∀ D, o = .ok D → ∃ a n c, e = .returned (.tuple #[.slice a n c, .int .i64 0]) ∧ RowC w.heap.size 34 2 enE w' (.slice a n c) (D.map enOf) ∧ n = D.length) ∧ Same w w'

set_option maxRecDepth 100000 in
set_option maxHeartbeats 400000 in
theorem read_any (w : World) (a : Option Addr) (n c : Nat) (bs : List Nat) (hs : Src w (fun k => k < w.heap.size) (.slice a n c) bs) (hL : n = bs.length) (hb : ∀ x ∈ bs, x < 256) (hcap : n ≤ c) (hn : n ≤ 100000000) (hx : Mxl w) (hU : ∀ L, opf8 bs = .ok L → UnpOk w L) :
  Calls Tryz.prog 20 #[.slice a n c] w fun e w' => RdA w w' (rd8 bs) e := by
 have hmf : ∀ (fn : Fn) (first cap : Array Value) (w : World), (Instr.makeFunc fn first cap).run Tryz.prog w = .ok (.func fn first cap) w := fun _ _ _ _ => rfl
 obtain ⟨W1, hW1⟩ : ∃ W, W = w.alloc (.cells #[.int .i64 0] 27) := ⟨_, rfl⟩
 obtain ⟨eb, heb⟩ : ∃ b, b = w.heap.size := ⟨_, rfl⟩
 have HK1 : Hid (Same w W1) := hid (by rw [hW1]; exact (Kept.refl _ w).alloc _)
 have HB1 : Hid (Blk W1 eb #[.int .i64 0] 27) := hid (by rw [hW1, heb]; exact Blk.new w _ _)
 have HO := open_any W1 a n c bs ((hs.kept HK1.out (fun _ _ _ f => f)).mono (fun k hk => Nat.lt_of_lt_of_le hk HK1.out.size)) hL hb hcap hn (hx.kept HK1.out (fun f => f))
 have HEB : Hid (eb = w.heap.size) := heb
 have HU : Hid (∀ L, opf8 bs = .ok L → UnpOk w L) := hU
 clear hs hL hb hcap hx hU
 go_enter_defers Tryz.func20, Tryz.ntmps20
 go_wp2_with fail
 rw [← hW1, ← heb]
 clear hW1 heb
 refine HO.mono ?_
 intro e w1 h1
 obtain ⟨hbad, hgood, hk1⟩ := h1
 have HB2 : Hid (Blk w1 eb #[.int .i64 0] 27) := hid (HB1.out.kept hk1 (fun f => f))
 have HK2 : Hid (Same w w1) := hid (Same.trans HK1.out hk1)
 cases ho : opf8 bs with
 | error k =>
  obtain rfl := hbad k ho
  have HE : Hid (rd8 bs = .error k) := hid (by unfold rd8; rw [ho])
  clear hk1 HO hbad hgood ho
  unfold pan8
  go_wp2_with fail
  have c0 : w1.cell? ⟨eb, 0, none⟩ = some (.int .i64 0) := HB2.out.cell 0
  have z0 := HB2.out.frozen 0
  have d0 : (w1.setCell ⟨eb, 0, none⟩ (.int .i64 (k : Nat))).cell? ⟨eb, 0, none⟩ = some (.int .i64 (k : Nat)) := by have := (HB2.out.set 0 (.int .i64 (k : Nat))).cell 0; simpa using this
  have HKF : Hid (Same w (w1.setCell ⟨eb, 0, none⟩ (.int .i64 (k : Nat)))) := hid (HK2.out.setCell _ _ (.inr (by have h9 := HEB.out; show w.heap.size ≤ eb; omega)))
  refine leaves_cons (f := 53) (args := #[.pointer (some ⟨eb, 0, none⟩)]) (by simp) (by simp [go_sem]) ?_
  refine (rcatch_panicking eb 0 k w1 c0 z0).mono ?_
  rintro e u' w'' ⟨rfl, rfl, rfl⟩
  simp [Leaves, settle, results, Tryz.results20, go_sem, d0]
  exact ⟨fun k' e => by rw [HE.out] at e; simp only [Except.error.injEq] at e; subst e; rfl, fun D e => (by rw [HE.out] at e; cases e), HKF.out⟩
 | ok L =>
  obtain ⟨a1, n1, c1, xs, rfl, hr1, hi1, hn1, hc1, h64⟩ := hgood L ho
  have HE : Hid (rd8 bs = all8 L) := hid (by unfold rd8; rw [ho])
  have HUL := HU.out L ho
  have HA := unpackAll_any W1.heap.size w1 a1 n1 c1 xs L hr1 hi1 hn1 h64 (fun j x y wx hx hy hk => HUL W1.heap.size wx x y (List.mem_of_getElem? hy) ((hi1.2 j x y hx hy).kept hk (fun _ _ f => f)) (Same.trans HK2.out hk))
  clear hk1 HO hbad hgood ho hr1 hi1 hn1 hc1 HUL
  go_wp2_with fail
  refine HA.mono ?_
  intro e w2 h2
  obtain ⟨hbad, hgood, hk2⟩ := h2
  have HB3 : Hid (Blk w2 eb #[.int .i64 0] 27) := hid (HB2.out.kept hk2 (fun f => f))
  have HK3 : Hid (Same w w2) := hid (Same.trans HK2.out hk2)
  have c0 : w2.cell? ⟨eb, 0, none⟩ = some (.int .i64 0) := HB3.out.cell 0
  have z0 := HB3.out.frozen 0
  cases hq : all8 L with
  | error k =>
   obtain rfl := hbad k hq
   have HE : Hid (rd8 bs = .error k) := hid (by rw [HE.out, hq])
   clear hbad hgood hk2 hq HA
   unfold pan8
   go_wp2_with fail
   have d0 : (w2.setCell ⟨eb, 0, none⟩ (.int .i64 (k : Nat))).cell? ⟨eb, 0, none⟩ = some (.int .i64 (k : Nat)) := by have := (HB3.out.set 0 (.int .i64 (k : Nat))).cell 0; simpa using this
   have HKF : Hid (Same w (w2.setCell ⟨eb, 0, none⟩ (.int .i64 (k : Nat)))) := hid (HK3.out.setCell _ _ (.inr (by have h9 := HEB.out; show w.heap.size ≤ eb; omega)))
   refine leaves_cons (f := 53) (args := #[.pointer (some ⟨eb, 0, none⟩)]) (by simp) (by simp [go_sem]) ?_
   refine (rcatch_panicking eb 0 k w2 c0 z0).mono ?_
   rintro e u' w'' ⟨rfl, rfl, rfl⟩
   simp [Leaves, settle, results, Tryz.results20, go_sem, d0]
   exact ⟨fun k' e => by rw [HE.out] at e; simp only [Except.error.injEq] at e; subst e; rfl, fun D e => (by rw [HE.out] at e; cases e), HKF.out⟩
  | ok D =>
   obtain ⟨a2, n2, c2, rfl, hr2, hn2⟩ := hgood D hq
   have HE : Hid (rd8 bs = .ok D) := hid (by rw [HE.out, hq])
   have HR2 : Hid (RowC w.heap.size 34 2 enE w2 (.slice a2 n2 c2) (D.map enOf) ∧ n2 = D.length) := hid ⟨hr2.base HK2.out.size, hn2⟩
   clear hbad hgood hk2 hq HA hr2 hn2
   go_wp2_with fail
   obtain ⟨w3, hw3⟩ : ∃ W, W = w2.setCell ⟨eb, 0, none⟩ (.int .i64 0) := ⟨_, rfl⟩
   have hb3 : Blk w3 eb #[.int .i64 0] 27 := by rw [hw3]; have := HB3.out.set 0 (.int .i64 0); simpa using this
   have HKF : Hid (Same w (w3.setCell ⟨eb, 0, none⟩ (.int .i64 0))) := hid (by rw [hw3]; exact (HK3.out.setCell _ _ (.inr (by have h9 := HEB.out; show w.heap.size ≤ eb; omega))).setCell _ _ (.inr (by have h9 := HEB.out; show w.heap.size ≤ eb; omega)))
   have hks : Kept (· = eb) w2 (w3.setCell ⟨eb, 0, none⟩ (.int .i64 0)) := by rw [hw3]; exact ((Kept.refl (· = eb) w2).setCell _ _ (.inl rfl)).setCell _ _ (.inl rfl)
   have HRF : Hid (RowC w.heap.size 34 2 enE (w3.setCell ⟨eb, 0, none⟩ (.int .i64 0)) (.slice a2 n2 c2) (D.map enOf)) := hid (HR2.out.1.kept hks (fun j e f => HR2.out.1.off HB3.out (by decide) (by rw [e, f])))
   have d0 : (w3.setCell ⟨eb, 0, none⟩ (.int .i64 0)).cell? ⟨eb, 0, none⟩ = some (.int .i64 0) := by have := (hb3.set 0 (.int .i64 0)).cell 0; simpa using this
   rw [← hw3]
   refine leaves_cons (f := 53) (args := #[.pointer (some ⟨eb, 0, none⟩)]) (by simp) (by simp [go_sem]) ?_
   refine (rcatch_idle eb 0 w3 (hb3.cell 0) (hb3.frozen 0)).mono ?_
   rintro e u' w'' ⟨rfl, rfl, rfl⟩
   simp [Leaves, settle, results, Tryz.results20, go_sem, d0]
   exact ⟨fun k' e => (by rw [HE.out] at e; cases e), fun D' e => by rw [HE.out] at e; simp only [Except.ok.injEq] at e; subst e; exact ⟨a2, n2, c2, rfl, HRF.out, HR2.out.2⟩, HKF.out⟩

end Go.Proofs.YtljlmfnbeofmmaaGreatDoor
