import Derived.Test.YtljlmfnbeofmmaaGreatDoorZqK
namespace Go.Proofs.YtljlmfnbeofmmaaGreatDoor
open Go.RowKit

def inE (m : Mk) : List Value := [.string (txt m.name), .int .i64 (m.size : Nat), .int .i64 (m.packed : Nat), .int .u32 (m.sum : Nat), .int .i64 (m.way : Nat)]

theorem inE_ok : EncOk inE 5 := ⟨fun _ => rfl, fun x u hu => by simp [inE] at hu; rcases hu with rfl | rfl | rfl | rfl | rfl <;> rfl, by decide⟩

theorem Tryz.infoInfo : (Tryz.prog.info? 50).map (fun i => (i.zero, i.size, i.bytes)) = some (some (.agg #[.string ⟨#[]⟩, .int .i64 0, .int .i64 0, .int .u32 0, .int .i64 0]), 5, 48) := by kernel_rfl

theorem cellsAt_in (w : World) (m : Mk) : CellsAt (w.alloc (.cells #[.string (txt m.name), .int .i64 (m.size : Nat), .int .i64 (m.packed : Nat), .int .u32 (m.sum : Nat), .int .i64 (m.way : Nat)] 50)) ⟨w.heap.size, 0, none⟩ ([m].flatMap inE) := by
 intro j u hj
 match j, hj with
 | 0, hj => simp [inE] at hj; subst hj; simp [addAt]
 | 1, hj => simp [inE] at hj; subst hj; simp [addAt]
 | 2, hj => simp [inE] at hj; subst hj; simp [addAt]
 | 3, hj => simp [inE] at hj; subst hj; simp [addAt]
 | 4, hj => simp [inE] at hj; subst hj; simp [addAt]
 | j + 5, hj => simp [inE] at hj

def LsA (w w' : World) (o : Except Nat (List It)) (e : Ending) : Prop :=
 (∀ k, o = .error k → e = .returned (.tuple #[.slice none 0 0, .int .i64 (k : Nat)])) ∧ (∀ L, o = .ok L → ∃ a n c, e = .returned (.tuple #[.slice a n c, .int .i64 0]) ∧ RowC w.heap.size 50 5 inE w' (.slice a n c) (L.map (·.lab)) ∧ n = L.length) ∧ Same w w'

structure LiI (w wr : World) (eb : Nat) (L : List It) (i : Nat) (v : Value) : Prop where
 row : RowC w.heap.size 50 5 inE wr v ((L.take i).map (·.lab))
 blk : Blk wr eb #[.int .i64 0] 27
 same : Same w wr

set_option maxRecDepth 100000 in
set_option maxHeartbeats 400000 in
theorem list_any (w : World) (a : Option Addr) (n c : Nat) (bs : List Nat) (hs : Src w (fun k => k < w.heap.size) (.slice a n c) bs) (hL : n = bs.length) (hb : ∀ x ∈ bs, x < 256) (hcap : n ≤ c) (hn : n ≤ 100000000) (hx : Mxl w) :
  Calls Tryz.prog 19 #[.slice a n c] w fun e w' => LsA w w' (opf8 bs) e := by
 have hmf : ∀ (fn : Fn) (first cap : Array Value) (w : World), (Instr.makeFunc fn first cap).run Tryz.prog w = .ok (.func fn first cap) w := fun _ _ _ _ => rfl
 obtain ⟨W1, hW1⟩ : ∃ W, W = w.alloc (.cells #[.int .i64 0] 27) := ⟨_, rfl⟩
 obtain ⟨eb, heb⟩ : ∃ b, b = w.heap.size := ⟨_, rfl⟩
 have HK1 : Hid (Same w W1) := hid (by rw [hW1]; exact (Kept.refl _ w).alloc _)
 have HB1 : Hid (Blk W1 eb #[.int .i64 0] 27) := hid (by rw [hW1, heb]; exact Blk.new w _ _)
 have HO := open_any W1 a n c bs ((hs.kept HK1.out (fun _ _ _ f => f)).mono (fun k hk => Nat.lt_of_lt_of_le hk HK1.out.size)) hL hb hcap hn (hx.kept HK1.out (fun f => f))
 have HEB : Hid (eb = w.heap.size) := heb
 clear hs hL hb hcap hx
 go_enter_defers Tryz.func19, Tryz.ntmps19
 go_wp2_with fail
 rw [← hW1, ← heb]
 clear hW1 heb
 refine HO.mono ?_
 intro e w1 h1
 obtain ⟨hbad, hgood, hk1⟩ := h1
 have HB2 : Hid (Blk w1 eb #[.int .i64 0] 27) := hid (HB1.out.kept hk1 (fun f => f))
 have HK2 : Hid (Same w w1) := hid (Same.trans HK1.out hk1)
 cases ho : opf8 bs with
 | error k =>
  obtain rfl := hbad k ho
  have HE : Hid (opf8 bs = .error k) := ho
  clear hk1 HO hbad hgood ho
  unfold pan8
  go_wp2_with fail
  have c0 : w1.cell? ⟨eb, 0, none⟩ = some (.int .i64 0) := HB2.out.cell 0
  have z0 := HB2.out.frozen 0
  have d0 : (w1.setCell ⟨eb, 0, none⟩ (.int .i64 (k : Nat))).cell? ⟨eb, 0, none⟩ = some (.int .i64 (k : Nat)) := by have := (HB2.out.set 0 (.int .i64 (k : Nat))).cell 0; simpa using this
  have HKF : Hid (Same w (w1.setCell ⟨eb, 0, none⟩ (.int .i64 (k : Nat)))) := hid (HK2.out.setCell _ _ (.inr (by have h9 := HEB.out; show w.heap.size ≤ eb; omega)))
  refine leaves_cons (f := 49) (args := #[.pointer (some ⟨eb, 0, none⟩)]) (by simp) (by simp [go_sem]) ?_
  refine (lcatch_panicking eb 0 k w1 c0 z0).mono ?_
  rintro e u' w'' ⟨rfl, rfl, rfl⟩
  simp [Leaves, settle, results, Tryz.results19, go_sem, d0]
  exact ⟨fun k' e => by rw [HE.out] at e; simp only [Except.error.injEq] at e; subst e; rfl, fun D e => (by rw [HE.out] at e; cases e), HKF.out⟩
 | ok L =>
  obtain ⟨a1, n1, c1, xs, rfl, hr1, hi1, hn1, hc1, h64⟩ := hgood L ho
  have HE : Hid (opf8 bs = .ok L) := ho
  have HR1 : Hid (RowC W1.heap.size 78 6 itE w1 (.slice a1 n1 c1) xs) := hr1
  have HI1 : Hid (Its W1.heap.size w1 xs L) := hi1
  have HN : Hid (n1 = xs.length ∧ n1 = L.length) := hid ⟨hn1, by rw [hn1]; exact hi1.1⟩
  clear hk1 HO hbad hgood ho hr1 hi1 hn1 hc1
  go_wp2_with fail
  go_loopg [2, 10] n1 (fun qq z2 z10 wr => ∃ (i : Nat), z10 = .int .i64 (i : Nat) ∧ i ≤ n1 ∧ n1 - i ≤ qq ∧ Hid (LiI w1 wr eb L i z2))
  case atStart => exact ⟨0, rfl, by omega, by omega, hid ⟨RowC.nil, HB2.out, Kept.refl _ _⟩⟩
  case round =>
   obtain ⟨i, rfl, hi1, hiq, HI⟩ := hrel
   obtain ⟨v0, hv0⟩ : ∃ v, v = u2 := ⟨_, rfl⟩
   rw [← hv0] at HI
   rw [← hv0]
   clear hv0
   obtain ⟨a0, c0, hv0, _⟩ := HI.out.row.shape
   rw [List.length_map, List.length_take, Nat.min_eq_left (by have := HN.out; omega)] at hv0
   subst hv0
   by_cases hi : i < n1
   ·have hli : decide (i < n1) = true := by simp; omega
    have hx := List.getElem?_eq_getElem (l := xs) (i := i) (by have := HN.out; omega)
    have hy := List.getElem?_eq_getElem (l := L) (i := i) (by have := HN.out; omega)
    obtain ⟨x, hxx⟩ : ∃ x, x = xs[i]'(by have := HN.out; omega) := ⟨_, rfl⟩
    obtain ⟨y, hyy⟩ : ∃ y, y = L[i]'(by have := HN.out; omega) := ⟨_, rfl⟩
    rw [← hxx] at hx
    rw [← hyy] at hy
    obtain ⟨g, cap, hv, _, hc⟩ := HR1.out.at8 itE_ok i (by have := HN.out; omega)
    rw [← hxx] at hc
    simp only [Value.slice.injEq] at hv
    have hv1 := hv.1
    clear hv
    subst hv1
    have hcx : ∀ k u, k < 6 → (itE x)[k]? = some u → wr.cell? ⟨g, i * 6 + k, none⟩ = some u := fun k u h1 h2 => HI.out.same.cell ((hc k h1).trans h2) (fun f => f)
    have k0 := hcx 0 _ (by decide) rfl
    have k1 := hcx 1 _ (by decide) rfl
    have k2 := hcx 2 _ (by decide) rfl
    have k3 := hcx 3 _ (by decide) rfl
    have k4 := hcx 4 _ (by decide) rfl
    have k5 := hcx 5 _ (by decide) rfl
    rw [Nat.add_zero] at k0
    have hiw : IntKind.i64.wrap ((i : Int) + 1) = ((i + 1 : Nat) : Int) := by rw [IntKind.wrap_i64]; omega
    have i1 : (0 : Int) ≤ (i : Int) := by omega
    have i2 : (i : Int) < (n1 : Int) := by omega
    have HAT := HI1.out.2 i x y hx hy
    have HXL : Hid (x.m = y.lab ∧ L[i]? = some y) := hid ⟨HAT.lab, hy⟩
    obtain ⟨wA, hwA⟩ : ∃ W, W = wr.alloc (.cells (itZ x.m (.slice x.a x.n x.c)) 78) := ⟨_, rfl⟩
    obtain ⟨xb, hxb⟩ : ∃ b, b = wr.heap.size := ⟨_, rfl⟩
    have HKA : Hid (Same wr wA) := hid (by rw [hwA]; exact (Kept.refl _ wr).alloc _)
    have HXA : Hid (Blk wA xb (itZ x.m (.slice x.a x.n x.c)) 78) := hid (by rw [hwA, hxb]; exact Blk.new wr _ _)
    have HC := info_any wA x.m (.slice x.a x.n x.c) (by rw [HAT.lab]; exact HAT.ok)
    clear hxx hyy hx hy hc hcx HAT
    unfold itZ at hwA HC HXA
    have q0 : wA.cell? ⟨xb, 0, none⟩ = some (.int .u16 (x.m.way : Nat)) := HXA.out.cell 0
    have q1 : wA.cell? ⟨xb, 1, none⟩ = some (.int .u32 (x.m.sum : Nat)) := HXA.out.cell 1
    have q2 : wA.cell? ⟨xb, 2, none⟩ = some (.int .u32 (x.m.packed : Nat)) := HXA.out.cell 2
    have q3 : wA.cell? ⟨xb, 3, none⟩ = some (.int .u32 (x.m.size : Nat)) := HXA.out.cell 3
    have q4 : wA.cell? ⟨xb, 4, none⟩ = some (.string (txt x.m.name)) := HXA.out.cell 4
    have q5 : wA.cell? ⟨xb, 5, none⟩ = some (.slice x.a x.n x.c) := HXA.out.cell 5
    go_wp2_with fail
    rw [← hwA, ← hxb]
    clear hwA hxb
    refine HC.mono ?_
    rintro e w4 ⟨rfl, hk4⟩
    have HK4 : Hid (Same wr w4) := hid (Same.trans HKA.out hk4)
    have HR4 : Hid (RowC w1.heap.size 50 5 inE w4 (.slice a0 i c0) ((L.take i).map (·.lab))) := hid (HI.out.row.kept HK4.out (fun _ _ f => f))
    clear hk4 HC q0 q1 q2 q3 q4 q5 k0 k1 k2 k3 k4 k5
    go_wp2_with (at_builtin; refine wpList_append_c _ inE 5 inE_ok (by decide) w1.heap.size 38 50 (.agg #[.string ⟨#[]⟩, .int .i64 0, .int .i64 0, .int .u32 0, .int .i64 0]) 48 Tryz.underlying38 Tryz.infoInfo rfl (by decide) rfl (.tmp 14) (.tmp 17) rfl (.slice a0 i c0) ((L.take i).map (·.lab)) rfl (HR4.out.kept (show Same _ _ from (Kept.refl _ _).alloc _) (fun _ _ f => f)) ⟨w4.heap.size, 0, none⟩ 1 1 [x.m] rfl rfl (cellsAt_in w4 x.m) (by rw [List.length_map, List.length_take]; simp; omega) (by have := HI.out.same.size; have := HK4.out.size; simp; omega) ?_; intro v8 w8 hr8 hg8)
    obtain ⟨wB, hwB⟩ : ∃ W, W = w4.alloc (.cells #[.string (txt x.m.name), .int .i64 (x.m.size : Nat), .int .i64 (x.m.packed : Nat), .int .u32 (x.m.sum : Nat), .int .i64 (x.m.way : Nat)] 50) := ⟨_, rfl⟩
    have hg8' : wB.grownBy w8 (Value.slice a0 i c0).ownBlock := by rw [hwB]; exact hg8
    have hkB : Same w4 wB := by rw [hwB]; exact (Kept.refl _ w4).alloc _
    have hk8 : Kept (fun k => (Value.slice a0 i c0).ownBlock = some k) wB w8 := (Kept.refl _ wB).grown hg8' (fun k e => .inl e)
    have HF : Hid (LiI w1 w8 eb L (i + 1) v8) := hid (by
     refine ⟨?_, ?_, ((Same.trans HI.out.same (Same.trans HK4.out hkB)).then hk8 (fun k hk e => by have := HR4.out.ge e; omega))⟩
     ·rw [List.take_add_one, HXL.out.2, List.map_append]
      show RowC _ _ _ _ _ _ ((L.take i).map (·.lab) ++ [y.lab])
      rw [← HXL.out.1]
      exact hr8
     ·have hb4 := (HI.out.blk.kept HK4.out (fun f => f)).kept hkB (fun f => f)
      exact hb4.kept hk8 (fun e => (HR4.out.kept hkB (fun _ _ f => f)).off hb4 (by decide) e))
    clear hr8 hg8 hwB hg8' hkB hk8
    go_wp2_with fail
    go_roundg (gk - 1)
    case measure => omega
    case rel => exact ⟨i + 1, by go_num, by omega, by omega, HF⟩
   ·have hli : decide (i < n1) = false := by simp; omega
    obtain rfl : i = n1 := by omega
    have HR2 : Hid (RowC w.heap.size 50 5 inE wr (.slice a0 i c0) (L.map (·.lab))) := hid (by have h9 := HI.out.row; rw [List.take_of_length_le (by have := HN.out; omega)] at h9; exact h9.base HK2.out.size)
    have HB3 : Hid (Blk wr eb #[.int .i64 0] 27) := hid HI.out.blk
    have ce0 : wr.cell? ⟨eb, 0, none⟩ = some (.int .i64 0) := HB3.out.cell 0
    have z0 := HB3.out.frozen 0
    go_wp2_with fail
    obtain ⟨w3, hw3⟩ : ∃ W, W = wr.setCell ⟨eb, 0, none⟩ (.int .i64 0) := ⟨_, rfl⟩
    have hb3 : Blk w3 eb #[.int .i64 0] 27 := by rw [hw3]; have := HB3.out.set 0 (.int .i64 0); simpa using this
    have HKF : Hid (Same w (w3.setCell ⟨eb, 0, none⟩ (.int .i64 0))) := hid (by rw [hw3]; exact ((Same.trans HK2.out HI.out.same).setCell _ _ (.inr (by have h9 := HEB.out; show w.heap.size ≤ eb; omega))).setCell _ _ (.inr (by have h9 := HEB.out; show w.heap.size ≤ eb; omega)))
    have hks : Kept (· = eb) wr (w3.setCell ⟨eb, 0, none⟩ (.int .i64 0)) := by rw [hw3]; exact ((Kept.refl (· = eb) wr).setCell _ _ (.inl rfl)).setCell _ _ (.inl rfl)
    have HRF : Hid (RowC w.heap.size 50 5 inE (w3.setCell ⟨eb, 0, none⟩ (.int .i64 0)) (.slice a0 i c0) (L.map (·.lab))) := hid (HR2.out.kept hks (fun j e f => HR2.out.off HB3.out (by decide) (by rw [e, f])))
    have d0 : (w3.setCell ⟨eb, 0, none⟩ (.int .i64 0)).cell? ⟨eb, 0, none⟩ = some (.int .i64 0) := by have := (hb3.set 0 (.int .i64 0)).cell 0; simpa using this
    rw [← hw3]
    refine leaves_cons (f := 49) (args := #[.pointer (some ⟨eb, 0, none⟩)]) (by simp) (by simp [go_sem]) ?_
    refine (lcatch_idle eb 0 w3 (hb3.cell 0) (hb3.frozen 0)).mono ?_
    rintro e u' w'' ⟨rfl, rfl, rfl⟩
    simp [Leaves, settle, results, Tryz.results19, go_sem, d0]
    exact ⟨fun k' e => (by rw [HE.out] at e; cases e), fun D' e => by rw [HE.out] at e; simp only [Except.ok.injEq] at e; subst e; exact ⟨a0, _, _, rfl, HRF.out, HN.out.2⟩, HKF.out⟩

end Go.Proofs.YtljlmfnbeofmmaaGreatDoor
