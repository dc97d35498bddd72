/-
  Layer 17: Reserve.
-/
import Derived.Test.YtjlkchjcmiljjaaDoorQtC
namespace Go.Proofs.YtjlkchjcmiljjaaDoor
open Go.RowKit Go.Maps

section
variable {w : World} {p ma mr : Nat} {bl : List Nat} {xs : List Tn} {S : Sq}

set_option maxRecDepth 100000 in
set_option maxHeartbeats 400000 in
theorem hasRoom_any (h : Qb w p ma mr bl xs S) {k : Nat} (hk : k < xs.length) (m : Us) (b : Bool) (hb : decide (m.le (leftQ xs S k)) = b) : Calls Tryd.prog 31 #[.pointer (some ⟨bl.getD k 0, 0, none⟩), .agg #[.int .i64 m.b, .int .i64 m.e]] w fun e w' => e = .returned (.bool b) ∧ Same w w' := by
  obtain ⟨W1, hW1⟩ : ∃ W, W = w.alloc (.cells #[.int .i64 m.b, .int .i64 m.e] 31) := ⟨_, rfl⟩
  obtain ⟨xb, hxb⟩ : ∃ b, b = w.heap.size := ⟨_, rfl⟩
  have HK1 : Hid (Same w W1) := hid (by rw [hW1]; exact (Kept.refl _ w).alloc _)
  have HB : Hid (Blk W1 xb #[.int .i64 m.b, .int .i64 m.e] 31) := hid (by rw [hW1, hxb]; exact Blk.new w _ _)
  have HL := (h.same HK1.out).left hk
  obtain ⟨a, ha⟩ : ∃ a, a = bl.getD k 0 := ⟨_, rfl⟩
  obtain ⟨q, hq⟩ : ∃ q, q = leftQ xs S k := ⟨_, rfl⟩
  rw [← ha] at HL ⊢
  rw [← hq] at HL hb
  unfold usV at HL
  unfold Us.le at hb
  clear ha h hk hq
  go_enter Tryd.func31, Tryd.ntmps31
  go_upto_region 1 with fail
  rw [← hW1, ← hxb]
  clear hW1 hxb
  go_wp2_with fail
  refine HL.mono ?_
  rintro e w2 ⟨rfl, hk2⟩
  obtain ⟨W3, hW3⟩ : ∃ W, W = w2.alloc (.cells #[.int .i64 q.b, .int .i64 q.e] 31) := ⟨_, rfl⟩
  obtain ⟨yb, hyb⟩ : ∃ b, b = w2.heap.size := ⟨_, rfl⟩
  have hk3 : Same W1 W3 := by rw [hW3]; exact hk2.alloc _
  have HK3 := hid (Same.trans HK1.out hk3)
  have hY : Blk W3 yb #[.int .i64 q.b, .int .i64 q.e] 31 := by rw [hW3, hyb]; exact Blk.new w2 _ _
  obtain ⟨x0, x1, _, _⟩ := (HB.out.kept hk3 (fun f => f)).c2
  obtain ⟨y0, y1, _, _⟩ := hY.c2
  clear hk2 hk3 HL hY
  go_upto_region 2 with fail
  rw [← hW3, ← hyb]
  clear hW3 hyb
  cases B1 : decide (m.b ≤ q.b) with
  | false =>
    obtain rfl : false = b := by rw [← hb]; have := of_decide_eq_false B1; simp [this]
    clear hb
    go_wp2_with fail
    go_ret
    exact ⟨rfl, HK3.out⟩
  | true =>
    obtain rfl : decide (m.e ≤ q.e) = b := by rw [← hb]; have := of_decide_eq_true B1; simp [this]
    clear hb
    go_wp2_with fail
    go_ret
    exact ⟨rfl, HK3.out⟩

def resZ (xs : List Tn) (S : Sq) (s : ByteArray) (m : Us) : Int × Int := match idxT xs s with | none => (0, 170) | some k => if m.inn (-1000000000) 1000000000 then (if m.le (leftQ xs S k) then (((S.last + 1 : Nat) : Int), 0) else (0, 171)) else (0, 1)
def resS (xs : List Tn) (S : Sq) (s : ByteArray) (m : Us) : Sq := match idxT xs s with | none => S | some k => if m.inn (-1000000000) 1000000000 ∧ m.le (leftQ xs S k) then S.res k m else S

set_option maxRecDepth 100000 in
set_option maxHeartbeats 400000 in
theorem qres_err (w : World) (p : Value) (s : ByteArray) (m : Us) (z : Int) (hz : (z == 0) = false) (hf : ∀ W, Same w W → Calls Tryd.prog 22 #[p, .string s] W fun e w' => e = .returned (.tuple #[.pointer none, .int .i64 z]) ∧ Same W w') : Calls Tryd.prog 16 #[p, .string s, usV m] w fun e w' => e = .returned (.tuple #[.int .i64 0, .int .i64 z]) ∧ Same w w' := by
  obtain ⟨u0, u1⟩ := m
  obtain ⟨W1, hW1⟩ : ∃ W, W = w.alloc (.cells #[.int .i64 u0, .int .i64 u1] 31) := ⟨_, rfl⟩
  obtain ⟨xb, hxb⟩ : ∃ b, b = w.heap.size := ⟨_, rfl⟩
  have HK1 : Hid (Same w W1) := hid (by rw [hW1]; exact (Kept.refl _ w).alloc _)
  have HF := hf W1 HK1.out
  have hz2 : (z != 0) = true := by simp [bne, hz]
  unfold usV
  simp only
  clear hf
  go_enter Tryd.func16, Tryd.ntmps16
  go_upto_region 1 with fail
  rw [← hW1, ← hxb]
  clear hW1 hxb
  go_wp2_with fail
  refine HF.mono ?_
  rintro e w2 ⟨rfl, hk2⟩
  have HK2 := hid (Same.trans HK1.out hk2)
  clear hk2 HF
  go_wp2_with fail
  go_ret2
  exact ⟨rfl, HK2.out⟩

set_option maxRecDepth 100000 in
set_option maxHeartbeats 400000 in
theorem qres_arg (h : Qb w p ma mr bl xs S) (s : Nm) (m : Us) {k : Nat} (hk : idxT xs s.s = some k) (hin : ¬ m.inn (-1000000000) 1000000000) : Calls Tryd.prog 16 #[.pointer (some ⟨p, 0, none⟩), .string s.s, usV m] w fun e w' => e = .returned (.tuple #[.int .i64 0, .int .i64 1]) ∧ Same w w' := by
  obtain ⟨W1, hW1⟩ : ∃ W, W = w.alloc (.cells #[.int .i64 m.b, .int .i64 m.e] 31) := ⟨_, rfl⟩
  obtain ⟨xb, hxb⟩ : ∃ b, b = w.heap.size := ⟨_, rfl⟩
  have HK1 : Hid (Same w W1) := hid (by rw [hW1]; exact (Kept.refl _ w).alloc _)
  have HB : Hid (Blk W1 xb #[.int .i64 m.b, .int .i64 m.e] 31) := hid (by rw [hW1, hxb]; exact Blk.new w _ _)
  have HF := qfind_some (h.same HK1.out) s hk
  obtain ⟨a, ha⟩ : ∃ a, a = bl.getD k 0 := ⟨_, rfl⟩
  rw [← ha] at HF
  have HW : Hid (∀ W, Calls Tryd.prog 30 #[.agg #[.int .i64 m.b, .int .i64 m.e], .int .i64 (-1000000000), .int .i64 1000000000] W fun e w' => e = .returned (.bool false) ∧ Same W w') := hid (fun W => within_any W m (-1000000000) 1000000000 false (decide_eq_false hin))
  unfold usV
  clear ha h hk hin
  go_enter Tryd.func16, Tryd.ntmps16
  go_upto_region 1 with fail
  rw [← hW1, ← hxb]
  clear hW1 hxb
  go_wp2_with fail
  refine HF.mono ?_
  rintro e w2 ⟨rfl, hk2⟩
  have HK2 := hid (Same.trans HK1.out hk2)
  obtain ⟨y0, y1, _, _⟩ := (HB.out.kept hk2 (fun f => f)).c2
  clear hk2 HF
  go_wp2_with fail
  refine (HW.out _).mono ?_
  rintro e w3 ⟨rfl, hk3⟩
  have HK3 := hid (Same.trans HK2.out hk3)
  clear hk3
  go_wp2_with fail
  go_ret2
  exact ⟨rfl, HK3.out⟩

set_option maxRecDepth 100000 in
set_option maxHeartbeats 400000 in
theorem qres_full (h : Qb w p ma mr bl xs S) (s : Nm) (m : Us) {k : Nat} (hk : idxT xs s.s = some k) (hin : m.inn (-1000000000) 1000000000) (hle : ¬ m.le (leftQ xs S k)) : Calls Tryd.prog 16 #[.pointer (some ⟨p, 0, none⟩), .string s.s, usV m] w fun e w' => e = .returned (.tuple #[.int .i64 0, .int .i64 171]) ∧ Same w w' := by
  obtain ⟨W1, hW1⟩ : ∃ W, W = w.alloc (.cells #[.int .i64 m.b, .int .i64 m.e] 31) := ⟨_, rfl⟩
  obtain ⟨xb, hxb⟩ : ∃ b, b = w.heap.size := ⟨_, rfl⟩
  have HK1 : Hid (Same w W1) := hid (by rw [hW1]; exact (Kept.refl _ w).alloc _)
  have HB : Hid (Blk W1 xb #[.int .i64 m.b, .int .i64 m.e] 31) := hid (by rw [hW1, hxb]; exact Blk.new w _ _)
  have HF := qfind_some (h.same HK1.out) s hk
  have hR : ∀ W, Same w W → _ := fun W hW => hasRoom_any (h.same hW) (idxT_lt hk) m false (decide_eq_false hle)
  obtain ⟨a, ha⟩ : ∃ a, a = bl.getD k 0 := ⟨_, rfl⟩
  rw [← ha] at HF hR
  have HR := hid hR
  have HW : Hid (∀ W, Calls Tryd.prog 30 #[.agg #[.int .i64 m.b, .int .i64 m.e], .int .i64 (-1000000000), .int .i64 1000000000] W fun e w' => e = .returned (.bool true) ∧ Same W w') := hid (fun W => within_any W m (-1000000000) 1000000000 true (decide_eq_true hin))
  unfold usV
  clear ha h hk hin hle hR
  go_enter Tryd.func16, Tryd.ntmps16
  go_upto_region 1 with fail
  rw [← hW1, ← hxb]
  clear hW1 hxb
  go_wp2_with fail
  refine HF.mono ?_
  rintro e w2 ⟨rfl, hk2⟩
  have HK2 := hid (Same.trans HK1.out hk2)
  have HB2 := hid (HB.out.kept hk2 (fun f => f))
  obtain ⟨y0, y1, _, _⟩ := HB2.out.c2
  clear hk2 HF
  go_wp2_with fail
  refine (HW.out _).mono ?_
  rintro e w3 ⟨rfl, hk3⟩
  have HK3 := hid (Same.trans HK2.out hk3)
  clear y0 y1
  obtain ⟨y0, y1, _, _⟩ := (HB2.out.kept hk3 (fun f => f)).c2
  clear hk3
  go_wp2_with fail
  refine (HR.out _ HK3.out).mono ?_
  rintro e w4 ⟨rfl, hk4⟩
  have HK4 := hid (Same.trans HK3.out hk4)
  clear hk4
  go_wp2_with fail
  go_ret2
  exact ⟨rfl, HK4.out⟩

theorem setBk {w : World} {p : Nat} {x y z v : Value} {t : TypeId} (hb : Blk w p #[x, y, z] t) : Blk (w.setCell ⟨p, 1, none⟩ v) p #[x, v, z] t ∧ Kept (· = p) w (w.setCell ⟨p, 1, none⟩ v) := by
  refine ⟨?_, (Kept.refl (· = p) w).setCell _ _ (.inl rfl)⟩
  have h9 := hb.set 1 v
  simpa using h9

/-- A reservation more, in memory. -/
theorem Qb.res1 (h : Qb w p ma mr bl xs S) {k : Nat} (hk : k < xs.length) (m : Us) (hi : m.inn (-1000000000) 1000000000) (hm : m.le (leftQ xs S k)) (_hL : S.last ≤ 1000000) {R : List (Nb × Rv)} (hR2 : R.length ≤ S.hs.length) (hR3 : ∀ q : Nb × Rv, q ∈ R ↔ ∃ h ∈ S.hs, q.1.v = (h.id : Int) ∧ q.2 = ⟨bl.getD h.ten 0, h.m⟩) {w1 w2 w3 : World}
    (hB1 : Blk w1 (bl.getD k 0) (acE (mayT xs k) (S.use k) ((S.held k).add m.up)) 58) (hK1 : Kept (· = bl.getD k 0) w w1)
    (hB2 : Blk w2 p #[.map (some ma), .int .i64 ((S.last + 1 : Nat) : Int), .map (some mr)] 55) (hK2 : Kept (· = p) w1 w2)
    (n : Nb) (hn : n.v = ((S.last + 1 : Nat) : Int)) (hM : MpR w3 mr (putG kI n ⟨bl.getD k 0, m⟩ R)) (hK3 : Kept (· = mr) w2 w3) :
    Qb w3 p ma mr bl xs (S.res k m) ∧ Kept (FQ p ma mr bl) w w3 := by
  obtain ⟨n1, n2, n3, n4⟩ := h.acc_ne hk
  obtain ⟨A, h1, h2⟩ := h.ten
  obtain ⟨_, hR, _⟩ := h.res
  have hpm : p ≠ ma := h1.ne h.blk
  have hpr : p ≠ mr := hR.ne h.blk
  have hpa : ∀ j, j < xs.length → bl.getD j 0 ≠ p := fun j hj => (h.acc_ne hj).1
  have hra : ∀ j, j < xs.length → bl.getD j 0 ≠ mr := fun j hj => (h.acc_ne hj).2.2.1
  refine ⟨⟨h.inv.res hk hi hm, hB2.kept hK3 hpr, h.len, h.nd, fun j hj => ?_, ⟨A, ((h1.kept hK1 n2.symm).kept hK2 hpm.symm).kept hK3 h.mm, h2⟩, ⟨_, hM, ?_, fun q => ?_⟩, h.mm⟩, ?_⟩
  · rw [S.held_res, show (S.res k m).use j = S.use j from rfl]
    split
    · rename_i e; subst e; exact (hB1.kept hK2 (hpa _ hj)).kept hK3 (hra _ hj)
    · rename_i e; exact (((h.acc j hj).kept hK1 (n4 j hj (fun e2 => e e2.symm))).kept hK2 (hpa j hj)).kept hK3 (hra j hj)
  · have := (putG_len (kl := kI) n (⟨bl.getD k 0, m⟩ : Rv) R).2
    simp only [Sq.res, List.length_append, List.length_singleton]
    omega
  · rw [putG_mem]
    constructor
    · rintro (rfl | ⟨hq, _⟩)
      · exact ⟨⟨S.last + 1, k, m⟩, by simp [Sq.res], hn, rfl⟩
      · obtain ⟨x, hx, e⟩ := (hR3 q).1 hq
        exact ⟨x, by simp [Sq.res, hx], e⟩
    · rintro ⟨x, hx, e1, e2⟩
      rcases List.mem_append.1 hx with hx | hx
      · refine .inr ⟨(hR3 q).2 ⟨x, hx, e1, e2⟩, fun e => ?_⟩
        have := (h.inv.ids x hx).2.1
        rw [e, hn] at e1
        omega
      · simp at hx
        subst hx
        left
        obtain ⟨q1, q2⟩ := q
        simp only at e1 e2
        rw [e2, show q1 = n from Nb.ext' (by rw [e1, hn])]
  · have hk12 : Kept (FQ p ma mr bl) w w2 := Kept.trans hK1 hK2 (fun x _ e => .inr (.inr (.inr (by rw [e]; exact getD_mem (by rw [h.len]; exact hk))))) (fun x _ e => .inl e)
    exact Kept.trans hk12 hK3 (fun _ _ f => f) (fun x _ e => .inr (.inr (.inl e)))

end

end Go.Proofs.YtjlkchjcmiljjaaDoor
