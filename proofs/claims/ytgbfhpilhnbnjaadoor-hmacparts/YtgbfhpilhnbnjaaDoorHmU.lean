/-
  The reference's Sum.
-/
import Derived.Test.YtgbfhpilhnbnjaaDoorHmS
import Derived.Test.YtgbfhpilhnbnjaaDoorHmT
import Derived.Deep.RegionWith
namespace Go.Proofs.YtgbfhpilhnbnjaaDoor
open Go.RowKit

theorem Src.mid {w : World} {I : Nat → Prop} {b o n c : Nat} {cs : List Nat} (h : Src w I (.slice (some ⟨b, o, none⟩) n c) cs) (i c' : Nat) (hi : i + 64 ≤ cs.length) : Src w I (.slice (some ⟨b, o + i, none⟩) 64 c') ((cs.drop i).take 64) := by
  obtain ⟨ao, cap, e, hcc⟩ := h
  injection e with e1 e2 e3
  obtain ⟨b', o', e4, hI, hcell⟩ := hcc (by intro q; rw [q] at hi; simp at hi)
  subst e1
  injection e4 with e5
  injection e5 with e6 e7 _
  subst e6 e7
  have hlen : ((cs.drop i).take 64).length = 64 := by simp; omega
  refine ⟨_, _, by rw [hlen], fun _ => ⟨b, o + i, rfl, hI, fun j hj => ?_⟩⟩
  rw [hlen] at hj
  have := hcell (i + j) (by omega)
  rw [Nat.add_assoc, this]
  simp

theorem wrap_nat15' (n : Nat) (h : n < 2000000000) : IntKind.i64.wrap (n : Int) = (n : Int) := by
  simp [IntKind.wrap, IntKind.bits, IntKind.signed]
  omega

/-- The digest's words while they are laid. -/
def lwF (ws : List Nat) (i : Nat) : List Nat := List.replicate i 0 ++ ws.drop i
def loF (ws : List Nat) (i : Nat) : List Nat := (digB ws).take (4 * i) ++ List.replicate (32 - 4 * i) 0
def loG (ws : List Nat) (i m : Nat) : List Nat := (digB ws).take (4 * i) ++ (bkF (ws.getD i 0) 4 m ++ List.replicate (28 - 4 * i) 0)

theorem lwF_get (ws : List Nat) (i : Nat) : (lwF ws i).getD i 0 = ws.getD i 0 := by
  unfold lwF
  rw [List.getD_eq_getElem?_getD, List.getElem?_append_right (by simp), List.length_replicate, List.getElem?_drop, List.getD_eq_getElem?_getD]
  simp

theorem lwF_length (ws : List Nat) (i : Nat) (hi : i ≤ ws.length) : (lwF ws i).length = ws.length := by
  unfold lwF
  rw [List.length_append, List.length_replicate, List.length_drop]
  omega

theorem lwF_next (ws : List Nat) (i : Nat) (hi : i < ws.length) : (lwF ws i).set i 0 = lwF ws (i + 1) := by
  unfold lwF
  rw [List.set_append_right _ _ (by simp), List.length_replicate, Nat.sub_self, List.drop_eq_getElem_cons hi, List.set_cons_zero, List.replicate_succ', List.append_assoc]
  rfl

theorem loG_zero (ws : List Nat) (i : Nat) (hi : i < 8) : loG ws i 0 = loF ws i := by
  unfold loG loF
  rw [bkF_zero, List.replicate_append_replicate]
  congr 2
  omega

theorem dig_step (ws : List Nat) (i : Nat) (hi : i < ws.length) : (digB ws).take (4 * (i + 1)) = (digB ws).take (4 * i) ++ beB (ws.getD i 0) 4 := by
  induction ws generalizing i with
  | nil => simp at hi
  | cons x l ih =>
    have hd : digB (x :: l) = beB x 4 ++ digB l := rfl
    have hl := beB_length x 4
    rw [hd]
    cases i with
    | zero =>
      rw [List.take_append_of_le_length (by omega), List.take_of_length_le (by omega)]
      simp
    | succ i =>
      have h := ih i (by simpa using hi)
      rw [show 4 * (i + 1 + 1) = (beB x 4).length + 4 * (i + 1) by rw [hl]; omega, List.take_length_add_append, h, show 4 * (i + 1) = (beB x 4).length + 4 * i by rw [hl]; omega, List.take_length_add_append, List.append_assoc]
      rfl

theorem loG_four (ws : List Nat) (i : Nat) (hi : i < ws.length) : loG ws i 4 = loF ws (i + 1) := by
  unfold loG loF
  rw [bkF_all, dig_step ws i hi, List.append_assoc]
  congr 3
  omega

theorem loG_next (ws : List Nat) (i m : Nat) (hw : ws.length = 8) (hi : i < 8) (hm : m < 4) : (loG ws i m).set (4 * i + (3 - m)) (ws.getD i 0 / 256 ^ m % 256) = loG ws i (m + 1) := by
  unfold loG
  have h1 := digB_length hw
  have h2 : ((digB ws).take (4 * i)).length = 4 * i := by rw [List.length_take]; omega
  rw [List.set_append_right _ _ (by omega), h2, show 4 * i + (3 - m) - 4 * i = 4 - 1 - m by omega, List.set_append_left _ _ (by rw [bkF_length _ _ _ (by omega)]; omega), bkF_next _ _ _ hm]

theorem loG_length (ws : List Nat) (i m : Nat) (hw : ws.length = 8) (hi : i < 8) (hm : m ≤ 4) : (loG ws i m).length = 32 := by
  unfold loG
  have h1 := digB_length hw
  rw [List.length_append, List.length_append, List.length_take, bkF_length _ _ _ hm, List.length_replicate]
  omega

theorem loF_8 (ws : List Nat) (hw : ws.length = 8) : loF ws 8 = digB ws := by
  unfold loF
  have h1 := digB_length hw
  rw [List.take_of_length_le (by omega)]
  simp

theorem Tryd.builtIv (w : World) : (Instr.build 43 (ivL.zipIdx.map fun (x, i) => (i, Value.int .u32 (x : Nat))).toArray).run Tryd.prog w = .ok (.agg (ivL.map wordV).toArray) w := by kernel_rfl

theorem builtIv_at (a : Act) (w : World) (parts : Array (Nat × Operand)) (hp : parts = (ivL.zipIdx.map fun (x, i) => (i, Operand.const (.int .u32 (x : Nat)))).toArray) : (Instr.build 43 (parts.map fun (i, x) => (i, a.eval x))).run Tryd.prog w = .ok (.agg (ivL.map wordV).toArray) w := by
  have e : (parts.map fun (i, x) => (i, a.eval x)) = (ivL.zipIdx.map fun (x, i) => (i, Value.int .u32 (x : Nat))).toArray := by
    rw [hp, List.map_toArray, List.map_map]
    rfl
  rw [e]
  exact Tryd.builtIv w

set_option maxRecDepth 100000 in
set_option maxHeartbeats 1000000 in
theorem rsum_any (w : World) (aa : Option Addr) (n ca : Nat) (b : List Nat) (ha : Arg15 w (.slice aa n ca) b) (hl : b.length = n) (hn : n ≤ 500000000) :
    Calls Tryd.prog 12 #[.slice aa n ca] w fun e w' => e = .returned (.agg ((shaF b).map byteV).toArray) ∧ Same w w' := by
  have HA := hid ha
  have HL := hid hl
  clear ha hl
  go_enter Tryd.func12, Tryd.ntmps12
  go_wp2_with (first
    | (with_reducible refine at_alloc 24 2 ?_; refine wpl_alloc 24 _ Tryd.zero32 ?_; intro w2 g2 hB2 hk2 hg2 hl2; have HB2 := hid hB2; have HK2 := hid hk2; clear hB2 hk2)
    | (with_reducible refine at_build 43 ?_; refine wpl_build 43 (.agg (ivL.map wordV).toArray) (builtIv_at _ _ _ (by kernel_rfl)) ?_)
    | (with_reducible refine at_alloc 43 3 ?_; refine wpl_alloc 43 _ Tryd.zeroW8 ?_; intro w3 g3 hB3 hk3 hg3 hl3; have HB3 := hid hB3; have HK3 := hid hk3; clear hB3 hk3)
    | (with_reducible refine at_store 43 3 ?_; refine wpl_store 43 8 Tryd.sizeW8 rfl (cells := ivL.map wordV) rfl HB3.out (by simp) (by simp [ivL_wds.len]) (wordV_one _) ?_; intro w4 hB4 hk4 hs4; have HB4 := hid hB4; have HK4 : Hid (Same w2 w4) := hid (HK3.out.then hk4 (fun x hx e => by omega)); clear hB4 hk4 HB3 HK3))
  have hl4 : g3 < w4.heap.size := by omega
  clear hs4
  refine (rpadded_any w4 aa n ca b ((HA.out.same HK2.out).same HK4.out) HL.out (by omega)).mono ?_
  rintro e w5 ⟨v5, rfl, hF5⟩
  have HF5 := hid hF5
  obtain ⟨a5, c5, e5, ha5⟩ := hF5.row.shape
  have hne : padB b ≠ [] := by unfold padB tailB; simp
  obtain ⟨g5, rfl⟩ := ha5 hne
  rw [e5] at HF5
  obtain ⟨P, hP⟩ : ∃ P, P = padB b := ⟨_, rfl⟩
  have HPM : Hid (P.length % 64 = 0) := hid (by rw [hP]; exact padB_mod b)
  have HPB : Hid (∀ x ∈ P, x < 256) := hid (by rw [hP]; intro x hx; unfold padB at hx; exact (List.mem_append.1 hx).elim (HA.out.byt x) (tailB_lt _ x))
  have HPL : Hid (P.length ≤ 1000000000) := hid (by rw [hP]; unfold padB; rw [List.length_append, tailB_length]; unfold zeN; have := HL.out; omega)
  have HSF : Hid (shaF b = digB (blkS P (P.length / 64))) := hid (by rw [hP]; rfl)
  rw [← hP] at HF5 e5
  obtain ⟨N, hN⟩ : ∃ N, N = P.length := ⟨_, rfl⟩
  rw [e5]
  rw [← hN] at HF5 HPM HPL HSF ⊢
  have HNP := hid hN
  have HCP : Hid (N ≤ c5) := hid (by have h := HF5.out.row.cap; exact h _ _ _ rfl)
  have HK5 := hid HF5.out.kept
  have HB5 := hid (HB4.out.kept HF5.out.kept (fun f => f))
  have hl5 : g3 < w5.heap.size := by have := HF5.out.kept.size; omega
  have hg53 : w4.heap.size ≤ g5 := HF5.out.new g5 rfl
  clear e5 hP hN hF5 hne HB4
  have HB0 : Hid (Blk w5 g3 ((blkS P 0).map wordV).toArray 43) := HB5
  clear HB5
  go_wp2_with fail
  go_loopg [5] (N / 64) (fun k z wr => ∃ q : Nat, 64 * q ≤ N ∧ N / 64 - q ≤ k ∧ z = .int .i64 ((64 * q : Nat) : Int) ∧ Hid (Blk wr g3 ((blkS P q).map wordV).toArray 43) ∧ Hid (Kept (· = g3) w5 wr))
  case atStart => exact ⟨0, by omega, by omega, by rfl, HB0, hid (Kept.refl _ _)⟩
  case round =>
    clear HB0
    obtain ⟨q, hq, hqk, rfl, HBq, HKq⟩ := hrel
    obtain ⟨i, hi⟩ : ∃ i, i = 64 * q := ⟨_, rfl⟩
    rw [← hi]
    by_cases hlt : i < N
    · have hi64 : i + 64 ≤ N := by have := HPM.out; omega
      have hgk1 : 1 ≤ gk := by have := HPM.out; omega
      have HSB : Hid (∀ W, Same wr W → Src W (fun k => k = g5) (.slice (some ⟨g5, i, none⟩) 64 (c5 - i)) ((P.drop i).take 64)) := hid (fun W hW => by
        have h1 := (((Src.ofRow HF5.out.row).mono (J := fun k => k = g5) (fun k hk => by cases hk; rfl)).kept HKq.out (fun k hk _ e => by omega)).kept hW (fun _ _ _ f => f)
        have h2 := h1.mid i (c5 - i) (by rw [← HNP.out]; exact hi64)
        rw [Nat.zero_add] at h2
        exact h2)
      have hg5w : g5 < w5.heap.size := HF5.out.row.lt rfl
      have hwr := HKq.out.size
      obtain ⟨x, hx⟩ : ∃ x, x = S8.of (blkS P q) := ⟨_, rfl⟩
      have HXL : Hid (blkS P q = x.L) := hid (by rw [hx]; exact (S8.of_L (blkS_wds P q).len).symm)
      obtain ⟨y, hy⟩ : ∃ y, y = S8.of (blkS P (q + 1)) := ⟨_, rfl⟩
      have HYL : Hid (blkS P (q + 1) = y.L) := hid (by rw [hy]; exact (S8.of_L (blkS_wds P (q + 1)).len).symm)
      have HCB : Hid (∀ W, Same wr W → Calls Tryd.prog 22 #[.agg #[.int .u32 (x.a : Nat), .int .u32 (x.b : Nat), .int .u32 (x.c : Nat), .int .u32 (x.d : Nat), .int .u32 (x.e : Nat), .int .u32 (x.f : Nat), .int .u32 (x.g : Nat), .int .u32 (x.h : Nat)], .slice (some ⟨g5, i, none⟩) 64 (c5 - i)] W fun e w' => e = .returned (.agg #[.int .u32 (y.a : Nat), .int .u32 (y.b : Nat), .int .u32 (y.c : Nat), .int .u32 (y.d : Nat), .int .u32 (y.e : Nat), .int .u32 (y.f : Nat), .int .u32 (y.g : Nat), .int .u32 (y.h : Nat)]) ∧ Same W w') := hid (fun W hW => by
        have h := rblock_any W (blkS P q) _ _ _ (blkS_wds P q) (HSB.out W hW) (fun k hk => by have := hW.size; omega) (fun z hz => HPB.out z (List.mem_of_mem_drop (List.mem_of_mem_take hz))) (by have := HNP.out; simp; omega)
        have e : mixF (blkS P q) ((P.drop i).take 64) = y.L := by rw [← HYL.out, hi]; rfl
        rw [e, HXL.out] at h
        exact h)
      have HBX : Hid (∀ W, Same wr W → Blk W g3 (x.L.map wordV).toArray 43) := hid (fun W hW => by rw [← HXL.out]; exact HBq.out.kept hW (fun f => f))
      obtain ⟨x0, x1, x2, x3, x4, x5, x6, x7⟩ := blk_L (HBX.out wr (Kept.refl _ _))
      obtain ⟨j, hj⟩ : ∃ j, j = i + 64 := ⟨_, rfl⟩
      have i1 : (i : Int) + 64 = (j : Int) := by omega
      have i2 : IntKind.i64.wrap (j : Int) = (j : Int) := wrap_nat15' j (by have := HPL.out; omega)
      have p1 : (0 : Int) ≤ (i : Int) := by omega
      have p2 : (i : Int) ≤ (j : Int) := by omega
      have p3 : (j : Int) ≤ (c5 : Int) := by have := HCP.out; omega
      have p4 : (0 : Int) ≤ (j : Int) := by omega
      have hji : j - i = 64 := by omega
      have hci : ¬ c5 = i := by have := HCP.out; omega
      have p5 : i ≤ j := by omega
      have p6 : j ≤ c5 := by have := HCP.out; omega
      have HII : Hid (i = 64 * q) := hid hi
      have HJJ : Hid (j = 64 * (q + 1)) := hid (by omega)
      have HJN : Hid (64 * (q + 1) ≤ N) := hid (by omega)
      clear hi hx hy hj hq hi64
      go_wp2_with fail
      go_region_with (first
        | (go_at_call 22; refine (HCB.out _ ((Kept.refl _ wr).drew)).mono ?_; rintro e w6 ⟨rfl, hk6⟩; have HK6 : Hid (Same wr w6) := hid (Same.trans ((Kept.refl _ wr).drew) hk6); have hb6 := HBX.out w6 HK6.out; have y0 := hb6.wcell 0 (by simp [S8.L]); have y1 := hb6.wcell 1 (by simp [S8.L]); have y2 := hb6.wcell 2 (by simp [S8.L]); have y3 := hb6.wcell 3 (by simp [S8.L]); have y4 := hb6.wcell 4 (by simp [S8.L]); have y5 := hb6.wcell 5 (by simp [S8.L]); have y6 := hb6.wcell 6 (by simp [S8.L]); have y7 := hb6.wcell 7 (by simp [S8.L]); have f0 := hb6.frozen 0; have f1 := hb6.frozen 1; have f2 := hb6.frozen 2; have f3 := hb6.frozen 3; have f4 := hb6.frozen 4; have f5 := hb6.frozen 5; have f6 := hb6.frozen 6; have f7 := hb6.frozen 7; have HB6 := hid hb6; clear hb6 hk6))
      have hb7 := (((((((HB6.out.wset 0 y.a).wset 1 y.b).wset 2 y.c).wset 3 y.d).wset 4 y.e).wset 5 y.f).wset 6 y.g).wset 7 y.h
      have HB7 : Hid (Blk _ g3 ((blkS P (q + 1)).map wordV).toArray 43) := hid (by rw [HYL.out]; exact hb7)
      have HK7 := hid (((((((((Kept.mono HK6.out (G := (· = g3)) (fun _ _ f => f.elim)).setCell ⟨g3, 0, none⟩ (.int .u32 (y.a : Nat)) (.inl rfl)).setCell ⟨g3, 1, none⟩ (.int .u32 (y.b : Nat)) (.inl rfl)).setCell ⟨g3, 2, none⟩ (.int .u32 (y.c : Nat)) (.inl rfl)).setCell ⟨g3, 3, none⟩ (.int .u32 (y.d : Nat)) (.inl rfl)).setCell ⟨g3, 4, none⟩ (.int .u32 (y.e : Nat)) (.inl rfl)).setCell ⟨g3, 5, none⟩ (.int .u32 (y.f : Nat)) (.inl rfl)).setCell ⟨g3, 6, none⟩ (.int .u32 (y.g : Nat)) (.inl rfl)).setCell ⟨g3, 7, none⟩ (.int .u32 (y.h : Nat)) (.inl rfl))
      clear hb7 y0 y1 y2 y3 y4 y5 y6 y7 f0 f1 f2 f3 f4 f5 f6 f7 x0 x1 x2 x3 x4 x5 x6 x7
      go_wp2_with fail
      go_roundg (gk - 1)
      case measure => omega
      case rel =>
        exact ⟨q + 1, HJN.out, by omega, by rw [← HJJ.out], HB7, hid (Kept.trans HKq.out HK7.out (fun _ _ e => e) (fun _ _ e => e))⟩
    · have hqe : q = N / 64 := by have := HPM.out; omega
      rw [hqe] at HBq
      obtain ⟨ws, hws⟩ : ∃ ws, ws = blkS P (N / 64) := ⟨_, rfl⟩
      rw [← hws] at HBq HSF
      have HWS : Hid (Wds 8 ws) := hid (by rw [hws]; exact blkS_wds _ _)
      have HKw : Hid (Same w2 wr) := hid ((HK4.out.trans HK5.out).then HKq.out (fun x hx e => by omega))
      clear hws hqe
      go_wp2_with (first
        | (with_reducible refine at_alloc 24 6 ?_; refine wpl_alloc 24 _ Tryd.zero32 ?_; intro w6 g6 hB6 hk6 hg6 hl6; have HB6 := hid hB6; have HK6 := hid hk6; clear hB6 hk6))
      have HW0 : Hid (Blk w6 g3 ((lwF ws 0).map wordV).toArray 43) := hid (by
        have e : lwF ws 0 = ws := by simp [lwF]
        rw [e]; exact HBq.out.kept HK6.out (fun f => f))
      have HO0 : Hid (Blk w6 g6 ((loF ws 0).map byteV).toArray 24) := HB6
      have hg36 : g3 ≠ g6 := by have := HKq.out.size; omega
      have HKw6 : Hid (Same w2 w6) := hid (HKw.out.trans HK6.out)
      have hw2s := HK2.out.size
      have hkws := HKw.out.size
      have hg62 : w2.heap.size ≤ g6 := by omega
      have hg32 : w2.heap.size ≤ g3 := by omega
      clear HBq HB6
      go_loopg [7, 8] 8 (fun k z _ wr => ∃ i : Nat, i ≤ 8 ∧ 8 - i ≤ k ∧ z = .int .i64 (i : Nat) ∧ Hid (Blk wr g3 ((lwF ws i).map wordV).toArray 43) ∧ Hid (Blk wr g6 ((loF ws i).map byteV).toArray 24) ∧ Hid (Kept (fun k => k = g3 ∨ k = g6) w6 wr))
      case atStart => exact ⟨0, by omega, by omega, rfl, HW0, HO0, hid (Kept.refl _ _)⟩
      case round =>
        clear HW0 HO0
        obtain ⟨i, hi, hik, rfl, HWi, HOi, HKi⟩ := hrel
        by_cases hlt : i < 8
        · obtain ⟨X, hX⟩ : ∃ X, X = ws.getD i 0 := ⟨_, rfl⟩
          have HXX := hid hX
          have hX32 : X < 4294967296 := by rw [hX]; exact HWS.out.get i
          have HW1 : Hid (Blk wr g3 (((lwF ws i).set i (X / 256 ^ 0)).map wordV).toArray 43) := hid (by
            have e : (lwF ws i).set i (X / 256 ^ 0) = lwF ws i := by
              rw [Nat.pow_zero, Nat.div_one, hX, ← lwF_get ws i, List.getD_eq_getElem?_getD]
              have hl := lwF_length ws i (by rw [HWS.out.len]; exact hi)
              rw [HWS.out.len] at hl
              rw [List.getElem?_eq_getElem (by omega)]
              simp
            rw [e]; exact HWi.out)
          have HO1 : Hid (Blk wr g6 ((loG ws i 0).map byteV).toArray 24) := hid (by rw [loG_zero ws i hlt]; exact HOi.out)
          clear HWi HOi hX
          obtain ⟨gk0, hgk0⟩ : ∃ g, g = gk := ⟨_, rfl⟩
          subst hgk0
          go_wp2_with fail
          go_loopg [8] 4 (fun k z wr => ∃ m : Nat, m ≤ 4 ∧ 4 - m ≤ k ∧ z = .int .i64 (3 - (m : Int)) ∧ Hid (Blk wr g3 (((lwF ws i).set i (X / 256 ^ m)).map wordV).toArray 43) ∧ Hid (Blk wr g6 ((loG ws i m).map byteV).toArray 24) ∧ Hid (Kept (fun k => k = g3 ∨ k = g6) w6 wr))
          case atStart => exact ⟨0, by omega, by omega, by rfl, HW1, HO1, HKi⟩
          case round =>
            clear HW1 HO1 HKi
            obtain ⟨m, hm, hmk, rfl, HWm, HOm, HKm⟩ := hrel
            by_cases hlt2 : m < 4
            · obtain ⟨r, hr⟩ : ∃ r, r = 3 - m := ⟨_, rfl⟩
              obtain ⟨f, hf⟩ : ∃ f, f = 4 * i := ⟨_, rfl⟩
              obtain ⟨j, hj⟩ : ∃ j, j = f + r := ⟨_, rfl⟩
              have e1 : 3 - (m : Int) = (r : Int) := by omega
              have e2 : 4 * (i : Int) = (f : Int) := by omega
              have e3 : (f : Int) + (r : Int) = (j : Int) := by omega
              have hj32 : j < 32 := by omega
              have hj32i : (j : Int) < 32 := by omega
              have hj0 : (0 : Int) ≤ (j : Int) := by omega
              have hi8 : (i : Int) < 8 := by omega
              have hi0 : (0 : Int) ≤ (i : Int) := by omega
              obtain ⟨y, hy⟩ : ∃ y, y = X / 256 ^ m := ⟨_, rfl⟩
              have hy32 : y < 4294967296 := by rw [hy]; exact Nat.lt_of_le_of_lt (Nat.div_le_self _ _) hX32
              have HNX := hid (loG_next ws i m HWS.out.len hlt hlt2)
              rw [← HXX.out, ← hy, ← hr, ← hf, ← hj] at HNX
              obtain ⟨z, hz⟩ : ∃ z, z = y % 256 := ⟨_, rfl⟩
              rw [← hz] at HNX
              obtain ⟨y2, hy2⟩ : ∃ y2, y2 = y / 256 := ⟨_, rfl⟩
              have HY2 : Hid (X / 256 ^ (m + 1) = y2) := hid (by rw [hy2, hy, Nat.div_div_eq_div_mul, Nat.pow_succ])
              have z1 : (y : Int) % 256 = (z : Int) := by omega
              have z3 : (y : Int) / 256 = (y2 : Int) := by omega
              have z256 : z < 256 := by omega
              have cw := HWm.out.wcell i (by rw [List.length_set, lwF_length ws i (by rw [HWS.out.len]; exact hi), HWS.out.len]; exact hlt)
              have hgi : ((lwF ws i).set i (X / 256 ^ m)).getD i 0 = X / 256 ^ m := by
                have hl := lwF_length ws i (by rw [HWS.out.len]; exact hi)
                rw [HWS.out.len] at hl
                rw [List.getD_eq_getElem?_getD, List.getElem?_set_self (by omega)]
                rfl
              rw [hgi, ← hy] at cw
              have fw := HWm.out.frozen i
              have cb := HOm.out.bcell j (by rw [loG_length ws i m HWS.out.len hlt hm]; exact hj32)
              have fb := HOm.out.frozen j
              have HE : Hid (r = 3 - m) := hid hr
              rw [e1]
              clear hr hf hj hy hz hy2 hgi e1
              go_wp2_with fail
              go_roundg (gk - 1)
              case measure => omega
              case rel =>
                have k1 : Kept (· = g6) wr (wr.setCell ⟨g6, j, none⟩ (.int .u8 (z : Nat))) := (Kept.refl _ wr).setCell _ _ (.inl rfl)
                have h1 := (HWm.out.kept k1 hg36).wset i y2
                rw [List.set_set, ← HY2.out] at h1
                have h2 := HOm.out.bset j z
                rw [HNX.out] at h2
                have k2 : Kept (· = g3) (wr.setCell ⟨g6, j, none⟩ (.int .u8 (z : Nat))) ((wr.setCell ⟨g6, j, none⟩ (.int .u8 (z : Nat))).setCell ⟨g3, i, none⟩ (.int .u32 (y2 : Nat))) := (Kept.refl _ _).setCell _ _ (.inl rfl)
                have h3 := h2.kept k2 (fun e => hg36 e.symm)
                refine ⟨m + 1, by omega, by omega, by have := HE.out; congr 1; omega, ?_, hid h3, hid ((HKm.out.setCell _ _ (.inl (.inr rfl))).setCell _ _ (.inl (.inl rfl)))⟩
                rw [HY2.out] at h1 ⊢
                exact hid h1
            · have hm4 : m = 4 := by omega
              subst hm4
              have e0 : X / 256 ^ 4 = 0 := by
                have : (256 : Nat) ^ 4 = 4294967296 := by decide
                rw [this]; omega
              rw [e0, lwF_next ws i (by rw [HWS.out.len]; exact hlt)] at HWm
              rw [loG_four ws i (by rw [HWS.out.len]; exact hlt)] at HOm
              clear e0
              go_wp2_with fail
              go_roundg (gk0 - 1)
              case measure => omega
              case rel => exact ⟨i + 1, by omega, by omega, by go_num, HWm, HOm, HKm⟩
        · have hin : i = 8 := by omega
          subst hin
          rw [loF_8 ws HWS.out.len, ← HSF.out] at HOi
          have HB2i : Hid (Blk wr g2 ((List.replicate 32 0).map byteV).toArray 24) := hid ((HB2.out.kept HKw6.out (fun f => f)).kept HKi.out (by omega))
          have HKf : Hid (Same w2 wr) := hid (HKw6.out.then HKi.out (fun x hx e => by omega))
          go_wp2_with (first
            | (with_reducible refine at_load 24 49 ?_; refine wpl_load 24 32 _ Tryd.underlying24 rfl Tryd.size32 rfl HOi.out ((shaF b).map byteV) (by simp [shaF_length]) (take_all15 (by simp [shaF_length])) ?_)
            | (with_reducible refine at_store 24 2 ?_; refine wpl_store 24 32 Tryd.size32 rfl (cells := (shaF b).map byteV) rfl HB2i.out (by simp) (by simp [shaF_length]) (byteV_one _) ?_; intro w9 hB9 hk9 hs9; have HB9 := hid hB9; have HK9 := hid hk9; clear hB9 hk9 hs9))
          refine bodyPost_ret (results_cell15 rfl 32 _ Tryd.underlying24 rfl Tryd.size32 _ rfl HB9.out (by simp [shaF_length])) rfl ?_
          exact ⟨rfl, (HK2.out.trans HKf.out).then HK9.out (fun x hx e => by omega)⟩

end Go.Proofs.YtgbfhpilhnbnjaaDoor
