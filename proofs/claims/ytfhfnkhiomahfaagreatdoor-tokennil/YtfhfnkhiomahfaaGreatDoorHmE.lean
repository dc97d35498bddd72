/-
  The program's mix: a block is taken into the words.
-/
import Derived.Test.YtfhfnkhiomahfaaGreatDoorHmD
namespace Go.Proofs.YtfhfnkhiomahfaaGreatDoor
open Go.RowKit

/-- The words k, as the program's variable holds them. -/
def Tab15 (w : World) : Prop := ∀ i, i < 64 → w.cell? ⟨2, i, none⟩ = some (.int .u32 (kL.getD i 0 : Nat))

theorem Tab15.kept {F : Nat → Prop} {w w' : World} (h : Tab15 w) (hk : Kept F w w') (hF : ¬ F 2) : Tab15 w' := fun i hi => hk.cell (h i hi) hF

/-- A hash's cells. -/
def hCells (ws bs : List Nat) (n : Nat) : List Value := ws.map wordV ++ (bs.map byteV ++ [.int .u64 (n : Nat)])

structure HB (w : World) (p : Nat) (ws bs : List Nat) (n : Nat) : Prop where
  blk : Blk w p (hCells ws bs n).toArray 128
  wds : Wds 8 ws
  len : bs.length = 64
  byt : ∀ x ∈ bs, x < 256

theorem hCells_length {ws bs : List Nat} {n : Nat} (hw : ws.length = 8) (hb : bs.length = 64) : (hCells ws bs n).length = 73 := by simp [hCells, hw, hb]

theorem HB.kept {F : Nat → Prop} {w w' : World} {p : Nat} {ws bs : List Nat} {n : Nat} (h : HB w p ws bs n) (hk : Kept F w w') (hF : ¬ F p) : HB w' p ws bs n := ⟨h.blk.kept hk hF, h.wds, h.len, h.byt⟩

theorem HB.lt {w : World} {p : Nat} {ws bs : List Nat} {n : Nat} (h : HB w p ws bs n) : p < w.heap.size := h.blk.lt

theorem HB.wcell {w : World} {p : Nat} {ws bs : List Nat} {n : Nat} (h : HB w p ws bs n) (i : Nat) (hi : i < 8) : w.cell? ⟨p, i, none⟩ = some (.int .u32 (ws.getD i 0 : Nat)) := by
  rw [h.blk.cell]
  have hl := h.wds.1
  simp only [List.getElem?_toArray, hCells]
  rw [List.getElem?_append_left (by simp; omega)]
  simp [wordV, List.getD_eq_getElem?_getD, hl, hi]

theorem HB.ncell {w : World} {p : Nat} {ws bs : List Nat} {n : Nat} (h : HB w p ws bs n) : w.cell? ⟨p, 72, none⟩ = some (.int .u64 (n : Nat)) := by
  rw [h.blk.cell]
  have hl := h.wds.1
  have hb := h.len
  simp only [List.getElem?_toArray, hCells]
  rw [List.getElem?_append_right (by simp; omega), List.getElem?_append_right (by simp; omega)]
  simp [hl, hb]

theorem HB.words {w : World} {p : Nat} {ws bs : List Nat} {n : Nat} (h : HB w p ws bs n) : ((hCells ws bs n).toArray.toList.drop 0).take 8 = ws.map wordV := by
  have hl := h.wds.1
  simp only [hCells, List.drop_zero]
  rw [List.take_append_of_le_length (by simp; omega), List.take_of_length_le (by simp; omega)]

theorem HB.block {w : World} {p : Nat} {ws bs : List Nat} {n : Nat} (h : HB w p ws bs n) : ((hCells ws bs n).toArray.toList.drop 8).take 64 = bs.map byteV := by
  have hl := h.wds.1
  have hb := h.len
  simp only [hCells]
  rw [List.drop_append_of_le_length (by simp; omega), List.drop_of_length_le (by simp; omega), List.nil_append, List.take_append_of_le_length (by simp; omega), List.take_of_length_le (by simp; omega)]

theorem Wds.len {n : Nat} {l : List Nat} (h : Wds n l) : l.length = n := h.1

theorem Wds.set {n : Nat} {ws : List Nat} (h : Wds n ws) (i y : Nat) (hy : y < 4294967296) : Wds n (ws.set i y) :=
  ⟨by rw [List.length_set]; exact h.1, fun x hx => by rcases List.mem_or_eq_of_mem_set hx with q | q; exact h.2 x q; omega⟩

theorem HB.wset {w : World} {p : Nat} {ws bs : List Nat} {n : Nat} (h : HB w p ws bs n) (i y : Nat) (hi : i < 8) (hy : y < 4294967296) : HB (w.setCell ⟨p, i, none⟩ (.int .u32 (y : Nat))) p (ws.set i y) bs n := by
  refine ⟨?_, h.wds.set i y hy, h.len, h.byt⟩
  have hb := h.blk.set i (.int .u32 (y : Nat))
  have hl := h.wds.1
  unfold hCells at hb ⊢
  rw [List.map_set, ← List.set_append_left _ _ (by simp; omega)]
  simpa [wordV] using hb

theorem HB.nset {w : World} {p : Nat} {ws bs : List Nat} {n : Nat} (h : HB w p ws bs n) (m : Nat) : HB (w.setCell ⟨p, 72, none⟩ (.int .u64 (m : Nat))) p ws bs m := by
  refine ⟨?_, h.wds, h.len, h.byt⟩
  have hb := h.blk.set 72 (.int .u64 (m : Nat))
  have hl := h.wds.1
  have hn := h.len
  have e : (hCells ws bs n).set 72 (.int .u64 (m : Nat)) = hCells ws bs m := by
    unfold hCells
    rw [List.set_append_right _ _ (by simp; omega), List.set_append_right _ _ (by simp; omega)]
    simp [hl, hn]
  rw [← e]
  simpa using hb

theorem Tryz.sizeW8 : (Tryz.prog.info? 125).map (·.size) = some 8 := by kernel_rfl
theorem Tryz.zeroW8 : (Tryz.prog.info? 125).bind (·.zero) = some (.agg ((List.replicate 8 0).map wordV).toArray) := by kernel_rfl
theorem Tryz.sizeU32 : (Tryz.prog.info? 124).map (·.size) = some 1 := by kernel_rfl

theorem index_w8 (l : List Nat) (hl : l.length = 8) (i : Nat) (hi : i < 8) (w : World) : (Instr.index 125 (.agg (l.map wordV).toArray) (.int .i64 (i : Nat))).run Tryz.prog w = .ok (.int .u32 (l.getD i 0 : Nat)) w :=
  run_index15 125 124 8 .i64 Tryz.underlying125 Tryz.sizeU32 _ Tryz.underlying124 rfl _ i _ hi (by simp [wordV, hl, hi]) w

/-- The words with the first i of them summed. -/
def sumA (x y : List Nat) (i : Nat) : List Nat := (sumW x y).take i ++ x.drop i

theorem sumW_get (x y : List Nat) (i : Nat) (hi : i < 8) : (sumW x y).getD i 0 = add3 (x.getD i 0) (y.getD i 0) := by
  simp [sumW, List.getD_eq_getElem?_getD, hi]

theorem sumA_next (x y : List Nat) (i : Nat) (hi : i < 8) (hx : x.length = 8) : (sumA x y i).set i (add3 (x.getD i 0) (y.getD i 0)) = sumA x y (i + 1) := by
  have hl := (sumW_wds x y).1
  unfold sumA
  rw [List.set_append_right _ _ (by simp; omega), show ((sumW x y).take i).length = i by simp; omega, Nat.sub_self, List.drop_eq_getElem_cons (by omega), List.set_cons_zero, List.take_succ_eq_append_getElem (by omega), List.append_assoc, List.singleton_append]
  have := sumW_get x y i hi
  rw [← this, List.getD_eq_getElem?_getD, List.getElem?_eq_getElem (by omega)]
  rfl

theorem sumA_get (x y : List Nat) (i : Nat) (hi : i < 8) : (sumA x y i).getD i 0 = x.getD i 0 := by
  have hl := (sumW_wds x y).1
  unfold sumA
  rw [List.getD_eq_getElem?_getD, List.getElem?_append_right (by simp; omega), show ((sumW x y).take i).length = i by simp; omega, List.getElem?_drop, List.getD_eq_getElem?_getD]
  congr 2
  omega

theorem sumA_8 (x y : List Nat) (hx : x.length = 8) : sumA x y 8 = sumW x y := by
  have hl := (sumW_wds x y).1
  unfold sumA
  rw [List.drop_of_length_le (by omega), List.take_of_length_le (by omega), List.append_nil]

theorem add_w (a b : Nat) : IntKind.u32.wrap ((a : Int) + (b : Int)) = ((add3 a b : Nat) : Int) := by
  unfold add3
  simp only [IntKind.wrap_u32']
  omega
theorem add_m (a b : Nat) : ((a : Int) + (b : Int)) % 4294967296 = ((add3 a b : Nat) : Int) := by
  unfold add3
  omega

set_option maxRecDepth 100000 in
set_option maxHeartbeats 1000000 in
theorem mix_any (w : World) (p : Nat) (ws bs : List Nat) (n : Nat) (h : HB w p ws bs n) (hT : Tab15 w) :
    Calls Tryz.prog 87 #[.pointer (some ⟨p, 0, none⟩)] w fun e w' => (∃ v, e = .returned v) ∧ HB w' p (mixF ws bs) bs n ∧ Kept (· = p) w w' := by
  have H : Hid (HB w p ws bs n) := h
  have HT : Hid (Tab15 w) := hT
  have HSP := spread_any w bs h.byt h.len
  have HSL : Hid (Wds 64 (schW bs)) := hid (schW_wds bs h.byt)
  have hpw : p < w.heap.size := h.lt
  clear h hT
  go_enter Tryz.func87, Tryz.ntmps87
  go_wp2_with (first
    | (with_reducible refine at_load 98 20 ?_; refine wpl_load 98 64 _ Tryz.underlying98 rfl Tryz.sizeB64 rfl H.out.blk (bs.map byteV) (by simp [H.out.len]) H.out.block ?_)
    | (with_reducible refine at_alloc 153 2 ?_; refine wpl_alloc 153 _ Tryz.zero64 ?_; intro w2 g2 hB2 hk2 hg2 hl2; have HB2 := hid hB2; have HK2 := hid hk2; clear hB2 hk2))
  refine HSP.mono ?_
  rintro e w1 ⟨rfl, hk1⟩
  have HK1 := hid hk1
  clear hk1 HSP
  have hsz1 := HK1.out.size
  go_wp2_with (first
    | (with_reducible refine at_alloc 153 2 ?_; refine wpl_alloc 153 _ Tryz.zero64 ?_; intro w2 g2 hB2 hk2 hg2 hl2; have HB2 := hid hB2; have HK2 := hid hk2; clear hB2 hk2)
    | (with_reducible refine at_store 153 2 ?_; refine wpl_store 153 64 Tryz.size64 rfl (cells := (schW bs).map wordV) rfl HB2.out (by simp) (by simp [HSL.out.len]) (wordV_one _) ?_; intro w3 hB3 hk3 hs3; have HB3 := hid hB3; have HK3 : Hid (Same w w3) := hid ((HK1.out.trans HK2.out).then hk3 (fun x hx e => by omega)); clear hB3 hk3 HB2 HK2)
    | (with_reducible refine at_load 125 25 ?_; refine wpl_load 125 8 _ Tryz.underlying125 rfl Tryz.sizeW8 rfl (H.out.kept HK3.out (fun f => f)).blk (ws.map wordV) (by simp [H.out.wds.len]) H.out.words ?_)
    | (with_reducible refine at_alloc 125 3 ?_; refine wpl_alloc 125 _ Tryz.zeroW8 ?_; intro w4 g4 hB4 hk4 hg4 hl4; have HB4 := hid hB4; have HK4 := hid hk4; clear hB4 hk4)
    | (with_reducible refine at_store 125 3 ?_; refine wpl_store 125 8 Tryz.sizeW8 rfl (cells := ws.map wordV) rfl HB4.out (by simp) (by simp [H.out.wds.len]) (wordV_one _) ?_; intro w5 hB5 hk5 hs5; have HB5 := hid hB5; have HK5 : Hid (Same w3 w5) := hid (HK4.out.then hk5 (fun x hx e => by omega)); clear hB5 hk5 HB4 HK4))
  have HT5 : Hid (Tab15 w5) := hid ((HT.out.kept HK3.out (fun f => f)).kept HK5.out (fun f => f))
  have H5 : Hid (HB w5 p ws bs n) := hid ((H.out.kept HK3.out (fun f => f)).kept HK5.out (fun f => f))
  have HBS : Hid (Blk w5 g2 ((schW bs).map wordV).toArray 153) := hid (HB3.out.kept HK5.out (fun f => f))
  have HKW : Hid (Same w w5) := hid (HK3.out.trans HK5.out)
  have x0 := HB5.out.wcell 0 (by rw [H.out.wds.len]; omega)
  have x1 := HB5.out.wcell 1 (by rw [H.out.wds.len]; omega)
  have x2 := HB5.out.wcell 2 (by rw [H.out.wds.len]; omega)
  have x3 := HB5.out.wcell 3 (by rw [H.out.wds.len]; omega)
  have x4 := HB5.out.wcell 4 (by rw [H.out.wds.len]; omega)
  have x5 := HB5.out.wcell 5 (by rw [H.out.wds.len]; omega)
  have x6 := HB5.out.wcell 6 (by rw [H.out.wds.len]; omega)
  have x7 := HB5.out.wcell 7 (by rw [H.out.wds.len]; omega)
  clear HT HB3 HK3 HK5 HB5 HK1 hl4 hg4 hs5 hs3
  obtain ⟨s0, hs0⟩ : ∃ s0, s0 = S8.of ws := ⟨_, rfl⟩
  have HS0 := hid hs0
  have HOK : Hid (∀ i, (rnds s0 (schW bs) i).Ok) := hid (fun i => rnds_ok (by rw [hs0]; exact S8.of_ok H.out.wds) _ i)
  have y0 : ws.getD 0 0 = s0.a := by rw [hs0]; rfl
  have y1 : ws.getD 1 0 = s0.b := by rw [hs0]; rfl
  have y2 : ws.getD 2 0 = s0.c := by rw [hs0]; rfl
  have y3 : ws.getD 3 0 = s0.d := by rw [hs0]; rfl
  have y4 : ws.getD 4 0 = s0.e := by rw [hs0]; rfl
  have y5 : ws.getD 5 0 = s0.f := by rw [hs0]; rfl
  have y6 : ws.getD 6 0 = s0.g := by rw [hs0]; rfl
  have y7 : ws.getD 7 0 = s0.h := by rw [hs0]; rfl
  rw [y0] at x0
  rw [y1] at x1
  rw [y2] at x2
  rw [y3] at x3
  rw [y4] at x4
  rw [y5] at x5
  rw [y6] at x6
  rw [y7] at x7
  clear hs0 y0 y1 y2 y3 y4 y5 y6 y7
  go_quiet (fail)
  clear x0 x1 x2 x3 x4 x5 x6 x7
  obtain ⟨w6, hw6⟩ : ∃ w6, w6 = w5.drewN nq := ⟨_, rfl⟩
  rw [← hw6]
  have HT6 : Hid (Tab15 w6) := hid (by rw [hw6]; exact HT5.out)
  have H6 : Hid (HB w6 p ws bs n) := hid (by rw [hw6]; exact ⟨H5.out.blk, H5.out.wds, H5.out.len, H5.out.byt⟩)
  have HBS6 : Hid (Blk w6 g2 ((schW bs).map wordV).toArray 153) := hid (by rw [hw6]; exact HBS.out)
  have HKW6 : Hid (Same w w6) := hid (by rw [hw6]; exact HKW.out.drewN _)
  clear hw6 HT5 H5 HBS HKW
  go_wp2_with fail
  go_loopg [4, 5, 6, 7, 8, 9, 10, 11, 12, 13, 14, 42] 64 (fun k a b c d e f g h _ _ _ z wr => ∃ i : Nat, i ≤ 64 ∧ 64 - i ≤ k ∧ z = .int .i64 (i : Nat) ∧ ∃ s : S8, Hid (s = rnds s0 (schW bs) i) ∧ a = .int .u32 (s.a : Nat) ∧ b = .int .u32 (s.b : Nat) ∧ c = .int .u32 (s.c : Nat) ∧ d = .int .u32 (s.d : Nat) ∧ e = .int .u32 (s.e : Nat) ∧ f = .int .u32 (s.f : Nat) ∧ g = .int .u32 (s.g : Nat) ∧ h = .int .u32 (s.h : Nat) ∧ Hid (Same w6 wr))
  case atStart => exact ⟨0, by omega, by omega, rfl, s0, hid rfl, rfl, rfl, rfl, rfl, rfl, rfl, rfl, rfl, hid (Kept.refl _ _)⟩
  case round =>
    obtain ⟨i, hi, hik, rfl, s, HS, rfl, rfl, rfl, rfl, rfl, rfl, rfl, rfl, HKi⟩ := hrel
    by_cases hlt : i < 64
    · have hok := HOK.out i
      rw [← HS.out] at hok
      obtain ⟨oa, ob, oc, od, oe, of_, og, oh⟩ := hok
      have ct := (HT6.out.kept HKi.out (fun f => f)) i hlt
      have cw := (HBS6.out.kept HKi.out (fun f => f)).wcell i (by rw [HSL.out.len]; exact hlt)
      have HWI := fun W => wide_any W s.e oe
      have HCH := fun W => choice_any W s.e s.f s.g oe of_ og
      have HNA := fun W => narrow_any W s.a oa
      have HMO := fun W => most_any W s.a s.b s.c oa ob oc
      have HRN : Hid (rnds s0 (schW bs) (i + 1) = rnd s (kL.getD i 0) ((schW bs).getD i 0)) := hid (by rw [rnds, HS.out])
      unfold rnd at HRN
      obtain ⟨kk, hkk⟩ : ∃ x, x = kL.getD i 0 := ⟨_, rfl⟩
      obtain ⟨ww, hww⟩ : ∃ x, x = (schW bs).getD i 0 := ⟨_, rfl⟩
      obtain ⟨tt, htt⟩ : ∃ x, x = tF s kk ww := ⟨_, rfl⟩
      obtain ⟨uu, huu⟩ : ∃ x, x = uF s := ⟨_, rfl⟩
      rw [← hkk] at ct HRN
      rw [← hww] at cw HRN
      rw [← htt, ← huu] at HRN
      obtain ⟨wi, hwi⟩ : ∃ x, x = widF s.e := ⟨_, rfl⟩
      obtain ⟨ch, hch⟩ : ∃ x, x = choF s.e s.f s.g := ⟨_, rfl⟩
      obtain ⟨na, hna⟩ : ∃ x, x = narF s.a := ⟨_, rfl⟩
      obtain ⟨mo, hmo⟩ : ∃ x, x = mosF s.a s.b s.c := ⟨_, rfl⟩
      rw [← hwi] at HWI
      rw [← hch] at HCH
      rw [← hna] at HNA
      rw [← hmo] at HMO
      obtain ⟨t1, ht1⟩ : ∃ x, x = add3 s.h wi := ⟨_, rfl⟩
      obtain ⟨t2, ht2⟩ : ∃ x, x = add3 t1 ch := ⟨_, rfl⟩
      obtain ⟨t3, ht3⟩ : ∃ x, x = add3 t2 kk := ⟨_, rfl⟩
      have ht4 : tt = add3 t3 ww := by rw [htt, tF, ← hwi, ← ht1, ← hch, ← ht2, ← ht3]
      have hu4 : uu = add3 na mo := by rw [huu, uF, ← hna, ← hmo]
      have a1 := add_w s.h wi
      have a2 := add_w t1 ch
      have a3 := add_w t2 kk
      have a4 := add_w t3 ww
      have b1 := add_m na mo
      have b2 := add_m s.d tt
      have b3 := add_m tt uu
      rw [← ht1] at a1
      rw [← ht2] at a2
      rw [← ht3] at a3
      rw [← ht4] at a4
      rw [← hu4] at b1
      obtain ⟨ne, hne⟩ : ∃ x, x = add3 s.d tt := ⟨_, rfl⟩
      obtain ⟨nn, hnn⟩ : ∃ x, x = add3 tt uu := ⟨_, rfl⟩
      rw [← hne] at b2 HRN
      rw [← hnn] at b3 HRN
      obtain ⟨sa, sb, sc, sd, se, sf, sg, sh⟩ := s
      simp only [] at *
      clear hkk hww htt huu hwi hch hna hmo ht1 ht2 ht3 ht4 hu4 hne hnn
      go_wp2_with fail
      go_quiet (first
        | (go_at_call 110; exact Calls.quiet_of_same (HWI _))
        | (go_at_call 111; exact Calls.quiet_of_same (HCH _)))
      obtain ⟨w7, hw7⟩ : ∃ w7, w7 = wr.drewN nq := ⟨_, rfl⟩
      rw [← hw7]
      have HK7 : Hid (Same w6 w7) := hid (by rw [hw7]; exact HKi.out.drewN _)
      clear hw7 ct cw
      go_wp2_with fail
      refine (HNA _).mono ?_
      rintro e w8 ⟨rfl, rfl⟩
      go_wp2_with fail
      refine (HMO _).mono ?_
      rintro e w9 ⟨rfl, rfl⟩
      go_wp2_with fail
      go_roundg (gk - 1)
      case measure => omega
      case rel =>
        exact ⟨i + 1, by omega, by omega, by go_num, ⟨nn, sa, sb, sc, ne, se, sf, sg⟩, hid HRN.out.symm, by first | rfl | rw [b3] | rw [b1, b3], rfl, rfl, rfl, by first | rfl | rw [b2], rfl, rfl, rfl, HK7⟩
    · have hin : i = 64 := by omega
      subst hin
      have HML : Hid (mixF ws bs = sumW ws s.L) := hid (by unfold mixF; rw [HS.out, HS0.out])
      have H7 : Hid (HB wr p (sumA ws s.L 0) bs n) := hid (by have e : sumA ws s.L 0 = ws := by simp [sumA]
                                                              rw [e]; exact H6.out.kept HKi.out (fun f => f))
      have hix := fun i hi => index_w8 s.L rfl i hi
      have HIX := hid hix
      have HWL := hid H.out.wds.len
      have HKp : Hid (Kept (· = p) w wr) := hid ((HKW6.out.trans HKi.out).mono (fun _ _ f => f.elim))
      clear hix HT6 H6 HBS6 HKW6 HKi HOK HSL
      have hL : Value.agg (s.L.map wordV).toArray = .agg #[.int .u32 (s.a : Nat), .int .u32 (s.b : Nat), .int .u32 (s.c : Nat), .int .u32 (s.d : Nat), .int .u32 (s.e : Nat), .int .u32 (s.f : Nat), .int .u32 (s.g : Nat), .int .u32 (s.h : Nat)] := rfl
      rw [hL] at HIX
      go_wp2_with fail
      obtain ⟨V, hV⟩ : ∃ V : Value, V = .agg #[.int .u32 (s.a : Nat), .int .u32 (s.b : Nat), .int .u32 (s.c : Nat), .int .u32 (s.d : Nat), .int .u32 (s.e : Nat), .int .u32 (s.f : Nat), .int .u32 (s.g : Nat), .int .u32 (s.h : Nat)] := ⟨_, rfl⟩
      rw [← hV] at HIX ⊢
      clear hV
      go_loopg [15, 16, 91] 8 (fun k _ _ z wr => ∃ i : Nat, i ≤ 8 ∧ 8 - i ≤ k ∧ z = .int .i64 (i : Nat) ∧ Hid (HB wr p (sumA ws s.L i) bs n) ∧ Hid (Kept (· = p) w wr))
      case atStart => exact ⟨0, by omega, by omega, rfl, H7, HKp⟩
      case round =>
        clear H7 HKp
        obtain ⟨i, hi, hik, rfl, Hi, HKi⟩ := hrel
        by_cases hlt : i < 8
        · have hx := HIX.out i hlt
          have c1 := Hi.out.wcell i hlt
          have f1 := Hi.out.blk.frozen i
          have HN : Hid (sumA ws s.L (i + 1) = (sumA ws s.L i).set i (add3 (ws.getD i 0) (s.L.getD i 0))) := hid (sumA_next ws s.L i hlt HWL.out).symm
          rw [sumA_get ws s.L i hlt] at c1
          obtain ⟨x, hxe⟩ : ∃ x, x = ws.getD i 0 := ⟨_, rfl⟩
          obtain ⟨y, hye⟩ : ∃ x, x = s.L.getD i 0 := ⟨_, rfl⟩
          rw [← hxe] at c1 HN
          rw [← hye] at hx HN
          have hw := add_w x y
          obtain ⟨z, hz⟩ : ∃ z, z = add3 x y := ⟨_, rfl⟩
          have HZ : Hid (z < 4294967296) := hid (by rw [hz]; exact add3_lt _ _)
          rw [← hz] at hw HN
          have p1 : (0 : Int) ≤ (i : Int) := by omega
          have p2 : (i : Int) < 8 := by omega
          clear hxe hye hz
          go_wp2_with fail
          go_region
          go_wp2_with fail
          go_roundg (gk - 1)
          case measure => omega
          case rel =>
            refine ⟨i + 1, by omega, by omega, by go_num, ?_, hid ((HKi.out.setCell _ _ (.inl rfl)).drew)⟩
            have h9 := Hi.out.wset i z hlt HZ.out
            rw [← HN.out] at h9
            exact hid ⟨h9.blk, h9.wds, h9.len, h9.byt⟩
        · have hin : i = 8 := by omega
          subst hin
          rw [sumA_8 _ _ HWL.out] at Hi
          go_wp2_with fail
          go_end0
          exact ⟨⟨_, rfl⟩, by rw [HML.out]; exact Hi.out, HKi.out⟩

end Go.Proofs.YtfhfnkhiomahfaaGreatDoor
