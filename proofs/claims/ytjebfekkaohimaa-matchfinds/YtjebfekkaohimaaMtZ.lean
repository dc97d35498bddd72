/-
  The law MatchFinds.
-/
import Derived.Test.YtjebfekkaohimaaMtY
import Derived.Test.YtjebfekkaohimaaRnq
import Derived.Test.YtjebfekkaohimaaArgs
namespace Go.Proofs.Ytjebfekkaohimaa
open Go.RowKit Go.Shelf

attribute [local go_sem] Oper.semAt_some

/-- Ahead of round k of a range whose rounds count in block b. -/
structure NI (w : World) (b : Nat) (k : Nat) (W : World) : Prop where
  cell : W.cell? ⟨b, 0, none⟩ = some (.int .i64 (k : Nat))
  frozen : W.frozen? ⟨b, 0, none⟩ = false
  kept : Kept (fun j => j = b ∨ w.heap.size ≤ j) w W
  lt : b < w.heap.size

theorem NI.more {w W W' : World} {b k : Nat} {G : Nat → Prop} (h : NI w b k W) (hk : Kept G W W') (hG : ¬ G b) (hB : ∀ j, G j → w.heap.size ≤ j) : NI w b k W' :=
  ⟨hk.cell h.cell hG, (hk.frozen (p := ⟨b, 0, none⟩) (World.block_lt_of_cell? W _ h.cell) hG).trans h.frozen, Kept.trans h.kept hk (fun _ _ f => f) (fun j _ g => .inr (hB j g)), h.lt⟩

theorem NI.next {w W : World} {b k : Nat} (h : NI w b k W) (m : Nat) : Kf (fun _ j => j = b) W ((W.drewN m).setCell ⟨b, 0, none⟩ (.int .i64 ((k : Int) + 1))) ∧ NI w b (k + 1) ((W.drewN m).setCell ⟨b, 0, none⟩ (.int .i64 ((k : Int) + 1))) := by
  have hk : Kept (fun j => j = b) W ((W.drewN m).setCell ⟨b, 0, none⟩ (.int .i64 ((k : Int) + 1))) := ((Kept.refl (fun j => j = b) W).drewN m).setCell _ _ (.inl rfl)
  refine ⟨⟨hk, fun j e => .inl e⟩, ?_, ?_, Kept.trans h.kept hk (fun _ _ f => f) (fun j _ e => .inl e), h.lt⟩
  · rw [World.cell?_setCell_same' _ _ _ (by rw [show (W.drewN m).cell? ⟨b, 0, none⟩ = W.cell? ⟨b, 0, none⟩ from rfl, h.cell]; rfl), show (((k + 1 : Nat)) : Int) = (k : Int) + 1 from by omega]
  · rw [World.frozen?_setCell]; exact h.frozen

theorem inBlock_either {Q : Exit → Act → World → Prop} {id : Nat} {e : Exit} {a : Act} {w : World} (he : e = .normal ∨ e = .exit id) (h : Q .normal a w) : Exit.inBlock id Q e a w := by
  rcases he with rfl | rfl
  · simpa [Exit.inBlock] using h
  · simpa [Exit.inBlock] using h

theorem results_cell_one {fn : Func} {p : Tmp} {ty : TypeId} (h : fn.results = #[.cell p ty]) (tmps : Array Value) (P : Program) (w : World) :
    (results fn tmps).run P w = ((asAddr (tmps.getD p undef)).run P w).andThen fun a w1 => (loadVar ty a).run P w1 := by
  simp only [results, h]
  simp [Sem.run_bind, Result.andThen]

/-- A function that is there is not nil. -/
theorem run_equalIn_fnil {P : Program} (w : World) (d : Nat) (t : TypeId) (f : Fn) (l b : Array Value) {ps rs : Array TypeId} {vr : Bool} (h : P.underlying t = some (.func ps rs vr)) : (Op.equalIn (d + 1) t (.func f l b) .nilFunc).run P w = .ok false w := by
  simp [Op.equalIn, run_underlying h]
theorem run_eq_fnil {P : Program} (w : World) (t : TypeId) (f : Fn) (l b : Array Value) {ps rs : Array TypeId} {vr : Bool} (h : P.underlying t = some (.func ps rs vr)) : (binOp .eql t (.func f l b) .nilFunc).run P w = .ok (.bool false) w := by
  have h1 : (Op.equal t (.func f l b) .nilFunc).run P w = .ok false w := run_equalIn_fnil w 9999 t f l b h
  simp [binOp, h1]

set_option maxRecDepth 100000 in
set_option maxHeartbeats 4000000 in
theorem mfinds_good (W : World) (I : Nat → Prop) (ao : Option Addr) (L cap : Nat) (data : List Nat) (ea : Int) (hs : Src W I (.slice ao L cap) data) (hl : data.length = L) (hb : ∀ b ∈ data, b < 256) (hlong : L ≤ 1048576) :
    Calls Try.prog 4 #[.slice ao L cap, .int .i64 ea] W fun e w' => e = .returned (.bool true) ∧ Same W w' := by
  have HS := hid hs
  have HL := hid hl
  have HB := hid hb
  have b1 : decide ((1048576 : Int) < (L : Int)) = false := by simp; omega
  obtain ⟨W0, hW0⟩ : ∃ W0, W0 = (W.alloc (.cells #[.int .i64 ea] 3)).alloc (.cells #[.bool false] 4) := ⟨_, rfl⟩
  have hk0 : Same W W0 := by rw [hW0]; exact ((Kept.refl _ W).alloc _).alloc _
  have hsz0 : W0.heap.size = W.heap.size + 2 := by rw [hW0]; simp
  have HB3 : Hid (Blk W0 W.heap.size #[.int .i64 ea] 3) := hid (by rw [hW0]; exact (Blk.new W _ _).kept ((Kept.refl (fun _ => False) _).alloc _) (fun f => f))
  have HB4 : Hid (Blk W0 (W.heap.size + 1) #[.bool false] 4) := hid (by rw [hW0]; have h := Blk.new (W.alloc (.cells #[.int .i64 ea] 3)) #[.bool false] 4; rw [World.size_alloc] at h; exact h)
  have HK0 := hid hk0
  obtain ⟨L1, hL1⟩ : ∃ x, x = L + 1 := ⟨_, rfl⟩
  have HL1 := hid hL1
  have hL1I : (L : Int) + 1 = (L1 : Int) := by omega
  have hLL : L < L1 := by omega
  have hL1b : L1 ≤ 1048577 := by omega
  clear hs hl hb hk0 hL1 hlong
  refine (callsIn_wide (n := 5)).1 (callsIn_of_wp_marks Try.func4 rfl trivial (wpIn_wide.2 ?_) rfl)
  simp only [Try.ntmps4, List.size_toArray, List.length_cons, List.length_nil, Nat.reduceAdd, Nat.reduceSub, Array.replicate_succ, Array.replicate_zero, List.push_toArray, List.append_toArray, List.nil_append, List.cons_append]
  go_wp2_with (at_make; refine wpList_make_bytes _ rfl _ _ rfl _ _ _ _ L1 rfl rfl (by omega) (by omega) (by omega) ?_)
  intro w2 hr2 hg2 hs2
  rw [← hW0] at hg2
  obtain ⟨g3, hg3⟩ : ∃ g, g = W.heap.size := ⟨_, rfl⟩
  obtain ⟨g4, hg4⟩ : ∃ g, g = W.heap.size + 1 := ⟨_, rfl⟩
  obtain ⟨g5, hg5⟩ : ∃ g, g = W.heap.size + 1 + 1 := ⟨_, rfl⟩
  rw [← hg5] at hr2 ⊢
  rw [← hg4, ← hg3]
  have HG : Hid (g3 = W.heap.size ∧ g4 = g3 + 1 ∧ g5 = g3 + 2) := hid ⟨hg3, by omega, by omega⟩
  have HR2 := hid hr2
  have hk02 : Same W0 w2 := (Kept.refl _ W0).grown hg2 (by simp)
  have HK2 : Hid (Same W w2) := hid (Same.trans HK0.out hk02)
  have HC3 : Hid (Blk w2 g3 #[.int .i64 ea] 3 ∧ Blk w2 g4 #[.bool false] 4) := hid ⟨by rw [hg3]; exact HB3.out.kept hk02 (fun f => f), by rw [hg4]; exact HB4.out.kept hk02 (fun f => f)⟩
  have hle : data.length ≤ (List.replicate L1 0).length := by rw [List.length_replicate, HL.out]; omega
  have HLE := hid hle
  clear hr2 hg2 hs2 hk02 hg3 hg4 hg5 hW0 HB3 HB4 hsz0 hle
  go_wp2_with (with_reducible refine atCopy ?_; refine wpList_copy_bytes _ rfl (.tmp 22) (.tmp 23) rfl g5 L1 L1 ao L cap (List.replicate L1 0) data I rfl rfl HR2.out (HS.out.kept HK2.out (fun _ _ _ h => h)) HLE.out ?_)
  intro w3 hr3 hg3 hs3
  have e9 : L1 - data.length = 1 := by rw [HL.out, HL1.out]; omega
  have hr3 : Row w3 (.slice (some ⟨g5, 0, none⟩) L1 L1) (data ++ [0]) := by simpa [e9] using hr3
  have hk23 : Kept (· = g5) w2 w3 := (Kept.refl _ w2).grown hg3 (fun k e => .inl (by injection e with e; exact e.symm))
  have HK3 : Hid (Same W w3) := hid (Same.then HK2.out hk23 (fun x hx e => by have := HG.out; omega))
  have HC3' : Hid (Blk w3 g3 #[.int .i64 ea] 3 ∧ Blk w3 g4 #[.bool false] 4) := hid ⟨HC3.out.1.kept hk23 (by have := HG.out; omega), HC3.out.2.kept hk23 (by have := HG.out; omega)⟩
  have c1 : w3.cell? ⟨g5, L, none⟩ = some (.int .u8 0) := by
    rw [hr3.cell6 L (by rw [List.length_append, HL.out]; simp), List.getElem_append_right (by rw [HL.out]; exact Nat.le_refl _)]
    simp
  have f1 : w3.frozen? ⟨g5, L, none⟩ = false := hr3.frozen6 L
  have hr4 := hr3.lay6 L 99
  have hst : (data ++ [0]).set L 99 = data ++ [99] := by rw [List.set_append_right _ _ (by rw [HL.out]; exact Nat.le_refl _), HL.out, Nat.sub_self]; rfl
  rw [hst] at hr4
  obtain ⟨w4, hw4⟩ : ∃ w4, w4 = w3.setCell ⟨g5, L, none⟩ (.int .u8 (99 : Nat)) := ⟨_, rfl⟩
  rw [← hw4] at hr4
  have hk34 : Kept (· = g5) w3 w4 := by rw [hw4]; exact (Kept.refl _ w3).setCell _ _ (.inl rfl)
  have HK4 : Hid (Same W w4) := hid (Same.then HK3.out hk34 (fun x hx e => by have := HG.out; omega))
  have HC4 : Hid (Blk w4 g3 #[.int .i64 ea] 3 ∧ Blk w4 g4 #[.bool false] 4) := hid ⟨HC3'.out.1.kept hk34 (by have := HG.out; omega), HC3'.out.2.kept hk34 (by have := HG.out; omega)⟩
  have HR4 := hid hr4
  have H5 := rfind_any w4 _ _ data (HS.out.kept HK4.out (fun _ _ _ h => h)) (by have := HL.out; omega)
  clear hr3 hg3 hs3 hk23 e9 hr4 hst hk34 HK2 HK3 HC3 HC3' HR2 HLE
  go_wp2_with fail
  rw [hw4] at H5
  refine H5.mono ?_
  rintro e w5 ⟨v6, rfl, hr5, hk5⟩
  rw [← hw4] at hr5 hk5
  obtain ⟨ts, hts⟩ : ∃ ts, ts = findM data := ⟨_, rfl⟩
  rw [← hts] at hr5
  have HTS := hid hts
  have HN : Hid (ts.length ≤ 16384) := hid (by rw [hts, findM_own]; exact Nat.le_trans (tokM_length _ _ _) (ownM_le data))
  obtain ⟨a6, c6, hv6, hsh6, _⟩ := hr5.shape
  obtain ⟨N, hN⟩ : ∃ N, N = ts.length := ⟨_, rfl⟩
  rw [← hN] at hv6
  subst hv6
  have HNN := hid hN
  have hN16 : N ≤ 16384 := by have := HN.out; omega
  have HV5 := hid hr5
  have HK5 := hid (Same.trans HK4.out hk5)
  have HC5 : Hid (Blk w5 g3 #[.int .i64 ea] 3 ∧ Blk w5 g4 #[.bool false] 4) := hid ⟨HC4.out.1.kept hk5 (fun f => f), HC4.out.2.kept hk5 (fun f => f)⟩
  have HR5 := hid (HR4.out.kept hk5 (fun _ _ f => f))
  have hg54 : g5 < w5.heap.size := HR5.out.lt rfl
  have hg44 : g5 < w4.heap.size := HR4.out.lt rfl
  clear hr5 hk5 hts hN hsh6 H5 hw4 c1 f1 HR4 HC4 HK4
  go_wp2_with fail
  obtain ⟨w6, hw6⟩ : ∃ w, w = w5.alloc (.cells #[.slice a6 N c6] 22) := ⟨_, rfl⟩
  obtain ⟨g6, hg6⟩ : ∃ g, g = w5.heap.size := ⟨_, rfl⟩
  have hk56 : Same w5 w6 := by rw [hw6]; exact (Kept.refl _ w5).alloc _
  have HB6 : Hid (Blk w6 g6 #[.slice a6 N c6] 22) := hid (by rw [hw6, hg6]; exact Blk.new w5 _ _)
  have hg6s : w6.heap.size = g6 + 1 := by rw [hw6, hg6]; simp
  have HK6 := hid (Same.trans HK5.out hk56)
  have HC6 : Hid (Blk w6 g3 #[.int .i64 ea] 3 ∧ Blk w6 g4 #[.bool false] 4) := hid ⟨HC5.out.1.kept hk56 (fun f => f), HC5.out.2.kept hk56 (fun f => f)⟩
  have HR6 := hid (HR5.out.kept hk56 (fun _ _ f => f))
  have HV6 : Hid (TkRow (g5 + 1) w6 (.slice a6 N c6) ts) := hid (RowC.base (RowC.kept HV5.out hk56 (fun _ _ f => f)) (by omega))
  have HV6g : Hid (∀ k, (Value.slice a6 N c6).ownBlock = some k → k < g6) := hid (fun k hk => by have := HV5.out.lt hk; omega)
  rw [← hw6, ← hg6]
  have hcut : ∀ w', Row w' (.slice (some ⟨g5, 0, none⟩) L1 L1) (data ++ [99]) → Src w' (fun k => k = g5) (.slice (some ⟨g5, 0, none⟩) L L1) data := fun w' h => by
    have h9 := Src.ofRow (Row.cut h)
    rw [HL.out] at h9
    exact h9.mono (fun j e => by injection e with e; exact e.symm)
  have HCUT := hid hcut
  have H7 := mfind_any w6 _ _ data (hcut w6 HR6.out) HB.out (by have := HL.out; omega)
  rw [← HTS.out] at H7
  have HG56 : Hid (g5 < g6) := hid (by omega)
  clear hw6 hg6 hk56 hcut HK5 HC5 HR5 HV5 hg54 hg44
  refine H7.mono ?_
  rintro e w7 ⟨v7, rfl, hr7, hk7⟩
  have HV7 := hid hr7
  have HKa := hid hk7
  have H8 := mall_any w7 _ _ data (HCUT.out w7 (HR6.out.kept hk7 (fun _ _ f => f))) (by have := HL.out; omega)
  clear hr7 hk7 H7
  go_wp2_with fail
  refine H8.mono ?_
  rintro e w8 ⟨bx, vo, rfl, hbx, hro, hbl, hvo, hk8⟩
  have HBX := hid hbx
  have HRO := hid hro
  have HBL := hid hbl
  have HVO := hid hvo
  have HKb := hid (Same.trans HKa.out hk8)
  have HV8 := hid (RowC.kept HV7.out hk8 (fun _ _ f => f))
  have HR8 := hid (HR6.out.kept HKb.out (fun _ _ f => f))
  have HK8 := hid (Same.trans HK6.out HKb.out)
  have hsz8 : w7.heap.size ≤ w8.heap.size := hk8.size
  have hsz7 : g6 + 1 ≤ w7.heap.size := by have := HKa.out.size; omega
  have c1 : w8.cell? ⟨g5, L, none⟩ = some (.int .u8 99) := by
    rw [HR8.out.cell6 L (by rw [List.length_append, HL.out]; simp), List.getElem_append_right (by rw [HL.out]; exact Nat.le_refl _)]
    simp
  have H9 := bsame_any _ _ _ _ data data w8 (HCUT.out w8 HR8.out) (HS.out.kept HK8.out (fun _ _ _ h => h)) (by have := HL.out; omega) (by have := HL.out; omega)
  rw [show decide (data = data) = true by simp] at H9
  clear hbx hro hbl hvo hk8 H8
  go_wp2_with fail
  refine H9.mono ?_
  rintro e w9 ⟨rfl, m9, hw9⟩
  have hk9 : Same w8 w9 := by rw [hw9]; exact (Kept.refl _ w8).drewN m9
  have HKc := hid (Same.trans HKb.out hk9)
  have HK9 := hid (Same.trans HK8.out hk9)
  have HR9 := hid (HR8.out.kept hk9 (fun _ _ f => f))
  clear c1 H9 hw9
  have hg56 : g5 < g6 := HG56.out
  go_wp2_with fail
  go_loopg [10] L1 (fun q zi wr => ∃ (i : Nat) (ds : List Nat), zi = .int .i64 (i : Nat) ∧ L1 - i ≤ q ∧ i ≤ L1 ∧ Hid (ds.length = L1 ∧ Row wr (.slice (some ⟨g5, 0, none⟩) L1 L1) ds) ∧ Hid (Kept (· = g5) w9 wr))
  case atStart => exact ⟨0, _, rfl, by omega, by omega, hid ⟨by rw [List.length_append, HL.out, HL1.out]; rfl, HR9.out⟩, hid (Kept.refl _ _)⟩
  case round =>
    clear HR9
    obtain ⟨i, ds, rfl, hq, hi, HD, HKS⟩ := hrel
    by_cases hlt : i < L1
    · have x1 := HD.out.2.cell6 i (by rw [HD.out.1]; exact hlt)
      have x2 := HD.out.2.frozen6 i
      obtain ⟨u, hu⟩ : ∃ u, u = ds[i]'(by rw [HD.out.1]; exact hlt) := ⟨_, rfl⟩
      rw [← hu] at x1
      clear hu
      go_wp2_with fail
      go_roundg (gk - 1)
      case measure => omega
      case rel => exact ⟨i + 1, _, by go_num, by omega, by omega, hid ⟨by rw [List.length_set]; exact HD.out.1, HD.out.2.lay6 i 55⟩, hid (HKS.out.setCell _ _ (.inl rfl))⟩
    · have hks := HKS.out
      have HKA : Hid (Kept (· = g5) w6 wr) := hid (Kept.trans HKc.out hks (fun _ _ f => f.elim) (fun _ _ e => e))
      have HKW : Hid (Same W wr) := hid (Same.then HK9.out hks (fun x hx e => by have := HG.out; omega))
      have HC : Hid (Blk wr g3 #[.int .i64 ea] 3 ∧ Blk wr g4 #[.bool false] 4 ∧ Blk wr g6 #[.slice a6 N c6] 22) := hid ⟨HC6.out.1.kept HKA.out (by have := HG.out; omega), HC6.out.2.kept HKA.out (by have := HG.out; omega), HB6.out.kept HKA.out (by omega)⟩
      have HV6' : Hid (TkRow (g5 + 1) wr (.slice a6 N c6) ts) := hid (RowC.kept HV6.out HKA.out (fun k hk e => by have := HV6.out.ge hk; omega))
      have hk8r : Kept (· = g5) w8 wr := Kept.trans hk9 hks (fun _ _ f => f.elim) (fun _ _ e => e)
      have HV7' : Hid (TkRow w6.heap.size wr v7 ts) := hid (RowC.kept HV8.out hk8r (fun k hk e => by have := HV8.out.ge hk; omega))
      have HBX' : Hid (wr.cell? ⟨bx, 0, none⟩ = some vo ∧ bx < wr.heap.size) := hid ⟨hk8r.cell HBX.out (by have := HBL.out; simp only; omega), Nat.lt_of_lt_of_le (World.block_lt_of_cell? w8 _ HBX.out) hk8r.size⟩
      have HRO' : Hid (Row wr vo (ownM data)) := hid (HRO.out.kept hk8r (fun k hk e => by have := (HVO.out k hk).1; omega))
      have HT := tsame_any v7 (.slice a6 N c6) _ _ ts ts wr (SrcC.ofRow tkC_ok HV7'.out) (SrcC.ofRow tkC_ok HV6'.out) (by have := HN.out; omega) (by have := HN.out; omega)
      rw [show decide (ts = ts) = true by simp] at HT
      have z6 : wr.cell? ⟨g6, 0, none⟩ = some (.slice a6 N c6) := HC.out.2.2.cell 0
      have hnf := run_eq_fnil (P := Try.prog) wr 35 (.func 29) #[] #[.pointer (some ⟨bx, 0, none⟩)] Try.underlying35
      clear hks hk8r HKS HD HKc HK9 HC6 HB6 HV6 HV8 HBX HRO HKA
      go_wp2_with fail
      refine HT.mono ?_
      rintro e w10 ⟨rfl, m10, hw10⟩
      have hk10 : Same wr w10 := by rw [hw10]; exact (Kept.refl _ wr).drewN m10
      have HKW10 := hid (Same.trans HKW.out hk10)
      have HC10 : Hid (Blk w10 g3 #[.int .i64 ea] 3 ∧ Blk w10 g4 #[.bool false] 4 ∧ Blk w10 g6 #[.slice a6 N c6] 22) := hid ⟨HC.out.1.kept hk10 (fun f => f), HC.out.2.1.kept hk10 (fun f => f), HC.out.2.2.kept hk10 (fun f => f)⟩
      have HV10 := hid (RowC.kept HV6'.out hk10 (fun _ _ f => f))
      have HBX10 : Hid (w10.cell? ⟨bx, 0, none⟩ = some vo ∧ bx < w10.heap.size) := hid ⟨hk10.cell HBX'.out.1 (fun f => f), Nat.lt_of_lt_of_le HBX'.out.2 hk10.size⟩
      have HRO10 := hid (HRO'.out.kept hk10 (fun _ _ f => f))
      clear hk10 hw10 HT z6 hnf HC HV6' HBX' HRO' HKW HV7'
      go_wp2_with fail
      obtain ⟨w11, hw11⟩ : ∃ w, w = w10.alloc (.cells #[.int .i64 0] 3) := ⟨_, rfl⟩
      obtain ⟨g11, hg11⟩ : ∃ g, g = w10.heap.size := ⟨_, rfl⟩
      have hk11 : Same w10 w11 := by rw [hw11]; exact (Kept.refl _ w10).alloc _
      have HBk : Hid (Blk w11 g11 #[.int .i64 0] 3) := hid (by rw [hw11, hg11]; exact Blk.new w10 _ _)
      have hs11 : w11.heap.size = g11 + 1 := by rw [hw11, hg11]; simp
      have HKW11 := hid (Same.trans HKW10.out hk11)
      have HC11 : Hid (Blk w11 g3 #[.int .i64 ea] 3 ∧ Blk w11 g4 #[.bool false] 4 ∧ Blk w11 g6 #[.slice a6 N c6] 22) := hid ⟨HC10.out.1.kept hk11 (fun f => f), HC10.out.2.1.kept hk11 (fun f => f), HC10.out.2.2.kept hk11 (fun f => f)⟩
      have HV11 := hid (RowC.kept HV10.out hk11 (fun _ _ f => f))
      have HBX11 : Hid (w11.cell? ⟨bx, 0, none⟩ = some vo ∧ bx < g11) := hid ⟨hk11.cell HBX10.out.1 (fun f => f), by rw [hg11]; exact HBX10.out.2⟩
      have HRO11 := hid (HRO10.out.kept hk11 (fun _ _ f => f))
      have HROg : Hid (∀ k, vo.ownBlock = some k → k < g11) := hid (fun k hk => by rw [hg11]; exact HRO10.out.lt hk)
      have HG2 : Hid (g5 < g6 ∧ g6 < g11 ∧ g3 < g5 ∧ g4 < g5) := hid (by have := HG.out; have := HC10.out.2.2.lt; omega)
      rw [← hw11, ← hg11]
      clear hw11 hg11 hk11 HKW10 HC10 HV10 HBX10 HRO10 hg56 hg6s hsz7 hsz8 HKa HKb HK6 HK8 HBL HVO HR8 HR6
      have z0 : w11.cell? ⟨g11, 0, none⟩ = some (.int .i64 0) := HBk.out.cell 0
      refine wp_loop_rounds 3 ?_
      rw [rounds_succ]
      go_wp2_with fail
      obtain ⟨w12, hw12⟩ : ∃ w, w = w11.alloc (.cells #[.int .i64 0] 3) := ⟨_, rfl⟩
      obtain ⟨g12, hg12⟩ : ∃ g, g = g11 + 1 := ⟨_, rfl⟩
      have hk12 : Same w11 w12 := by rw [hw12]; exact (Kept.refl _ w11).alloc _
      have HBn : Hid (Blk w12 g12 #[.int .i64 0] 3) := hid (by have h9 := Blk.new w11 #[.int .i64 0] 3; rw [hs11, ← hg12, ← hw12] at h9; exact h9)
      have hs12 : w12.heap.size = g12 + 1 := by rw [hw12, World.size_alloc, hs11, hg12]
      have HKW12 := hid (Same.trans HKW11.out hk12)
      have HC12 : Hid (Blk w12 g3 #[.int .i64 ea] 3 ∧ Blk w12 g4 #[.bool false] 4 ∧ Blk w12 g6 #[.slice a6 N c6] 22 ∧ Blk w12 g11 #[.int .i64 0] 3) := hid ⟨HC11.out.1.kept hk12 (fun f => f), HC11.out.2.1.kept hk12 (fun f => f), HC11.out.2.2.kept hk12 (fun f => f), HBk.out.kept hk12 (fun f => f)⟩
      have HV12 := hid (RowC.kept HV11.out hk12 (fun _ _ f => f))
      have HVg : Hid (∀ k, (Value.slice a6 N c6).ownBlock = some k → k < g12) := hid (fun k hk => by have h9 := HV6g.out k hk; have := HG2.out; omega)
      have HBX12 : Hid (w12.cell? ⟨bx, 0, none⟩ = some vo ∧ bx < g12) := hid ⟨hk12.cell HBX11.out.1 (fun f => f), by have := HBX11.out.2; omega⟩
      have HRO12 := hid (HRO11.out.kept hk12 (fun _ _ f => f))
      have hg1112 : g11 < g12 := by omega
      have HBO : Hid (∀ b ∈ ownM data, b < 256) := hid (by unfold ownM; split; simp; exact HB.out)
      have HTK : Hid (tokM (ownM data) (ownM data).length 0 = ts) := hid (by rw [HTS.out, findM_own])
      rw [← hw12, ← hg12]
      clear hw12 hg12 hk12 z0
      refine (wpIn_wide (n := 4)).1 ?_
      refine range_fq 1 rfl (by omega) (gf := 29) (lb := #[.pointer (some ⟨bx, 0, none⟩)]) rfl trivial (enters_of Try.func29 (by kernel_rfl) rfl) ts.length (tokVals ts) (fun _ => rfl) (fun j => !decide ((j : Int) + 1 = ea)) 4
        (fun _ j => j = g12) (NI w12 g12) (fun k W W' G h hk hG hB => h.more hk (hG g12 rfl) hB) (fun k W W' G _ _ _ j => Iff.rfl) (fun k W j h e => by rw [e]; exact World.block_lt_of_cell? W _ h.cell) (fun k W j h e => by have := h.lt; omega) ?start ?seq ?round ?done
      case start => exact ⟨HBn.out.cell 0, HBn.out.frozen 0, Kept.refl _ _, by omega⟩
      case seq =>
        intro J W1 hW hsz hJs hfs hlt hY hJ0
        have h := miter_in Fence.wide freeWide 3 (w12.heap.size + 1) (fun j => !decide ((j : Int) + 1 = ea)) (fpR w12.heap.size (fun _ j => j = g12)) J (ownM data) bx vo (ownM_le data) HBO.out w12.heap.size hJs hfs hlt (by rw [HTK.out]; exact hY) W1 (by omega) hJ0 (hW.cell HBX12.out.1 (fun f => f)) (HRO12.out.kept hW (fun _ _ f => f)) (fun k e f => by
          have h1 := HROg.out k e
          rcases f with rfl | rfl | rfl
          · omega
          · omega
          · omega)
        rw [HTK.out] at h
        exact h
      case round =>
        intro k W1 hk hgo hI hsz
        have hgd : ts.getD k ⟨0, 0, 0⟩ = ts[k] := by simp [List.getD, hk]
        unfold tokVals
        rw [hgd]
        obtain ⟨t, ht⟩ : ∃ t, t = ts[k] := ⟨_, rfl⟩
        have HTt : Hid (t = ts[k]) := ht
        rw [← ht]
        obtain ⟨lit, len, dist⟩ := t
        simp only [tkA]
        clear hgd ht
        gi_wp2
        refine ⟨(Kept.refl _ W1).alloc _, fun W2 hI2 hkP => ?_⟩
        have hTB : Blk W2 W1.heap.size #[.int .u8 (lit : Nat), .int .i64 len, .int .i64 dist] 38 := (Blk.new W1 _ _).kept hkP (fun e => by omega)
        have t0 : W2.cell? ⟨W1.heap.size, 0, none⟩ = some (.int .u8 (lit : Nat)) := hTB.cell 0
        have t1 : W2.cell? ⟨W1.heap.size, 1, none⟩ = some (.int .i64 len) := hTB.cell 1
        have t2 : W2.cell? ⟨W1.heap.size, 2, none⟩ = some (.int .i64 dist) := hTB.cell 2
        have hV2 : TkSrc W2 (fun j => (Value.slice a6 N c6).ownBlock = some j) (.slice a6 N c6) ts := SrcC.ofRow tkC_ok (RowC.kept HV12.out hI2.kept (fun j hj e => by have h1 := HVg.out j hj; rcases e with e | e <;> omega))
        obtain ⟨b, o, ha6, u0, u1, u2⟩ := TkSrc.at hV2 (Kept.refl _ W2) k hk
        subst ha6
        rw [← HTt.out] at u0 u1 u2
        simp only at u0 u1 u2
        have zn := hI2.cell
        have zf := hI2.frozen
        have hout : ∀ g, g < g12 → ¬ (g = g12 ∨ w12.heap.size ≤ g) := fun g hg e => by rcases e with e | e <;> omega
        have z6 : W2.cell? ⟨g6, 0, none⟩ = some (.slice (some ⟨b, o, none⟩) N c6) := hI2.kept.cell (HC12.out.2.2.1.cell 0) (hout g6 (by have := HG2.out; omega))
        have z11 : W2.cell? ⟨g11, 0, none⟩ = some (.int .i64 0) := hI2.kept.cell (HC12.out.2.2.2.cell 0) (hout g11 (by omega))
        have z3 : W2.cell? ⟨g3, 0, none⟩ = some (.int .i64 ea) := hI2.kept.cell (HC12.out.1.cell 0) (hout g3 (by have := HG2.out; omega))
        have hkN : k < N := by rw [HNN.out]; exact hk
        have hge : decide ((N : Int) ≤ (k : Int)) = false := by simp; omega
        have hge' : decide (N ≤ k) = false := by simp; omega
        have HI2 := hid hI2
        have HSZ : Hid (w12.heap.size + 2 ≤ W1.heap.size) := hsz
        clear HTt hTB hV2 hI hI2 hkP hout hk hsz hgo
        gi_wp2
        refine region_quiet_round rfl (by kernel_rfl) (by kernel_rfl) (by kernel_rfl) ?_
        repeat (quiet_step_in (fail))
        refine wpQuietIn_nil ?_
        intro _ hw'
        obtain ⟨nq, hw''⟩ := hw'
        subst hw''
        have hk16 : k < 16384 := by omega
        have n3 : ¬ g3 = g12 := by have := HG2.out; omega
        have n3' : ¬ g12 = g3 := by omega
        have n11 : ¬ g11 = g12 := by omega
        have n11' : ¬ g12 = g11 := by omega
        have HNX := hid (HI2.out.next nq)
        by_cases he : (k : Int) + 1 = ea
        · have HE : Hid ((k : Int) + 1 = ea) := he
          have he1 : ((k : Int) + 1 == ea) = true := by simp [he]
          have he2 : (ea == ea) = true := by simp
          clear hge hge' t0 t1 t2 u0 u1 u2
          subst he
          gi_wp2
          refine ⟨?_, HNX.out⟩
          simp [endG]
        · have HE : Hid (¬ (k : Int) + 1 = ea) := he
          have he1 : ((k : Int) + 1 == ea) = false := by simpa using he
          clear hge hge' t0 t1 t2 u0 u1 u2 he
          gi_wp2
          refine ⟨?_, HNX.out⟩
          simp [endG, HE.out]
      case done =>
        intro M W3 hMN hM hI hD hsz
        refine inBlock_either (by split; exact .inl rfl; unfold endG; split; exact .inl rfl; exact .inr rfl) ?_
        have hout : ∀ g, g < g12 → ¬ (g = g12 ∨ w12.heap.size ≤ g) := fun g hg e => by rcases e with e | e <;> omega
        have z12 := hI.cell
        have z6 : W3.cell? ⟨g6, 0, none⟩ = some (.slice a6 N c6) := hI.kept.cell (HC12.out.2.2.1.cell 0) (hout g6 (by have := HG2.out; omega))
        have z11 : W3.cell? ⟨g11, 0, none⟩ = some (.int .i64 0) := hI.kept.cell (HC12.out.2.2.2.cell 0) (hout g11 (by omega))
        have z3 : W3.cell? ⟨g3, 0, none⟩ = some (.int .i64 ea) := hI.kept.cell (HC12.out.1.cell 0) (hout g3 (by have := HG2.out; omega))
        have HKW3 : Hid (Same W W3) := hid (Same.then HKW12.out hI.kept (fun x hx e => by have h1 := HG.out; have h2 := HG2.out; rcases e with e | e <;> omega))
        have HC3 : Hid (Blk W3 g3 #[.int .i64 ea] 3 ∧ Blk W3 g4 #[.bool false] 4 ∧ Blk W3 g6 #[.slice a6 N c6] 22) := hid ⟨HC12.out.1.kept hI.kept (hout _ (by have := HG2.out; omega)), HC12.out.2.1.kept hI.kept (hout _ (by have := HG2.out; omega)), HC12.out.2.2.1.kept hI.kept (hout _ (by have := HG2.out; omega))⟩
        have HV3 : Hid (TkRow (g5 + 1) W3 (.slice a6 N c6) ts) := hid (RowC.kept HV12.out hI.kept (fun j hj => hout j (HVg.out j hj)))
        have HBX3 : Hid (W3.cell? ⟨bx, 0, none⟩ = some vo) := hid (hI.kept.cell HBX12.out.1 (hout bx HBX12.out.2))
        have HRO3 : Hid (Row W3 vo (ownM data)) := hid (HRO12.out.kept hI.kept (fun j hj => hout j (by have := HROg.out j hj; omega)))
        have HD3 : Hid (W3.heap[w12.heap.size]? = some (.deferred (some []))) := hD
        have hMN' : M ≤ N := by rw [HNN.out]; exact hMN
        have hcase : ((M : Int) != (N : Int)) = false ∨ (((M : Int) != (N : Int)) = true ∧ ((M : Int) != ea) = false) := by
          rcases hM with h9 | ⟨h9, h8⟩
          · exact .inl (by rw [h9, HNN.out]; simp)
          · by_cases h7 : M = N
            · exact .inl (by rw [h7]; simp)
            · refine .inr ⟨by simp; omega, ?_⟩
              simp at h8
              simp
              omega
        clear hI hM hD hout HBk HBn HC11 HV11 HBX11 HRO11 HKW11 HC12 HV12 HRO12 HKW12
        rcases hcase with hc1 | ⟨hc1, hc2⟩
        all_goals
          go_wp2_with fail
        all_goals
          obtain ⟨D1, hD1⟩ : ∃ d, d = w12.heap.size := ⟨_, rfl⟩
          have HDx : Hid (D1 + 2 ≤ W3.heap.size ∧ W3.heap[D1]? = some (.deferred (some [])) ∧ g12 < D1) := hid ⟨by omega, by rw [hD1]; exact HD3.out, by omega⟩
          rw [← hD1]
          obtain ⟨w21, hw21⟩ : ∃ w, w = W3.alloc (.cells #[.int .i64 1] 3) := ⟨_, rfl⟩
          obtain ⟨g21, hg21⟩ : ∃ g, g = W3.heap.size := ⟨_, rfl⟩
          have hk21 : Same W3 w21 := by rw [hw21]; exact (Kept.refl _ W3).alloc _
          have HBk : Hid (Blk w21 g21 #[.int .i64 1] 3) := hid (by rw [hw21, hg21]; exact Blk.new W3 _ _)
          have hs21 : w21.heap.size = g21 + 1 := by rw [hw21, hg21]; simp
          have HG3 : Hid (g12 + 3 ≤ g21 ∧ g5 < g6 ∧ g6 < g12 ∧ g3 < g5 ∧ g4 < g5 ∧ g11 < g12 ∧ D1 + 2 ≤ g21) := hid (by have h1 := HG2.out; have h2 := HDx.out; omega)
          rw [← hw21, ← hg21]
          have z0 : w21.cell? ⟨g21, 0, none⟩ = some (.int .i64 1) := HBk.out.cell 0
          have HK21 := hid hk21
          clear z12 z6 z11 z3 hsz hs12 hg1112 hD1 hg21 hs11 HD3 hMN hMN' hw21 hk21
          rw [rounds_succ]
          go_wp2_with fail
          obtain ⟨w22, hw22⟩ : ∃ w, w = w21.alloc (.cells #[.int .i64 0] 3) := ⟨_, rfl⟩
          obtain ⟨g22, hg22⟩ : ∃ g, g = g21 + 1 := ⟨_, rfl⟩
          have hk22 : Same w21 w22 := by rw [hw22]; exact (Kept.refl _ w21).alloc _
          have HBn : Hid (Blk w22 g22 #[.int .i64 0] 3) := hid (by have h9 := Blk.new w21 #[.int .i64 0] 3; rw [hs21, ← hg22, ← hw22] at h9; exact h9)
          have hs22 : w22.heap.size = g22 + 1 := by rw [hw22, World.size_alloc, hs21, hg22]
          have hkB : Same W3 w22 := Same.trans HK21.out hk22
          have HKW22 := hid (Same.trans HKW3.out hkB)
          have HC22 : Hid (Blk w22 g3 #[.int .i64 ea] 3 ∧ Blk w22 g4 #[.bool false] 4 ∧ Blk w22 g6 #[.slice a6 N c6] 22 ∧ Blk w22 g21 #[.int .i64 1] 3) := hid ⟨HC3.out.1.kept hkB (fun f => f), HC3.out.2.1.kept hkB (fun f => f), HC3.out.2.2.kept hkB (fun f => f), HBk.out.kept hk22 (fun f => f)⟩
          have HV22 := hid (RowC.kept HV3.out hkB (fun _ _ f => f))
          have HBX22 : Hid (w22.cell? ⟨bx, 0, none⟩ = some vo ∧ bx < g12) := hid ⟨hkB.cell HBX3.out (fun f => f), HBX12.out.2⟩
          have HRO22 := hid (HRO3.out.kept hkB (fun _ _ f => f))
          have HDy : Hid (w22.heap[D1]? = some (.deferred (some []))) := hid (by rw [hkB.block D1 (by have := HDx.out; omega) (fun f => f)]; exact HDx.out.2.1)
          have hg2122 : g21 < g22 := by omega
          rw [← hw22, ← hg22]
          clear hw22 hg22 hk22 hkB z0
          refine (wpIn_wide (n := 4)).1 ?_
          refine range_fq 1 rfl (by omega) (gf := 29) (lb := #[.pointer (some ⟨bx, 0, none⟩)]) rfl trivial (enters_of Try.func29 (by kernel_rfl) rfl) ts.length (tokVals ts) (fun _ => rfl) (fun _ => true) 4
            (fun _ j => j = g22) (NI w22 g22) (fun k W W' G h hk hG hB => h.more hk (hG g22 rfl) hB) (fun k W W' G _ _ _ j => Iff.rfl) (fun k W j h e => by rw [e]; exact World.block_lt_of_cell? W _ h.cell) (fun k W j h e => by have := h.lt; omega) ?start ?seq ?round ?done
          case start => exact ⟨HBn.out.cell 0, HBn.out.frozen 0, Kept.refl _ _, by omega⟩
          case seq =>
            intro J W1 hW hsz hJs hfs hlt hY hJ0
            have h := miter_in Fence.wide freeWide 3 (w22.heap.size + 1) (fun _ => true) (fpR w22.heap.size (fun _ j => j = g22)) J (ownM data) bx vo (ownM_le data) HBO.out w22.heap.size hJs hfs hlt (by rw [HTK.out]; exact hY) W1 (by omega) hJ0 (hW.cell HBX22.out.1 (fun f => f)) (HRO22.out.kept hW (fun _ _ f => f)) (fun k e f => by
              have h1 := HROg.out k e
              have h2 := HG3.out
              rcases f with rfl | rfl | rfl
              · omega
              · omega
              · omega)
            rw [HTK.out] at h
            exact h
          case round =>
            intro k W1 hk hgo hI hsz
            have hgd : ts.getD k ⟨0, 0, 0⟩ = ts[k] := by simp [List.getD, hk]
            unfold tokVals
            rw [hgd]
            obtain ⟨t, ht⟩ : ∃ t, t = ts[k] := ⟨_, rfl⟩
            have HTt : Hid (t = ts[k]) := ht
            rw [← ht]
            obtain ⟨lit, len, dist⟩ := t
            simp only [tkA]
            clear hgd ht
            gi_wp2
            refine ⟨(Kept.refl _ W1).alloc _, fun W2 hI2 hkP => ?_⟩
            have hTB : Blk W2 W1.heap.size #[.int .u8 (lit : Nat), .int .i64 len, .int .i64 dist] 38 := (Blk.new W1 _ _).kept hkP (fun e => by omega)
            have t0 : W2.cell? ⟨W1.heap.size, 0, none⟩ = some (.int .u8 (lit : Nat)) := hTB.cell 0
            have t1 : W2.cell? ⟨W1.heap.size, 1, none⟩ = some (.int .i64 len) := hTB.cell 1
            have t2 : W2.cell? ⟨W1.heap.size, 2, none⟩ = some (.int .i64 dist) := hTB.cell 2
            have hout : ∀ g, g < g22 → ¬ (g = g22 ∨ w22.heap.size ≤ g) := fun g hg e => by rcases e with e | e <;> omega
            have hV2 : TkSrc W2 (fun j => (Value.slice a6 N c6).ownBlock = some j) (.slice a6 N c6) ts := SrcC.ofRow tkC_ok (RowC.kept HV22.out hI2.kept (fun j hj => hout j (by have h1 := HVg.out j hj; have h2 := HG3.out; omega)))
            obtain ⟨b, o, ha6, u0, u1, u2⟩ := TkSrc.at hV2 (Kept.refl _ W2) k hk
            subst ha6
            rw [← HTt.out] at u0 u1 u2
            simp only at u0 u1 u2
            have zn := hI2.cell
            have zf := hI2.frozen
            have z6 : W2.cell? ⟨g6, 0, none⟩ = some (.slice (some ⟨b, o, none⟩) N c6) := hI2.kept.cell (HC22.out.2.2.1.cell 0) (hout g6 (by have := HG3.out; omega))
            have z11 : W2.cell? ⟨g21, 0, none⟩ = some (.int .i64 1) := hI2.kept.cell (HC22.out.2.2.2.cell 0) (hout g21 (by omega))
            have hkN : k < N := by rw [HNN.out]; exact hk
            have hge : decide ((N : Int) ≤ (k : Int)) = false := by simp; omega
            have hge' : decide (N ≤ k) = false := by simp; omega
            have HI2 := hid hI2
            have HSZ : Hid (w22.heap.size + 2 ≤ W1.heap.size) := hsz
            clear HTt hTB hV2 hI hI2 hkP hout hk hsz hgo
            gi_wp2
            refine region_quiet_round rfl (by kernel_rfl) (by kernel_rfl) (by kernel_rfl) ?_
            repeat (quiet_step_in (fail))
            refine wpQuietIn_nil ?_
            intro _ hw'
            obtain ⟨nq, hw''⟩ := hw'
            subst hw''
            have hk16 : k < 16384 := by omega
            have n11 : ¬ g21 = g22 := by omega
            have n11' : ¬ g22 = g21 := by omega
            have HNX := hid (HI2.out.next nq)
            clear hge hge' t0 t1 t2 u0 u1 u2
            gi_wp2
            refine ⟨?_, HNX.out⟩
            simp [endG]
          case done =>
            intro M2 W5 hMN hM hI hD hsz
            refine inBlock_either (by split; exact .inl rfl; unfold endG; split; exact .inl rfl; exact .inr rfl) ?_
            have hout : ∀ g, g < g22 → ¬ (g = g22 ∨ w22.heap.size ≤ g) := fun g hg e => by rcases e with e | e <;> omega
            have z12 := hI.cell
            have z6 : W5.cell? ⟨g6, 0, none⟩ = some (.slice a6 N c6) := hI.kept.cell (HC22.out.2.2.1.cell 0) (hout g6 (by have := HG3.out; omega))
            have z11 : W5.cell? ⟨g21, 0, none⟩ = some (.int .i64 1) := hI.kept.cell (HC22.out.2.2.2.cell 0) (hout g21 (by omega))
            have HKW5 : Hid (Same W W5) := hid (Same.then HKW22.out hI.kept (fun x hx e => by have h1 := HG.out; have h2 := HG3.out; rcases e with e | e <;> omega))
            have HC5 : Hid (Blk W5 g4 #[.bool false] 4) := hid (HC22.out.2.1.kept hI.kept (hout _ (by have := HG3.out; omega)))
            have HD5 : Hid (W5.heap[w22.heap.size]? = some (.deferred (some [])) ∧ W5.heap[D1]? = some (.deferred (some [])) ∧ D1 < w22.heap.size ∧ g4 < D1 ∧ g3 < D1) := hid ⟨hD, by rw [hI.kept.block D1 (by have := HG3.out; omega) (hout D1 (by have := HG3.out; omega))]; exact HDy.out, by have := HG3.out; omega, by have h1 := HG3.out; have h2 := HDx.out; omega, by have h1 := HG3.out; have h2 := HDx.out; omega⟩
            have hMe : M2 = N := by rcases hM with h9 | ⟨_, h9⟩; rw [h9, HNN.out]; cases h9
            subst hMe
            have hc3 : ((M2 : Int) != (M2 : Int)) = false := by simp
            clear hI hM hD hout HBn HC22 HV22 HRO22 HKW22 hMN
            go_wp2_with fail
            obtain ⟨w31, hw31⟩ : ∃ w, w = W5.alloc (.cells #[.int .i64 2] 3) := ⟨_, rfl⟩
            obtain ⟨g31, hg31⟩ : ∃ g, g = W5.heap.size := ⟨_, rfl⟩
            have hk31 : Same W5 w31 := by rw [hw31]; exact (Kept.refl _ W5).alloc _
            have z0 : w31.cell? ⟨g31, 0, none⟩ = some (.int .i64 2) := by rw [hw31, hg31]; exact (Blk.new W5 #[.int .i64 2] 3).cell 0
            rw [← hw31, ← hg31]
            have H9 := mawake_any w31
            have HKc := hid hk31
            clear hw31 hg31 hk31 z12 z6 z11 hc3 hs21 hs22
            rw [rounds_succ]
            go_wp2_with fail
            refine H9.mono ?_
            rintro e w32 ⟨rfl, hk32⟩
            have hk5 : Same W5 w32 := Same.trans HKc.out hk32
            have z4 : w32.cell? ⟨g4, 0, none⟩ = some (.bool false) := hk5.cell (HC5.out.cell 0) (fun f => f)
            have f4 : w32.frozen? ⟨g4, 0, none⟩ = false := (hk5.frozen (p := ⟨g4, 0, none⟩) HC5.out.lt (fun f => f)).trans (HC5.out.frozen 0)
            have HB4 : Hid (Blk w32 g4 #[.bool false] 4) := hid (HC5.out.kept hk5 (fun f => f))
            have HK5 := hid hk5
            clear hk5 hk32 H9
            go_wp2_with fail
            have hkA : Kept (fun j => j = g4) w32 (w32.setCell ⟨g4, 0, none⟩ (.bool true)) := (Kept.refl (fun j => j = g4) w32).setCell _ _ (.inl rfl)
            have hcA : (w32.setCell ⟨g4, 0, none⟩ (.bool true)).cell? ⟨g4, 0, none⟩ = some (.bool true) := World.cell?_setCell_same' _ _ _ (by rw [z4]; rfl)
            have hDA : ∀ d, W5.heap[d]? = some (.deferred (some [])) → d ≠ g4 → (w32.setCell ⟨g4, 0, none⟩ (.bool true)).heap[d]? = some (.deferred (some [])) := fun d h hn => by
              have hlt := (Array.getElem?_eq_some_iff.1 h).1
              rw [hkA.block d (Nat.lt_of_lt_of_le hlt HK5.out.size) hn, HK5.out.block d hlt (fun f => f)]
              exact h
            have h5 := HD5.out
            have hd2 := hDA _ h5.1 (by omega)
            have hd1 : ((w32.setCell ⟨g4, 0, none⟩ (.bool true)).putObj w22.heap.size (.deferred none)).heap[D1]? = some (.deferred (some [])) := (World.putObj_heap_other (by omega)).trans (hDA _ h5.2.1 (by omega))
            have hkB : Kept (fun j => j = w22.heap.size) (w32.setCell ⟨g4, 0, none⟩ (.bool true)) _ := kept_putObj _ w22.heap.size (.deferred none)
            have hkC : Kept (fun j => j = D1) ((w32.setCell ⟨g4, 0, none⟩ (.bool true)).putObj w22.heap.size (.deferred none)) _ := kept_putObj _ D1 (.deferred none)
            have hcC := hkC.cell (hkB.cell hcA (by simp only; omega)) (by simp only; omega)
            have hg := HG.out
            refine ⟨by simp, .inl ⟨_, _, rfl, run_takeDeferred hd2, ⟨by simp, .inl ⟨_, _, rfl, run_takeDeferred hd1, ?_⟩⟩⟩⟩
            refine ⟨_, (by rw [results_cell_one rfl]; simp [go_sem, hcC]), rfl, ?_⟩
            exact Same.then (Same.trans HKW5.out HK5.out) (Kept.trans (Kept.trans (H := fun j => W.heap.size ≤ j) hkA hkB (fun j _ e => by omega) (fun j _ e => by omega)) hkC (fun _ _ f => f) (fun j _ e => by omega)) (fun x hx e => by omega)

set_option maxRecDepth 100000 in
set_option maxHeartbeats 2000000 in
theorem mfinds_long (W : World) (ao : Option Addr) (L cap : Nat) (ea : Int) (h : 1048576 < L) :
    Calls Try.prog 4 #[.slice ao L cap, .int .i64 ea] W fun e w' => e = .returned (.bool true) ∧ Same W w' := by
  have b1 : decide ((1048576 : Int) < (L : Int)) = true := by simp; omega
  obtain ⟨W0, hW0⟩ : ∃ W0, W0 = (W.alloc (.cells #[.int .i64 ea] 3)).alloc (.cells #[.bool false] 4) := ⟨_, rfl⟩
  have hk0 : Same W W0 := by rw [hW0]; exact ((Kept.refl _ W).alloc _).alloc _
  have HB4 : Hid (Blk W0 (W.heap.size + 1) #[.bool false] 4) := hid (by rw [hW0]; have h := Blk.new (W.alloc (.cells #[.int .i64 ea] 3)) #[.bool false] 4; rw [World.size_alloc] at h; exact h)
  have HA := mawake_any W0
  have HK0 := hid hk0
  clear h hk0
  go_enter Try.func4, Try.ntmps4
  go_wp2_with fail
  rw [← hW0]
  refine HA.mono ?_
  rintro e w1 ⟨rfl, hk1⟩
  obtain ⟨g4, hg4⟩ : ∃ g, g = W.heap.size + 1 := ⟨_, rfl⟩
  rw [← hg4]
  have z4 : w1.cell? ⟨g4, 0, none⟩ = some (.bool false) := by rw [hg4]; exact hk1.cell (HB4.out.cell 0) (fun f => f)
  have f4 : w1.frozen? ⟨g4, 0, none⟩ = false := by rw [hg4]; exact (hk1.frozen (p := ⟨W.heap.size + 1, 0, none⟩) HB4.out.lt (fun f => f)).trans (HB4.out.frozen 0)
  have HK1 := hid (Same.trans HK0.out hk1)
  have HG4 := hid hg4
  clear hk1 HA hW0 hg4
  go_wp2_with fail
  have hcA : (w1.setCell ⟨g4, 0, none⟩ (.bool true)).cell? ⟨g4, 0, none⟩ = some (.bool true) := World.cell?_setCell_same' _ _ _ (by rw [z4]; rfl)
  refine bodyPost_ret (v := .bool true) (by rw [results_cell_one rfl]; simp [go_sem, hcA]) rfl ⟨rfl, HK1.out.setCell _ _ (.inr (by have := HG4.out; simp only; omega))⟩

theorem matchFinds_all (a0 : Option Addr) (len0 cap0 : Nat) (z0 : List Int) (a1 : Int) (w : World) (w0 : IsRow .u8 w a0 len0 cap0 z0) (_ : (Lit.int .i64 a1).wf = true) :
    Calls Try.prog 4 #[.slice a0 len0 cap0, .int .i64 a1] w fun e w' => e = .returned (.bool true) ∧ Below w.heap.size w w' := by
  suffices H : Calls Try.prog 4 #[.slice a0 len0 cap0, .int .i64 a1] w fun e w' => e = .returned (.bool true) ∧ Same w w' from H.mono (fun e w' h => ⟨h.1, h.2.bel6⟩)
  by_cases h : 1048576 < len0
  · exact mfinds_long w a0 len0 cap0 a1 h
  · obtain ⟨bs, hs, hl, hb⟩ := w0.src
    exact mfinds_good w _ a0 len0 cap0 bs a1 hs hl hb (by omega)

end Go.Proofs.Ytjebfekkaohimaa
