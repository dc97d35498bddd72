/-
  Layer 19, the reference: GetRequest.
-/
import Derived.Test.YtaefgnakdadgeaaWjD
namespace Go.Proofs.Ytaefgnakdadgeaa
open Go.RowKit

/-- The end of a request. -/
def finQ (p : List Cel × List Nat) : Option Rq := if p.2 = [] then some (rqOf p.1) else none

theorem Blk.sevenE {w : World} {g : Nat} {a b c d e f x : Value} {t : TypeId} (hb : Blk w g #[a, b, c, d, e, f, x] t) : w.cell? ⟨g, 0, none⟩ = some a ∧ w.cell? ⟨g, 1, none⟩ = some b ∧ w.cell? ⟨g, 2, none⟩ = some c ∧ w.cell? ⟨g, 3, none⟩ = some d ∧ w.cell? ⟨g, 4, none⟩ = some e ∧ w.cell? ⟨g, 5, none⟩ = some f ∧ w.cell? ⟨g, 6, none⟩ = some x :=
  ⟨hb.cell 0, hb.cell 1, hb.cell 2, hb.cell 3, hb.cell 4, hb.cell 5, hb.cell 6⟩

/-- A cut over what stands behind the first byte. -/
theorem In19.cut1 {w W : World} {a : Option Addr} {n cap : Nat} {b : Nat} {y : List Nat} (h : In19 w a n cap (b :: y)) (hk : Same w W) (a' : Option Addr) (ha : n = 1 ∨ a' = a.map (Addr.add · 1)) (hnil : a' = none → cap - 1 = 0) : Ct19 w.heap.size (W.alloc (.cells #[.slice a' (n - 1) (cap - 1), .bool false] 63)) W.heap.size y false a' (cap - 1) := by
  have hn := h.n
  have hrm := h.room
  have hl := h.len
  simp only [List.length_cons] at hn hl
  have hk2 : Same w (W.alloc (.cells #[.slice a' (n - 1) (cap - 1), .bool false] 63)) := hk.alloc _
  have e1 : n - 1 = y.length := by omega
  refine ⟨by rw [← e1]; exact Blk.new W _ _, ?_, by omega, hk.size, fun z hz => h.byte z (List.mem_cons_of_mem _ hz), by omega, hnil⟩
  have hs := h.src
  rw [hn] at hs
  have h2 := Src.tail19 (n := 1) (bs := b :: y) (a' := a') (c' := cap - 1) hs (by simp) (fun hlt => by
    obtain ⟨ao, co, e9, h9⟩ := h.src
    simp only [Value.slice.injEq] at e9
    obtain ⟨b9, o9, h10, _⟩ := h9 (by simp)
    simp only [List.length_cons] at hlt
    refine ⟨b9, o9, by rw [e9.1, h10], ?_⟩
    rcases ha with h11 | h11
    · omega
    · rw [h11, e9.1, h10]; simp [addAt])
  have e2 : (b :: y).length - 1 = y.length := by simp
  rw [e2] at h2
  have e3 : (b :: y).drop 1 = y := rfl
  rw [e3] at h2
  exact h2.kept hk2 (fun _ _ _ f => f)

set_option maxRecDepth 100000 in
set_option maxHeartbeats 2000000 in
theorem rgetreq19 (w : World) (a : Option Addr) (n cap : Nat) (r : List Nat) (h : In19 w a n cap r) :
    Calls Try.prog 17 #[.slice a n cap] w fun e w' => e = .returned (.tuple #[.agg (rqV (gqV r)), .int .i64 (gqE r : Nat)]) ∧ Same w w' := by
  obtain ⟨W1, hW1⟩ : ∃ W, W = w.alloc (.cells #[.int .i64 0, .int .i64 0, .string ⟨#[]⟩, .string ⟨#[]⟩, .string ⟨#[]⟩, .int .i64 0, .int .i64 0, .string ⟨#[]⟩] 24) := ⟨_, rfl⟩
  obtain ⟨p, hp⟩ : ∃ b, b = w.heap.size := ⟨_, rfl⟩
  have HK1 : Hid (Same w W1) := hid (by rw [hW1]; exact (Kept.refl _ w).alloc _)
  have HB1 : Hid (Ob W1 p 24 (zeroQ 0).cs) := hid (by rw [hW1, hp]; exact Blk.new w (rqV (zeroQ 0)) _)
  have HPN : Hid (w.heap.size ≤ p) := hid (by omega)
  have HEND : Hid (∀ (V : World) (q : Rq) (k : Nat), Same w V → Ob V p 24 (zeroQ 0).cs → gqV r = q → gqE r = k → Ob ((((((((V.setCell ⟨p, 0, none⟩ (.int .i64 q.k)).setCell ⟨p, 1, none⟩ (.int .i64 q.x)).setCell ⟨p, 2, none⟩ (.string q.a)).setCell ⟨p, 3, none⟩ (.string q.e)).setCell ⟨p, 4, none⟩ (.string q.d)).setCell ⟨p, 5, none⟩ (.int .i64 q.f)).setCell ⟨p, 6, none⟩ (.int .i64 q.m)).setCell ⟨p, 7, none⟩ (.string q.o)) p 24 q.cs ∧ (.returned (.tuple #[.agg (rqV q), .int .i64 (k : Nat)]) : Ending) = .returned (.tuple #[.agg (rqV (gqV r)), .int .i64 (gqE r : Nat)]) ∧ Same w ((((((((V.setCell ⟨p, 0, none⟩ (.int .i64 q.k)).setCell ⟨p, 1, none⟩ (.int .i64 q.x)).setCell ⟨p, 2, none⟩ (.string q.a)).setCell ⟨p, 3, none⟩ (.string q.e)).setCell ⟨p, 4, none⟩ (.string q.d)).setCell ⟨p, 5, none⟩ (.int .i64 q.f)).setCell ⟨p, 6, none⟩ (.int .i64 q.m)).setCell ⟨p, 7, none⟩ (.string q.o))) := hid (fun V q k hs ho h1 h2 => by
    have hb : Blk V p #[.int .i64 0, .int .i64 0, .string ⟨#[]⟩, .string ⟨#[]⟩, .string ⟨#[]⟩, .int .i64 0, .int .i64 0, .string ⟨#[]⟩] 24 := ho
    obtain ⟨h3, h4⟩ := set8q (q := q) hb
    exact ⟨h3, by rw [h1, h2], Same.then hs h4 (fun x hx e => by have := HPN.out; omega)⟩)
  cases r with
  | nil =>
    have hn := h.n
    simp only [List.length_nil] at hn
    subst hn
    obtain ⟨t0, t1, t2, t3, t4, t5, t6, t7⟩ := HB1.out.eight
    have z0 := HB1.out.frozen 0
    have z1 := HB1.out.frozen 1
    have z2 := HB1.out.frozen 2
    have z3 := HB1.out.frozen 3
    have z4 := HB1.out.frozen 4
    have z5 := HB1.out.frozen 5
    have z6 := HB1.out.frozen 6
    have z7 := HB1.out.frozen 7
    clear h
    go_enter Try.func17, Try.ntmps17
    go_upto_region 1 with fail
    rw [← hW1, ← hp]
    clear hW1 hp
    go_wp2_with fail
    obtain ⟨e1, e2, e3⟩ := HEND.out W1 (zeroQ 0) 190 HK1.out HB1.out rfl rfl
    refine bodyPost_ret (v := .tuple #[.agg (rqV (zeroQ 0)), .int .i64 190]) (by rw [results_c2 (p := 2) (b := 3) (ty := 24) rfl _ _ _ _ _ ⟨p, 0, none⟩ _ rfl (loadQ e1)]; rfl) rfl ?_
    exact ⟨e2, e3⟩
  | cons b y =>
    have hn1 := h.n
    simp only [List.length_cons] at hn1
    have hrm := h.room
    have HI := hid h
    have hb256 : b < 256 := h.byte b (by simp)
    obtain ⟨ao, co, e9, h9⟩ := h.src
    simp only [Value.slice.injEq] at e9
    obtain ⟨ab, off, hao, hlt9, hce9⟩ := h9 (by simp)
    rw [← e9.1] at hao
    subst hao
    have c9 : w.cell? ⟨ab, off, none⟩ = some (.int .u8 (b : Nat)) := by have := hce9 0 (by simp); simpa using this
    have c91 := HK1.out.cell c9 (fun f => f)
    have hbw : IntKind.i64.wrap (b : Int) = (b : Int) := by rw [IntKind.wrap_i64]; omega
    have i0 : (0 : Int) < (n : Int) := by omega
    have i1 : decide (n = 0) = false := by simp; omega
    have i2 : ((n : Int) == 0) = false := by simp; omega
    have i3 : (n == 0) = false := by simp; omega
    have i4 : (1 : Int) ≤ (n : Int) := by omega
    have i5 : (n : Int) ≤ (cap : Int) := by omega
    have i6 : (1 : Int) ≤ (cap : Int) := by omega
    have HNC : Hid (1 ≤ n ∧ n ≤ cap) := hid ⟨by omega, hrm⟩
    obtain ⟨W2, hW2⟩ : ∃ W, W = W1.alloc (.cells #[.int .i64 (b : Nat), .int .i64 0, .string ⟨#[]⟩, .string ⟨#[]⟩, .string ⟨#[]⟩, .int .i64 0, .int .i64 0, .string ⟨#[]⟩] 24) := ⟨_, rfl⟩
    obtain ⟨rb, hrb⟩ : ∃ b, b = W1.heap.size := ⟨_, rfl⟩
    have hp1 : rb = p + 1 := by rw [hrb, hW1, hp]; simp
    have hk12 : Same W1 W2 := by rw [hW2]; exact (Kept.refl _ _).alloc _
    have HK2 := hid (Same.trans HK1.out hk12)
    have HB2 := hid (HB1.out.kept hk12 (fun f => f))
    have HR2 : Hid (Ob W2 rb 24 (zeroQ (b : Nat)).cs) := hid (by rw [hW2, hrb]; exact Blk.new W1 (rqV (zeroQ (b : Nat))) _)
    have HRP : Hid (p < rb) := hid (by omega)
    have hr0 : W2.cell? ⟨rb, 0, none⟩ = some (.int .i64 (b : Nat)) := HR2.out.eight.1
    have HFL := rfields19 W2 (b : Nat)
    have HFC := hid (flags_cases (b : Nat))
    unfold FlA flA at HFL
    obtain ⟨f1, hf1⟩ : ∃ x, x = hasQ (b : Nat) 1 := ⟨_, rfl⟩
    obtain ⟨f2, hf2⟩ : ∃ x, x = hasQ (b : Nat) 2 := ⟨_, rfl⟩
    obtain ⟨f3, hf3⟩ : ∃ x, x = hasQ (b : Nat) 3 := ⟨_, rfl⟩
    obtain ⟨f4, hf4⟩ : ∃ x, x = hasQ (b : Nat) 4 := ⟨_, rfl⟩
    obtain ⟨f5, hf5⟩ : ∃ x, x = hasQ (b : Nat) 5 := ⟨_, rfl⟩
    obtain ⟨f6, hf6⟩ : ∃ x, x = hasQ (b : Nat) 6 := ⟨_, rfl⟩
    obtain ⟨f7, hf7⟩ : ∃ x, x = hasQ (b : Nat) 7 := ⟨_, rfl⟩
    rw [← hf1, ← hf2, ← hf3, ← hf4, ← hf5, ← hf6, ← hf7] at HFL HFC
    have HFF : Hid (f1 = hasQ (b : Nat) 1 ∧ f2 = hasQ (b : Nat) 2 ∧ f3 = hasQ (b : Nat) 3 ∧ f4 = hasQ (b : Nat) 4 ∧ f5 = hasQ (b : Nat) 5 ∧ f6 = hasQ (b : Nat) 6 ∧ f7 = hasQ (b : Nat) 7) := hid ⟨hf1, hf2, hf3, hf4, hf5, hf6, hf7⟩
    clear h h9 hce9 e9 c9 hf1 hf2 hf3 hf4 hf5 hf6 hf7 hn1 hb256 hk12 hlt9 hrm
    go_enter Try.func17, Try.ntmps17
    go_upto_region 1 with fail
    rw [← hW1, ← hp]
    clear hW1 hp
    go_upto_region 4 with fail
    rw [← hrb, ← hW2]
    clear hrb hW2 hp1
    cases hk0 : okK (b : Nat) with
    | false =>
      rw [hk0] at HFL
      have HG : Hid (gqV (b :: y) = zeroQ 0 ∧ gqE (b :: y) = 191) := hid (by
        have h1 : gotQ (b :: y) = none := by show (if okK (b : Nat) = true then _ else _) = _; rw [if_neg (by rw [hk0]; decide)]
        have h2 : gerrN (b :: y) = 191 := by show (if okK (b : Nat) = true then _ else _) = _; rw [if_neg (by rw [hk0]; decide)]
        exact ⟨(gqE_none h1).2, by rw [(gqE_none h1).1, h2]⟩)
      clear hk0
      go_wp2_with fail
      refine HFL.mono ?_
      rintro e w3 ⟨rfl, hk3⟩
      obtain ⟨W4, hW4⟩ : ∃ W, W = w3.alloc (.cells #[.bool f1, .bool f2, .bool f3, .bool f4, .bool f5, .bool f6, .bool f7] 53) := ⟨_, rfl⟩
      have hk4 : Same W2 W4 := by rw [hW4]; exact hk3.alloc _
      have HK4 := hid (Same.trans HK2.out hk4)
      have HB4 := hid (HB2.out.kept hk4 (fun f => f))
      clear hk3 hk4 HFL c91 hr0
      go_upto_region 5 with fail
      rw [← hW4]
      clear hW4
      obtain ⟨t0, t1, t2, t3, t4, t5, t6, t7⟩ := HB4.out.eight
      have z0 := HB4.out.frozen 0
      have z1 := HB4.out.frozen 1
      have z2 := HB4.out.frozen 2
      have z3 := HB4.out.frozen 3
      have z4 := HB4.out.frozen 4
      have z5 := HB4.out.frozen 5
      have z6 := HB4.out.frozen 6
      have z7 := HB4.out.frozen 7
      go_wp2_with fail
      obtain ⟨e1, e2, e3⟩ := HEND.out W4 (zeroQ 0) 191 HK4.out HB4.out HG.out.1 HG.out.2
      refine bodyPost_ret (v := .tuple #[.agg (rqV (zeroQ 0)), .int .i64 191]) (by rw [results_c2 (p := 2) (b := 3) (ty := 24) rfl _ _ _ _ _ ⟨p, 0, none⟩ _ rfl (loadQ e1)]; rfl) rfl ?_
      exact ⟨e2, e3⟩
    | true =>
      rw [hk0] at HFL
      have HG : Hid (gotQ (b :: y) = bnd8 (readL (fdQ (b : Nat)) (zeroQ (b : Nat)).cs y) finQ ∧ gerrN (b :: y) = 190) := hid ⟨gotQ_cons hk0, by show (if okK (b : Nat) = true then _ else _) = _; rw [if_pos hk0]⟩
      clear hk0
      go_wp2_with fail
      refine HFL.mono ?_
      rintro e w3 ⟨rfl, hk3⟩
      obtain ⟨W4, hW4⟩ : ∃ W, W = w3.alloc (.cells #[.bool f1, .bool f2, .bool f3, .bool f4, .bool f5, .bool f6, .bool f7] 53) := ⟨_, rfl⟩
      obtain ⟨gb, hgb⟩ : ∃ b, b = w3.heap.size := ⟨_, rfl⟩
      have hk4 : Same W2 W4 := by rw [hW4]; exact hk3.alloc _
      have HK4 := hid (Same.trans HK2.out hk4)
      have HB4 := hid (HB2.out.kept hk4 (fun f => f))
      have HR4 := hid (HR2.out.kept hk4 (fun f => f))
      have HF4 : Hid (Blk W4 gb #[.bool f1, .bool f2, .bool f3, .bool f4, .bool f5, .bool f6, .bool f7] 53) := hid (by rw [hW4, hgb]; exact Blk.new _ _ _)
      have HRG : Hid (rb < gb ∧ gb < W4.heap.size) := hid ⟨by rw [hgb]; exact Nat.lt_of_lt_of_le HR2.out.lt hk3.size, HF4.out.lt⟩
      clear hk3 hk4 HFL c91 hr0
      go_upto_region 5 with fail
      rw [← hW4, ← hgb]
      clear hW4 hgb
      go_upto_region 7 with fail
      go_cut [7] from 26 to 29 (fun z wx => ∃ cb, z = .pointer (some ⟨cb, 0, none⟩) ∧ Hid (Same W4 wx ∧ cb = W4.heap.size ∧ ∃ a' cap', Ct19 w.heap.size wx cb y false a' cap'))
      case first =>
        by_cases hc1 : cap = 1
        · have hn1 : n = 1 := by have := HNC.out; omega
          subst hc1 hn1
          go_wp2_with fail
          go_meet
          refine ⟨_, rfl, hid ⟨(Kept.refl _ _).alloc _, rfl, _, _, HI.out.cut1 HK4.out _ (.inl rfl) (fun e => by cases e)⟩⟩
        · go_wp2_with fail
          go_meet
          refine ⟨_, rfl, hid ⟨(Kept.refl _ _).alloc _, rfl, _, _, HI.out.cut1 HK4.out _ (.inr (by simp [addAt])) (fun e => by cases e)⟩⟩
      case rest =>
        obtain ⟨cb, rfl, HCUT⟩ := hcut
        have HKC := hid (Same.trans HK4.out HCUT.out.1)
        have HBC := hid (HB4.out.kept HCUT.out.1 (fun f => f))
        have HRC : Hid (GI w.heap.size wc rb cb 24 (zeroQ (b : Nat)).cs (fdQ (b : Nat)) (gotQ (b :: y)) finQ) := hid (by
          obtain ⟨h1, _, a', cap', hct⟩ := HCUT.out
          exact ⟨_, y, false, a', cap', HR4.out.kept h1 (fun f => f), Alike.refl _, fun _ _ h => h, hct, .inr ⟨rfl, HG.out.1⟩⟩)
        have HFB := hid (HF4.out.kept HCUT.out.1 (fun f => f))
        have HCB : Hid (rb ≠ cb ∧ gb ≠ cb ∧ gb ≠ rb ∧ p ≠ rb ∧ p ≠ cb ∧ w.heap.size ≤ rb ∧ w.heap.size ≤ cb) := hid (by
          have h0 := HCUT.out.2.1
          have h1 := HRG.out
          have h2 := HRP.out
          have h3 := HPN.out
          omega)
        have HFIT := hid (fdQ_fits (zeroQ (b : Nat)) (b : Nat))
        obtain ⟨wd, hwd⟩ : ∃ X, X = wc := ⟨_, rfl⟩
        rw [← hwd] at HKC HBC HRC HFB ⊢
        clear hwd
        obtain ⟨g0, g1, g2, g3, g4, g5, g6⟩ := HFB.out.sevenE
        rcases fdQ_cases (b : Nat) with hL | hL | hL | hL | hL | hL | hL | hL | hL
        · -- Hello
          have HX0 : Hid (GI w.heap.size wd rb cb 24 (zeroQ (b : Nat)).cs [.txt 7 256] (gotQ (b :: y)) finQ) := hid (by rw [← hL]; exact HRC.out)
          have HK0 : Hid (Kept (fun k => k = cb ∨ k = rb) wd wd) := hid (Kept.refl _ _)
          obtain rfl : f1 = false := by rw [HFF.out.1]; unfold hasQ; rw [hL]; rfl
          obtain rfl : f2 = false := by rw [HFF.out.2.1]; unfold hasQ; rw [hL]; rfl
          obtain rfl : f3 = false := by rw [HFF.out.2.2.1]; unfold hasQ; rw [hL]; rfl
          obtain rfl : f4 = false := by rw [HFF.out.2.2.2.1]; unfold hasQ; rw [hL]; rfl
          obtain rfl : f5 = false := by rw [HFF.out.2.2.2.2.1]; unfold hasQ; rw [hL]; rfl
          obtain rfl : f6 = false := by rw [HFF.out.2.2.2.2.2.1]; unfold hasQ; rw [hL]; rfl
          obtain rfl : f7 = true := by rw [HFF.out.2.2.2.2.2.2]; unfold hasQ; rw [hL]; rfl
          clear hL
          go_wp2_with fail
          refine (HX0.out.txt ⟨⟨_, rfl⟩, by decide⟩ HCB.out.1 HCB.out.2.2.2.2.2.1).mono ?_
          rintro e v0 ⟨V, o, rfl, hc, hz, hgi, hkk⟩
          obtain ⟨x0, hx0⟩ : ∃ X, X = v0.setCell ⟨rb, 7, none⟩ (.string V) := ⟨_, rfl⟩
          rw [← hx0] at hgi hkk
          have HX1 := hid hgi
          have HK1 : Hid (Kept (fun k => k = cb ∨ k = rb) wd x0) := hid (Kept.trans HK0.out hkk (fun _ _ f => f) (fun _ _ f => f))
          obtain ⟨g0, g1, g2, g3, g4, g5, g6⟩ := (HFB.out.kept HK1.out (by have := HCB.out; omega)).sevenE
          clear hgi hkk
          go_upto_region 21 with fail
          rw [← hx0]
          clear hx0 hc hz
          obtain ⟨wz, hwz⟩ : ∃ X, X = x0 := ⟨_, rfl⟩
          have HZ : Hid (GI w.heap.size wz rb cb 24 (zeroQ (b : Nat)).cs [] (gotQ (b :: y)) finQ) := hid (by rw [hwz]; exact HX1.out)
          have HKZ : Hid (Kept (fun k => k = cb ∨ k = rb) wd wz) := hid (by rw [hwz]; exact HK1.out)
          rw [← hwz]
          clear hwz
          obtain ⟨cs, yz, bad, az, capz, hob, hal, _, hct, hor⟩ := HZ.out
          have hcs := alike_rq hal
          obtain ⟨q, hq⟩ : ∃ q, q = rqOf cs := ⟨_, rfl⟩
          rw [← hq] at hcs
          rw [hcs] at hob hor
          have HOR := hid hor
          have HPZ := hid (HBC.out.kept HKZ.out (by have := HCB.out; omega))
          have HSZ : Hid (Same w wz) := hid (Same.then HKC.out HKZ.out (fun x hx e => by have := HCB.out; omega))
          obtain ⟨d0, d1, _, _⟩ := hct.blk.two
          obtain ⟨s0, s1, s2, s3, s4, s5, s6, s7⟩ := hob.eight
          obtain ⟨t0, t1, t2, t3, t4, t5, t6, t7⟩ := HPZ.out.eight
          have z0 := HPZ.out.frozen 0
          have z1 := HPZ.out.frozen 1
          have z2 := HPZ.out.frozen 2
          have z3 := HPZ.out.frozen 3
          have z4 := HPZ.out.frozen 4
          have z5 := HPZ.out.frozen 5
          have z6 := HPZ.out.frozen 6
          have z7 := HPZ.out.frozen 7
          obtain ⟨L, hL⟩ : ∃ L, L = yz.length := ⟨_, rfl⟩
          rw [← hL] at d0
          have HL := hid hL
          clear hob hal hct hor hcs hq hL g0 g1 g2 g3 g4 g5 g6
          cases bad with
          | true =>
            have hg : gotQ (b :: y) = none := by rcases HOR.out with h | h; exact h.2; exact absurd h.1 (by decide)
            have HGN : Hid (gqV (b :: y) = zeroQ 0 ∧ gqE (b :: y) = 190) := hid ⟨(gqE_none hg).2, by rw [(gqE_none hg).1, HG.out.2]⟩
            clear hg
            go_wp2_with fail
            obtain ⟨e1, e2, e3⟩ := HEND.out wz (zeroQ 0) 190 HSZ.out HPZ.out HGN.out.1 HGN.out.2
            refine bodyPost_ret (v := .tuple #[.agg (rqV (zeroQ 0)), .int .i64 190]) (by rw [results_c2 (p := 2) (b := 3) (ty := 24) rfl _ _ _ _ _ ⟨p, 0, none⟩ _ rfl (loadQ e1)]; rfl) rfl ?_
            exact ⟨e2, e3⟩
          | false =>
            by_cases hy : yz = []
            · have hL0 : L = 0 := by rw [HL.out, hy]; rfl
              have hg : gotQ (b :: y) = some q := by
                rcases HOR.out with h | h
                · exact absurd h.1 (by decide)
                · rw [h.2, hy]; rfl
              have HGN := hid (gqE_some hg)
              subst hL0
              clear hg hy
              go_wp2_with fail
              obtain ⟨e1, e2, e3⟩ := HEND.out wz q 0 HSZ.out HPZ.out HGN.out.2 HGN.out.1
              refine bodyPost_ret (v := .tuple #[.agg (rqV q), .int .i64 0]) (by rw [results_c2 (p := 2) (b := 3) (ty := 24) rfl _ _ _ _ _ ⟨p, 0, none⟩ _ rfl (loadQ e1)]; rfl) rfl ?_
              exact ⟨e2, e3⟩
            · have hL0 : 0 < L := by rw [HL.out]; exact List.length_pos_iff.2 hy
              have l1 : decide ((0 : Int) < (L : Int)) = true := by simp; omega
              have l2 : decide (0 < L) = true := by simp; omega
              have hg : gotQ (b :: y) = none := by
                rcases HOR.out with h | h
                · exact absurd h.1 (by decide)
                · rw [h.2]; show (if yz = [] then _ else _) = _; rw [if_neg hy]
              have HGN : Hid (gqV (b :: y) = zeroQ 0 ∧ gqE (b :: y) = 190) := hid ⟨(gqE_none hg).2, by rw [(gqE_none hg).1, HG.out.2]⟩
              clear hg hy hL0
              go_wp2_with fail
              obtain ⟨e1, e2, e3⟩ := HEND.out wz (zeroQ 0) 190 HSZ.out HPZ.out HGN.out.1 HGN.out.2
              refine bodyPost_ret (v := .tuple #[.agg (rqV (zeroQ 0)), .int .i64 190]) (by rw [results_c2 (p := 2) (b := 3) (ty := 24) rfl _ _ _ _ _ ⟨p, 0, none⟩ _ rfl (loadQ e1)]; rfl) rfl ?_
              exact ⟨e2, e3⟩
        · -- Read
          have HX0 : Hid (GI w.heap.size wd rb cb 24 (zeroQ (b : Nat)).cs [.num 1, .txt 2 255, .txt 3 255, .num 5, .num 6] (gotQ (b :: y)) finQ) := hid (by rw [← hL]; exact HRC.out)
          have HK0 : Hid (Kept (fun k => k = cb ∨ k = rb) wd wd) := hid (Kept.refl _ _)
          obtain rfl : f1 = true := by rw [HFF.out.1]; unfold hasQ; rw [hL]; rfl
          obtain rfl : f2 = true := by rw [HFF.out.2.1]; unfold hasQ; rw [hL]; rfl
          obtain rfl : f3 = true := by rw [HFF.out.2.2.1]; unfold hasQ; rw [hL]; rfl
          obtain rfl : f4 = false := by rw [HFF.out.2.2.2.1]; unfold hasQ; rw [hL]; rfl
          obtain rfl : f5 = true := by rw [HFF.out.2.2.2.2.1]; unfold hasQ; rw [hL]; rfl
          obtain rfl : f6 = true := by rw [HFF.out.2.2.2.2.2.1]; unfold hasQ; rw [hL]; rfl
          obtain rfl : f7 = false := by rw [HFF.out.2.2.2.2.2.2]; unfold hasQ; rw [hL]; rfl
          clear hL
          go_wp2_with fail
          refine (HX0.out.num ⟨_, rfl⟩ HCB.out.1 HCB.out.2.2.2.2.2.1).mono ?_
          rintro e v0 ⟨V, o, rfl, hc, hz, hgi, hkk⟩
          obtain ⟨x0, hx0⟩ : ∃ X, X = v0.setCell ⟨rb, 1, none⟩ (.int .i64 (V : Nat)) := ⟨_, rfl⟩
          rw [← hx0] at hgi hkk
          have HX1 := hid hgi
          have HK1 : Hid (Kept (fun k => k = cb ∨ k = rb) wd x0) := hid (Kept.trans HK0.out hkk (fun _ _ f => f) (fun _ _ f => f))
          obtain ⟨g0, g1, g2, g3, g4, g5, g6⟩ := (HFB.out.kept HK1.out (by have := HCB.out; omega)).sevenE
          clear hgi hkk
          go_upto_region 10 with fail
          rw [← hx0]
          clear hx0 hc hz
          go_wp2_with fail
          refine (HX1.out.txt ⟨⟨_, rfl⟩, by decide⟩ HCB.out.1 HCB.out.2.2.2.2.2.1).mono ?_
          rintro e v1 ⟨V, o, rfl, hc, hz, hgi, hkk⟩
          obtain ⟨x1, hx1⟩ : ∃ X, X = v1.setCell ⟨rb, 2, none⟩ (.string V) := ⟨_, rfl⟩
          rw [← hx1] at hgi hkk
          have HX2 := hid hgi
          have HK2 : Hid (Kept (fun k => k = cb ∨ k = rb) wd x1) := hid (Kept.trans HK1.out hkk (fun _ _ f => f) (fun _ _ f => f))
          obtain ⟨g0, g1, g2, g3, g4, g5, g6⟩ := (HFB.out.kept HK2.out (by have := HCB.out; omega)).sevenE
          clear hgi hkk
          go_upto_region 12 with fail
          rw [← hx1]
          clear hx1 hc hz
          go_wp2_with fail
          refine (HX2.out.txt ⟨⟨_, rfl⟩, by decide⟩ HCB.out.1 HCB.out.2.2.2.2.2.1).mono ?_
          rintro e v2 ⟨V, o, rfl, hc, hz, hgi, hkk⟩
          obtain ⟨x2, hx2⟩ : ∃ X, X = v2.setCell ⟨rb, 3, none⟩ (.string V) := ⟨_, rfl⟩
          rw [← hx2] at hgi hkk
          have HX3 := hid hgi
          have HK3 : Hid (Kept (fun k => k = cb ∨ k = rb) wd x2) := hid (Kept.trans HK2.out hkk (fun _ _ f => f) (fun _ _ f => f))
          obtain ⟨g0, g1, g2, g3, g4, g5, g6⟩ := (HFB.out.kept HK3.out (by have := HCB.out; omega)).sevenE
          clear hgi hkk
          go_upto_region 14 with fail
          rw [← hx2]
          clear hx2 hc hz
          go_wp2_with fail
          refine (HX3.out.num ⟨_, rfl⟩ HCB.out.1 HCB.out.2.2.2.2.2.1).mono ?_
          rintro e v3 ⟨V, o, rfl, hc, hz, hgi, hkk⟩
          obtain ⟨x3, hx3⟩ : ∃ X, X = v3.setCell ⟨rb, 5, none⟩ (.int .i64 (V : Nat)) := ⟨_, rfl⟩
          rw [← hx3] at hgi hkk
          have HX4 := hid hgi
          have HK4 : Hid (Kept (fun k => k = cb ∨ k = rb) wd x3) := hid (Kept.trans HK3.out hkk (fun _ _ f => f) (fun _ _ f => f))
          obtain ⟨g0, g1, g2, g3, g4, g5, g6⟩ := (HFB.out.kept HK4.out (by have := HCB.out; omega)).sevenE
          clear hgi hkk
          go_upto_region 18 with fail
          rw [← hx3]
          clear hx3 hc hz
          go_wp2_with fail
          refine (HX4.out.num ⟨_, rfl⟩ HCB.out.1 HCB.out.2.2.2.2.2.1).mono ?_
          rintro e v4 ⟨V, o, rfl, hc, hz, hgi, hkk⟩
          obtain ⟨x4, hx4⟩ : ∃ X, X = v4.setCell ⟨rb, 6, none⟩ (.int .i64 (V : Nat)) := ⟨_, rfl⟩
          rw [← hx4] at hgi hkk
          have HX5 := hid hgi
          have HK5 : Hid (Kept (fun k => k = cb ∨ k = rb) wd x4) := hid (Kept.trans HK4.out hkk (fun _ _ f => f) (fun _ _ f => f))
          obtain ⟨g0, g1, g2, g3, g4, g5, g6⟩ := (HFB.out.kept HK5.out (by have := HCB.out; omega)).sevenE
          clear hgi hkk
          go_upto_region 19 with fail
          rw [← hx4]
          clear hx4 hc hz
          go_upto_region 21 with fail
          obtain ⟨wz, hwz⟩ : ∃ X, X = x4 := ⟨_, rfl⟩
          have HZ : Hid (GI w.heap.size wz rb cb 24 (zeroQ (b : Nat)).cs [] (gotQ (b :: y)) finQ) := hid (by rw [hwz]; exact HX5.out)
          have HKZ : Hid (Kept (fun k => k = cb ∨ k = rb) wd wz) := hid (by rw [hwz]; exact HK5.out)
          rw [← hwz]
          clear hwz
          obtain ⟨cs, yz, bad, az, capz, hob, hal, _, hct, hor⟩ := HZ.out
          have hcs := alike_rq hal
          obtain ⟨q, hq⟩ : ∃ q, q = rqOf cs := ⟨_, rfl⟩
          rw [← hq] at hcs
          rw [hcs] at hob hor
          have HOR := hid hor
          have HPZ := hid (HBC.out.kept HKZ.out (by have := HCB.out; omega))
          have HSZ : Hid (Same w wz) := hid (Same.then HKC.out HKZ.out (fun x hx e => by have := HCB.out; omega))
          obtain ⟨d0, d1, _, _⟩ := hct.blk.two
          obtain ⟨s0, s1, s2, s3, s4, s5, s6, s7⟩ := hob.eight
          obtain ⟨t0, t1, t2, t3, t4, t5, t6, t7⟩ := HPZ.out.eight
          have z0 := HPZ.out.frozen 0
          have z1 := HPZ.out.frozen 1
          have z2 := HPZ.out.frozen 2
          have z3 := HPZ.out.frozen 3
          have z4 := HPZ.out.frozen 4
          have z5 := HPZ.out.frozen 5
          have z6 := HPZ.out.frozen 6
          have z7 := HPZ.out.frozen 7
          obtain ⟨L, hL⟩ : ∃ L, L = yz.length := ⟨_, rfl⟩
          rw [← hL] at d0
          have HL := hid hL
          clear hob hal hct hor hcs hq hL g0 g1 g2 g3 g4 g5 g6
          cases bad with
          | true =>
            have hg : gotQ (b :: y) = none := by rcases HOR.out with h | h; exact h.2; exact absurd h.1 (by decide)
            have HGN : Hid (gqV (b :: y) = zeroQ 0 ∧ gqE (b :: y) = 190) := hid ⟨(gqE_none hg).2, by rw [(gqE_none hg).1, HG.out.2]⟩
            clear hg
            go_wp2_with fail
            obtain ⟨e1, e2, e3⟩ := HEND.out wz (zeroQ 0) 190 HSZ.out HPZ.out HGN.out.1 HGN.out.2
            refine bodyPost_ret (v := .tuple #[.agg (rqV (zeroQ 0)), .int .i64 190]) (by rw [results_c2 (p := 2) (b := 3) (ty := 24) rfl _ _ _ _ _ ⟨p, 0, none⟩ _ rfl (loadQ e1)]; rfl) rfl ?_
            exact ⟨e2, e3⟩
          | false =>
            by_cases hy : yz = []
            · have hL0 : L = 0 := by rw [HL.out, hy]; rfl
              have hg : gotQ (b :: y) = some q := by
                rcases HOR.out with h | h
                · exact absurd h.1 (by decide)
                · rw [h.2, hy]; rfl
              have HGN := hid (gqE_some hg)
              subst hL0
              clear hg hy
              go_wp2_with fail
              obtain ⟨e1, e2, e3⟩ := HEND.out wz q 0 HSZ.out HPZ.out HGN.out.2 HGN.out.1
              refine bodyPost_ret (v := .tuple #[.agg (rqV q), .int .i64 0]) (by rw [results_c2 (p := 2) (b := 3) (ty := 24) rfl _ _ _ _ _ ⟨p, 0, none⟩ _ rfl (loadQ e1)]; rfl) rfl ?_
              exact ⟨e2, e3⟩
            · have hL0 : 0 < L := by rw [HL.out]; exact List.length_pos_iff.2 hy
              have l1 : decide ((0 : Int) < (L : Int)) = true := by simp; omega
              have l2 : decide (0 < L) = true := by simp; omega
              have hg : gotQ (b :: y) = none := by
                rcases HOR.out with h | h
                · exact absurd h.1 (by decide)
                · rw [h.2]; show (if yz = [] then _ else _) = _; rw [if_neg hy]
              have HGN : Hid (gqV (b :: y) = zeroQ 0 ∧ gqE (b :: y) = 190) := hid ⟨(gqE_none hg).2, by rw [(gqE_none hg).1, HG.out.2]⟩
              clear hg hy hL0
              go_wp2_with fail
              obtain ⟨e1, e2, e3⟩ := HEND.out wz (zeroQ 0) 190 HSZ.out HPZ.out HGN.out.1 HGN.out.2
              refine bodyPost_ret (v := .tuple #[.agg (rqV (zeroQ 0)), .int .i64 190]) (by rw [results_c2 (p := 2) (b := 3) (ty := 24) rfl _ _ _ _ _ ⟨p, 0, none⟩ _ rfl (loadQ e1)]; rfl) rfl ?_
              exact ⟨e2, e3⟩
        · -- List
          have HX0 : Hid (GI w.heap.size wd rb cb 24 (zeroQ (b : Nat)).cs [.num 1, .txt 2 255] (gotQ (b :: y)) finQ) := hid (by rw [← hL]; exact HRC.out)
          have HK0 : Hid (Kept (fun k => k = cb ∨ k = rb) wd wd) := hid (Kept.refl _ _)
          obtain rfl : f1 = true := by rw [HFF.out.1]; unfold hasQ; rw [hL]; rfl
          obtain rfl : f2 = true := by rw [HFF.out.2.1]; unfold hasQ; rw [hL]; rfl
          obtain rfl : f3 = false := by rw [HFF.out.2.2.1]; unfold hasQ; rw [hL]; rfl
          obtain rfl : f4 = false := by rw [HFF.out.2.2.2.1]; unfold hasQ; rw [hL]; rfl
          obtain rfl : f5 = false := by rw [HFF.out.2.2.2.2.1]; unfold hasQ; rw [hL]; rfl
          obtain rfl : f6 = false := by rw [HFF.out.2.2.2.2.2.1]; unfold hasQ; rw [hL]; rfl
          obtain rfl : f7 = false := by rw [HFF.out.2.2.2.2.2.2]; unfold hasQ; rw [hL]; rfl
          clear hL
          go_wp2_with fail
          refine (HX0.out.num ⟨_, rfl⟩ HCB.out.1 HCB.out.2.2.2.2.2.1).mono ?_
          rintro e v0 ⟨V, o, rfl, hc, hz, hgi, hkk⟩
          obtain ⟨x0, hx0⟩ : ∃ X, X = v0.setCell ⟨rb, 1, none⟩ (.int .i64 (V : Nat)) := ⟨_, rfl⟩
          rw [← hx0] at hgi hkk
          have HX1 := hid hgi
          have HK1 : Hid (Kept (fun k => k = cb ∨ k = rb) wd x0) := hid (Kept.trans HK0.out hkk (fun _ _ f => f) (fun _ _ f => f))
          obtain ⟨g0, g1, g2, g3, g4, g5, g6⟩ := (HFB.out.kept HK1.out (by have := HCB.out; omega)).sevenE
          clear hgi hkk
          go_upto_region 10 with fail
          rw [← hx0]
          clear hx0 hc hz
          go_wp2_with fail
          refine (HX1.out.txt ⟨⟨_, rfl⟩, by decide⟩ HCB.out.1 HCB.out.2.2.2.2.2.1).mono ?_
          rintro e v1 ⟨V, o, rfl, hc, hz, hgi, hkk⟩
          obtain ⟨x1, hx1⟩ : ∃ X, X = v1.setCell ⟨rb, 2, none⟩ (.string V) := ⟨_, rfl⟩
          rw [← hx1] at hgi hkk
          have HX2 := hid hgi
          have HK2 : Hid (Kept (fun k => k = cb ∨ k = rb) wd x1) := hid (Kept.trans HK1.out hkk (fun _ _ f => f) (fun _ _ f => f))
          obtain ⟨g0, g1, g2, g3, g4, g5, g6⟩ := (HFB.out.kept HK2.out (by have := HCB.out; omega)).sevenE
          clear hgi hkk
          go_upto_region 12 with fail
          rw [← hx1]
          clear hx1 hc hz
          go_upto_region 21 with fail
          obtain ⟨wz, hwz⟩ : ∃ X, X = x1 := ⟨_, rfl⟩
          have HZ : Hid (GI w.heap.size wz rb cb 24 (zeroQ (b : Nat)).cs [] (gotQ (b :: y)) finQ) := hid (by rw [hwz]; exact HX2.out)
          have HKZ : Hid (Kept (fun k => k = cb ∨ k = rb) wd wz) := hid (by rw [hwz]; exact HK2.out)
          rw [← hwz]
          clear hwz
          obtain ⟨cs, yz, bad, az, capz, hob, hal, _, hct, hor⟩ := HZ.out
          have hcs := alike_rq hal
          obtain ⟨q, hq⟩ : ∃ q, q = rqOf cs := ⟨_, rfl⟩
          rw [← hq] at hcs
          rw [hcs] at hob hor
          have HOR := hid hor
          have HPZ := hid (HBC.out.kept HKZ.out (by have := HCB.out; omega))
          have HSZ : Hid (Same w wz) := hid (Same.then HKC.out HKZ.out (fun x hx e => by have := HCB.out; omega))
          obtain ⟨d0, d1, _, _⟩ := hct.blk.two
          obtain ⟨s0, s1, s2, s3, s4, s5, s6, s7⟩ := hob.eight
          obtain ⟨t0, t1, t2, t3, t4, t5, t6, t7⟩ := HPZ.out.eight
          have z0 := HPZ.out.frozen 0
          have z1 := HPZ.out.frozen 1
          have z2 := HPZ.out.frozen 2
          have z3 := HPZ.out.frozen 3
          have z4 := HPZ.out.frozen 4
          have z5 := HPZ.out.frozen 5
          have z6 := HPZ.out.frozen 6
          have z7 := HPZ.out.frozen 7
          obtain ⟨L, hL⟩ : ∃ L, L = yz.length := ⟨_, rfl⟩
          rw [← hL] at d0
          have HL := hid hL
          clear hob hal hct hor hcs hq hL g0 g1 g2 g3 g4 g5 g6
          cases bad with
          | true =>
            have hg : gotQ (b :: y) = none := by rcases HOR.out with h | h; exact h.2; exact absurd h.1 (by decide)
            have HGN : Hid (gqV (b :: y) = zeroQ 0 ∧ gqE (b :: y) = 190) := hid ⟨(gqE_none hg).2, by rw [(gqE_none hg).1, HG.out.2]⟩
            clear hg
            go_wp2_with fail
            obtain ⟨e1, e2, e3⟩ := HEND.out wz (zeroQ 0) 190 HSZ.out HPZ.out HGN.out.1 HGN.out.2
            refine bodyPost_ret (v := .tuple #[.agg (rqV (zeroQ 0)), .int .i64 190]) (by rw [results_c2 (p := 2) (b := 3) (ty := 24) rfl _ _ _ _ _ ⟨p, 0, none⟩ _ rfl (loadQ e1)]; rfl) rfl ?_
            exact ⟨e2, e3⟩
          | false =>
            by_cases hy : yz = []
            · have hL0 : L = 0 := by rw [HL.out, hy]; rfl
              have hg : gotQ (b :: y) = some q := by
                rcases HOR.out with h | h
                · exact absurd h.1 (by decide)
                · rw [h.2, hy]; rfl
              have HGN := hid (gqE_some hg)
              subst hL0
              clear hg hy
              go_wp2_with fail
              obtain ⟨e1, e2, e3⟩ := HEND.out wz q 0 HSZ.out HPZ.out HGN.out.2 HGN.out.1
              refine bodyPost_ret (v := .tuple #[.agg (rqV q), .int .i64 0]) (by rw [results_c2 (p := 2) (b := 3) (ty := 24) rfl _ _ _ _ _ ⟨p, 0, none⟩ _ rfl (loadQ e1)]; rfl) rfl ?_
              exact ⟨e2, e3⟩
            · have hL0 : 0 < L := by rw [HL.out]; exact List.length_pos_iff.2 hy
              have l1 : decide ((0 : Int) < (L : Int)) = true := by simp; omega
              have l2 : decide (0 < L) = true := by simp; omega
              have hg : gotQ (b :: y) = none := by
                rcases HOR.out with h | h
                · exact absurd h.1 (by decide)
                · rw [h.2]; show (if yz = [] then _ else _) = _; rw [if_neg hy]
              have HGN : Hid (gqV (b :: y) = zeroQ 0 ∧ gqE (b :: y) = 190) := hid ⟨(gqE_none hg).2, by rw [(gqE_none hg).1, HG.out.2]⟩
              clear hg hy hL0
              go_wp2_with fail
              obtain ⟨e1, e2, e3⟩ := HEND.out wz (zeroQ 0) 190 HSZ.out HPZ.out HGN.out.1 HGN.out.2
              refine bodyPost_ret (v := .tuple #[.agg (rqV (zeroQ 0)), .int .i64 190]) (by rw [results_c2 (p := 2) (b := 3) (ty := 24) rfl _ _ _ _ _ ⟨p, 0, none⟩ _ rfl (loadQ e1)]; rfl) rfl ?_
              exact ⟨e2, e3⟩
        · -- Put
          have HX0 : Hid (GI w.heap.size wd rb cb 24 (zeroQ (b : Nat)).cs [.num 1, .txt 2 255, .txt 3 255, .txt 4 16384] (gotQ (b :: y)) finQ) := hid (by rw [← hL]; exact HRC.out)
          have HK0 : Hid (Kept (fun k => k = cb ∨ k = rb) wd wd) := hid (Kept.refl _ _)
          obtain rfl : f1 = true := by rw [HFF.out.1]; unfold hasQ; rw [hL]; rfl
          obtain rfl : f2 = true := by rw [HFF.out.2.1]; unfold hasQ; rw [hL]; rfl
          obtain rfl : f3 = true := by rw [HFF.out.2.2.1]; unfold hasQ; rw [hL]; rfl
          obtain rfl : f4 = true := by rw [HFF.out.2.2.2.1]; unfold hasQ; rw [hL]; rfl
          obtain rfl : f5 = false := by rw [HFF.out.2.2.2.2.1]; unfold hasQ; rw [hL]; rfl
          obtain rfl : f6 = false := by rw [HFF.out.2.2.2.2.2.1]; unfold hasQ; rw [hL]; rfl
          obtain rfl : f7 = false := by rw [HFF.out.2.2.2.2.2.2]; unfold hasQ; rw [hL]; rfl
          clear hL
          go_wp2_with fail
          refine (HX0.out.num ⟨_, rfl⟩ HCB.out.1 HCB.out.2.2.2.2.2.1).mono ?_
          rintro e v0 ⟨V, o, rfl, hc, hz, hgi, hkk⟩
          obtain ⟨x0, hx0⟩ : ∃ X, X = v0.setCell ⟨rb, 1, none⟩ (.int .i64 (V : Nat)) := ⟨_, rfl⟩
          rw [← hx0] at hgi hkk
          have HX1 := hid hgi
          have HK1 : Hid (Kept (fun k => k = cb ∨ k = rb) wd x0) := hid (Kept.trans HK0.out hkk (fun _ _ f => f) (fun _ _ f => f))
          obtain ⟨g0, g1, g2, g3, g4, g5, g6⟩ := (HFB.out.kept HK1.out (by have := HCB.out; omega)).sevenE
          clear hgi hkk
          go_upto_region 10 with fail
          rw [← hx0]
          clear hx0 hc hz
          go_wp2_with fail
          refine (HX1.out.txt ⟨⟨_, rfl⟩, by decide⟩ HCB.out.1 HCB.out.2.2.2.2.2.1).mono ?_
          rintro e v1 ⟨V, o, rfl, hc, hz, hgi, hkk⟩
          obtain ⟨x1, hx1⟩ : ∃ X, X = v1.setCell ⟨rb, 2, none⟩ (.string V) := ⟨_, rfl⟩
          rw [← hx1] at hgi hkk
          have HX2 := hid hgi
          have HK2 : Hid (Kept (fun k => k = cb ∨ k = rb) wd x1) := hid (Kept.trans HK1.out hkk (fun _ _ f => f) (fun _ _ f => f))
          obtain ⟨g0, g1, g2, g3, g4, g5, g6⟩ := (HFB.out.kept HK2.out (by have := HCB.out; omega)).sevenE
          clear hgi hkk
          go_upto_region 12 with fail
          rw [← hx1]
          clear hx1 hc hz
          go_wp2_with fail
          refine (HX2.out.txt ⟨⟨_, rfl⟩, by decide⟩ HCB.out.1 HCB.out.2.2.2.2.2.1).mono ?_
          rintro e v2 ⟨V, o, rfl, hc, hz, hgi, hkk⟩
          obtain ⟨x2, hx2⟩ : ∃ X, X = v2.setCell ⟨rb, 3, none⟩ (.string V) := ⟨_, rfl⟩
          rw [← hx2] at hgi hkk
          have HX3 := hid hgi
          have HK3 : Hid (Kept (fun k => k = cb ∨ k = rb) wd x2) := hid (Kept.trans HK2.out hkk (fun _ _ f => f) (fun _ _ f => f))
          obtain ⟨g0, g1, g2, g3, g4, g5, g6⟩ := (HFB.out.kept HK3.out (by have := HCB.out; omega)).sevenE
          clear hgi hkk
          go_upto_region 14 with fail
          rw [← hx2]
          clear hx2 hc hz
          go_wp2_with fail
          refine (HX3.out.txt ⟨⟨_, rfl⟩, by decide⟩ HCB.out.1 HCB.out.2.2.2.2.2.1).mono ?_
          rintro e v3 ⟨V, o, rfl, hc, hz, hgi, hkk⟩
          obtain ⟨x3, hx3⟩ : ∃ X, X = v3.setCell ⟨rb, 4, none⟩ (.string V) := ⟨_, rfl⟩
          rw [← hx3] at hgi hkk
          have HX4 := hid hgi
          have HK4 : Hid (Kept (fun k => k = cb ∨ k = rb) wd x3) := hid (Kept.trans HK3.out hkk (fun _ _ f => f) (fun _ _ f => f))
          obtain ⟨g0, g1, g2, g3, g4, g5, g6⟩ := (HFB.out.kept HK4.out (by have := HCB.out; omega)).sevenE
          clear hgi hkk
          go_upto_region 16 with fail
          rw [← hx3]
          clear hx3 hc hz
          go_upto_region 21 with fail
          obtain ⟨wz, hwz⟩ : ∃ X, X = x3 := ⟨_, rfl⟩
          have HZ : Hid (GI w.heap.size wz rb cb 24 (zeroQ (b : Nat)).cs [] (gotQ (b :: y)) finQ) := hid (by rw [hwz]; exact HX4.out)
          have HKZ : Hid (Kept (fun k => k = cb ∨ k = rb) wd wz) := hid (by rw [hwz]; exact HK4.out)
          rw [← hwz]
          clear hwz
          obtain ⟨cs, yz, bad, az, capz, hob, hal, _, hct, hor⟩ := HZ.out
          have hcs := alike_rq hal
          obtain ⟨q, hq⟩ : ∃ q, q = rqOf cs := ⟨_, rfl⟩
          rw [← hq] at hcs
          rw [hcs] at hob hor
          have HOR := hid hor
          have HPZ := hid (HBC.out.kept HKZ.out (by have := HCB.out; omega))
          have HSZ : Hid (Same w wz) := hid (Same.then HKC.out HKZ.out (fun x hx e => by have := HCB.out; omega))
          obtain ⟨d0, d1, _, _⟩ := hct.blk.two
          obtain ⟨s0, s1, s2, s3, s4, s5, s6, s7⟩ := hob.eight
          obtain ⟨t0, t1, t2, t3, t4, t5, t6, t7⟩ := HPZ.out.eight
          have z0 := HPZ.out.frozen 0
          have z1 := HPZ.out.frozen 1
          have z2 := HPZ.out.frozen 2
          have z3 := HPZ.out.frozen 3
          have z4 := HPZ.out.frozen 4
          have z5 := HPZ.out.frozen 5
          have z6 := HPZ.out.frozen 6
          have z7 := HPZ.out.frozen 7
          obtain ⟨L, hL⟩ : ∃ L, L = yz.length := ⟨_, rfl⟩
          rw [← hL] at d0
          have HL := hid hL
          clear hob hal hct hor hcs hq hL g0 g1 g2 g3 g4 g5 g6
          cases bad with
          | true =>
            have hg : gotQ (b :: y) = none := by rcases HOR.out with h | h; exact h.2; exact absurd h.1 (by decide)
            have HGN : Hid (gqV (b :: y) = zeroQ 0 ∧ gqE (b :: y) = 190) := hid ⟨(gqE_none hg).2, by rw [(gqE_none hg).1, HG.out.2]⟩
            clear hg
            go_wp2_with fail
            obtain ⟨e1, e2, e3⟩ := HEND.out wz (zeroQ 0) 190 HSZ.out HPZ.out HGN.out.1 HGN.out.2
            refine bodyPost_ret (v := .tuple #[.agg (rqV (zeroQ 0)), .int .i64 190]) (by rw [results_c2 (p := 2) (b := 3) (ty := 24) rfl _ _ _ _ _ ⟨p, 0, none⟩ _ rfl (loadQ e1)]; rfl) rfl ?_
            exact ⟨e2, e3⟩
          | false =>
            by_cases hy : yz = []
            · have hL0 : L = 0 := by rw [HL.out, hy]; rfl
              have hg : gotQ (b :: y) = some q := by
                rcases HOR.out with h | h
                · exact absurd h.1 (by decide)
                · rw [h.2, hy]; rfl
              have HGN := hid (gqE_some hg)
              subst hL0
              clear hg hy
              go_wp2_with fail
              obtain ⟨e1, e2, e3⟩ := HEND.out wz q 0 HSZ.out HPZ.out HGN.out.2 HGN.out.1
              refine bodyPost_ret (v := .tuple #[.agg (rqV q), .int .i64 0]) (by rw [results_c2 (p := 2) (b := 3) (ty := 24) rfl _ _ _ _ _ ⟨p, 0, none⟩ _ rfl (loadQ e1)]; rfl) rfl ?_
              exact ⟨e2, e3⟩
            · have hL0 : 0 < L := by rw [HL.out]; exact List.length_pos_iff.2 hy
              have l1 : decide ((0 : Int) < (L : Int)) = true := by simp; omega
              have l2 : decide (0 < L) = true := by simp; omega
              have hg : gotQ (b :: y) = none := by
                rcases HOR.out with h | h
                · exact absurd h.1 (by decide)
                · rw [h.2]; show (if yz = [] then _ else _) = _; rw [if_neg hy]
              have HGN : Hid (gqV (b :: y) = zeroQ 0 ∧ gqE (b :: y) = 190) := hid ⟨(gqE_none hg).2, by rw [(gqE_none hg).1, HG.out.2]⟩
              clear hg hy hL0
              go_wp2_with fail
              obtain ⟨e1, e2, e3⟩ := HEND.out wz (zeroQ 0) 190 HSZ.out HPZ.out HGN.out.1 HGN.out.2
              refine bodyPost_ret (v := .tuple #[.agg (rqV (zeroQ 0)), .int .i64 190]) (by rw [results_c2 (p := 2) (b := 3) (ty := 24) rfl _ _ _ _ _ ⟨p, 0, none⟩ _ rfl (loadQ e1)]; rfl) rfl ?_
              exact ⟨e2, e3⟩
        · -- Delete
          have HX0 : Hid (GI w.heap.size wd rb cb 24 (zeroQ (b : Nat)).cs [.num 1, .txt 2 255, .txt 3 255] (gotQ (b :: y)) finQ) := hid (by rw [← hL]; exact HRC.out)
          have HK0 : Hid (Kept (fun k => k = cb ∨ k = rb) wd wd) := hid (Kept.refl _ _)
          obtain rfl : f1 = true := by rw [HFF.out.1]; unfold hasQ; rw [hL]; rfl
          obtain rfl : f2 = true := by rw [HFF.out.2.1]; unfold hasQ; rw [hL]; rfl
          obtain rfl : f3 = true := by rw [HFF.out.2.2.1]; unfold hasQ; rw [hL]; rfl
          obtain rfl : f4 = false := by rw [HFF.out.2.2.2.1]; unfold hasQ; rw [hL]; rfl
          obtain rfl : f5 = false := by rw [HFF.out.2.2.2.2.1]; unfold hasQ; rw [hL]; rfl
          obtain rfl : f6 = false := by rw [HFF.out.2.2.2.2.2.1]; unfold hasQ; rw [hL]; rfl
          obtain rfl : f7 = false := by rw [HFF.out.2.2.2.2.2.2]; unfold hasQ; rw [hL]; rfl
          clear hL
          go_wp2_with fail
          refine (HX0.out.num ⟨_, rfl⟩ HCB.out.1 HCB.out.2.2.2.2.2.1).mono ?_
          rintro e v0 ⟨V, o, rfl, hc, hz, hgi, hkk⟩
          obtain ⟨x0, hx0⟩ : ∃ X, X = v0.setCell ⟨rb, 1, none⟩ (.int .i64 (V : Nat)) := ⟨_, rfl⟩
          rw [← hx0] at hgi hkk
          have HX1 := hid hgi
          have HK1 : Hid (Kept (fun k => k = cb ∨ k = rb) wd x0) := hid (Kept.trans HK0.out hkk (fun _ _ f => f) (fun _ _ f => f))
          obtain ⟨g0, g1, g2, g3, g4, g5, g6⟩ := (HFB.out.kept HK1.out (by have := HCB.out; omega)).sevenE
          clear hgi hkk
          go_upto_region 10 with fail
          rw [← hx0]
          clear hx0 hc hz
          go_wp2_with fail
          refine (HX1.out.txt ⟨⟨_, rfl⟩, by decide⟩ HCB.out.1 HCB.out.2.2.2.2.2.1).mono ?_
          rintro e v1 ⟨V, o, rfl, hc, hz, hgi, hkk⟩
          obtain ⟨x1, hx1⟩ : ∃ X, X = v1.setCell ⟨rb, 2, none⟩ (.string V) := ⟨_, rfl⟩
          rw [← hx1] at hgi hkk
          have HX2 := hid hgi
          have HK2 : Hid (Kept (fun k => k = cb ∨ k = rb) wd x1) := hid (Kept.trans HK1.out hkk (fun _ _ f => f) (fun _ _ f => f))
          obtain ⟨g0, g1, g2, g3, g4, g5, g6⟩ := (HFB.out.kept HK2.out (by have := HCB.out; omega)).sevenE
          clear hgi hkk
          go_upto_region 12 with fail
          rw [← hx1]
          clear hx1 hc hz
          go_wp2_with fail
          refine (HX2.out.txt ⟨⟨_, rfl⟩, by decide⟩ HCB.out.1 HCB.out.2.2.2.2.2.1).mono ?_
          rintro e v2 ⟨V, o, rfl, hc, hz, hgi, hkk⟩
          obtain ⟨x2, hx2⟩ : ∃ X, X = v2.setCell ⟨rb, 3, none⟩ (.string V) := ⟨_, rfl⟩
          rw [← hx2] at hgi hkk
          have HX3 := hid hgi
          have HK3 : Hid (Kept (fun k => k = cb ∨ k = rb) wd x2) := hid (Kept.trans HK2.out hkk (fun _ _ f => f) (fun _ _ f => f))
          obtain ⟨g0, g1, g2, g3, g4, g5, g6⟩ := (HFB.out.kept HK3.out (by have := HCB.out; omega)).sevenE
          clear hgi hkk
          go_upto_region 14 with fail
          rw [← hx2]
          clear hx2 hc hz
          go_upto_region 21 with fail
          obtain ⟨wz, hwz⟩ : ∃ X, X = x2 := ⟨_, rfl⟩
          have HZ : Hid (GI w.heap.size wz rb cb 24 (zeroQ (b : Nat)).cs [] (gotQ (b :: y)) finQ) := hid (by rw [hwz]; exact HX3.out)
          have HKZ : Hid (Kept (fun k => k = cb ∨ k = rb) wd wz) := hid (by rw [hwz]; exact HK3.out)
          rw [← hwz]
          clear hwz
          obtain ⟨cs, yz, bad, az, capz, hob, hal, _, hct, hor⟩ := HZ.out
          have hcs := alike_rq hal
          obtain ⟨q, hq⟩ : ∃ q, q = rqOf cs := ⟨_, rfl⟩
          rw [← hq] at hcs
          rw [hcs] at hob hor
          have HOR := hid hor
          have HPZ := hid (HBC.out.kept HKZ.out (by have := HCB.out; omega))
          have HSZ : Hid (Same w wz) := hid (Same.then HKC.out HKZ.out (fun x hx e => by have := HCB.out; omega))
          obtain ⟨d0, d1, _, _⟩ := hct.blk.two
          obtain ⟨s0, s1, s2, s3, s4, s5, s6, s7⟩ := hob.eight
          obtain ⟨t0, t1, t2, t3, t4, t5, t6, t7⟩ := HPZ.out.eight
          have z0 := HPZ.out.frozen 0
          have z1 := HPZ.out.frozen 1
          have z2 := HPZ.out.frozen 2
          have z3 := HPZ.out.frozen 3
          have z4 := HPZ.out.frozen 4
          have z5 := HPZ.out.frozen 5
          have z6 := HPZ.out.frozen 6
          have z7 := HPZ.out.frozen 7
          obtain ⟨L, hL⟩ : ∃ L, L = yz.length := ⟨_, rfl⟩
          rw [← hL] at d0
          have HL := hid hL
          clear hob hal hct hor hcs hq hL g0 g1 g2 g3 g4 g5 g6
          cases bad with
          | true =>
            have hg : gotQ (b :: y) = none := by rcases HOR.out with h | h; exact h.2; exact absurd h.1 (by decide)
            have HGN : Hid (gqV (b :: y) = zeroQ 0 ∧ gqE (b :: y) = 190) := hid ⟨(gqE_none hg).2, by rw [(gqE_none hg).1, HG.out.2]⟩
            clear hg
            go_wp2_with fail
            obtain ⟨e1, e2, e3⟩ := HEND.out wz (zeroQ 0) 190 HSZ.out HPZ.out HGN.out.1 HGN.out.2
            refine bodyPost_ret (v := .tuple #[.agg (rqV (zeroQ 0)), .int .i64 190]) (by rw [results_c2 (p := 2) (b := 3) (ty := 24) rfl _ _ _ _ _ ⟨p, 0, none⟩ _ rfl (loadQ e1)]; rfl) rfl ?_
            exact ⟨e2, e3⟩
          | false =>
            by_cases hy : yz = []
            · have hL0 : L = 0 := by rw [HL.out, hy]; rfl
              have hg : gotQ (b :: y) = some q := by
                rcases HOR.out with h | h
                · exact absurd h.1 (by decide)
                · rw [h.2, hy]; rfl
              have HGN := hid (gqE_some hg)
              subst hL0
              clear hg hy
              go_wp2_with fail
              obtain ⟨e1, e2, e3⟩ := HEND.out wz q 0 HSZ.out HPZ.out HGN.out.2 HGN.out.1
              refine bodyPost_ret (v := .tuple #[.agg (rqV q), .int .i64 0]) (by rw [results_c2 (p := 2) (b := 3) (ty := 24) rfl _ _ _ _ _ ⟨p, 0, none⟩ _ rfl (loadQ e1)]; rfl) rfl ?_
              exact ⟨e2, e3⟩
            · have hL0 : 0 < L := by rw [HL.out]; exact List.length_pos_iff.2 hy
              have l1 : decide ((0 : Int) < (L : Int)) = true := by simp; omega
              have l2 : decide (0 < L) = true := by simp; omega
              have hg : gotQ (b :: y) = none := by
                rcases HOR.out with h | h
                · exact absurd h.1 (by decide)
                · rw [h.2]; show (if yz = [] then _ else _) = _; rw [if_neg hy]
              have HGN : Hid (gqV (b :: y) = zeroQ 0 ∧ gqE (b :: y) = 190) := hid ⟨(gqE_none hg).2, by rw [(gqE_none hg).1, HG.out.2]⟩
              clear hg hy hL0
              go_wp2_with fail
              obtain ⟨e1, e2, e3⟩ := HEND.out wz (zeroQ 0) 190 HSZ.out HPZ.out HGN.out.1 HGN.out.2
              refine bodyPost_ret (v := .tuple #[.agg (rqV (zeroQ 0)), .int .i64 190]) (by rw [results_c2 (p := 2) (b := 3) (ty := 24) rfl _ _ _ _ _ ⟨p, 0, none⟩ _ rfl (loadQ e1)]; rfl) rfl ?_
              exact ⟨e2, e3⟩
        · -- Commit
          have HX0 : Hid (GI w.heap.size wd rb cb 24 (zeroQ (b : Nat)).cs [.num 1] (gotQ (b :: y)) finQ) := hid (by rw [← hL]; exact HRC.out)
          have HK0 : Hid (Kept (fun k => k = cb ∨ k = rb) wd wd) := hid (Kept.refl _ _)
          obtain rfl : f1 = true := by rw [HFF.out.1]; unfold hasQ; rw [hL]; rfl
          obtain rfl : f2 = false := by rw [HFF.out.2.1]; unfold hasQ; rw [hL]; rfl
          obtain rfl : f3 = false := by rw [HFF.out.2.2.1]; unfold hasQ; rw [hL]; rfl
          obtain rfl : f4 = false := by rw [HFF.out.2.2.2.1]; unfold hasQ; rw [hL]; rfl
          obtain rfl : f5 = false := by rw [HFF.out.2.2.2.2.1]; unfold hasQ; rw [hL]; rfl
          obtain rfl : f6 = false := by rw [HFF.out.2.2.2.2.2.1]; unfold hasQ; rw [hL]; rfl
          obtain rfl : f7 = false := by rw [HFF.out.2.2.2.2.2.2]; unfold hasQ; rw [hL]; rfl
          clear hL
          go_wp2_with fail
          refine (HX0.out.num ⟨_, rfl⟩ HCB.out.1 HCB.out.2.2.2.2.2.1).mono ?_
          rintro e v0 ⟨V, o, rfl, hc, hz, hgi, hkk⟩
          obtain ⟨x0, hx0⟩ : ∃ X, X = v0.setCell ⟨rb, 1, none⟩ (.int .i64 (V : Nat)) := ⟨_, rfl⟩
          rw [← hx0] at hgi hkk
          have HX1 := hid hgi
          have HK1 : Hid (Kept (fun k => k = cb ∨ k = rb) wd x0) := hid (Kept.trans HK0.out hkk (fun _ _ f => f) (fun _ _ f => f))
          obtain ⟨g0, g1, g2, g3, g4, g5, g6⟩ := (HFB.out.kept HK1.out (by have := HCB.out; omega)).sevenE
          clear hgi hkk
          go_upto_region 10 with fail
          rw [← hx0]
          clear hx0 hc hz
          go_upto_region 21 with fail
          obtain ⟨wz, hwz⟩ : ∃ X, X = x0 := ⟨_, rfl⟩
          have HZ : Hid (GI w.heap.size wz rb cb 24 (zeroQ (b : Nat)).cs [] (gotQ (b :: y)) finQ) := hid (by rw [hwz]; exact HX1.out)
          have HKZ : Hid (Kept (fun k => k = cb ∨ k = rb) wd wz) := hid (by rw [hwz]; exact HK1.out)
          rw [← hwz]
          clear hwz
          obtain ⟨cs, yz, bad, az, capz, hob, hal, _, hct, hor⟩ := HZ.out
          have hcs := alike_rq hal
          obtain ⟨q, hq⟩ : ∃ q, q = rqOf cs := ⟨_, rfl⟩
          rw [← hq] at hcs
          rw [hcs] at hob hor
          have HOR := hid hor
          have HPZ := hid (HBC.out.kept HKZ.out (by have := HCB.out; omega))
          have HSZ : Hid (Same w wz) := hid (Same.then HKC.out HKZ.out (fun x hx e => by have := HCB.out; omega))
          obtain ⟨d0, d1, _, _⟩ := hct.blk.two
          obtain ⟨s0, s1, s2, s3, s4, s5, s6, s7⟩ := hob.eight
          obtain ⟨t0, t1, t2, t3, t4, t5, t6, t7⟩ := HPZ.out.eight
          have z0 := HPZ.out.frozen 0
          have z1 := HPZ.out.frozen 1
          have z2 := HPZ.out.frozen 2
          have z3 := HPZ.out.frozen 3
          have z4 := HPZ.out.frozen 4
          have z5 := HPZ.out.frozen 5
          have z6 := HPZ.out.frozen 6
          have z7 := HPZ.out.frozen 7
          obtain ⟨L, hL⟩ : ∃ L, L = yz.length := ⟨_, rfl⟩
          rw [← hL] at d0
          have HL := hid hL
          clear hob hal hct hor hcs hq hL g0 g1 g2 g3 g4 g5 g6
          cases bad with
          | true =>
            have hg : gotQ (b :: y) = none := by rcases HOR.out with h | h; exact h.2; exact absurd h.1 (by decide)
            have HGN : Hid (gqV (b :: y) = zeroQ 0 ∧ gqE (b :: y) = 190) := hid ⟨(gqE_none hg).2, by rw [(gqE_none hg).1, HG.out.2]⟩
            clear hg
            go_wp2_with fail
            obtain ⟨e1, e2, e3⟩ := HEND.out wz (zeroQ 0) 190 HSZ.out HPZ.out HGN.out.1 HGN.out.2
            refine bodyPost_ret (v := .tuple #[.agg (rqV (zeroQ 0)), .int .i64 190]) (by rw [results_c2 (p := 2) (b := 3) (ty := 24) rfl _ _ _ _ _ ⟨p, 0, none⟩ _ rfl (loadQ e1)]; rfl) rfl ?_
            exact ⟨e2, e3⟩
          | false =>
            by_cases hy : yz = []
            · have hL0 : L = 0 := by rw [HL.out, hy]; rfl
              have hg : gotQ (b :: y) = some q := by
                rcases HOR.out with h | h
                · exact absurd h.1 (by decide)
                · rw [h.2, hy]; rfl
              have HGN := hid (gqE_some hg)
              subst hL0
              clear hg hy
              go_wp2_with fail
              obtain ⟨e1, e2, e3⟩ := HEND.out wz q 0 HSZ.out HPZ.out HGN.out.2 HGN.out.1
              refine bodyPost_ret (v := .tuple #[.agg (rqV q), .int .i64 0]) (by rw [results_c2 (p := 2) (b := 3) (ty := 24) rfl _ _ _ _ _ ⟨p, 0, none⟩ _ rfl (loadQ e1)]; rfl) rfl ?_
              exact ⟨e2, e3⟩
            · have hL0 : 0 < L := by rw [HL.out]; exact List.length_pos_iff.2 hy
              have l1 : decide ((0 : Int) < (L : Int)) = true := by simp; omega
              have l2 : decide (0 < L) = true := by simp; omega
              have hg : gotQ (b :: y) = none := by
                rcases HOR.out with h | h
                · exact absurd h.1 (by decide)
                · rw [h.2]; show (if yz = [] then _ else _) = _; rw [if_neg hy]
              have HGN : Hid (gqV (b :: y) = zeroQ 0 ∧ gqE (b :: y) = 190) := hid ⟨(gqE_none hg).2, by rw [(gqE_none hg).1, HG.out.2]⟩
              clear hg hy hL0
              go_wp2_with fail
              obtain ⟨e1, e2, e3⟩ := HEND.out wz (zeroQ 0) 190 HSZ.out HPZ.out HGN.out.1 HGN.out.2
              refine bodyPost_ret (v := .tuple #[.agg (rqV (zeroQ 0)), .int .i64 190]) (by rw [results_c2 (p := 2) (b := 3) (ty := 24) rfl _ _ _ _ _ ⟨p, 0, none⟩ _ rfl (loadQ e1)]; rfl) rfl ?_
              exact ⟨e2, e3⟩
        · -- Export
          have HX0 : Hid (GI w.heap.size wd rb cb 24 (zeroQ (b : Nat)).cs [.num 1, .txt 2 255, .num 5, .num 6] (gotQ (b :: y)) finQ) := hid (by rw [← hL]; exact HRC.out)
          have HK0 : Hid (Kept (fun k => k = cb ∨ k = rb) wd wd) := hid (Kept.refl _ _)
          obtain rfl : f1 = true := by rw [HFF.out.1]; unfold hasQ; rw [hL]; rfl
          obtain rfl : f2 = true := by rw [HFF.out.2.1]; unfold hasQ; rw [hL]; rfl
          obtain rfl : f3 = false := by rw [HFF.out.2.2.1]; unfold hasQ; rw [hL]; rfl
          obtain rfl : f4 = false := by rw [HFF.out.2.2.2.1]; unfold hasQ; rw [hL]; rfl
          obtain rfl : f5 = true := by rw [HFF.out.2.2.2.2.1]; unfold hasQ; rw [hL]; rfl
          obtain rfl : f6 = true := by rw [HFF.out.2.2.2.2.2.1]; unfold hasQ; rw [hL]; rfl
          obtain rfl : f7 = false := by rw [HFF.out.2.2.2.2.2.2]; unfold hasQ; rw [hL]; rfl
          clear hL
          go_wp2_with fail
          refine (HX0.out.num ⟨_, rfl⟩ HCB.out.1 HCB.out.2.2.2.2.2.1).mono ?_
          rintro e v0 ⟨V, o, rfl, hc, hz, hgi, hkk⟩
          obtain ⟨x0, hx0⟩ : ∃ X, X = v0.setCell ⟨rb, 1, none⟩ (.int .i64 (V : Nat)) := ⟨_, rfl⟩
          rw [← hx0] at hgi hkk
          have HX1 := hid hgi
          have HK1 : Hid (Kept (fun k => k = cb ∨ k = rb) wd x0) := hid (Kept.trans HK0.out hkk (fun _ _ f => f) (fun _ _ f => f))
          obtain ⟨g0, g1, g2, g3, g4, g5, g6⟩ := (HFB.out.kept HK1.out (by have := HCB.out; omega)).sevenE
          clear hgi hkk
          go_upto_region 10 with fail
          rw [← hx0]
          clear hx0 hc hz
          go_wp2_with fail
          refine (HX1.out.txt ⟨⟨_, rfl⟩, by decide⟩ HCB.out.1 HCB.out.2.2.2.2.2.1).mono ?_
          rintro e v1 ⟨V, o, rfl, hc, hz, hgi, hkk⟩
          obtain ⟨x1, hx1⟩ : ∃ X, X = v1.setCell ⟨rb, 2, none⟩ (.string V) := ⟨_, rfl⟩
          rw [← hx1] at hgi hkk
          have HX2 := hid hgi
          have HK2 : Hid (Kept (fun k => k = cb ∨ k = rb) wd x1) := hid (Kept.trans HK1.out hkk (fun _ _ f => f) (fun _ _ f => f))
          obtain ⟨g0, g1, g2, g3, g4, g5, g6⟩ := (HFB.out.kept HK2.out (by have := HCB.out; omega)).sevenE
          clear hgi hkk
          go_upto_region 12 with fail
          rw [← hx1]
          clear hx1 hc hz
          go_wp2_with fail
          refine (HX2.out.num ⟨_, rfl⟩ HCB.out.1 HCB.out.2.2.2.2.2.1).mono ?_
          rintro e v2 ⟨V, o, rfl, hc, hz, hgi, hkk⟩
          obtain ⟨x2, hx2⟩ : ∃ X, X = v2.setCell ⟨rb, 5, none⟩ (.int .i64 (V : Nat)) := ⟨_, rfl⟩
          rw [← hx2] at hgi hkk
          have HX3 := hid hgi
          have HK3 : Hid (Kept (fun k => k = cb ∨ k = rb) wd x2) := hid (Kept.trans HK2.out hkk (fun _ _ f => f) (fun _ _ f => f))
          obtain ⟨g0, g1, g2, g3, g4, g5, g6⟩ := (HFB.out.kept HK3.out (by have := HCB.out; omega)).sevenE
          clear hgi hkk
          go_upto_region 18 with fail
          rw [← hx2]
          clear hx2 hc hz
          go_wp2_with fail
          refine (HX3.out.num ⟨_, rfl⟩ HCB.out.1 HCB.out.2.2.2.2.2.1).mono ?_
          rintro e v3 ⟨V, o, rfl, hc, hz, hgi, hkk⟩
          obtain ⟨x3, hx3⟩ : ∃ X, X = v3.setCell ⟨rb, 6, none⟩ (.int .i64 (V : Nat)) := ⟨_, rfl⟩
          rw [← hx3] at hgi hkk
          have HX4 := hid hgi
          have HK4 : Hid (Kept (fun k => k = cb ∨ k = rb) wd x3) := hid (Kept.trans HK3.out hkk (fun _ _ f => f) (fun _ _ f => f))
          obtain ⟨g0, g1, g2, g3, g4, g5, g6⟩ := (HFB.out.kept HK4.out (by have := HCB.out; omega)).sevenE
          clear hgi hkk
          go_upto_region 19 with fail
          rw [← hx3]
          clear hx3 hc hz
          go_upto_region 21 with fail
          obtain ⟨wz, hwz⟩ : ∃ X, X = x3 := ⟨_, rfl⟩
          have HZ : Hid (GI w.heap.size wz rb cb 24 (zeroQ (b : Nat)).cs [] (gotQ (b :: y)) finQ) := hid (by rw [hwz]; exact HX4.out)
          have HKZ : Hid (Kept (fun k => k = cb ∨ k = rb) wd wz) := hid (by rw [hwz]; exact HK4.out)
          rw [← hwz]
          clear hwz
          obtain ⟨cs, yz, bad, az, capz, hob, hal, _, hct, hor⟩ := HZ.out
          have hcs := alike_rq hal
          obtain ⟨q, hq⟩ : ∃ q, q = rqOf cs := ⟨_, rfl⟩
          rw [← hq] at hcs
          rw [hcs] at hob hor
          have HOR := hid hor
          have HPZ := hid (HBC.out.kept HKZ.out (by have := HCB.out; omega))
          have HSZ : Hid (Same w wz) := hid (Same.then HKC.out HKZ.out (fun x hx e => by have := HCB.out; omega))
          obtain ⟨d0, d1, _, _⟩ := hct.blk.two
          obtain ⟨s0, s1, s2, s3, s4, s5, s6, s7⟩ := hob.eight
          obtain ⟨t0, t1, t2, t3, t4, t5, t6, t7⟩ := HPZ.out.eight
          have z0 := HPZ.out.frozen 0
          have z1 := HPZ.out.frozen 1
          have z2 := HPZ.out.frozen 2
          have z3 := HPZ.out.frozen 3
          have z4 := HPZ.out.frozen 4
          have z5 := HPZ.out.frozen 5
          have z6 := HPZ.out.frozen 6
          have z7 := HPZ.out.frozen 7
          obtain ⟨L, hL⟩ : ∃ L, L = yz.length := ⟨_, rfl⟩
          rw [← hL] at d0
          have HL := hid hL
          clear hob hal hct hor hcs hq hL g0 g1 g2 g3 g4 g5 g6
          cases bad with
          | true =>
            have hg : gotQ (b :: y) = none := by rcases HOR.out with h | h; exact h.2; exact absurd h.1 (by decide)
            have HGN : Hid (gqV (b :: y) = zeroQ 0 ∧ gqE (b :: y) = 190) := hid ⟨(gqE_none hg).2, by rw [(gqE_none hg).1, HG.out.2]⟩
            clear hg
            go_wp2_with fail
            obtain ⟨e1, e2, e3⟩ := HEND.out wz (zeroQ 0) 190 HSZ.out HPZ.out HGN.out.1 HGN.out.2
            refine bodyPost_ret (v := .tuple #[.agg (rqV (zeroQ 0)), .int .i64 190]) (by rw [results_c2 (p := 2) (b := 3) (ty := 24) rfl _ _ _ _ _ ⟨p, 0, none⟩ _ rfl (loadQ e1)]; rfl) rfl ?_
            exact ⟨e2, e3⟩
          | false =>
            by_cases hy : yz = []
            · have hL0 : L = 0 := by rw [HL.out, hy]; rfl
              have hg : gotQ (b :: y) = some q := by
                rcases HOR.out with h | h
                · exact absurd h.1 (by decide)
                · rw [h.2, hy]; rfl
              have HGN := hid (gqE_some hg)
              subst hL0
              clear hg hy
              go_wp2_with fail
              obtain ⟨e1, e2, e3⟩ := HEND.out wz q 0 HSZ.out HPZ.out HGN.out.2 HGN.out.1
              refine bodyPost_ret (v := .tuple #[.agg (rqV q), .int .i64 0]) (by rw [results_c2 (p := 2) (b := 3) (ty := 24) rfl _ _ _ _ _ ⟨p, 0, none⟩ _ rfl (loadQ e1)]; rfl) rfl ?_
              exact ⟨e2, e3⟩
            · have hL0 : 0 < L := by rw [HL.out]; exact List.length_pos_iff.2 hy
              have l1 : decide ((0 : Int) < (L : Int)) = true := by simp; omega
              have l2 : decide (0 < L) = true := by simp; omega
              have hg : gotQ (b :: y) = none := by
                rcases HOR.out with h | h
                · exact absurd h.1 (by decide)
                · rw [h.2]; show (if yz = [] then _ else _) = _; rw [if_neg hy]
              have HGN : Hid (gqV (b :: y) = zeroQ 0 ∧ gqE (b :: y) = 190) := hid ⟨(gqE_none hg).2, by rw [(gqE_none hg).1, HG.out.2]⟩
              clear hg hy hL0
              go_wp2_with fail
              obtain ⟨e1, e2, e3⟩ := HEND.out wz (zeroQ 0) 190 HSZ.out HPZ.out HGN.out.1 HGN.out.2
              refine bodyPost_ret (v := .tuple #[.agg (rqV (zeroQ 0)), .int .i64 190]) (by rw [results_c2 (p := 2) (b := 3) (ty := 24) rfl _ _ _ _ _ ⟨p, 0, none⟩ _ rfl (loadQ e1)]; rfl) rfl ?_
              exact ⟨e2, e3⟩
        · -- Import
          have HX0 : Hid (GI w.heap.size wd rb cb 24 (zeroQ (b : Nat)).cs [.num 1, .txt 2 255, .txt 4 16384] (gotQ (b :: y)) finQ) := hid (by rw [← hL]; exact HRC.out)
          have HK0 : Hid (Kept (fun k => k = cb ∨ k = rb) wd wd) := hid (Kept.refl _ _)
          obtain rfl : f1 = true := by rw [HFF.out.1]; unfold hasQ; rw [hL]; rfl
          obtain rfl : f2 = true := by rw [HFF.out.2.1]; unfold hasQ; rw [hL]; rfl
          obtain rfl : f3 = false := by rw [HFF.out.2.2.1]; unfold hasQ; rw [hL]; rfl
          obtain rfl : f4 = true := by rw [HFF.out.2.2.2.1]; unfold hasQ; rw [hL]; rfl
          obtain rfl : f5 = false := by rw [HFF.out.2.2.2.2.1]; unfold hasQ; rw [hL]; rfl
          obtain rfl : f6 = false := by rw [HFF.out.2.2.2.2.2.1]; unfold hasQ; rw [hL]; rfl
          obtain rfl : f7 = false := by rw [HFF.out.2.2.2.2.2.2]; unfold hasQ; rw [hL]; rfl
          clear hL
          go_wp2_with fail
          refine (HX0.out.num ⟨_, rfl⟩ HCB.out.1 HCB.out.2.2.2.2.2.1).mono ?_
          rintro e v0 ⟨V, o, rfl, hc, hz, hgi, hkk⟩
          obtain ⟨x0, hx0⟩ : ∃ X, X = v0.setCell ⟨rb, 1, none⟩ (.int .i64 (V : Nat)) := ⟨_, rfl⟩
          rw [← hx0] at hgi hkk
          have HX1 := hid hgi
          have HK1 : Hid (Kept (fun k => k = cb ∨ k = rb) wd x0) := hid (Kept.trans HK0.out hkk (fun _ _ f => f) (fun _ _ f => f))
          obtain ⟨g0, g1, g2, g3, g4, g5, g6⟩ := (HFB.out.kept HK1.out (by have := HCB.out; omega)).sevenE
          clear hgi hkk
          go_upto_region 10 with fail
          rw [← hx0]
          clear hx0 hc hz
          go_wp2_with fail
          refine (HX1.out.txt ⟨⟨_, rfl⟩, by decide⟩ HCB.out.1 HCB.out.2.2.2.2.2.1).mono ?_
          rintro e v1 ⟨V, o, rfl, hc, hz, hgi, hkk⟩
          obtain ⟨x1, hx1⟩ : ∃ X, X = v1.setCell ⟨rb, 2, none⟩ (.string V) := ⟨_, rfl⟩
          rw [← hx1] at hgi hkk
          have HX2 := hid hgi
          have HK2 : Hid (Kept (fun k => k = cb ∨ k = rb) wd x1) := hid (Kept.trans HK1.out hkk (fun _ _ f => f) (fun _ _ f => f))
          obtain ⟨g0, g1, g2, g3, g4, g5, g6⟩ := (HFB.out.kept HK2.out (by have := HCB.out; omega)).sevenE
          clear hgi hkk
          go_upto_region 12 with fail
          rw [← hx1]
          clear hx1 hc hz
          go_wp2_with fail
          refine (HX2.out.txt ⟨⟨_, rfl⟩, by decide⟩ HCB.out.1 HCB.out.2.2.2.2.2.1).mono ?_
          rintro e v2 ⟨V, o, rfl, hc, hz, hgi, hkk⟩
          obtain ⟨x2, hx2⟩ : ∃ X, X = v2.setCell ⟨rb, 4, none⟩ (.string V) := ⟨_, rfl⟩
          rw [← hx2] at hgi hkk
          have HX3 := hid hgi
          have HK3 : Hid (Kept (fun k => k = cb ∨ k = rb) wd x2) := hid (Kept.trans HK2.out hkk (fun _ _ f => f) (fun _ _ f => f))
          obtain ⟨g0, g1, g2, g3, g4, g5, g6⟩ := (HFB.out.kept HK3.out (by have := HCB.out; omega)).sevenE
          clear hgi hkk
          go_upto_region 16 with fail
          rw [← hx2]
          clear hx2 hc hz
          go_upto_region 21 with fail
          obtain ⟨wz, hwz⟩ : ∃ X, X = x2 := ⟨_, rfl⟩
          have HZ : Hid (GI w.heap.size wz rb cb 24 (zeroQ (b : Nat)).cs [] (gotQ (b :: y)) finQ) := hid (by rw [hwz]; exact HX3.out)
          have HKZ : Hid (Kept (fun k => k = cb ∨ k = rb) wd wz) := hid (by rw [hwz]; exact HK3.out)
          rw [← hwz]
          clear hwz
          obtain ⟨cs, yz, bad, az, capz, hob, hal, _, hct, hor⟩ := HZ.out
          have hcs := alike_rq hal
          obtain ⟨q, hq⟩ : ∃ q, q = rqOf cs := ⟨_, rfl⟩
          rw [← hq] at hcs
          rw [hcs] at hob hor
          have HOR := hid hor
          have HPZ := hid (HBC.out.kept HKZ.out (by have := HCB.out; omega))
          have HSZ : Hid (Same w wz) := hid (Same.then HKC.out HKZ.out (fun x hx e => by have := HCB.out; omega))
          obtain ⟨d0, d1, _, _⟩ := hct.blk.two
          obtain ⟨s0, s1, s2, s3, s4, s5, s6, s7⟩ := hob.eight
          obtain ⟨t0, t1, t2, t3, t4, t5, t6, t7⟩ := HPZ.out.eight
          have z0 := HPZ.out.frozen 0
          have z1 := HPZ.out.frozen 1
          have z2 := HPZ.out.frozen 2
          have z3 := HPZ.out.frozen 3
          have z4 := HPZ.out.frozen 4
          have z5 := HPZ.out.frozen 5
          have z6 := HPZ.out.frozen 6
          have z7 := HPZ.out.frozen 7
          obtain ⟨L, hL⟩ : ∃ L, L = yz.length := ⟨_, rfl⟩
          rw [← hL] at d0
          have HL := hid hL
          clear hob hal hct hor hcs hq hL g0 g1 g2 g3 g4 g5 g6
          cases bad with
          | true =>
            have hg : gotQ (b :: y) = none := by rcases HOR.out with h | h; exact h.2; exact absurd h.1 (by decide)
            have HGN : Hid (gqV (b :: y) = zeroQ 0 ∧ gqE (b :: y) = 190) := hid ⟨(gqE_none hg).2, by rw [(gqE_none hg).1, HG.out.2]⟩
            clear hg
            go_wp2_with fail
            obtain ⟨e1, e2, e3⟩ := HEND.out wz (zeroQ 0) 190 HSZ.out HPZ.out HGN.out.1 HGN.out.2
            refine bodyPost_ret (v := .tuple #[.agg (rqV (zeroQ 0)), .int .i64 190]) (by rw [results_c2 (p := 2) (b := 3) (ty := 24) rfl _ _ _ _ _ ⟨p, 0, none⟩ _ rfl (loadQ e1)]; rfl) rfl ?_
            exact ⟨e2, e3⟩
          | false =>
            by_cases hy : yz = []
            · have hL0 : L = 0 := by rw [HL.out, hy]; rfl
              have hg : gotQ (b :: y) = some q := by
                rcases HOR.out with h | h
                · exact absurd h.1 (by decide)
                · rw [h.2, hy]; rfl
              have HGN := hid (gqE_some hg)
              subst hL0
              clear hg hy
              go_wp2_with fail
              obtain ⟨e1, e2, e3⟩ := HEND.out wz q 0 HSZ.out HPZ.out HGN.out.2 HGN.out.1
              refine bodyPost_ret (v := .tuple #[.agg (rqV q), .int .i64 0]) (by rw [results_c2 (p := 2) (b := 3) (ty := 24) rfl _ _ _ _ _ ⟨p, 0, none⟩ _ rfl (loadQ e1)]; rfl) rfl ?_
              exact ⟨e2, e3⟩
            · have hL0 : 0 < L := by rw [HL.out]; exact List.length_pos_iff.2 hy
              have l1 : decide ((0 : Int) < (L : Int)) = true := by simp; omega
              have l2 : decide (0 < L) = true := by simp; omega
              have hg : gotQ (b :: y) = none := by
                rcases HOR.out with h | h
                · exact absurd h.1 (by decide)
                · rw [h.2]; show (if yz = [] then _ else _) = _; rw [if_neg hy]
              have HGN : Hid (gqV (b :: y) = zeroQ 0 ∧ gqE (b :: y) = 190) := hid ⟨(gqE_none hg).2, by rw [(gqE_none hg).1, HG.out.2]⟩
              clear hg hy hL0
              go_wp2_with fail
              obtain ⟨e1, e2, e3⟩ := HEND.out wz (zeroQ 0) 190 HSZ.out HPZ.out HGN.out.1 HGN.out.2
              refine bodyPost_ret (v := .tuple #[.agg (rqV (zeroQ 0)), .int .i64 190]) (by rw [results_c2 (p := 2) (b := 3) (ty := 24) rfl _ _ _ _ _ ⟨p, 0, none⟩ _ rfl (loadQ e1)]; rfl) rfl ?_
              exact ⟨e2, e3⟩
        · -- none
          have HX0 : Hid (GI w.heap.size wd rb cb 24 (zeroQ (b : Nat)).cs [] (gotQ (b :: y)) finQ) := hid (by rw [← hL]; exact HRC.out)
          have HK0 : Hid (Kept (fun k => k = cb ∨ k = rb) wd wd) := hid (Kept.refl _ _)
          obtain rfl : f1 = false := by rw [HFF.out.1]; unfold hasQ; rw [hL]; rfl
          obtain rfl : f2 = false := by rw [HFF.out.2.1]; unfold hasQ; rw [hL]; rfl
          obtain rfl : f3 = false := by rw [HFF.out.2.2.1]; unfold hasQ; rw [hL]; rfl
          obtain rfl : f4 = false := by rw [HFF.out.2.2.2.1]; unfold hasQ; rw [hL]; rfl
          obtain rfl : f5 = false := by rw [HFF.out.2.2.2.2.1]; unfold hasQ; rw [hL]; rfl
          obtain rfl : f6 = false := by rw [HFF.out.2.2.2.2.2.1]; unfold hasQ; rw [hL]; rfl
          obtain rfl : f7 = false := by rw [HFF.out.2.2.2.2.2.2]; unfold hasQ; rw [hL]; rfl
          clear hL
          go_upto_region 21 with fail
          obtain ⟨wz, hwz⟩ : ∃ X, X = wd := ⟨_, rfl⟩
          have HZ : Hid (GI w.heap.size wz rb cb 24 (zeroQ (b : Nat)).cs [] (gotQ (b :: y)) finQ) := hid (by rw [hwz]; exact HX0.out)
          have HKZ : Hid (Kept (fun k => k = cb ∨ k = rb) wd wz) := hid (by rw [hwz]; exact HK0.out)
          rw [← hwz]
          clear hwz
          obtain ⟨cs, yz, bad, az, capz, hob, hal, _, hct, hor⟩ := HZ.out
          have hcs := alike_rq hal
          obtain ⟨q, hq⟩ : ∃ q, q = rqOf cs := ⟨_, rfl⟩
          rw [← hq] at hcs
          rw [hcs] at hob hor
          have HOR := hid hor
          have HPZ := hid (HBC.out.kept HKZ.out (by have := HCB.out; omega))
          have HSZ : Hid (Same w wz) := hid (Same.then HKC.out HKZ.out (fun x hx e => by have := HCB.out; omega))
          obtain ⟨d0, d1, _, _⟩ := hct.blk.two
          obtain ⟨s0, s1, s2, s3, s4, s5, s6, s7⟩ := hob.eight
          obtain ⟨t0, t1, t2, t3, t4, t5, t6, t7⟩ := HPZ.out.eight
          have z0 := HPZ.out.frozen 0
          have z1 := HPZ.out.frozen 1
          have z2 := HPZ.out.frozen 2
          have z3 := HPZ.out.frozen 3
          have z4 := HPZ.out.frozen 4
          have z5 := HPZ.out.frozen 5
          have z6 := HPZ.out.frozen 6
          have z7 := HPZ.out.frozen 7
          obtain ⟨L, hL⟩ : ∃ L, L = yz.length := ⟨_, rfl⟩
          rw [← hL] at d0
          have HL := hid hL
          clear hob hal hct hor hcs hq hL g0 g1 g2 g3 g4 g5 g6
          cases bad with
          | true =>
            have hg : gotQ (b :: y) = none := by rcases HOR.out with h | h; exact h.2; exact absurd h.1 (by decide)
            have HGN : Hid (gqV (b :: y) = zeroQ 0 ∧ gqE (b :: y) = 190) := hid ⟨(gqE_none hg).2, by rw [(gqE_none hg).1, HG.out.2]⟩
            clear hg
            go_wp2_with fail
            obtain ⟨e1, e2, e3⟩ := HEND.out wz (zeroQ 0) 190 HSZ.out HPZ.out HGN.out.1 HGN.out.2
            refine bodyPost_ret (v := .tuple #[.agg (rqV (zeroQ 0)), .int .i64 190]) (by rw [results_c2 (p := 2) (b := 3) (ty := 24) rfl _ _ _ _ _ ⟨p, 0, none⟩ _ rfl (loadQ e1)]; rfl) rfl ?_
            exact ⟨e2, e3⟩
          | false =>
            by_cases hy : yz = []
            · have hL0 : L = 0 := by rw [HL.out, hy]; rfl
              have hg : gotQ (b :: y) = some q := by
                rcases HOR.out with h | h
                · exact absurd h.1 (by decide)
                · rw [h.2, hy]; rfl
              have HGN := hid (gqE_some hg)
              subst hL0
              clear hg hy
              go_wp2_with fail
              obtain ⟨e1, e2, e3⟩ := HEND.out wz q 0 HSZ.out HPZ.out HGN.out.2 HGN.out.1
              refine bodyPost_ret (v := .tuple #[.agg (rqV q), .int .i64 0]) (by rw [results_c2 (p := 2) (b := 3) (ty := 24) rfl _ _ _ _ _ ⟨p, 0, none⟩ _ rfl (loadQ e1)]; rfl) rfl ?_
              exact ⟨e2, e3⟩
            · have hL0 : 0 < L := by rw [HL.out]; exact List.length_pos_iff.2 hy
              have l1 : decide ((0 : Int) < (L : Int)) = true := by simp; omega
              have l2 : decide (0 < L) = true := by simp; omega
              have hg : gotQ (b :: y) = none := by
                rcases HOR.out with h | h
                · exact absurd h.1 (by decide)
                · rw [h.2]; show (if yz = [] then _ else _) = _; rw [if_neg hy]
              have HGN : Hid (gqV (b :: y) = zeroQ 0 ∧ gqE (b :: y) = 190) := hid ⟨(gqE_none hg).2, by rw [(gqE_none hg).1, HG.out.2]⟩
              clear hg hy hL0
              go_wp2_with fail
              obtain ⟨e1, e2, e3⟩ := HEND.out wz (zeroQ 0) 190 HSZ.out HPZ.out HGN.out.1 HGN.out.2
              refine bodyPost_ret (v := .tuple #[.agg (rqV (zeroQ 0)), .int .i64 190]) (by rw [results_c2 (p := 2) (b := 3) (ty := 24) rfl _ _ _ _ _ ⟨p, 0, none⟩ _ rfl (loadQ e1)]; rfl) rfl ?_
              exact ⟨e2, e3⟩

end Go.Proofs.Ytaefgnakdadgeaa
