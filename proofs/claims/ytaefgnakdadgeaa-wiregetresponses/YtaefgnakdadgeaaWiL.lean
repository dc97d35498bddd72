/-
  Layer 19: a request read.
-/
import Derived.Test.YtaefgnakdadgeaaWiK
namespace Go.Proofs.Ytaefgnakdadgeaa
open Go.RowKit

/-- Bytes that come in. -/
structure In19 (w : World) (a : Option Addr) (n cap : Nat) (r : List Nat) : Prop where
  src : Src w (fun k => k < w.heap.size) (.slice a n cap) r
  room : n ≤ cap
  len : r.length ≤ 2000000
  byte : ∀ b ∈ r, b < 256

theorem In19.n {w : World} {a : Option Addr} {n cap : Nat} {r : List Nat} (h : In19 w a n cap r) : n = r.length := by
  obtain ⟨_, _, e, _⟩ := h.src
  simp only [Value.slice.injEq] at e
  exact e.2.1

theorem In19.some {w : World} {a : Option Addr} {n cap : Nat} {r : List Nat} (h : In19 w a n cap r) (hr : r ≠ []) : a ≠ none := by
  obtain ⟨ao, _, e, h2⟩ := h.src
  simp only [Value.slice.injEq] at e
  obtain ⟨b, o, h3, _⟩ := h2 hr
  rw [e.1, h3]
  exact fun h => by cases h

theorem In19.kept {w w' : World} {a : Option Addr} {n cap : Nat} {r : List Nat} (h : In19 w a n cap r) (hk : Same w w') : In19 w' a n cap r :=
  ⟨by
    obtain ⟨ao, c, e, h2⟩ := h.src.kept hk (fun _ _ _ f => f)
    exact ⟨ao, c, e, fun hne => by obtain ⟨b, o, h3, h4, h5⟩ := h2 hne; exact ⟨b, o, h3, Nat.lt_of_lt_of_le h4 hk.size, h5⟩⟩, h.room, h.len, h.byte⟩

/-- A cursor over bytes that come in. -/
theorem In19.cur {w W : World} {a : Option Addr} {n cap : Nat} {r : List Nat} (h : In19 w a n cap r) (hk : Same w W) (hr : r ≠ []) : Cu19 w.heap.size (W.alloc (.cells #[.slice a n cap] 89)) W.heap.size r a cap := by
  have hn := h.n
  have hk2 : Same w (W.alloc (.cells #[.slice a n cap] 89)) := hk.alloc _
  refine ⟨by rw [← hn]; exact Blk.new W _ _, ?_, by rw [← hn]; exact h.room, hk.size, h.byte, h.len, h.some hr⟩
  rw [← hn]
  exact h.src.kept hk2 (fun _ _ _ f => f)

def zeroQ (k : Int) : Rq := ⟨k, 0, ⟨#[]⟩, ⟨#[]⟩, ⟨#[]⟩, 0, 0, ⟨#[]⟩⟩

/-- Cells as a request. -/
def rqOf : List Cel → Rq
  | [.n k, .n x, .s a, .s e, .s d, .n f, .n m, .s o] => ⟨k, x, a, e, d, f, m, o⟩
  | _ => zeroQ 0

theorem rqOf_cs (q : Rq) : rqOf q.cs = q := rfl

theorem alike_rq {q : Rq} {cs : List Cel} (h : Alike q.cs cs) : cs = (rqOf cs).cs := by
  obtain ⟨hl, hi⟩ := h
  match cs, hl with
  | [c0, c1, c2, c3, c4, c5, c6, c7], _ =>
    obtain ⟨y0, h0⟩ := (hi 0).1 q.k rfl
    obtain ⟨y1, h1⟩ := (hi 1).1 q.x rfl
    obtain ⟨y2, h2⟩ := (hi 2).2 q.a rfl
    obtain ⟨y3, h3⟩ := (hi 3).2 q.e rfl
    obtain ⟨y4, h4⟩ := (hi 4).2 q.d rfl
    obtain ⟨y5, h5⟩ := (hi 5).1 q.f rfl
    obtain ⟨y6, h6⟩ := (hi 6).1 q.m rfl
    obtain ⟨y7, h7⟩ := (hi 7).2 q.o rfl
    simp only [List.getElem?_cons_zero, List.getElem?_cons_succ, Option.some.injEq] at h0 h1 h2 h3 h4 h5 h6 h7
    subst h0 h1 h2 h3 h4 h5 h6 h7
    rfl

theorem readL_alike (l : List Fd) {cs cs' : List Cel} {r y : List Nat} (hf : ∀ f ∈ l, f.fits cs) (h : readL l cs r = some (cs', y)) : Alike cs cs' := by
  induction l generalizing cs r with
  | nil => simp only [readL, Option.some.injEq, Prod.mk.injEq] at h; rw [← h.1]; exact Alike.refl _
  | cons f t ih =>
    simp only [readL] at h
    cases h1 : readF cs f r with
    | none => rw [h1] at h; cases h
    | some q =>
      rw [h1] at h
      have ha := readF_alike (hf f (List.mem_cons_self ..)) h1
      exact ha.trans (ih (fun g hg => (hf g (List.mem_cons_of_mem _ hg)).alike ha) h)

/-- The request that bytes are. -/
def gotQ : List Nat → Option Rq
  | [] => none
  | b :: y => if okK (b : Nat) = true then bnd8 (readL (fdQ (b : Nat)) (zeroQ (b : Nat)).cs y) (fun p => if p.2 = [] then some (rqOf p.1) else none) else none

def gerrN : List Nat → Nat
  | [] => 190
  | b :: _ => if okK (b : Nat) = true then 190 else 191

/-- What reading a request tells. -/
def ReqA (w w' : World) (r : List Nat) (e : Ending) : Prop := (∀ q, gotQ r = some q → e = .returned (.agg (rqV q))) ∧ (gotQ r = none → e = pan19 (gerrN r)) ∧ Same w w'

theorem Try.sizeReq : (Try.prog.info? 24).map (·.size) = some 8 := by kernel_rfl

theorem loadQ {W : World} {g : Nat} {q : Rq} {ty : TypeId} (hb : Ob W g ty q.cs) : (loadVar 24 ⟨g, 0, none⟩).run Try.prog W = .ok (.agg (rqV q)) W :=
  run_load15 24 8 _ Try.underlying24 rfl Try.sizeReq hb (rqV q).toList rfl rfl

theorem set8q {w : World} {g : Nat} {q : Rq} {z0 z1 z2 z3 z4 z5 z6 z7 : Value} {t : TypeId} (hb : Blk w g #[z0, z1, z2, z3, z4, z5, z6, z7] t) :
    Ob ((((((((w.setCell ⟨g, 0, none⟩ (.int .i64 q.k)).setCell ⟨g, 1, none⟩ (.int .i64 q.x)).setCell ⟨g, 2, none⟩ (.string q.a)).setCell ⟨g, 3, none⟩ (.string q.e)).setCell ⟨g, 4, none⟩ (.string q.d)).setCell ⟨g, 5, none⟩ (.int .i64 q.f)).setCell ⟨g, 6, none⟩ (.int .i64 q.m)).setCell ⟨g, 7, none⟩ (.string q.o)) g t q.cs ∧ Kept (· = g) w ((((((((w.setCell ⟨g, 0, none⟩ (.int .i64 q.k)).setCell ⟨g, 1, none⟩ (.int .i64 q.x)).setCell ⟨g, 2, none⟩ (.string q.a)).setCell ⟨g, 3, none⟩ (.string q.e)).setCell ⟨g, 4, none⟩ (.string q.d)).setCell ⟨g, 5, none⟩ (.int .i64 q.f)).setCell ⟨g, 6, none⟩ (.int .i64 q.m)).setCell ⟨g, 7, none⟩ (.string q.o)) := by
  refine ⟨?_, (((((((((Kept.refl (· = g) w).setCell _ _ (.inl rfl)).setCell _ _ (.inl rfl)).setCell _ _ (.inl rfl)).setCell _ _ (.inl rfl)).setCell _ _ (.inl rfl)).setCell _ _ (.inl rfl)).setCell _ _ (.inl rfl)).setCell _ _ (.inl rfl))⟩
  have h9 := (((((((hb.set 0 (.int .i64 q.k)).set 1 (.int .i64 q.x)).set 2 (.string q.a)).set 3 (.string q.e)).set 4 (.string q.d)).set 5 (.int .i64 q.f)).set 6 (.int .i64 q.m)).set 7 (.string q.o)
  show Blk _ _ (rqV q) _
  unfold rqV
  simpa using h9

theorem nm8_one (b : Nat) (y : List Nat) : nm8 1 (b :: y) = some (b, y) := by
  unfold nm8 tk8
  simp [n256]

set_option maxRecDepth 100000 in
set_option maxHeartbeats 1000000 in
theorem readreq_any (w : World) (a : Option Addr) (n cap : Nat) (r : List Nat) (h : In19 w a n cap r) :
    Calls Try.prog 35 #[.slice a n cap] w fun e w' => ReqA w w' r e := by
  obtain ⟨W1, hW1⟩ : ∃ W, W = w.alloc (.cells #[.int .i64 0, .int .i64 0, .string ⟨#[]⟩, .string ⟨#[]⟩, .string ⟨#[]⟩, .int .i64 0, .int .i64 0, .string ⟨#[]⟩] 24) := ⟨_, rfl⟩
  obtain ⟨p, hp⟩ : ∃ b, b = w.heap.size := ⟨_, rfl⟩
  have HK1 : Hid (Same w W1) := hid (by rw [hW1]; exact (Kept.refl _ w).alloc _)
  have HB1 : Hid (Ob W1 p 24 (zeroQ 0).cs) := hid (by rw [hW1, hp]; exact Blk.new w (rqV (zeroQ 0)) _)
  have HPN : Hid (w.heap.size ≤ p) := hid (by omega)
  obtain ⟨W2, hW2⟩ : ∃ W, W = W1.alloc (.cells #[.slice a n cap] 89) := ⟨_, rfl⟩
  obtain ⟨c, hc⟩ : ∃ b, b = W1.heap.size := ⟨_, rfl⟩
  have HK2 : Hid (Same w W2) := hid (by rw [hW2]; exact HK1.out.alloc _)
  have HB2 : Hid (Ob W2 p 24 (zeroQ 0).cs) := hid (by rw [hW2]; exact HB1.out.kept ((Kept.refl (fun _ => False) _).alloc _) (fun f => f))
  have HPC : Hid (p < c) := hid (by rw [hc]; exact HB1.out.lt)
  have HI := hid h
  have HC0 : Hid (r ≠ [] → Cu19 w.heap.size W2 c r a cap) := hid (fun hr => by rw [hW2, hc]; exact h.cur HK1.out hr)
  have HC1 : Hid (Blk W2 c #[.slice a n cap] 89) := hid (by rw [hW2, hc]; exact Blk.new W1 _ _)
  cases r with
  | nil =>
    have hn := h.n
    simp only [List.length_nil] at hn
    subst hn
    have HO := one19_none W2 c a cap HC1.out
    clear h
    go_enter Try.func35, Try.ntmps35
    go_upto_region 1 with fail
    rw [← hW1, ← hp]
    clear hW1 hp
    go_upto_region 2 with fail
    rw [← hW2, ← hc]
    clear hW2 hc
    go_wp2_with fail
    refine HO.mono ?_
    rintro e w3 ⟨rfl, hk3⟩
    have HK3 := hid (Same.trans HK2.out hk3)
    clear hk3 HO
    unfold pan19
    go_wp2_with fail
    exact ⟨rfl, fun q hq => (by cases hq), fun _ => rfl, HK3.out⟩
  | cons b y =>
    have hcu := HC0.out (by simp)
    have HO := one19_any w.heap.size W2 c (b :: y) a cap hcu
    have HPW : Hid (p < W2.heap.size) := hid HB2.out.lt
    clear h hcu
    go_enter Try.func35, Try.ntmps35
    go_upto_region 1 with fail
    rw [← hW1, ← hp]
    clear hW1 hp
    go_upto_region 2 with fail
    rw [← hW2, ← hc]
    clear hW2 hc
    obtain ⟨t0, t1, t2, t3, t4, t5, t6, t7⟩ := HB2.out.eight
    go_wp2_with fail
    refine HO.mono ?_
    intro e w3 h3
    obtain ⟨a3, cap3, rfl, _, hcu3, hk3⟩ := h3.1 b y (nm8_one b y)
    have HCU3 := hid hcu3
    have HB3 : Hid (Ob w3 p 24 (zeroQ 0).cs) := hid (HB2.out.kept hk3 (by have := HPC.out; omega))
    have HK3 : Hid (Kept (· = c) w w3) := hid (Kept.trans HK2.out hk3 (fun _ _ f => f.elim) (fun _ _ f => f))
    clear h3 hcu3 hk3 HO t0 t1 t2 t3 t4 t5 t6 t7
    obtain ⟨W4, hW4⟩ : ∃ W, W = w3.setCell ⟨p, 0, none⟩ (.int .i64 (b : Nat)) := ⟨_, rfl⟩
    have hk4 : Kept (· = p) w3 W4 := by rw [hW4]; exact (Kept.refl (· = p) w3).setCell _ _ (.inl rfl)
    have HB4 : Hid (Ob W4 p 24 (zeroQ (b : Nat)).cs) := hid (by rw [hW4]; exact HB3.out.set 0 (.n (b : Nat)))
    have HCU4 := hid (HCU3.out.kept hk4 (by have := HPC.out; omega) (fun k h1 e => by have := HPN.out; omega))
    have HK4 : Hid (Kept (fun k => k = c ∨ k = p) w W4) := hid (Kept.trans HK3.out hk4 (fun _ _ f => .inl f) (fun _ _ f => .inr f))
    have HIK := iskind19 W4 (b : Nat)
    obtain ⟨t0, _⟩ := HB3.out.eight
    have f0 := HB3.out.frozen 0
    have g0 := HB4.out.eight.1
    simp only [zeroQ] at g0
    clear hk4
    have HSM : Hid (∀ W, Kept (fun k => k = c ∨ k = p) w W → Same w W) := hid (fun W hk => hk.mono (fun k hlt f => by have h1 := HPN.out; have h2 := HPC.out; omega))
    cases hk0 : okK (b : Nat) with
    | false =>
      rw [hk0] at HIK
      have HKB := hid hk0
      have HND := need19_bad W4 191
      clear hk0
      go_upto_region 3 with fail
      rw [← hW4]
      clear hW4
      go_wp2_with fail
      refine HIK.mono ?_
      rintro e w5 ⟨rfl, hw5⟩
      subst hw5
      go_wp2_with fail
      refine HND.mono ?_
      rintro e w6 ⟨rfl, hw6⟩
      subst hw6
      unfold pan19
      go_wp2_with fail
      have hg1 : gotQ (b :: y) = none := by show (if okK (b : Nat) = true then _ else _) = _; rw [if_neg (by rw [HKB.out]; decide)]
      have hg2 : gerrN (b :: y) = 191 := by show (if okK (b : Nat) = true then _ else _) = _; rw [if_neg (by rw [HKB.out]; decide)]
      refine ⟨rfl, fun q hq => ?_, fun _ => ?_, HSM.out _ HK4.out⟩
      · rw [hg1] at hq
        cases hq
      · rw [hg2]
        rfl
    | true =>
      rw [hk0] at HIK
      have HKB := hid hk0
      have HND := need19_ok W4 (.int .i64 191)
      have HG : Hid (gotQ (b :: y) = bnd8 (readL (fdQ (b : Nat)) (zeroQ (b : Nat)).cs y) (fun p => if p.2 = [] then some (rqOf p.1) else none) ∧ gerrN (b :: y) = 190) := hid ⟨by show (if okK (b : Nat) = true then _ else _) = _; rw [if_pos hk0], by show (if okK (b : Nat) = true then _ else _) = _; rw [if_pos hk0]⟩
      have HF := reqf_any W4 p (zeroQ (b : Nat)) HB4.out
      clear hk0
      go_upto_region 3 with fail
      rw [← hW4]
      clear hW4
      go_wp2_with fail
      refine HIK.mono ?_
      rintro e w5 ⟨rfl, hw5⟩
      subst hw5
      go_wp2_with fail
      refine HND.mono ?_
      rintro e w6 ⟨rfl, hw6⟩
      subst hw6
      clear HIK HND
      go_wp2_with fail
      refine HF.mono ?_
      rintro e w7 ⟨ao, n7, c7, rfl, hs7, hk7⟩
      have HB7 := hid (HB4.out.kept hk7 (fun f => f))
      have HCU7 := hid (HCU4.out.kept hk7 (fun f => f) (fun _ _ f => f))
      have HK7 : Hid (Kept (fun k => k = c ∨ k = p) w w7) := hid (Kept.trans HK4.out hk7 (fun _ _ f => f) (fun _ _ f => f.elim))
      have HFI := wfill_any w.heap.size w7 c y a3 cap3 HCU7.out p _ (zeroQ (b : Nat)).cs HB7.out (by have := HPC.out; omega) HPN.out ao n7 c7 (fdQ (b : Nat)) (hs7.mono (fun k hk => by have := HPC.out; have := HCU4.out.blk.lt; omega)) (fdQ_fits _ _) (by have := fdQ_len (b : Nat); omega)
      clear hs7 hk7 HF g0
      cases hr : readL (fdQ (b : Nat)) (zeroQ (b : Nat)).cs y with
      | none =>
        have HR := hid hr
        clear hr
        go_wp2_with fail
        refine HFI.mono ?_
        intro e w8 h8
        obtain ⟨rfl, hk8⟩ := h8.2 HR.out
        have HK8 : Hid (Kept (fun k => k = c ∨ k = p) w w8) := hid (Kept.trans HK7.out hk8 (fun _ _ f => f) (fun _ _ f => f))
        clear h8 hk8 HFI
        unfold pan19
        go_wp2_with fail
        refine ⟨rfl, fun q hq => ?_, fun _ => ?_, HSM.out _ HK8.out⟩
        · rw [HG.out.1, HR.out] at hq
          cases hq
        · rw [HG.out.2]
          rfl
      | some g =>
        obtain ⟨cs', y'⟩ := g
        have HR := hid hr
        clear hr
        go_wp2_with fail
        refine HFI.mono ?_
        intro e w8 h8
        obtain ⟨rfl, a8, cap8, hcu8, ho8, hk8⟩ := h8.1 cs' y' HR.out
        have HK8 : Hid (Kept (fun k => k = c ∨ k = p) w w8) := hid (Kept.trans HK7.out hk8 (fun _ _ f => f) (fun _ _ f => f))
        have HO8 : Hid (Ob w8 p 24 (rqOf cs').cs) := hid (by rw [← alike_rq (readL_alike _ (fdQ_fits _ _) HR.out)]; exact ho8)
        have HEN := end19_any w.heap.size w8 c y' a8 cap8 hcu8
        clear h8 hk8 HFI hcu8 ho8
        by_cases hy : y' = []
        · have HY := hid hy
          clear hy
          go_wp2_with fail
          refine HEN.mono ?_
          rintro e w9 ⟨h1, h2, hk9⟩
          obtain rfl := h1 HY.out
          have HK9 : Hid (Kept (fun k => k = c ∨ k = p) w w9) := hid (Kept.trans HK8.out hk9 (fun _ _ f => f) (fun _ _ f => f.elim))
          have HO9 := hid (HO8.out.kept hk9 (fun f => f))
          have HQ : Hid (gotQ (b :: y) = some (rqOf cs')) := hid (by rw [HG.out.1, HR.out]; show (if y' = [] then _ else _) = _; rw [if_pos HY.out])
          obtain ⟨q, hq⟩ : ∃ q, q = rqOf cs' := ⟨_, rfl⟩
          rw [← hq] at HO9 HQ
          have hb9 : Blk w9 p #[.int .i64 q.k, .int .i64 q.x, .string q.a, .string q.e, .string q.d, .int .i64 q.f, .int .i64 q.m, .string q.o] 24 := HO9.out
          have HS9 := hid (set8q (q := q) hb9)
          obtain ⟨t0, t1, t2, t3, t4, t5, t6, t7⟩ := HO9.out.eight
          have z0 := HO9.out.frozen 0
          have z1 := HO9.out.frozen 1
          have z2 := HO9.out.frozen 2
          have z3 := HO9.out.frozen 3
          have z4 := HO9.out.frozen 4
          have z5 := HO9.out.frozen 5
          have z6 := HO9.out.frozen 6
          have z7 := HO9.out.frozen 7
          clear h1 h2 hk9 HEN hq hb9
          go_wp2_with fail
          refine bodyPost_ret (v := .agg (rqV q)) (results_c1 (p := 2) (ty := 24) rfl _ _ _ _ _ ⟨p, 0, none⟩ _ rfl (loadQ HS9.out.1)) rfl ?_
          refine ⟨fun q' hq' => ?_, fun hq' => ?_, HSM.out _ (Kept.trans HK9.out HS9.out.2 (fun _ _ f => f) (fun _ _ f => .inr f))⟩
          · rw [HQ.out] at hq'
            simp only [Option.some.injEq] at hq'
            rw [hq']
          · rw [HQ.out] at hq'
            cases hq'
        · have HY := hid hy
          clear hy
          go_wp2_with fail
          refine HEN.mono ?_
          rintro e w9 ⟨h1, h2, hk9⟩
          obtain rfl := h2 HY.out
          have HK9 : Hid (Kept (fun k => k = c ∨ k = p) w w9) := hid (Kept.trans HK8.out hk9 (fun _ _ f => f) (fun _ _ f => f.elim))
          clear h1 h2 hk9 HEN
          unfold pan19
          go_wp2_with fail
          refine ⟨rfl, fun q hq => ?_, fun _ => ?_, HSM.out _ HK9.out⟩
          · rw [HG.out.1, HR.out] at hq
            simp only [bnd8] at hq
            rw [if_neg HY.out] at hq
            cases hq
          · rw [HG.out.2]
            rfl

end Go.Proofs.Ytaefgnakdadgeaa
