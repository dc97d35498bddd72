/-
  Layer 19: a response read.
-/
import Derived.Test.YtaefgnakdadgeaaWiQ
namespace Go.Proofs.Ytaefgnakdadgeaa
open Go.RowKit

/-- Other cells stay. -/
def OKeep (a b : List Cel) : Prop := ∀ (i : Nat) (v : Value), a[i]? = some (Cel.o v) → b[i]? = some (Cel.o v)

theorem okeep_set {a : List Cel} {i : Nat} {y : Cel} (h : ∀ v, a[i]? ≠ some (.o v)) : OKeep a (a.set i y) := by
  intro j v hj
  by_cases e : i = j
  · subst e; exact absurd hj (h v)
  · rw [List.getElem?_set_ne e]; exact hj

theorem readF_okeep {cs cs' : List Cel} {f : Fd} {r y : List Nat} (hf : f.fits cs) (h : readF cs f r = some (cs', y)) : OKeep cs cs' := by
  cases f with
  | num i =>
    obtain ⟨x, hx⟩ := hf
    simp only [readF] at h
    cases h1 : nm8 4 r with
    | none => rw [h1] at h; cases h
    | some q =>
      rw [h1] at h
      simp only [bnd8] at h
      split at h
      · simp only [Option.some.injEq, Prod.mk.injEq] at h; rw [← h.1]; exact okeep_set (fun v e => by rw [hx] at e; simp at e)
      · cases h
  | txt i m =>
    obtain ⟨⟨x, hx⟩, _⟩ := hf
    simp only [readF] at h
    cases h1 : nm8 2 r with
    | none => rw [h1] at h; cases h
    | some q =>
      rw [h1] at h
      simp only [bnd8] at h
      split at h
      · cases h2 : tk8 q.1 q.2 with
        | none => rw [h2] at h; cases h
        | some s => rw [h2] at h; simp only [Option.some.injEq, Prod.mk.injEq] at h; rw [← h.1]; exact okeep_set (fun v e => by rw [hx] at e; simp at e)
      · cases h

theorem readL_okeep (l : List Fd) {cs cs' : List Cel} {r y : List Nat} (hf : ∀ f ∈ l, f.fits cs) (h : readL l cs r = some (cs', y)) : OKeep cs cs' := by
  induction l generalizing cs r with
  | nil => simp only [readL, Option.some.injEq, Prod.mk.injEq] at h; rw [← h.1]; exact fun _ _ h => h
  | cons f t ih =>
    simp only [readL] at h
    cases h1 : readF cs f r with
    | none => rw [h1] at h; cases h
    | some q =>
      rw [h1] at h
      have ha := readF_alike (hf f (List.mem_cons_self ..)) h1
      have ho := readF_okeep (hf f (List.mem_cons_self ..)) h1
      have h3 := ih (fun g hg => (hf g (List.mem_cons_of_mem _ hg)).alike ha) h
      exact fun i v hi => h3 i v (ho i v hi)

def zeroR (c : Int) : Rs := ⟨c, 0, 0, 0, ⟨#[]⟩, 0, 0⟩

/-- Cells as a response. -/
def rsOf : List Cel → Rs
  | [.n c, .n x, .n a, .n z, .s d, .o _, .n b, .n e] => ⟨c, x, a, z, d, b, e⟩
  | _ => zeroR 0

theorem alike_rs {r : Rs} {v : Value} {cs : List Cel} (h : Alike (r.cs v) cs) (ho : OKeep (r.cs v) cs) : cs = (rsOf cs).cs v := by
  obtain ⟨hl, hi⟩ := h
  match cs, hl with
  | [c0, c1, c2, c3, c4, c5, c6, c7], _ =>
    obtain ⟨y0, h0⟩ := (hi 0).1 r.c rfl
    obtain ⟨y1, h1⟩ := (hi 1).1 r.x rfl
    obtain ⟨y2, h2⟩ := (hi 2).1 r.a rfl
    obtain ⟨y3, h3⟩ := (hi 3).1 r.z rfl
    obtain ⟨y4, h4⟩ := (hi 4).2 r.d rfl
    have h5 := ho 5 v rfl
    obtain ⟨y6, h6⟩ := (hi 6).1 r.b rfl
    obtain ⟨y7, h7⟩ := (hi 7).1 r.e rfl
    simp only [List.getElem?_cons_zero, List.getElem?_cons_succ, Option.some.injEq] at h0 h1 h2 h3 h4 h5 h6 h7
    subst h0 h1 h2 h3 h4 h5 h6 h7
    rfl

abbrev nilV : Value := .slice none 0 0

/-- The response that bytes are. -/
def gotR (r : List Nat) : Option (Rs × List ByteArray) :=
  if r.length ≤ 20000 then bnd8 (nm8 2 r) fun q => bnd8 (readL fdR ((zeroR (q.1 : Nat)).cs nilV) q.2) fun p => bnd8 (readNm p.2) fun t => if t.2 = [] then some (rsOf p.1, t.1) else none
  else none

/-- What reading a response tells. -/
def ResA (w w' : World) (r : List Nat) (e : Ending) : Prop :=
  (∀ s L, gotR r = some (s, L) → ∃ ao n c, e = .returned (.agg (rsV s (.slice ao n c))) ∧ RowC w.heap.size 9 1 nsE w' (.slice ao n c) L) ∧ (gotR r = none → e = pan19 190) ∧ Same w w'

theorem ResA.bad {w w' : World} {r : List Nat} (h : gotR r = none) (hk : Same w w') : ResA w w' r (pan19 190) :=
  ⟨fun s L h9 => (by rw [h] at h9; cases h9), fun _ => rfl, hk⟩

theorem Try.sizeRes : (Try.prog.info? 40).map (·.size) = some 8 := by kernel_rfl

theorem loadR {W : World} {g : Nat} {q : Rs} {v : Value} {ty : TypeId} (hb : Ob W g ty (q.cs v)) : (loadVar 40 ⟨g, 0, none⟩).run Try.prog W = .ok (.agg (rsV q v)) W :=
  run_load15 40 8 _ Try.underlying40 rfl Try.sizeRes hb (rsV q v).toList rfl rfl

theorem set8r {w : World} {g : Nat} {q : Rs} {v : Value} {z0 z1 z2 z3 z4 z5 z6 z7 : Value} {t : TypeId} (hb : Blk w g #[z0, z1, z2, z3, z4, z5, z6, z7] t) :
    Ob ((((((((w.setCell ⟨g, 0, none⟩ (.int .i64 q.c)).setCell ⟨g, 1, none⟩ (.int .i64 q.x)).setCell ⟨g, 2, none⟩ (.int .i64 q.a)).setCell ⟨g, 3, none⟩ (.int .i64 q.z)).setCell ⟨g, 4, none⟩ (.string q.d)).setCell ⟨g, 5, none⟩ v).setCell ⟨g, 6, none⟩ (.int .i64 q.b)).setCell ⟨g, 7, none⟩ (.int .i64 q.e)) g t (q.cs v) ∧ Kept (· = g) w ((((((((w.setCell ⟨g, 0, none⟩ (.int .i64 q.c)).setCell ⟨g, 1, none⟩ (.int .i64 q.x)).setCell ⟨g, 2, none⟩ (.int .i64 q.a)).setCell ⟨g, 3, none⟩ (.int .i64 q.z)).setCell ⟨g, 4, none⟩ (.string q.d)).setCell ⟨g, 5, none⟩ v).setCell ⟨g, 6, none⟩ (.int .i64 q.b)).setCell ⟨g, 7, none⟩ (.int .i64 q.e)) := by
  refine ⟨?_, (((((((((Kept.refl (· = g) w).setCell _ _ (.inl rfl)).setCell _ _ (.inl rfl)).setCell _ _ (.inl rfl)).setCell _ _ (.inl rfl)).setCell _ _ (.inl rfl)).setCell _ _ (.inl rfl)).setCell _ _ (.inl rfl)).setCell _ _ (.inl rfl))⟩
  have h9 := (((((((hb.set 0 (.int .i64 q.c)).set 1 (.int .i64 q.x)).set 2 (.int .i64 q.a)).set 3 (.int .i64 q.z)).set 4 (.string q.d)).set 5 v).set 6 (.int .i64 q.b)).set 7 (.int .i64 q.e)
  show Blk _ _ (rsV q v) _
  unfold rsV
  simpa using h9

set_option maxRecDepth 100000 in
set_option maxHeartbeats 1000000 in
theorem readres_any (w : World) (a : Option Addr) (n cap : Nat) (r : List Nat) (h : In19 w a n cap r) :
    Calls Try.prog 43 #[.slice a n cap] w fun e w' => ResA w w' r e := by
  obtain ⟨W1, hW1⟩ : ∃ W, W = w.alloc (.cells #[.int .i64 0, .int .i64 0, .int .i64 0, .int .i64 0, .string ⟨#[]⟩, .slice none 0 0, .int .i64 0, .int .i64 0] 40) := ⟨_, rfl⟩
  obtain ⟨p, hp⟩ : ∃ b, b = w.heap.size := ⟨_, rfl⟩
  have HK1 : Hid (Same w W1) := hid (by rw [hW1]; exact (Kept.refl _ w).alloc _)
  have HB1 : Hid (Ob W1 p 40 ((zeroR 0).cs nilV)) := hid (by rw [hW1, hp]; exact Blk.new w (rsV (zeroR 0) nilV) _)
  have HPN : Hid (w.heap.size ≤ p) := hid (by omega)
  by_cases hlong : 20000 < n
  · have HG : Hid (gotR r = none) := hid (by unfold gotR; rw [if_neg (by have := h.n; omega)])
    have d1 : decide ((n : Int) ≤ 20000) = false := by simp; omega
    have d2 : decide (n ≤ 20000) = false := by simp; omega
    have HND := need19_bad W1 190
    clear h hlong
    go_enter Try.func43, Try.ntmps43
    go_upto_region 1 with fail
    rw [← hW1, ← hp]
    clear hW1 hp
    go_wp2_with fail
    refine HND.mono ?_
    rintro e w2 ⟨rfl, hw2⟩
    subst hw2
    unfold pan19
    go_wp2_with fail
    exact ⟨rfl, ResA.bad HG.out HK1.out⟩
  have d1 : decide ((n : Int) ≤ 20000) = true := by simp; omega
  have d2 : decide (n ≤ 20000) = true := by simp; omega
  have HG : Hid (gotR r = bnd8 (nm8 2 r) fun q => bnd8 (readL fdR ((zeroR (q.1 : Nat)).cs nilV) q.2) fun p => bnd8 (readNm p.2) fun t => if t.2 = [] then some (rsOf p.1, t.1) else none) := hid (by unfold gotR; rw [if_pos (by have := h.n; omega)])
  have HNO := need19_ok W1 (.int .i64 190)
  obtain ⟨W2, hW2⟩ : ∃ W, W = W1.alloc (.cells #[.slice a n cap] 89) := ⟨_, rfl⟩
  obtain ⟨c, hc⟩ : ∃ b, b = W1.heap.size := ⟨_, rfl⟩
  have HK2 : Hid (Same w W2) := hid (by rw [hW2]; exact HK1.out.alloc _)
  have HB2 : Hid (Ob W2 p 40 ((zeroR 0).cs nilV)) := hid (by rw [hW2]; exact HB1.out.kept ((Kept.refl (fun _ => False) _).alloc _) (fun f => f))
  have HPC : Hid (p < c) := hid (by rw [hc]; exact HB1.out.lt)
  have HC0 : Hid (r ≠ [] → Cu19 w.heap.size W2 c r a cap) := hid (fun hr => by rw [hW2, hc]; exact h.cur HK1.out hr)
  have HC1 : Hid (Blk W2 c #[.slice a n cap] 89) := hid (by rw [hW2, hc]; exact Blk.new W1 _ _)
  clear hlong
  by_cases hr : r = []
  · subst hr
    have hn := h.n
    simp only [List.length_nil] at hn
    subst hn
    have HO := two19_none W2 c a cap HC1.out
    have HGN : Hid (gotR [] = none) := hid (by rw [HG.out]; rfl)
    clear h
    go_enter Try.func43, Try.ntmps43
    go_upto_region 1 with fail
    rw [← hW1, ← hp]
    clear hW1 hp
    go_wp2_with fail
    refine HNO.mono ?_
    rintro e w2 ⟨rfl, hw2⟩
    subst hw2
    clear HNO
    go_upto_region 3 with fail
    rw [← hW2, ← hc]
    clear hW2 hc
    go_wp2_with fail
    refine HO.mono ?_
    rintro e w3 ⟨rfl, hk3⟩
    have HK3 := hid (Same.trans HK2.out hk3)
    clear hk3 HO
    unfold pan19
    go_wp2_with fail
    exact ⟨rfl, ResA.bad HGN.out HK3.out⟩
  · have HO := two19_any w.heap.size W2 c r a cap (HC0.out hr)
    have HSM : Hid (∀ W, Kept (fun k => k = c ∨ k = p) w W → Same w W) := hid (fun W hk => hk.mono (fun k hlt f => by have h1 := HPN.out; have h2 := HPC.out; omega))
    clear h hr
    go_enter Try.func43, Try.ntmps43
    go_upto_region 1 with fail
    rw [← hW1, ← hp]
    clear hW1 hp
    go_wp2_with fail
    refine HNO.mono ?_
    rintro e w2 ⟨rfl, hw2⟩
    subst hw2
    clear HNO
    go_upto_region 3 with fail
    rw [← hW2, ← hc]
    clear hW2 hc
    cases hm : nm8 2 r with
    | none =>
      have HM := hid hm
      clear hm
      go_wp2_with fail
      refine HO.mono ?_
      intro e w3 h3
      obtain ⟨rfl, hk3⟩ := h3.2 HM.out
      have HK3 := hid (Same.trans HK2.out hk3)
      clear h3 hk3 HO
      unfold pan19
      go_wp2_with fail
      exact ⟨rfl, ResA.bad (by rw [HG.out, HM.out]; rfl) HK3.out⟩
    | some g =>
      obtain ⟨b, y⟩ := g
      have HM := hid hm
      clear hm
      obtain ⟨t0, t1, t2, t3, t4, t5, t6, t7⟩ := HB2.out.eightR
      go_wp2_with fail
      refine HO.mono ?_
      intro e w3 h3
      obtain ⟨a3, cap3, rfl, _, hcu3, hk3⟩ := h3.1 b y HM.out
      have HCU3 := hid hcu3
      have HB3 : Hid (Ob w3 p 40 ((zeroR 0).cs nilV)) := hid (HB2.out.kept hk3 (by have := HPC.out; omega))
      have HK3 : Hid (Kept (· = c) w w3) := hid (Kept.trans HK2.out hk3 (fun _ _ f => f.elim) (fun _ _ f => f))
      clear h3 hcu3 hk3 HO t0 t1 t2 t3 t4 t5 t6 t7
      obtain ⟨W4, hW4⟩ : ∃ W, W = w3.setCell ⟨p, 0, none⟩ (.int .i64 (b : Nat)) := ⟨_, rfl⟩
      have hk4 : Kept (· = p) w3 W4 := by rw [hW4]; exact (Kept.refl (· = p) w3).setCell _ _ (.inl rfl)
      have HB4 : Hid (Ob W4 p 40 ((zeroR (b : Nat)).cs nilV)) := hid (by rw [hW4]; exact HB3.out.set 0 (.n (b : Nat)))
      have HCU4 := hid (HCU3.out.kept hk4 (by have := HPC.out; omega) (fun k h1 e => by have := HPN.out; omega))
      have HK4 : Hid (Kept (fun k => k = c ∨ k = p) w W4) := hid (Kept.trans HK3.out hk4 (fun _ _ f => .inl f) (fun _ _ f => .inr f))
      have HF := resf_any W4 p
      obtain ⟨t0, _⟩ := HB3.out.eightR
      have f0 := HB3.out.frozen 0
      clear hk4
      go_upto_region 4 with fail
      rw [← hW4]
      clear hW4
      go_wp2_with fail
      refine HF.mono ?_
      rintro e w7 ⟨ao, n7, c7, rfl, hs7, hk7⟩
      have HB7 := hid (HB4.out.kept hk7 (fun f => f))
      have HCU7 := hid (HCU4.out.kept hk7 (fun f => f) (fun _ _ f => f))
      have HK7 : Hid (Kept (fun k => k = c ∨ k = p) w w7) := hid (Kept.trans HK4.out hk7 (fun _ _ f => f) (fun _ _ f => f.elim))
      have HFI := wfill_any w.heap.size w7 c y a3 cap3 HCU7.out p _ ((zeroR (b : Nat)).cs nilV) HB7.out (by have := HPC.out; omega) HPN.out ao n7 c7 fdR (hs7.mono (fun k hk => by have := HPC.out; have := HCU4.out.blk.lt; omega)) (fdR_fits _ _) (by decide)
      clear hs7 hk7 HF t0 f0
      cases hr : readL fdR ((zeroR (b : Nat)).cs nilV) y with
      | none =>
        have HR := hid hr
        clear hr
        go_wp2_with fail
        refine HFI.mono ?_
        intro e w8 h8
        obtain ⟨rfl, hk8⟩ := h8.2 HR.out
        have HK8 : Hid (Kept (fun k => k = c ∨ k = p) w w8) := hid (Kept.trans HK7.out hk8 (fun _ _ f => f) (fun _ _ f => f))
        clear h8 hk8 HFI
        unfold pan19
        go_wp2_with fail
        exact ⟨rfl, ResA.bad (by rw [HG.out, HM.out]; show bnd8 (readL fdR _ y) _ = none; rw [HR.out]; rfl) (HSM.out _ HK8.out)⟩
      | some g =>
        obtain ⟨cs', y'⟩ := g
        have HR := hid hr
        clear hr
        go_wp2_with fail
        refine HFI.mono ?_
        intro e w8 h8
        obtain ⟨rfl, a8, cap8, hcu8, ho8, hk8⟩ := h8.1 cs' y' HR.out
        have HK8 : Hid (Kept (fun k => k = c ∨ k = p) w w8) := hid (Kept.trans HK7.out hk8 (fun _ _ f => f) (fun _ _ f => f))
        have HO8 : Hid (Ob w8 p 40 ((rsOf cs').cs nilV)) := hid (by rw [← alike_rs (readL_alike _ (fdR_fits _ _) HR.out) (readL_okeep _ (fdR_fits _ _) HR.out)]; exact ho8)
        have HNM := readnames_any w.heap.size w8 c y' a8 cap8 hcu8
        obtain ⟨q, hq⟩ : ∃ q, q = rsOf cs' := ⟨_, rfl⟩
        have HQ := hid hq
        rw [← hq] at HO8
        clear h8 hk8 HFI hcu8 ho8 hq
        cases hnm : readNm y' with
        | none =>
          have HN := hid hnm
          clear hnm
          go_wp2_with fail
          refine HNM.mono ?_
          intro e w9 h9
          obtain ⟨rfl, hk9⟩ := h9.2 HN.out
          have HK9 : Hid (Kept (fun k => k = c ∨ k = p) w w9) := hid (Kept.trans HK8.out hk9 (fun _ _ f => f) (fun _ _ f => .inl f))
          clear h9 hk9 HNM
          unfold pan19
          go_wp2_with fail
          exact ⟨rfl, ResA.bad (by rw [HG.out, HM.out]; show bnd8 (readL fdR _ y) _ = none; rw [HR.out]; show bnd8 (readNm y') _ = none; rw [HN.out]; rfl) (HSM.out _ HK9.out)⟩
        | some t =>
          obtain ⟨L, y2⟩ := t
          have HN := hid hnm
          have hszw : w.heap.size ≤ w8.heap.size := HK8.out.size
          have HSZ := hid hszw
          have HP8 : Hid (p < w8.heap.size) := hid HO8.out.lt
          clear hnm hszw
          go_wp2_with fail
          refine HNM.mono ?_
          intro e w9 h9
          obtain ⟨v9, a9, cap9, rfl, hrow9, hcu9, hk9⟩ := h9.1 L y2 HN.out
          obtain ⟨ra, rc, hv9, _⟩ := hrow9.shape
          obtain ⟨rn, hrn⟩ : ∃ k, k = L.length := ⟨_, rfl⟩
          rw [← hrn] at hv9
          subst hv9
          have HROW9 := hid hrow9
          have HCU9 := hid hcu9
          have HK9 : Hid (Kept (fun k => k = c ∨ k = p) w w9) := hid (Kept.trans HK8.out hk9 (fun _ _ f => f) (fun _ _ f => .inl f))
          have HO9 := hid (HO8.out.kept hk9 (by have := HPC.out; omega))
          clear h9 hk9 HNM hrow9 hcu9 hrn
          obtain ⟨W5, hW5⟩ : ∃ W, W = w9.setCell ⟨p, 5, none⟩ (.slice ra rn rc) := ⟨_, rfl⟩
          have hk5 : Kept (· = p) w9 W5 := by rw [hW5]; exact (Kept.refl (· = p) w9).setCell _ _ (.inl rfl)
          have HB5 : Hid (Ob W5 p 40 (q.cs (.slice ra rn rc))) := hid (by rw [hW5]; exact HO9.out.set 5 (.o (.slice ra rn rc)))
          have HCU5 := hid (HCU9.out.kept hk5 (by have := HPC.out; omega) (fun k h1 e => by have := HPN.out; omega))
          have HK5 : Hid (Kept (fun k => k = c ∨ k = p) w W5) := hid (Kept.trans HK9.out hk5 (fun _ _ f => f) (fun _ _ f => .inr f))
          have HROW5 := hid (HROW9.out.kept hk5 (fun k e f => by have h1 := HROW9.out.ge e; have h2 := HP8.out; omega))
          have HEN := end19_any w.heap.size W5 c y2 a9 cap9 HCU5.out
          obtain ⟨t0, t1, t2, t3, t4, t5, t6, t7⟩ := HO9.out.eightR
          have f5 := HO9.out.frozen 5
          clear hk5 t0 t1 t2 t3 t4 t6 t7
          go_upto_region 6 with fail
          rw [← hW5]
          clear hW5 t5 f5
          by_cases hy : y2 = []
          · have HY := hid hy
            clear hy
            go_wp2_with fail
            refine HEN.mono ?_
            rintro e w6 ⟨h1, h2, hk6⟩
            obtain rfl := h1 HY.out
            have HK6 : Hid (Kept (fun k => k = c ∨ k = p) w w6) := hid (Kept.trans HK5.out hk6 (fun _ _ f => f) (fun _ _ f => f.elim))
            have HO6 := hid (HB5.out.kept hk6 (fun f => f))
            have HROW6 := hid (HROW5.out.kept hk6 (fun _ _ f => f))
            have HGS : Hid (gotR r = some (q, L)) := hid (by rw [HG.out, HM.out]; show bnd8 (readL fdR _ y) _ = _; rw [HR.out]; show bnd8 (readNm y') _ = _; rw [HN.out]; show (if y2 = [] then _ else _) = _; rw [if_pos HY.out, HQ.out])
            have hb6 : Blk w6 p #[.int .i64 q.c, .int .i64 q.x, .int .i64 q.a, .int .i64 q.z, .string q.d, .slice ra rn rc, .int .i64 q.b, .int .i64 q.e] 40 := HO6.out
            have HS6 := hid (set8r (q := q) (v := .slice ra rn rc) hb6)
            obtain ⟨t0, t1, t2, t3, t4, t5, t6, t7⟩ := HO6.out.eightR
            have z0 := HO6.out.frozen 0
            have z1 := HO6.out.frozen 1
            have z2 := HO6.out.frozen 2
            have z3 := HO6.out.frozen 3
            have z4 := HO6.out.frozen 4
            have z5 := HO6.out.frozen 5
            have z6 := HO6.out.frozen 6
            have z7 := HO6.out.frozen 7
            clear h1 h2 hk6 HEN hb6
            go_wp2_with fail
            refine bodyPost_ret (v := .agg (rsV q (.slice ra rn rc))) (results_c1 (p := 2) (ty := 40) rfl _ _ _ _ _ ⟨p, 0, none⟩ _ rfl (loadR HS6.out.1)) rfl ?_
            refine ⟨fun s' L' hq' => ?_, fun hq' => ?_, HSM.out _ (Kept.trans HK6.out HS6.out.2 (fun _ _ f => f) (fun _ _ f => .inr f))⟩
            · rw [HGS.out] at hq'
              simp only [Option.some.injEq, Prod.mk.injEq] at hq'
              obtain ⟨rfl, rfl⟩ := hq'
              exact ⟨ra, rn, rc, rfl, (HROW6.out.kept HS6.out.2 (fun k e f => by have h1 := HROW9.out.ge e; have h2 := HP8.out; omega)).base HSZ.out⟩
            · rw [HGS.out] at hq'
              cases hq'
          · have HY := hid hy
            clear hy
            go_wp2_with fail
            refine HEN.mono ?_
            rintro e w6 ⟨h1, h2, hk6⟩
            obtain rfl := h2 HY.out
            have HK6 : Hid (Kept (fun k => k = c ∨ k = p) w w6) := hid (Kept.trans HK5.out hk6 (fun _ _ f => f) (fun _ _ f => f.elim))
            clear h1 h2 hk6 HEN
            unfold pan19
            go_wp2_with fail
            exact ⟨rfl, ResA.bad (by rw [HG.out, HM.out]; show bnd8 (readL fdR _ y) _ = none; rw [HR.out]; show bnd8 (readNm y') _ = none; rw [HN.out]; show (if y2 = [] then _ else _) = none; rw [if_neg HY.out]) (HSM.out _ HK6.out)⟩

end Go.Proofs.Ytaefgnakdadgeaa
