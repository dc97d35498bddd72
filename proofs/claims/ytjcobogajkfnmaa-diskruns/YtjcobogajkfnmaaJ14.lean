/-
  Of the proof: parts DkV, DkW, DkX, DkY, DkZ, DlA, DlB, DlC.
-/
import Derived.LaidEql
import Derived.Test.YtjcobogajkfnmaaJ13

/-
  Layer 9: a map of files to files (their twins).
-/
namespace Go.Proofs.Ytjcobogajkfnmaa
open Go.RowKit Go.Maps

/-- Pairs of a file and its twin. -/
abbrev Tws := List (Nat × Nat)

def ptV (f : Nat) : Value := .pointer (some ⟨f, 0, none⟩)

/-- The twin of a file. -/
def getT (f : Nat) (T : Tws) : Option Nat := (T.find? (fun p => decide (p.1 = f))).map (·.2)

def TwM (w : World) (b : Nat) (T : Tws) : Prop := ∃ es clock, w.heap[b]? = some (.map es clock) ∧ es.toList.map (fun e => (e.key, e.val)) = T.map (fun p => (ptV p.1, ptV p.2))

theorem TwM.lt {w : World} {b : Nat} {T : Tws} (h : TwM w b T) : b < w.heap.size := by
  obtain ⟨es, clock, h1, _⟩ := h
  exact (Array.getElem?_eq_some_iff.1 h1).1

theorem TwM.new (w : World) : TwM (w.alloc (.map #[] 0)) w.heap.size [] := ⟨#[], 0, (MapKept.heap_alloc w _).1, rfl⟩

theorem TwM.kept {F : Nat → Prop} {w w' : World} {b : Nat} {T : Tws} (h : TwM w b T) (hk : Kept F w w') (hF : ¬ F b) : TwM w' b T := by
  obtain ⟨es, clock, h1, h2⟩ := h
  refine ⟨es, clock, ?_, h2⟩
  rw [hk.block b (Array.getElem?_eq_some_iff.1 h1).1 hF]
  exact h1

/-- A block that is an object of cells. -/
def IsC (w : World) (f : Nat) : Prop := ∃ cs t, Blk w f cs t

theorem run_equalIn_pt (w : World) (d f g : Nat) (hf : IsC w f) (hg : IsC w g) : (Op.equalIn (d + 1) 70 (ptV f) (ptV g)).run Try.prog w = .ok (decide (f = g)) w := by
  have hu := Try.underlying70
  have hsz : ∀ w, (sizeOf 73).run Try.prog w = .ok 2 w := fun w => by kernel_rfl
  have hs : (sameAddr ⟨f, 0, none⟩ ⟨g, 0, none⟩).run Try.prog w = .ok (decide (f = g)) w := by
    by_cases e : f = g
    · subst e
      rw [run_sameAddr_same]
      simp
    · obtain ⟨c1, t1, h1⟩ := hf
      obtain ⟨c2, t2, h2⟩ := hg
      rw [run_sameAddr_other (a := ⟨f, 0, none⟩) (b := ⟨g, 0, none⟩) w (fun h => e (by cases h; rfl)) h1 h2, decide_eq_false e]
  unfold ptV
  simp [Op.equalIn, run_underlying hu, hsz, hs]

theorem run_equal_pt (w : World) (f g : Nat) (hf : IsC w f) (hg : IsC w g) : (Op.equal 70 (ptV f) (ptV g)).run Try.prog w = .ok (decide (f = g)) w := run_equalIn_pt w 9999 f g hf hg

theorem run_check_pt (w : World) (n f : Nat) (c : Bool) : (Instr.checkKey c (n + 1) 70 (ptV f)).run Try.prog w = .ok () w := by
  have hup := Try.underlying70
  unfold ptV
  simp [Instr.checkKey, run_underlying hup]

theorem run_asking (w : World) (f : Nat) (hf : IsC w f) : ∀ (es : List MapEntry) (T : Tws) (i : Nat), es.map (fun e => (e.key, e.val)) = T.map (fun p => (ptV p.1, ptV p.2)) → (∀ p ∈ T, IsC w p.1) →
    ∃ r, (Instr.findAsking 70 (ptV f) es i).run Try.prog w = .ok r w ∧ r.map (·.2) = (getT f T).map ptV := by
  intro es
  induction es with
  | nil =>
    intro T i h _
    cases T with
    | nil => exact ⟨none, rfl, rfl⟩
    | cons p T => simp at h
  | cons e es ih =>
    intro T i h hT
    cases T with
    | nil => simp at h
    | cons p T =>
      simp only [List.map_cons, List.cons.injEq, Prod.mk.injEq] at h
      have he := run_equal_pt w f p.1 hf (hT p List.mem_cons_self)
      unfold Instr.findAsking
      rw [h.1.1]
      by_cases hp : f = p.1
      · rw [decide_eq_true hp] at he
        refine ⟨some (i, e.val), ?_, ?_⟩
        · simp [he]
        · unfold getT
          rw [List.find?_cons_of_pos (by simp [hp])]
          simp [h.1.2]
      · obtain ⟨r, h1, h2⟩ := ih T (i + 1) h.2 (fun q hq => hT q (List.mem_cons_of_mem _ hq))
        rw [decide_eq_false hp] at he
        refine ⟨r, ?_, ?_⟩
        · simp [he, h1]
        · rw [h2]
          unfold getT
          rw [List.find?_cons_of_neg (by simp; exact fun e => hp e.symm)]

theorem run_findT (w : World) (f : Nat) (hf : IsC w f) (es : List MapEntry) (T : Tws) (h : es.map (fun e => (e.key, e.val)) = T.map (fun p => (ptV p.1, ptV p.2))) (hT : ∀ p ∈ T, IsC w p.1) :
    ∃ r, (Instr.findKey 70 (ptV f) es).run Try.prog w = .ok r w ∧ r.map (·.2) = (getT f T).map ptV := by
  have hu := Try.underlying70
  cases es with
  | nil =>
    cases T with
    | nil => exact ⟨none, by simp [Instr.findKey, run_underlying hu, Instr.findNow], rfl⟩
    | cons p T => simp at h
  | cons e es =>
    obtain ⟨r, h1, h2⟩ := run_asking w f hf (e :: es) T 0 h hT
    refine ⟨r, ?_, h2⟩
    have hn : Instr.findNow (.pointer 73) (ptV f) (e :: es) 0 = none := by
      unfold Instr.findNow Instr.sameNow ptV
      rfl
    simp [Instr.findKey, run_underlying hu, hn, h1]

/-- m[f]. -/
theorem TwM.look {w : World} {b : Nat} {T : Tws} (h : TwM w b T) (f : Nat) (hf : IsC w f) (hT : ∀ p ∈ T, IsC w p.1) : (Instr.lookup 69 (.map (some b)) (ptV f) false).run Try.prog w = .ok (match getT f T with | some t => ptV t | none => .pointer none) w := by
  obtain ⟨es, clock, h1, h2⟩ := h
  obtain ⟨r, h3, h4⟩ := run_findT w f hf es.toList T h2 hT
  have hz := zeroP w
  have hu := Try.underlying69
  have hck : ∀ c, (Instr.checkKey c 10000 70 (ptV f)).run Try.prog w = .ok () w := fun c => run_check_pt w 9999 f c
  cases r with
  | none =>
    have h5 : getT f T = none := by
      cases hg : getT f T with
      | none => rfl
      | some t => rw [hg] at h4; cases h4
    rw [h5]
    simp [Instr.lookup, run_underlying hu, MapKept.run_getObj_map h1, hck, h3, hz]
  | some x =>
    obtain ⟨i, v⟩ := x
    cases hg : getT f T with
    | none => rw [hg] at h4; cases h4
    | some t =>
      rw [hg] at h4
      simp only [Option.map_some, Option.some.injEq] at h4
      subst h4
      simp [Instr.lookup, run_underlying hu, MapKept.run_getObj_map h1, hck, h3]

/-- m[f] = t, where f has no twin yet. -/
theorem TwM.put {w : World} {b : Nat} {T : Tws} (h : TwM w b T) (f t : Nat) (hf : IsC w f) (hT : ∀ p ∈ T, IsC w p.1) (hg : getT f T = none) : ∃ w', (Instr.mapUpdate 69 (.map (some b)) (ptV f) (ptV t)).run Try.prog w = .ok () w' ∧ TwM w' b (T ++ [(f, t)]) ∧ Kept (· = b) w w' := by
  obtain ⟨es, clock, h1, h2⟩ := h
  obtain ⟨r, h3, h4⟩ := run_findT w f hf es.toList T h2 hT
  have hu := Try.underlying69
  have hck : ∀ c, (Instr.checkKey c 10000 70 (ptV f)).run Try.prog w = .ok () w := fun c => run_check_pt w 9999 f c
  have hr : r = none := by
    cases r with
    | none => rfl
    | some x => rw [hg] at h4; cases h4
  subst hr
  have hrun : (Instr.mapUpdate 69 (.map (some b)) (ptV f) (ptV t)).run Try.prog w = (setObj b (.map (es.push { key := ptV f, val := ptV t, born := clock }) (clock + 1))).run Try.prog w := by
    simp [Instr.mapUpdate, run_underlying hu, MapKept.run_getObj_map h1, hck, h3]
  rw [MapKept.run_setObj_map _ h1] at hrun
  refine ⟨_, hrun, ⟨es.push { key := ptV f, val := ptV t, born := clock }, clock + 1, by simp [(Array.getElem?_eq_some_iff.1 h1).1], by simp [h2]⟩, ⟨rfl, rfl, rfl, by simp, fun k _ hne => ?_⟩⟩
  have : b ≠ k := fun e => hne e.symm
  simp [this]

end Go.Proofs.Ytjcobogajkfnmaa

/-
  Layer 9: a file's twin.
-/
namespace Go.Proofs.Ytjcobogajkfnmaa
open Go.RowKit Go.Maps

theorem getT_snoc {f t : Nat} {T : Tws} {g : Nat} (h : getT g T ≠ none) : getT g (T ++ [(f, t)]) = getT g T := by
  unfold getT at h ⊢
  rw [List.find?_append]
  cases hf : T.find? (fun p => decide (p.1 = g)) with
  | none => rw [hf] at h; exact absurd rfl h
  | some p => rfl

theorem getT_new {f t : Nat} {T : Tws} (h : getT f T = none) : getT f (T ++ [(f, t)]) = some t := by
  unfold getT at h ⊢
  rw [List.find?_append]
  cases hf : T.find? (fun p => decide (p.1 = f)) with
  | none => simp
  | some p => rw [hf] at h; cases h

theorem getT_other {f t : Nat} {T : Tws} {g : Nat} (h : g ≠ f) : getT g (T ++ [(f, t)]) = getT g T := by
  unfold getT
  rw [List.find?_append]
  cases hf : T.find? (fun p => decide (p.1 = g)) with
  | none =>
    have : ¬ f = g := fun e => h e.symm
    simp [this]
  | some p => rfl

/-- What twin tells: the twin that is there, or a new one. -/
def TwnA (w : World) (mb f : Nat) (x : Fl) (T : Tws) (e : Ending) (w' : World) : Prop :=
  (∀ t, getT f T = some t → e = .returned (ptV t) ∧ w' = w) ∧
  (getT f T = none → ∃ t v, e = .returned (ptV t) ∧ w.heap.size ≤ t ∧ Blk w' t #[v, .int .i64 (x.safe : Nat)] 73 ∧ Row w' v x.bs ∧ (∀ k, v.ownBlock = some k → w.heap.size ≤ k ∧ k ≠ t) ∧ TwM w' mb (T ++ [(f, t)]) ∧ Kept (· = mb) w w')

set_option maxRecDepth 100000 in
set_option maxHeartbeats 1000000 in
theorem dtwin_any (w : World) (tb mb f : Nat) (v : Value) (x : Fl) (T : Tws) (hc : w.cell? ⟨tb, 0, none⟩ = some (.map (some mb))) (hm : TwM w mb T) (hb : Blk w f #[v, .int .i64 (x.safe : Nat)] 73) (hr : Row w v x.bs) (hn : x.bs.length ≤ 1000000000) (hT : ∀ p ∈ T, IsC w p.1) (hne : ¬ tb = mb) :
    Calls Try.prog 37 #[.pointer (some ⟨f, 0, none⟩), .pointer (some ⟨tb, 0, none⟩)] w fun e w' => TwnA w mb f x T e w' := by
  have hlk := hm.look f ⟨_, _, hb⟩ hT
  unfold ptV at hlk
  cases hg : getT f T with
  | some t =>
    have HG : Hid (getT f T = some t) := hg
    rw [hg] at hlk
    dsimp only at hlk
    clear hm hb hr hn hT hg hne
    go_enter Try.func37, Try.ntmps37
    go_wp2_with fail
    go_ret
    exact ⟨fun t' e => (by rw [HG.out] at e; cases e; exact ⟨rfl, rfl⟩), fun e => (by rw [HG.out] at e; cases e)⟩
  | none =>
    have HG : Hid (getT f T = none) := hg
    rw [hg] at hlk
    dsimp only at hlk
    have HC : Hid (∀ w', Same w w' → Calls Try.prog 38 #[v] w' fun e w2 => ∃ v', e = .returned v' ∧ Fresh w' w2 v' x.bs) := hid (fun w' hk => pclone_big w' v _ _ (Src.ofRow (hr.kept hk (fun _ _ f => f))) hn)
    obtain ⟨a, cp, hv, _⟩ := hr.shape
    obtain ⟨m, hm0⟩ : ∃ n, n = x.bs.length := ⟨_, rfl⟩
    rw [← hm0] at hv
    subst hv
    obtain ⟨sf, hsf⟩ : ∃ n, n = x.safe := ⟨_, rfl⟩
    rw [← hsf] at hb
    have f0 : w.cell? ⟨f, 0, none⟩ = some (.slice a m cp) := hb.cell 0
    have f1 : w.cell? ⟨f, 1, none⟩ = some (.int .i64 (sf : Nat)) := hb.cell 1
    have HM : Hid (TwM w mb T ∧ IsC w f ∧ ∀ p ∈ T, IsC w p.1) := hid ⟨hm, ⟨_, _, hb⟩, hT⟩
    have HFM : Hid (¬ f = mb) := hid (fun e => by
      obtain ⟨es, cl, h1, _⟩ := hm
      have h2 : w.heap[f]? = _ := hb
      rw [e, h1] at h2
      cases h2)
    have HQ : Hid (sf = x.safe ∧ ¬ tb = mb ∧ m = x.bs.length) := hid ⟨hsf, hne, hm0⟩
    have HPUT : Hid (∀ w2, Same w w2 → ∀ cs : Array Value, ∃ w3, (Instr.mapUpdate 69 (.map (some mb)) (.pointer (some ⟨f, 0, none⟩)) (.pointer (some ⟨w2.heap.size, 0, none⟩))).run Try.prog (w2.alloc (.cells cs 73)) = .ok () w3 ∧ TwM w3 mb (T ++ [(f, w2.heap.size)]) ∧ Kept (· = mb) (w2.alloc (.cells cs 73)) w3) := hid (fun w2 hk cs => by
      have hk3 : Same w (w2.alloc (.cells cs 73)) := Same.trans hk ((Kept.refl _ w2).alloc _)
      have hic : ∀ g, IsC w g → IsC (w2.alloc (.cells cs 73)) g := fun g ⟨c, t, h9⟩ => ⟨c, t, h9.kept hk3 (fun f => f)⟩
      exact TwM.put (hm.kept hk3 (fun f => f)) f w2.heap.size (hic f ⟨_, _, hb⟩) (fun p hp => hic p.1 (hT p hp)) hg)
    clear hm hb hr hn hT hg hm0 hsf hne
    go_enter Try.func37, Try.ntmps37
    go_upto_region 2 with fail
    go_region_held3 (fun w' => w'.cell? ⟨tb, 0, none⟩ = some (.map (some mb)) ∧ w'.cell? ⟨f, 0, none⟩ = some (.slice a m cp) ∧ w'.cell? ⟨f, 1, none⟩ = some (.int .i64 (sf : Nat)))
      (first | (go_split_ands; exact ⟨hf2.kept.cell (by assumption) (fun f => f), hf2.kept.cell (by assumption) (fun f => f), hf2.kept.cell (by assumption) (fun f => f)⟩) | (go_split_ands; exact ⟨hk3.cell ((Same.trans (Kept.undrew9 hf2.kept) ((Kept.refl _ _).alloc _)).cell hc (fun f => f)) HQ.out.2.1, hk3.cell ((Same.trans (Kept.undrew9 hf2.kept) ((Kept.refl _ _).alloc _)).cell f0 (fun f => f)) HFM.out, hk3.cell ((Same.trans (Kept.undrew9 hf2.kept) ((Kept.refl _ _).alloc _)).cell f1 (fun f => f)) HFM.out⟩) | go_keep)
      (first
        | (go_at_call 38; refine (HC.out _ (by first | exact (Kept.refl _ _).drew | exact Kept.refl _ _ | exact (Kept.refl _ _).drewN _)).mono ?_; rintro e w2 ⟨v2, rfl, hf2⟩; obtain ⟨a2, c2, hv2, _⟩ := hf2.row.shape; rw [← HQ.out.2.2] at hv2; subst hv2; obtain ⟨w3, hup, htw, hk3⟩ := HPUT.out w2 (Kept.undrew9 hf2.kept) #[.slice a2 m c2, .int .i64 (sf : Nat)]))
    all_goals
      have hwk : Same w w2 := Kept.undrew9 hf2.kept
      have hwa : Same w2 (w2.alloc (.cells #[.slice a2 m c2, .int .i64 (sf : Nat)] 73)) := (Kept.refl _ w2).alloc _
      have hmb := htw.lt
      have hmw : mb < w.heap.size := HM.out.1.lt
      have hn3 := getT_new (t := w2.heap.size) HG.out
      have hlk3 := htw.look f (by obtain ⟨c, t, h9⟩ := HM.out.2.1; exact ⟨c, t, ((h9.kept hwk (fun f => f)).kept hwa (fun f => f)).kept hk3 HFM.out⟩) (fun p hp => by
        rcases List.mem_append.1 hp with hp | hp
        · obtain ⟨c, t, h9⟩ := HM.out.2.2 p hp
          refine ⟨c, t, ((h9.kept hwk (fun f => f)).kept hwa (fun f => f)).kept hk3 (fun e => ?_)⟩
          obtain ⟨es, cl, h1, _⟩ := HM.out.1
          have h2 : w.heap[p.1]? = _ := h9
          rw [e, h1] at h2
          cases h2
        · rw [List.mem_singleton.1 hp]
          obtain ⟨c, t, h9⟩ := HM.out.2.1
          exact ⟨c, t, ((h9.kept hwk (fun f => f)).kept hwa (fun f => f)).kept hk3 HFM.out⟩)
      rw [hn3] at hlk3
      dsimp only at hlk3
      unfold ptV at hlk3
      have hc3 : w3.cell? ⟨tb, 0, none⟩ = some (.map (some mb)) := hk3.cell ((Same.trans hwk hwa).cell hc (fun f => f)) HQ.out.2.1
      have hsz : w2.heap.size < (w2.alloc (.cells #[.slice a2 m c2, .int .i64 (sf : Nat)] 73)).heap.size := by simp
      have HF : Hid (w.heap.size ≤ w2.heap.size ∧ Blk w3 w2.heap.size #[.slice a2 m c2, .int .i64 (sf : Nat)] 73 ∧ Row w3 (.slice a2 m c2) x.bs ∧ (∀ k, (Value.slice a2 m c2).ownBlock = some k → w.heap.size ≤ k ∧ k ≠ w2.heap.size) ∧ TwM w3 mb (T ++ [(f, w2.heap.size)]) ∧ Kept (· = mb) w w3) := hid ⟨hwk.size, (Blk.new w2 _ _).kept hk3 (fun e => by have := hwk.size; omega), (hf2.row.kept hwa (fun _ _ f => f)).kept hk3 (fun k e e2 => by have := hf2.new k e; have h9 : w.drew.heap.size = w.heap.size := rfl; omega), fun k e => ⟨hf2.new k e, fun e2 => by have := hf2.row.lt e; omega⟩, htw, Kept.trans (Same.trans hwk hwa) hk3 (fun _ _ f => f.elim) (fun _ _ e => e)⟩
      clear hwk hwa hmb hmw hn3 hsz hk3 htw hup hf2
      go_wp2_with fail
      go_ret
      refine ⟨fun t' e => (by rw [HG.out] at e; cases e), fun _ => ⟨w2.heap.size, .slice a2 m c2, rfl, HF.out.1, ?_, HF.out.2.2⟩⟩
      rw [← HQ.out.1]
      exact HF.out.2.1

end Go.Proofs.Ytjcobogajkfnmaa

/-
  Layer 9: twins of a disk's files, one by one.
-/
namespace Go.Proofs.Ytjcobogajkfnmaa
open Go.RowKit Go.Maps

/-- The twins so far: of files of the disk in w0; their blocks are new ones. -/
structure TwS (w0 w : World) (s : Ds) (ρ σ : Rho) (mb : Nat) (T : Tws) : Prop where
  tw : TwM w mb T
  old : Same w0 w
  key : ∀ p ∈ T, ρ p.1 = 5
  fil : ∀ p ∈ T, FlAt w σ p.2 (s.fl p.1)
  is5 : ∀ p ∈ T, σ p.2 = 5
  of5 : ∀ f, σ f = 5 → ∃ g, (g, f) ∈ T
  val : ∀ k, σ k = 0 ∨ σ k = 5 ∨ 10 ≤ σ k
  new : ∀ k, σ k ≠ 0 → w0.heap.size ≤ k ∧ k < w.heap.size
  inj : T.Pairwise (fun p q => p.2 ≠ q.2)
  get : ∀ p ∈ T, getT p.1 T = some p.2
  mbn : σ mb = 0 ∧ w0.heap.size ≤ mb

section
variable {N : Nat} {w0 w : World} {d : Nat} {s : Ds} {ρ σ : Rho} {nb sb : Nat} {cv : Value} {mb : Nat} {T : Tws}

theorem TwS.kept (h : TwS w0 w s ρ σ mb T) {F : Nat → Prop} {w' : World} (hk : Kept F w w') (hF : ∀ k, F k → w0.heap.size ≤ k ∧ σ k = 0 ∧ k ≠ mb) : TwS w0 w' s ρ σ mb T := by
  refine ⟨h.tw.kept hk (fun f => (hF _ f).2.2 rfl), ?_, h.key, fun p hp => ?_, h.is5, h.of5, h.val, fun k h0 => ⟨(h.new k h0).1, Nat.lt_of_lt_of_le (h.new k h0).2 hk.size⟩, h.inj, h.get, h.mbn⟩
  · exact Kept.trans h.old hk (fun _ _ f => f) (fun k hk f => by have := (hF k f).1; omega)
  · obtain ⟨v, h1, h2, h3⟩ := h.fil p hp
    exact ⟨v, h1.kept hk (fun f => by have h9 := (hF _ f).2.1; have := h.is5 p hp; omega), h2.kept hk (fun k e f => by have h9 := (hF _ f).2.1; have := h3 k e; omega), h3⟩

theorem TwS.same (h : TwS w0 w s ρ σ mb T) {w' : World} (hk : Same w w') : TwS w0 w' s ρ σ mb T := h.kept hk (fun _ f => f.elim)

/-- More twins. -/
def MoT (w : World) (σ σ' : Rho) (T T' : Tws) : Prop := (∀ g t, getT g T = some t → getT g T' = some t) ∧ ∀ k, k < w.heap.size → σ' k = σ k

theorem MoT.refl (w : World) (σ : Rho) (T : Tws) : MoT w σ σ T T := ⟨fun _ _ h => h, fun _ _ => rfl⟩

theorem MoT.trans {w1 : World} {σ1 σ2 : Rho} {T1 T2 : Tws} (h : MoT w σ σ1 T T1) (h2 : MoT w1 σ1 σ2 T1 T2) (hs : w.heap.size ≤ w1.heap.size) : MoT w σ σ2 T T2 :=
  ⟨fun g t e => h2.1 g t (h.1 g t e), fun k hk => (h2.2 k (Nat.lt_of_lt_of_le hk hs)).trans (h.2 k hk)⟩

/-- What twin tells. -/
def TwnB (w0 w : World) (s : Ds) (ρ σ : Rho) (mb f : Nat) (T : Tws) (e : Ending) (w' : World) : Prop :=
  ∃ T' σ' t, e = .returned (ptV t) ∧ TwS w0 w' s ρ σ' mb T' ∧ getT f T' = some t ∧ MoT w σ σ' T T' ∧ Kept (· = mb) w w'

theorem dtwin_st (h : Dk N w0 d s ρ nb sb cv) (ht : TwS w0 w s ρ σ mb T) (tb f : Nat) (hf : ρ f = 5) (hc : w.cell? ⟨tb, 0, none⟩ = some (.map (some mb))) (hne : ¬ tb = mb) :
    Calls Try.prog 37 #[.pointer (some ⟨f, 0, none⟩), .pointer (some ⟨tb, 0, none⟩)] w fun e w' => TwnB w0 w s ρ σ mb f T e w' := by
  obtain ⟨v, h1, h2, h3⟩ := h.fil f hf
  have ok := h.okf f hf
  have hrm := h.room
  refine (dtwin_any w tb mb f v (s.fl f) T hc ht.tw (h1.kept ht.old (fun f => f)) (h2.kept ht.old (fun _ _ f => f)) (by omega) (fun p hp => ?_) hne).mono ?_
  · obtain ⟨u, g1, _, _⟩ := h.fil p.1 (ht.key p hp)
    exact ⟨_, _, g1.kept ht.old (fun f => f)⟩
  · rintro e w' ⟨hA, hB⟩
    cases hg : getT f T with
    | some t =>
      obtain ⟨rfl, rfl⟩ := hA t hg
      exact ⟨T, σ, t, rfl, ht, hg, MoT.refl _ _ _, Kept.refl _ _⟩
    | none =>
      obtain ⟨t, u, rfl, hts, hb, hr, ho, htw, hk⟩ := hB hg
      have htl := hb.lt
      have hs0 := ht.old.size
      have hlow : ∀ k, σ k ≠ 0 → k < w.heap.size := fun k h0 => (ht.new k h0).2
      have hmb := ht.mbn
      have hml := ht.tw.lt
      have hσ : ∀ k y, σ k = y → y ≠ 0 → (if k = t then 5 else if u.ownBlock = some k then 10 + t else σ k) = y := fun k y e h0 => by
        have hk := hlow k (by omega)
        rw [if_neg (by omega), if_neg (fun e2 => by have := (ho k e2).1; omega)]
        exact e
      refine ⟨T ++ [(f, t)], fun k => if k = t then 5 else if u.ownBlock = some k then 10 + t else σ k, t, rfl, ?_, getT_new hg, ⟨fun g t' e => ?_, fun k hk => ?_⟩, hk⟩
      · refine ⟨htw, Kept.trans ht.old hk (fun _ _ f => f) (fun k hk2 e => by omega), fun p hp => ?_, fun p hp => ?_, fun p hp => ?_, fun g hg5 => ?_, fun k => ?_, fun k hk0 => ?_, ?_, fun p hp => ?_, ⟨?_, hmb.2⟩⟩
        · rcases List.mem_append.1 hp with hp | hp
          · exact ht.key p hp
          · rw [List.mem_singleton.1 hp]; exact hf
        · rcases List.mem_append.1 hp with hp | hp
          · obtain ⟨v', g1, g2, g3⟩ := ht.fil p hp
            have h5 := ht.is5 p hp
            exact ⟨v', g1.kept hk (fun e => by rw [e] at h5; omega), g2.kept hk (fun k e e2 => by have := g3 k e; rw [e2] at this; omega), fun k e => hσ k _ (g3 k e) (by omega)⟩
          · rw [List.mem_singleton.1 hp]
            exact ⟨u, hb, hr, fun k e => by
              show (if k = t then 5 else if u.ownBlock = some k then 10 + t else σ k) = 10 + t
              rw [if_neg (ho k e).2, if_pos e]⟩
        · rcases List.mem_append.1 hp with hp | hp
          · exact hσ _ _ (ht.is5 p hp) (by decide)
          · rw [List.mem_singleton.1 hp]; exact if_pos rfl
        · by_cases e1 : g = t
          · exact ⟨f, by rw [e1]; exact List.mem_append_right _ List.mem_cons_self⟩
          · rw [if_neg e1] at hg5
            by_cases e2 : u.ownBlock = some g
            · rw [if_pos e2] at hg5; omega
            · rw [if_neg e2] at hg5
              obtain ⟨g', h9⟩ := ht.of5 g hg5
              exact ⟨g', List.mem_append_left _ h9⟩
        · by_cases e1 : k = t
          · rw [if_pos e1]; exact .inr (.inl rfl)
          · rw [if_neg e1]
            by_cases e2 : u.ownBlock = some k
            · rw [if_pos e2]; exact .inr (.inr (by omega))
            · rw [if_neg e2]; exact ht.val k
        · by_cases e1 : k = t
          · rw [e1]; omega
          · rw [if_neg e1] at hk0
            by_cases e2 : u.ownBlock = some k
            · have := hr.lt e2; have := (ho k e2).1; omega
            · rw [if_neg e2] at hk0
              have := ht.new k hk0
              have := hk.size
              omega
        · rw [List.pairwise_append]
          refine ⟨ht.inj, List.pairwise_singleton _ _, fun p hp q hq => ?_⟩
          rw [List.mem_singleton.1 hq]
          have := hlow p.2 (by have := ht.is5 p hp; omega)
          exact fun e => by dsimp only at e; omega
        · rcases List.mem_append.1 hp with hp | hp
          · have h9 := ht.get p hp
            rw [getT_snoc (by rw [h9]; simp)]
            exact h9
          · rw [List.mem_singleton.1 hp]; exact getT_new hg
        · show (if mb = t then 5 else if u.ownBlock = some mb then 10 + t else σ mb) = 0
          rw [if_neg (by omega), if_neg (fun e2 => by have := (ho mb e2).1; omega)]
          exact hmb.1
      · rw [getT_snoc (by rw [e]; simp)]; exact e
      · dsimp only
        rw [if_neg (by omega), if_neg (fun e2 => by have := (ho k e2).1; omega)]

end

end Go.Proofs.Ytjcobogajkfnmaa

/-
  Layer 9: names over twins.
-/
namespace Go.Proofs.Ytjcobogajkfnmaa
open Go.RowKit Go.Maps

/-- A file's twin, as a number. -/
def tau (T : Tws) (f : Nat) : Nat := (getT f T).getD 0

/-- Names over other files. -/
def mapF (φ : Nat → Nat) (L : Nms) : Nms := L.map (fun p => (p.1, φ p.2))

theorem putN_iff {s : ByteArray} {f : Nat} {L : Nms} {p : ByteArray × Nat} : p ∈ putN s f L ↔ p = (s, f) ∨ (p ∈ L ∧ p.1 ≠ s) := by
  unfold putN delN
  rw [insN_mem, List.mem_filter]
  simp

theorem rising_eq {A B : Nms} (hA : A.Pairwise (fun p q => (litN p.1).before (litN q.1) = true)) (hB : B.Pairwise (fun p q => (litN p.1).before (litN q.1) = true)) (h : ∀ p, p ∈ A ↔ p ∈ B) : A = B := by
  have irr : ∀ s : ByteArray, (litN s).before (litN s) = false := fun s => Go.WideAt.bytes_irrefl _
  have asy : ∀ {p q : ByteArray × Nat}, (litN p.1).before (litN q.1) = true → (litN q.1).before (litN p.1) = true → False := fun {p q} h1 h2 => by
    have h3 : (litN p.1).before (litN p.1) = true := Go.WideShapes.bytes_trans _ _ _ h1 h2
    rw [irr] at h3
    cases h3
  have nd : ∀ {L : Nms}, L.Pairwise (fun p q => (litN p.1).before (litN q.1) = true) → L.Nodup := fun {L} hL => hL.imp (fun {p q} h1 e => by rw [e, irr] at h1; cases h1)
  refine List.Perm.eq_of_pairwise (le := fun p q => (litN p.1).before (litN q.1) = true) (fun a b _ _ h1 h2 => (asy h1 h2).elim) hA hB ?_
  exact (List.perm_ext_iff_of_nodup (nd hA) (nd hB)).2 h

theorem mapF_rising (φ : Nat → Nat) {L : Nms} (h : L.Pairwise (fun p q => (litN p.1).before (litN q.1) = true)) : (mapF φ L).Pairwise (fun p q => (litN p.1).before (litN q.1) = true) := by
  unfold mapF
  rw [List.pairwise_map]
  exact h

theorem ranges_kept {w w' : World} {b r n cnt : Nat} {D : DataW Unit} {left : Lit → Bool} {F : Nat → Prop} (h : w.ranges Try.prog 9 ptR b r n D left cnt) (hk : Kept F w w') (hb : ¬ F b) (hr : ¬ F r) : w'.ranges Try.prog 9 ptR b r n D left cnt := by
  have h1 := h.owns.lt
  have h2 := h.lt
  unfold World.ranges at h ⊢
  rw [hk.block b h1 hb, hk.block r h2 hr]
  exact h

/-- What renewed tells. -/
def RenA (w0 w : World) (s : Ds) (ρ σ : Rho) (mb : Nat) (T : Tws) (L : Nms) (e : Ending) (w' : World) : Prop :=
  ∃ T' σ' ob, e = .returned (.map (some ob)) ∧ TwS w0 w' s ρ σ' mb T' ∧ Mp w' ob (mapF (tau T') L) ∧ (∀ p ∈ L, ∃ t, getT p.2 T' = some t) ∧ MoT w σ σ' T T' ∧ Kept (· = mb) w w' ∧ w.heap.size ≤ ob ∧ σ' ob = 0

section
variable {N : Nat} {w0 w : World} {d : Nat} {s : Ds} {ρ σ : Rho} {nb sb : Nat} {cv : Value} {mb : Nat} {T : Tws}

set_option maxRecDepth 100000 in
set_option maxHeartbeats 1000000 in
theorem drenew_any (h : Dk N w0 d s ρ nb sb cv) (ht : TwS w0 w s ρ σ mb T) (tb b : Nat) (L : Nms) (hL : Mp w0 b L) (hL5 : ∀ p ∈ L, ρ p.2 = 5) (hLt : ∀ p ∈ L, p.1.size ≤ 100000) (hLl : L.length ≤ 1000000) (hc : w.cell? ⟨tb, 0, none⟩ = some (.map (some mb))) (hne : ¬ tb = mb) (htb : w0.heap.size ≤ tb) :
    Calls Try.prog 39 #[.map (some b), .func (.func 37) #[] #[.pointer (some ⟨tb, 0, none⟩)]] w fun e w' => RenA w0 w s ρ σ mb T L e w' := by
  have HD : Hid (Dk N w0 d s ρ nb sb cv) := h
  have HT : Hid (TwS w0 w s ρ σ mb T) := ht
  have HL : Hid (Mp w0 b L ∧ (∀ p ∈ L, ρ p.2 = 5) ∧ (∀ p ∈ L, p.1.size ≤ 100000) ∧ L.length ≤ 1000000) := hid ⟨hL, hL5, hLt, hLl⟩
  have HC : Hid (w.cell? ⟨tb, 0, none⟩ = some (.map (some mb)) ∧ ¬ tb = mb ∧ w0.heap.size ≤ tb) := hid ⟨hc, hne, htb⟩
  have hmm := @run_makeMap Try.prog
  clear h ht hL hL5 hLt hLl hc hne htb
  obtain ⟨wm, hwm⟩ : ∃ W, W = w.alloc (.map #[] 0) := ⟨_, rfl⟩
  obtain ⟨ob, hob⟩ : ∃ o, o = w.heap.size := ⟨_, rfl⟩
  have HKm : Hid (Same w wm) := hid (by rw [hwm]; exact (Kept.refl _ w).alloc _)
  have HMm : Hid (Mp wm ob []) := hid (by rw [hwm, hob]; exact Mp.new w)
  have HOB : Hid (ob = w.heap.size) := hob
  have HTm : Hid (TwS w0 wm s ρ σ mb T) := hid (HT.out.same HKm.out)
  have HLm : Hid (Mp wm b L) := hid (HL.out.1.kept HTm.out.old (fun f => f))
  go_enter Try.func39, Try.ntmps39
  go_upto_region 2 with fail
  rw [← hwm, ← hob]
  clear hwm hob hmm
  go_wp2_with (at_range; refine wpList_range_own _ rfl _ 59 rfl 9 70 Try.strKey Try.underlying59 ptR b L.length (nmD L) rfl HLm.out ?_; intro wr0 hrg0 hg0 hs0)
  obtain ⟨r, hr⟩ : ∃ r, r = wm.heap.size := ⟨_, rfl⟩
  rw [← hr] at hrg0 ⊢
  have HRR : Hid (r = wm.heap.size) := hr
  have HK0 : Hid (Same wm wr0) := hid ((Kept.refl _ wm).grown hg0 (fun k e => by cases e))
  have HRG : Hid (wr0.ranges Try.prog 9 ptR b r L.length (nmD L) (Maps.has (nmD L)) (Maps.size (nmD L))) := hrg0
  clear hrg0 hg0 hs0 hr
  obtain ⟨K0, hK0⟩ : ∃ k, k = Maps.size (nmD L) := ⟨_, rfl⟩
  have HKZ : Hid (K0 = Maps.size (nmD L)) := hK0
  clear hK0
  go_frame
  go_loopg [] K0 (fun k wr => ∃ (left : Lit → Bool) (cnt : Nat) (T1 : Tws) (σ1 : Rho) (O : Nms), cnt ≤ k ∧ Hid (wr.ranges Try.prog 9 ptR b r L.length (nmD L) left cnt ∧ TwS w0 wr s ρ σ1 mb T1 ∧ Mp wr ob O ∧ (∀ p, p ∈ O ↔ ∃ q ∈ L, left (litN q.1) = false ∧ p = (q.1, tau T1 q.2)) ∧ (∀ q ∈ L, left (litN q.1) = false → ∃ t, getT q.2 T1 = some t) ∧ MoT w σ σ1 T T1 ∧ Kept (· = mb) w wr ∧ σ1 ob = 0 ∧ σ1 r = 0 ∧ O.length + cnt ≤ K0))
  case atStart =>
    have hlow : ∀ k, w.heap.size ≤ k → σ k = 0 := fun k hk => Classical.byContradiction (fun h0 => by have := (HT.out.new k h0).2; omega)
    refine ⟨_, _, T, σ, [], Nat.le_of_eq HKZ.out.symm, hid ⟨HRG.out, HTm.out.same HK0.out, HMm.out.kept HK0.out (fun f => f), fun p => ⟨fun h => (by cases h), fun ⟨q, h1, h2, _⟩ => (by rw [has_nm L q h1] at h2; cases h2)⟩, fun q h1 h2 => (by rw [has_nm L q h1] at h2; cases h2), MoT.refl _ _ _, (Same.trans HKm.out HK0.out).mono (fun _ _ f => f.elim), hlow ob (by rw [HOB.out]; exact Nat.le_refl _), hlow r (by rw [HRR.out]; exact HKm.out.size), by rw [HKZ.out]; simp⟩⟩
  case round =>
    obtain ⟨left, cnt, T1, σ1, O, hcnt, HI⟩ := hrel
    go_wp2_with (at_next; refine wpList_next_ranges _ rfl (.tmp 10) rfl 9 Try.strKey ptR (fun x : Value => x) (fun x : Value => x) (fun key kl _ => ⟨key, rfl⟩) (fun v y _ => ⟨v, rfl⟩) b r L.length (nmD L) left cnt rfl HI.out.1 ?_ ?_)
    · intro hc0 hl0
      have HE : Hid (O = mapF (tau T1) L) := hid (by
        refine rising_eq HI.out.2.2.1.rising (mapF_rising _ HL.out.1.rising) (fun p => ?_)
        rw [HI.out.2.2.2.1 p]
        unfold mapF
        rw [List.mem_map]
        exact ⟨fun ⟨q, h1, _, h3⟩ => ⟨q, h1, h3.symm⟩, fun ⟨q, h1, h3⟩ => ⟨q, h1, hl0 _, h3.symm⟩⟩)
      have HA : Hid (∀ q ∈ L, ∃ t, getT q.2 T1 = some t) := hid (fun q hq => HI.out.2.2.2.2.1 q hq (hl0 _))
      clear hc0 hl0
      go_wp2_with fail
      go_ret
      exact ⟨T1, σ1, ob, rfl, HI.out.2.1, by rw [← HE.out]; exact HI.out.2.2.1, HA.out, HI.out.2.2.2.2.2.1, HI.out.2.2.2.2.2.2.1, by rw [HOB.out]; exact Nat.le_refl _, HI.out.2.2.2.2.2.2.2.1⟩
    · intro x c kl y1 y2 w2 cnt2 hkey hlx hv hat hrg2 hlt hg2 hs2 hen
      obtain ⟨t, rfl, rfl⟩ : ∃ t, x = .string t ∧ kl = litN t := by
        cases x <;> simp [keyOf, Try.underlying9, mapKey] at hkey
        exact ⟨_, rfl, by unfold litN; first | exact hkey.2.symm | exact hkey.symm⟩
      obtain ⟨f, hg⟩ : ∃ f, getN t L = some f := by
        cases hg : getN t L with
        | some f => exact ⟨f, rfl⟩
        | none =>
          have h1 := hat .nil
          have h2 := hat (.lit (.int .i64 0))
          rw [nmD_at, hg] at h1 h2
          rw [← h1] at h2
          cases h2
      have hy : y1 = .lit (.int .i64 (f : Nat)) := by have h1 := hat .nil; rw [nmD_at, hg] at h1; exact h1.symm
      have hm := getN_mem hg
      obtain rfl : c = .pointer (some ⟨f, 0, none⟩) := ptR_inv (ps := y2) (by rw [hv, ← hy])
      have hf5 := HL.out.2.1 _ hm
      have hk2 : Kept (· = r) wr w2 := (Kept.refl (· = r) wr).grown hg2 (fun k e => .inl (by simp only [Option.some.injEq] at e; exact e.symm))
      have hrw : w0.heap.size ≤ r ∧ r ≠ mb ∧ r ≠ tb ∧ r ≠ ob := by
        have h1 := HRR.out
        have h2 := HKm.out.size
        have h3 := HT.out.old.size
        have h4 := HT.out.tw.lt
        have h5 := World.block_lt_of_cell? w ⟨tb, 0, none⟩ HC.out.1
        have h6 := HMm.out.lt
        dsimp only at h5
        refine ⟨?_, ?_, ?_, ?_⟩ <;> omega
      have hT2 : TwS w0 w2 s ρ σ1 mb T1 := HI.out.2.1.kept hk2 (fun k e => by rw [e]; exact ⟨hrw.1, HI.out.2.2.2.2.2.2.2.2.1, hrw.2.1⟩)
      have hc2 : w2.cell? ⟨tb, 0, none⟩ = some (.map (some mb)) := hk2.cell (HI.out.2.2.2.2.2.2.1.cell HC.out.1 HC.out.2.1) (fun e => hrw.2.2.1 e.symm)
      have HTW := dtwin_st HD.out hT2 tb f hf5 hc2 HC.out.2.1
      have HM2 : Hid (Mp w2 ob O ∧ Kept (· = mb) w w2) := hid ⟨HI.out.2.2.1.kept hk2 (fun e => hrw.2.2.2 e.symm), Kept.trans HI.out.2.2.2.2.2.2.1 hk2 (fun _ _ e => e) (fun k hk e => by have h1 := HRR.out; have h2 := HKm.out.size; omega)⟩
      have HR2 : Hid (w2.ranges Try.prog 9 ptR b r L.length (nmD L) (fun z => left z && !z.sameKey (litN t)) cnt2) := hrg2
      have HQ : Hid (cnt2 < cnt ∧ (t, f) ∈ L ∧ left (litN t) = true) := hid ⟨hlt, hm, hlx⟩
      clear hkey hlx hv hat hrg2 hlt hg2 hs2 hg hy hm hf5 hk2 hrw hT2 hc2
      go_wp2_with fail
      refine HTW.mono ?_
      rintro e w3 ⟨T3, σ3, t3, rfl, h3⟩
      have hobm : ¬ ob = mb := fun e => by have := HT.out.tw.lt; have := HOB.out; omega
      have hOl : O.length ≤ 1000000000 := by
        have h1 := HI.out.2.2.2.2.2.2.2.2.2
        have h2 := HKZ.out
        rw [nmD_size] at h2
        have := HL.out.2.2.2
        omega
      obtain ⟨w4, hput, hm4, hk4⟩ := (HM2.out.1.kept h3.2.2.2 hobm).put t (Nat.le_trans (HL.out.2.2.1 _ HQ.out.2.1) (by decide)) hOl t3
      have hrr : ¬ r = ob ∧ ¬ b = ob ∧ ¬ r = mb ∧ ¬ b = mb ∧ w0.heap.size ≤ ob := by
        have h1 := HRR.out
        have h2 := HMm.out.lt
        have h4 := HT.out.tw.lt
        have h5 := HL.out.1.lt
        have h6 := HT.out.old.size
        have h7 := HOB.out
        have h8 := HKm.out.size
        have h9 := HT.out.mbn.2
        refine ⟨?_, ?_, ?_, ?_, ?_⟩ <;> omega
      have hσo : σ3 ob = 0 := by rw [h3.2.2.1.2 ob HM2.out.1.lt]; exact HI.out.2.2.2.2.2.2.2.1
      have hσr : σ3 r = 0 := by rw [h3.2.2.1.2 r HR2.out.lt]; exact HI.out.2.2.2.2.2.2.2.2.1
      have hsub : ∀ q ∈ L, (left (litN q.1) && !(litN q.1).sameKey (litN t)) = false ↔ (left (litN q.1) = false ∨ q.1 = t) := fun q _ => by
        rw [sameN]
        by_cases e : q.1 = t <;> simp [e]
      have huni : ∀ q ∈ L, q.1 = t → q = (t, f) := fun q hq e => by
        have h1 := HL.out.1.apart
        obtain ⟨i, hi, rfl⟩ := List.getElem_of_mem hq
        obtain ⟨j, hj, hjq⟩ := List.getElem_of_mem HQ.out.2.1
        have h2 := getN_at h1 i hi
        have h3 := getN_at h1 j hj
        rw [e] at h2
        rw [hjq] at h3
        rw [h2] at h3
        simp only [Option.some.injEq] at h3
        exact Prod.ext e h3
      have htau : ∀ q ∈ L, left (litN q.1) = false → tau T3 q.2 = tau T1 q.2 := fun q hq hl => by
        obtain ⟨u, hu⟩ := HI.out.2.2.2.2.1 q hq hl
        unfold tau
        rw [hu, h3.2.2.1.1 _ _ hu]
      have htf : tau T3 f = t3 := by unfold tau; rw [h3.2.1]; rfl
      have HF : Hid (w4.ranges Try.prog 9 ptR b r L.length (nmD L) (fun z => left z && !z.sameKey (litN t)) cnt2 ∧ TwS w0 w4 s ρ σ3 mb T3 ∧ Mp w4 ob (putN t t3 O) ∧ (∀ p, p ∈ putN t t3 O ↔ ∃ q ∈ L, (left (litN q.1) && !(litN q.1).sameKey (litN t)) = false ∧ p = (q.1, tau T3 q.2)) ∧ (∀ q ∈ L, (left (litN q.1) && !(litN q.1).sameKey (litN t)) = false → ∃ t, getT q.2 T3 = some t) ∧ MoT w σ σ3 T T3 ∧ Kept (· = mb) w w4 ∧ σ3 ob = 0 ∧ σ3 r = 0 ∧ (putN t t3 O).length + cnt2 ≤ K0) := hid (by
        refine ⟨ranges_kept (ranges_kept HR2.out h3.2.2.2 hrr.2.2.2.1 hrr.2.2.1) hk4 hrr.2.1 hrr.1, h3.1.kept hk4 (fun k e => by rw [e]; exact ⟨hrr.2.2.2.2, hσo, hobm⟩), hm4, fun p => ?_, fun q hq hl => ?_, HI.out.2.2.2.2.2.1.trans h3.2.2.1 HM2.out.2.size, Kept.trans (Kept.trans HM2.out.2 h3.2.2.2 (H := (· = mb)) (fun _ _ e => e) (fun _ _ e => e)) hk4 (fun _ _ e => e) (fun k hk e => by have := HOB.out; omega), hσo, hσr, ?_⟩
        · rw [putN_iff, HI.out.2.2.2.1 p]
          constructor
          · rintro (h | ⟨⟨q, h1, h2, h4⟩, h5⟩)
            · exact ⟨(t, f), HQ.out.2.1, (hsub _ HQ.out.2.1).2 (.inr rfl), by rw [h, htf]⟩
            · exact ⟨q, h1, (hsub q h1).2 (.inl h2), by rw [htau q h1 h2]; exact h4⟩
          · rintro ⟨q, h1, h2, h4⟩
            by_cases e : q.1 = t
            · have := huni q h1 e
              subst this
              exact .inl (by rw [h4, htf])
            · rcases (hsub q h1).1 h2 with h5 | h5
              · exact .inr ⟨⟨q, h1, h5, by rw [← htau q h1 h5]; exact h4⟩, by rw [h4]; exact e⟩
              · exact absurd h5 e
        · by_cases e : q.1 = t
          · have := huni q hq e
            subst this
            exact ⟨t3, h3.2.1⟩
          · rcases (hsub q hq).1 hl with h5 | h5
            · obtain ⟨u, hu⟩ := HI.out.2.2.2.2.1 q hq h5
              exact ⟨u, h3.2.2.1.1 _ _ hu⟩
            · exact absurd h5 e
        · have h1 := putN_len t t3 O
          have h2 := HI.out.2.2.2.2.2.2.2.2.2
          have := HQ.out.1
          omega)
      unfold ptV
      clear hobm hOl hm4 hk4 hrr hσo hσr hsub huni htau htf h3 HTW
      go_wp2_with fail
      go_roundg (gk - 1)
      case measure => have := HQ.out; omega
      case rel => exact ⟨_, cnt2, T3, σ3, _, by have := HQ.out; omega, HF⟩

end

end Go.Proofs.Ytjcobogajkfnmaa

/-
  Layer 9: changes cloned.
-/
namespace Go.Proofs.Ytjcobogajkfnmaa
open Go.RowKit Go.Maps

theorem row_none9 (w : World) : RowC w.heap.size 78 3 chE (w.alloc (.cells #[] 78)) (.slice (some ⟨w.heap.size, 0, none⟩) 0 0) [] :=
  ⟨rfl, .inr ⟨w.heap.size, 0, #[], rfl, Nat.le_refl _, Blk.new w #[] _, Nat.le_refl _, Nat.zero_le _, rfl, rfl⟩⟩

set_option maxRecDepth 100000 in
set_option maxHeartbeats 1000000 in
theorem dchclone_any (w : World) (N : Nat) (v : Value) (cs : List Chg) (h : RowC N 78 3 chE w v cs) (hn : cs.length ≤ 1000000) :
    Calls Try.prog 40 #[v] w fun e w' => ∃ v', e = .returned v' ∧ RowC w.heap.size 78 3 chE w' v' cs ∧ Same w w' := by
  have q22 : ∀ (w : World) (a : Option Addr) (n c n' c' : Nat), (binOp .eql 60 (.slice a n c) (.slice none n' c')).run Try.prog w = .ok (.bool a.isNone) w := fun w a n c n' c' => Lib.run_eql_slice_nil w _ _ a n c n' c' Try.underlying60
  obtain ⟨ao, cap, hv, hg, hc0, _⟩ := h.shape
  obtain ⟨L, hL⟩ : ∃ L, L = cs.length := ⟨_, rfl⟩
  rw [← hL] at hv hn
  subst hv
  have HL : Hid (L = cs.length) := hL
  have HR : Hid (RowC N 78 3 chE w (.slice ao L cap) cs) := h
  clear hL
  cases ao with
  | none =>
    have e0 : cs = [] := Classical.byContradiction (fun h => by obtain ⟨_, e⟩ := hg h; cases e)
    subst e0
    clear h hc0 hg
    go_enter Try.func40, Try.ntmps40
    go_wp2_with fail
    go_ret
    exact ⟨_, rfl, RowC.nil, Kept.refl _ _⟩
  | some ad =>
    have HR0 : Hid (RowC w.heap.size 78 3 chE (w.alloc (.cells #[] 78)) (.slice (some ⟨w.heap.size, 0, none⟩) 0 0) []) := hid (row_none9 w)
    have HK0 : Hid (Same w (w.alloc (.cells #[] 78))) := hid ((Kept.refl _ w).alloc _)
    have HCA : Hid (CellsAt (w.alloc (.cells #[] 78)) ad (cs.flatMap chE)) := hid (by
      by_cases hne : cs = []
      · subst hne; intro j u hu; simp at hu
      · obtain ⟨g, hg⟩ := hg hne
        simp only [Option.some.injEq] at hg
        subst hg
        have h9 := (HR.out.kept HK0.out (fun _ _ f => f)).cells (g := g) rfl
        exact h9)
    clear h hc0 hg
    go_enter Try.func40, Try.ntmps40
    go_wp2_with (at_builtin; refine wpList_append_c _ chE 3 chE_ok (by decide) w.heap.size 60 78 (.agg #[.string ⟨#[]⟩, .string ⟨#[]⟩, .pointer none]) 40 Try.underlying60 Try.infoChange rfl (by decide) rfl (.tmp 5) (.tmp 6) rfl (.slice (some ⟨w.heap.size, 0, none⟩) 0 0) [] rfl HR0.out ad L cap cs rfl HL.out.symm HCA.out (by have := HL.out; simp; omega) (by simp) ?_)
    intro v3 w3 hr3 hg3
    have HR3 : Hid (RowC w.heap.size 78 3 chE w3 v3 cs) := hid (by simpa using hr3)
    have HK3 : Hid (Same w w3) := hid (HK0.out.grown hg3 (fun j e => .inr (by
      have e1 : w.heap.size = j := by simpa [Value.ownBlock] using e
      omega)))
    obtain ⟨a3, cp3, hv3, _⟩ := HR3.out.shape
    clear hr3 hg3
    go_wp2_with fail
    go_ret
    exact ⟨_, rfl, HR3.out, HK3.out⟩

end Go.Proofs.Ytjcobogajkfnmaa

/-
  Layer 9: Clone.
-/
namespace Go.Proofs.Ytjcobogajkfnmaa
open Go.RowKit Go.Maps

/-- Is a file among a disk's? -/
def refd (s : Ds) (f : Nat) : Prop := (∃ p ∈ s.names, p.2 = f) ∨ (∃ p ∈ s.safe, p.2 = f) ∨ ∃ c ∈ s.chg, c.f = f

/-- A state over other files. -/
structure ClnS (τ : Nat → Nat) (s s' : Ds) : Prop where
  room : s'.room = s.room
  steps : s'.steps = s.steps
  left : s'.left = s.left
  names : s'.names = mapF τ s.names
  safe : s'.safe = mapF τ s.safe
  chg : s'.chg = s.chg.map (fun c => ⟨c.src, c.dst, τ c.f⟩)
  fl : ∀ f, refd s f → s'.fl (τ f) = s.fl f
  inj : ∀ f g, refd s f → refd s g → τ f = τ g → f = g

def srcT (T : Tws) (t : Nat) : Nat := ((T.find? (fun p => decide (p.2 = t))).map (·.1)).getD 0

theorem srcT_of {T : Tws} (h : T.Pairwise (fun p q => p.2 ≠ q.2)) {f t : Nat} (hm : (f, t) ∈ T) : srcT T t = f := by
  unfold srcT
  induction T with
  | nil => cases hm
  | cons p T ih =>
    rw [List.pairwise_cons] at h
    rcases List.mem_cons.1 hm with e | e
    · rw [← e, List.find?_cons_of_pos (by simp)]; rfl
    · rw [List.find?_cons_of_neg (by simp; exact h.1 _ e)]
      exact ih h.2 e

theorem getT_mem {T : Tws} {f t : Nat} (h : getT f T = some t) : (f, t) ∈ T := by
  unfold getT at h
  cases hf : T.find? (fun p => decide (p.1 = f)) with
  | none => rw [hf] at h; cases h
  | some p =>
    rw [hf] at h
    simp only [Option.map_some, Option.some.injEq] at h
    have h1 := List.find?_some hf
    have h2 := List.mem_of_find?_eq_some hf
    simp only [decide_eq_true_eq] at h1
    rw [← h1, ← h]
    exact h2

/-- The state of a disk's clone. -/
def clnD (s : Ds) (T : Tws) : Ds := ⟨s.room, mapF (tau T) s.names, mapF (tau T) s.safe, s.chg.map (fun c => ⟨c.src, c.dst, tau T c.f⟩), s.steps, s.left, fun t => s.fl (srcT T t)⟩

section
variable {N : Nat} {w0 w : World} {d : Nat} {s : Ds} {ρ σ : Rho} {nb sb : Nat} {cv : Value} {mb : Nat} {T : Tws}

theorem TwS.tau (h : TwS w0 w s ρ σ mb T) {f t : Nat} (hg : getT f T = some t) : Go.Proofs.Ytjcobogajkfnmaa.tau T f = t ∧ σ t = 5 ∧ srcT T t = f := by
  have hm := getT_mem hg
  exact ⟨by unfold Go.Proofs.Ytjcobogajkfnmaa.tau; rw [hg]; rfl, h.is5 _ hm, srcT_of h.inj hm⟩

theorem TwS.cln (h : TwS w0 w s ρ σ mb T) (hr : ∀ f, refd s f → ∃ t, getT f T = some t) : ClnS (Go.Proofs.Ytjcobogajkfnmaa.tau T) s (clnD s T) := by
  refine ⟨rfl, rfl, rfl, rfl, rfl, rfl, fun f hf => ?_, fun f g hf hg e => ?_⟩
  · obtain ⟨t, ht⟩ := hr f hf
    have h1 := h.tau ht
    show s.fl (srcT T (Go.Proofs.Ytjcobogajkfnmaa.tau T f)) = s.fl f
    rw [h1.1, h1.2.2]
  · obtain ⟨t, ht⟩ := hr f hf
    obtain ⟨u, hu⟩ := hr g hg
    have h1 := h.tau ht
    have h2 := h.tau hu
    rw [← h1.2.2, ← h2.2.2, ← h1.1, ← h2.1, e]

/-- The clone as it lies in memory. -/
theorem TwS.disk (h : TwS w0 w s ρ σ mb T) (hD : Dk N w0 d s ρ nb sb cv) (hr : ∀ f, refd s f → ∃ t, getT f T = some t) {x n2 s2 : Nat} {cv2 : Value}
    (hb : Blk w x #[.int .i64 (s.room : Nat), .map (some n2), .map (some s2), cv2, .int .i64 (s.steps : Nat), .int .i64 s.left] 62)
    (hn : Mp w n2 (mapF (Go.Proofs.Ytjcobogajkfnmaa.tau T) s.names)) (hs : Mp w s2 (mapF (Go.Proofs.Ytjcobogajkfnmaa.tau T) s.safe)) (hc : RowC w0.heap.size 78 3 chE w cv2 (s.chg.map (fun c => ⟨c.src, c.dst, Go.Proofs.Ytjcobogajkfnmaa.tau T c.f⟩)))
    (h0 : σ x = 0 ∧ σ n2 = 0 ∧ σ s2 = 0 ∧ ∀ k, cv2.ownBlock = some k → σ k = 0) (hlo : w0.heap.size ≤ x ∧ w0.heap.size ≤ n2 ∧ w0.heap.size ≤ s2) (hne : x ≠ n2 ∧ x ≠ s2 ∧ n2 ≠ s2 ∧ ∀ k, cv2.ownBlock = some k → k ≠ x ∧ k ≠ n2 ∧ k ≠ s2) :
    ∃ ρ', Dk w0.heap.size w x (clnD s T) ρ' n2 s2 cv2 := by
  refine ⟨fun k => if k = x then 1 else if k = n2 then 2 else if k = s2 then 3 else if cv2.ownBlock = some k then 4 else σ k, ?_⟩
  have toR : ∀ k y, σ k = y → y ≠ 0 → (if k = x then 1 else if k = n2 then 2 else if k = s2 then 3 else if cv2.ownBlock = some k then 4 else σ k) = y := fun k y e hy => by
    rw [if_neg (fun e2 => by rw [e2, h0.1] at e; omega), if_neg (fun e2 => by rw [e2, h0.2.1] at e; omega), if_neg (fun e2 => by rw [e2, h0.2.2.1] at e; omega), if_neg (fun e2 => by rw [h0.2.2.2 k e2] at e; omega)]
    exact e
  have fro : ∀ k, (if k = x then 1 else if k = n2 then 2 else if k = s2 then 3 else if cv2.ownBlock = some k then 4 else σ k) = 5 → σ k = 5 := fun k e => by
    revert e
    split
    · omega
    · split
      · omega
      · split
        · omega
        · split
          · omega
          · exact id
  have ok : ∀ f, refd s f → σ (Go.Proofs.Ytjcobogajkfnmaa.tau T f) = 5 := fun f hf => by
    obtain ⟨t, ht⟩ := hr f hf
    have h1 := h.tau ht
    rw [h1.1]; exact h1.2.1
  have src5 : ∀ t, σ t = 5 → ∃ g, (g, t) ∈ T ∧ srcT T t = g := fun t ht => by
    obtain ⟨g, hg⟩ := h.of5 t ht
    exact ⟨g, hg, srcT_of h.inj hg⟩
  refine ⟨hb, hn, hs, hc, fun f hf => ?_, fun f hf => ?_, fun p hp => ?_, fun p hp => ?_, fun c hc => ?_, if_pos rfl, ?_, ?_, fun k e => ?_, fun k hk => ?_, hD.room, ?_, hD.left, ⟨fun c hc => ?_, fun p hp => ?_, fun p hp => ?_⟩⟩
  · obtain ⟨g, hg, hsg⟩ := src5 f (fro f hf)
    obtain ⟨v, g1, g2, g3⟩ := h.fil (g, f) hg
    show FlAt w _ f (s.fl (srcT T f))
    rw [hsg]
    exact ⟨v, g1, g2, fun k e => toR _ _ (g3 k e) (by omega)⟩
  · obtain ⟨g, hg, hsg⟩ := src5 f (fro f hf)
    show (s.fl (srcT T f)).safe ≤ (s.fl (srcT T f)).bs.length ∧ (s.fl (srcT T f)).bs.length ≤ s.room ∧ ∀ b ∈ (s.fl (srcT T f)).bs, b < 256
    rw [hsg]
    exact hD.okf g (h.key _ hg)
  · obtain ⟨q, hq, rfl⟩ := List.mem_map.1 hp
    exact toR _ _ (ok q.2 (.inl ⟨q, hq, rfl⟩)) (by decide)
  · obtain ⟨q, hq, rfl⟩ := List.mem_map.1 hp
    exact toR _ _ (ok q.2 (.inr (.inl ⟨q, hq, rfl⟩))) (by decide)
  · obtain ⟨q, hq, rfl⟩ := List.mem_map.1 hc
    exact toR _ _ (ok q.f (.inr (.inr ⟨q, hq, rfl⟩))) (by decide)
  · show (if n2 = x then 1 else if n2 = n2 then 2 else _) = 2
    rw [if_neg (fun e => hne.1 e.symm), if_pos rfl]
  · show (if s2 = x then 1 else if s2 = n2 then 2 else if s2 = s2 then 3 else _) = 3
    rw [if_neg (fun e => hne.2.1 e.symm), if_neg (fun e => hne.2.2.1 e.symm), if_pos rfl]
  · have h9 := hne.2.2.2 k e
    show (if k = x then 1 else if k = n2 then 2 else if k = s2 then 3 else if cv2.ownBlock = some k then 4 else σ k) = 4
    rw [if_neg h9.1, if_neg h9.2.1, if_neg h9.2.2, if_pos e]
  · revert hk
    show (if k = x then 1 else if k = n2 then 2 else if k = s2 then 3 else if cv2.ownBlock = some k then 4 else σ k) ≠ 0 → _
    split
    · rename_i e; intro _; rw [e]; exact ⟨hlo.1, hb.lt⟩
    · split
      · rename_i e; intro _; rw [e]; exact ⟨hlo.2.1, hn.lt⟩
      · split
        · rename_i e; intro _; rw [e]; exact ⟨hlo.2.2, hs.lt⟩
        · split
          · rename_i e; intro _; exact ⟨RowC.ge hc e, RowC.lt hc e⟩
          · exact h.new k
  · have h9 := hD.lens
    show (mapF _ s.names).length ≤ s.steps ∧ (mapF _ s.safe).length + (s.chg.map _).length ≤ s.steps
    unfold mapF
    rw [List.length_map, List.length_map, List.length_map]
    exact h9
  · obtain ⟨q, hq, rfl⟩ := List.mem_map.1 hc
    exact hD.txs.1 q hq
  · obtain ⟨q, hq, rfl⟩ := List.mem_map.1 hp
    exact hD.txs.2.1 q hq
  · obtain ⟨q, hq, rfl⟩ := List.mem_map.1 hp
    exact hD.txs.2.2 q hq

end

end Go.Proofs.Ytjcobogajkfnmaa

/-
  Layer 9: Clone, the walk.
-/
namespace Go.Proofs.Ytjcobogajkfnmaa
open Go.RowKit Go.Maps

theorem flat_setc : ∀ (xs : List Chg) (i f : Nat) (hi : i < xs.length), (xs.flatMap chE).set (i * 3 + 2) (.pointer (some ⟨f, 0, none⟩)) = (xs.set i ⟨xs[i].src, xs[i].dst, f⟩).flatMap chE
  | [], i, f, hi => by simp at hi
  | x :: xs, 0, f, _ => by simp [chE]
  | x :: xs, i + 1, f, hi => by
    have h1 := flat_setc xs i f (by simp at hi; omega)
    rw [List.flatMap_cons, List.set_cons_succ, List.flatMap_cons, List.getElem_cons_succ, ← h1]
    have e : (i + 1) * 3 + 2 = (i * 3 + 2) + 1 + 1 + 1 := by omega
    rw [e]
    rfl

/-- One cell of a row's element written anew. -/
theorem RowC.setc {B : Nat} {w : World} {g n cap : Nat} {xs : List Chg} (h : RowC B 78 3 chE w (.slice (some ⟨g, 0, none⟩) n cap) xs) (i f : Nat) (hi : i < xs.length) :
    RowC B 78 3 chE (w.setCell ⟨g, i * 3 + 2, none⟩ (.pointer (some ⟨f, 0, none⟩))) (.slice (some ⟨g, 0, none⟩) n cap) (xs.set i ⟨xs[i].src, xs[i].dst, f⟩) := by
  have hl := h.len
  subst hl
  have h1 := (World.ownsRow.stored h (i * 3 + 2) (.pointer (some ⟨f, 0, none⟩))).1
  rw [flat_setc xs i f hi] at h1
  unfold RowC
  rw [List.length_set]
  exact h1

/-- Changes of which the first some have other files. -/
def chM (τ : Nat → Nat) (i : Nat) (cs : List Chg) : List Chg := (cs.take i).map (fun c => ⟨c.src, c.dst, τ c.f⟩) ++ cs.drop i

theorem chM_len (τ : Nat → Nat) (i : Nat) (cs : List Chg) (h : i ≤ cs.length) : (chM τ i cs).length = cs.length := by
  unfold chM
  rw [List.length_append, List.length_map, List.length_take, List.length_drop]
  omega

theorem chM_next (τ : Nat → Nat) (i : Nat) (cs : List Chg) (h : i < cs.length) : (chM τ i cs).set i ⟨cs[i].src, cs[i].dst, τ cs[i].f⟩ = chM τ (i + 1) cs := by
  unfold chM
  have hl : ((cs.take i).map (fun c => (⟨c.src, c.dst, τ c.f⟩ : Chg))).length = i := by rw [List.length_map, List.length_take]; omega
  rw [List.set_append_right _ _ (by omega), hl, Nat.sub_self, List.drop_eq_getElem_cons h, List.set_cons_zero, List.take_add_one, List.getElem?_eq_getElem h, List.map_append, List.append_assoc]
  rfl

theorem chM_at (τ : Nat → Nat) (i : Nat) (cs : List Chg) (h : i < cs.length) : (chM τ i cs)[i]'(by rw [chM_len τ i cs (by omega)]; exact h) = cs[i] := by
  unfold chM
  have hl : ((cs.take i).map (fun c => (⟨c.src, c.dst, τ c.f⟩ : Chg))).length = i := by rw [List.length_map, List.length_take]; omega
  have e : ∀ (l : List Chg) (k : Nat) (h : k < (l ++ cs.drop i).length), l.length = i → k = i → (l ++ cs.drop i)[k] = cs[i] := fun l k h e1 e2 => by
    subst e2
    rw [List.getElem_append_right (by omega)]
    simp only [e1, Nat.sub_self, List.getElem_drop, Nat.add_zero]
  exact e _ i _ hl rfl

theorem chM_congr {τ τ' : Nat → Nat} (i : Nat) (cs : List Chg) (h : ∀ c ∈ cs.take i, τ' c.f = τ c.f) : chM τ' i cs = chM τ i cs := by
  unfold chM
  congr 1
  exact List.map_congr_left (fun c hc => by rw [h c hc])

end Go.Proofs.Ytjcobogajkfnmaa

/-
  Layer 9: Clone, the walk.
-/
namespace Go.Proofs.Ytjcobogajkfnmaa
open Go.RowKit Go.Maps

/-- What Clone tells. -/
def ClnA (w : World) (s : Ds) (e : Ending) (w' : World) : Prop :=
  ∃ x s' ρ' n2 s2 cv2 τ, e = .returned (.pointer (some ⟨x, 0, none⟩)) ∧ Dk w.heap.size w' x s' ρ' n2 s2 cv2 ∧ Same w w' ∧ ClnS τ s s'

section
variable {N : Nat} {w : World} {d : Nat} {s : Ds} {ρ : Rho} {nb sb : Nat} {cv : Value}

set_option maxRecDepth 100000 in
set_option maxHeartbeats 1000000 in
theorem dclone_any (h : Dk N w d s ρ nb sb cv) (hst : s.steps ≤ 1000000) :
    Calls Try.prog 13 #[.pointer (some ⟨d, 0, none⟩)] w fun e w' => ClnA w s e w' := by
  obtain ⟨a3, n3, q3, hcv⟩ : ∃ a n q, cv = .slice a n q := by
    obtain ⟨a, q, e, _⟩ := h.ch.shape
    exact ⟨a, _, q, e⟩
  subst hcv
  have HD : Hid (Dk N w d s ρ nb sb (.slice a3 n3 q3)) := h
  obtain ⟨mb, hmb⟩ : ∃ m, m = w.heap.size := ⟨_, rfl⟩
  obtain ⟨w1, hw1⟩ : ∃ W, W = w.alloc (.map #[] 0) := ⟨_, rfl⟩
  obtain ⟨tb, htb⟩ : ∃ m, m = w1.heap.size := ⟨_, rfl⟩
  obtain ⟨w2, hw2⟩ : ∃ W, W = w1.alloc (.cells #[.map (some mb)] 69) := ⟨_, rfl⟩
  obtain ⟨x, hx⟩ : ∃ m, m = w2.heap.size := ⟨_, rfl⟩
  obtain ⟨rm, hrm⟩ : ∃ n, n = s.room := ⟨_, rfl⟩
  obtain ⟨st, hstp⟩ : ∃ n, n = s.steps := ⟨_, rfl⟩
  obtain ⟨lf, hlf⟩ : ∃ n, n = s.left := ⟨_, rfl⟩
  have hB := h.blk
  rw [← hrm, ← hstp, ← hlf] at hB
  obtain ⟨w3, hw3⟩ : ∃ W, W = w2.alloc (.cells #[.int .i64 (rm : Nat), .map (some nb), .map (some sb), .slice a3 n3 q3, .int .i64 (st : Nat), .int .i64 lf] 62) := ⟨_, rfl⟩
  have k1 : Same w w1 := by rw [hw1]; exact (Kept.refl _ w).alloc _
  have k2 : Same w1 w2 := by rw [hw2]; exact (Kept.refl _ w1).alloc _
  have k3 : Same w2 w3 := by rw [hw3]; exact (Kept.refl _ w2).alloc _
  have k13 : Same w w3 := Same.trans k1 (Same.trans k2 k3)
  have s1 : w1.heap.size = w.heap.size + 1 := by rw [hw1]; exact Array.size_push ..
  have s2 : w2.heap.size = w1.heap.size + 1 := by rw [hw2]; exact Array.size_push ..
  have s3 : w3.heap.size = w2.heap.size + 1 := by rw [hw3]; exact Array.size_push ..
  have HN : Hid (mb = w.heap.size ∧ tb = w.heap.size + 1 ∧ x = w.heap.size + 2 ∧ w3.heap.size = w.heap.size + 3) := hid ⟨hmb, by omega, by omega, by omega⟩
  have htb2 : Hid (mb + 1 = tb) := hid (by omega)
  have HT3 : Hid (TwS w w3 s ρ (fun _ => 0) mb []) := hid (by
    refine ⟨?_, k13, by simp, by simp, by simp, by simp, fun k => .inl rfl, fun k h => absurd rfl h, List.Pairwise.nil, by simp, rfl, by omega⟩
    have h9 : TwM w1 mb [] := by rw [hw1, hmb]; exact TwM.new w
    exact (h9.kept k2 (fun f => f)).kept k3 (fun f => f))
  have HB3 : Hid (Blk w3 x #[.int .i64 (rm : Nat), .map (some nb), .map (some sb), .slice a3 n3 q3, .int .i64 (st : Nat), .int .i64 lf] 62) := hid (by rw [hw3, hx]; exact Blk.new w2 _ _)
  have HTB : Hid (Blk w3 tb #[.map (some mb)] 69) := hid (by
    have h9 : Blk w2 tb #[.map (some mb)] 69 := by rw [hw2, htb]; exact Blk.new w1 _ _
    exact h9.kept k3 (fun f => f))
  have HQ : Hid (rm = s.room ∧ st = s.steps ∧ lf = s.left ∧ s.steps ≤ 1000000) := hid ⟨hrm, hstp, hlf, hst⟩
  have HK13 : Hid (Same w w3) := k13
  have d0 : w2.cell? ⟨d, 0, none⟩ = some (.int .i64 (rm : Nat)) := (hB.kept (Same.trans k1 k2) (fun f => f)).cell 0
  have d1 : w2.cell? ⟨d, 1, none⟩ = some (.map (some nb)) := (hB.kept (Same.trans k1 k2) (fun f => f)).cell 1
  have d2 : w2.cell? ⟨d, 2, none⟩ = some (.map (some sb)) := (hB.kept (Same.trans k1 k2) (fun f => f)).cell 2
  have d3 : w2.cell? ⟨d, 3, none⟩ = some (.slice a3 n3 q3) := (hB.kept (Same.trans k1 k2) (fun f => f)).cell 3
  have d4 : w2.cell? ⟨d, 4, none⟩ = some (.int .i64 (st : Nat)) := (hB.kept (Same.trans k1 k2) (fun f => f)).cell 4
  have d5 : w2.cell? ⟨d, 5, none⟩ = some (.int .i64 lf) := (hB.kept (Same.trans k1 k2) (fun f => f)).cell 5
  have e1 : w3.cell? ⟨d, 1, none⟩ = some (.map (some nb)) := (hB.kept k13 (fun f => f)).cell 1
  have hmm := @run_makeMap Try.prog
  have HDB : Hid (Blk w d #[.int .i64 (rm : Nat), .map (some nb), .map (some sb), .slice a3 n3 q3, .int .i64 (st : Nat), .int .i64 lf] 62) := hB
  have hlen := h.lens
  have HRN := drenew_any h HT3.out tb nb s.names h.nm h.nmf h.txs.2.1 (by omega) (HTB.out.cell 0) (by omega) (by omega)
  clear h hB hst k1 k2 k3 k13 s1 s2 s3 hrm hstp hlf hlen
  go_enter Try.func13, Try.ntmps13
  go_upto_region 4 with fail
  rw [← hmb, ← hw1, htb2.out, ← hw2]
  clear hmb hw1 htb hw2
  go_upto_region 6 with fail
  rw [← hx, ← hw3]
  clear hx hw3 d0 d1 d2 d3 d4 d5 hmm
  go_wp2_with fail
  refine HRN.mono ?_
  rintro e w4 ⟨T4, σ4, o4, rfl, h4⟩
  have hn := HN.out
  have hq := HQ.out
  have hmx : ¬ x = mb ∧ ¬ tb = mb ∧ ¬ x = tb := by omega
  have B4 : Blk w4 x #[.int .i64 (rm : Nat), .map (some nb), .map (some sb), .slice a3 n3 q3, .int .i64 (st : Nat), .int .i64 lf] 62 := HB3.out.kept h4.2.2.2.2.1 hmx.1
  have z1 := B4.frozen 1
  have f1 : w4.cell? ⟨x, 1, none⟩ = some (.map (some nb)) := B4.cell 1
  obtain ⟨w5, hw5⟩ : ∃ W, W = w4.setCell ⟨x, 1, none⟩ (.map (some o4)) := ⟨_, rfl⟩
  have k5 : Kept (· = x) w4 w5 := by rw [hw5]; exact (Kept.refl (· = x) w4).setCell _ _ (.inl rfl)
  have hσ4 : ∀ k, k < w3.heap.size → σ4 k = 0 := fun k hk => h4.2.2.2.1.2 k hk
  have T5 : TwS w w5 s ρ σ4 mb T4 := h4.1.kept k5 (fun k e => by rw [e]; exact ⟨by omega, hσ4 x (by omega), hmx.1⟩)
  have HB5 : Hid (Blk w5 x #[.int .i64 (rm : Nat), .map (some o4), .map (some sb), .slice a3 n3 q3, .int .i64 (st : Nat), .int .i64 lf] 62) := hid (by
    rw [hw5]
    have h9 := B4.set 1 (.map (some o4))
    simpa using h9)
  have hx4 : ¬ o4 = x ∧ ¬ o4 = mb := by have := h4.2.2.2.2.2.1; omega
  have HM5 : Hid (Mp w5 o4 (mapF (tau T4) s.names) ∧ (∀ p ∈ s.names, ∃ t, getT p.2 T4 = some t) ∧ w3.heap.size ≤ o4 ∧ σ4 o4 = 0 ∧ (∀ k, k < w3.heap.size → σ4 k = 0) ∧ w3.heap.size ≤ w5.heap.size) := hid ⟨h4.2.1.kept k5 hx4.1, h4.2.2.1, h4.2.2.2.2.2.1, h4.2.2.2.2.2.2, hσ4, Nat.le_trans h4.2.2.2.2.1.size k5.size⟩
  have HT5 : Hid (TwS w w5 s ρ σ4 mb T4) := T5
  have TB5 : Blk w5 tb #[.map (some mb)] 69 := (HTB.out.kept h4.2.2.2.2.1 hmx.2.1).kept k5 (fun e => hmx.2.2 e.symm)
  have HTB5 : Hid (Blk w5 tb #[.map (some mb)] 69) := TB5
  have g2 : w5.cell? ⟨d, 2, none⟩ = some (.map (some sb)) := (HDB.out.kept T5.old (fun f => f)).cell 2
  have HRS := drenew_any HD.out T5 tb sb s.safe HD.out.sf HD.out.sff HD.out.txs.2.2 (by have := HD.out.lens; omega) (TB5.cell 0) hmx.2.1 (by omega)
  clear h4 hn hq hmx B4 k5 hσ4 T5 hx4 TB5 HRN e1
  go_upto_region 7 with fail
  rw [← hw5]
  clear hw5 z1 f1
  go_wp2_with fail
  refine HRS.mono ?_
  rintro e w6 ⟨T6, σ6, o6, rfl, h6⟩
  have hn := HN.out
  have hm5 := HM5.out
  have hmx : ¬ x = mb ∧ ¬ tb = mb ∧ ¬ x = tb := by omega
  have B6 : Blk w6 x #[.int .i64 (rm : Nat), .map (some o4), .map (some sb), .slice a3 n3 q3, .int .i64 (st : Nat), .int .i64 lf] 62 := HB5.out.kept h6.2.2.2.2.1 hmx.1
  have z2 := B6.frozen 2
  have f2 : w6.cell? ⟨x, 2, none⟩ = some (.map (some sb)) := B6.cell 2
  obtain ⟨w7, hw7⟩ : ∃ W, W = w6.setCell ⟨x, 2, none⟩ (.map (some o6)) := ⟨_, rfl⟩
  have k7 : Kept (· = x) w6 w7 := by rw [hw7]; exact (Kept.refl (· = x) w6).setCell _ _ (.inl rfl)
  have hσ6 : ∀ k, k < w5.heap.size → σ6 k = σ4 k := fun k hk => h6.2.2.2.1.2 k hk
  have T7 : TwS w w7 s ρ σ6 mb T6 := h6.1.kept k7 (fun k e => by rw [e]; exact ⟨by omega, by rw [hσ6 x (by omega)]; exact hm5.2.2.2.2.1 x (by omega), hmx.1⟩)
  have HB7 : Hid (Blk w7 x #[.int .i64 (rm : Nat), .map (some o4), .map (some o6), .slice a3 n3 q3, .int .i64 (st : Nat), .int .i64 lf] 62) := hid (by
    rw [hw7]
    have h9 := B6.set 2 (.map (some o6))
    simpa using h9)
  have ho6 : ¬ o6 = x ∧ ¬ o6 = mb ∧ ¬ o6 = o4 := by have := h6.2.2.2.2.2.1; have := hm5.1.lt; omega
  have ho4 : ¬ o4 = x ∧ ¬ o4 = mb := by omega
  have he4 : mapF (tau T6) s.names = mapF (tau T4) s.names := List.map_congr_left (fun p hp => by
    obtain ⟨t, ht⟩ := hm5.2.1 p hp
    unfold tau
    rw [ht, h6.2.2.2.1.1 _ _ ht])
  have HM7 : Hid (Mp w7 o4 (mapF (tau T6) s.names) ∧ Mp w7 o6 (mapF (tau T6) s.safe) ∧ (∀ p ∈ s.names, ∃ t, getT p.2 T6 = some t) ∧ (∀ p ∈ s.safe, ∃ t, getT p.2 T6 = some t) ∧ (¬ o4 = x ∧ ¬ o4 = mb) ∧ (¬ o6 = x ∧ ¬ o6 = mb ∧ ¬ o6 = o4) ∧ (w.heap.size ≤ o4 ∧ w.heap.size ≤ o6) ∧ (σ6 o4 = 0 ∧ σ6 o6 = 0 ∧ σ6 x = 0) ∧ w3.heap.size ≤ w7.heap.size) := hid ⟨by rw [he4]; exact (hm5.1.kept h6.2.2.2.2.1 ho4.2).kept k7 ho4.1, h6.2.1.kept k7 ho6.1, fun p hp => by obtain ⟨t, ht⟩ := hm5.2.1 p hp; exact ⟨t, h6.2.2.2.1.1 _ _ ht⟩, h6.2.2.1, ho4, ho6, ⟨by omega, by have := h6.2.2.2.2.2.1; omega⟩, ⟨by rw [hσ6 o4 hm5.1.lt]; exact hm5.2.2.2.1, h6.2.2.2.2.2.2, by rw [hσ6 x (by omega)]; exact hm5.2.2.2.2.1 x (by omega)⟩, Nat.le_trans hm5.2.2.2.2.2 (Nat.le_trans h6.2.2.2.2.1.size k7.size)⟩
  have HT7 : Hid (TwS w w7 s ρ σ6 mb T6) := T7
  have HTB7 : Hid (Blk w7 tb #[.map (some mb)] 69) := hid ((HTB5.out.kept h6.2.2.2.2.1 hmx.2.1).kept k7 (fun e => hmx.2.2 e.symm))
  have g3 : w7.cell? ⟨d, 3, none⟩ = some (.slice a3 n3 q3) := (HDB.out.kept T7.old (fun f => f)).cell 3
  have hln := HD.out.lens
  have HCL := dchclone_any w7 N (.slice a3 n3 q3) s.chg (HD.out.ch.kept T7.old (fun _ _ f => f)) (by have := HQ.out; omega)
  clear h6 hn hm5 hmx B6 k7 hσ6 T7 ho6 ho4 he4 hln HRS g2
  go_upto_region 8 with fail
  rw [← hw7]
  clear hw7 z2 f2
  go_wp2_with fail
  refine HCL.mono ?_
  rintro e w8 ⟨v8, rfl, h8⟩
  obtain ⟨a8, q8, hv8, hg8, _⟩ := h8.1.shape
  have hn3 : n3 = s.chg.length := by
    obtain ⟨a, q, e, _⟩ := HD.out.ch.shape
    simp only [Value.slice.injEq] at e
    exact e.2.1
  rw [← hn3] at hv8
  subst hv8
  have hm7 := HM7.out
  have hn := HN.out
  have B8 : Blk w8 x #[.int .i64 (rm : Nat), .map (some o4), .map (some o6), .slice a3 n3 q3, .int .i64 (st : Nat), .int .i64 lf] 62 := HB7.out.kept h8.2 (fun f => f)
  have z3 := B8.frozen 3
  have f3 : w8.cell? ⟨x, 3, none⟩ = some (.slice a3 n3 q3) := B8.cell 3
  obtain ⟨w9, hw9⟩ : ∃ W, W = w8.setCell ⟨x, 3, none⟩ (.slice a8 n3 q8) := ⟨_, rfl⟩
  have k9 : Kept (· = x) w8 w9 := by rw [hw9]; exact (Kept.refl (· = x) w8).setCell _ _ (.inl rfl)
  have hx7 : x < w7.heap.size := HB7.out.lt
  have hown : ∀ k, (Value.slice a8 n3 q8).ownBlock = some k → w7.heap.size ≤ k := fun k e => RowC.ge h8.1 e
  have HB9 : Hid (Blk w9 x #[.int .i64 (rm : Nat), .map (some o4), .map (some o6), .slice a8 n3 q8, .int .i64 (st : Nat), .int .i64 lf] 62) := hid (by
    rw [hw9]
    have h9 := B8.set 3 (.slice a8 n3 q8)
    simpa using h9)
  have HT9 : Hid (TwS w w9 s ρ σ6 mb T6) := hid ((HT7.out.same h8.2).kept k9 (fun k e => by rw [e]; exact ⟨by omega, hm7.2.2.2.2.2.2.2.1.2.2, by omega⟩))
  have HM9 : Hid (Mp w9 o4 (mapF (tau T6) s.names) ∧ Mp w9 o6 (mapF (tau T6) s.safe)) := hid ⟨(hm7.1.kept h8.2 (fun f => f)).kept k9 hm7.2.2.2.2.1.1, (hm7.2.1.kept h8.2 (fun f => f)).kept k9 hm7.2.2.2.2.2.1.1⟩
  have HR9 : Hid (RowC w.heap.size 78 3 chE w9 (.slice a8 n3 q8) s.chg ∧ (∀ k, (Value.slice a8 n3 q8).ownBlock = some k → w7.heap.size ≤ k) ∧ (s.chg ≠ [] → ∃ g, a8 = some ⟨g, 0, none⟩) ∧ n3 = s.chg.length ∧ w7.heap.size ≤ w9.heap.size) := hid ⟨(h8.1.base (by omega)).kept k9 (fun k e e2 => by have := hown k e; omega), hown, hg8, hn3, Nat.le_trans h8.2.size k9.size⟩
  have HTB9 : Hid (Blk w9 tb #[.map (some mb)] 69) := hid ((HTB7.out.kept h8.2 (fun f => f)).kept k9 (fun e => by omega))
  have g3 : w9.cell? ⟨d, 3, none⟩ = some (.slice a3 n3 q3) := (HDB.out.kept HT9.out.old (fun f => f)).cell 3
  clear h8 hg8 hn3 hm7 hn B8 k9 hx7 hown HCL
  go_upto_region 9 with fail
  rw [← hw9]
  clear hw9 z3 f3
  go_wp2_with fail
  go_loopg [40] n3 (fun qq z wr => ∃ (i : Nat) (T : Tws) (σ : Rho), z = .int .i64 (i : Nat) ∧ i ≤ n3 ∧ n3 - i ≤ qq ∧ Hid (TwS w wr s ρ σ mb T ∧ MoT w9 σ6 σ T6 T ∧ RowC w.heap.size 78 3 chE wr (.slice a8 n3 q8) (chM (tau T) i s.chg) ∧ (∀ c ∈ s.chg.take i, ∃ t, getT c.f T = some t) ∧ Kept (fun k => k = mb ∨ (Value.slice a8 n3 q8).ownBlock = some k) w9 wr))
  case atStart =>
    refine ⟨0, T6, σ6, rfl, by omega, by omega, hid ⟨HT9.out, MoT.refl _ _ _, HR9.out.1, by simp, Kept.refl _ _⟩⟩
  case round =>
    obtain ⟨i, T, σ, rfl, hi3, hiq, HI⟩ := hrel
    by_cases hlt : i < n3
    · have b1 : decide (i < n3) = true := by simp; omega
      have hr9 := HR9.out
      have hm7 := HM7.out
      have hn := HN.out
      have hil : i < s.chg.length := by omega
      obtain ⟨c, hc⟩ : ∃ c, c = s.chg[i] := ⟨_, rfl⟩
      have hcm : c ∈ s.chg := by rw [hc]; exact List.getElem_mem _
      have hne : s.chg ≠ [] := fun e => by rw [e] at hil; simp at hil
      obtain ⟨g8, hg8⟩ := hr9.2.2.1 hne
      subst hg8
      obtain ⟨g3', hg3⟩ : ∃ g, a3 = some ⟨g, 0, none⟩ := by
        obtain ⟨a, q, e, h8, _⟩ := HD.out.ch.shape
        simp only [Value.slice.injEq] at e
        obtain ⟨g, hg⟩ := h8 hne
        exact ⟨g, by rw [e.1, hg]⟩
      subst hg3
      have hRr : RowC N 78 3 chE wr (.slice (some ⟨g3', 0, none⟩) n3 q3) s.chg := HD.out.ch.kept HI.out.1.old (fun _ _ f => f)
      have c0 : wr.cell? ⟨g3', i * 3, none⟩ = some (.string c.src) := by have h9 := hRr.cell chE_ok i 0 (by omega) (by decide); rw [← hc] at h9; exact h9
      have c1 : wr.cell? ⟨g3', i * 3 + 1, none⟩ = some (.string c.dst) := by have h9 := hRr.cell chE_ok i 1 (by omega) (by decide); rw [← hc] at h9; exact h9
      have c2 : wr.cell? ⟨g3', i * 3 + 2, none⟩ = some (.pointer (some ⟨c.f, 0, none⟩)) := by have h9 := hRr.cell chE_ok i 2 (by omega) (by decide); rw [← hc] at h9; exact h9
      have i1 : (0 : Int) ≤ (i : Int) := by omega
      have i2 : (i : Int) < (n3 : Int) := by omega
      have hiw : IntKind.i64.wrap ((i : Int) + 1) = ((i + 1 : Nat) : Int) := by rw [IntKind.wrap_i64]; have := HD.out.lens; have := HQ.out; omega
      obtain ⟨wA, hwA⟩ : ∃ W, W = wr.alloc (.cells #[.string c.src, .string c.dst, .pointer (some ⟨c.f, 0, none⟩)] 78) := ⟨_, rfl⟩
      obtain ⟨cb, hcb⟩ : ∃ b, b = wr.heap.size := ⟨_, rfl⟩
      have kA : Same wr wA := by rw [hwA]; exact (Kept.refl _ wr).alloc _
      have BA : Blk wA cb #[.string c.src, .string c.dst, .pointer (some ⟨c.f, 0, none⟩)] 78 := by rw [hwA, hcb]; exact Blk.new wr _ _
      have hgb : w7.heap.size ≤ g8 := hr9.2.1 g8 rfl
      have hg9 : g8 < w9.heap.size := RowC.lt hr9.1 rfl
      have hx7 : x < w7.heap.size := HB7.out.lt
      have ht7 : tb < w7.heap.size := HTB7.out.lt
      have hw9s := HI.out.2.2.2.2.size
      have hnx : ¬ (x = mb ∨ (Value.slice (some ⟨g8, 0, none⟩) n3 q8).ownBlock = some x) := fun e => by
        rcases e with e | e
        · omega
        · simp only [Value.ownBlock, Option.some.injEq] at e; omega
      have hnt : ¬ (tb = mb ∨ (Value.slice (some ⟨g8, 0, none⟩) n3 q8).ownBlock = some tb) := fun e => by
        rcases e with e | e
        · omega
        · simp only [Value.ownBlock, Option.some.injEq] at e; omega
      have BX := (HB9.out.kept HI.out.2.2.2.2 hnx).kept kA (fun f => f)
      have BT := (HTB9.out.kept HI.out.2.2.2.2 hnt).kept kA (fun f => f)
      have x3 : wA.cell? ⟨x, 3, none⟩ = some (.slice (some ⟨g8, 0, none⟩) n3 q8) := BX.cell 3
      have a2 : wA.cell? ⟨cb, 2, none⟩ = some (.pointer (some ⟨c.f, 0, none⟩)) := BA.cell 2
      have TA : TwS w wA s ρ σ mb T := HI.out.1.same kA
      have hgm : ¬ g8 = mb := by omega
      have hcm2 : ¬ cb = mb := by omega
      have HTW : Hid (∀ w', Same wA w' → Calls Try.prog 37 #[.pointer (some ⟨c.f, 0, none⟩), .pointer (some ⟨tb, 0, none⟩)] w' fun e w2 => TwnB w w' s ρ σ mb c.f T e w2) := hid (fun w' hk => dtwin_st HD.out (TA.same hk) tb c.f (HD.out.chf c hcm) ((BT.kept hk (fun f => f)).cell 0) (by omega))
      have HRA : Hid (RowC w.heap.size 78 3 chE wA (.slice (some ⟨g8, 0, none⟩) n3 q8) (chM (tau T) i s.chg)) := hid (HI.out.2.2.1.kept kA (fun _ _ f => f))
      have hlm : (chM (tau T) i s.chg).length = s.chg.length := chM_len _ _ _ (by omega)
      have HCL2 : Hid (∀ w', Kept (· = mb) wA w' → w'.cell? ⟨g8, i * 3 + 2, none⟩ = some (.pointer (some ⟨c.f, 0, none⟩)) ∧ w'.frozen? ⟨g8, i * 3 + 2, none⟩ = false ∧ w'.cell? ⟨x, 3, none⟩ = some (.slice (some ⟨g8, 0, none⟩) n3 q8) ∧ w'.cell? ⟨cb, 2, none⟩ = some (.pointer (some ⟨c.f, 0, none⟩))) := hid (fun w' hk => by
        have h9 := HRA.out.kept hk (fun k e e2 => by simp only [Value.ownBlock, Option.some.injEq] at e; omega)
        refine ⟨?_, h9.frozen _, hk.cell x3 (by dsimp only; omega), hk.cell a2 (by dsimp only; omega)⟩
        have h8 := h9.cell chE_ok i 2 (by omega) (by decide)
        rw [chM_at _ _ _ hil, ← hc] at h8
        exact h8)
      have HX : Hid (i < s.chg.length ∧ s.chg[i]? = some c ∧ cb = wr.heap.size ∧ ¬ g8 = mb ∧ Same wr wA ∧ g8 < w9.heap.size ∧ i < n3) := hid ⟨hil, by rw [List.getElem?_eq_getElem hil, hc], hcb, hgm, kA, hg9, hlt⟩
      have hxg : ¬ x = g8 := by omega
      have hcg : ¬ cb = g8 := by omega
      clear hr9 hm7 hn hc hcm hne hRr kA BA hgb hg9 hx7 ht7 hw9s hnx hnt BX BT TA hgm hcm2 hlm hil
      go_upto_region 12 with fail
      rw [← hwA, ← hcb]
      clear hwA hcb c0 c1 c2
      go_region_held3 (fun w' => w'.cell? ⟨x, 3, none⟩ = some (.slice (some ⟨g8, 0, none⟩) n3 q8) ∧ w'.cell? ⟨cb, 2, none⟩ = some (.pointer (some ⟨c.f, 0, none⟩)))
        (first | (go_split_ands; exact ⟨by assumption, by assumption⟩) | (go_split_ands; exact ⟨((Kept.refl (· = g8) w11).setCell _ _ (.inl rfl)).cell j3 hxg, ((Kept.refl (· = g8) w11).setCell _ _ (.inl rfl)).cell j4 hcg⟩) | go_keep)
        (first
          | (go_at_call 37; refine (HTW.out _ (by first | exact (Kept.refl _ _).drew | exact Kept.refl _ _ | exact (Kept.refl _ _).drewN _)).mono ?_; rintro e w11 ⟨T11, σ11, t11, rfl, h11⟩; unfold ptV; obtain ⟨j1, j2, j3, j4⟩ := HCL2.out w11 (Kept.undrew9 h11.2.2.2)))
      all_goals
        have hx := HX.out
        have h11k := Kept.undrew9 h11.2.2.2
        obtain ⟨w12, hw12⟩ : ∃ W, W = w11.setCell ⟨g8, i * 3 + 2, none⟩ (.pointer (some ⟨t11, 0, none⟩)) := ⟨_, rfl⟩
        have hR11 := HRA.out.kept h11k (fun k e e2 => by simp only [Value.ownBlock, Option.some.injEq] at e; omega)
        have hlm : (chM (tau T) i s.chg).length = s.chg.length := chM_len _ _ _ (by omega)
        have hta : tau T11 c.f = t11 := by unfold tau; rw [h11.2.1]; rfl
        have hci : s.chg[i]'hx.1 = c := by have h9 := hx.2.1; rw [List.getElem?_eq_getElem hx.1] at h9; simpa using h9
        have hR12 : RowC w.heap.size 78 3 chE w12 (.slice (some ⟨g8, 0, none⟩) n3 q8) (chM (tau T11) (i + 1) s.chg) := by
          have h9 := hR11.setc i t11 (by omega)
          rw [chM_at _ _ _ hx.1, ← hw12] at h9
          have e1 : chM (tau T11) i s.chg = chM (tau T) i s.chg := chM_congr i s.chg (fun c' hc' => by
            obtain ⟨u, hu⟩ := HI.out.2.2.2.1 c' hc'
            unfold tau
            rw [hu, h11.2.2.1.1 _ _ hu])
          rw [← e1, ← hta] at h9
          have e2 := chM_next (tau T11) i s.chg hx.1
          rw [hci] at e2 h9
          rw [e2] at h9
          exact h9
        have k12 : Kept (· = g8) w11 w12 := by rw [hw12]; exact (Kept.refl (· = g8) w11).setCell _ _ (.inl rfl)
        have hg0 : σ11 g8 = 0 := by
          have h1 : g8 < wr.heap.size := Nat.lt_of_lt_of_le hx.2.2.2.2.2.1 HI.out.2.2.2.2.size
          have h2 : σ g8 = 0 := by
            rw [HI.out.2.1.2 g8 hx.2.2.2.2.2.1]
            exact Classical.byContradiction (fun h0 => by have := (HT7.out.new g8 h0).2; have := HR9.out.2.1 g8 rfl; omega)
          rw [h11.2.2.1.2 g8 (Nat.lt_of_lt_of_le h1 hx.2.2.2.2.1.size)]
          exact h2
        have hgw : w.heap.size ≤ g8 := RowC.ge HR9.out.1 rfl
        have HF : Hid (TwS w w12 s ρ σ11 mb T11 ∧ MoT w9 σ6 σ11 T6 T11 ∧ RowC w.heap.size 78 3 chE w12 (.slice (some ⟨g8, 0, none⟩) n3 q8) (chM (tau T11) (i + 1) s.chg) ∧ (∀ c ∈ s.chg.take (i + 1), ∃ t, getT c.f T11 = some t) ∧ Kept (fun k => k = mb ∨ (Value.slice (some ⟨g8, 0, none⟩) n3 q8).ownBlock = some k) w9 w12) := hid (by
          refine ⟨h11.1.kept k12 (fun k e => by rw [e]; exact ⟨hgw, hg0, hx.2.2.2.1⟩), HI.out.2.1.trans (⟨h11.2.2.1.1, fun k hk => h11.2.2.1.2 k (Nat.lt_of_lt_of_le hk hx.2.2.2.2.1.size)⟩ : MoT wr σ σ11 T T11) HI.out.2.2.2.2.size, hR12, fun c' hc' => ?_, ?_⟩
          · rw [List.take_add_one, hx.2.1] at hc'
            rcases List.mem_append.1 hc' with h9 | h9
            · obtain ⟨u, hu⟩ := HI.out.2.2.2.1 c' h9
              exact ⟨u, h11.2.2.1.1 _ _ hu⟩
            · simp only [Option.toList, List.mem_singleton] at h9
              rw [h9]
              exact ⟨t11, h11.2.1⟩
          · exact Kept.trans (Kept.trans (Kept.trans HI.out.2.2.2.2 hx.2.2.2.2.1 (H := fun k => k = mb ∨ (Value.slice (some ⟨g8, 0, none⟩) n3 q8).ownBlock = some k) (fun _ _ e => e) (fun _ _ f => f.elim)) h11k (H := fun k => k = mb ∨ (Value.slice (some ⟨g8, 0, none⟩) n3 q8).ownBlock = some k) (fun _ _ e => e) (fun _ _ e => .inl e)) k12 (fun _ _ e => e) (fun k _ e => .inr (by rw [e]; rfl)))
        clear hx h11k hR11 hlm hta hci hR12 k12 hg0 hgw h11 j1 j2 j3 j4
        go_wp2_with fail
        rw [← hw12]
        clear hw12
        go_roundg (gk - 1)
        case measure => have := HX.out; omega
        case rel => exact ⟨i + 1, T11, σ11, by go_num, by have := HX.out; omega, by have := HX.out; omega, HF⟩
    · have b1 : decide (i < n3) = false := by simp; omega
      have hiE : i = n3 := by omega
      subst hiE
      go_wp2_with fail
      go_ret
      have hi := HI.out
      have hr9 := HR9.out
      have hm7 := HM7.out
      have hn := HN.out
      have hq := HQ.out
      have hx7 : x < w7.heap.size := HB7.out.lt
      have ho4 : o4 < w7.heap.size := hm7.1.lt
      have ho6 : o6 < w7.heap.size := hm7.2.1.lt
      have h79 : w7.heap.size ≤ w9.heap.size := hr9.2.2.2.2
      have hget : ∀ f t, getT f T6 = some t → getT f T = some t := hi.2.1.1
      have hall : ∀ f, refd s f → ∃ t, getT f T = some t := fun f hf => by
        rcases hf with ⟨p, h1, rfl⟩ | ⟨p, h1, rfl⟩ | ⟨c, h1, rfl⟩
        · obtain ⟨t, ht⟩ := hm7.2.2.1 p h1
          exact ⟨t, hget _ _ ht⟩
        · obtain ⟨t, ht⟩ := hm7.2.2.2.1 p h1
          exact ⟨t, hget _ _ ht⟩
        · exact hi.2.2.2.1 c (by rw [List.take_of_length_le (by omega)]; exact h1)
      have hnx : ∀ k, k ≠ mb → k < w7.heap.size → ¬ (k = mb ∨ (Value.slice a8 i q8).ownBlock = some k) := fun k h1 h2 e => by
        rcases e with e | e
        · exact h1 e
        · have := hr9.2.1 k e; omega
      have he4 : mapF (tau T) s.names = mapF (tau T6) s.names := List.map_congr_left (fun p hp => by
        obtain ⟨t, ht⟩ := hm7.2.2.1 p hp
        unfold tau
        rw [ht, hget _ _ ht])
      have he6 : mapF (tau T) s.safe = mapF (tau T6) s.safe := List.map_congr_left (fun p hp => by
        obtain ⟨t, ht⟩ := hm7.2.2.2.1 p hp
        unfold tau
        rw [ht, hget _ _ ht])
      have hcf : chM (tau T) i s.chg = s.chg.map (fun c => ⟨c.src, c.dst, tau T c.f⟩) := by
        unfold chM
        rw [List.take_of_length_le (by omega), List.drop_eq_nil_of_le (by omega), List.append_nil]
      have hσ : ∀ k, k < w9.heap.size → σ6 k = 0 → σ k = 0 := fun k h1 h2 => by rw [hi.2.1.2 k h1]; exact h2
      have hBx : Blk wr x #[.int .i64 (s.room : Nat), .map (some o4), .map (some o6), .slice a8 i q8, .int .i64 (s.steps : Nat), .int .i64 s.left] 62 := by
        rw [← hq.1, ← hq.2.1, ← hq.2.2.1]
        exact HB9.out.kept hi.2.2.2.2 (hnx x (by omega) hx7)
      obtain ⟨ρ', hD'⟩ := hi.1.disk HD.out hall (x := x) (n2 := o4) (s2 := o6) (cv2 := .slice a8 i q8) hBx
        (by rw [he4]; exact HM9.out.1.kept hi.2.2.2.2 (hnx o4 hm7.2.2.2.2.1.2 ho4)) (by rw [he6]; exact HM9.out.2.kept hi.2.2.2.2 (hnx o6 hm7.2.2.2.2.2.1.2.1 ho6)) (by rw [← hcf]; exact hi.2.2.1)
        ⟨hσ x (by omega) hm7.2.2.2.2.2.2.2.1.2.2, hσ o4 (by omega) hm7.2.2.2.2.2.2.2.1.1, hσ o6 (by omega) hm7.2.2.2.2.2.2.2.1.2.1, fun k e => hσ k (RowC.lt hr9.1 e) (Classical.byContradiction (fun h0 => by have := (HT7.out.new k h0).2; have := hr9.2.1 k e; omega))⟩
        ⟨by omega, hm7.2.2.2.2.2.2.1.1, hm7.2.2.2.2.2.2.1.2⟩
        ⟨fun e => hm7.2.2.2.2.1.1 e.symm, fun e => hm7.2.2.2.2.2.1.1 e.symm, fun e => hm7.2.2.2.2.2.1.2.2 e.symm, fun k e => by have := hr9.2.1 k e; omega⟩
      exact ⟨x, clnD s T, ρ', o4, o6, .slice a8 i q8, tau T, rfl, hD', hi.1.old, hi.1.cln hall⟩

end

end Go.Proofs.Ytjcobogajkfnmaa
