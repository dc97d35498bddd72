/-
  Of the proof: parts DlD, DlE.
-/
import Derived.Test.YtjcobogajkfnmaaJ14
import Derived.Test.YtjcobogajkfnmaaJ15
import Derived.Test.YtjcobogajkfnmaaJ17

/-
  Layer 9: a disk and its calls in one form; the document's example as states.
-/
namespace Go.Proofs.Ytjcobogajkfnmaa
open Go.RowKit Go.Maps

/-- A disk in memory. -/
def DkX (N : Nat) (w : World) (d : Nat) (s : Ds) (ρ : Rho) : Prop := ∃ nb sb cv, Dk N w d s ρ nb sb cv

/-- Its blocks behind a call: new ones alone may come. -/
def MoR (w : World) (ρ ρ' : Rho) : Prop := ∀ k, ρ' k = 0 ∨ ρ' k = ρ k ∨ w.heap.size ≤ k

theorem MoR.refl (w : World) (ρ : Rho) : MoR w ρ ρ := fun _ => .inr (.inl rfl)

theorem MoR.trans {w w1 : World} {ρ ρ1 ρ2 : Rho} (h : MoR w ρ ρ1) (h2 : MoR w1 ρ1 ρ2) (hs : w.heap.size ≤ w1.heap.size) : MoR w ρ ρ2 := fun k => by
  rcases h2 k with h3 | h3 | h3
  · exact .inl h3
  · rcases h k with h4 | h4 | h4
    · exact .inl (by rw [h3, h4])
    · exact .inr (.inl (by rw [h3, h4]))
    · exact .inr (.inr h4)
  · exact .inr (.inr (by omega))

/-- What a call tells that is one step: an error and nothing else, or the state behind it. -/
def StpX (N : Nat) (w : World) (d : Nat) (ρ : Rho) (r : Except Nat Ds) (e : Ending) (w' : World) : Prop :=
  (∀ k, r = .error k → e = .returned (.int .i64 (k : Nat)) ∧ Same w w') ∧
  ∀ s', r = .ok s' → e = .returned (.int .i64 0) ∧ ∃ ρ', DkX N w' d s' ρ' ∧ MoR w ρ ρ' ∧ Kept (fun k => ρ k ≠ 0) w w'

theorem StpC.toX {N : Nat} {w : World} {d : Nat} {ρ : Rho} {r : Except Nat Ds} {e : Ending} {w' : World} (h : StpC N w d ρ r e w') : StpX N w d ρ r e w' :=
  ⟨h.1, fun s' hs => by
    obtain ⟨h1, ρ', nb, sb, cv, h2, h3, h4⟩ := h.2 s' hs
    exact ⟨h1, ρ', ⟨nb, sb, cv, h2⟩, h3, h4⟩⟩

section
variable {N : Nat} {w : World} {d : Nat} {s : Ds} {ρ : Rho}

theorem DkX.kept (h : DkX N w d s ρ) {F : Nat → Prop} {w' : World} (hk : Kept F w w') (hF : ∀ k, F k → ρ k = 0) : DkX N w' d s ρ := by
  obtain ⟨nb, sb, cv, h⟩ := h
  exact ⟨nb, sb, cv, h.kept hk hF⟩
theorem DkX.same (h : DkX N w d s ρ) {w' : World} (hk : Same w w') : DkX N w' d s ρ := h.kept hk (fun _ f => f.elim)
theorem DkX.new (h : DkX N w d s ρ) (k : Nat) (hk : ρ k ≠ 0) : N ≤ k ∧ k < w.heap.size := by
  obtain ⟨nb, sb, cv, h⟩ := h
  exact h.new k hk

/-- Another disk stays through a call. -/
theorem DkX.aside {N2 : Nat} {d2 : Nat} {s2 : Ds} {ρ2 : Rho} (h : DkX N2 w d2 s2 ρ2) {w' : World} (hk : Kept (fun k => ρ k ≠ 0) w w') (hd : ∀ k, ρ k = 0 ∨ ρ2 k = 0) : DkX N2 w' d2 s2 ρ2 :=
  h.kept hk (fun k hk => by rcases hd k with h | h; exact absurd h hk; exact h)

theorem MoR.apart {ρ' ρ2 : Rho} (h : MoR w ρ ρ') (hd : ∀ k, ρ k = 0 ∨ ρ2 k = 0) (h2 : ∀ k, ρ2 k ≠ 0 → k < w.heap.size) : ∀ k, ρ' k = 0 ∨ ρ2 k = 0 := fun k => by
  rcases h k with h3 | h3 | h3
  · exact .inl h3
  · rcases hd k with h4 | h4
    · exact .inl (by rw [h3, h4])
    · exact .inr h4
  · exact .inr (Classical.byContradiction (fun h0 => by have := h2 k h0; omega))

theorem xcreate (h : DkX N w d s ρ) (hst : s.steps ≤ 1000000) (hN : N ≤ w.heap.size) (t : ByteArray) (ht : t.size ≤ 100000) :
    Calls Try.prog 18 #[.pointer (some ⟨d, 0, none⟩), .string t] w fun e w' => StpX N w d ρ (creS s t w.heap.size) e w' := by
  obtain ⟨nb, sb, cv, h⟩ := h
  exact (dcreate_any h hst hN t ht).mono (fun e w' h => h.toB.toC.toX)
theorem xremove (h : DkX N w d s ρ) (hst : s.steps ≤ 1000000) (hN : N ≤ w.heap.size) (t : ByteArray) (ht : t.size ≤ 100000) :
    Calls Try.prog 31 #[.pointer (some ⟨d, 0, none⟩), .string t] w fun e w' => StpX N w d ρ (remS s t) e w' := by
  obtain ⟨nb, sb, cv, h⟩ := h
  exact (dremove_any h hst hN t ht).mono (fun e w' h => h.toB.toC.toX)
theorem xrename (h : DkX N w d s ρ) (hst : s.steps ≤ 1000000) (hN : N ≤ w.heap.size) (t u : ByteArray) (ht : t.size ≤ 100000) (hu : u.size ≤ 100000) :
    Calls Try.prog 30 #[.pointer (some ⟨d, 0, none⟩), .string t, .string u] w fun e w' => StpX N w d ρ (renS s t u) e w' := by
  obtain ⟨nb, sb, cv, h⟩ := h
  exact (drename_any h hst hN t u ht hu).mono (fun e w' h => h.toB.toC.toX)
theorem xsync (h : DkX N w d s ρ) (hst : s.steps ≤ 1000000) (t : ByteArray) (ht : t.size ≤ 100000) :
    Calls Try.prog 20 #[.pointer (some ⟨d, 0, none⟩), .string t] w fun e w' => StpX N w d ρ (synS s t) e w' := by
  obtain ⟨nb, sb, cv, h⟩ := h
  exact (dsync_any h hst t ht).mono (fun e w' h => h.toB.toC.toX)
theorem xstop (h : DkX N w d s ρ) (m : Int) (hm : m ≤ 9223372036854775807) :
    Calls Try.prog 27 #[.pointer (some ⟨d, 0, none⟩), .int .i64 m] w fun e w' => StpX N w d ρ (stpS s m) e w' := by
  obtain ⟨nb, sb, cv, h⟩ := h
  exact (dstop_any h m hm).mono (fun e w' h => h.toB.toC.toX)
theorem xsyncdir (h : DkX N w d s ρ) (hst : s.steps ≤ 1000000) (hN : N ≤ w.heap.size) :
    Calls Try.prog 19 #[.pointer (some ⟨d, 0, none⟩)] w fun e w' => StpX N w d ρ (sydS s) e w' := by
  obtain ⟨nb, sb, cv, h⟩ := h
  exact (dsyncdir_any h hst hN).mono (fun e w' h => h.toX)
theorem xappend (h : DkX N w d s ρ) (hst : s.steps ≤ 1000000) (t : ByteArray) (ht : t.size ≤ 100000) (I : Nat → Prop) (xv : Value) (cs : List Nat) (hsrc : Src w I xv cs) (hnil : ∀ n c, xv = .slice none n c → n = 0 ∧ c = 0) (hcs : cs.length ≤ 1000000000) (hI : ∀ k, I k → k < w.heap.size → ρ k = 0) (hb256 : ∀ b ∈ cs, b < 256) (hN : N ≤ w.heap.size) :
    Calls Try.prog 22 #[.pointer (some ⟨d, 0, none⟩), .string t, xv] w fun e w' => StpX N w d ρ (appS s t cs) e w' := by
  obtain ⟨nb, sb, cv, h⟩ := h
  exact (dappend_any h hst t ht I xv cs hsrc hnil hcs hI hb256 hN).mono (fun e w' h => h.toC.toX)
theorem xcrash (h : DkX N w d s ρ) (hst : s.steps ≤ 1000000) (hN : N ≤ w.heap.size) (I : Nat → Prop) (xv : Value) (cs : List Int) (hsrc : SrcE intV w I xv cs) (hr : ∀ c ∈ cs, -9223372036854775808 ≤ c ∧ c ≤ 9223372036854775807) (hI : ∀ k, I k → k < w.heap.size → ρ k = 0) :
    Calls Try.prog 17 #[.pointer (some ⟨d, 0, none⟩), xv] w fun e w' => StpX N w d ρ (.ok (craS s cs)) e w' := by
  obtain ⟨nb, sb, cv, h⟩ := h
  exact (dcrash_any h hst hN I xv cs hsrc hr hI).mono (fun e w' h => h.toX)
theorem xread (h : DkX N w d s ρ) (t : ByteArray) (ht : t.size ≤ 100000) :
    Calls Try.prog 21 #[.pointer (some ⟨d, 0, none⟩), .string t] w fun e w' => ReaA w (reaS s t) e w' := by
  obtain ⟨nb, sb, cv, h⟩ := h
  exact dread_any h t ht
theorem xnames (h : DkX N w d s ρ) (hst : s.steps ≤ 1000000) :
    Calls Try.prog 24 #[.pointer (some ⟨d, 0, none⟩)] w fun e w' => NamA w (namS s) e w' := by
  obtain ⟨nb, sb, cv, h⟩ := h
  exact dnames_any h hst
theorem xsteps (h : DkX N w d s ρ) : Calls Try.prog 28 #[.pointer (some ⟨d, 0, none⟩)] w fun e w' => e = .returned (.int .i64 (s.steps : Nat)) ∧ w' = w := by
  obtain ⟨nb, sb, cv, h⟩ := h
  exact dsteps_any w d s.steps (h.blk.cell 4)
theorem xdown (h : DkX N w d s ρ) : Calls Try.prog 26 #[.pointer (some ⟨d, 0, none⟩)] w fun e w' => e = .returned (.bool (s.left == 0)) ∧ w' = w := by
  obtain ⟨nb, sb, cv, h⟩ := h
  exact ddown_any w d s.left (h.blk.cell 5)
theorem xclone (h : DkX N w d s ρ) (hst : s.steps ≤ 1000000) :
    Calls Try.prog 13 #[.pointer (some ⟨d, 0, none⟩)] w fun e w' => ∃ x s' ρ' τ, e = .returned (.pointer (some ⟨x, 0, none⟩)) ∧ DkX w.heap.size w' x s' ρ' ∧ Same w w' ∧ ClnS τ s s' := by
  obtain ⟨nb, sb, cv, h⟩ := h
  refine (dclone_any h hst).mono (fun e w' h => ?_)
  obtain ⟨x, s', ρ', n2, s2, cv2, τ, h1, h2, h3, h4⟩ := h
  exact ⟨x, s', ρ', τ, h1, ⟨n2, s2, cv2, h2⟩, h3, h4⟩
theorem xnew (w : World) (n : Nat) (h1 : 1 ≤ n) (h2 : n ≤ 4194304) :
    Calls Try.prog 8 #[.int .i64 (n : Nat)] w fun e w' => ∃ d ρ, e = .returned (.tuple #[.pointer (some ⟨d, 0, none⟩), .int .i64 0]) ∧ DkX w.heap.size w' d (newD n) ρ ∧ Same w w' := by
  refine (dnew_good w n h1 h2).mono (fun e w' h => ?_)
  obtain ⟨d, ρ, nb, sb, cv, h1, h2, h3⟩ := h
  exact ⟨d, ρ, h1, ⟨nb, sb, cv, h2⟩, h3⟩

end

theorem xbytes (w : World) (va vb : Value) (I J : Nat → Prop) (xs ys : List Nat) (ha : Src w I va xs) (hb : Src w J vb ys) (hx : xs.length ≤ 1000000000000) (hy : ys.length ≤ 1000000000000) :
    Calls Try.prog 23 #[va, vb] w fun e w' => e = .returned (.bool (decide (xs = ys))) ∧ Same w w' :=
  (keepBytes_any va vb I J xs ys w ha hb hx hy).mono (fun e w' h => by obtain ⟨h1, m, rfl⟩ := h; exact ⟨h1, (Kept.refl _ w).drewN m⟩)

/-- The name of the document's example. -/
def tA : ByteArray := ⟨#[97]⟩

/-- The example's disk: one file. -/
structure AwS (s : Ds) (f : Nat) (x : Fl) (n : Nat) : Prop where
  room : s.room = 4
  names : s.names = [(tA, f)]
  left : s.left = -1
  fl : s.fl f = x
  steps : s.steps = n

section
variable {s : Ds} {f n : Nat} {x : Fl}

theorem AwS.get (h : AwS s f x n) : getN tA s.names = some f := by rw [h.names]; rfl

theorem aw_new (f : Nat) : ∃ s', creS (newD 4) tA f = .ok s' ∧ AwS s' f ⟨[], 0⟩ 1 := by
  refine ⟨_, rfl, rfl, ?_, rfl, ?_, rfl⟩
  · show appN ⟨⟨#[]⟩, tA, f⟩ [] = [(tA, f)]
    rfl
  · exact if_pos rfl

theorem AwS.app (h : AwS s f x n) (cs : List Nat) (hl : x.bs.length + cs.length ≤ 4) : ∃ s', appS s tA cs = .ok s' ∧ AwS s' f ⟨x.bs ++ cs, x.safe⟩ (n + 1) := by
  have hu : usedN s = x.bs.length := by unfold usedN lenF; rw [h.names]; simp [h.fl]
  refine ⟨stepS { s with fl := updF s.fl f ⟨(s.fl f).bs ++ cs, (s.fl f).safe⟩ }, ?_, ?_⟩
  · unfold appS
    rw [if_neg (by rw [h.left]; decide), h.get]
    dsimp only
    rw [if_neg (by rw [h.room, hu]; omega)]
  · refine ⟨h.room, h.names, ?_, ?_, ?_⟩
    · show (if s.left = -1 then -1 else s.left - 1) = -1
      rw [if_pos h.left]
    · show updF s.fl f ⟨(s.fl f).bs ++ cs, (s.fl f).safe⟩ f = _
      rw [show updF s.fl f ⟨(s.fl f).bs ++ cs, (s.fl f).safe⟩ f = ⟨(s.fl f).bs ++ cs, (s.fl f).safe⟩ from if_pos rfl, h.fl]
    · show s.steps + 1 = n + 1
      rw [h.steps]

theorem AwS.full (h : AwS s f x n) (cs : List Nat) (hl : 4 < x.bs.length + cs.length) : appS s tA cs = .error 93 := by
  have hu : usedN s = x.bs.length := by unfold usedN lenF; rw [h.names]; simp [h.fl]
  unfold appS
  rw [if_neg (by rw [h.left]; decide), h.get]
  dsimp only
  rw [if_pos (by rw [h.room, hu]; omega)]

theorem AwS.syn (h : AwS s f x n) : ∃ s', synS s tA = .ok s' ∧ AwS s' f ⟨x.bs, x.bs.length⟩ (n + 1) := by
  refine ⟨stepS { s with fl := updF s.fl f ⟨(s.fl f).bs, (s.fl f).bs.length⟩ }, ?_, ?_⟩
  · unfold synS
    rw [if_neg (by rw [h.left]; decide), h.get]
  · refine ⟨h.room, h.names, ?_, ?_, ?_⟩
    · show (if s.left = -1 then -1 else s.left - 1) = -1
      rw [if_pos h.left]
    · show updF s.fl f ⟨(s.fl f).bs, (s.fl f).bs.length⟩ f = _
      rw [show updF s.fl f ⟨(s.fl f).bs, (s.fl f).bs.length⟩ f = ⟨(s.fl f).bs, (s.fl f).bs.length⟩ from if_pos rfl, h.fl]
    · show s.steps + 1 = n + 1
      rw [h.steps]

theorem AwS.syd (h : AwS s f x n) : ∃ s', sydS s = .ok s' ∧ AwS s' f x (n + 1) ∧ s'.safe = [(tA, f)] ∧ s'.chg = [] := by
  refine ⟨stepS { s with safe := s.names, chg := [] }, ?_, ?_⟩
  · unfold sydS
    rw [if_neg (by rw [h.left]; decide)]
  · refine ⟨⟨h.room, h.names, ?_, h.fl, ?_⟩, h.names, rfl⟩
    · show (if s.left = -1 then -1 else s.left - 1) = -1
      rw [if_pos h.left]
    · show s.steps + 1 = n + 1
      rw [h.steps]

theorem AwS.cln (h : AwS s f x n) (h1 : s.safe = [(tA, f)]) (h2 : s.chg = []) {τ : Nat → Nat} {s' : Ds} (hc : ClnS τ s s') : AwS s' (τ f) x n ∧ s'.safe = [(tA, τ f)] ∧ s'.chg = [] :=
  ⟨⟨hc.room.trans h.room, by rw [hc.names, h.names]; rfl, hc.left.trans h.left, by rw [hc.fl f (.inl ⟨(tA, f), by rw [h.names]; exact List.mem_cons_self, rfl⟩)]; exact h.fl, hc.steps.trans h.steps⟩, by rw [hc.safe, h1]; rfl, by rw [hc.chg, h2]; rfl⟩

theorem AwS.cra (h : AwS s f x n) (h1 : s.safe = [(tA, f)]) (h2 : s.chg = []) (cs : List Int) : AwS (craS s cs) f (crF x (pkN cs 1)) n := by
  have hn : craN s cs = [(tA, f)] := by unfold craN; rw [h1, h2]; simp [foldN]
  refine ⟨h.room, hn, rfl, ?_, h.steps⟩
  show craFl cs 0 (craN s cs) s.fl f = _
  rw [hn]
  show updF s.fl f (crF (s.fl f) (pkN cs 1)) f = _
  rw [show updF s.fl f (crF (s.fl f) (pkN cs 1)) f = crF (s.fl f) (pkN cs 1) from if_pos rfl, h.fl]

theorem AwS.rea (h : AwS s f x n) : reaS s tA = .ok x.bs := by
  unfold reaS
  rw [if_neg (by rw [h.left]; decide), h.get]
  dsimp only
  rw [h.fl]

end

end Go.Proofs.Ytjcobogajkfnmaa

/-
  Layer 9's law: the document's example.
-/
namespace Go.Proofs.Ytjcobogajkfnmaa
open Go.RowKit Go.Maps

theorem src_ints (w : World) (a b : Int) : SrcE intV (w.alloc (.cells #[.int .i64 a, .int .i64 b] 3)) (fun k => k = w.heap.size) (.slice (some ⟨w.heap.size, 0, none⟩) 2 2) [a, b] := by
  refine ⟨_, _, rfl, by simp, fun _ => ⟨_, _, rfl, rfl, fun j hj => ?_⟩⟩
  have hb := Blk.new w #[.int .i64 a, .int .i64 b] 3
  match j, hj with
  | 0, _ => exact hb.cell 0
  | 1, _ => exact hb.cell 1

theorem lit_app {N : Nat} {w : World} {d : Nat} {s : Ds} {ρ : Rho} (h : DkX N w d s ρ) (hst : s.steps ≤ 1000000) (hN : N ≤ w.heap.size) (t : ByteArray) (ht : t.size ≤ 100000) (cs : List Nat) (n : Nat) (hn : cs.length = n) (hc : ∀ b ∈ cs, b < 256) (hl : n ≤ 1000) :
    Calls Try.prog 22 #[.pointer (some ⟨d, 0, none⟩), .string t, .slice (some ⟨w.heap.size, 0, none⟩) n n] (w.alloc (.cells (cs.map byteV).toArray 5)) fun e w' => StpX N w d ρ (appS s t cs) e w' := by
  have hk : Same w (w.alloc (.cells (cs.map byteV).toArray 5)) := (Kept.refl _ w).alloc _
  refine (xappend (h.same hk) hst t ht _ _ cs (src_lit w cs n hn) (fun n c e => by cases e) (by omega) (fun k e _ => Classical.byContradiction (fun h0 => by have := (h.new k h0).2; omega)) hc (Nat.le_trans hN hk.size)).mono ?_
  rintro e w' ⟨h1, h2⟩
  refine ⟨fun k hk2 => ⟨(h1 k hk2).1, Same.trans hk (h1 k hk2).2⟩, fun s' hs => ?_⟩
  obtain ⟨h3, ρ', h4, h5, h6⟩ := h2 s' hs
  refine ⟨h3, ρ', h4, fun k => ?_, Kept.trans hk h6 (fun _ _ f => f.elim) (fun _ _ e => e)⟩
  rcases h5 k with h7 | h7 | h7
  · exact .inl h7
  · exact .inr (.inl h7)
  · exact .inr (.inr (Nat.le_trans hk.size h7))

theorem lit_cra {N : Nat} {w : World} {d : Nat} {s : Ds} {ρ : Rho} (h : DkX N w d s ρ) (hst : s.steps ≤ 1000000) (hN : N ≤ w.heap.size) (a b : Int) (ha : -100 ≤ a ∧ a ≤ 100) (hb : -100 ≤ b ∧ b ≤ 100) :
    Calls Try.prog 17 #[.pointer (some ⟨d, 0, none⟩), .slice (some ⟨w.heap.size, 0, none⟩) 2 2] (w.alloc (.cells #[.int .i64 a, .int .i64 b] 3)) fun e w' => StpX N w d ρ (.ok (craS s [a, b])) e w' := by
  have hk : Same w (w.alloc (.cells #[.int .i64 a, .int .i64 b] 3)) := (Kept.refl _ w).alloc _
  refine (xcrash (h.same hk) hst (Nat.le_trans hN hk.size) _ _ [a, b] (src_ints w a b) (fun c hc => by simp at hc; omega) (fun k e _ => Classical.byContradiction (fun h0 => by have := (h.new k h0).2; omega))).mono ?_
  rintro e w' ⟨h1, h2⟩
  refine ⟨fun k hk2 => ⟨(h1 k hk2).1, Same.trans hk (h1 k hk2).2⟩, fun s' hs => ?_⟩
  obtain ⟨h3, ρ', h4, h5, h6⟩ := h2 s' hs
  refine ⟨h3, ρ', h4, fun k => ?_, Kept.trans hk h6 (fun _ _ f => f.elim) (fun _ _ e => e)⟩
  rcases h5 k with h7 | h7 | h7
  · exact .inl h7
  · exact .inr (.inl h7)
  · exact .inr (.inr (Nat.le_trans hk.size h7))

/-- Through a call of a disk that lies in new memory nothing old turns. -/
theorem Kept.news {N : Nat} {w w1 w2 : World} {d : Nat} {s : Ds} {ρ : Rho} (h : DkX N w1 d s ρ) (h1 : Same w w1) (hN : w.heap.size ≤ N) (h2 : Kept (fun k => ρ k ≠ 0) w1 w2) : Same w w2 :=
  Kept.trans h1 h2 (fun _ _ f => f) (fun k hk h0 => by have := (h.new k h0).1; omega)

set_option maxRecDepth 100000 in
set_option maxHeartbeats 2000000 in
theorem dawake_any (w : World) :
    Calls Try.prog 9 #[] w fun e w' => e = .returned (.bool true) ∧ Same w w' := by
  have HNEW := xnew w 4 (by decide) (by decide)
  go_enter Try.func9, Try.ntmps9
  go_wp2_with fail
  refine HNEW.mono ?_
  rintro e w1 ⟨d, ρ1, rfl, h1⟩
  have H1 := hid h1
  clear HNEW h1
  have HN1 : Hid (w.heap.size ≤ w1.heap.size) := hid H1.out.2.size
  have HC1 := xcreate H1.out.1 (by show 0 ≤ _; omega) HN1.out tA (by decide)
  unfold tA at HC1
  go_wp2_with fail
  refine HC1.mono ?_
  rintro e w2 ⟨_, hok⟩
  obtain ⟨s2, hs2, A2⟩ := aw_new w1.heap.size
  obtain ⟨rfl, ρ2, D2, M2, K2⟩ := hok s2 hs2
  obtain ⟨f, hf⟩ : ∃ f, f = w1.heap.size := ⟨_, rfl⟩
  rw [← hf] at A2
  have H2 : Hid (DkX w.heap.size w2 d s2 ρ2 ∧ AwS s2 f ⟨[], 0⟩ 1 ∧ Same w w2) := hid ⟨D2, A2, Kept.trans H1.out.2 K2 (fun _ _ f => f) (fun k hk h0 => by have := (H1.out.1.new k h0).1; omega)⟩
  clear HC1 hok hs2 A2 D2 M2 K2 hf
  have HN2 : Hid (w.heap.size ≤ w2.heap.size) := hid H2.out.2.2.size
  have HA3 : Calls Try.prog 22 #[.pointer (some ⟨d, 0, none⟩), .string ⟨#[97]⟩, .slice (some ⟨w2.heap.size, 0, none⟩) 3 3] (w2.alloc (.cells #[.int .u8 1, .int .u8 2, .int .u8 3] 5)) fun e w' => StpX w.heap.size w2 d ρ2 (appS s2 tA [1, 2, 3]) e w' := lit_app H2.out.1 (by rw [H2.out.2.1.steps]; decide) HN2.out tA (by decide) [1, 2, 3] 3 rfl (by decide) (by decide)
  go_wp2_with fail
  refine HA3.mono ?_
  rintro e w3 ⟨_, hok⟩
  obtain ⟨s3, hs3, A3⟩ := H2.out.2.1.app [1, 2, 3] (by decide)
  obtain ⟨rfl, ρ3, D3, M3, K3⟩ := hok s3 hs3
  have H3 : Hid (DkX w.heap.size w3 d s3 ρ3 ∧ AwS s3 f ⟨[1, 2, 3], 0⟩ 2 ∧ Same w w3) := hid ⟨D3, A3, Kept.news H2.out.1 H2.out.2.2 (Nat.le_refl _) K3⟩
  clear HA3 hok hs3 A3 D3 M3 K3
  have HN3 : Hid (w.heap.size ≤ w3.heap.size) := hid H3.out.2.2.size
  have HA4 : Calls Try.prog 22 #[.pointer (some ⟨d, 0, none⟩), .string ⟨#[97]⟩, .slice (some ⟨w3.heap.size, 0, none⟩) 2 2] (w3.alloc (.cells #[.int .u8 4, .int .u8 5] 5)) fun e w' => StpX w.heap.size w3 d ρ3 (appS s3 tA [4, 5]) e w' := lit_app H3.out.1 (by rw [H3.out.2.1.steps]; decide) HN3.out tA (by decide) [4, 5] 2 rfl (by decide) (by decide)
  go_wp2_with fail
  refine HA4.mono ?_
  rintro e w4 ⟨hno, _⟩
  obtain ⟨rfl, K4⟩ := hno 93 (H3.out.2.1.full [4, 5] (by decide))
  have H4 : Hid (DkX w.heap.size w4 d s3 ρ3 ∧ AwS s3 f ⟨[1, 2, 3], 0⟩ 2 ∧ Same w w4) := hid ⟨H3.out.1.same K4, H3.out.2.1, Same.trans H3.out.2.2 K4⟩
  clear HA4 hno K4
  have HS5 := xsync H4.out.1 (by rw [H4.out.2.1.steps]; decide) tA (by decide)
  obtain ⟨s5, hs5, A5⟩ := H4.out.2.1.syn
  rw [hs5] at HS5
  unfold tA at HS5
  clear hs5
  have HA5 := hid A5
  clear A5
  go_wp2_with fail
  refine HS5.mono ?_
  rintro e w5 ⟨_, hok⟩
  obtain ⟨rfl, ρ5, D5, M5, K5⟩ := hok s5 rfl
  have H5 : Hid (DkX w.heap.size w5 d s5 ρ5 ∧ AwS s5 f ⟨[1, 2, 3], 3⟩ 3 ∧ Same w w5) := hid ⟨D5, HA5.out, Kept.news H4.out.1 H4.out.2.2 (Nat.le_refl _) K5⟩
  clear HS5 hok D5 M5 K5
  have HN5 : Hid (w.heap.size ≤ w5.heap.size) := hid H5.out.2.2.size
  have HA6 : Calls Try.prog 22 #[.pointer (some ⟨d, 0, none⟩), .string ⟨#[97]⟩, .slice (some ⟨w5.heap.size, 0, none⟩) 1 1] (w5.alloc (.cells #[.int .u8 9] 5)) fun e w' => StpX w.heap.size w5 d ρ5 (appS s5 tA [9]) e w' := lit_app H5.out.1 (by rw [H5.out.2.1.steps]; decide) HN5.out tA (by decide) [9] 1 rfl (by decide) (by decide)
  go_wp2_with fail
  refine HA6.mono ?_
  rintro e w6 ⟨_, hok⟩
  obtain ⟨s6, hs6, A6⟩ := H5.out.2.1.app [9] (by decide)
  obtain ⟨rfl, ρ6, D6, M6, K6⟩ := hok s6 hs6
  have H6 : Hid (DkX w.heap.size w6 d s6 ρ6 ∧ AwS s6 f ⟨[1, 2, 3, 9], 3⟩ 4 ∧ Same w w6) := hid ⟨D6, A6, Kept.news H5.out.1 H5.out.2.2 (Nat.le_refl _) K6⟩
  clear HA6 hok hs6 A6 D6 M6 K6
  have HN6 : Hid (w.heap.size ≤ w6.heap.size) := hid H6.out.2.2.size
  have HD7 := xsyncdir H6.out.1 (by rw [H6.out.2.1.steps]; decide) HN6.out
  obtain ⟨s7, hs7, A7⟩ := H6.out.2.1.syd
  rw [hs7] at HD7
  clear hs7
  have HA7 := hid A7
  clear A7
  go_wp2_with fail
  refine HD7.mono ?_
  rintro e w7 ⟨_, hok⟩
  obtain ⟨rfl, ρ7, D7, M7, K7⟩ := hok s7 rfl
  have H7 : Hid (DkX w.heap.size w7 d s7 ρ7 ∧ AwS s7 f ⟨[1, 2, 3, 9], 3⟩ 5 ∧ Same w w7) := hid ⟨D7, HA7.out.1, Kept.news H6.out.1 H6.out.2.2 (Nat.le_refl _) K7⟩
  clear HD7 hok D7 M7 K7
  have HCL := xclone H7.out.1 (by rw [H7.out.2.1.steps]; decide)
  go_wp2_with fail
  refine HCL.mono ?_
  rintro e w8 ⟨x, sx, ρx, τ, rfl, D8, K8, C8⟩
  have H8 : Hid (DkX w.heap.size w8 d s7 ρ7 ∧ DkX w7.heap.size w8 x sx ρx ∧ Same w w8 ∧ (AwS sx (τ f) ⟨[1, 2, 3, 9], 3⟩ 5 ∧ sx.safe = [(tA, τ f)] ∧ sx.chg = []) ∧ ∀ k, ρ7 k = 0 ∨ ρx k = 0) := hid ⟨H7.out.1.same K8, D8, Same.trans H7.out.2.2 K8, H7.out.2.1.cln HA7.out.2.1 HA7.out.2.2 C8, fun k => by
    by_cases h0 : ρ7 k = 0
    · exact .inl h0
    · refine .inr (Classical.byContradiction (fun h1 => ?_))
      have := (H7.out.1.new k h0).2
      have := (D8.new k h1).1
      omega⟩
  have HN7 : Hid (w.heap.size ≤ w7.heap.size ∧ w7.heap.size ≤ w8.heap.size) := hid ⟨H7.out.2.2.size, K8.size⟩
  clear HCL D8 K8 C8
  have HC9 := lit_cra H8.out.1 (by rw [H7.out.2.1.steps]; decide) (by have := HN7.out; omega) 0 (-2) (by decide) (by decide)
  go_wp2_with fail
  refine HC9.mono ?_
  rintro e w9 ⟨_, hok⟩
  obtain ⟨rfl, ρ9, D9, M9, K9⟩ := hok _ rfl
  obtain ⟨s9, hs9⟩ : ∃ s, s = craS s7 [0, -2] := ⟨_, rfl⟩
  have A9 := H7.out.2.1.cra HA7.out.2.1 HA7.out.2.2 [0, -2]
  rw [← hs9] at A9 D9
  have H9 : Hid (DkX w.heap.size w9 d s9 ρ9 ∧ DkX w7.heap.size w9 x sx ρx ∧ Same w w9 ∧ AwS s9 f ⟨[1, 2, 3, 0], 4⟩ 5 ∧ ∀ k, ρ9 k = 0 ∨ ρx k = 0) := hid ⟨D9, H8.out.2.1.aside K9 H8.out.2.2.2.2, Kept.news H8.out.1 H8.out.2.2.1 (Nat.le_refl _) K9, A9, M9.apart H8.out.2.2.2.2 (fun k h => (H8.out.2.1.new k h).2)⟩
  have HN9 : Hid (w7.heap.size ≤ w9.heap.size) := hid (Nat.le_trans HN7.out.2 K9.size)
  clear HC9 hok D9 M9 K9 A9 hs9
  have HR10 := xread H9.out.1 tA (by decide)
  rw [H9.out.2.2.2.1.rea] at HR10
  unfold tA at HR10
  go_wp2_with fail
  refine HR10.mono ?_
  rintro e w10 ⟨_, hok⟩
  obtain ⟨v10, rfl, hf10, _⟩ := hok _ rfl
  obtain ⟨a10, c10, hv10, _⟩ := hf10.row.shape
  rw [show ([1, 2, 3, 0] : List Nat).length = 4 from rfl] at hv10
  subst hv10
  have H10 : Hid (DkX w.heap.size w10 d s9 ρ9 ∧ DkX w7.heap.size w10 x sx ρx ∧ Same w w10 ∧ Row w10 (.slice a10 4 c10) [1, 2, 3, 0] ∧ ∀ k, (Value.slice a10 4 c10).ownBlock = some k → w9.heap.size ≤ k) := hid ⟨H9.out.1.same hf10.kept, H9.out.2.1.same hf10.kept, Same.trans H9.out.2.2.1 hf10.kept, hf10.row, hf10.new⟩
  have HN10 : Hid (w7.heap.size ≤ w10.heap.size ∧ w9.heap.size ≤ w10.heap.size) := hid ⟨Nat.le_trans HN9.out hf10.kept.size, hf10.kept.size⟩
  clear HR10 hok hf10
  have HC11 := lit_cra H10.out.2.1 (by rw [H8.out.2.2.2.1.1.steps]; decide) HN10.out.1 0 1 (by decide) (by decide)
  go_wp2_with fail
  refine HC11.mono ?_
  rintro e w11 ⟨_, hok⟩
  obtain ⟨rfl, ρ11, D11, M11, K11⟩ := hok _ rfl
  obtain ⟨s11, hs11⟩ : ∃ s, s = craS sx [0, 1] := ⟨_, rfl⟩
  have A11 := H8.out.2.2.2.1.1.cra H8.out.2.2.2.1.2.1 H8.out.2.2.2.1.2.2 [0, 1]
  rw [← hs11] at A11 D11
  have H11 : Hid (DkX w.heap.size w11 d s9 ρ9 ∧ DkX w7.heap.size w11 x s11 ρ11 ∧ Same w w11 ∧ AwS s11 (τ f) ⟨[1, 2, 3, 9], 4⟩ 5 ∧ Row w11 (.slice a10 4 c10) [1, 2, 3, 0]) := hid ⟨H10.out.1.aside K11 (fun k => (H9.out.2.2.2.2 k).symm), D11, Kept.news H10.out.2.1 H10.out.2.2.1 HN7.out.1 K11, A11, H10.out.2.2.2.1.kept K11 (fun k e h0 => by have := H10.out.2.2.2.2 k e; have := (H9.out.2.1.new k h0).2; omega)⟩
  clear HC11 hok D11 M11 K11 A11 hs11
  have HR12 := xread H11.out.2.1 tA (by decide)
  rw [H11.out.2.2.2.1.rea] at HR12
  unfold tA at HR12
  go_wp2_with fail
  refine HR12.mono ?_
  rintro e w12 ⟨_, hok⟩
  obtain ⟨v12, rfl, hf12, _⟩ := hok _ rfl
  obtain ⟨a12, c12, hv12, _⟩ := hf12.row.shape
  rw [show ([1, 2, 3, 9] : List Nat).length = 4 from rfl] at hv12
  subst hv12
  have H12 : Hid (DkX w.heap.size w12 d s9 ρ9 ∧ Same w w12 ∧ Row w12 (.slice a10 4 c10) [1, 2, 3, 0] ∧ Row w12 (.slice a12 4 c12) [1, 2, 3, 9]) := hid ⟨H11.out.1.same hf12.kept, Same.trans H11.out.2.2.1 hf12.kept, H11.out.2.2.2.2.kept hf12.kept (fun _ _ f => f), hf12.row⟩
  clear HR12 hok hf12
  have HB13 : Calls Try.prog 23 #[.slice a10 4 c10, .slice (some ⟨w12.heap.size, 0, none⟩) 4 4] (w12.alloc (.cells #[.int .u8 1, .int .u8 2, .int .u8 3, .int .u8 0] 5)) fun e w' => e = .returned (.bool true) ∧ Same (w12.alloc (.cells #[.int .u8 1, .int .u8 2, .int .u8 3, .int .u8 0] 5)) w' := xbytes _ _ _ _ _ [1, 2, 3, 0] [1, 2, 3, 0] (Src.ofRow (H12.out.2.2.1.kept (show Same _ _ from (Kept.refl _ _).alloc _) (fun _ _ f => f))) (src_lit w12 [1, 2, 3, 0] 4 rfl) (by decide) (by decide)
  go_wp2_with fail
  refine HB13.mono ?_
  rintro e w13 ⟨rfl, K13⟩
  have H13 : Hid (Same w12 w13) := hid (Same.trans ((Kept.refl _ w12).alloc _) K13)
  clear HB13 K13
  have HB14 : Calls Try.prog 23 #[.slice a12 4 c12, .slice (some ⟨w13.heap.size, 0, none⟩) 4 4] (w13.alloc (.cells #[.int .u8 1, .int .u8 2, .int .u8 3, .int .u8 9] 5)) fun e w' => e = .returned (.bool true) ∧ Same (w13.alloc (.cells #[.int .u8 1, .int .u8 2, .int .u8 3, .int .u8 9] 5)) w' := xbytes _ _ _ _ _ [1, 2, 3, 9] [1, 2, 3, 9] (Src.ofRow ((H12.out.2.2.2.kept H13.out (fun _ _ f => f)).kept (show Same _ _ from (Kept.refl _ _).alloc _) (fun _ _ f => f))) (src_lit w13 [1, 2, 3, 9] 4 rfl) (by decide) (by decide)
  go_wp2_with fail
  refine HB14.mono ?_
  rintro e w14 ⟨rfl, K14⟩
  have H14 : Hid (Same w12 w14) := hid (Same.trans H13.out (Same.trans ((Kept.refl _ w13).alloc _) K14))
  clear HB14 K14
  have HS15 := xsteps (H12.out.1.same H14.out)
  rw [H9.out.2.2.2.1.steps] at HS15
  go_wp2_with fail
  refine HS15.mono ?_
  rintro e w15 ⟨rfl, hw15⟩
  subst hw15
  clear HS15
  go_wp2_with fail
  go_ret
  exact ⟨rfl, Same.trans H12.out.2.1 H14.out⟩

end Go.Proofs.Ytjcobogajkfnmaa
