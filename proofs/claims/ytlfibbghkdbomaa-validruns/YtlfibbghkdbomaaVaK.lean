/-
  Layer 13: each call, in one form.
-/
import Derived.Test.YtlfibbghkdbomaaVaG
import Derived.Test.YtlfibbghkdbomaaVaJ
namespace Go.Proofs.Ytlfibbghkdbomaa
open Go.RowKit Go.Maps Go.Sort Go.Shelf

/-- A set: its snapshot, what was read, listed, staged. -/
structure Mv where
  t : Int
  rd : Ke → Bool
  ls : Bx → Bool
  st : Ke → Option Wr
  emp : Bool

def absV (s : Vst) : Mv := ⟨s.t, fun k => (getG k s.rd).isSome, fun b => (getG b s.ls).isSome, fun k => getG k s.st, s.st.isEmpty⟩

def mv0 (t : Int) : Mv := ⟨t, fun _ => false, fun _ => false, fun _ => none, true⟩
def rdM (M : Mv) (k : Ke) : Mv := { M with rd := fun x => if k = x then true else M.rd x }
def lsM (M : Mv) (b : Bx) : Mv := { M with ls := fun x => if b = x then true else M.ls x }
def stM (M : Mv) (r : Wr) : Mv := { M with st := fun x => if keO r = x then some r else M.st x, emp := false }

def sawM (M : Mv) (k : Ke) : Bool := M.rd k || M.ls k.1
def claM (M : Mv) (t : Int) (ws : List Wr) : Bool := decide (M.t < t) && ws.any (fun r => sawM M (keO r))
def chkM (M : Mv) (cs : List Cm) : Int × Int := if risC 0 cs then (if M.emp then (-1, 0) else (ixL (fun c => claM M c.t c.ws) cs, 0)) else (-1, 130)
/-- All that is staged, by rising keys. -/
def StW (M : Mv) (xs : List Wr) : Prop := xs.Pairwise ltW ∧ ∀ r, r ∈ xs ↔ M.st (keO r) = some r

/-- A set in memory: its blocks are those of J. -/
def Vx (K : Nat) (w : World) (p : Nat) (J : Nat → Prop) (M : Mv) : Prop := ∃ mr ml ms s, Vk K w p mr ml ms s ∧ (∀ k, J k ↔ k = p ∨ k = mr ∨ k = ml ∨ k = ms) ∧ M = absV s

section
variable {K : Nat} {w : World} {p : Nat} {J : Nat → Prop} {M : Mv}

theorem Vx.kept (h : Vx K w p J M) {F : Nat → Prop} {w' : World} (hk : Kept F w w') (hF : ∀ k, J k → ¬ F k) : Vx K w' p J M := by
  obtain ⟨mr, ml, ms, s, h1, h2, h3⟩ := h
  exact ⟨mr, ml, ms, s, h1.kept hk (hF _ ((h2 _).2 (.inl rfl))) (hF _ ((h2 _).2 (.inr (.inl rfl)))) (hF _ ((h2 _).2 (.inr (.inr (.inl rfl))))) (hF _ ((h2 _).2 (.inr (.inr (.inr rfl))))), h2, h3⟩
theorem Vx.same (h : Vx K w p J M) {w' : World} (hk : Same w w') : Vx K w' p J M := h.kept hk (fun _ _ f => f)
theorem Vx.lt (h : Vx K w p J M) : ∀ k, J k → k < w.heap.size := by
  obtain ⟨mr, ml, ms, s, h1, h2, h3⟩ := h
  intro k hk
  rcases (h2 k).1 hk with rfl | rfl | rfl | rfl
  · exact h1.blk.lt
  · exact h1.rm.lt
  · exact h1.lm.lt
  · exact h1.sm.lt
theorem Vx.more (h : Vx K w p J M) {K' : Nat} (hK : K ≤ K') (hb : K' ≤ 100000) : Vx K' w p J M := by
  obtain ⟨mr, ml, ms, s, h1, h2, h3⟩ := h
  exact ⟨mr, ml, ms, s, { h1 with lens := ⟨Nat.le_trans h1.lens.1 hK, Nat.le_trans h1.lens.2.1 hK, Nat.le_trans h1.lens.2.2 hK⟩, big := hb }, h2, h3⟩
theorem Vx.emp (h : Vx K w p J M) : M.emp = true ↔ ∀ k, M.st k = none := by
  obtain ⟨mr, ml, ms, s, h1, h2, rfl⟩ := h
  show s.st.isEmpty = true ↔ ∀ k, getG k s.st = none
  rw [List.isEmpty_iff]
  constructor
  · intro e k; rw [e]; rfl
  · intro e
    cases hs : s.st with
    | nil => rfl
    | cons x r =>
      have h3 := e x.1
      have h4 := getG_of_mem h1.aps (s := x.1) (f := x.2) (by rw [hs]; exact List.mem_cons_self ..)
      rw [h3] at h4
      cases h4
theorem Vx.own (h : Vx K w p J M) {k : Ke} {r : Wr} (hr : M.st k = some r) : keO r = k := by
  obtain ⟨mr, ml, ms, s, h1, h2, rfl⟩ := h
  exact h1.own _ (getG_mem hr)

theorem xvat (h : Vx K w p J M) : Calls Try.prog 9 #[.pointer (some ⟨p, 0, none⟩)] w fun e w' => e = .returned (.int .i64 M.t) ∧ w' = w := by
  obtain ⟨mr, ml, ms, s, h1, h2, rfl⟩ := h
  exact vat_any h1

theorem xvread (h : Vx K w p J M) (k : Ke) (hK : K + 1 ≤ 100000) : Calls Try.prog 14 #[.pointer (some ⟨p, 0, none⟩), .agg #[.string k.1.tn, .string k.1.ar, .string k.2.s]] w fun e w' => e = .returned (.tuple #[]) ∧ Vx (K + 1) w' p J (rdM M k) ∧ Kept J w w' := by
  obtain ⟨mr, ml, ms, s, h1, h2, rfl⟩ := h
  refine (vread_any h1 k hK).mono ?_
  rintro e w' ⟨rfl, g1, g2⟩
  refine ⟨rfl, ⟨mr, ml, ms, _, g1, h2, ?_⟩, g2.mono (fun x _ e => (h2 x).2 (.inr (.inl e)))⟩
  unfold rdM absV
  simp only [Mv.mk.injEq, and_self, and_true, true_and]
  funext x
  rw [getG_put h1.apr]
  split <;> rfl

theorem xvlist (h : Vx K w p J M) (b : Bx) (hK : K + 1 ≤ 100000) : Calls Try.prog 15 #[.pointer (some ⟨p, 0, none⟩), .agg #[.string b.tn, .string b.ar]] w fun e w' => e = .returned (.tuple #[]) ∧ Vx (K + 1) w' p J (lsM M b) ∧ Kept J w w' := by
  obtain ⟨mr, ml, ms, s, h1, h2, rfl⟩ := h
  refine (vlist_any h1 b hK).mono ?_
  rintro e w' ⟨rfl, g1, g2⟩
  refine ⟨rfl, ⟨mr, ml, ms, _, g1, h2, ?_⟩, g2.mono (fun x _ e => (h2 x).2 (.inr (.inr (.inl e))))⟩
  unfold lsM absV
  simp only [Mv.mk.injEq, and_self, and_true, true_and]
  funext x
  rw [getG_put h1.apl]
  split <;> rfl

theorem absV_put {mr ml ms : Nat} {s : Vst} (h1 : Vk K w p mr ml ms s) (r : Wr) : stM (absV s) r = absV { s with st := putG kK (keO r) r s.st } := by
  unfold stM absV
  simp only [Mv.mk.injEq, true_and]
  refine ⟨?_, ?_⟩
  · funext x
    rw [getG_put h1.aps]
  · have := (putG_len (kl := kK) (keO r) r s.st).1
    cases hs : putG kK (keO r) r s.st with
    | nil => rw [hs] at this; simp at this
    | cons a b => rfl

theorem xvput (h : Vx K w p J M) (k : Ke) (d : ByteArray) (hd : d.size ≤ maxLen) (hK : K + 1 ≤ 100000) : Calls Try.prog 16 #[.pointer (some ⟨p, 0, none⟩), .agg #[.string k.1.tn, .string k.1.ar, .string k.2.s], .string d] w fun e w' => e = .returned (.tuple #[]) ∧ Vx (K + 1) w' p J (stM M ⟨k.1, k.2, true, d, hd⟩) ∧ Kept J w w' := by
  obtain ⟨mr, ml, ms, s, h1, h2, rfl⟩ := h
  refine (vput_any h1 k d hd hK).mono ?_
  rintro e w' ⟨rfl, g1, g2⟩
  exact ⟨rfl, ⟨mr, ml, ms, _, g1, h2, absV_put h1 _⟩, g2.mono (fun x _ e => (h2 x).2 (.inr (.inr (.inr e))))⟩

theorem xvdel (h : Vx K w p J M) (k : Ke) (hK : K + 1 ≤ 100000) : Calls Try.prog 17 #[.pointer (some ⟨p, 0, none⟩), .agg #[.string k.1.tn, .string k.1.ar, .string k.2.s]] w fun e w' => e = .returned (.tuple #[]) ∧ Vx (K + 1) w' p J (stM M ⟨k.1, k.2, false, ⟨#[]⟩, by decide⟩) ∧ Kept J w w' := by
  obtain ⟨mr, ml, ms, s, h1, h2, rfl⟩ := h
  refine (vdel_any h1 k hK).mono ?_
  rintro e w' ⟨rfl, g1, g2⟩
  exact ⟨rfl, ⟨mr, ml, ms, _, g1, h2, absV_put h1 _⟩, g2.mono (fun x _ e => (h2 x).2 (.inr (.inr (.inr e))))⟩

theorem xvown (h : Vx K w p J M) (k : Ke) : Calls Try.prog 18 #[.pointer (some ⟨p, 0, none⟩), .agg #[.string k.1.tn, .string k.1.ar, .string k.2.s]] w fun e w' => e = .returned (.tuple #[.agg (wrE ((M.st k).getD wr0)).toArray, .bool (M.st k).isSome]) ∧ Same w w' := by
  obtain ⟨mr, ml, ms, s, h1, h2, rfl⟩ := h
  exact vown_any h1 k

theorem xvclash (h : Vx K w p J M) (t : Int) (v : Value) (ws : List Wr) (I : Nat → Prop) (hs : SrcC 5 wrE w I v ws) (hn : ws.length ≤ 9223372036854775807) : Calls Try.prog 13 #[.pointer (some ⟨p, 0, none⟩), .agg #[.int .i64 t, v]] w fun e w' => e = .returned (.bool (claM M t ws)) ∧ Same w w' := by
  obtain ⟨mr, ml, ms, s, h1, h2, rfl⟩ := h
  exact vclash_any h1 t v ws I hs hn

theorem xvcheck (h : Vx K w p J M) (v : Value) (cs : List Cm) (I : Nat → Prop) (hs : Cms w I v cs) : Calls Try.prog 19 #[.pointer (some ⟨p, 0, none⟩), v] w fun e w' => e = .returned (.tuple #[.int .i64 (chkM M cs).1, .int .i64 (chkM M cs).2]) ∧ Same w w' := by
  obtain ⟨mr, ml, ms, s, h1, h2, rfl⟩ := h
  exact vcheck_any h1 v cs I hs

theorem xvwrites (h : Vx K w p J M) : Calls Try.prog 12 #[.pointer (some ⟨p, 0, none⟩)] w fun e w' => ∃ v xs, e = .returned v ∧ StW M xs ∧ RowC w.heap.size 51 5 wrE w' v xs ∧ Same w w' ∧ xs.length ≤ 100000 := by
  obtain ⟨mr, ml, ms, s, h1, h2, rfl⟩ := h
  refine (vwrites_any h1).mono ?_
  rintro e w' ⟨v, xs, rfl, g1, g2, g3, g4, g5⟩
  exact ⟨v, xs, rfl, ⟨g1, g2⟩, g3, g4, g5⟩

end

theorem xvnew (w : World) (t : Int) : Calls Try.prog 7 #[.int .i64 t] w fun e w' => ∃ p J, e = .returned (.pointer (some ⟨p, 0, none⟩)) ∧ Vx 0 w' p J (mv0 t) ∧ (∀ k, J k → w.heap.size ≤ k) ∧ Same w w' := by
  refine (vnew_any w t).mono ?_
  rintro e w' ⟨p, mr, ml, ms, rfl, h1, h2, h3⟩
  refine ⟨p, _, rfl, ⟨mr, ml, ms, _, h1, fun k => Iff.rfl, rfl⟩, fun k hk => ?_, h3⟩
  rcases hk with rfl | rfl | rfl | rfl <;> omega

/-- What is staged is one list. -/
theorem StW.det {M : Mv} {xs ys : List Wr} (h : StW M xs) (h' : StW M ys) : xs = ys := by
  have hm : ∀ r, r ∈ xs ↔ r ∈ ys := fun r => by rw [h.2, h'.2]
  have key : ∀ (xs ys : List Wr), xs.Pairwise ltW → ys.Pairwise ltW → (∀ r, r ∈ xs ↔ r ∈ ys) → xs = ys := by
    intro xs
    induction xs with
    | nil =>
      intro ys _ _ hm
      cases ys with
      | nil => rfl
      | cons b r => exact absurd ((hm b).2 (List.mem_cons_self ..)) (by simp)
    | cons a r ih =>
      intro ys h1 h2 hm
      cases ys with
      | nil => exact absurd ((hm a).1 (List.mem_cons_self ..)) (by simp)
      | cons b q =>
        rw [List.pairwise_cons] at h1 h2
        have hab : a = b := by
          rcases List.mem_cons.1 ((hm a).1 (List.mem_cons_self ..)) with e | e
          · exact e
          · rcases List.mem_cons.1 ((hm b).2 (List.mem_cons_self ..)) with e2 | e2
            · exact e2.symm
            · exact absurd (ltK_trans (h2.1 a e) (h1.1 b e2)) (ltK_irr _)
        subst hab
        congr 1
        refine ih q h1.2 h2.2 (fun x => ?_)
        have h5 := hm x
        rw [List.mem_cons, List.mem_cons] at h5
        constructor
        · intro e
          rcases h5.1 (.inr e) with e2 | e2
          · subst e2; exact absurd (h1.1 x e) (ltK_irr _)
          · exact e2
        · intro e
          rcases h5.2 (.inr e) with e2 | e2
          · subst e2; exact absurd (h2.1 x e) (ltK_irr _)
          · exact e2
  exact key xs ys h.1 h'.1 hm

end Go.Proofs.Ytlfibbghkdbomaa
