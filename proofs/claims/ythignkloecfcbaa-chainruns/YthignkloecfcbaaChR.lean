/-
  Layer 12: each call, in one form.
-/
import Derived.Test.YthignkloecfcbaaChQ
namespace Go.Proofs.Ythignkloecfcbaa
open Go.RowKit Go.Maps Go.Sort

/-- A store: its time, its floor, the versions of each entry. -/
structure Mst where
  now : Int
  floor : Int
  V : Vs

def Sto (K N : Nat) (w : World) (p : Nat) (M : Mst) (ρ : Nat → Nat) : Prop := ∃ s mb, Ck K N w p s ρ mb ∧ M = ⟨s.now, s.floor, vers s⟩

/-- What a call that changes a store leaves. -/
def StoA (K N : Nat) (w : World) (p : Nat) (ρ : Nat → Nat) (M : Mst) (w' : World) : Prop := ∃ ρ', Sto K N w' p M ρ' ∧ ExtC w ρ ρ' ∧ Kept (fun k => ρ k ≠ 0) w w'

def putM (M : Mst) (t : Int) (ws : List Wr) : Mst := ⟨t, M.floor, putsF M.V ws t⟩
def pruM (M : Mst) (f : Int) : Mst := ⟨M.now, f, fun b n => pruV (M.V b n) f⟩

section
variable {K N : Nat} {w : World} {p : Nat} {M : Mst} {ρ : Nat → Nat}

theorem Sto.kept (h : Sto K N w p M ρ) {F : Nat → Prop} {w' : World} (hk : Kept F w w') (hF : ∀ k, F k → ρ k = 0) : Sto K N w' p M ρ := by
  obtain ⟨s, mb, h1, h2⟩ := h
  exact ⟨s, mb, h1.kept hk hF, h2⟩
theorem Sto.same (h : Sto K N w p M ρ) {w' : World} (hk : Same w w') : Sto K N w' p M ρ := h.kept hk (fun _ f => f.elim)
theorem Sto.zero (h : Sto K N w p M ρ) {k : Nat} (hk : w.heap.size ≤ k) : ρ k = 0 := by
  obtain ⟨s, mb, h1, h2⟩ := h
  exact h1.zero hk
theorem Sto.lt (h : Sto K N w p M ρ) : p < w.heap.size := by
  obtain ⟨s, mb, h1, h2⟩ := h
  exact h1.blk.lt
theorem Sto.more (h : Sto K N w p M ρ) {K' : Nat} (hK : K ≤ K') (hb : K' ≤ 100000) : Sto K' N w p M ρ := by
  obtain ⟨s, mb, h1, h2⟩ := h
  exact ⟨s, mb, h1.more hK hb, h2⟩
theorem Sto.vok (h : Sto K N w p M ρ) (b : Bx) (n : Nm) : VerOk M.now (M.V b n) := by
  obtain ⟨s, mb, h1, rfl⟩ := h
  exact h1.vok b n
theorem Sto.nums (h : Sto K N w p M ρ) : 0 ≤ M.floor ∧ M.floor ≤ M.now ∧ M.now ≤ 9223372036854775807 := by
  obtain ⟨s, mb, h1, rfl⟩ := h
  exact h1.nums

theorem xget (h : Sto K N w p M ρ) (b : Bx) (n : Nm) (t : Int) : Calls Try.prog 14 #[.pointer (some ⟨p, 0, none⟩), .agg #[.string b.tn, .string b.ar, .string n.s], .int .i64 t] w fun e w' => e = .returned (getA (M.V b n) (max t M.floor)) ∧ Same w w' := by
  obtain ⟨s, mb, h1, rfl⟩ := h
  exact get_any h1 b n t

theorem xlast (h : Sto K N w p M ρ) (b : Bx) (n : Nm) : Calls Try.prog 23 #[.pointer (some ⟨p, 0, none⟩), .agg #[.string b.tn, .string b.ar, .string n.s]] w fun e w' => e = .returned (.int .i64 (newV (M.V b n) M.now).t) ∧ Same w w' := by
  obtain ⟨s, mb, h1, rfl⟩ := h
  exact last_any h1 b n

theorem xnow (h : Sto K N w p M ρ) : Calls Try.prog 13 #[.pointer (some ⟨p, 0, none⟩)] w fun e w' => e = .returned (.int .i64 M.now) ∧ w' = w := by
  obtain ⟨s, mb, h1, rfl⟩ := h
  exact now_any h1

theorem xversions (h : Sto K N w p M ρ) : Calls Try.prog 18 #[.pointer (some ⟨p, 0, none⟩)] w fun e w' => ∃ m, e = .returned (.int .i64 ((m : Nat) : Int)) ∧ TotIs M.V m ∧ Same w w' := by
  obtain ⟨s, mb, h1, rfl⟩ := h
  exact versions_any h1

theorem xput_old (h : Sto K N w p M ρ) (t : Int) (ht : t ≤ M.now) (ao : Option Addr) (n cap : Nat) : Calls Try.prog 16 #[.pointer (some ⟨p, 0, none⟩), .agg #[.int .i64 t, .slice ao n cap]] w fun e w' => e = .returned (.int .i64 120) ∧ Same w w' := by
  obtain ⟨s, mb, h1, rfl⟩ := h
  exact cput_old h1 t ht ao n cap

theorem xput_new (h : Sto K N w p M ρ) (hN : N ≤ w.heap.size) (t : Int) (ht : M.now < t) (ht2 : t ≤ 9223372036854775807) (ws : List Wr) (v : Value) (I : Nat → Prop) (hs : SrcC 5 wrE w I v ws) (hI : ∀ j, I j → ρ j = 0) (hK : K + 3 * ws.length ≤ 100000) :
    Calls Try.prog 16 #[.pointer (some ⟨p, 0, none⟩), .agg #[.int .i64 t, v]] w fun e w' => e = .returned (.int .i64 0) ∧ StoA (K + 3 * ws.length) N w p ρ (putM M t ws) w' := by
  obtain ⟨s, mb, h1, rfl⟩ := h
  refine (cput_new h1 hN t ht ht2 ws v I hs hI hK).mono ?_
  rintro e w' ⟨rfl, s', ρ', g1, g2, g3, g4, g5, g6⟩
  exact ⟨rfl, ρ', ⟨s', mb, g1, by unfold putM; rw [g2, g3, g4]⟩, g5, g6⟩

theorem xprune_old (h : Sto K N w p M ρ) (t : Int) (ht : t ≤ M.floor) : Calls Try.prog 19 #[.pointer (some ⟨p, 0, none⟩), .int .i64 t] w fun e w' => e = .returned (.int .i64 0) ∧ Same w w' := by
  obtain ⟨s, mb, h1, rfl⟩ := h
  exact prune_old h1 t ht

theorem xprune_new (h : Sto K N w p M ρ) (t : Int) (ht : M.floor < t) :
    Calls Try.prog 19 #[.pointer (some ⟨p, 0, none⟩), .int .i64 t] w fun e w' => ∃ k, e = .returned (.int .i64 ((k : Nat) : Int)) ∧ StoA K N w p ρ (pruM M (min t M.now)) w' ∧ ∀ m, TotIs M.V m → ∃ m', TotIs (pruM M (min t M.now)).V m' ∧ m' + k = m := by
  obtain ⟨s, mb, h1, rfl⟩ := h
  refine (prune_new h1 t ht).mono ?_
  rintro e w' ⟨k, s', ρ', rfl, g1, g2, g3, g4, g5, g6, g7⟩
  have hv : vers s' = fun b n => pruV (vers s b n) (min t s.now) := by funext b n; exact g4 b n
  refine ⟨k, rfl, ⟨ρ', ⟨s', mb, g1, by unfold pruM; rw [g2, g3, hv]⟩, g6, g7⟩, fun m hm => ?_⟩
  obtain ⟨m', h2, h3⟩ := g5 m hm
  exact ⟨m', by unfold pruM; rw [← hv]; exact h2, h3⟩

end

theorem xnew (w : World) : Calls Try.prog 10 #[] w fun e w' => ∃ p ρ, e = .returned (.pointer (some ⟨p, 0, none⟩)) ∧ Sto 0 w.heap.size w' p ⟨0, 0, fun _ _ => []⟩ ρ ∧ (∀ k, k < w.heap.size → ρ k = 0) ∧ Same w w' := by
  refine (cnew_any w).mono ?_
  rintro e w' ⟨p, s, ρ, mb, rfl, h1, h2, h3, h4, h5, h6⟩
  have hv : vers s = fun _ _ => [] := by funext b n; exact h4 b n
  exact ⟨p, ρ, rfl, ⟨s, mb, h1, by rw [h2, h3, hv]⟩, h5, h6⟩

/-- One entry alone. -/
def oneF (b0 : Bx) (n0 : Nm) (l : List Ver) : Vs := fun b n => if b = b0 ∧ n = n0 then l else []

theorem oneF_tot (b0 : Bx) (n0 : Nm) (l : List Ver) : TotIs (oneF b0 n0 l) l.length := by
  refine ⟨[(b0, n0)], by simp, fun b n e => ?_, ?_⟩
  · unfold oneF at e
    by_cases h : b = b0 ∧ n = n0
    · rw [h.1, h.2]; exact List.mem_singleton.2 rfl
    · rw [if_neg h] at e; exact absurd rfl e
  · simp [oneF]

theorem oneF_at (b0 : Bx) (n0 : Nm) (l : List Ver) : oneF b0 n0 l b0 n0 = l := if_pos ⟨rfl, rfl⟩

theorem putF_none (x : Wr) (t : Int) : putsF (fun _ _ => []) [x] t = oneF x.b x.n [verOf x t] := by
  funext b n
  show putF (fun _ _ => []) x t b n = _
  unfold putF oneF
  by_cases h : b = x.b ∧ n = x.n
  · rw [if_pos h, if_pos h]; rfl
  · rw [if_neg h, if_neg h]

theorem putF_one (x : Wr) (l : List Ver) (t : Int) : putsF (oneF x.b x.n l) [x] t = oneF x.b x.n (putV l (verOf x t)) := by
  funext b n
  show putF (oneF x.b x.n l) x t b n = _
  unfold putF oneF
  by_cases h : b = x.b ∧ n = x.n
  · rw [if_pos h, if_pos h, if_pos h]
  · rw [if_neg h, if_neg h, if_neg h]

theorem pruF_one (b0 : Bx) (n0 : Nm) (l : List Ver) (f : Int) : (fun b n => pruV (oneF b0 n0 l b n) f) = oneF b0 n0 (pruV l f) := by
  funext b n
  unfold oneF
  by_cases h : b = b0 ∧ n = n0
  · rw [if_pos h, if_pos h]
  · rw [if_neg h, if_neg h]; rfl

end Go.Proofs.Ythignkloecfcbaa
