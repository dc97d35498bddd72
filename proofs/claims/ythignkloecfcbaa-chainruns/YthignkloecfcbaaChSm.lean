/-
  Layer 12's law ChainStays: its mathematics.
-/
import Derived.Test.YthignkloecfcbaaChPr
namespace Go.Proofs.Ythignkloecfcbaa
open Go.RowKit Go.Maps Go.Sort

theorem streq12 (s t : ByteArray) : (s.toList == t.toList) = decide (s = t) := by
  by_cases h : s = t
  · rw [h]; simp
  · have h2 : ¬ s.toList = t.toList := fun e => h (by
      rw [Lib.toList_data, Lib.toList_data] at e
      cases s; cases t; rw [Array.toList_inj] at e; exact congrArg ByteArray.mk e)
    simp [h, h2]

/-- Versions that rise, none of them later than t. -/
def UpTo (V : Vs) (t : Int) : Prop := ∀ b n, RisV (V b n) ∧ ∀ x ∈ V b n, x.t ≤ t

theorem UpTo.put {V : Vs} {t : Int} (h : UpTo V t) (x : Wr) : UpTo (putF V x t) t := fun b n => by
  unfold putF
  by_cases e : b = x.b ∧ n = x.n
  · rw [if_pos e]
    refine ⟨putV_ris (h b n).1 _, fun y hy => ?_⟩
    rcases putV_mem hy with rfl | ⟨h1, _⟩
    · rw [verOf_t]; exact Int.le_refl _
    · exact (h b n).2 y h1
  · rw [if_neg e]; exact h b n

theorem UpTo.puts {V : Vs} {t : Int} (h : UpTo V t) : ∀ ws : List Wr, UpTo (putsF V ws t) t := fun ws => by
  unfold putsF
  induction ws generalizing V with
  | nil => exact h
  | cons x r ih => exact ih (h.put x)

theorem puts_old {V : Vs} {t : Int} (h : UpTo V t) (ws : List Wr) (b : Bx) (n : Nm) {u : Int} (hu : u < t) : newV (putsF V ws t b n) u = newV (V b n) u := by
  unfold putsF
  induction ws generalizing V with
  | nil => rfl
  | cons x r ih =>
    refine (ih (h.put x)).trans ?_
    unfold putF
    by_cases e : b = x.b ∧ n = x.n
    · rw [if_pos e]
      exact newV_put_old (h b n).1 _ (by rw [verOf_t]; exact (h b n).2) (by rw [verOf_t]; exact hu)
    · rw [if_neg e]

theorem puts_succ (V : Vs) (ws : List Wr) (t : Int) (i : Nat) (hi : i < ws.length) : putsF V (ws.take (i + 1)) t = putF (putsF V (ws.take i) t) ws[i] t := by
  unfold putsF
  rw [List.take_succ_eq_append_getElem hi, List.foldl_append]
  rfl

theorem puts_hit {V : Vs} {t : Int} (h : UpTo V t) (ws : List Wr) (i : Nat) (hi : i < ws.length) : newV (putsF V (ws.take (i + 1)) t ws[i].b ws[i].n) t = verOf ws[i] t := by
  rw [puts_succ V ws t i hi]
  unfold putF
  rw [if_pos ⟨rfl, rfl⟩]
  exact newV_put_new ((h.puts (ws.take i)) _ _).1 _ (by rw [verOf_t]; exact Int.le_refl _)

theorem puts_miss {V : Vs} {t : Int} (ws : List Wr) (i : Nat) (hi : i < ws.length) (b : Bx) (n : Nm) (hne : ¬ (b = ws[i].b ∧ n = ws[i].n)) : putsF V (ws.take (i + 1)) t b n = putsF V (ws.take i) t b n := by
  rw [puts_succ V ws t i hi]
  unfold putF
  rw [if_neg hne]

theorem Sto.upTo {K N : Nat} {w : World} {p : Nat} {M : Mst} {ρ : Nat → Nat} (h : Sto K N w p M ρ) {t : Int} (ht : M.now ≤ t) : UpTo M.V t := fun b n => ⟨(h.vok b n).ris, fun x hx => Int.le_trans ((h.vok b n).low x hx).2 ht⟩

/-- At its time and later: the last. -/
theorem Sto.newLast {K N : Nat} {w : World} {p : Nat} {M : Mst} {ρ : Nat → Nat} (h : Sto K N w p M ρ) (b : Bx) (n : Nm) {t : Int} (ht : M.now ≤ t) : newV (M.V b n) t = newV (M.V b n) M.now := by
  rw [newV_all (h.vok b n).ris (fun x hx => Int.le_trans ((h.vok b n).low x hx).2 ht), newV_all (h.vok b n).ris (fun x hx => ((h.vok b n).low x hx).2)]

/-- Where ChainStays stands: a store, and a dump of it. -/
structure StS (K : Nat) (w wi : World) (p : Nat) (M : Mst) (ρ : Nat → Nat) (v : Value) (As : List Ad) : Prop where
  sto : Sto K w.heap.size wi p M ρ
  old : ∀ k, k < w.heap.size → ρ k = 0
  same : Same w wi
  dm : DmAt w.heap.size wi v As
  off : DmF ρ v As

section
variable {K : Nat} {w wi : World} {p : Nat} {M : Mst} {ρ : Nat → Nat} {v : Value} {As : List Ad}

theorem StS.kept (h : StS K w wi p M ρ v As) {w' : World} (hk : Same wi w') : StS K w w' p M ρ v As :=
  ⟨h.sto.same hk, h.old, h.same.trans hk, h.dm.same hk, h.off⟩
theorem StS.stb (h : StS K w wi p M ρ v As) : StB w wi p M K := ⟨ρ, h.sto, h.old, h.same⟩

theorem StS.first (h1 : Sto K w.heap.size wi p M ρ) (h2 : ∀ k, k < w.heap.size → ρ k = 0) (h3 : Same w wi) {w' : World} (hk : Same wi w') (hd : DmAt wi.heap.size w' v As) : StS K w w' p M ρ v As :=
  ⟨h1.same hk, h2, h3.trans hk, hd.base h3.size, fun _ e => h1.zero (hd.row.ge e), fun x hx _ e => h1.zero ((hd.ent x hx).ge e)⟩

theorem sput (h : StS K w wi p M ρ v As) (x : Cm) (hx : CmOk wi (fun k => k < w.heap.size) x) (hK : K + 3 * x.n ≤ 100000) :
    Calls Try.prog 16 #[.pointer (some ⟨p, 0, none⟩), .agg #[.int .i64 x.t, .slice x.a x.n x.c]] wi fun e w' => (e = .returned (.int .i64 120) ∧ x.t ≤ M.now ∧ StS K w w' p M ρ v As) ∨ (e = .returned (.int .i64 0) ∧ M.now < x.t ∧ ∃ ρ', StS (K + 3 * x.n) w w' p (putM M x.t x.ws) ρ' v As) := by
  by_cases ht : x.t ≤ M.now
  · refine (xput_old h.sto x.t ht x.a x.n x.c).mono ?_
    rintro e w' ⟨rfl, hk⟩
    exact .inl ⟨rfl, ht, h.kept hk⟩
  · have hl := hx.len
    refine (xput_new h.sto h.same.size x.t (by omega) hx.num.2 x.ws _ (fun k => k < w.heap.size) hx.src h.old (by rw [hl]; exact hK)).mono ?_
    rintro e w' ⟨rfl, ρ', g1, g2, g3⟩
    rw [hl] at g1
    exact .inr ⟨rfl, by omega, ρ', g1, fun k hk => g2.zero (Nat.lt_of_lt_of_le hk h.same.size) (h.old k hk), Kept.trans h.same g3 (fun _ _ f => f) (fun k hk e => e (h.old k hk)), h.dm.kept g3 (fun k e f => f (h.off.1 k e)) (fun x hx k e f => f (h.off.2 x hx k e)), fun k e => g2.zero (h.dm.row.lt e) (h.off.1 k e), fun x hx k e => g2.zero ((h.dm.ent x hx).lt e) (h.off.2 x hx k e)⟩

end

theorem bget {w w1 : World} {p K : Nat} {M : Mst} (h : StB w w1 p M K) (b : Bx) (n : Nm) (t : Int) : Calls Try.prog 14 #[.pointer (some ⟨p, 0, none⟩), .agg #[.string b.tn, .string b.ar, .string n.s], .int .i64 t] w1 fun e w' => e = .returned (.tuple #[.string (newV (M.V b n) (max t M.floor)).data, .bool (newV (M.V b n) (max t M.floor)).there]) ∧ Same w1 w' := by
  obtain ⟨ρ, h1, h2, h3⟩ := h
  exact xget h1 b n t

end Go.Proofs.Ythignkloecfcbaa
