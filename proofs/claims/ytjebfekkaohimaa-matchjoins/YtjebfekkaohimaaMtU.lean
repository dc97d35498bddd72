/-
  Tokens, one row behind the other: what they say, what they cost; append of tokens and of bytes.
-/
import Derived.Test.YtjebfekkaohimaaMtV
namespace Go.Proofs.Ytjebfekkaohimaa
open Go.RowKit

theorem mayT_mono {t : TK} {s s' : Nat} (h : mayT t s = true) (hs : s ≤ s') : mayT t s' = true := by
  rcases mayT_cases h with ⟨h0, h1, _⟩ | ⟨n, d, h0, h1, h2, h3, h4, h5, h6, _⟩
  · unfold mayT; rw [if_pos h0]; simpa using h1
  · unfold mayT; rw [if_neg (by omega)]; simp; omega

theorem measT_shift {most : Nat} {u : List TK} {s n : Nat} (k : Nat) (h : measT most u s = .ok n) (hk : s + k ≤ most) : measT most u (s + k) = if n + k ≤ most then .ok (n + k) else .error 2 := by
  induction u generalizing s with
  | nil => simp only [measT, Except.ok.injEq] at h; subst h; rw [if_pos hk]; rfl
  | cons t r ih =>
    unfold measT at h
    split at h
    · cases h
    · rename_i h1
      split at h
      · cases h
      · rename_i h2
        have hm := mayT_mono (s' := s + k) (by simpa using h1) (by omega)
        rw [measT, if_neg (by rw [hm]; decide)]
        by_cases hb : most < s + k + tlen t
        · rw [if_pos hb, if_neg]
          have := (measT_le h (by omega)).1
          omega
        · rw [if_neg hb, show s + k + tlen t = s + tlen t + k by omega]
          exact ih h (by omega)

theorem cpT_pre {a : List Nat} {d : Nat} (n : Nat) (out : List Nat) (h : d ≤ out.length) : cpT d n (a ++ out) = a ++ cpT d n out := by
  induction n generalizing out with
  | zero => rfl
  | succ n ih =>
    rw [cpT, cpT, ← ih _ (by rw [List.length_append]; omega)]
    have e : (a ++ out).getD ((a ++ out).length - d) 0 = out.getD (out.length - d) 0 := by
      simp only [List.getD_eq_getElem?_getD]
      rw [List.getElem?_append_right (by rw [List.length_append]; omega), List.length_append]
      congr 2
      omega
    rw [e, List.append_assoc]

theorem expT_pre {most : Nat} {a : List Nat} {u : List TK} {n : Nat} (out : List Nat) (h : measT most u out.length = .ok n) : expT u (a ++ out) = a ++ expT u out := by
  induction u generalizing out with
  | nil => rfl
  | cons t r ih =>
    unfold measT at h
    split at h
    · cases h
    · rename_i h1
      have hm : mayT t out.length = true := by simpa using h1
      split at h
      · cases h
      · have e : sayT (a ++ out) t = a ++ sayT out t := by
          unfold sayT
          rcases mayT_cases hm with ⟨h0, _, _⟩ | ⟨n, d, h0, h1, h2, h3, h4, h5, h6, _⟩
          · rw [if_pos h0, if_pos h0, List.append_assoc]
          · rw [if_neg (by omega), if_neg (by omega), cpT_pre _ _ (by omega)]
        show expT r (sayT (a ++ out) t) = a ++ expT r (sayT out t)
        rw [e]
        exact ih _ (by rw [sayT_length hm]; exact h)

theorem expT_join {most : Nat} {t u : List TK} {n : Nat} (h : measT most u 0 = .ok n) : expT (t ++ u) [] = expT t [] ++ expT u [] := by
  have e : expT (t ++ u) [] = expT u (expT t []) := by unfold expT; rw [List.foldl_append]
  rw [e]
  have := expT_pre (most := most) (a := expT t []) (u := u) (n := n) [] h
  rwa [List.append_nil] at this

theorem measT_join {most : Nat} {t u : List TK} {na nb : Nat} (h : measT most t 0 = .ok na) (k : measT most u 0 = .ok nb) : measT most (t ++ u) 0 = if na + nb ≤ most then .ok (na + nb) else .error 2 := by
  rw [measT_step h]
  have := measT_shift na k (by have := (measT_le h (by omega)).2; omega)
  rw [Nat.zero_add] at this
  rw [this, Nat.add_comm nb na]

theorem costT_join (t u : List TK) : costT (t ++ u) = costT t + costT u := by simp [costT]

theorem costT_small {ts : List TK} {n : Nat} (h : measT 16384 ts 0 = .ok n) : costT ts ≤ 60000000 := by
  have hM := measT_small h (Nat.le_refl _)
  have hl16 : ts.length ≤ 16385 := by
    rcases Nat.eq_zero_or_pos ts.length with h0 | h0
    · omega
    · obtain ⟨c, h1, _, h2⟩ := hM (ts.length - 1) (by omega)
      omega
  have key : ∀ i, i ≤ ts.length → costT (ts.take i) ≤ 3000 * i := by
    intro i
    induction i with
    | zero => intro _; simp [costT]
    | succ i ih =>
      intro hi
      obtain ⟨c, h1, h2, _⟩ := hM i (by omega)
      rw [costT_snoc ts i (by omega)]
      have := ih (by omega)
      have := widT_small h2 h1
      omega
  have := key ts.length (Nat.le_refl _)
  rw [List.take_length] at this
  omega

theorem expC_ok {ts : List TK} (h : expC ts 16384 = 0) : ∃ n, measT 16384 ts 0 = .ok n := by
  unfold expC at h
  rw [if_neg (by omega)] at h
  have e : (16384 : Int).toNat = 16384 := rfl
  rw [e] at h
  cases hm : measT 16384 ts 0 with
  | ok n => exact ⟨n, rfl⟩
  | error c =>
    rw [hm] at h
    have := measT_err hm
    simp only [errT] at h
    omega

theorem exp_ok {ts : List TK} {n : Nat} (h : measT 16384 ts 0 = .ok n) : expC ts 16384 = 0 ∧ expD ts 16384 = expT ts [] ∧ (expT ts []).length = n := by
  have e : (16384 : Int).toNat = 16384 := rfl
  refine ⟨?_, ?_, expT_length [] h⟩
  · unfold expC; rw [if_neg (by omega), e, h]; rfl
  · unfold expD; rw [if_neg (by omega), e, h]

theorem exp_long {ts : List TK} (h : measT 16384 ts 0 = .error 2) : expC ts 16384 = 2 ∧ expD ts 16384 = [] := by
  have e : (16384 : Int).toNat = 16384 := rfl
  refine ⟨?_, ?_⟩
  · unfold expC; rw [if_neg (by omega), e, h]; rfl
  · unfold expD; rw [if_neg (by omega), e, h]

/-- An operation that is guarded, and wanted. -/
theorem wpList_wanted {P : Program} {ops : Array Oper} {Q : Exit → Act → World → Prop} {a : Act} {w : World} {rest : List Oper} {o : Oper}
    (hw : Region.wanted o (yielded ops a.tmps) = true) (h : wpList P ops Q ({ o with guard := none } :: rest) a w) : wpList P ops Q (o :: rest) a w := by
  have hw' : Region.wanted { o with guard := none } (yielded ops a.tmps) = true := by simp [Region.wanted]
  unfold wpList at h ⊢
  rw [if_pos hw'] at h
  rw [if_pos hw]
  exact h

theorem Row.none6 {w : World} {n c : Nat} {bs : List Nat} (h : Row w (.slice none n c) bs) : n = 0 ∧ c = 0 := by
  rcases h.2 with ⟨e, _⟩ | ⟨_, _, _, e, _⟩
  · simp only [Value.slice.injEq, true_and] at e; exact e
  · simp at e

/-- The head of a block that is known whole, as a row of tokens with room behind it. -/
theorem Raw.row6 {w : World} {g : Nat} {ss : List TK} {t : TK} (h : Raw w g 38 ((ss ++ [t]).flatMap tkC)) (hl : ss.length ≤ 10000000) : RowC g 38 3 tkC w (.slice (some ⟨g, 0, none⟩) ss.length (ss.length + 1)) ss := by
  have e1 := flat_length tkC_ok ss
  have e2 := flat_length tkC_ok (ss ++ [t])
  refine ⟨e1, .inr ⟨g, ss.length + 1, _, rfl, Nat.le_refl _, h, by omega, by simp only [maxLen]; omega, ?_, ?_⟩⟩
  · rw [List.size_toArray, e2, List.length_append]; rfl
  · rw [List.flatMap_append, ← e1]
    exact List.take_left

/-- append of whatever tokens that can be read, nil among them. -/
theorem wpList_append_cx {α : Type} {ops : Array Oper} {rest : List Oper} {o : Oper} {a : Act} {Q : Exit → Act → World → Prop} (w : World) (enc : α → List Value) (k : Nat) (ok : EncOk enc k) (hk : k ≤ 100) (B sT eT : Nat) (z : Value) (bytes : Nat)
    (hU : Try.prog.underlying sT = some (.slice eT)) (hI : (Try.prog.info? eT).map (fun i => (i.zero, i.size, i.bytes)) = some (some z, k, bytes)) (hz : z.cells.size = k) (hby : bytes ≤ 1000) (hgd : o.guard = none) (s x : Operand)
    (ho : o.op = .call { callee := .builtin .append, args := #[s, x], argTypes := #[sT, sT] })
    (v : Value) (xs : List α) (hs : a.eval s = v) (hrow : RowC B eT k enc w v xs) (I : Nat → Prop) (ao : Option Addr) (n c : Nat) (cs : List α) (hx : a.eval x = .slice ao n c) (hsrc : SrcC k enc w I (.slice ao n c) cs) (h0 : ao = none → c = 0) (hlen : xs.length + cs.length ≤ 1000000000) (hB : B ≤ w.heap.size)
    (h : ∀ v' w', RowC B eT k enc w' v' (xs ++ cs) → w.grownBy w' v.ownBlock → wpList Try.prog ops Q rest (a.put o.dst v') w') : wpList Try.prog ops Q (o :: rest) a w := by
  have hn : cs.length = n := by
    obtain ⟨_, _, e, _⟩ := hsrc
    simp only [Value.slice.injEq] at e
    exact e.2.1.symm
  cases ao with
  | some ad =>
    refine wpList_append_c w enc k ok hk B sT eT z bytes hU hI hz hby hgd s x ho v xs hs hrow ad n c cs hx hn ?_ hlen hB h
    by_cases h1 : cs = []
    · subst h1; intro j u hu; simp at hu
    · obtain ⟨a', e, hb⟩ := SrcC.cellsAt ok hsrc h1
      injection e with e
      subst e
      exact hb
  | none =>
    have e0 : cs = [] := Classical.byContradiction (fun hne => by obtain ⟨_, e, _⟩ := SrcC.cellsAt ok hsrc hne; cases e)
    subst e0
    have hc := h0 rfl
    have hn0 : n = 0 := hn.symm
    subst hc hn0
    obtain ⟨i0, hi, hz0, hz1, hz2⟩ := info_parts hI
    refine wpList_plain hgd fun K hK => ?_
    have hr := run_append_owned_none (P := Try.prog) w B sT o.type eT i0 k hU hi v xs.length (xs.flatMap enc) hrow
    unfold Oper.wp execOp
    simp only [ho, resolve, invoke, builtin, Sem.run_bind, Sem.run_pure, Result.andThen_ok, List.map_toArray, List.map_cons, List.map_nil, hs, hx, hr]
    exact hK _ _ (h v w (by simpa using hrow) (World.grownBy.refl _ _))

end Go.Proofs.Ytjebfekkaohimaa
