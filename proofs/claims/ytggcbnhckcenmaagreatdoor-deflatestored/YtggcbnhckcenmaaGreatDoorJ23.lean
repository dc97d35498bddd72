/-
  Of the proof: parts LnStep, LnRead, LnWrM, InLo, InPm, InPe, InEq, DfM, DfN, LnStepsM, LnPgM, LnShape, LnIdx, InSy, InSt, InCp, InCq.
-/
import Derived.Deep.RegionLaw
import Derived.Test.YtggcbnhckcenmaaGreatDoorJ9
import Derived.Test.YtggcbnhckcenmaaGreatDoorJ3
import Derived.Test.YtggcbnhckcenmaaGreatDoorJ7
import Derived.Test.YtggcbnhckcenmaaGreatDoorJ1

/-
  The reference's head: step.
-/
namespace Go.Proofs.YtggcbnhckcenmaaGreatDoor
open Go.RowKit

theorem RW.kept {F : Nat → Prop} {w0 w' w2 : World} {go n : Nat} {ns : List Nat} {p : Nat → Prop} {rs : List (Option Addr × Nat × Nat)} (h : RW w0 w' go n ns p rs) (hk : Kept F w' w2) (h1 : ∀ k, k < w0.heap.size → ¬ F k) (h2 : ¬ F go) (h3 : ∀ s (hs : s < rs.length), p s → ∀ k, (slV rs[s]).ownBlock = some k → ¬ F k) : RW w0 w2 go n ns p rs :=
  ⟨h.row.kept hk (fun k e => by simp [Value.ownBlock] at e; subst e; exact h2), fun s hs hp => ⟨(h.have' s hs hp).1.kept hk (fun k e => h3 s hs hp k e), (h.have' s hs hp).2⟩, h.none', Same.then h.same hk h1⟩

/-- The blocks of the rows lie apart from one. -/
def RowsOff (w0 : World) (go : Nat) (ns : List Nat) (rs : List (Option Addr × Nat × Nat)) (h : Nat) : Prop := w0.heap.size ≤ h ∧ go ≠ h ∧ ∀ s (hs : s < rs.length), key ns s ≠ 0 → (slV rs[s]).ownBlock ≠ some h

theorem RW.off {w0 w' w2 : World} {go n h : Nat} {ns : List Nat} {rs : List (Option Addr × Nat × Nat)} (hr : RW w0 w' go n ns (fun s => key ns s ≠ 0) rs) (ho : RowsOff w0 go ns rs h) (hk : Kept (· = h) w' w2) : RW w0 w2 go n ns (fun s => key ns s ≠ 0) rs :=
  hr.kept hk (fun k hk e => by have := ho.1; omega) ho.2.1 (fun s hs hp k e e2 => by subst e2; exact ho.2.2 s hs hp e)

end Go.Proofs.YtggcbnhckcenmaaGreatDoor

/-
  The reference's Read.
-/
namespace Go.Proofs.YtggcbnhckcenmaaGreatDoor
open Go.RowKit

/-- A literal row of numbers. -/
theorem src_nats (w : World) (zs : List Nat) (n : Nat) (hn : zs.length = n) : SrcE natV (w.alloc (.cells (zs.map natV).toArray 3)) (fun k => k = w.heap.size) (.slice (some ⟨w.heap.size, 0, none⟩) n n) zs := by
  subst hn
  refine ⟨_, _, rfl, Nat.le_refl _, fun _ => ⟨_, _, rfl, rfl, fun j hj => ?_⟩⟩
  simp [hj]

theorem RW.down {w w0 w' : World} {go n : Nat} {ns : List Nat} {p : Nat → Prop} {rs : List (Option Addr × Nat × Nat)} (h : RW w0 w' go n ns p rs) (hk : Same w w0) : RW w w' go n ns p rs :=
  ⟨RowE.base h.row hk.size, fun s hs hp => ⟨(h.have' s hs hp).1, fun k e => Nat.le_trans hk.size ((h.have' s hs hp).2 k e)⟩, h.none', Same.trans hk h.same⟩

theorem chk_codes (l : List Nat) (hl : l.length = 19) (h7 : ∀ x ∈ l, x ≤ 7) : chk (l.map (fun (n : Nat) => (n : Int))) = chkN l := by
  have hok : okAll (l.map (fun (n : Nat) => (n : Int))) 0 15 = true := by
    simp only [okAll, List.length_map, Bool.and_eq_true, decide_eq_true_eq, Bool.not_eq_true', List.any_eq_false]
    refine ⟨⟨by omega, by omega⟩, fun z hz => ?_⟩
    obtain ⟨n, hn, rfl⟩ := List.mem_map.1 hz
    have := h7 n hn
    simp [badI]; omega
  unfold chk
  rw [if_pos hok, List.map_map]
  have e : l.map (Int.toNat ∘ fun (n : Nat) => (n : Int)) = l := by
    conv => rhs; rw [← List.map_id l]
    exact List.map_congr_left (fun n _ => by simp)
  rw [e]

theorem stepF_le {ns ls : List Nat} {c s x c' : Nat} (h : stepF ns ls c = .ok ((s, x), c')) : c' ≤ ls.length := by
  unfold stepF at h
  split at h
  · cases h
  · split at h
    · cases h
    · simp only [Except.ok.injEq, Prod.mk.injEq] at h
      omega

theorem bodyF_step {ns ls : List Nat} {N f c s x c' : Nat} {l : List Nat} (hl : l.length < N) (hs : stepF ns ls c = .ok ((s, x), c')) : bodyF ns ls N (f + 1) l c = match withM l ((s : Int), (x : Int)) N with | none => .error 41 | some m => bodyF ns ls N f m c' := by
  simp only [bodyF]
  rw [if_neg (by omega), hs]
  rfl

theorem bodyF_err {ns ls : List Nat} {N f c e : Nat} {l : List Nat} (hl : l.length < N) (hs : stepF ns ls c = .error e) : bodyF ns ls N (f + 1) l c = .error e := by
  simp only [bodyF]
  rw [if_neg (by omega), hs]

theorem bodyF_end {ns ls : List Nat} {N f c : Nat} {l : List Nat} (hl : N ≤ l.length) : bodyF ns ls N f l c = .ok (l, c) := by
  cases f with
  | zero => rfl
  | succ f => simp only [bodyF]; rw [if_pos hl]

theorem stepF_ge {ns ls : List Nat} {c s x c' : Nat} (h : stepF ns ls c = .ok ((s, x), c')) : c ≤ c' := by
  unfold stepF at h
  split at h
  · cases h
  · split at h
    · cases h
    · simp only [Except.ok.injEq, Prod.mk.injEq] at h
      omega

theorem ord_le : ∀ i, i < 19 → ord.getD i 0 ≤ 18 := by decide

end Go.Proofs.YtggcbnhckcenmaaGreatDoor

/-
  A head that is laid is read as what was laid.
-/
namespace Go.Proofs.YtggcbnhckcenmaaGreatDoor

theorem fitL_iff {ns : List Nat} {s : Nat} (hm : measure ns ≤ 32768) (hs : s ∈ ris ns) (h15 : key ns s ≤ 15) (t : List Nat) (ht : ∀ b ∈ t, b < 2) : Fit ns t s ↔ key ns s ≤ t.length ∧ rv (key ns s) (n2 t) = codeOf ns s := by
  have hcl := code_lt2 hm hs h15
  have hpart : ∀ n, n ≤ t.length → n2 (t.take n) = n2 t % 2 ^ n := fun n hn => by
    have := n2_part t ht 0 n (by omega)
    simpa using this
  unfold Fit
  rw [List.prefix_iff_eq_take, rowOf_length]
  constructor
  · rintro ⟨_, h⟩
    have hl := congrArg List.length h
    rw [rowOf_length, List.length_take] at hl
    have hk : key ns s ≤ t.length := by omega
    refine ⟨hk, ?_⟩
    have h2 := congrArg n2 h
    rw [rowOf_n2, hpart _ hk] at h2
    rw [← rv_mod (key ns s) (key ns s) _ (Nat.le_refl _), ← h2, rv_rv, Nat.mod_eq_of_lt hcl]
  · rintro ⟨hk, h⟩
    refine ⟨(mem_ris.1 hs).2, ?_⟩
    refine n2_inj _ _ (by rw [rowOf_length, List.length_take]; omega) (rowOf_bit ns s) (fun x hx => ht x (List.mem_of_mem_take hx)) ?_
    rw [rowOf_n2, hpart _ hk, ← h, rv_rv]

/-- The row of a symbol that comes is read as it. -/
theorem nextF_row {ns : List Nat} {s : Nat} (hm : measure ns ≤ 32768) (h15 : ∀ x, key ns x ≤ 15) (hs : s < ns.length) (h0 : key ns s ≠ 0) (rest : List Nat) (hr : ∀ b ∈ rest, b < 2) : nextF ns (rowOf ns s ++ rest) = (s, key ns s, 0) := by
  have hb : ∀ b ∈ rowOf ns s ++ rest, b < 2 := fun b hb => by
    rcases List.mem_append.1 hb with h | h
    · exact rowOf_bit ns s b h
    · exact hr b h
  have hsr : s ∈ ris ns := mem_ris.2 ⟨hs, h0⟩
  have hf : Fit ns (rowOf ns s ++ rest) s := ⟨h0, List.prefix_append _ _⟩
  refine nextF_of (.inl ⟨rfl, hs, hf, rfl, fun j hj hfj => ?_⟩)
  have hjr : j ∈ ris ns := mem_ris.2 ⟨by omega, hfj.1⟩
  have h1 := ((fitL_iff hm hsr (h15 s) _ hb).1 hf).2
  have h2 := ((fitL_iff hm hjr (h15 j) _ hb).1 hfj).2
  have := fits_one hjr hsr h15 h2 h1
  omega

theorem numAt_laid (A B : List Nat) (v n : Nat) (h : v < 2 ^ n) : numAt (A ++ (bitsOf v n ++ B)) A.length n = v := by
  unfold numAt
  rw [List.drop_left, List.take_append_of_le_length (by rw [bitsOf_length]; exact Nat.le_refl _), List.take_of_length_le (by rw [bitsOf_length]; exact Nat.le_refl _), bitsOf_n2, Nat.mod_eq_of_lt h]

/-- A step's bits. -/
def stepBits (cs : List Nat) (s : Nat × Nat) : List Nat := rowOf cs s.1 ++ bitsOf s.2 (xbits s.1)

theorem stepBits_length (cs : List Nat) (s : Nat × Nat) : (stepBits cs s).length = key cs s.1 + xbits s.1 := by rw [stepBits, List.length_append, rowOf_length, bitsOf_length]

theorem stepBits_bit (cs : List Nat) (s : Nat × Nat) : ∀ b ∈ stepBits cs s, b < 2 := by
  intro b hb
  rcases List.mem_append.1 hb with h | h
  · exact rowOf_bit _ _ b h
  · exact bitsOf_lt _ _ b h

/-- Steps that may be laid by these codes. -/
def StepsOk (cs : List Nat) (ss : List (Nat × Nat)) : Prop := ∀ s ∈ ss, s.1 < cs.length ∧ key cs s.1 ≠ 0 ∧ s.2 < 2 ^ xbits s.1

theorem stepF_laid {cs : List Nat} (hm : measure cs ≤ 32768) (h15 : ∀ x, key cs x ≤ 15) (A B : List Nat) (hB : ∀ b ∈ B, b < 2) (s : Nat × Nat) (h1 : s.1 < cs.length) (h2 : key cs s.1 ≠ 0) (h3 : s.2 < 2 ^ xbits s.1) :
    stepF cs (A ++ (stepBits cs s ++ B)) A.length = .ok (s, A.length + (stepBits cs s).length) := by
  have hn : nextF cs ((A ++ (stepBits cs s ++ B)).drop A.length) = (s.1, key cs s.1, 0) := by
    rw [List.drop_left, stepBits, List.append_assoc]
    refine nextF_row hm h15 h1 h2 _ (fun b hb => ?_)
    rcases List.mem_append.1 hb with h | h
    · exact bitsOf_lt _ _ b h
    · exact hB b h
  have hx : numAt (A ++ (stepBits cs s ++ B)) (A.length + key cs s.1) (xbits s.1) = s.2 := by
    have := numAt_laid (A ++ rowOf cs s.1) B s.2 (xbits s.1) h3
    rw [List.length_append, rowOf_length] at this
    rw [stepBits, List.append_assoc, ← List.append_assoc A]
    exact this
  unfold stepF
  rw [hn]
  simp only
  rw [if_neg (by simp), if_neg (by rw [List.length_append, List.length_append, stepBits_length]; omega), hx, stepBits_length, Nat.add_assoc]

theorem bodyF_laid {cs : List Nat} (hm : measure cs ≤ 32768) (h15 : ∀ x, key cs x ≤ 15) (N : Nat) (B : List Nat) (hB : ∀ b ∈ B, b < 2) (ss : List (Nat × Nat)) (hs : StepsOk cs ss) (A l m : List Nat) (f : Nat) (hl : ∀ x ∈ l, x ≤ 15) (hf : N - l.length ≤ f)
    (hr : runM N l (ss.map (fun s => ((s.1 : Int), (s.2 : Int)))) = some m) (hN : m.length = N) : bodyF cs (A ++ (ss.flatMap (stepBits cs) ++ B)) N f l A.length = .ok (m, A.length + (ss.flatMap (stepBits cs)).length) := by
  induction ss generalizing A l f with
  | nil =>
    simp only [List.map_nil, runM, Option.some.injEq] at hr
    subst hr
    rw [bodyF_end (by omega)]
    simp
  | cons s r ih =>
    have h1 := hs s (by simp)
    simp only [List.map_cons, runM] at hr
    cases hw : withM l ((s.1 : Int), (s.2 : Int)) N with
    | none => rw [hw] at hr; cases hr
    | some l2 =>
      rw [hw] at hr
      simp only at hr
      have hg := withM_grows hw hl
      obtain ⟨f, rfl⟩ : ∃ g, f = g + 1 := ⟨f - 1, by omega⟩
      have hB2 : ∀ b ∈ r.flatMap (stepBits cs) ++ B, b < 2 := fun b hb => by
        rcases List.mem_append.1 hb with h | h
        · obtain ⟨t, _, ht⟩ := List.mem_flatMap.1 h
          exact stepBits_bit cs t b ht
        · exact hB b h
      have hst := stepF_laid hm h15 A (r.flatMap (stepBits cs) ++ B) hB2 s h1.1 h1.2.1 h1.2.2
      rw [List.flatMap_cons, List.append_assoc, bodyF_step (by omega) hst, hw]
      simp only
      have := ih (fun t ht => hs t (List.mem_cons_of_mem _ ht)) (A ++ stepBits cs s) l2 f hg.2.2 (by omega) hr
      rw [List.append_assoc, List.length_append] at this
      rw [this, List.length_append, Nat.add_assoc]

/-- The lengths of the steps' codes, as bits. -/
def codeBits (cs : List Nat) : Nat → List Nat
  | 0 => []
  | i + 1 => codeBits cs i ++ bitsOf (cs.getD (ord.getD i 0) 0) 3

theorem codeBits_length (cs : List Nat) (i : Nat) : (codeBits cs i).length = 3 * i := by
  induction i with
  | zero => rfl
  | succ i ih => rw [codeBits, List.length_append, ih, bitsOf_length]; omega

theorem codeBits_split (cs : List Nat) (i n : Nat) (h : i < n) : ∃ r, codeBits cs n = codeBits cs i ++ (bitsOf (cs.getD (ord.getD i 0) 0) 3 ++ r) := by
  induction n with
  | zero => omega
  | succ n ih =>
    by_cases e : i = n
    · subst e; exact ⟨[], by simp [codeBits]⟩
    · obtain ⟨r, hr⟩ := ih (by omega)
      exact ⟨r ++ bitsOf (cs.getD (ord.getD n 0) 0) 3, by rw [codeBits, hr]; simp⟩

theorem ord_all : ∀ p, p < 19 → ∃ j, j < 19 ∧ ord.getD j 0 = p := by decide

theorem codesF_laid (cs : List Nat) (h7 : ∀ x ∈ cs, x ≤ 7) (hl : cs.length = 19) (A B : List Nat) (n : Nat) (hn : n ≤ 19) (i : Nat) (hi : i ≤ n) : ∀ p, p < 19 → (codesF (A ++ (codeBits cs n ++ B)) A.length i).getD p 0 = if (∃ j, j < i ∧ ord.getD j 0 = p) then cs.getD p 0 else 0 := by
  induction i with
  | zero =>
    intro p hp
    rw [if_neg (by rintro ⟨j, hj, _⟩; omega)]
    rw [codesF, List.getD_eq_getElem?_getD, List.getElem?_replicate, if_pos hp]
    rfl
  | succ i ih =>
    intro p hp
    have ih := ih (by omega) p hp
    obtain ⟨r, hr⟩ := codeBits_split cs i n (by omega)
    have ho := ord_le i (by omega)
    have hv : cs.getD (ord.getD i 0) 0 < 2 ^ 3 := by
      have hlt : ord.getD i 0 < cs.length := by omega
      have e : cs.getD (ord.getD i 0) 0 = cs[ord.getD i 0] := by rw [List.getD_eq_getElem?_getD, List.getElem?_eq_getElem hlt]; rfl
      rw [e]
      have := h7 _ (List.getElem_mem hlt)
      omega
    have hnum : numAt (A ++ (codeBits cs n ++ B)) (A.length + 3 * i) 3 = cs.getD (ord.getD i 0) 0 := by
      have := numAt_laid (A ++ codeBits cs i) (r ++ B) _ 3 hv
      rw [List.length_append, codeBits_length] at this
      rw [hr]
      simp only [List.append_assoc] at this ⊢
      exact this
    rw [codesF, hnum]
    have hlen := codesF_length (A ++ (codeBits cs n ++ B)) A.length i
    by_cases e : ord.getD i 0 = p
    · rw [if_pos ⟨i, by omega, e⟩, e]
      rw [List.getD_eq_getElem?_getD, List.getElem?_set_self (by omega)]
      rfl
    · rw [List.getD_eq_getElem?_getD, List.getElem?_set_ne e, ← List.getD_eq_getElem?_getD, ih]
      by_cases h : ∃ j, j < i ∧ ord.getD j 0 = p
      · obtain ⟨j, hj, hp⟩ := h
        rw [if_pos ⟨j, hj, hp⟩, if_pos ⟨j, by omega, hp⟩]
      · rw [if_neg h, if_neg]
        rintro ⟨j, hj, hp⟩
        by_cases e2 : j = i
        · subst e2; exact e hp
        · exact h ⟨j, by omega, hp⟩

/-- What is laid for two lists. -/
structure HeadOk (lit dist : List Nat) (many : Nat) (cs : List Nat) (ss : List (Nat × Nat)) : Prop where
  l1 : 257 ≤ lit.length
  l2 : lit.length ≤ 286
  d1 : 1 ≤ dist.length
  d2 : dist.length ≤ 30
  m1 : 4 ≤ many
  m2 : many ≤ 19
  c19 : cs.length = 19
  c7 : ∀ x ∈ cs, x ≤ 7
  ok : chkN cs = 0
  rest : ∀ j, many ≤ j → j < 19 → cs.getD (ord.getD j 0) 0 = 0
  st : StepsOk cs ss
  run : runM (lit.length + dist.length) [] (ss.map (fun s => ((s.1 : Int), (s.2 : Int)))) = some (lit ++ dist)

def headBits (nl nd many : Nat) (cs : List Nat) (ss : List (Nat × Nat)) : List Nat :=
  bitsOf (nl - 257) 5 ++ (bitsOf (nd - 1) 5 ++ (bitsOf (many - 4) 4 ++ (codeBits cs many ++ ss.flatMap (stepBits cs))))

theorem headBits_length (nl nd many : Nat) (cs : List Nat) (ss : List (Nat × Nat)) : (headBits nl nd many cs ss).length = 14 + 3 * many + (ss.flatMap (stepBits cs)).length := by
  unfold headBits
  simp only [List.length_append, bitsOf_length, codeBits_length]
  omega

theorem readF_laid {lit dist : List Nat} {many : Nat} {cs : List Nat} {ss : List (Nat × Nat)} (h : HeadOk lit dist many cs ss) (A B : List Nat) (hB : ∀ b ∈ B, b < 2) :
    readF (A ++ (headBits lit.length dist.length many cs ss ++ B)) A.length = .ok ((lit, dist), (headBits lit.length dist.length many cs ss).length) := by
  have hm : measure cs ≤ 32768 := by
    have := h.ok
    unfold chkN at this
    split at this
    · omega
    · omega
  have h15 : ∀ x, key cs x ≤ 15 := fun x => by
    by_cases e : x < cs.length
    · rw [key_get e]; have := h.c7 _ (List.getElem_mem e); omega
    · simp [key, e]
  have hl1 := h.l1; have hl2 := h.l2; have hd1 := h.d1; have hd2 := h.d2; have hm1 := h.m1; have hm2 := h.m2
  have hlen := headBits_length lit.length dist.length many cs ss
  obtain ⟨T, hT⟩ : ∃ T, T = A ++ (headBits lit.length dist.length many cs ss ++ B) := ⟨_, rfl⟩
  have hTl : T.length = A.length + (14 + 3 * many + (ss.flatMap (stepBits cs)).length) + B.length := by rw [hT, List.length_append, List.length_append, hlen]; omega
  have n1 : numAt T A.length 5 = lit.length - 257 := by
    have := numAt_laid A (bitsOf (dist.length - 1) 5 ++ (bitsOf (many - 4) 4 ++ (codeBits cs many ++ ss.flatMap (stepBits cs))) ++ B) (lit.length - 257) 5 (by omega)
    rw [hT]
    unfold headBits
    simp only [List.append_assoc] at this ⊢
    exact this
  have n2' : numAt T (A.length + 5) 5 = dist.length - 1 := by
    have := numAt_laid (A ++ bitsOf (lit.length - 257) 5) (bitsOf (many - 4) 4 ++ (codeBits cs many ++ ss.flatMap (stepBits cs)) ++ B) (dist.length - 1) 5 (by omega)
    rw [List.length_append, bitsOf_length] at this
    rw [hT]
    unfold headBits
    simp only [List.append_assoc] at this ⊢
    exact this
  have n3 : numAt T (A.length + 10) 4 = many - 4 := by
    have := numAt_laid (A ++ (bitsOf (lit.length - 257) 5 ++ bitsOf (dist.length - 1) 5)) (codeBits cs many ++ ss.flatMap (stepBits cs) ++ B) (many - 4) 4 (by omega)
    rw [List.length_append, List.length_append, bitsOf_length, bitsOf_length] at this
    rw [hT]
    unfold headBits
    simp only [List.append_assoc] at this ⊢
    exact this
  have hcs : codesF T (A.length + 14) many = cs := by
    have hA : (A ++ (bitsOf (lit.length - 257) 5 ++ (bitsOf (dist.length - 1) 5 ++ bitsOf (many - 4) 4))).length = A.length + 14 := by simp [bitsOf_length]
    have := codesF_laid cs h.c7 h.c19 (A ++ (bitsOf (lit.length - 257) 5 ++ (bitsOf (dist.length - 1) 5 ++ bitsOf (many - 4) 4))) (ss.flatMap (stepBits cs) ++ B) many hm2 many (Nat.le_refl _)
    rw [hA] at this
    have eT : A ++ (bitsOf (lit.length - 257) 5 ++ (bitsOf (dist.length - 1) 5 ++ bitsOf (many - 4) 4)) ++ (codeBits cs many ++ (ss.flatMap (stepBits cs) ++ B)) = T := by rw [hT]; unfold headBits; simp only [List.append_assoc]
    rw [eT] at this
    refine List.ext_getElem (by rw [codesF_length, h.c19]) (fun p h1 h2 => ?_)
    rw [codesF_length] at h1
    have hp := this p h1
    have e1 : (codesF T (A.length + 14) many).getD p 0 = (codesF T (A.length + 14) many)[p] := by rw [List.getD_eq_getElem?_getD, List.getElem?_eq_getElem]; rfl
    have e2 : cs.getD p 0 = cs[p] := by rw [List.getD_eq_getElem?_getD, List.getElem?_eq_getElem]; rfl
    rw [e1] at hp
    rw [hp]
    obtain ⟨j, hj, hjp⟩ := ord_all p h1
    by_cases hjm : j < many
    · rw [if_pos ⟨j, hjm, hjp⟩, e2]
    · have hz := h.rest j (by omega) hj
      rw [hjp, e2] at hz
      split
      · exact e2
      · exact hz.symm
  have hbody : bodyF cs T (lit.length + dist.length) (lit.length + dist.length) [] (A.length + 14 + 3 * many) = .ok (lit ++ dist, A.length + 14 + 3 * many + (ss.flatMap (stepBits cs)).length) := by
    have hA : (A ++ (bitsOf (lit.length - 257) 5 ++ (bitsOf (dist.length - 1) 5 ++ (bitsOf (many - 4) 4 ++ codeBits cs many)))).length = A.length + 14 + 3 * many := by simp [bitsOf_length, codeBits_length]; omega
    have := bodyF_laid hm h15 (lit.length + dist.length) B hB ss h.st (A ++ (bitsOf (lit.length - 257) 5 ++ (bitsOf (dist.length - 1) 5 ++ (bitsOf (many - 4) 4 ++ codeBits cs many)))) [] (lit ++ dist) (lit.length + dist.length) (by simp) (by simp) h.run (by simp)
    rw [hA] at this
    have eT : A ++ (bitsOf (lit.length - 257) 5 ++ (bitsOf (dist.length - 1) 5 ++ (bitsOf (many - 4) 4 ++ codeBits cs many))) ++ (ss.flatMap (stepBits cs) ++ B) = T := by rw [hT]; unfold headBits; simp only [List.append_assoc]
    rw [eT] at this
    exact this
  rw [← hT]
  unfold readF
  rw [n1, n2', n3, show many - 4 + 4 = many by omega, show lit.length - 257 + 257 = lit.length by omega, show dist.length - 1 + 1 = dist.length by omega, hcs, hbody, if_neg (by omega), if_neg (by omega), if_neg (by omega), if_neg (by rw [h.ok]; simp)]
  simp only
  rw [List.take_left, List.drop_left, hlen]
  congr 2
  omega

end Go.Proofs.YtggcbnhckcenmaaGreatDoor

/-
  What is read hangs on no bits behind it: numbers, symbols, heads.
-/
namespace Go.Proofs.YtggcbnhckcenmaaGreatDoor
/-- A list of lengths whose codes are no beginnings of one another. -/
structure Pf (ns : List Nat) : Prop where
  ms : measure ns ≤ 32768
  le : ∀ s, key ns s ≤ 15

theorem nextF_ends (ns t : List Nat) : (nextF ns t).2.2 = 0 ∨ (nextF ns t).2.2 = 10 ∨ (nextF ns t).2.2 = 32 := by
  rcases nextF_is ns t with h | h | h
  · exact .inl h.1
  · exact .inr (.inl h.1)
  · exact .inr (.inr h.1)

theorem bodyF_ge {ns ls : List Nat} {N f c c' : Nat} {l m : List Nat} (h : bodyF ns ls N f l c = .ok (m, c')) (hc : c ≤ ls.length) : c ≤ c' ∧ c' ≤ ls.length := by
  induction f generalizing l c with
  | zero => simp only [bodyF, Except.ok.injEq, Prod.mk.injEq] at h; omega
  | succ f ih =>
    unfold bodyF at h
    split at h
    · simp only [Except.ok.injEq, Prod.mk.injEq] at h; omega
    · split at h
      · cases h
      · rename_i s c2 hs
        have h1 := stepF_ge (s := s.1) (x := s.2) hs
        have h2 := stepF_le (s := s.1) (x := s.2) hs
        split at h
        · cases h
        · have := ih h h2; omega

theorem key_le {ns : List Nat} {b : Nat} (h : ∀ n ∈ ns, n ≤ b) (s : Nat) : key ns s ≤ b := Nat.le_trans (key_le_mx ns s) (mx_le ns b h)

theorem readF_ge {ls : List Nat} {a n : Nat} {x : List Nat × List Nat} (h : readF ls a = .ok (x, n)) : a + 14 ≤ a + n ∧ a + n ≤ ls.length := by
  unfold readF at h
  split at h
  · cases h
  · split at h
    · cases h
    · split at h
      · cases h
      · rename_i h3
        split at h
        · cases h
        · split at h
          · cases h
          · rename_i l c hbd
            simp only [Except.ok.injEq, Prod.mk.injEq] at h
            have := bodyF_ge hbd (by omega)
            omega

theorem head5_ge {ls : List Nat} {a n : Nat} {x : List Nat × List Nat} (h : head5 ls a = .ok (x, n)) : a + 14 ≤ a + n ∧ a + n ≤ ls.length := by
  unfold head5 at h
  split at h
  · cases h
  · rename_i l d n2 hr
    split at h
    · cases h
    · simp only [Except.ok.injEq, Prod.mk.injEq] at h
      obtain ⟨_, rfl⟩ := h
      exact readF_ge hr

end Go.Proofs.YtggcbnhckcenmaaGreatDoor

/-
  Layer 5 step by step: what the program does at a place of the bits; what it comes to.
-/
namespace Go.Proofs.YtggcbnhckcenmaaGreatDoor

/-- A block that is being read: whether it is the last; bytes that come as they are, or lists of lengths. -/
inductive Bk where
  | raw (last : Bool) (left : Nat)
  | sym (last : Bool) (lit dist : List Nat)

def Bk.last : Bk → Bool
  | .raw l _ => l
  | .sym l _ _ => l

/-- What a step says: the block's end, a byte, a copy. -/
inductive Tok where
  | fin
  | byte (b : Nat)
  | copy (n far : Nat)

/-- Answers and the place behind them. -/
def tkP (ls : List Nat) (c n : Nat) : Except Nat (Nat × Nat) := if ls.length < c + n then .error 55 else .ok (numAt ls c n, c + n)

def syP (ns ls : List Nat) (c last : Nat) : Except Nat (Nat × Nat) :=
  if (nextF ns (ls.drop c)).2.2 = 10 then .error 55
  else if (nextF ns (ls.drop c)).2.2 ≠ 0 ∨ last < (nextF ns (ls.drop c)).1 then .error 53
  else .ok ((nextF ns (ls.drop c)).1, c + (nextF ns (ls.drop c)).2.1)

/-- One behind the other. -/
def bindP {α β : Type} (r : Except Nat (α × Nat)) (g : α → Nat → Except Nat (β × Nat)) : Except Nat (β × Nat) :=
  match r with
  | .error e => .error e
  | .ok x => g x.1 x.2

theorem bindP_ok {α β : Type} {r : Except Nat (α × Nat)} {g : α → Nat → Except Nat (β × Nat)} {y : β × Nat} : bindP r g = .ok y ↔ ∃ x c, r = .ok (x, c) ∧ g x c = .ok y := by
  cases r with
  | error e => simp [bindP]
  | ok x =>
    refine ⟨fun h => ⟨x.1, x.2, rfl, h⟩, fun ⟨a, c, h1, h2⟩ => ?_⟩
    simp only [Except.ok.injEq] at h1
    subst h1
    exact h2

theorem bindP_is {α β : Type} {r : Except Nat (α × Nat)} {g : α → Nat → Except Nat (β × Nat)} {x : α} {c : Nat} (h : r = .ok (x, c)) : bindP r g = g x c := by rw [h]; rfl
theorem bindP_no {α β : Type} {r : Except Nat (α × Nat)} {g : α → Nat → Except Nat (β × Nat)} {e : Nat} (h : r = .error e) : bindP r g = .error e := by rw [h]; rfl

def numP (ls : List Nat) (c y k : Nat) : Except Nat (Nat × Nat) :=
  if y < k then .ok (y, c) else bindP (tkP ls c (y / k - 1)) (fun x c' => .ok ((k + y % k) * 2 ^ (y / k - 1) + x, c'))

def lenP (ls : List Nat) (c y : Nat) : Except Nat (Nat × Nat) :=
  if y < 285 then bindP (numP ls c (y - 257) 4) (fun n c' => .ok (3 + n, c')) else .ok (258, c)

def dsyP (dist ls : List Nat) (c : Nat) : Except Nat (Nat × Nat) := if usedB dist = false then .error 53 else syP dist ls c 29

def copP (ls dist : List Nat) (c y : Nat) : Except Nat ((Nat × Nat) × Nat) :=
  bindP (lenP ls c y) (fun n c1 => bindP (dsyP dist ls c1) (fun z c2 => bindP (numP ls c2 z 2) (fun d c3 => .ok ((n, 1 + d), c3))))

def symP (ls : List Nat) (last : Bool) (lit dist : List Nat) (y c1 : Nat) : Except Nat ((Tok × Bk) × Nat) :=
  if y < 256 then .ok ((.byte y, .sym last lit dist), c1)
  else if y = 256 then .ok ((.fin, .sym last lit dist), c1)
  else bindP (copP ls dist c1 y) (fun x c2 => .ok ((.copy x.1 x.2, .sym last lit dist), c2))

def stepP (ls : List Nat) (b : Bk) (c : Nat) : Except Nat ((Tok × Bk) × Nat) :=
  match b with
  | .raw last 0 => .ok ((.fin, .raw last 0), c)
  | .raw last (n + 1) => bindP (tkP ls c 8) (fun v c' => .ok ((.byte v, .raw last n), c'))
  | .sym last lit dist => bindP (syP lit ls c 285) (symP ls last lit dist)

def cntP (ls : List Nat) (c : Nat) : Except Nat (Nat × Nat) :=
  bindP (tkP ls ((c + 7) / 8 * 8) 16) (fun n c1 => bindP (tkP ls c1 16) (fun t c2 => if n + t = 65535 then .ok (n, c2) else .error 51))

def hdP (ls : List Nat) (c : Nat) : Except Nat ((List Nat × List Nat) × Nat) :=
  match head5 ls c with
  | .error e => .error e
  | .ok (x, n) => .ok (x, c + n)

def kndP (ls : List Nat) (last : Bool) (c k : Nat) : Except Nat (Bk × Nat) :=
  if k = 0 then bindP (cntP ls c) (fun n c' => .ok (.raw last n, c'))
  else if k = 1 then .ok (.sym last fixL fixD, c)
  else if k = 2 then bindP (hdP ls c) (fun x c' => .ok (.sym last x.1 x.2, c'))
  else .error 50

def begP (ls : List Nat) (c : Nat) : Except Nat (Bk × Nat) :=
  bindP (tkP ls c 1) (fun l c1 => bindP (tkP ls c1 2) (fun k c2 => kndP ls (l == 1) c2 k))

/-- So many bytes, each the one so far ahead. -/
def cpL (far : Nat) : Nat → List Nat → List Nat
  | 0, out => out
  | n + 1, out => cpL far n (out ++ [out.getD (out.length - far) 0])

def layP (most : Nat) (out : List Nat) : Tok → Except Nat (List Nat)
  | .fin => .ok out
  | .byte b => if most < out.length + 1 then .error 56 else .ok (out ++ [b])
  | .copy n far => if out.length < far then .error 54 else if most < out.length + n then .error 56 else .ok (cpL far n out)

/-- The place, what was laid, the block. -/
structure Ps where
  c : Nat
  out : List Nat
  bk : Option Bk

/-- What a step comes to. -/
def goP (most : Nat) (s : Ps) (b : Bk) (x : (Tok × Bk) × Nat) : Except Nat (Ps × Bool) :=
  match x.1.1 with
  | .fin => if b.last = true then .ok (⟨x.2, s.out, some x.1.2⟩, true) else .ok (⟨x.2, s.out, none⟩, false)
  | t => match layP most s.out t with
    | .error e => .error e
    | .ok out => .ok (⟨x.2, out, some x.1.2⟩, false)

/-- One step; whether it was the last. -/
def stP (ls : List Nat) (most : Nat) (s : Ps) : Except Nat (Ps × Bool) :=
  match s.bk with
  | none => match begP ls s.c with
    | .error e => .error e
    | .ok x => .ok (⟨x.2, s.out, some x.1⟩, false)
  | some b => match stepP ls b s.c with
    | .error e => .error e
    | .ok x => goP most s b x

/-- All steps: where they end, and why (0: all blocks are read). -/
inductive Ends (ls : List Nat) (most : Nat) : Ps → Ps → Nat → Prop
  | stop {s : Ps} {e : Nat} (h : stP ls most s = .error e) : Ends ls most s s e
  | done {s t : Ps} (h : stP ls most s = .ok (t, true)) : Ends ls most s t 0
  | step {s s' t : Ps} {e : Nat} (h : stP ls most s = .ok (s', false)) (r : Ends ls most s' t e) : Ends ls most s t e

theorem tkP_ok {ls : List Nat} {c n x c' : Nat} (h : tkP ls c n = .ok (x, c')) : x = numAt ls c n ∧ c' = c + n ∧ c + n ≤ ls.length := by
  unfold tkP at h
  split at h
  · cases h
  · simp only [Except.ok.injEq, Prod.mk.injEq] at h; exact ⟨h.1.symm, h.2.symm, by omega⟩
theorem tkP_is {ls : List Nat} {c n : Nat} (h : c + n ≤ ls.length) : tkP ls c n = .ok (numAt ls c n, c + n) := by unfold tkP; rw [if_neg (by omega)]
theorem syP_cases {ns ls : List Nat} {c last : Nat} {r : Except Nat (Nat × Nat)} (h : syP ns ls c last = r) :
    (r = .error 55 ∧ (nextF ns (ls.drop c)).2.2 = 10) ∨ (r = .error 53 ∧ (nextF ns (ls.drop c)).2.2 = 32) ∨
    (∃ y k, nextF ns (ls.drop c) = (y, k, 0) ∧ ((last < y ∧ r = .error 53) ∨ (y ≤ last ∧ r = .ok (y, c + k)))) := by
  obtain ⟨y, k, g, hn⟩ : ∃ y k g, nextF ns (ls.drop c) = (y, k, g) := ⟨_, _, _, rfl⟩
  have h3 := nextF_ends ns (ls.drop c)
  unfold syP at h
  rw [hn] at h h3 ⊢
  simp only at h h3 ⊢
  rcases h3 with rfl | rfl | rfl
  · refine .inr (.inr ⟨y, k, rfl, ?_⟩)
    rw [if_neg (by omega)] at h
    by_cases hy : last < y
    · rw [if_pos (.inr hy)] at h; exact .inl ⟨hy, h.symm⟩
    · rw [if_neg (by omega)] at h; exact .inr ⟨by omega, h.symm⟩
  · rw [if_pos rfl] at h; exact .inl ⟨h.symm, rfl⟩
  · rw [if_neg (by omega), if_pos (.inl (by omega))] at h; exact .inr (.inl ⟨h.symm, rfl⟩)

theorem syP_none {ns ls : List Nat} {c last : Nat} (h : (nextF ns (ls.drop c)).2.2 = 32) : syP ns ls c last = .error 53 := by
  unfold syP; rw [if_neg (by omega), if_pos (.inl (by omega))]
theorem syP_short {ns ls : List Nat} {c last : Nat} (h : (nextF ns (ls.drop c)).2.2 = 10) : syP ns ls c last = .error 55 := by
  unfold syP; rw [if_pos h]
theorem syP_is {ns ls : List Nat} {c last y k : Nat} (h : nextF ns (ls.drop c) = (y, k, 0)) (hy : y ≤ last) : syP ns ls c last = .ok (y, c + k) := by
  unfold syP; rw [h]; simp only; rw [if_neg (by omega), if_neg (by omega)]
theorem syP_far {ns ls : List Nat} {c last y k : Nat} (h : nextF ns (ls.drop c) = (y, k, 0)) (hy : last < y) : syP ns ls c last = .error 53 := by
  unfold syP; rw [h]; simp only; rw [if_neg (by omega), if_pos (.inr hy)]

theorem nextF_len {ns t : List Nat} {y k : Nat} (h : nextF ns t = (y, k, 0)) : k ≤ t.length ∧ 0 < k ∧ y < ns.length := by
  have h1 := nextF_is ns t
  rw [h] at h1
  rcases h1 with ⟨_, hs, hf, hk, _⟩ | ⟨h0, _⟩ | ⟨h0, _⟩
  · simp only at hs hf hk
    have := hf.2.length_le
    rw [rowOf_length] at this
    have := hf.1
    omega
  · simp at h0
  · simp at h0

theorem nextF_in {ns ls : List Nat} {c y k : Nat} (hc : c ≤ ls.length) (h : nextF ns (ls.drop c) = (y, k, 0)) : c + k ≤ ls.length := by
  have := (nextF_len h).1
  rw [List.length_drop] at this
  omega

/-- Lists of lengths that a block's codes are made of. -/
structure Lok (l : List Nat) : Prop where
  pos : 0 < l.length
  max : l.length ≤ 288
  le : ∀ n ∈ l, n ≤ 15
  ok : chkN l = 0

structure OkL (lit dist : List Nat) : Prop where
  lit : Lok lit
  pos : 0 < dist.length
  max : dist.length ≤ 288
  le : ∀ n ∈ dist, n ≤ 15
  dist : usedB dist = true → Lok dist

theorem Lok.pf {l : List Nat} (h : Lok l) : Pf l := by
  refine ⟨?_, key_le h.le⟩
  have := h.ok
  unfold chkN at this
  split at this
  · cases this
  · omega

theorem OkL.pf {lit dist : List Nat} (h : OkL lit dist) : Pf dist := by
  by_cases hu : usedB dist = true
  · exact (h.dist hu).pf
  · refine ⟨?_, key_le h.le⟩
    have : measure dist = 0 := by
      have hu2 : usedB dist = false := by simpa using hu
      unfold usedB at hu2
      rw [List.any_eq_false] at hu2
      unfold measure
      have : dist.map unit = dist.map (fun _ => 0) := List.map_congr_left (fun n hn => by
        have := hu2 n hn
        have h0 : n = 0 := by simpa using this
        rw [h0]; rfl)
      rw [this, List.map_const', List.sum_replicate_nat, Nat.mul_zero]
    omega

theorem head5_ne {ls : List Nat} {a e : Nat} (h : head5 ls a = .error e) : e ≠ 0 := by
  unfold head5 at h
  split at h
  · simp only [Except.error.injEq] at h
    split at h <;> omega
  · split at h
    · simp only [Except.error.injEq] at h; omega
    · cases h

theorem stepP_raw (ls : List Nat) (last : Bool) (n c : Nat) : stepP ls (.raw last (n + 1)) c = bindP (tkP ls c 8) (fun v c' => .ok ((.byte v, .raw last n), c')) := rfl
theorem stepP_sym (ls : List Nat) (last : Bool) (lit dist : List Nat) (c : Nat) : stepP ls (.sym last lit dist) c = bindP (syP lit ls c 285) (symP ls last lit dist) := rfl

theorem stP_none_ok {ls : List Nat} {most : Nat} {s : Ps} {b : Bk} {c : Nat} (h : s.bk = none) (hg : begP ls s.c = .ok (b, c)) : stP ls most s = .ok (⟨c, s.out, some b⟩, false) := by
  unfold stP; rw [h]; simp only [hg]
theorem stP_none_err {ls : List Nat} {most : Nat} {s : Ps} {e : Nat} (h : s.bk = none) (hg : begP ls s.c = .error e) : stP ls most s = .error e := by
  unfold stP; rw [h]; simp only [hg]
theorem stP_some_ok {ls : List Nat} {most : Nat} {s : Ps} {b : Bk} {x : (Tok × Bk) × Nat} (h : s.bk = some b) (hg : stepP ls b s.c = .ok x) : stP ls most s = goP most s b x := by
  unfold stP; rw [h]; simp only [hg]
theorem stP_some_err {ls : List Nat} {most : Nat} {s : Ps} {b : Bk} {e : Nat} (h : s.bk = some b) (hg : stepP ls b s.c = .error e) : stP ls most s = .error e := by
  unfold stP; rw [h]; simp only [hg]

theorem goP_fin (most : Nat) (s : Ps) (b b' : Bk) (c : Nat) : goP most s b ((.fin, b'), c) = if b.last = true then .ok (⟨c, s.out, some b'⟩, true) else .ok (⟨c, s.out, none⟩, false) := rfl
theorem goP_err {most : Nat} {s : Ps} {b b' : Bk} {c e : Nat} {t : Tok} (ht : t ≠ .fin) (h : layP most s.out t = .error e) : goP most s b ((t, b'), c) = .error e := by
  cases t with
  | fin => exact absurd rfl ht
  | byte v => unfold goP; simp only [h]
  | copy n far => unfold goP; simp only [h]
theorem goP_ok {most : Nat} {s : Ps} {b b' : Bk} {c : Nat} {t : Tok} {out : List Nat} (ht : t ≠ .fin) (h : layP most s.out t = .ok out) : goP most s b ((t, b'), c) = .ok (⟨c, out, some b'⟩, false) := by
  cases t with
  | fin => exact absurd rfl ht
  | byte v => unfold goP; simp only [h]
  | copy n far => unfold goP; simp only [h]

end Go.Proofs.YtggcbnhckcenmaaGreatDoor

/-
  Steps one behind the other: with more bits, with the bits that were read alone, with another limit.
-/
namespace Go.Proofs.YtggcbnhckcenmaaGreatDoor
theorem fix_ok : OkL fixL fixD := by
  refine ⟨⟨by decide +kernel, by decide +kernel, by decide +kernel, by decide +kernel⟩, by decide +kernel, by decide +kernel, by decide +kernel, fun _ => ⟨by decide +kernel, by decide +kernel, by decide +kernel, by decide +kernel⟩⟩

theorem cpL_length (far n : Nat) (out : List Nat) : (cpL far n out).length = out.length + n := by
  induction n generalizing out with
  | zero => rfl
  | succ n ih => rw [cpL, ih, List.length_append]; simp; omega

theorem layP_ok {most : Nat} {out out' : List Nat} {t : Tok} (h : layP most out t = .ok out') : out.length ≤ out'.length ∧ (out.length ≤ most → out'.length ≤ most) ∧ ∀ m, out'.length ≤ m → layP m out t = .ok out' := by
  cases t with
  | fin => simp only [layP, Except.ok.injEq] at h; subst h; exact ⟨Nat.le_refl _, fun h => h, fun _ _ => rfl⟩
  | byte b =>
    simp only [layP] at h
    split at h
    · cases h
    · simp only [Except.ok.injEq] at h
      subst h
      refine ⟨by simp, fun _ => by simp; omega, fun m hm => ?_⟩
      simp only [layP]
      rw [if_neg (by simp at hm; omega)]
  | copy n far =>
    simp only [layP] at h
    split at h
    · cases h
    · split at h
      · cases h
      · simp only [Except.ok.injEq] at h
        subst h
        rw [cpL_length]
        refine ⟨by omega, fun _ => by omega, fun m hm => ?_⟩
        simp only [layP]
        rw [if_neg (by omega), if_neg (by omega)]

theorem layP_ne {most : Nat} {out : List Nat} {t : Tok} {e : Nat} (h : layP most out t = .error e) : e = 54 ∨ e = 56 := by
  cases t with
  | fin => cases h
  | byte b =>
    simp only [layP] at h
    split at h
    · simp only [Except.error.injEq] at h; omega
    · cases h
  | copy n far =>
    simp only [layP] at h
    split at h
    · simp only [Except.error.injEq] at h; omega
    · split at h
      · simp only [Except.error.injEq] at h; omega
      · cases h

theorem Ends.det {ls : List Nat} {most : Nat} {s t t' : Ps} {e e' : Nat} (h : Ends ls most s t e) (h' : Ends ls most s t' e') : t = t' ∧ e = e' := by
  induction h with
  | stop h =>
    cases h' with
    | stop h2 => rw [h] at h2; simp only [Except.error.injEq] at h2; exact ⟨rfl, h2⟩
    | done h2 => rw [h] at h2; cases h2
    | step h2 _ => rw [h] at h2; cases h2
  | done h =>
    cases h' with
    | stop h2 => rw [h] at h2; cases h2
    | done h2 => rw [h] at h2; simp only [Except.ok.injEq, Prod.mk.injEq] at h2; exact ⟨h2.1, rfl⟩
    | step h2 _ => rw [h] at h2; simp at h2
  | step h _ ih =>
    cases h' with
    | stop h2 => rw [h] at h2; cases h2
    | done h2 => rw [h] at h2; simp at h2
    | step h2 r2 =>
      rw [h] at h2
      simp only [Except.ok.injEq, Prod.mk.injEq, and_true] at h2
      subst h2
      exact ih r2

def ps0 : Ps := ⟨0, [], none⟩
end Go.Proofs.YtggcbnhckcenmaaGreatDoor

/-
  The reference's answers and the program's steps say the same.
-/
namespace Go.Proofs.YtggcbnhckcenmaaGreatDoor

/-- Steps one behind the other, none of them the last. -/
inductive Runs (ls : List Nat) (most : Nat) : Ps → Ps → Prop
  | refl (s : Ps) : Runs ls most s s
  | step {s s' t : Ps} (h : stP ls most s = .ok (s', false)) (r : Runs ls most s' t) : Runs ls most s t

theorem Runs.ends {ls : List Nat} {most : Nat} {s t u : Ps} {e : Nat} (h : Runs ls most s t) (r : Ends ls most t u e) : Ends ls most s u e := by
  induction h with
  | refl s => exact r
  | step h _ ih => exact .step h (ih r)

theorem Runs.trans {ls : List Nat} {most : Nat} {s t u : Ps} (h : Runs ls most s t) (r : Runs ls most t u) : Runs ls most s u := by
  induction h with
  | refl s => exact r
  | step h _ ih => exact .step h (ih r)

/-- An answer that is the same as a state's. -/
def Says (s : S5) (r : Except Nat (Nat × Nat)) (p : Nat × S5) : Prop :=
  match r with
  | .ok (x, c) => p = (x, ⟨c, s.out, 0⟩)
  | .error e => e ≠ 0 ∧ p.2.e = e ∧ p.2.out = s.out

theorem tk_says (ls : List Nat) (s : S5) (n : Nat) (he : s.e = 0) : Says s (tkP ls s.c n) (tk ls s n) := by
  unfold tk tkP
  have h0 : ¬ s.e ≠ 0 := by omega
  by_cases h : ls.length < s.c + n
  · rw [if_pos h, if_neg h0, if_pos h]; exact ⟨by decide, rfl, rfl⟩
  · rw [if_neg h, if_neg h0, if_neg h]
    show _ = _
    rw [he]

theorem tkP_zero (ls : List Nat) (c : Nat) (h : c ≤ ls.length) : tkP ls c 0 = .ok (0, c) := by
  rw [tkP_is (by omega)]
  rfl

theorem lbase_is : ∀ k, k < 28 → lbase (257 + k) = 3 + (if k < 4 then k else (4 + k % 4) * 2 ^ (k / 4 - 1)) ∧ xlen (257 + k) = if k < 4 then 0 else k / 4 - 1 := by decide +kernel
theorem dbase_is : ∀ k, k < 30 → dbase k = 1 + (if k < 2 then k else (2 + k % 2) * 2 ^ (k / 2 - 1)) ∧ xdist k = if k < 2 then 0 else k / 2 - 1 := by decide +kernel

theorem len_says (ls : List Nat) (s : S5) (y : Nat) (he : s.e = 0) (hc : s.c ≤ ls.length) (h1 : 257 ≤ y) (h2 : y ≤ 285) : Says s (lenP ls s.c y) (len5 ls s y) := by
  by_cases h : y = 285
  · have e1 : lenP ls s.c y = .ok (258, s.c) := by subst h; rfl
    have e2 : len5 ls s y = (258, s) := by subst h; rfl
    rw [e1, e2]
    show _ = _
    rw [← he]
  · have h285 : y < 285 := by omega
    have e1 : lenP ls s.c y = bindP (numP ls s.c (y - 257) 4) (fun n c' => .ok (3 + n, c')) := by unfold lenP; exact if_pos h285
    have e2 : len5 ls s y = (lbase y + (tk ls s (xlen y)).1, (tk ls s (xlen y)).2) := by unfold len5; exact if_neg h
    obtain ⟨k, hk⟩ : ∃ k, y - 257 = k := ⟨_, rfl⟩
    have hy : y = 257 + k := by omega
    obtain ⟨hb, hx⟩ := lbase_is k (by omega)
    rw [e1, e2, hk, hy, hb, hx]
    clear hy hk h1 h2 h h285 e1 e2
    unfold numP
    by_cases hk : k < 4
    · rw [if_pos hk, if_pos hk, if_pos hk]
      have ht := tk_says ls s 0 he
      rw [tkP_zero ls s.c hc] at ht
      have ht : tk ls s 0 = (0, ⟨s.c, s.out, 0⟩) := ht
      rw [ht]
      rfl
    · rw [if_neg hk, if_neg hk, if_neg hk]
      have ht := tk_says ls s (k / 4 - 1) he
      cases hr : tkP ls s.c (k / 4 - 1) with
      | error e =>
        rw [hr] at ht
        exact ht
      | ok x =>
        obtain ⟨x, c⟩ := x
        rw [hr] at ht
        have ht : tk ls s (k / 4 - 1) = (x, ⟨c, s.out, 0⟩) := ht
        rw [ht]
        show _ = _
        simp only [Prod.mk.injEq, and_true]
        omega

theorem dist_says (ls : List Nat) (s : S5) (y : Nat) (he : s.e = 0) (hc : s.c ≤ ls.length) (h2 : y ≤ 29) : Says s (bindP (numP ls s.c y 2) (fun d c => .ok (1 + d, c))) (dist5 ls s y) := by
  unfold dist5
  obtain ⟨hb, hx⟩ := dbase_is y (by omega)
  rw [hb, hx]
  unfold numP
  by_cases hk : y < 2
  · rw [if_pos hk, if_pos hk, if_pos hk]
    have ht := tk_says ls s 0 he
    rw [tkP_zero ls s.c hc] at ht
    have ht : tk ls s 0 = (0, ⟨s.c, s.out, 0⟩) := ht
    rw [ht]
    rfl
  · rw [if_neg hk, if_neg hk, if_neg hk]
    have ht := tk_says ls s (y / 2 - 1) he
    cases hr : tkP ls s.c (y / 2 - 1) with
    | error e =>
      rw [hr] at ht
      exact ht
    | ok x =>
      obtain ⟨x, c⟩ := x
      rw [hr] at ht
      have ht : tk ls s (y / 2 - 1) = (x, ⟨c, s.out, 0⟩) := ht
      rw [ht]
      show _ = _
      simp only [Prod.mk.injEq, and_true]
      omega

/-- A symbol. -/
theorem sy_says (ns ls : List Nat) (s : S5) (he : s.e = 0) :
    ((nextF ns (ls.drop s.c)).2.2 = 10 ∧ (sy ns ls s 53).2.e = 55 ∧ (sy ns ls s 53).2.out = s.out) ∨ ((nextF ns (ls.drop s.c)).2.2 = 32 ∧ (sy ns ls s 53).2.e = 53) ∨
    ∃ y k, nextF ns (ls.drop s.c) = (y, k, 0) ∧ sy ns ls s 53 = (y, ⟨s.c + k, s.out, 0⟩) := by
  unfold sy
  rw [if_neg (by omega)]
  obtain ⟨y, k, g, hn⟩ : ∃ y k g, nextF ns (ls.drop s.c) = (y, k, g) := ⟨_, _, _, rfl⟩
  have h3 := nextF_ends ns (ls.drop s.c)
  rw [hn] at h3 ⊢
  simp only at h3 ⊢
  rcases h3 with rfl | rfl | rfl
  · exact .inr (.inr ⟨y, k, rfl, by rw [if_neg (by decide), if_neg (by decide)]⟩)
  · left; simp
  · right; left; simp

theorem cp5_says (most far n : Nat) (s : S5) (he : s.e = 0) (ho : s.out.length ≤ most) :
    (most < s.out.length + n ∧ (cp5 most far n s).e = 56) ∨ (s.out.length + n ≤ most ∧ cp5 most far n s = ⟨s.c, cpL far n s.out, 0⟩) := by
  induction n generalizing s with
  | zero =>
    refine .inr ⟨by omega, ?_⟩
    unfold cp5 cpL
    rw [← he]
  | succ n ih =>
    unfold cp5 cpL
    rw [if_neg (by omega)]
    unfold ly
    rw [if_neg (by omega)]
    by_cases h : most ≤ s.out.length
    · rw [if_pos h]
      refine .inl ⟨by omega, ?_⟩
      cases n with
      | zero => rfl
      | succ n => unfold cp5; rw [if_pos (by simp)]
    · rw [if_neg h]
      have := ih ⟨s.c, s.out ++ [s.out.getD (s.out.length - far) 0], s.e⟩ he (by simp; omega)
      simp only [List.length_append, List.length_singleton] at this
      rcases this with ⟨h1, h2⟩ | ⟨h1, h2⟩
      · exact .inl ⟨by omega, h2⟩
      · exact .inr ⟨by omega, h2⟩

/-- What a copy comes to. -/
def CopS (most : Nat) (s : S5) (r : Except Nat ((Nat × Nat) × Nat)) (p : S5) : Prop :=
  match r with
  | .error e => e ≠ 0 ∧ p.e = e ∧ p.out = s.out
  | .ok ((n, far), c) => match layP most s.out (.copy n far) with
    | .error e => p.e = e
    | .ok out => p = ⟨c, out, 0⟩

theorem copies_is {ls : List Nat} {most : Nat} {dist : List Nat} {s : S5} {y : Nat} (h : y ≤ 285) {n : Nat} {s1 s2 s3 s4 : S5} {d : Nat} (e1 : len5 ls s y = (n, s1)) (e2 : (if s1.e = 0 ∧ usedB dist = false then { s1 with e := 53 } else s1 : S5) = s2) (e3 : sy dist ls s2 53 = (d, s3)) (e4 : (if s3.e = 0 ∧ 29 < d then { s3 with e := 53 } else s3 : S5) = s4) :
    copies5 ls most dist s y = if s4.e ≠ 0 then s4 else cp5 most (dist5 ls s4 d).1 n (if (dist5 ls s4 d).2.e = 0 ∧ (dist5 ls s4 d).2.out.length < (dist5 ls s4 d).1 then { (dist5 ls s4 d).2 with e := 54 } else (dist5 ls s4 d).2) := by
  unfold copies5
  rw [if_neg (by omega)]
  simp only [e1]
  rw [e2]
  simp only [e3]
  rw [e4]

theorem copies_says (ls : List Nat) (most : Nat) (dist : List Nat) (s : S5) (y : Nat) (he : s.e = 0) (hc : s.c ≤ ls.length) (ho : s.out.length ≤ most) (h1 : 257 ≤ y) (h2 : y ≤ 285) : CopS most s (copP ls dist s.c y) (copies5 ls most dist s y) := by
  unfold copP
  have hl := len_says ls s y he hc h1 h2
  cases hr : lenP ls s.c y with
  | error e =>
    rw [hr] at hl
    obtain ⟨hn, hle, hlo⟩ := hl
    rw [bindP_no rfl]
    obtain ⟨n, s1, hp⟩ : ∃ n s1, len5 ls s y = (n, s1) := ⟨_, _, rfl⟩
    rw [hp] at hle hlo
    simp only at hle hlo
    have h9 : s1.e ≠ 0 := by omega
    rw [copies_is h2 hp (if_neg (fun h => h9 h.1)) (d := 0) (s3 := s1) (by unfold sy; rw [if_pos h9]) (if_neg (fun h => h9 h.1)), if_pos h9]
    exact ⟨hn, hle, hlo⟩
  | ok x =>
    obtain ⟨n, c1⟩ := x
    rw [hr] at hl
    have hl : len5 ls s y = (n, ⟨c1, s.out, 0⟩) := hl
    have hc1 : c1 ≤ ls.length := by
      unfold lenP at hr
      split at hr
      · obtain ⟨m, c2, hm, hr⟩ := bindP_ok.1 hr
        simp only [Except.ok.injEq, Prod.mk.injEq] at hr
        unfold numP at hm
        split at hm
        · simp only [Except.ok.injEq, Prod.mk.injEq] at hm; omega
        · obtain ⟨m2, c3, hm2, hm⟩ := bindP_ok.1 hm
          simp only [Except.ok.injEq, Prod.mk.injEq] at hm
          have := tkP_ok hm2
          omega
      · simp only [Except.ok.injEq, Prod.mk.injEq] at hr; omega
    rw [bindP_is rfl]
    unfold dsyP
    by_cases hu : usedB dist = false
    · rw [if_pos hu, bindP_no rfl]
      rw [copies_is h2 hl (s2 := ⟨c1, s.out, 53⟩) (if_pos ⟨rfl, hu⟩) (d := 0) (s3 := ⟨c1, s.out, 53⟩) (by unfold sy; rw [if_pos (by simp)]) (if_neg (fun h => by cases h.1)), if_pos (by simp)]
      exact ⟨by decide, rfl, rfl⟩
    · rw [if_neg hu]
      have e2 : (if (⟨c1, s.out, 0⟩ : S5).e = 0 ∧ usedB dist = false then { (⟨c1, s.out, 0⟩ : S5) with e := 53 } else ⟨c1, s.out, 0⟩ : S5) = ⟨c1, s.out, 0⟩ := if_neg (fun h => hu h.2)
      rcases sy_says dist ls ⟨c1, s.out, 0⟩ rfl with ⟨hn, hse, hso⟩ | ⟨hn, hse⟩ | ⟨z, k, hn, hsy⟩
      · rw [syP_short hn, bindP_no rfl]
        obtain ⟨d, s3, hp⟩ : ∃ d s3, sy dist ls ⟨c1, s.out, 0⟩ 53 = (d, s3) := ⟨_, _, rfl⟩
        rw [hp] at hse hso
        simp only at hse hso
        rw [copies_is h2 hl e2 hp (if_neg (fun h => by omega)), if_pos (by omega)]
        exact ⟨by decide, hse, hso⟩
      · rw [syP_none hn, bindP_no rfl]
        have hso : (sy dist ls ⟨c1, s.out, 0⟩ 53).2.out = s.out := by unfold sy; split <;> rfl
        obtain ⟨d, s3, hp⟩ : ∃ d s3, sy dist ls ⟨c1, s.out, 0⟩ 53 = (d, s3) := ⟨_, _, rfl⟩
        rw [hp] at hse hso
        simp only at hse hso
        rw [copies_is h2 hl e2 hp (if_neg (fun h => by omega)), if_pos (by omega)]
        exact ⟨by decide, hse, hso⟩
      · simp only at hn hsy
        by_cases hz : 29 < z
        · rw [syP_far hn hz, bindP_no rfl, copies_is h2 hl e2 hsy (s4 := ⟨c1 + k, s.out, 53⟩) (if_pos ⟨rfl, hz⟩), if_pos (by simp)]
          exact ⟨by decide, rfl, rfl⟩
        · rw [syP_is hn (by omega), bindP_is rfl, copies_is h2 hl e2 hsy (s4 := ⟨c1 + k, s.out, 0⟩) (if_neg (fun h => hz h.2)), if_neg (by simp)]
          have hc2 : c1 + k ≤ ls.length := nextF_in hc1 hn
          have hd := dist_says ls ⟨c1 + k, s.out, 0⟩ z rfl hc2 (by omega)
          simp only at hd
          cases hq : numP ls (c1 + k) z 2 with
          | error e =>
            rw [hq, bindP_no rfl] at hd
            obtain ⟨hn9, hde, hdo⟩ := hd
            simp only at hdo
            rw [bindP_no rfl]
            rw [if_neg (fun h => hn9 (hde.symm.trans h.1))]
            have hcp : ∀ f m, cp5 most f m (dist5 ls ⟨c1 + k, s.out, 0⟩ z).2 = (dist5 ls ⟨c1 + k, s.out, 0⟩ z).2 := fun f m => by
              cases m with
              | zero => rfl
              | succ m => unfold cp5; rw [if_pos (by rw [hde]; exact hn9)]
            rw [hcp]
            exact ⟨hn9, hde, hdo⟩
          | ok x =>
            obtain ⟨d, c3⟩ := x
            rw [hq, bindP_is rfl] at hd
            have hd : dist5 ls ⟨c1 + k, s.out, 0⟩ z = (1 + d, ⟨c3, s.out, 0⟩) := hd
            rw [bindP_is rfl, hd]
            simp only [true_and]
            unfold CopS
            simp only
            by_cases hf : s.out.length < 1 + d
            · rw [if_pos hf]
              have hl2 : layP most s.out (.copy n (1 + d)) = .error 54 := by simp only [layP]; rw [if_pos hf]
              rw [hl2]
              show (cp5 most (1 + d) n ⟨c3, s.out, 54⟩).e = 54
              cases n with
              | zero => rfl
              | succ m => unfold cp5; rw [if_pos (by simp)]
            · rw [if_neg hf]
              rcases cp5_says most (1 + d) n ⟨c3, s.out, 0⟩ rfl ho with ⟨h8, h9⟩ | ⟨h8, h9⟩
              · have hl2 : layP most s.out (.copy n (1 + d)) = .error 56 := by simp only [layP]; rw [if_neg hf, if_pos h8]
                rw [hl2]
                exact h9
              · have hl2 : layP most s.out (.copy n (1 + d)) = .ok (cpL (1 + d) n s.out) := by simp only [layP]; rw [if_neg hf, if_neg (by simp only at h8; omega)]
                rw [hl2]
                exact h9

/-- What a run of symbols or bytes comes to: the block's end, or what is wrong. -/
def BlkS (ls : List Nat) (most : Nat) (b : Bk) (s r : S5) : Prop :=
  (r.e = 0 ∧ s.c ≤ r.c ∧ r.c ≤ ls.length ∧ r.out.length ≤ most ∧ ∃ c1 b1, b1.last = b.last ∧ Runs ls most ⟨s.c, s.out, some b⟩ ⟨c1, r.out, some b1⟩ ∧ stepP ls b1 c1 = .ok ((.fin, b1), r.c)) ∨
  (r.e ≠ 0 ∧ ∃ t, Ends ls most ⟨s.c, s.out, some b⟩ t r.e ∧ (r.e = 55 → t.out = r.out))

theorem BlkS.step {ls : List Nat} {most : Nat} {b b' : Bk} {s s' r : S5} (h : stP ls most ⟨s.c, s.out, some b⟩ = .ok (⟨s'.c, s'.out, some b'⟩, false)) (hc : s.c ≤ s'.c) (hl : b'.last = b.last) (hr : BlkS ls most b' s' r) : BlkS ls most b s r := by
  rcases hr with ⟨h1, h2, h3, h4, c1, b1, h5, h6, h7⟩ | ⟨h1, t, h2, h3⟩
  · exact .inl ⟨h1, by omega, h3, h4, c1, b1, h5.trans hl, .step h h6, h7⟩
  · exact .inr ⟨h1, t, .step h h2, h3⟩

theorem syms_stuck (ls : List Nat) (most : Nat) (lit dist : List Nat) (f : Nat) (s : S5) (h : s.e ≠ 0) : syms5 ls most lit dist f s = s := by
  cases f with
  | zero => rfl
  | succ f => unfold syms5; rw [if_pos h]

theorem syms_says (ls : List Nat) (most : Nat) (lit dist : List Nat) (last : Bool) (f : Nat) (s : S5) (he : s.e = 0) (hc : s.c ≤ ls.length) (ho : s.out.length ≤ most) (hf : ls.length - s.c < f) : BlkS ls most (.sym last lit dist) s (syms5 ls most lit dist f s) := by
  induction f generalizing s with
  | zero => omega
  | succ f ih =>
    unfold syms5
    rw [if_neg (by omega)]
    simp only
    rcases sy_says lit ls s he with ⟨hn, hse, hso⟩ | ⟨hn, hse⟩ | ⟨y, k, hn, hsy⟩
    · rw [if_pos (by omega)]
      refine .inr ⟨by omega, _, .stop ?_, fun _ => hso.symm⟩
      rw [hse]
      exact stP_some_err rfl (by rw [stepP_sym]; exact bindP_no (syP_short hn))
    · rw [if_pos (by omega)]
      refine .inr ⟨by omega, _, .stop ?_, fun h => by omega⟩
      rw [hse]
      exact stP_some_err rfl (by rw [stepP_sym]; exact bindP_no (syP_none hn))
    · rw [hsy]
      simp only
      rw [if_neg (by simp)]
      have hk := nextF_len hn
      have hck := nextF_in hc hn
      by_cases h256 : y < 256
      · rw [if_pos h256]
        have hst : stepP ls (.sym last lit dist) s.c = .ok ((.byte y, .sym last lit dist), s.c + k) := by
          rw [stepP_sym, bindP_is (syP_is hn (by omega))]
          unfold symP
          rw [if_pos h256]
        unfold ly
        rw [if_neg (by simp)]
        by_cases hm : most ≤ s.out.length
        · rw [if_pos hm, syms_stuck _ _ _ _ _ _ (by simp)]
          refine .inr ⟨by simp, _, .stop ?_, fun h => by cases h⟩
          rw [stP_some_ok rfl hst]
          exact goP_err (by intro h; cases h) (by simp only [layP]; rw [if_pos (by omega)])
        · rw [if_neg hm]
          refine BlkS.step (s' := ⟨s.c + k, s.out ++ [y], 0⟩) (b' := .sym last lit dist) ?_ (by simp) rfl (ih _ rfl hck (by simp; omega) (by simp only; omega))
          rw [stP_some_ok rfl hst]
          exact goP_ok (by intro h; cases h) (by simp only [layP]; rw [if_neg (by omega)])
      · rw [if_neg h256]
        by_cases h6 : y = 256
        · rw [if_pos h6]
          refine .inl ⟨rfl, by simp, hck, ho, s.c, .sym last lit dist, rfl, .refl _, ?_⟩
          rw [stepP_sym, bindP_is (syP_is hn (by omega))]
          unfold symP
          rw [if_neg h256, if_pos h6]
        · rw [if_neg h6]
          by_cases h285 : 285 < y
          · have hcp : copies5 ls most dist ⟨s.c + k, s.out, 0⟩ y = ⟨s.c + k, s.out, 53⟩ := by unfold copies5; rw [if_pos h285]
            rw [hcp, syms_stuck _ _ _ _ _ _ (by simp)]
            refine .inr ⟨by simp, _, .stop ?_, fun h => by cases h⟩
            exact stP_some_err rfl (by rw [stepP_sym]; exact bindP_no (syP_far hn h285))
          · have hcs := copies_says ls most dist ⟨s.c + k, s.out, 0⟩ y rfl hck ho (by omega) (by omega)
            simp only at hcs
            have hsp : stepP ls (.sym last lit dist) s.c = bindP (copP ls dist (s.c + k) y) (fun x c2 => .ok ((.copy x.1 x.2, .sym last lit dist), c2)) := by
              rw [stepP_sym, bindP_is (syP_is hn (by omega))]
              unfold symP
              rw [if_neg h256, if_neg h6]
            cases hq : copP ls dist (s.c + k) y with
            | error e =>
              rw [hq] at hcs
              obtain ⟨hn9, h8, h9⟩ := hcs
              rw [hq, bindP_no rfl] at hsp
              rw [syms_stuck _ _ _ _ _ _ (by rw [h8]; exact hn9)]
              refine .inr ⟨by rw [h8]; exact hn9, _, .stop ?_, fun _ => h9.symm⟩
              rw [h8]
              exact stP_some_err rfl hsp
            | ok x =>
              obtain ⟨⟨n, far⟩, c2⟩ := x
              have hc2 : s.c + k ≤ c2 ∧ c2 ≤ ls.length := by
                obtain ⟨n1, c3, hl, hq⟩ := bindP_ok.1 hq
                obtain ⟨z, c4, hd, hq⟩ := bindP_ok.1 hq
                obtain ⟨d, c5, hm, hq⟩ := bindP_ok.1 hq
                simp only [Except.ok.injEq, Prod.mk.injEq] at hq
                have hnum : ∀ a b c d' e', a ≤ ls.length → numP ls a b c = .ok (d', e') → a ≤ e' ∧ e' ≤ ls.length := fun a b c d' e' ha h => by
                  unfold numP at h
                  split at h
                  · simp only [Except.ok.injEq, Prod.mk.injEq] at h; omega
                  · obtain ⟨m2, c9, hm2, h⟩ := bindP_ok.1 h
                    simp only [Except.ok.injEq, Prod.mk.injEq] at h
                    have := tkP_ok hm2
                    omega
                have g1 : s.c + k ≤ c3 ∧ c3 ≤ ls.length := by
                  unfold lenP at hl
                  split at hl
                  · obtain ⟨m, c9, hm9, hl⟩ := bindP_ok.1 hl
                    simp only [Except.ok.injEq, Prod.mk.injEq] at hl
                    have := hnum _ _ _ _ _ hck hm9
                    omega
                  · simp only [Except.ok.injEq, Prod.mk.injEq] at hl; omega
                have g2 : c3 ≤ c4 ∧ c4 ≤ ls.length := by
                  unfold dsyP at hd
                  split at hd
                  · cases hd
                  · rcases syP_cases hd with ⟨h1, _⟩ | ⟨h1, _⟩ | ⟨y', k', hn', ⟨_, h1⟩ | ⟨_, h1⟩⟩
                    · cases h1
                    · cases h1
                    · cases h1
                    · simp only [Except.ok.injEq, Prod.mk.injEq] at h1
                      have := nextF_in g1.2 hn'
                      omega
                have g3 := hnum _ _ _ _ _ g2.2 hm
                omega
              rw [hq] at hcs
              have hcs : match layP most s.out (.copy n far) with | .error e => (copies5 ls most dist ⟨s.c + k, s.out, 0⟩ y).e = e | .ok out => copies5 ls most dist ⟨s.c + k, s.out, 0⟩ y = ⟨c2, out, 0⟩ := hcs
              rw [hq, bindP_is rfl] at hsp
              cases hlp : layP most s.out (.copy n far) with
              | error e =>
                rw [hlp] at hcs
                have hcs : (copies5 ls most dist ⟨s.c + k, s.out, 0⟩ y).e = e := hcs
                have he9 := layP_ne hlp
                rw [syms_stuck _ _ _ _ _ _ (by rw [hcs]; omega)]
                refine .inr ⟨by rw [hcs]; omega, _, .stop ?_, fun h => by rw [hcs] at h; omega⟩
                rw [hcs, stP_some_ok rfl hsp]
                exact goP_err (by intro h; cases h) hlp
              | ok out =>
                rw [hlp] at hcs
                have hcs : copies5 ls most dist ⟨s.c + k, s.out, 0⟩ y = ⟨c2, out, 0⟩ := hcs
                rw [hcs]
                refine BlkS.step (s' := ⟨c2, out, 0⟩) (b' := .sym last lit dist) ?_ (by simp only; omega) rfl (ih _ rfl hc2.2 ((layP_ok hlp).2.1 ho) (by simp only; omega))
                rw [stP_some_ok rfl hsp]
                exact goP_ok (by intro h; cases h) hlp

theorem stB_says (ls : List Nat) (most : Nat) (last : Bool) (k : Nat) (s : S5) (he : s.e = 0) (hc : s.c ≤ ls.length) (ho : s.out.length ≤ most) : BlkS ls most (.raw last k) s (stB ls most k s) := by
  induction k generalizing s with
  | zero => exact .inl ⟨he, Nat.le_refl _, hc, ho, s.c, .raw last 0, rfl, .refl _, rfl⟩
  | succ k ih =>
    have ht := tk_says ls s 8 he
    have hst : stepP ls (.raw last (k + 1)) s.c = bindP (tkP ls s.c 8) (fun v c' => .ok ((.byte v, .raw last k), c')) := rfl
    have hstk : ∀ q : S5, q.e ≠ 0 → stB ls most k q = q := fun q hq => by
      cases k with
      | zero => rfl
      | succ k => unfold stB; rw [if_pos hq]
    unfold stB
    rw [if_neg (by omega)]
    cases hr : tkP ls s.c 8 with
    | error e =>
      rw [hr] at ht hst
      obtain ⟨hn9, h8, h9⟩ := ht
      have hly : ly most (tk ls s 8).2 (tk ls s 8).1 = (tk ls s 8).2 := by unfold ly; rw [if_pos (by omega)]
      rw [hly, hstk _ (by omega)]
      refine .inr ⟨by omega, _, .stop ?_, fun _ => h9.symm⟩
      rw [h8]
      exact stP_some_err rfl hst
    | ok x =>
      obtain ⟨x, c⟩ := x
      have hx := tkP_ok hr
      rw [hr, bindP_is rfl] at hst
      rw [hr] at ht
      have ht : tk ls s 8 = (x, ⟨c, s.out, 0⟩) := ht
      rw [ht]
      simp only
      unfold ly
      rw [if_neg (by simp)]
      by_cases hm : most ≤ s.out.length
      · rw [if_pos hm, hstk _ (by simp)]
        refine .inr ⟨by simp, _, .stop ?_, fun h => by cases h⟩
        rw [stP_some_ok rfl hst]
        exact goP_err (by intro h; cases h) (by simp only [layP]; rw [if_pos (by omega)])
      · rw [if_neg hm]
        refine BlkS.step (s' := ⟨c, s.out ++ [x], 0⟩) (b' := .raw last k) ?_ (by simp only; omega) rfl (ih _ rfl (by simp only; omega) (by simp; omega))
        rw [stP_some_ok rfl hst]
        exact goP_ok (by intro h; cases h) (by simp only [layP]; rw [if_neg (by omega)])

/-- What a block comes to. -/
def OneS (ls : List Nat) (most : Nat) (s : S5) (r : Nat × S5) : Prop :=
  (r.2.e = 0 ∧ s.c < r.2.c ∧ r.2.c ≤ ls.length ∧ r.2.out.length ≤ most ∧ ((r.1 = 0 ∧ Runs ls most ⟨s.c, s.out, none⟩ ⟨r.2.c, r.2.out, none⟩) ∨ (r.1 ≠ 0 ∧ ∃ bk, Ends ls most ⟨s.c, s.out, none⟩ ⟨r.2.c, r.2.out, bk⟩ 0))) ∨
  (r.2.e ≠ 0 ∧ ∃ t, Ends ls most ⟨s.c, s.out, none⟩ t r.2.e ∧ (r.2.e = 55 → t.out = r.2.out))

theorem OneS.of {ls : List Nat} {most l c : Nat} {b : Bk} {s r : S5} (hb : begP ls s.c = .ok (b, c)) (hc : s.c < c) (hl : b.last = (l == 1)) (hl2 : l < 2) (h : BlkS ls most b ⟨c, s.out, 0⟩ r) : OneS ls most s (l, r) := by
  have hs : stP ls most ⟨s.c, s.out, none⟩ = .ok (⟨c, s.out, some b⟩, false) := stP_none_ok rfl hb
  rcases h with ⟨h1, h2, h3, h4, c1, b1, h5, h6, h7⟩ | ⟨h1, t, h2, h3⟩
  · refine .inl ⟨h1, by simp only at h2; simp only; omega, h3, h4, ?_⟩
    by_cases h0 : l = 0
    · refine .inl ⟨h0, .step hs (h6.trans (.step ?_ (.refl _)))⟩
      rw [stP_some_ok rfl h7, goP_fin, if_neg (by rw [h5, hl, h0]; decide)]
    · refine .inr ⟨h0, some b1, .step hs (h6.ends (.done ?_))⟩
      rw [stP_some_ok rfl h7, goP_fin, if_pos (by rw [h5, hl]; simp; omega)]
  · exact .inr ⟨h1, t, .step hs h2, h3⟩

theorem numAt_bit (ls : List Nat) (hb : ∀ b ∈ ls, b < 2) (c n : Nat) : numAt ls c n < 2 ^ n := by
  unfold numAt
  refine Nat.lt_of_lt_of_le (n2_lt _ (fun b hbb => hb b (List.mem_of_mem_drop (List.mem_of_mem_take hbb)))) ?_
  rw [List.length_take]
  exact Nat.pow_le_pow_right (by decide) (Nat.min_le_left _ _)

theorem blk_says (ls : List Nat) (hb : ∀ b ∈ ls, b < 2) (most : Nat) (s : S5) (he : s.e = 0) (ho : s.out.length ≤ most) : OneS ls most s (blk5 ls most s) := by
  unfold blk5
  simp only
  have ht1 := tk_says ls s 1 he
  cases h1 : tkP ls s.c 1 with
  | error e =>
    rw [h1] at ht1
    obtain ⟨hn9, h8, h9⟩ := ht1
    have h2 : tk ls (tk ls s 1).2 2 = (0, (tk ls s 1).2) := by
      show (if (tk ls s 1).2.e ≠ 0 then (0, (tk ls s 1).2) else _) = _
      rw [if_pos (by omega)]
    rw [h2, if_pos (by simp only; omega)]
    refine .inr ⟨by simp only; omega, _, .stop ?_, fun _ => h9.symm⟩
    simp only
    rw [h8]
    exact stP_none_err rfl (bindP_no h1)
  | ok x =>
    obtain ⟨l, c1⟩ := x
    have hx1 := tkP_ok h1
    have hl2 : l < 2 := by have := numAt_bit ls hb s.c 1; omega
    rw [h1] at ht1
    have ht1 : tk ls s 1 = (l, ⟨c1, s.out, 0⟩) := ht1
    rw [ht1]
    simp only
    have ht2 := tk_says ls ⟨c1, s.out, 0⟩ 2 rfl
    simp only at ht2
    cases h2 : tkP ls c1 2 with
    | error e =>
      rw [h2] at ht2
      obtain ⟨hn9, h8, h9⟩ := ht2
      rw [if_pos (by omega)]
      refine .inr ⟨by simp only; omega, _, .stop ?_, fun _ => h9.symm⟩
      simp only
      rw [h8]
      exact stP_none_err rfl (by unfold begP; rw [bindP_is h1]; exact bindP_no h2)
    | ok x =>
      obtain ⟨k, c2⟩ := x
      have hx2 := tkP_ok h2
      rw [h2] at ht2
      have ht2 : tk ls ⟨c1, s.out, 0⟩ 2 = (k, ⟨c2, s.out, 0⟩) := ht2
      rw [ht2]
      simp only
      rw [if_neg (by simp)]
      have hbeg : begP ls s.c = kndP ls (l == 1) c2 k := by unfold begP; rw [bindP_is h1, bindP_is h2]
      by_cases k0 : k = 0
      · rw [if_pos k0]
        have hbeg : begP ls s.c = bindP (cntP ls c2) (fun n c' => .ok (.raw (l == 1) n, c')) := by rw [hbeg]; unfold kndP; rw [if_pos k0]
        unfold stored5
        simp only
        have ht3 := tk_says ls ⟨(c2 + 7) / 8 * 8, s.out, 0⟩ 16 rfl
        simp only at ht3
        unfold cntP at hbeg
        have hstk : ∀ (m : Nat) (q : S5), q.e ≠ 0 → stB ls most m q = q := fun m q hq => by
          cases m with
          | zero => rfl
          | succ m => unfold stB; rw [if_pos hq]
        cases h3 : tkP ls ((c2 + 7) / 8 * 8) 16 with
        | error e =>
          rw [h3] at ht3 hbeg
          obtain ⟨hn9, h8, h9⟩ := ht3
          have h4 : tk ls (tk ls ⟨(c2 + 7) / 8 * 8, s.out, 0⟩ 16).2 16 = (0, (tk ls ⟨(c2 + 7) / 8 * 8, s.out, 0⟩ 16).2) := by
            show (if (tk ls ⟨(c2 + 7) / 8 * 8, s.out, 0⟩ 16).2.e ≠ 0 then (0, (tk ls ⟨(c2 + 7) / 8 * 8, s.out, 0⟩ 16).2) else _) = _
            rw [if_pos (by omega)]
          rw [h4]
          simp only
          rw [if_neg (fun h => by omega), hstk _ _ (by omega)]
          refine .inr ⟨by simp only; omega, _, .stop ?_, fun _ => h9.symm⟩
          simp only
          rw [h8]
          exact stP_none_err rfl hbeg
        | ok x =>
          obtain ⟨n, c3⟩ := x
          have hx3 := tkP_ok h3
          rw [h3] at ht3
          rw [h3, bindP_is rfl] at hbeg
          have ht3 : tk ls ⟨(c2 + 7) / 8 * 8, s.out, 0⟩ 16 = (n, ⟨c3, s.out, 0⟩) := ht3
          rw [ht3]
          simp only
          have ht4 := tk_says ls ⟨c3, s.out, 0⟩ 16 rfl
          simp only at ht4
          cases h4 : tkP ls c3 16 with
          | error e =>
            rw [h4] at ht4 hbeg
            obtain ⟨hn9, h8, h9⟩ := ht4
            rw [if_neg (fun h => by omega), hstk _ _ (by omega)]
            refine .inr ⟨by simp only; omega, _, .stop ?_, fun _ => h9.symm⟩
            simp only
            rw [h8]
            exact stP_none_err rfl hbeg
          | ok x =>
            obtain ⟨m, c4⟩ := x
            have hx4 := tkP_ok h4
            rw [h4] at ht4
            rw [h4, bindP_is rfl] at hbeg
            have ht4 : tk ls ⟨c3, s.out, 0⟩ 16 = (m, ⟨c4, s.out, 0⟩) := ht4
            rw [ht4]
            simp only [true_and]
            by_cases hnm : n + m = 65535
            · rw [if_neg (fun h => h hnm)]
              rw [if_pos hnm, bindP_is rfl] at hbeg
              exact OneS.of hbeg (by omega) rfl hl2 (stB_says ls most (l == 1) n ⟨c4, s.out, 0⟩ rfl (by simp only; omega) ho)
            · rw [if_pos hnm, hstk _ _ (by simp)]
              rw [if_neg hnm, bindP_no rfl] at hbeg
              exact .inr ⟨by simp, _, .stop (stP_none_err rfl hbeg), fun h => by cases h⟩
      · rw [if_neg k0]
        by_cases k1 : k = 1
        · rw [if_pos k1]
          have hbeg : begP ls s.c = .ok (.sym (l == 1) fixL fixD, c2) := by rw [hbeg]; unfold kndP; rw [if_neg k0, if_pos k1]
          exact OneS.of hbeg (by omega) rfl hl2 (syms_says ls most fixL fixD (l == 1) (ls.length + 1) ⟨c2, s.out, 0⟩ rfl (by simp only; omega) ho (by simp only; omega))
        · rw [if_neg k1]
          by_cases k2 : k = 2
          · rw [if_pos k2]
            have hbeg : begP ls s.c = bindP (hdP ls c2) (fun x c' => .ok (.sym (l == 1) x.1 x.2, c')) := by rw [hbeg]; unfold kndP; rw [if_neg k0, if_neg k1, if_pos k2]
            unfold hdP at hbeg
            cases h5 : head5 ls c2 with
            | error e =>
              rw [h5] at hbeg
              have hbeg : begP ls s.c = .error e := hbeg
              exact .inr ⟨head5_ne h5, _, .stop (stP_none_err rfl hbeg), fun _ => rfl⟩
            | ok x =>
              obtain ⟨⟨lt, ds⟩, n⟩ := x
              rw [h5] at hbeg
              have hbeg : begP ls s.c = .ok (.sym (l == 1) lt ds, c2 + n) := hbeg
              have hg := head5_ge h5
              exact OneS.of hbeg (by omega) rfl hl2 (syms_says ls most lt ds (l == 1) (ls.length + 1) ⟨c2 + n, s.out, 0⟩ rfl (by simp only; omega) ho (by simp only; omega))
          · rw [if_neg k2]
            have hbeg : begP ls s.c = .error 50 := by rw [hbeg]; unfold kndP; rw [if_neg k0, if_neg k1, if_neg k2]
            exact .inr ⟨by simp, _, .stop (stP_none_err rfl hbeg), fun h => by cases h⟩

theorem read_says (ls : List Nat) (hb : ∀ b ∈ ls, b < 2) (most f : Nat) (s : S5) (he : s.e = 0) (ho : s.out.length ≤ most) (hf : ls.length - s.c < f) :
    ∃ t, Ends ls most ⟨s.c, s.out, none⟩ t (read5 ls most f s).e ∧ ((read5 ls most f s).e = 0 ∨ (read5 ls most f s).e = 55 → t.out = (read5 ls most f s).out) ∧ ((read5 ls most f s).e = 0 → t.c = (read5 ls most f s).c) := by
  induction f generalizing s with
  | zero => omega
  | succ f ih =>
    unfold read5
    rw [if_neg (by omega)]
    have hstk : ∀ q : S5, q.e ≠ 0 → read5 ls most f q = q := fun q hq => by
      cases f with
      | zero => rfl
      | succ f => unfold read5; rw [if_pos hq]
    rcases blk_says ls hb most s he ho with ⟨h1, h2, h3, h4, ⟨h5, h6⟩ | ⟨h5, bk, h6⟩⟩ | ⟨h1, t, h2, h3⟩
    · rw [if_pos h5]
      obtain ⟨t, h7, h8, h9⟩ := ih (blk5 ls most s).2 h1 h4 (by omega)
      exact ⟨t, h6.ends h7, h8, h9⟩
    · rw [if_neg h5]
      exact ⟨_, by rw [h1]; exact h6, fun _ => rfl, fun _ => rfl⟩
    · by_cases h0 : (blk5 ls most s).1 = 0
      · rw [if_pos h0, hstk _ h1]
        exact ⟨t, h2, fun h => h3 (h.resolve_left h1), fun h => absurd h h1⟩
      · rw [if_neg h0]
        exact ⟨t, h2, fun h => h3 (h.resolve_left h1), fun h => absurd h h1⟩

/-- All of it. -/
theorem infl_says (ls : List Nat) (hb : ∀ b ∈ ls, b < 2) (most : Nat) :
    ∃ t, Ends ls most ps0 t (infl5 ls most).e ∧ ((infl5 ls most).e = 0 ∨ (infl5 ls most).e = 55 → t.out = (infl5 ls most).out) ∧ ((infl5 ls most).e = 0 → t.c = (infl5 ls most).c) :=
  read_says ls hb most (ls.length + 1) ⟨0, [], 0⟩ rfl (Nat.zero_le _) (by simp only; omega)

end Go.Proofs.YtggcbnhckcenmaaGreatDoor

/-
  Layer 7's mathematics: a token's bits by codes; what is laid is read again.
-/
namespace Go.Proofs.YtggcbnhckcenmaaGreatDoor

/-- A number as a symbol, the number behind it, of how many bits; p: how many bits a symbol says alone. -/
def splW (n p : Nat) : Nat := blen n - p
def splS (n p : Nat) : Nat := splW n p * 2 ^ (p - 1) + n / 2 ^ splW n p
def splX (n p : Nat) : Nat := n % 2 ^ splW n p

theorem blen_ge (n k : Nat) (h : k < blen n) : 2 ^ k ≤ n := by
  refine Classical.byContradiction (fun hc => ?_)
  have := (blen_le n k).2 (by omega)
  omega

theorem splX_lt (n p : Nat) : splX n p < 2 ^ splW n p := Nat.mod_lt _ (Nat.two_pow_pos _)

/-- A symbol's and its number's place: what is laid of a number is read as it. -/
theorem numP_laid (A B : List Nat) (n p : Nat) (hp : 1 ≤ p) : numP (A ++ (bitsOf (splX n p) (splW n p) ++ B)) A.length (splS n p) (2 ^ (p - 1)) = .ok (n, A.length + splW n p) := by
  have hk : 0 < 2 ^ (p - 1) := Nat.two_pow_pos _
  have h2k : 2 ^ p = 2 * 2 ^ (p - 1) := by rw [← Nat.pow_succ']; congr 1; omega
  by_cases hw : splW n p = 0
  · have hn : n < 2 ^ p := (blen_le n p).1 (by unfold splW at hw; omega)
    have hs : splS n p = n := by unfold splS; rw [hw]; simp
    rw [hs, hw]
    unfold numP
    by_cases h : n < 2 ^ (p - 1)
    · rw [if_pos h]; rfl
    · rw [if_neg h]
      have hq : n / 2 ^ (p - 1) = 1 := Nat.div_eq_of_lt_le (by omega) (by omega)
      have hm : 2 ^ (p - 1) + n % 2 ^ (p - 1) = n := by
        have := Nat.div_add_mod n (2 ^ (p - 1))
        rw [hq] at this
        omega
      rw [hq, hm, tkP_is (by rw [List.length_append]; omega)]
      show Except.ok _ = _
      simp [numAt, n2]
  · obtain ⟨w, hw2⟩ : ∃ w, splW n p = w := ⟨_, rfl⟩
    have hb : blen n = w + p := by unfold splW at hw2 hw; omega
    have hlo : 2 ^ (w + p - 1) ≤ n := blen_ge n _ (by omega)
    have hhi : n < 2 ^ (w + p) := (blen_le n _).1 (by omega)
    obtain ⟨q, hq⟩ : ∃ q, n / 2 ^ w = q := ⟨_, rfl⟩
    have hpw : 0 < 2 ^ w := Nat.two_pow_pos _
    have hq1 : 2 ^ (p - 1) ≤ q := by
      rw [← hq, Nat.le_div_iff_mul_le hpw, ← Nat.pow_add]
      rwa [show p - 1 + w = w + p - 1 by omega]
    have hq2 : q < 2 * 2 ^ (p - 1) := by
      rw [← hq, ← h2k, Nat.div_lt_iff_lt_mul hpw, ← Nat.pow_add]
      rwa [Nat.add_comm p w]
    have hs : splS n p = w * 2 ^ (p - 1) + q := by unfold splS; rw [hw2, hq]
    have hx : splX n p = n % 2 ^ w := by unfold splX; rw [hw2]
    have hxl : n % 2 ^ w < 2 ^ w := Nat.mod_lt _ hpw
    obtain ⟨k, hkk⟩ : ∃ k, 2 ^ (p - 1) = k := ⟨_, rfl⟩
    rw [hkk] at hk hq1 hq2 hs ⊢
    have hqk : q / k = 1 := Nat.div_eq_of_lt_le (by omega) (by omega)
    have hd : (w * k + q) / k = w + 1 := by rw [Nat.mul_comm, Nat.mul_add_div hk, hqk]
    have hm : k + (w * k + q) % k = q := by
      rw [Nat.mul_comm, Nat.mul_add_mod]
      have h9 := Nat.div_add_mod q k
      rw [hqk] at h9
      omega
    unfold numP
    rw [hs, hw2, hx, if_neg (by have := Nat.le_mul_of_pos_left k (show 0 < w by omega); omega), hd, hm, Nat.add_sub_cancel]
    rw [tkP_is (by rw [List.length_append, List.length_append, bitsOf_length]; omega), numAt_laid A B _ w hxl]
    show Except.ok _ = _
    have := Nat.div_add_mod n (2 ^ w)
    rw [hq, Nat.mul_comm] at this
    rw [this]

/-- A symbol, the number behind it, its bits. -/
structure MK where
  sym : Nat
  extra : Nat
  width : Nat

def litMk (t : TK) : MK := if t.len = 0 then ⟨t.lit, 0, 0⟩ else if t.len = 258 then ⟨285, 0, 0⟩ else ⟨257 + splS (t.len.toNat - 3) 3, splX (t.len.toNat - 3) 3, splW (t.len.toNat - 3) 3⟩
def distMk (t : TK) : MK := ⟨splS (t.dist.toNat - 1) 2, splX (t.dist.toNat - 1) 2, splW (t.dist.toNat - 1) 2⟩

def mkBits (cs : List Nat) (m : MK) : List Nat := rowOf cs m.sym ++ bitsOf m.extra m.width
def tokBits (lit dist : List Nat) (t : TK) : List Nat := mkBits lit (litMk t) ++ (if t.len = 0 then [] else mkBits dist (distMk t))

theorem mkBits_bit (cs : List Nat) (m : MK) : ∀ b ∈ mkBits cs m, b < 2 := by
  intro b hb
  rcases List.mem_append.1 hb with h | h
  · exact rowOf_bit _ _ b h
  · exact bitsOf_lt _ _ b h

theorem tokBits_bit (lit dist : List Nat) (t : TK) : ∀ b ∈ tokBits lit dist t, b < 2 := by
  intro b hb
  rcases List.mem_append.1 hb with h | h
  · exact mkBits_bit _ _ b h
  · split at h
    · simp at h
    · exact mkBits_bit _ _ b h

theorem toksBits_bit (lit dist : List Nat) (ts : List TK) : ∀ b ∈ ts.flatMap (tokBits lit dist), b < 2 := by
  intro b hb
  obtain ⟨t, _, ht⟩ := List.mem_flatMap.1 hb
  exact tokBits_bit _ _ t b ht

/-- Codes that have what tokens need. -/
def HasT (lit dist : List Nat) (t : TK) : Prop := (litMk t).sym < lit.length ∧ key lit (litMk t).sym ≠ 0 ∧ (t.len ≠ 0 → (distMk t).sym < dist.length ∧ key dist (distMk t).sym ≠ 0)

theorem used_of_key {l : List Nat} {s : Nat} (h : s < l.length) (h0 : key l s ≠ 0) : usedB l = true := by
  unfold usedB
  rw [List.any_eq_true]
  refine ⟨l[s], List.getElem_mem h, ?_⟩
  rw [key_get h] at h0
  simpa using h0

theorem syP_laid {ns : List Nat} (hp : Pf ns) (A rest : List Nat) (hb : ∀ b ∈ rest, b < 2) {y last : Nat} (hy : y < ns.length) (h0 : key ns y ≠ 0) (hl : y ≤ last) : syP ns (A ++ (rowOf ns y ++ rest)) A.length last = .ok (y, A.length + key ns y) :=
  syP_is (by rw [List.drop_left]; exact nextF_row hp.ms hp.le hy h0 rest hb) hl

theorem cpT_cpL (far n : Nat) (out : List Nat) : cpT far n out = cpL far n out := by
  induction n generalizing out with
  | zero => rfl
  | succ n ih => rw [cpT, cpL, ih]

theorem splS_small (n p m : Nat) (h : n < 2 ^ (m + p)) (hp : 1 ≤ p) : splS n p < (m + 2) * 2 ^ (p - 1) := by
  have hk : 0 < 2 ^ (p - 1) := Nat.two_pow_pos _
  have hb : blen n ≤ m + p := (blen_le n _).2 h
  have hw : splW n p ≤ m := by unfold splW; omega
  have hq : n / 2 ^ splW n p < 2 * 2 ^ (p - 1) := by
    rw [Nat.div_lt_iff_lt_mul (Nat.two_pow_pos _)]
    have h2 : n < 2 ^ (splW n p + p) := (blen_le n _).1 (by unfold splW; omega)
    have e : 2 * 2 ^ (p - 1) * 2 ^ splW n p = 2 ^ (splW n p + p) := by
      rw [← Nat.pow_succ', ← Nat.pow_add]; congr 1; omega
    omega
  have h3 : splW n p * 2 ^ (p - 1) ≤ m * 2 ^ (p - 1) := Nat.mul_le_mul_right _ hw
  unfold splS
  rw [Nat.add_mul]
  omega

/-- One token is read as what it says. -/
theorem tok_step {lit dist : List Nat} (ho : OkL lit dist) (A B out : List Nat) (hB : ∀ b ∈ B, b < 2) (most : Nat) (t : TK) (hm : mayT t out.length = true) (hh : HasT lit dist t) (hlit : t.lit < 256) (hd : t.dist ≤ 16384) (hl : out.length + tlen t ≤ most) :
    stP (A ++ (tokBits lit dist t ++ B)) most ⟨A.length, out, some (.sym true lit dist)⟩ = .ok (⟨A.length + (tokBits lit dist t).length, sayT out t, some (.sym true lit dist)⟩, false) := by
  rcases mayT_cases hm with ⟨h0, _, h1⟩ | ⟨n, d, h0, hd0, _, h3, h4, h5, h6, h1⟩
  · have hmk : litMk t = ⟨t.lit, 0, 0⟩ := by unfold litMk; rw [if_pos h0]
    have hb : tokBits lit dist t = rowOf lit t.lit := by
      unfold tokBits mkBits
      rw [hmk, if_pos h0]
      simp [bitsOf]
    obtain ⟨hs, hk, _⟩ := hh
    rw [hmk] at hs hk
    simp only at hs hk
    have h9 := syP_laid ho.lit.pf A B hB (y := t.lit) (last := 285) hs hk (by omega)
    have hst : stepP (A ++ (rowOf lit t.lit ++ B)) (.sym true lit dist) A.length = .ok ((.byte t.lit, .sym true lit dist), A.length + key lit t.lit) := by
      rw [stepP_sym, bindP_is h9]
      unfold symP
      rw [if_pos hlit]
    rw [hb, rowOf_length, stP_some_ok (s := ⟨A.length, out, some (.sym true lit dist)⟩) rfl hst]
    have hsay : sayT out t = out ++ [t.lit] := by unfold sayT; rw [if_pos h0]
    rw [hsay]
    exact goP_ok (by intro h; cases h) (by simp only [layP]; rw [if_neg (by omega)])
  · have hn0 : t.len ≠ 0 := by omega
    obtain ⟨hs, hk, hdd⟩ := hh
    obtain ⟨hds, hdk⟩ := hdd hn0
    have hu := used_of_key hds hdk
    obtain ⟨y, hy⟩ : ∃ y, (litMk t).sym = y := ⟨_, rfl⟩
    obtain ⟨z, hz⟩ : ∃ z, (distMk t).sym = z := ⟨_, rfl⟩
    have hzv : z = splS (d - 1) 2 := by rw [← hz]; unfold distMk; rw [hd0]; simp
    have hz29 : z ≤ 29 := by
      have := splS_small (d - 1) 2 12 (by omega) (by decide)
      rw [← hzv] at this
      omega
    have hdm : distMk t = ⟨z, splX (d - 1) 2, splW (d - 1) 2⟩ := by rw [hzv]; unfold distMk; rw [hd0]; simp
    rw [hy] at hs hk
    rw [hz] at hds hdk
    obtain ⟨D, hD⟩ : ∃ D, mkBits dist (distMk t) = D := ⟨_, rfl⟩
    have hDb : D = rowOf dist z ++ bitsOf (splX (d - 1) 2) (splW (d - 1) 2) := by rw [← hD, hdm]; rfl
    have hDB : ∀ b ∈ D ++ B, b < 2 := fun b hb => by
      rcases List.mem_append.1 hb with h | h
      · rw [← hD] at h; exact mkBits_bit _ _ b h
      · exact hB b h
    -- what stands behind the length's symbol
    have hlen : ∀ (C : List Nat), ∃ X, mkBits lit (litMk t) = rowOf lit y ++ X ∧ 257 ≤ y ∧ y ≤ 285 ∧ (∀ b ∈ X, b < 2) ∧ lenP (C ++ (X ++ (D ++ B))) C.length y = .ok (n, C.length + X.length) := by
      intro C
      by_cases h258 : n = 258
      · have hmk : litMk t = ⟨285, 0, 0⟩ := by unfold litMk; rw [if_neg hn0, if_pos (by omega)]
        have hy5 : y = 285 := by rw [← hy, hmk]
        refine ⟨[], by rw [hmk, hy5]; unfold mkBits; simp [bitsOf], by omega, by omega, by simp, ?_⟩
        rw [hy5, h258]
        rfl
      · have hmk : litMk t = ⟨257 + splS (n - 3) 3, splX (n - 3) 3, splW (n - 3) 3⟩ := by unfold litMk; rw [if_neg hn0, if_neg (by omega), h0]; simp
        have hyv : y = 257 + splS (n - 3) 3 := by rw [← hy, hmk]
        have hsm := splS_small (n - 3) 3 5 (by omega) (by decide)
        refine ⟨bitsOf (splX (n - 3) 3) (splW (n - 3) 3), by rw [hmk, hyv]; rfl, by omega, by omega, bitsOf_lt _ _, ?_⟩
        have h285 : y < 285 := by
          have h9 : (5 + 2) * 2 ^ (3 - 1) = 28 := by decide
          omega
        have e1 : lenP (C ++ (bitsOf (splX (n - 3) 3) (splW (n - 3) 3) ++ (D ++ B))) C.length y = bindP (numP (C ++ (bitsOf (splX (n - 3) 3) (splW (n - 3) 3) ++ (D ++ B))) C.length (y - 257) 4) (fun n c' => .ok (3 + n, c')) := by unfold lenP; exact if_pos h285
        have e2 := numP_laid C (D ++ B) (n - 3) 3 (by decide)
        rw [e1, show y - 257 = splS (n - 3) 3 by omega, bindP_is (show numP _ _ _ 4 = _ from e2), bitsOf_length, show 3 + (n - 3) = n by omega]
    obtain ⟨X, hX, hy1, hy2, hXb, _⟩ := hlen []
    have hlen2 : ∀ (C : List Nat), lenP (C ++ (X ++ (D ++ B))) C.length y = .ok (n, C.length + X.length) := fun C => by
      obtain ⟨X', hX', _, _, _, h9⟩ := hlen C
      have e : X' = X := List.append_cancel_left (hX'.symm.trans hX)
      rw [e] at h9
      exact h9
    have hb : tokBits lit dist t = rowOf lit y ++ (X ++ D) := by
      unfold tokBits
      rw [if_neg hn0, hD, hX, List.append_assoc]
    have hall : A ++ (tokBits lit dist t ++ B) = A ++ (rowOf lit y ++ (X ++ (D ++ B))) := by rw [hb]; simp [List.append_assoc]
    have h9 := syP_laid ho.lit.pf A (X ++ (D ++ B)) (fun b hb => by
      rcases List.mem_append.1 hb with h | h
      · exact hXb b h
      · exact hDB b h) (y := y) (last := 285) hs hk hy2
    have e1 : A ++ (rowOf lit y ++ (X ++ (D ++ B))) = (A ++ rowOf lit y) ++ (X ++ (D ++ B)) := by simp [List.append_assoc]
    have l1 : (A ++ rowOf lit y).length = A.length + key lit y := by rw [List.length_append, rowOf_length]
    have h10 := hlen2 (A ++ rowOf lit y)
    rw [← e1, l1] at h10
    have e2 : A ++ (rowOf lit y ++ (X ++ (D ++ B))) = (A ++ rowOf lit y ++ X) ++ (rowOf dist z ++ (bitsOf (splX (d - 1) 2) (splW (d - 1) 2) ++ B)) := by rw [hDb]; simp [List.append_assoc]
    have l2 : (A ++ rowOf lit y ++ X).length = A.length + key lit y + X.length := by rw [List.length_append, l1]
    have h11 := syP_laid ho.pf (A ++ rowOf lit y ++ X) (bitsOf (splX (d - 1) 2) (splW (d - 1) 2) ++ B) (fun b hb => by
      rcases List.mem_append.1 hb with h | h
      · exact bitsOf_lt _ _ b h
      · exact hB b h) (y := z) (last := 29) hds hdk hz29
    rw [← e2, l2] at h11
    have h11' : dsyP dist (A ++ (rowOf lit y ++ (X ++ (D ++ B)))) (A.length + key lit y + X.length) = .ok (z, A.length + key lit y + X.length + key dist z) := by
      unfold dsyP
      rw [if_neg (by rw [hu]; decide)]
      exact h11
    have e3 : A ++ (rowOf lit y ++ (X ++ (D ++ B))) = (A ++ rowOf lit y ++ X ++ rowOf dist z) ++ (bitsOf (splX (d - 1) 2) (splW (d - 1) 2) ++ B) := by rw [hDb]; simp [List.append_assoc]
    have l3 : (A ++ rowOf lit y ++ X ++ rowOf dist z).length = A.length + key lit y + X.length + key dist z := by rw [List.length_append, l2, rowOf_length]
    have h12 := numP_laid (A ++ rowOf lit y ++ X ++ rowOf dist z) B (d - 1) 2 (by decide)
    rw [← e3, l3, ← hzv] at h12
    have hcop : copP (A ++ (rowOf lit y ++ (X ++ (D ++ B)))) dist (A.length + key lit y) y = .ok ((n, d), A.length + key lit y + X.length + key dist z + splW (d - 1) 2) := by
      unfold copP
      rw [bindP_is h10, bindP_is h11', bindP_is (show numP _ _ _ 2 = _ from h12), show 1 + (d - 1) = d by omega]
    have hst : stepP (A ++ (rowOf lit y ++ (X ++ (D ++ B)))) (.sym true lit dist) A.length = .ok ((.copy n d, .sym true lit dist), A.length + key lit y + X.length + key dist z + splW (d - 1) 2) := by
      rw [stepP_sym, bindP_is h9]
      unfold symP
      rw [if_neg (by omega), if_neg (by omega), bindP_is hcop]
    have hlb : (tokBits lit dist t).length = key lit y + X.length + key dist z + splW (d - 1) 2 := by
      rw [hb, hDb]
      simp only [List.length_append, rowOf_length, bitsOf_length]
      omega
    rw [hall, hlb, stP_some_ok (s := ⟨A.length, out, some (.sym true lit dist)⟩) rfl hst]
    have hsay : sayT out t = cpL d n out := by unfold sayT; rw [if_neg hn0, h0, hd0, cpT_cpL]; simp
    rw [hsay, ← Nat.add_assoc, ← Nat.add_assoc, ← Nat.add_assoc]
    exact goP_ok (by intro h; cases h) (by simp only [layP]; rw [if_neg (by omega), if_neg (by omega)])

/-- Tokens that may stand, whose codes are there, and all of whose bytes are bytes. -/
structure ToksOk (lit dist : List Nat) (ts : List TK) : Prop where
  has : ∀ t ∈ ts, HasT lit dist t
  end' : 256 < lit.length ∧ key lit 256 ≠ 0
  byte : ∀ t ∈ ts, t.lit < 256

theorem may_dist {t : TK} {said : Nat} (h : mayT t said = true) (hs : said ≤ 16384) : t.dist ≤ 16384 := by
  rcases mayT_cases h with ⟨_, h2, _⟩ | ⟨n, d, _, h2, _, _, _, _, h6, _⟩
  · omega
  · omega

theorem toks_end {lit dist : List Nat} (ho : OkL lit dist) (B : List Nat) (hB : ∀ b ∈ B, b < 2) (most : Nat) (hm16 : most ≤ 16384) (ts : List TK) (hk : ToksOk lit dist ts) (A out : List Nat) (n : Nat) (hm : measT most ts out.length = .ok n) (hout : out.length ≤ most) :
    Ends (A ++ (ts.flatMap (tokBits lit dist) ++ (rowOf lit 256 ++ B))) most ⟨A.length, out, some (.sym true lit dist)⟩ ⟨A.length + (ts.flatMap (tokBits lit dist)).length + key lit 256, expT ts out, some (.sym true lit dist)⟩ 0 := by
  induction ts generalizing A out with
  | nil =>
    refine .done ?_
    have h9 := syP_laid ho.lit.pf A B hB (y := 256) (last := 285) hk.end'.1 hk.end'.2 (by omega)
    have hst : stepP (A ++ (rowOf lit 256 ++ B)) (.sym true lit dist) A.length = .ok ((.fin, .sym true lit dist), A.length + key lit 256) := by
      rw [stepP_sym, bindP_is h9]
      rfl
    show stP (A ++ (rowOf lit 256 ++ B)) most _ = _
    rw [stP_some_ok (s := ⟨A.length, out, some (.sym true lit dist)⟩) rfl hst, goP_fin]
    rfl
  | cons t r ih =>
    unfold measT at hm
    split at hm
    · cases hm
    · rename_i hmay
      split at hm
      · cases hm
      · rename_i hle
        have hmay : mayT t out.length = true := by simpa using hmay
        have hB2 : ∀ b ∈ r.flatMap (tokBits lit dist) ++ (rowOf lit 256 ++ B), b < 2 := fun b hb => by
          rcases List.mem_append.1 hb with h | h
          · exact toksBits_bit _ _ _ b h
          · rcases List.mem_append.1 h with h | h
            · exact rowOf_bit _ _ b h
            · exact hB b h
        have hs := tok_step ho A (r.flatMap (tokBits lit dist) ++ (rowOf lit 256 ++ B)) out hB2 most t hmay (hk.has t (by simp)) (hk.byte t (by simp)) (may_dist hmay (by omega)) (by omega)
        have hl := sayT_length hmay out
        have h9 := ih ⟨fun x hx => hk.has x (by simp [hx]), hk.end', fun x hx => hk.byte x (by simp [hx])⟩ (A ++ tokBits lit dist t) (sayT out t) (by rw [hl]; exact hm) (by rw [hl]; omega)
        have e1 : (A ++ tokBits lit dist t) ++ (r.flatMap (tokBits lit dist) ++ (rowOf lit 256 ++ B)) = A ++ (tokBits lit dist t ++ (r.flatMap (tokBits lit dist) ++ (rowOf lit 256 ++ B))) := by simp [List.append_assoc]
        rw [e1, List.length_append] at h9
        rw [List.flatMap_cons, List.append_assoc, List.length_append]
        refine .step hs ?_
        rw [← Nat.add_assoc A.length]
        exact h9

end Go.Proofs.YtggcbnhckcenmaaGreatDoor

/-
  Layer 7's mathematics: whole blocks, read again.
-/
namespace Go.Proofs.YtggcbnhckcenmaaGreatDoor

theorem measT_lim7 {M most : Nat} {ts : List TK} {s n : Nat} (h : measT M ts s = .ok n) (hs : s ≤ M) (hn : n ≤ most) : measT most ts s = .ok n := by
  induction ts generalizing s with
  | nil => exact h
  | cons t r ih =>
    unfold measT at h ⊢
    split at h
    · cases h
    · rename_i h1
      rw [if_neg h1]
      split at h
      · cases h
      · rename_i h2
        have := measT_le h (by omega)
        rw [if_neg (by omega)]
        exact ih h (by omega)

theorem measT_may7 {M : Nat} {ts : List TK} {s n : Nat} (h : measT M ts s = .ok n) (hs : s ≤ M) : ∀ t ∈ ts, ∃ said, said ≤ M ∧ mayT t said = true := by
  induction ts generalizing s with
  | nil => intro t ht; simp at ht
  | cons x r ih =>
    unfold measT at h
    split at h
    · cases h
    · rename_i h1
      split at h
      · cases h
      · rename_i h2
        intro t ht
        rcases List.mem_cons.1 ht with rfl | ht
        · exact ⟨s, hs, by simpa using h1⟩
        · exact ih h (by omega) t ht

/-- The symbols of a token that may stand. -/
theorem syms_of {t : TK} {said : Nat} (h : mayT t said = true) (hs : said ≤ 16384) (hl : t.lit < 256) :
    (litMk t).sym ≤ 285 ∧ (litMk t).extra < 2 ^ (litMk t).width ∧ (litMk t).width ≤ 5 ∧ (t.len = 0 → (litMk t).sym = t.lit ∧ (litMk t).extra = 0 ∧ (litMk t).width = 0) ∧ (t.len ≠ 0 → 257 ≤ (litMk t).sym ∧ (distMk t).sym ≤ 29 ∧ (distMk t).extra < 2 ^ (distMk t).width ∧ (distMk t).width ≤ 13) := by
  rcases mayT_cases h with ⟨h0, _, h1⟩ | ⟨n, d, h0, hd0, _, h3, h4, h5, h6, h1⟩
  · have hmk : litMk t = ⟨t.lit, 0, 0⟩ := by unfold litMk; rw [if_pos h0]
    rw [hmk]
    exact ⟨by simp only; omega, by simp, by simp, fun _ => ⟨rfl, rfl, rfl⟩, fun h9 => absurd h0 h9⟩
  · have hn0 : t.len ≠ 0 := by omega
    have hd : (distMk t).sym ≤ 29 ∧ (distMk t).extra < 2 ^ (distMk t).width ∧ (distMk t).width ≤ 13 := by
      have hdm : distMk t = ⟨splS (d - 1) 2, splX (d - 1) 2, splW (d - 1) 2⟩ := by unfold distMk; rw [hd0]; simp
      rw [hdm]
      have := splS_small (d - 1) 2 12 (by omega) (by decide)
      have hb := (blen_le (d - 1) 14).2 (by omega)
      exact ⟨by simp only; omega, splX_lt _ _, by simp only [splW]; omega⟩
    refine ⟨?_, ?_, ?_, fun h9 => absurd h9 hn0, fun _ => ⟨?_, hd⟩⟩
    all_goals
      by_cases h258 : n = 258
      · have hmk : litMk t = ⟨285, 0, 0⟩ := by unfold litMk; rw [if_neg hn0, if_pos (by omega)]
        rw [hmk]
        simp
      · have hmk : litMk t = ⟨257 + splS (n - 3) 3, splX (n - 3) 3, splW (n - 3) 3⟩ := by unfold litMk; rw [if_neg hn0, if_neg (by omega), h0]; simp
        rw [hmk]
        have := splS_small (n - 3) 3 5 (by omega) (by decide)
        have hb := (blen_le (n - 3) 8).2 (by omega)
        have hx := splX_lt (n - 3) 3
        simp only [splW] at hx ⊢
        first
          | exact hx
          | omega

theorem fix_keys : (List.range 288).all (fun s => decide (key fixL s ≠ 0)) = true := by decide +kernel
theorem fix_keysD : (List.range 32).all (fun s => decide (key fixD s ≠ 0)) = true := by decide +kernel
theorem fix_lens : fixL.length = 288 ∧ fixD.length = 32 := by decide +kernel

theorem fix_toks {ts : List TK} {n : Nat} (h : measT 16384 ts 0 = .ok n) (hb : ∀ t ∈ ts, t.lit < 256) : ToksOk fixL fixD ts := by
  have hk : ∀ s, s < 288 → key fixL s ≠ 0 := fun s hs => by simpa using List.all_eq_true.1 fix_keys s (List.mem_range.2 hs)
  have hkD : ∀ s, s < 32 → key fixD s ≠ 0 := fun s hs => by simpa using List.all_eq_true.1 fix_keysD s (List.mem_range.2 hs)
  refine ⟨fun t ht => ?_, ⟨by rw [fix_lens.1]; decide, hk 256 (by decide)⟩, hb⟩
  obtain ⟨said, h1, h2⟩ := measT_may7 h (by decide) t ht
  have h3 := syms_of h2 h1 (hb t ht)
  refine ⟨by rw [fix_lens.1]; omega, hk _ (by omega), fun h9 => ?_⟩
  have h4 := h3.2.2.2.2 h9
  exact ⟨by rw [fix_lens.2]; omega, hkD _ (by omega)⟩

/-- Bytes of bits and noughts behind them. -/
structure Packs (bs X : List Nat) : Prop where
  pad : ∃ k, ofBytes bs = X ++ List.replicate k 0
  len : bs.length = (X.length + 7) / 8

theorem zeros_bit (k : Nat) : ∀ b ∈ List.replicate k 0, b < 2 := fun b hb => by have := List.eq_of_mem_replicate hb; omega

/-- A block by fixed codes. -/
def fixBits (ts : List TK) : List Nat := [1, 1, 0] ++ (ts.flatMap (tokBits fixL fixD) ++ rowOf fixL 256)

theorem fixed_reads {ts : List TK} {n most : Nat} (h : measT 16384 ts 0 = .ok n) (hb : ∀ t ∈ ts, t.lit < 256) (hn : n ≤ most) (hm : most ≤ 16384) {bs : List Nat} (hp : Packs bs (fixBits ts)) : ∃ t, Ends (ofBytes bs) most ps0 t 0 ∧ t.out = expT ts [] ∧ (t.c + 7) / 8 = bs.length := by
  obtain ⟨k, hk⟩ := hp.pad
  have h9 := toks_end fix_ok (List.replicate k 0) (zeros_bit k) most hm ts (fix_toks h hb) [1, 1, 0] [] n (measT_lim7 h (by decide) hn) (Nat.zero_le _)
  have e : ofBytes bs = [1, 1, 0] ++ (ts.flatMap (tokBits fixL fixD) ++ (rowOf fixL 256 ++ List.replicate k 0)) := by rw [hk]; unfold fixBits; simp [List.append_assoc]
  rw [← e] at h9
  refine ⟨_, .step (stP_none_ok (s := ps0) (b := .sym true fixL fixD) (c := 3) rfl ?_) h9, rfl, ?_⟩
  · rw [e]
    have h1 : ∀ r : List Nat, tkP (1 :: 1 :: 0 :: r) 0 1 = .ok (1, 1) := fun r => by rw [tkP_is (by simp)]; rfl
    have h2 : ∀ r : List Nat, tkP (1 :: 1 :: 0 :: r) 1 2 = .ok (1, 3) := fun r => by rw [tkP_is (by simp)]; rfl
    show begP (1 :: 1 :: 0 :: _) 0 = _
    unfold begP
    rw [bindP_is (h1 _), bindP_is (h2 _)]
    rfl
  · rw [hp.len]
    unfold fixBits
    simp only [List.length_append, rowOf_length, List.length_cons, List.length_nil]
    congr 1

/-- A block that brings its codes. -/
def dynBits (lit dist : List Nat) (many : Nat) (cs : List Nat) (sn : List (Nat × Nat)) (ts : List TK) : List Nat := [1, 0, 1] ++ (headBits lit.length dist.length many cs sn ++ (ts.flatMap (tokBits lit dist) ++ rowOf lit 256))

theorem dyn_reads {lit dist : List Nat} {many : Nat} {cs : List Nat} {sn : List (Nat × Nat)} (ho : OkL lit dist) (hh : HeadOk lit dist many cs sn) {ts : List TK} {n most : Nat} (hk : ToksOk lit dist ts) (h : measT 16384 ts 0 = .ok n) (hn : n ≤ most) (hm : most ≤ 16384) {bs : List Nat} (hp : Packs bs (dynBits lit dist many cs sn ts)) :
    ∃ t, Ends (ofBytes bs) most ps0 t 0 ∧ t.out = expT ts [] ∧ (t.c + 7) / 8 = bs.length := by
  obtain ⟨k, hkk⟩ := hp.pad
  obtain ⟨H, hH⟩ : ∃ H, headBits lit.length dist.length many cs sn = H := ⟨_, rfl⟩
  have h9 := toks_end ho (List.replicate k 0) (zeros_bit k) most hm ts hk ([1, 0, 1] ++ H) [] n (measT_lim7 h (by decide) hn) (Nat.zero_le _)
  have e : ofBytes bs = [1, 0, 1] ++ (H ++ (ts.flatMap (tokBits lit dist) ++ (rowOf lit 256 ++ List.replicate k 0))) := by rw [hkk]; unfold dynBits; rw [hH]; simp [List.append_assoc]
  have e2 : ofBytes bs = ([1, 0, 1] ++ H) ++ (ts.flatMap (tokBits lit dist) ++ (rowOf lit 256 ++ List.replicate k 0)) := by rw [e]; simp
  rw [← e2] at h9
  have hrd := readF_laid hh [1, 0, 1] (ts.flatMap (tokBits lit dist) ++ (rowOf lit 256 ++ List.replicate k 0)) (fun b hb => by
    rcases List.mem_append.1 hb with h | h
    · exact toksBits_bit _ _ _ b h
    · rcases List.mem_append.1 h with h | h
      · exact rowOf_bit _ _ b h
      · exact zeros_bit k b h)
  rw [hH, ← e] at hrd
  have hhd : head5 (ofBytes bs) 3 = .ok ((lit, dist), H.length) := by
    unfold head5
    rw [show (3 : Nat) = ([1, 0, 1] : List Nat).length from rfl, hrd]
    simp only
    rw [if_neg]
    intro hc
    rcases hc with hc | hc | hc
    · exact hk.end'.2 hc
    · exact hc ho.lit.ok
    · exact hc.2 (ho.dist hc.1).ok
  have hl3 : ([1, 0, 1] ++ H : List Nat).length = 3 + H.length := by simp; omega
  rw [hl3] at h9
  refine ⟨_, .step (stP_none_ok (s := ps0) (b := .sym true lit dist) (c := 3 + H.length) rfl ?_) h9, rfl, ?_⟩
  · have h1 : tkP (ofBytes bs) 0 1 = .ok (1, 1) := by rw [e, tkP_is (by simp)]; rfl
    have h2 : tkP (ofBytes bs) 1 2 = .ok (2, 3) := by rw [e, tkP_is (by simp)]; rfl
    show begP (ofBytes bs) 0 = _
    unfold begP
    rw [bindP_is h1, bindP_is h2]
    unfold kndP
    rw [if_neg (by decide), if_neg (by decide), if_pos rfl]
    unfold hdP
    rw [hhd]
    rfl
  · rw [hp.len]
    unfold dynBits
    rw [hH]
    simp only [List.length_append, rowOf_length, List.length_cons, List.length_nil]
    congr 1
    omega

/-- The bytes of a stored block. -/
def storeB (data : List Nat) : List Nat := [1, data.length % 256, data.length / 256, 255 - data.length % 256, 255 - data.length / 256] ++ data

theorem raw_reads (most : Nat) (data : List Nat) (hb : ∀ b ∈ data, b < 256) (A out : List Nat) (h : out.length + data.length ≤ most) :
    Ends (A ++ ofBytes data) most ⟨A.length, out, some (.raw true data.length)⟩ ⟨A.length + 8 * data.length, out ++ data, some (.raw true 0)⟩ 0 := by
  induction data generalizing A out with
  | nil =>
    refine .done ?_
    show stP (A ++ ofBytes []) most ⟨A.length, out, some (.raw true 0)⟩ = _
    rw [stP_some_ok (s := ⟨A.length, out, some (.raw true 0)⟩) (x := ((.fin, .raw true 0), A.length)) rfl rfl, goP_fin]
    simp [Bk.last]
  | cons x r ih =>
    have hx := hb x (by simp)
    have e0 : ofBytes (x :: r) = bitsOf x 8 ++ ofBytes r := by
      simp [ofBytes]
    have hnum : numAt (A ++ (bitsOf x 8 ++ ofBytes r)) A.length 8 = x := numAt_laid A (ofBytes r) x 8 (by omega)
    have hst : stepP (A ++ (bitsOf x 8 ++ ofBytes r)) (.raw true (r.length + 1)) A.length = .ok ((.byte x, .raw true r.length), A.length + 8) := by
      rw [stepP_raw, tkP_is (by rw [List.length_append, List.length_append, bitsOf_length]; omega), hnum]
      rfl
    have h9 := ih (fun b hb' => hb b (by simp [hb'])) (A ++ bitsOf x 8) (out ++ [x]) (by simp at h ⊢; omega)
    rw [List.append_assoc, List.length_append, bitsOf_length] at h9
    rw [e0, List.length_cons]
    refine .step (s' := ⟨A.length + 8, out ++ [x], some (.raw true r.length)⟩) ?_ ?_
    · rw [stP_some_ok (s := ⟨A.length, out, some (.raw true (r.length + 1))⟩) rfl hst]
      exact goP_ok (by intro h; cases h) (by simp only [layP]; rw [if_neg (by simp at h; omega)])
    · rw [show A.length + 8 * (r.length + 1) = A.length + 8 + 8 * r.length by omega]
      rw [List.append_assoc] at h9
      exact h9

theorem stored_reads {data : List Nat} (hb : ∀ b ∈ data, b < 256) {most : Nat} (hl : data.length ≤ most) (hm : most ≤ 16384) : ∃ t, Ends (ofBytes (storeB data)) most ps0 t 0 ∧ t.out = data ∧ (t.c + 7) / 8 = (storeB data).length := by
  obtain ⟨n, hn⟩ : ∃ n, data.length = n := ⟨_, rfl⟩
  obtain ⟨P, hP⟩ : ∃ P, P = bitsOf 1 8 ++ (bitsOf (n % 256) 8 ++ (bitsOf (n / 256) 8 ++ (bitsOf (255 - n % 256) 8 ++ bitsOf (255 - n / 256) 8))) := ⟨_, rfl⟩
  have e : ofBytes (storeB data) = P ++ ofBytes data := by
    unfold storeB
    rw [ofBytes_append, hn, hP]
    simp [ofBytes, List.append_assoc]
  have hPl : P.length = 40 := by rw [hP]; simp [bitsOf_length]
  have h9 := raw_reads most data hb P [] (by simpa using hl)
  rw [← e, hPl, hn] at h9
  have hls : 40 ≤ (ofBytes (storeB data)).length := by rw [e, List.length_append, hPl]; omega
  have num2 : ∀ (A B : List Nat) (x y : Nat), x < 256 → y < 256 → numAt (A ++ (bitsOf x 8 ++ (bitsOf y 8 ++ B))) A.length 16 = x + 256 * y := fun A B x y hx hy => by
    unfold numAt
    rw [List.drop_left, ← List.append_assoc (bitsOf x 8), List.take_append_of_le_length (by simp [bitsOf_length]), List.take_of_length_le (by simp [bitsOf_length]), n2_append, bitsOf_n2, bitsOf_n2, bitsOf_length, Nat.mod_eq_of_lt (by omega), Nat.mod_eq_of_lt (by omega)]
  have hn16 : n ≤ 16384 := by omega
  have t1 : tkP (ofBytes (storeB data)) 0 1 = .ok (1, 1) := by rw [tkP_is (by omega), e, hP]; rfl
  have t2 : tkP (ofBytes (storeB data)) 1 2 = .ok (0, 3) := by rw [tkP_is (by omega), e, hP]; rfl
  have t3 : tkP (ofBytes (storeB data)) 8 16 = .ok (n, 24) := by
    rw [tkP_is (by omega), e, hP]
    have := num2 (bitsOf 1 8) (bitsOf (255 - n % 256) 8 ++ bitsOf (255 - n / 256) 8 ++ ofBytes data) (n % 256) (n / 256) (by omega) (by omega)
    rw [bitsOf_length] at this
    rw [show n % 256 + 256 * (n / 256) = n by omega] at this
    simp only [List.append_assoc] at this ⊢
    rw [this]
  have t4 : tkP (ofBytes (storeB data)) 24 16 = .ok (65535 - n, 40) := by
    rw [tkP_is (by omega), e, hP]
    have := num2 (bitsOf 1 8 ++ (bitsOf (n % 256) 8 ++ bitsOf (n / 256) 8)) (ofBytes data) (255 - n % 256) (255 - n / 256) (by omega) (by omega)
    simp only [List.length_append, bitsOf_length] at this
    rw [show 255 - n % 256 + 256 * (255 - n / 256) = 65535 - n by omega] at this
    simp only [List.append_assoc] at this ⊢
    rw [this]
  refine ⟨_, .step (stP_none_ok (s := ps0) (b := .raw true n) (c := 40) rfl ?_) h9, rfl, ?_⟩
  · show begP (ofBytes (storeB data)) 0 = _
    unfold begP
    rw [bindP_is t1, bindP_is t2]
    unfold kndP
    rw [if_pos rfl]
    unfold cntP
    rw [show (3 + 7) / 8 * 8 = 8 from rfl, bindP_is t3, bindP_is t4, if_pos (by omega)]
    rfl
  · simp only [storeB, List.length_append, List.length_cons, List.length_nil]
    omega

end Go.Proofs.YtggcbnhckcenmaaGreatDoor

/-
  Unpack of Pack; how long a head is.
-/
namespace Go.Proofs.YtggcbnhckcenmaaGreatDoor
theorem xbits_le (s : Nat) : xbits s ≤ 7 := by
  unfold xbits
  split
  · omega
  · split
    · omega
    · split <;> omega

theorem steps_len (cs : List Nat) (h7 : ∀ x ∈ cs, x ≤ 7) (ss : List (Nat × Nat)) : (ss.flatMap (stepBits cs)).length ≤ 14 * ss.length := by
  induction ss with
  | nil => simp
  | cons s r ih =>
    rw [List.flatMap_cons, List.length_append, stepBits_length, List.length_cons]
    have h1 := xbits_le s.1
    have h2 : key cs s.1 ≤ 7 := by
      by_cases e : s.1 < cs.length
      · rw [key_get e]; exact h7 _ (List.getElem_mem e)
      · simp [key, e]
    omega

theorem head_len {lit dist : List Nat} {many : Nat} {cs : List Nat} {ss : List (Nat × Nat)} (h : HeadOk lit dist many cs ss) (hs : ss.length ≤ lit.length + dist.length) : (headBits lit.length dist.length many cs ss).length ≤ 71 + 14 * (lit.length + dist.length) := by
  rw [headBits_length]
  have h1 := steps_len cs h.c7 ss
  have h2 := h.m2
  omega

/-- Pack's steps in numbers from 0 on, and what they are. -/
def packN (l : List Nat) : List (Nat × Nat) := (packM l).map (fun s => (s.1.toNat, s.2.toNat))

/-- A step that may be. -/
def StepIs (s : Int × Int) : Prop := 0 ≤ s.1 ∧ s.1 ≤ 18 ∧ 0 ≤ s.2 ∧ s.2.toNat < 2 ^ xbits s.1.toNat

theorem zerosM_is (n : Nat) : ∀ s ∈ zerosM n, StepIs s := by
  induction n using Nat.strongRecOn with
  | ind n ih =>
    intro s hs
    by_cases h : 11 ≤ n
    · rw [zerosM_big n h] at hs
      rcases List.mem_cons.1 hs with rfl | hs
      · refine ⟨by simp, by simp, by simp only; omega, ?_⟩
        show (((min n 138 - 11 : Nat) : Int)).toNat < 2 ^ 7
        omega
      · exact ih _ (by omega) s hs
    · by_cases h3 : 3 ≤ n
      · rw [zerosM_mid n (by omega) h3] at hs
        have : s = (17, ((n - 3 : Nat) : Int)) := by simpa using hs
        subst this
        refine ⟨by simp, by simp, by simp only; omega, ?_⟩
        show (((n - 3 : Nat) : Int)).toNat < 2 ^ 3
        omega
      · rw [zerosM_few n (by omega)] at hs
        have := List.eq_of_mem_replicate hs
        subst this
        exact ⟨by simp, by simp, by simp, by decide⟩

theorem againM_is (v n : Nat) (hv : v ≤ 15) : ∀ s ∈ againM v n, StepIs s := by
  induction n using Nat.strongRecOn with
  | ind n ih =>
    intro s hs
    by_cases h : 3 ≤ n
    · rw [againM_big v n h] at hs
      rcases List.mem_cons.1 hs with rfl | hs
      · refine ⟨by simp, by simp, by simp only; omega, ?_⟩
        show (((min n 6 - 3 : Nat) : Int)).toNat < 2 ^ 2
        omega
      · exact ih _ (by omega) s hs
    · rw [againM_few v n (by omega)] at hs
      have := List.eq_of_mem_replicate hs
      subst this
      refine ⟨by simp, by simp only; omega, by simp, ?_⟩
      show (0 : Int).toNat < 2 ^ xbits _
      exact Nat.two_pow_pos _

theorem sayM_is (v n : Nat) (hv : v ≤ 15) : ∀ s ∈ sayM v n, StepIs s := by
  intro s hs
  unfold sayM at hs
  split at hs
  · exact zerosM_is n s hs
  · rcases List.mem_cons.1 hs with rfl | hs
    · refine ⟨by simp, by simp only; omega, by simp, ?_⟩
      show (0 : Int).toNat < 2 ^ xbits _
      exact Nat.two_pow_pos _
    · exact againM_is v _ hv s hs

theorem packM_is (l : List Nat) (h15 : ∀ x ∈ l, x ≤ 15) : ∀ s ∈ packM l, StepIs s := by
  induction hn : l.length using Nat.strongRecOn generalizing l with
  | ind n ih =>
    cases l with
    | nil => intro s hs; simp [packM] at hs
    | cons v r =>
      intro s hs
      rw [packM_cons] at hs
      rcases List.mem_append.1 hs with hs | hs
      · exact sayM_is v _ (h15 v (by simp)) s hs
      · exact ih (r.drop (frontN v r)).length (by simp at hn ⊢; omega) _ (fun x hx => h15 x (List.mem_cons_of_mem _ (List.mem_of_mem_drop hx))) rfl s hs

theorem packN_cast (l : List Nat) (h15 : ∀ x ∈ l, x ≤ 15) : (packN l).map (fun s => ((s.1 : Int), (s.2 : Int))) = packM l := by
  unfold packN
  rw [List.map_map]
  conv => rhs; rw [← List.map_id (packM l)]
  refine List.map_congr_left (fun s hs => ?_)
  have h := packM_is l h15 s hs
  simp only [Function.comp, id]
  rw [Int.toNat_of_nonneg h.1, Int.toNat_of_nonneg h.2.2.1]

theorem packN_length (l : List Nat) : (packN l).length ≤ l.length := by
  unfold packN
  rw [List.length_map]
  exact packM_len l

end Go.Proofs.YtggcbnhckcenmaaGreatDoor

/-
  The program's own way of steps: shapes, what may stand, rows of like lengths.
-/
namespace Go.Proofs.YtggcbnhckcenmaaGreatDoor

/-- How many lengths a step says at least, and how many bits its number has. -/
def leastM (s : Int) : Nat := if s = 16 then 3 else if s = 17 then 3 else if s = 18 then 11 else 1
def widthM (s : Int) : Nat := if s = 16 then 2 else if s = 17 then 3 else if s = 18 then 7 else 0

theorem widthM_nat (s : Nat) : widthM (s : Int) = xbits s := by
  unfold widthM xbits
  by_cases h1 : s = 16
  · subst h1; rfl
  · by_cases h2 : s = 17
    · subst h2; rfl
    · by_cases h3 : s = 18
      · subst h3; rfl
      · rw [if_neg (by omega), if_neg (by omega), if_neg (by omega), if_neg h1, if_neg h2, if_neg h3]

theorem widthM_le (s : Int) : widthM s ≤ 7 := by
  unfold widthM
  split
  · omega
  · split
    · omega
    · split <;> omega

theorem leastM_le (s : Int) : 1 ≤ leastM s ∧ leastM s ≤ 11 := by
  unfold leastM
  split
  · omega
  · split
    · omega
    · split <;> omega

/-- So many steps of one kind as there are lengths for. -/
def manyL (s : Int) (lo hi n : Nat) : List (Int × Int) :=
  if 1 ≤ lo ∧ lo ≤ hi ∧ lo ≤ n then (s, ((min n hi - lo : Nat) : Int)) :: manyL s lo hi (n - min n hi) else []
termination_by n
decreasing_by omega

/-- And how many lengths are left. -/
def manyR (lo hi n : Nat) : Nat :=
  if 1 ≤ lo ∧ lo ≤ hi ∧ lo ≤ n then manyR lo hi (n - min n hi) else n
termination_by n
decreasing_by omega

theorem manyL_more {s : Int} {lo hi n : Nat} (h1 : 1 ≤ lo) (h2 : lo ≤ hi) (h3 : lo ≤ n) : manyL s lo hi n = (s, ((min n hi - lo : Nat) : Int)) :: manyL s lo hi (n - min n hi) := by
  rw [manyL, if_pos ⟨h1, h2, h3⟩]
theorem manyL_end {s : Int} {lo hi n : Nat} (h3 : n < lo) : manyL s lo hi n = [] := by rw [manyL, if_neg (by omega)]
theorem manyR_more {lo hi n : Nat} (h1 : 1 ≤ lo) (h2 : lo ≤ hi) (h3 : lo ≤ n) : manyR lo hi n = manyR lo hi (n - min n hi) := by
  rw [manyR, if_pos ⟨h1, h2, h3⟩]
theorem manyR_end {lo hi n : Nat} (h3 : n < lo) : manyR lo hi n = n := by rw [manyR, if_neg (by omega)]

theorem many_le (s : Int) (lo hi n : Nat) (h1 : 1 ≤ lo) (h2 : lo ≤ hi) : (manyL s lo hi n).length + manyR lo hi n ≤ n ∧ manyR lo hi n < lo := by
  induction n using Nat.strongRecOn with
  | ind n ih =>
    by_cases h : lo ≤ n
    · have := ih (n - min n hi) (by omega)
      rw [manyL_more h1 h2 h, manyR_more h1 h2 h, List.length_cons]
      omega
    · rw [manyL_end (by omega), manyR_end (by omega)]
      simp; omega

theorem zerosM_many (n : Nat) : zerosM n = manyL 18 11 138 n ++ (manyL 17 3 10 (manyR 11 138 n) ++ List.replicate (manyR 3 10 (manyR 11 138 n)) (0, 0)) := by
  induction n using Nat.strongRecOn with
  | ind n ih =>
    by_cases h : 11 ≤ n
    · rw [zerosM_big n h, manyL_more (by omega) (by omega) h, manyR_more (by omega) (by omega) h, ih (n - min n 138) (by omega)]
      rfl
    · rw [manyL_end (n := n) (by omega), manyR_end (n := n) (by omega)]
      by_cases h3 : 3 ≤ n
      · rw [zerosM_mid n (by omega) h3, manyL_more (by omega) (by omega) h3, manyR_more (by omega) (by omega) h3, show min n 10 = n by omega, Nat.sub_self, manyL_end (by omega), manyR_end (by omega)]
        rfl
      · rw [zerosM_few n (by omega), manyL_end (by omega), manyR_end (by omega)]
        rfl

theorem againM_many (v n : Nat) : againM v n = manyL 16 3 6 n ++ List.replicate (manyR 3 6 n) ((v : Int), 0) := by
  induction n using Nat.strongRecOn with
  | ind n ih =>
    by_cases h : 3 ≤ n
    · rw [againM_big v n h, manyL_more (by omega) (by omega) h, manyR_more (by omega) (by omega) h, ih (n - min n 6) (by omega)]
      rfl
    · rw [againM_few v n (by omega), manyL_end (by omega), manyR_end (by omega)]
      rfl

/-- How many of the codes' lengths come: noughts at the end are left out. -/
def comeN (cs : List Nat) : Nat → Nat
  | 0 => 0
  | k + 1 => if 4 < k + 1 ∧ cs.getD (ord.getD k 0) 0 = 0 then comeN cs k else k + 1

theorem comeN_ge (cs : List Nat) (k : Nat) (h : 4 ≤ k) : 4 ≤ comeN cs k ∧ comeN cs k ≤ k := by
  induction k with
  | zero => omega
  | succ k ih =>
    rw [comeN]
    split
    · have := ih (by omega); omega
    · omega

theorem comeN_rest (cs : List Nat) (k : Nat) : ∀ j, comeN cs k ≤ j → j < k → cs.getD (ord.getD j 0) 0 = 0 := by
  induction k with
  | zero => intro j _ h; omega
  | succ k ih =>
    intro j h1 h2
    rw [comeN] at h1
    split at h1
    · rename_i h
      by_cases e : j = k
      · subst e; exact h.2
      · exact ih j h1 (by omega)
    · omega

end Go.Proofs.YtggcbnhckcenmaaGreatDoor

/-
  The program's within, shape, mayStand, say.
-/
namespace Go.Proofs.YtggcbnhckcenmaaGreatDoor
open Go.RowKit

def inB (n lo hi : Int) : Bool := decide (lo ≤ n) && decide (n ≤ hi)

set_option maxHeartbeats 1000000 in
theorem within_any (w : World) (n lo hi : Int) :
    Calls Tryz.prog 93 #[.int .i64 n, .int .i64 lo, .int .i64 hi] w fun e w' => e = .returned (.bool (inB n lo hi)) ∧ w' = w := by
  go_enter Tryz.func93, Tryz.ntmps93
  by_cases h : lo ≤ n
  · go_wp2_with fail
    go_ret
    exact ⟨by simp only [inB, h, decide_true, Bool.true_and]; rfl, rfl⟩
  · go_wp2_with fail
    go_ret
    have hd : decide (lo ≤ n) = false := by simp; omega
    exact ⟨by simp only [inB, hd, Bool.false_and]; rfl, rfl⟩

set_option maxHeartbeats 1000000 in
theorem shape_any (w : World) (s : Int) :
    Calls Tryz.prog 132 #[.int .i64 s] w fun e w' => e = .returned (.tuple #[.int .i64 (leastM s : Nat), .int .i64 (widthM s : Nat)]) ∧ w' = w := by
  by_cases h16 : s = 16
  · subst h16
    go_enter Tryz.func132, Tryz.ntmps132
    go_wp2_with fail
    go_ret2
    exact ⟨rfl, rfl⟩
  · by_cases h17 : s = 17
    · subst h17
      go_enter Tryz.func132, Tryz.ntmps132
      go_wp2_with fail
      go_ret2
      exact ⟨rfl, rfl⟩
    · by_cases h18 : s = 18
      · subst h18
        go_enter Tryz.func132, Tryz.ntmps132
        go_wp2_with fail
        go_ret2
        exact ⟨rfl, rfl⟩
      · have e16 : (s == 16) = false := by simp; omega
        have e17 : (s == 17) = false := by simp; omega
        have e18 : (s == 18) = false := by simp; omega
        have HE : Hid (leastM s = 1 ∧ widthM s = 0) := hid ⟨by unfold leastM; rw [if_neg h16, if_neg h17, if_neg h18], by unfold widthM; rw [if_neg h16, if_neg h17, if_neg h18]⟩
        clear h16 h17 h18
        go_enter Tryz.func132, Tryz.ntmps132
        go_wp2_with fail
        go_ret2
        exact ⟨by rw [HE.out.1, HE.out.2]; rfl, rfl⟩

theorem pow_le7 (n : Nat) (h : n ≤ 7) : (2 : Nat) ^ n ≤ 128 := by
  have := Nat.pow_le_pow_right (show 0 < 2 by decide) h
  simpa using this

end Go.Proofs.YtggcbnhckcenmaaGreatDoor

/-
  The program's alike, and whether lengths may be.
-/
namespace Go.Proofs.YtggcbnhckcenmaaGreatDoor
open Go.RowKit

theorem inB_bad (z : Int) : (!inB z 0 15) = badI 0 15 z := by
  unfold inB badI
  by_cases h1 : 0 ≤ z
  · by_cases h2 : z ≤ 15
    · have h3 : ¬ z < 0 := by omega
      have h4 : ¬ 15 < z := by omega
      simp [h1, h2, h3, h4]
    · have h3 : ¬ z < 0 := by omega
      have h4 : 15 < z := by omega
      simp [h1, h2, h3, h4]
  · have h3 : z < 0 := by omega
    simp [h1, h3]

set_option maxHeartbeats 1000000 in
theorem lwrong_any (w : World) (z : Int) :
    Calls Tryz.prog 128 #[.int .i64 z] w fun e w' => e = .returned (.bool (badI 0 15 z)) ∧ w' = w := by
  have HW := within_any w z 0 15
  go_enter Tryz.func128, Tryz.ntmps128
  go_wp2_with fail
  refine HW.mono ?_
  rintro e w1 ⟨rfl, hw1⟩
  subst hw1
  clear HW
  go_wp2_with fail
  go_ret
  exact ⟨by rw [← inB_bad]; rfl, rfl⟩

abbrev lwrongV : Value := .func (.func 128) #[] #[]

set_option maxHeartbeats 1000000 in
theorem lindex_any (w : World) (v : Value) (I : Nat → Prop) (zs : List Int) (hs : SrcE intV w I v zs) (hn : zs.length ≤ 10000000) :
    Calls Tryz.prog 157 #[v, lwrongV] w fun e w' => (∃ z : Int, e = .returned (.int .i64 z) ∧ decide (0 ≤ z) = zs.any (badI 0 15)) ∧ w' = w := by
  obtain ⟨ao, cap, rfl, hx1, hx2⟩ := id hs
  clear hx1 hx2
  have HS : Hid (SrcE intV w I (.slice ao zs.length cap) zs) := hs
  clear hs
  go_enter Tryz.func157, Tryz.ntmps157
  go_wp2_with fail
  go_loopg [8] zs.length (fun k z wr => ∃ i : Nat, zs.length - i ≤ k ∧ i ≤ zs.length ∧ z = .int .i64 (i : Nat) ∧ Hid ((zs.take i).any (badI 0 15) = false) ∧ wr = w)
  case atStart => exact ⟨0, by omega, by omega, rfl, hid (by simp), rfl⟩
  case round =>
    obtain ⟨i, hk, hil, rfl, HF, hw⟩ := hrel
    subst hw
    by_cases hlt : i < zs.length
    · obtain ⟨b, o, cap2, e, _, _, hc⟩ := HS.out.get i hlt
      simp only [Value.slice.injEq] at e
      obtain ⟨rfl, hxe, rfl⟩ := e
      clear hxe
      obtain ⟨x, hx⟩ : ∃ x, x = zs[i] := ⟨_, rfl⟩
      rw [← hx] at hc
      unfold intV at hc
      have HX : Hid (x = zs[i]) := hx
      have HC := lwrong_any wr x
      clear hx
      cases hb : badI 0 15 x with
      | true =>
        rw [hb] at HC
        have HB : Hid (badI 0 15 x = true) := hb
        clear hb
        go_wp2_with fail
        refine HC.mono ?_
        rintro e w2 ⟨rfl, hw2⟩
        subst hw2
        clear HC
        go_wp2_with fail
        go_ret
        refine ⟨⟨_, rfl, ?_⟩, rfl⟩
        have h1 : zs.any (badI 0 15) = true := List.any_eq_true.2 ⟨x, by rw [HX.out]; exact List.getElem_mem _, HB.out⟩
        rw [h1]; simp
      | false =>
        rw [hb] at HC
        have HB : Hid (badI 0 15 x = false) := hb
        clear hb
        go_wp2_with fail
        refine HC.mono ?_
        rintro e w2 ⟨rfl, hw2⟩
        subst hw2
        clear HC
        go_wp2_with fail
        go_roundg (gk - 1)
        case measure => omega
        case rel =>
          refine ⟨i + 1, by omega, by omega, by go_num, hid ?_, rfl⟩
          rw [List.take_succ_eq_append_getElem hlt, List.any_append, HF.out, ← HX.out]
          simp [HB.out]
    · have : i = zs.length := by omega
      subst this
      go_wp2_with fail
      go_ret
      refine ⟨⟨_, rfl, ?_⟩, rfl⟩
      have h := HF.out
      rw [List.take_of_length_le (Nat.le_refl _)] at h
      rw [h]; simp

set_option maxHeartbeats 1000000 in
theorem lcontains_any (w : World) (v : Value) (I : Nat → Prop) (zs : List Int) (hs : SrcE intV w I v zs) (hn : zs.length ≤ 10000000) :
    Calls Tryz.prog 129 #[v, lwrongV] w fun e w' => e = .returned (.bool (!lensOk zs)) ∧ w' = w := by
  have H := lindex_any w v I zs hs hn
  clear hs
  go_enter Tryz.func129, Tryz.ntmps129
  go_wp2_with fail
  refine H.mono ?_
  rintro e w2 ⟨⟨z, rfl, hz⟩, hw⟩
  subst hw
  have HZ : Hid (decide (0 ≤ z) = zs.any (badI 0 15)) := hz
  clear hz H
  go_wp2_with fail
  go_ret
  refine ⟨?_, rfl⟩
  unfold lensOk
  rw [Bool.not_not, ← HZ.out]; rfl

set_option maxHeartbeats 1000000 in
theorem lother_any (w : World) (q b o n cap x y : Nat) (hq : w.cell? ⟨q, 0, none⟩ = some (.slice (some ⟨b, o, none⟩) n cap)) (hn : 0 < n) (hb : w.cell? ⟨b, o, none⟩ = some (.int .i64 (y : Nat))) :
    Calls Tryz.prog 158 #[.int .i64 (x : Nat), .pointer (some ⟨q, 0, none⟩)] w fun e w' => e = .returned (.bool (!decide (x = y))) ∧ w' = w := by
  go_enter Tryz.func158, Tryz.ntmps158
  by_cases h : x = y
  · subst h
    go_wp2_with fail
    go_ret
    exact ⟨by simp, rfl⟩
  · have hne : ((x : Int) == (y : Int)) = false := by simp; omega
    have HH : Hid ((!decide (x = y)) = true ∧ ¬ (x : Int) = (y : Int)) := hid ⟨by simp [h], by omega⟩
    clear h
    go_wp2_with fail
    go_ret
    exact ⟨by rw [HH.out.1]; simp [HH.out.2], rfl⟩

abbrev lotherV (q : Nat) : Value := .func (.func 158) #[] #[.pointer (some ⟨q, 0, none⟩)]

set_option maxHeartbeats 1000000 in
theorem lfirst_any (w : World) (b o cap q y : Nat) (I : Nat → Prop) (ns : List Nat) (hs : SrcE natV w I (.slice (some ⟨b, o, none⟩) ns.length cap) ns) (hn : ns.length ≤ 1000000) (h0 : 0 < ns.length) (hy : ns[0] = y)
    (hq : w.cell? ⟨q, 0, none⟩ = some (.slice (some ⟨b, o, none⟩) ns.length cap)) :
    Calls Tryz.prog 157 #[.slice (some ⟨b, o, none⟩) ns.length cap, lotherV q] w fun e w' => ((e = .returned (.int .i64 (-1)) ∧ ∀ j (_ : j < ns.length), ns[j] = y) ∨ ∃ i, e = .returned (.int .i64 (i : Nat)) ∧ ∃ h : i < ns.length, ns[i] ≠ y ∧ ∀ j (_ : j < ns.length), j < i → ns[j] = y) ∧ w' = w := by
  have c0 : w.cell? ⟨b, o, none⟩ = some (.int .i64 (y : Nat)) := by
    obtain ⟨b', o', cap', e, _, _, c⟩ := hs.get 0 h0
    simp only [Value.slice.injEq, Option.some.injEq, Addr.mk.injEq, and_true] at e
    obtain ⟨⟨rfl, rfl⟩, _, _⟩ := e
    rw [hy] at c
    exact c
  have HS : Hid (SrcE natV w I (.slice (some ⟨b, o, none⟩) ns.length cap) ns) := hs
  clear hs hy
  go_enter Tryz.func157, Tryz.ntmps157
  go_wp2_with fail
  go_loopg [8] ns.length (fun k z wr => ∃ i : Nat, ns.length - i ≤ k ∧ i ≤ ns.length ∧ z = .int .i64 (i : Nat) ∧ Hid (∀ j (_ : j < ns.length), j < i → ns[j] = y) ∧ wr = w)
  case atStart => exact ⟨0, by omega, by omega, rfl, hid (fun j _ h => by omega), rfl⟩
  case round =>
    obtain ⟨i, hk, hil, rfl, HF, hw⟩ := hrel
    subst hw
    by_cases hlt : i < ns.length
    · obtain ⟨b', o', cap2, e, _, _, hc⟩ := HS.out.get i hlt
      simp only [Value.slice.injEq, Option.some.injEq, Addr.mk.injEq, and_true] at e
      obtain ⟨⟨rfl, rfl⟩, hxe, rfl⟩ := e
      clear hxe
      obtain ⟨x, hx⟩ : ∃ x, x = ns[i] := ⟨_, rfl⟩
      rw [← hx] at hc
      unfold natV at hc
      have HX : Hid (x = ns[i]) := hx
      have HC := lother_any wr q b o ns.length cap x y hq h0 c0
      clear hx
      by_cases hb : x = y
      · have HB : Hid (x = y) := hb
        have hd : (!decide (x = y)) = false := by simp [hb]
        rw [hd] at HC
        clear hb hd
        go_wp2_with fail
        refine HC.mono ?_
        rintro e w2 ⟨rfl, hw2⟩
        subst hw2
        clear HC
        go_wp2_with fail
        go_roundg (gk - 1)
        case measure => omega
        case rel =>
          refine ⟨i + 1, by omega, by omega, by go_num, hid (fun j hj hji => ?_), rfl⟩
          by_cases e : j = i
          · subst e; rw [← HX.out, HB.out]
          · exact HF.out j hj (by omega)
      · have HB : Hid (x ≠ y) := hb
        have hd : (!decide (x = y)) = true := by simp [hb]
        rw [hd] at HC
        clear hb hd
        go_wp2_with fail
        refine HC.mono ?_
        rintro e w2 ⟨rfl, hw2⟩
        subst hw2
        clear HC
        go_wp2_with fail
        go_ret
        exact ⟨.inr ⟨i, rfl, hlt, by rw [← HX.out]; exact HB.out, HF.out⟩, rfl⟩
    · have : i = ns.length := by omega
      subst this
      go_wp2_with fail
      go_ret
      exact ⟨.inl ⟨rfl, fun j hj => HF.out j hj hj⟩, rfl⟩

theorem front_of {y : Nat} {r : List Nat} {n : Nat} (h : (n = (y :: r).length ∧ ∀ j (_ : j < (y :: r).length), (y :: r)[j] = y) ∨ ∃ h : n < (y :: r).length, (y :: r)[n] ≠ y ∧ ∀ j (_ : j < (y :: r).length), j < n → (y :: r)[j] = y) : n = 1 + frontN y r := by
  rcases h with ⟨h1, h2⟩ | ⟨h1, h2, h3⟩
  · have := frontN_is y r r.length (fun j hj _ => by have := h2 (j + 1) (by simpa using hj); rw [List.getElem_cons_succ] at this; exact this) (Nat.le_refl _) (fun h => by omega)
    rw [this, h1]
    simp; omega
  · cases n with
    | zero => simp at h2
    | succ n =>
      have := frontN_is y r n (fun j hj hjn => by have := h3 (j + 1) (by simpa using hj) (by omega); rw [List.getElem_cons_succ] at this; exact this) (by simp at h1; omega) (fun _ => by simpa using h2)
      rw [this]
      omega

set_option maxHeartbeats 1000000 in
theorem alike_any (w : World) (b o cap : Nat) (I : Nat → Prop) (y : Nat) (r : List Nat) (hs : SrcE natV w I (.slice (some ⟨b, o, none⟩) (y :: r).length cap) (y :: r)) (hn : (y :: r).length ≤ 1000000) :
    Calls Tryz.prog 130 #[.slice (some ⟨b, o, none⟩) (y :: r).length cap] w fun e w' => e = .returned (.int .i64 ((1 + frontN y r : Nat) : Int)) ∧ Same w w' := by
  obtain ⟨W, hW⟩ : ∃ W, W = w.alloc (.cells #[.slice (some ⟨b, o, none⟩) (y :: r).length cap] 45) := ⟨_, rfl⟩
  have HK : Hid (Same w W) := hid (by rw [hW]; exact (Kept.refl _ w).alloc _)
  have hq : W.cell? ⟨w.heap.size, 0, none⟩ = some (.slice (some ⟨b, o, none⟩) (y :: r).length cap) := by rw [hW]; simp
  have HC := lfirst_any W b o cap w.heap.size y I (y :: r) (hs.same HK.out) hn (by simp) rfl hq
  have HC2 : Calls Tryz.prog 157 #[.slice (some ⟨b, o, none⟩) (y :: r).length cap, lotherV w.heap.size] W fun e w' => ((e = .returned (.int .i64 (-1)) ∧ (y :: r).length = 1 + frontN y r) ∨ ∃ i : Nat, e = .returned (.int .i64 (i : Nat)) ∧ i = 1 + frontN y r) ∧ w' = W := HC.mono (by
    rintro e w' ⟨h, hw⟩
    refine ⟨?_, hw⟩
    rcases h with ⟨h1, h2⟩ | ⟨i, h1, h2, h3, h4⟩
    · exact .inl ⟨h1, front_of (.inl ⟨rfl, h2⟩)⟩
    · exact .inr ⟨i, h1, front_of (.inr ⟨h2, h3, h4⟩)⟩)
  clear HC
  obtain ⟨L, hL⟩ : ∃ L, L = (y :: r).length := ⟨_, rfl⟩
  rw [← hL] at HC2 hq hW ⊢
  obtain ⟨f, hf⟩ : ∃ f, f = 1 + frontN y r := ⟨_, rfl⟩
  rw [← hf] at HC2 ⊢
  clear hs hL hn hf
  go_enter Tryz.func130, Tryz.ntmps130
  go_wp2_with fail
  rw [← hW]
  clear hW
  go_wp2_with fail
  refine HC2.mono ?_
  rintro e w2 ⟨h, hw2⟩
  subst hw2
  clear HC2
  rcases h with ⟨rfl, hLf⟩ | ⟨i, rfl, hif⟩
  · subst hLf
    go_wp2_with fail
    go_ret
    exact ⟨rfl, HK.out⟩
  · subst hif
    go_wp2_with fail
    go_ret
    exact ⟨rfl, HK.out⟩

end Go.Proofs.YtggcbnhckcenmaaGreatDoor

/-
  The reference's layer 5: the next symbol; stored blocks.
-/
namespace Go.Proofs.YtggcbnhckcenmaaGreatDoor
open Go.RowKit

/-- The error that a symbol's reading tells. -/
def syE (g wrong : Nat) : Nat := if g = 10 then 55 else if g = 32 then wrong else 0

theorem RNext.small {ns t : List Nat} {is k g : Nat} (h : RNext ns t is k g) : g = 0 ∨ g = 10 ∨ g = 32 := by
  rcases h with ⟨h, _⟩ | ⟨h, _⟩ | ⟨h, _⟩ <;> omega
theorem RNext.fits {ns t : List Nat} {is k g : Nat} (h : RNext ns t is k g) : k ≤ t.length := by
  rcases h with ⟨_, _, hf, hk, _⟩ | ⟨_, _, hk, _⟩ | ⟨_, _, hk, _⟩
  · have h1 := hf.2.length_le
    rw [rowOf_length] at h1
    omega
  · omega
  · omega
theorem RNext.sym_lt {ns t : List Nat} {is k g : Nat} (h : RNext ns t is k g) (hn : 0 < ns.length) : is < ns.length := by
  rcases h with ⟨_, hi, _⟩ | ⟨_, hi, _⟩ | ⟨_, hi, _⟩ <;> omega

/-- sym's answer. -/
def SymA (h : Nat) (v : Value) (vo : Value) (most : Nat) (ns ls : List Nat) (c e wrong : Nat) (r : Ending) (w' : World) : Prop :=
  if e ≠ 0 then r = .returned (.int .i64 0) ∧ RdB w' h v c vo most e
  else r = .returned (.int .i64 ((nextF ns (ls.drop c)).1 : Nat)) ∧ RdB w' h v (c + (nextF ns (ls.drop c)).2.1) vo most (syE (nextF ns (ls.drop c)).2.2 wrong)

set_option maxRecDepth 100000 in
set_option maxHeartbeats 4000000 in
theorem isym_any (w w0 : World) (h : Nat) (v : Value) (I : Nat → Prop) (ls : List Nat) (c : Nat) (vo : Value) (most e wrong go L : Nat) (ns : List Nat) (rs : List (Option Addr × Nat × Nat)) (hH : RdB w h v c vo most e) (hs : Src w I v ls) (hc : c ≤ ls.length) (hlen : ls.length ≤ 100000000)
    (hR : RW w0 w go L ns (fun s => key ns s ≠ 0) rs) (hL : L = ns.length) (hl288 : L ≤ 288) (h15 : ∀ s, key ns s ≤ 15) :
    Calls Tryz.prog 136 #[.pointer (some ⟨h, 0, none⟩), .slice (some ⟨go, 0, none⟩) L L, .int .i64 (wrong : Nat)] w fun r w' => SymA h v vo most ns ls c e wrong r w' ∧ Kept (· = h) w w' := by
  by_cases he : e = 0
  · subst he
    obtain ⟨ao, cap, rfl, hsa⟩ := id hs
    clear hsa
    have HH : Hid (RdB w h (.slice ao ls.length cap) c vo most 0) := hH
    have HS : Hid (Src w I (.slice ao ls.length cap) ls) := hs
    have HR : Hid (RW w0 w go L ns (fun s => key ns s ≠ 0) rs) := hR
    have HA : Hid (L = ns.length ∧ ∀ s, key ns s ≤ 15) := ⟨hL, h15⟩
    obtain ⟨M, hM⟩ : ∃ M, M = ls.length := ⟨_, rfl⟩
    rw [← hM] at HH HS hc hlen ⊢
    have HM : Hid (M = ls.length) := hM
    obtain ⟨is, k, g, hnf⟩ : ∃ is k g, nextF ns (ls.drop c) = (is, k, g) := ⟨_, _, _, rfl⟩
    have HNF : Hid (nextF ns (ls.drop c) = (is, k, g)) := hnf
    have hrn := nextF_is ns (ls.drop c)
    rw [hnf] at hrn
    simp only at hrn
    have HRN : Hid (RNext ns (ls.drop c) is k g) := hrn
    have hkle : c + k ≤ M := by
      have := hrn.fits
      rw [List.length_drop] at this
      omega
    have hg3 := hrn.small
    clear hH hs hR hL h15 hM hnf hrn
    have c0 := HH.out.cell 0
    have c1 := HH.out.cell 1
    have c4 := HH.out.cell 4
    simp at c0 c1 c4
    have HNX := rnext_any w.drew w0 go L ns rs (.slice ao M cap) I ls c (HR.out.kept (F := fun _ => False) ((Kept.refl _ w).drew) (fun _ _ f => f) (fun f => f) (fun _ _ _ _ _ f => f)) HA.out.1 hl288 HA.out.2 (HS.out.kept ((Kept.refl (fun _ => False) w).drew) (fun _ _ _ f => f)) (by have := HM.out; omega) (by have := HM.out; omega)
    have HHX : Hid (Calls Tryz.prog 161 #[.slice (some ⟨go, 0, none⟩) L L, .slice ao M cap, .int .i64 (c : Nat)] w.drew fun e w' => e = .returned (.tuple #[.int .i64 (is : Nat), .int .i64 (k : Nat), .int .i64 (g : Nat)]) ∧ Same w w') := hid (HNX.mono (by
      rintro e w' ⟨⟨is2, k2, g2, rfl, hr2⟩, hk⟩
      obtain ⟨rfl, rfl, rfl⟩ := hr2.one HRN.out
      exact ⟨rfl, ⟨hk.os, hk.tape, hk.output, hk.size, hk.block⟩⟩))
    clear HNX
    obtain ⟨ck, hck⟩ : ∃ ck, ck = c + k := ⟨_, rfl⟩
    have hckI : (c : Int) + (k : Int) = (ck : Int) := by omega
    have HCK : Hid (ck = c + k) := hck
    clear hck
    go_enter Tryz.func136, Tryz.ntmps136
    go_wp2_with fail
    go_region_with (go_at_call 161; refine HHX.out.mono ?_; rintro e w4 ⟨rfl, hk4⟩)
    all_goals
      have HK4 : Hid (Same w w4) := hk4
      have HH4 : Hid (RdB w4 h (.slice ao M cap) c vo most 0) := hid (HH.out.kept hk4 (fun f => f))
      have d1 := HH4.out.cell 1
      have d4 := HH4.out.cell 4
      have g1 := HH4.out.frozen 1
      have g4 := HH4.out.frozen 4
      simp at d1 d4
      have HKW : Hid (Kept (· = h) w w4) := hid (Kept.mono hk4 (fun _ _ f => f.elim))
      clear hk4 c0 c1 c4
      have hA : ∀ e5, e5 = syE g wrong → ∀ wF, RdB wF h (.slice ao M cap) ck vo most e5 → Kept (· = h) w wF → SymA h (.slice ao M cap) vo most ns ls c 0 wrong (.returned (.int .i64 (is : Nat))) wF ∧ Kept (· = h) w wF := by
        intro e5 h5 wF hb hk
        refine ⟨?_, hk⟩
        unfold SymA
        rw [if_neg (by simp), HNF.out]
        simp only
        rw [← HCK.out, ← h5]
        exact ⟨trivial, hb⟩
      have HAA : Hid (∀ e5, e5 = syE g wrong → ∀ wF, RdB wF h (.slice ao M cap) ck vo most e5 → Kept (· = h) w wF → SymA h (.slice ao M cap) vo most ns ls c 0 wrong (.returned (.int .i64 (is : Nat))) wF ∧ Kept (· = h) w wF) := hA
      clear hA
      by_cases hg0 : g = 0
      · subst hg0
        go_wp2_with fail
        go_ret
        refine HAA.out 0 rfl _ ?_ (HKW.out.setCell ⟨h, 1, none⟩ _ (.inl rfl))
        have hb := HH4.out.set 1 (.int .i64 (ck : Nat))
        simp at hb
        exact hb
      · by_cases hg1 : g = 10
        · subst hg1
          go_wp2_with fail
          go_ret
          refine HAA.out 55 rfl _ ?_ ((HKW.out.setCell ⟨h, 4, none⟩ _ (.inl rfl)).setCell ⟨h, 1, none⟩ _ (.inl rfl))
          have hb := (HH4.out.set 4 (.int .i64 55)).set 1 (.int .i64 (ck : Nat))
          simp at hb
          exact hb
        · have hg2 : g = 32 := by omega
          subst hg2
          go_wp2_with fail
          go_ret
          refine HAA.out wrong rfl _ ?_ ((HKW.out.setCell ⟨h, 4, none⟩ _ (.inl rfl)).setCell ⟨h, 1, none⟩ _ (.inl rfl))
          have hb := (HH4.out.set 4 (.int .i64 (wrong : Nat))).set 1 (.int .i64 (ck : Nat))
          simp at hb
          exact hb
  · have hed : ((e : Int) != 0) = true := by simp; omega
    have HE : Hid (e ≠ 0) := he
    have HH : Hid (RdB w h v c vo most e) := hH
    have c4 := hH.cell 4
    simp at c4
    clear he hR hs hH
    go_enter Tryz.func136, Tryz.ntmps136
    go_wp2_with fail
    go_ret
    refine ⟨?_, Kept.refl _ _⟩
    unfold SymA
    rw [if_pos HE.out]
    exact ⟨rfl, HH.out⟩

/-- The rows of a list lie in G. -/
structure RowsIn (w0 : World) (G : Nat → Prop) (go : Nat) (ns : List Nat) (rs : List (Option Addr × Nat × Nat)) : Prop where
  low : ∀ k, k < w0.heap.size → G k
  at' : G go
  own : ∀ s (hs : s < rs.length), key ns s ≠ 0 → ∀ k, (slV rs[s]).ownBlock = some k → G k

theorem RW.inn {w0 w' w2 : World} {G : Nat → Prop} {go n : Nat} {ns : List Nat} {rs : List (Option Addr × Nat × Nat)} (hr : RW w0 w' go n ns (fun s => key ns s ≠ 0) rs) (hi : RowsIn w0 G go ns rs) (hk : KG G w' w2) : RW w0 w2 go n ns (fun s => key ns s ≠ 0) rs :=
  hr.kept hk (fun k hlt f => f (hi.low k hlt)) (fun f => f hi.at') (fun s hs hp k e f => f (hi.own s hs hp k e))

theorem sy_stuck {ns ls : List Nat} {s : S5} {wrong : Nat} (h : s.e ≠ 0) : sy ns ls s wrong = (0, s) := by unfold sy; rw [if_pos h]

theorem sym5 (w w0 : World) (I G : Nat → Prop) (h : Nat) (v : Value) (ls : List Nat) (most : Nat) (s : S5) (wrong go L : Nat) (ns : List Nat) (rs : List (Option Addr × Nat × Nat)) (hz : Sz ls most) (hr : RX w I G h v ls most s)
    (hR : RW w0 w go L ns (fun s => key ns s ≠ 0) rs) (hL : L = ns.length) (hl288 : L ≤ 288) (h15 : ∀ s, key ns s ≤ 15) :
    Calls Tryz.prog 136 #[.pointer (some ⟨h, 0, none⟩), .slice (some ⟨go, 0, none⟩) L L, .int .i64 (wrong : Nat)] w fun r w' => r = .returned (.int .i64 ((sy ns ls s wrong).1 : Nat)) ∧ RX w' I G h v ls most (sy ns ls s wrong).2 ∧ KG G w w' := by
  obtain ⟨c, vo, r⟩ := hr
  refine (isym_any w w0 h v I ls c vo most s.e wrong go L ns rs r.blk r.src r.le (by have := hz.len; omega) hR hL hl288 h15).mono ?_
  rintro x w' ⟨hA, hk⟩
  unfold SymA at hA
  obtain ⟨sc, so, se⟩ := s
  by_cases he : se = 0
  · subst he
    have hc : c = sc := r.pl rfl
    subst hc
    rw [if_neg (by simp)] at hA
    obtain ⟨rfl, hb⟩ := hA
    have hrn := (nextF_is ns (ls.drop c)).fits
    rw [List.length_drop] at hrn
    have hle := r.le
    have e1 : sy ns ls ⟨c, so, 0⟩ wrong = ((nextF ns (ls.drop c)).1, ⟨c + (nextF ns (ls.drop c)).2.1, so, syE (nextF ns (ls.drop c)).2.2 wrong⟩) := by
      unfold sy; rw [if_neg (by simp)]; rfl
    rw [e1]
    exact ⟨rfl, ⟨_, _, r.turn hk hb (fun _ => rfl) (by omega)⟩, r.kg hk⟩
  · rw [if_pos he] at hA
    obtain ⟨rfl, hb⟩ := hA
    rw [sy_stuck he]
    exact ⟨rfl, ⟨_, _, r.turn hk hb (fun e => absurd e he) r.le⟩, r.kg hk⟩

end Go.Proofs.YtggcbnhckcenmaaGreatDoor

/-
  The reference's layer 5: stored blocks, copies.
-/
namespace Go.Proofs.YtggcbnhckcenmaaGreatDoor
open Go.RowKit

/-- What a state shows: its error's cell. -/
theorem RX.err {w : World} {I G : Nat → Prop} {h : Nat} {v : Value} {ls : List Nat} {most : Nat} {s : S5} (r : RX w I G h v ls most s) : w.cell? ⟨h, 4, none⟩ = some (.int .i64 (s.e : Nat)) ∧ w.frozen? ⟨h, 4, none⟩ = false := by
  obtain ⟨c, vo, r⟩ := r
  have c4 := r.blk.cell 4
  simp at c4
  exact ⟨c4, r.blk.frozen 4⟩

/-- An error is set. -/
theorem RX.wrong {w : World} {I G : Nat → Prop} {h : Nat} {v : Value} {ls : List Nat} {most : Nat} {s : S5} (r : RX w I G h v ls most s) (x : Nat) (hx : x ≠ 0) : RX (w.setCell ⟨h, 4, none⟩ (.int .i64 (x : Nat))) I G h v ls most { s with e := x } ∧ KG G w (w.setCell ⟨h, 4, none⟩ (.int .i64 (x : Nat))) := by
  obtain ⟨c, vo, r⟩ := r
  have hk : Kept (· = h) w (w.setCell ⟨h, 4, none⟩ (.int .i64 (x : Nat))) := (Kept.refl (· = h) w).setCell ⟨h, 4, none⟩ _ (.inl rfl)
  have hb := r.blk.set 4 (.int .i64 (x : Nat))
  simp at hb
  exact ⟨⟨c, vo, r.turn hk hb (fun e => absurd e hx) r.le⟩, r.kg hk⟩

theorem ly_e (most : Nat) (s : S5) (b : Nat) : (ly most s b).c = s.c := by
  unfold ly; split
  · rfl
  · split <;> rfl

theorem stB_zero (ls : List Nat) (most : Nat) (s : S5) : stB ls most 0 s = s := rfl
theorem stB_stuck (ls : List Nat) (most k : Nat) (s : S5) (h : s.e ≠ 0) : stB ls most k s = s := by
  cases k with
  | zero => rfl
  | succ k => simp only [stB]; rw [if_pos h]
theorem stB_go (ls : List Nat) (most k : Nat) (s : S5) (h : s.e = 0) : stB ls most (k + 1) s = stB ls most k (ly most (tk ls s 8).2 (tk ls s 8).1) := by
  simp only [stB]; rw [if_neg (by simp [h])]

set_option maxRecDepth 100000 in
set_option maxHeartbeats 4000000 in
theorem stored5_any (w : World) (I G : Nat → Prop) (h : Nat) (v : Value) (ls : List Nat) (most : Nat) (s : S5) (hz : Sz ls most) (h8 : ls.length % 8 = 0) (he : s.e = 0) (hr : RX w I G h v ls most s) :
    Calls Tryz.prog 100 #[.pointer (some ⟨h, 0, none⟩)] w fun r w' => (∃ u, r = .returned u) ∧ RX w' I G h v ls most (stored5 ls most s) ∧ KG G w w' := by
  obtain ⟨sc, so, e⟩ := s
  simp only at he
  subst he
  obtain ⟨c, vo, r⟩ := hr
  have hcs : c = sc := r.pl rfl
  subst hcs
  have HR : Hid (RS w I G h v ls most ⟨c, so, 0⟩ c vo) := r
  have HZ : Hid (Sz ls most) := hz
  have hle := r.le
  have hlen := hz.len
  obtain ⟨M, hM⟩ : ∃ M, M = ls.length := ⟨_, rfl⟩
  rw [← hM] at hle hlen h8
  have HM : Hid (M = ls.length) := hM
  clear r hz hM
  obtain ⟨a, ha⟩ : ∃ a, a = (c + 7) / 8 * 8 := ⟨_, rfl⟩
  have HE : Hid (stored5 ls most ⟨c, so, 0⟩ = stB ls most (tk ls ⟨a, so, 0⟩ 16).1 (if (tk ls (tk ls ⟨a, so, 0⟩ 16).2 16).2.e = 0 ∧ (tk ls ⟨a, so, 0⟩ 16).1 + (tk ls (tk ls ⟨a, so, 0⟩ 16).2 16).1 ≠ 65535 then { (tk ls (tk ls ⟨a, so, 0⟩ 16).2 16).2 with e := 51 } else (tk ls (tk ls ⟨a, so, 0⟩ 16).2 16).2)) := hid (by rw [ha]; rfl)
  go_enter Tryz.func100, Tryz.ntmps100
  go_wp2_with fail
  go_loopg [] 8 (fun q wr => ∃ (i : Nat), c ≤ i ∧ i ≤ a ∧ a - i ≤ q ∧ Hid (RS wr I G h v ls most ⟨i, so, 0⟩ i vo) ∧ Hid (KG G w wr))
  case atStart => exact ⟨c, by omega, by omega, by omega, HR, Kept.refl _ _⟩
  case round =>
    obtain ⟨i, hi0, hi, hq, HRr, HKr⟩ := hrel
    have k1 := HRr.out.blk.cell 1
    have f1 := HRr.out.blk.frozen 1
    simp at k1
    by_cases hlt : i % 8 = 0
    · have hia : i = a := by omega
      subst hia
      have T1 := take5 wr I G h v ls most ⟨i, so, 0⟩ 16 HZ.out (by decide) ⟨_, _, HRr.out⟩
      have hx1 := tk_lt ls HZ.out.bit ⟨i, so, 0⟩ 16
      obtain ⟨n, hn⟩ : ∃ n, n = (tk ls ⟨i, so, 0⟩ 16).1 := ⟨_, rfl⟩
      obtain ⟨s2, hs2⟩ : ∃ s2, s2 = (tk ls ⟨i, so, 0⟩ 16).2 := ⟨_, rfl⟩
      rw [← hn] at T1 hx1 HE
      rw [← hs2] at T1 HE
      have hn16 : n < 65536 := hx1
      clear hn hs2 hx1
      go_wp2_with fail
      refine T1.mono ?_
      rintro e1 w1 ⟨rfl, hr1, hk1⟩
      have HK1 : Hid (KG G w w1) := hid (HKr.out.trans hk1)
      have T2 := take5 w1 I G h v ls most s2 16 HZ.out (by decide) hr1
      have hx2 := tk_lt ls HZ.out.bit s2 16
      obtain ⟨m, hm⟩ : ∃ m, m = (tk ls s2 16).1 := ⟨_, rfl⟩
      obtain ⟨s3, hs3⟩ : ∃ s3, s3 = (tk ls s2 16).2 := ⟨_, rfl⟩
      rw [← hm] at T2 hx2 HE
      rw [← hs3] at T2 HE
      have hm16 : m < 65536 := hx2
      clear hm hs3 hx2 hr1 hk1 T1 HRr HKr k1 f1
      go_wp2_with fail
      refine T2.mono ?_
      rintro e2 w2 ⟨rfl, hr2, hk2⟩
      have HK2 : Hid (KG G w w2) := hid (HK1.out.trans hk2)
      have HR2 : Hid (RX w2 I G h v ls most s3) := hr2
      obtain ⟨k4, f4⟩ := hr2.err
      clear hr2 hk2 T2
      -- the rest: bytes that are read and laid
      by_cases hs30 : s3.e = 0
      · by_cases hnm : n + m = 65535
        · have hs4 : (if s3.e = 0 ∧ n + m ≠ 65535 then { s3 with e := 51 } else s3 : S5) = s3 := by rw [if_neg (fun h => h.2 hnm)]
          rw [hs4] at HE
          rw [hs30] at k4
          have hnmd : (((n : Int) + (m : Int)) != 65535) = false := by simp; omega
          clear hs4
          go_wp2_with fail
          go_loopg [4] (n + 1) (fun q zi wr => ∃ (j : Nat) (sj : S5), n - j < q ∧ j ≤ n ∧ zi = .int .i64 (j : Nat) ∧ Hid (RX wr I G h v ls most sj) ∧ Hid (KG G w wr) ∧ Hid (stB ls most n s3 = stB ls most (n - j) sj))
          case atStart => exact ⟨0, s3, by omega, by omega, rfl, HR2, HK2, hid rfl⟩
          case round =>
            obtain ⟨j, sj, hq, hj, rfl, HRj, HKj, HEj⟩ := hrel
            obtain ⟨k4, f4⟩ := HRj.out.err
            by_cases hlt2 : j < n
            · by_cases hsj : sj.e = 0
              · have HS : Hid (stB ls most (n - j) sj = stB ls most (n - (j + 1)) (ly most (tk ls sj 8).2 (tk ls sj 8).1)) := hid (by rw [show n - j = (n - (j + 1)) + 1 by omega, stB_go _ _ _ _ hsj])
                have T3 := take5 wr I G h v ls most sj 8 HZ.out (by decide) HRj.out
                have hx := tk_lt ls HZ.out.bit sj 8
                obtain ⟨x, hx'⟩ : ∃ x, x = (tk ls sj 8).1 := ⟨_, rfl⟩
                obtain ⟨s5, hs5⟩ : ∃ s5, s5 = (tk ls sj 8).2 := ⟨_, rfl⟩
                rw [← hx'] at T3 hx HS
                rw [← hs5] at T3 HS
                have hx256 : x < 256 := hx
                rw [hsj] at k4
                clear hx hx' hs5
                go_wp2_with fail
                refine T3.mono ?_
                rintro e5 w5 ⟨rfl, hr5, hk5⟩
                have L1 := lay5 w5 I G h v ls most s5 x HZ.out hx256 hr5
                have HK5 : Hid (KG G w w5) := hid (HKj.out.trans hk5)
                clear hr5 hk5 T3
                go_wp2_with fail
                refine L1.mono ?_
                rintro e6 w6 ⟨⟨u, rfl⟩, hr6, hk6⟩
                have HR6 : Hid (RX w6 I G h v ls most (ly most s5 x)) := hr6
                have HK6 : Hid (KG G w w6) := hid (HK5.out.trans hk6)
                clear hr6 hk6 L1
                go_wp2_with fail
                go_roundg (gk - 1)
                case measure => omega
                case rel => exact ⟨j + 1, _, by omega, by omega, by go_num, HR6, HK6, hid (by rw [HEj.out, HS.out])⟩
              · obtain ⟨e3, he3⟩ : ∃ e3, e3 = sj.e := ⟨_, rfl⟩
                have HF : Hid (stB ls most n s3 = sj) := hid (by rw [HEj.out, stB_stuck _ _ _ _ hsj])
                rw [← he3] at hsj k4
                have hed : ((e3 : Int) == 0) = false := by simp; omega
                clear he3
                go_wp2_with fail
                go_end0
                rw [HE.out, HF.out]
                exact ⟨⟨_, rfl⟩, HRj.out, HKj.out⟩
            · have hjn : n - j = 0 := by omega
              have HF : Hid (stB ls most n s3 = sj) := hid (by rw [HEj.out, hjn, stB_zero])
              have hdj : decide (j < n) = false := by simp; omega
              clear hjn
              go_wp2_with fail
              go_end0
              rw [HE.out, HF.out]
              exact ⟨⟨_, rfl⟩, HRj.out, HKj.out⟩
        · have hs4 : (if s3.e = 0 ∧ n + m ≠ 65535 then { s3 with e := 51 } else s3 : S5) = { s3 with e := 51 } := by rw [if_pos ⟨hs30, hnm⟩]
          rw [hs4, stB_stuck _ _ _ _ (by simp)] at HE
          have hW := HR2.out.wrong 51 (by decide)
          have HW1 : Hid (RX (w2.setCell ⟨h, 4, none⟩ (.int .i64 51)) I G h v ls most { s3 with e := 51 }) := hid hW.1
          have HW2 : Hid (KG G w (w2.setCell ⟨h, 4, none⟩ (.int .i64 51))) := hid (HK2.out.trans hW.2)
          rw [hs30] at k4
          have hnmd : (((n : Int) + (m : Int)) != 65535) = true := by simp; omega
          clear hs4 hW
          go_wp2_with fail
          go_loopg [4] 1 (fun q zi wr => zi = .int .i64 0 ∧ wr = w2.setCell ⟨h, 4, none⟩ (.int .i64 51))
          case atStart => exact ⟨rfl, rfl⟩
          case round =>
            obtain ⟨rfl, rfl⟩ := hrel
            obtain ⟨k4, _⟩ := HW1.out.err
            simp only at k4
            go_wp2_with fail
            all_goals
              go_end0
              rw [HE.out]
              exact ⟨⟨_, rfl⟩, HW1.out, HW2.out⟩
      · have hs4 : (if s3.e = 0 ∧ n + m ≠ 65535 then { s3 with e := 51 } else s3 : S5) = s3 := by rw [if_neg (fun h => hs30 h.1)]
        rw [hs4, stB_stuck _ _ _ _ hs30] at HE
        obtain ⟨e3, he3⟩ : ∃ e3, e3 = s3.e := ⟨_, rfl⟩
        rw [← he3] at hs30 k4
        have hed : ((e3 : Int) == 0) = false := by simp; omega
        clear hs4 he3
        go_wp2_with fail
        go_loopg [4] 1 (fun q zi wr => zi = .int .i64 0 ∧ wr = w2)
        case atStart => exact ⟨rfl, rfl⟩
        case round =>
          obtain ⟨rfl, rfl⟩ := hrel
          go_wp2_with fail
          all_goals
            go_end0
            rw [HE.out]
            exact ⟨⟨_, rfl⟩, HR2.out, HK2.out⟩
    · have hi1M : i + 1 ≤ M := by omega
      have HX : Hid (RS (wr.setCell ⟨h, 1, none⟩ (.int .i64 ((i : Int) + 1))) I G h v ls most ⟨i + 1, so, 0⟩ (i + 1) vo ∧ KG G w (wr.setCell ⟨h, 1, none⟩ (.int .i64 ((i : Int) + 1)))) := hid (by
        have hk : Kept (· = h) wr (wr.setCell ⟨h, 1, none⟩ (.int .i64 ((i : Int) + 1))) := (Kept.refl (· = h) wr).setCell ⟨h, 1, none⟩ _ (.inl rfl)
        have hb := HRr.out.blk.set 1 (.int .i64 ((i : Int) + 1))
        simp at hb
        exact ⟨HRr.out.turn hk hb (fun _ => rfl) (by have := HM.out; omega), HKr.out.trans (HRr.out.kg hk)⟩)
      go_wp2_with fail
      go_roundg (gk - 1)
      case measure => omega
      case rel => exact ⟨i + 1, by omega, by omega, by omega, HX.out.1, HX.out.2⟩

end Go.Proofs.YtggcbnhckcenmaaGreatDoor

/-
  The reference's layer 5: copies.
-/
namespace Go.Proofs.YtggcbnhckcenmaaGreatDoor
open Go.RowKit

theorem RX.drew {w : World} {I G : Nat → Prop} {h : Nat} {v : Value} {ls : List Nat} {most : Nat} {s : S5} (r : RX w I G h v ls most s) : RX w.drew I G h v ls most s := by
  obtain ⟨c, vo, r⟩ := r
  exact ⟨c, vo, r.blk, r.row, r.ne, r.gh, r.go, r.lt, r.src, r.ig, r.pl, r.le, r.ol, r.by'⟩

theorem cp5_zero (most far : Nat) (s : S5) : cp5 most far 0 s = s := rfl
theorem cp5_stuck (most far k : Nat) (s : S5) (h : s.e ≠ 0) : cp5 most far k s = s := by
  cases k with
  | zero => rfl
  | succ k => simp only [cp5]; rw [if_pos h]
theorem cp5_go (most far k : Nat) (s : S5) (h : s.e = 0) : cp5 most far (k + 1) s = cp5 most far k (ly most s (s.out.getD (s.out.length - far) 0)) := by
  simp only [cp5]; rw [if_neg (by simp [h])]

theorem ly_out (most : Nat) (s : S5) (b : Nat) : s.out.length ≤ (ly most s b).out.length := by
  unfold ly
  split
  · exact Nat.le_refl _
  · split
    · exact Nat.le_refl _
    · simp

theorem tk_out (ls : List Nat) (s : S5) (n : Nat) : (tk ls s n).2.out = s.out := by
  unfold tk
  split
  · rfl
  · split <;> rfl

theorem lbase_le (y : Nat) (hy : 257 ≤ y) (hy2 : y ≤ 285) : lbase y ≤ 3 + 32 * (y - 257) := by
  induction y with
  | zero => omega
  | succ y ih =>
    by_cases h : 257 ≤ y
    · rw [lbase_succ y h]
      have h1 := ih h (by omega)
      have h2 : 2 ^ xlen y ≤ 32 := Nat.le_trans (Nat.pow_le_pow_right (by omega) (xlen_le y (by omega))) (by decide)
      omega
    · have e : y = 256 := by omega
      subst e
      decide
theorem dbase_le (y : Nat) (hy2 : y ≤ 29) : 1 ≤ dbase y ∧ dbase y ≤ 1 + 8192 * y := by
  induction y with
  | zero => decide
  | succ y ih =>
    rw [dbase_succ y]
    have h0 := Nat.two_pow_pos (xdist y)
    have h1 := ih (by omega)
    have h2 : 2 ^ xdist y ≤ 8192 := Nat.le_trans (Nat.pow_le_pow_right (by omega) (xdist_le y (by omega))) (by decide)
    omega

theorem len5_le (ls : List Nat) (hb : ∀ b ∈ ls, b < 2) (s : S5) (y : Nat) (hy : 257 ≤ y) (hy2 : y ≤ 285) : (len5 ls s y).1 ≤ 2000 := by
  unfold len5
  split
  · simp only; omega
  · have h1 := tk_lt ls hb s (xlen y)
    have h2 : 2 ^ xlen y ≤ 32 := Nat.le_trans (Nat.pow_le_pow_right (by omega) (xlen_le y (by omega))) (by decide)
    have h3 := lbase_le y hy hy2
    simp only
    omega
theorem dist5_le (ls : List Nat) (hb : ∀ b ∈ ls, b < 2) (s : S5) (y : Nat) (hy2 : y ≤ 29) : 1 ≤ (dist5 ls s y).1 ∧ (dist5 ls s y).1 ≤ 1000000 := by
  unfold dist5
  have h1 := tk_lt ls hb s (xdist y)
  have h2 : 2 ^ xdist y ≤ 8192 := Nat.le_trans (Nat.pow_le_pow_right (by omega) (xdist_le y (by omega))) (by decide)
  have h3 := dbase_le y hy2
  simp only
  omega

/-- What was laid can be read. -/
theorem RX.outs {w : World} {I G : Nat → Prop} {h : Nat} {v : Value} {ls : List Nat} {most : Nat} {s : S5} (r : RX w I G h v ls most s) : s.out.length ≤ most ∧ ∃ ao cap, w.cell? ⟨h, 2, none⟩ = some (.slice ao s.out.length cap) ∧ s.out.length ≤ cap ∧ (s.out ≠ [] → ∃ g, ao = some ⟨g, 0, none⟩ ∧ ∀ j (hj : j < s.out.length), w.cell? ⟨g, j, none⟩ = some (.int .u8 (s.out[j] : Nat)) ∧ s.out[j] < 256) := by
  obtain ⟨c, vo, r⟩ := r
  obtain ⟨ao, cap, hv, hn, _, hcap, _⟩ := RowE.shape (enc := byteV) (xs := s.out) r.row
  subst hv
  have c2 := r.blk.cell 2
  simp at c2
  refine ⟨r.ol, ao, cap, c2, hcap, fun hne => ?_⟩
  obtain ⟨g, rfl⟩ := hn hne
  exact ⟨g, rfl, fun j hj => ⟨Row.cell r.row j hj, r.by' _ (List.getElem_mem hj)⟩⟩

theorem copies5_far (ls : List Nat) (most : Nat) (dist : List Nat) (s : S5) (y : Nat) (h : y ≤ 285) (n : Nat) (s1 s2 s3 s4 : S5) (d : Nat) (e1 : len5 ls s y = (n, s1)) (e2 : s2 = if s1.e = 0 ∧ usedB dist = false then { s1 with e := 53 } else s1) (e3 : sy dist ls s2 53 = (d, s3)) (e4 : s4 = if s3.e = 0 ∧ 29 < d then { s3 with e := 53 } else s3) :
    copies5 ls most dist s y = if s4.e ≠ 0 then s4 else cp5 most (dist5 ls s4 d).1 n (if (dist5 ls s4 d).2.e = 0 ∧ (dist5 ls s4 d).2.out.length < (dist5 ls s4 d).1 then { (dist5 ls s4 d).2 with e := 54 } else (dist5 ls s4 d).2) := by
  unfold copies5
  rw [if_neg (by omega)]
  simp only
  rw [e1]
  simp only
  rw [← e2, e3]
  simp only
  rw [← e4]

end Go.Proofs.YtggcbnhckcenmaaGreatDoor

/-
  The reference's layer 5: copies, walked.
-/
namespace Go.Proofs.YtggcbnhckcenmaaGreatDoor
open Go.RowKit

set_option maxRecDepth 100000 in
set_option maxHeartbeats 8000000 in
theorem copies5_any (w w0 : World) (I G J : Nat → Prop) (h : Nat) (v : Value) (ls : List Nat) (most : Nat) (s : S5) (y : Nat) (vd : Value) (dist : List Nat) (go : Nat) (rs : List (Option Addr × Nat × Nat)) (hz : Sz ls most) (hy : 257 ≤ y) (hy3 : y ≤ 1000) (hr : RX w I G h v ls most s)
    (hd : SrcE natV w J vd dist) (hJ : ∀ k, J k → G k) (hR : RW w0 w go dist.length dist (fun s => key dist s ≠ 0) rs) (hI : RowsIn w0 G go dist rs) (hl288 : dist.length ≤ 288) (h15 : ∀ s, key dist s ≤ 15) :
    Calls Tryz.prog 137 #[.pointer (some ⟨h, 0, none⟩), .int .i64 (y : Nat), vd, .slice (some ⟨go, 0, none⟩) dist.length dist.length] w fun r w' => (∃ u, r = .returned u) ∧ RX w' I G h v ls most (copies5 ls most dist s y) ∧ KG G w w' := by
  have HR : Hid (RX w I G h v ls most s) := hr
  have HZ : Hid (Sz ls most) := hz
  have HD : Hid (SrcE natV w J vd dist ∧ ∀ k, J k → G k) := ⟨hd, hJ⟩
  have HW : Hid (RW w0 w go dist.length dist (fun s => key dist s ≠ 0) rs) := hR
  have HI : Hid (RowsIn w0 G go dist rs) := hI
  have HA : Hid (dist.length ≤ 288 ∧ ∀ s, key dist s ≤ 15) := ⟨hl288, h15⟩
  obtain ⟨k4, f4⟩ := hr.err
  have hmo := hz.mo
  clear hr hz hd hJ hR hI h15
  by_cases hy2 : 285 < y
  · have HE : Hid (copies5 ls most dist s y = { s with e := 53 }) := hid (by unfold copies5; rw [if_pos hy2])
    go_enter Tryz.func137, Tryz.ntmps137
    go_wp2_with fail
    refine bodyPost_ret (results_none rfl _ _ _) rfl ?_
    rw [HE.out]
    have hW := HR.out.wrong 53 (by decide)
    exact ⟨⟨_, rfl⟩, hW.1, hW.2⟩
  · have hyd : decide (285 < y) = false := by simp; omega
    have hy285 : y ≤ 285 := by omega
    have HY : Hid (y ≤ 285) := hy285
    have T1 := length5 w I G h v ls most s y HZ.out hy hy285 HR.out
    have hn2 := len5_le ls HZ.out.bit s y hy hy285
    obtain ⟨n, s1, e1⟩ : ∃ n s1, len5 ls s y = (n, s1) := ⟨_, _, rfl⟩
    rw [e1] at T1 hn2
    simp only at hn2
    have E1 : Hid (len5 ls s y = (n, s1)) := e1
    clear e1 k4 f4
    go_enter Tryz.func137, Tryz.ntmps137
    go_wp2_with fail
    refine T1.mono ?_
    rintro r1 w1 ⟨rfl, hr1, hk1⟩
    have HR1 : Hid (RX w1 I G h v ls most s1) := hr1
    have HK1 : Hid (KG G w w1) := hk1
    have HD1 : Hid (SrcE natV w1 J vd dist) := hid (HD.out.1.kept hk1 (fun k hj _ f => f (HD.out.2 k hj)))
    have HW1 : Hid (RW w0 w1 go dist.length dist (fun s => key dist s ≠ 0) rs) := hid (HW.out.inn HI.out hk1)
    obtain ⟨k4, f4⟩ := hr1.err
    clear hr1 hk1 T1 HR
    by_cases hs1 : s1.e = 0
    · obtain ⟨U, hU⟩ : ∃ U, U = usedB dist := ⟨_, rfl⟩
      have U1 := used5 w1 vd J dist HD1.out (by have := HA.out.1; omega)
      rw [← hU] at U1
      have HU : Hid (U = usedB dist) := hU
      have HS1 : Hid (s1.e = 0) := hs1
      rw [hs1] at k4
      clear hU hs1
      cases U with
      | false =>
        have hW := HR1.out.wrong 53 (by decide)
        have HX1 : Hid (RX (w1.setCell ⟨h, 4, none⟩ (.int .i64 53)) I G h v ls most { s1 with e := 53 }) := hid hW.1
        have HX2 : Hid (KG G w (w1.setCell ⟨h, 4, none⟩ (.int .i64 53))) := hid (HK1.out.trans hW.2)
        have HX3 : Hid (RW w0 (w1.setCell ⟨h, 4, none⟩ (.int .i64 53)) go dist.length dist (fun s => key dist s ≠ 0) rs) := hid (HW1.out.inn HI.out hW.2)
        have Y1 := sym5 (w1.setCell ⟨h, 4, none⟩ (.int .i64 53)) w0 I G h v ls most { s1 with e := 53 } 53 go dist.length dist rs HZ.out HX1.out HX3.out rfl HA.out.1 HA.out.2
        rw [sy_stuck (by simp)] at Y1
        have HE : Hid (copies5 ls most dist s y = { s1 with e := 53 }) := hid (by
          rw [copies5_far ls most dist s y HY.out n s1 { s1 with e := 53 } { s1 with e := 53 } { s1 with e := 53 } 0 E1.out (by rw [if_pos ⟨HS1.out, HU.out.symm⟩]) (sy_stuck (by simp)) (by rw [if_neg (fun h => by have := h.1; simp at this)])]
          rw [if_pos (by simp)])
        clear hW
        go_wp2_with fail
        refine U1.mono ?_
        rintro r2 wx ⟨rfl, hwx⟩
        subst hwx
        go_wp2_with fail
        refine Y1.mono ?_
        rintro r3 w3 ⟨rfl, hr3, hk3⟩
        obtain ⟨k4', f4'⟩ := hr3.err
        have HR3 : Hid (RX w3 I G h v ls most { s1 with e := 53 }) := hr3
        have HK3 : Hid (KG G w w3) := hid (HX2.out.trans hk3)
        simp only at k4'
        clear hr3 hk3 Y1
        go_wp2_with fail
        refine bodyPost_ret (results_none rfl _ _ _) rfl ?_
        rw [HE.out]
        exact ⟨⟨_, rfl⟩, HR3.out, HK3.out⟩
      | true =>
        have Y1 := sym5 w1 w0 I G h v ls most s1 53 go dist.length dist rs HZ.out HR1.out HW1.out rfl HA.out.1 HA.out.2
        obtain ⟨d, s3, e3⟩ : ∃ d s3, sy dist ls s1 53 = (d, s3) := ⟨_, _, rfl⟩
        rw [e3] at Y1
        have E3 : Hid (sy dist ls s1 53 = (d, s3)) := e3
        have hd288 : d ≤ 288 := by
          have h1 := HA.out.1
          unfold sy at e3
          split at e3
          · simp at e3; omega
          · simp only [Prod.mk.injEq] at e3
            obtain ⟨rfl, _⟩ := e3
            rcases nextF_is dist (ls.drop s1.c) with ⟨_, hi, _⟩ | ⟨_, hi, _⟩ | ⟨_, hi, _⟩ <;> omega
        have HF : Hid (∀ s4 : S5, s4 = (if s3.e = 0 ∧ 29 < d then { s3 with e := 53 } else s3) → copies5 ls most dist s y = if s4.e ≠ 0 then s4 else cp5 most (dist5 ls s4 d).1 n (if (dist5 ls s4 d).2.e = 0 ∧ (dist5 ls s4 d).2.out.length < (dist5 ls s4 d).1 then { (dist5 ls s4 d).2 with e := 54 } else (dist5 ls s4 d).2)) := hid (fun s4 h4 => copies5_far ls most dist s y HY.out n s1 s1 s3 s4 d E1.out (by rw [if_neg (fun h => by have := h.2; rw [← HU.out] at this; cases this)]) E3.out h4)
        clear e3
        go_wp2_with fail
        refine U1.mono ?_
        rintro r2 wx ⟨rfl, hwx⟩
        subst hwx
        go_wp2_with fail
        refine Y1.mono ?_
        rintro r3 w3 ⟨rfl, hr3, hk3⟩
        obtain ⟨k4', f4'⟩ := hr3.err
        have HR3 : Hid (RX w3 I G h v ls most s3) := hr3
        have HK3 : Hid (KG G w w3) := hid (HK1.out.trans hk3)
        clear hr3 hk3 Y1 U1 k4 f4
        by_cases hs3 : s3.e = 0
        · have HS3 : Hid (s3.e = 0) := hs3
          rw [hs3] at k4'
          clear hs3
          by_cases hd29 : 29 < d
          · have HE : Hid (copies5 ls most dist s y = { s3 with e := 53 }) := hid (by rw [HF.out { s3 with e := 53 } (by rw [if_pos ⟨HS3.out, hd29⟩]), if_pos (by simp)])
            have hW := HR3.out.wrong 53 (by decide)
            obtain ⟨k5, f5⟩ := hW.1.err
            have HX1 : Hid (RX (w3.setCell ⟨h, 4, none⟩ (.int .i64 53)) I G h v ls most { s3 with e := 53 }) := hid hW.1
            have HX2 : Hid (KG G w (w3.setCell ⟨h, 4, none⟩ (.int .i64 53))) := hid (HK3.out.trans hW.2)
            simp only at k5
            clear hW
            go_wp2_with fail
            refine bodyPost_ret (results_none rfl _ _ _) rfl ?_
            rw [HE.out]
            exact ⟨⟨_, rfl⟩, HX1.out, HX2.out⟩
          · have hdd : decide (29 < d) = false := by simp; omega
            have hd29' : d ≤ 29 := by omega
            have T5 := distance5 w3 I G h v ls most s3 d HZ.out (by omega) HR3.out
            obtain ⟨far, s5, e5⟩ : ∃ far s5, dist5 ls s3 d = (far, s5) := ⟨_, _, rfl⟩
            have hfar := dist5_le ls HZ.out.bit s3 d (by omega)
            rw [e5] at T5 hfar
            simp only at hfar
            have HF2 : Hid (copies5 ls most dist s y = cp5 most far n (if s5.e = 0 ∧ s5.out.length < far then { s5 with e := 54 } else s5)) := hid (by rw [HF.out s3 (by rw [if_neg (fun h => hd29 h.2)]), if_neg (by have := HS3.out; simp [this]), e5])
            obtain ⟨hf1, hf2⟩ := hfar
            clear e5 hd29 HF
            go_wp2_with fail
            refine T5.mono ?_
            rintro r5 w5 ⟨rfl, hr5, hk5⟩
            obtain ⟨k4, f4⟩ := hr5.err
            obtain ⟨hol, ao, cap, k2, hcap, hcells⟩ := hr5.outs
            have HR5 : Hid (RX w5 I G h v ls most s5) := hr5
            have HK5 : Hid (KG G w w5) := hid (HK3.out.trans hk5)
            clear hr5 hk5 T5 k4' f4' hcells HR3 HK3
            obtain ⟨L, hL⟩ : ∃ L, L = s5.out.length := ⟨_, rfl⟩
            rw [← hL] at k2 hol hcap
            by_cases hs5 : s5.e = 0
            · rw [hs5] at k4
              by_cases hlf : L < far
              · have HE : Hid (copies5 ls most dist s y = { s5 with e := 54 }) := hid (by rw [HF2.out, if_pos ⟨hs5, by omega⟩, cp5_stuck _ _ _ _ (by simp)])
                have hW := HR5.out.wrong 54 (by decide)
                obtain ⟨k5, f5⟩ := hW.1.err
                have HX1 : Hid (RX (w5.setCell ⟨h, 4, none⟩ (.int .i64 54)) I G h v ls most { s5 with e := 54 }) := hid hW.1
                have HX2 : Hid (KG G w (w5.setCell ⟨h, 4, none⟩ (.int .i64 54))) := hid (HK5.out.trans hW.2)
                simp only at k5
                clear hW hL hs5
                go_wp2_with fail
                go_loopg [11] 1 (fun q zi wr => zi = .int .i64 0 ∧ wr = w5.setCell ⟨h, 4, none⟩ (.int .i64 54))
                case atStart => exact ⟨rfl, rfl⟩
                case round =>
                  obtain ⟨rfl, rfl⟩ := hrel
                  go_wp2_with fail
                  all_goals
                    go_end0
                    rw [HE.out]
                    exact ⟨⟨_, rfl⟩, HX1.out, HX2.out⟩
              · have HE : Hid (copies5 ls most dist s y = cp5 most far n s5) := hid (by rw [HF2.out, if_neg (fun h => by omega)])
                have HLL : Hid (far ≤ s5.out.length) := hid (by omega)
                have hlfd : decide (L < far) = false := by simp; omega
                clear hL hs5 HF2
                go_wp2_with fail
                go_loopg [11] (n + 1) (fun q zi wr => ∃ (j : Nat) (sj : S5), n - j < q ∧ j ≤ n ∧ zi = .int .i64 (j : Nat) ∧ Hid (RX wr I G h v ls most sj) ∧ Hid (KG G w wr) ∧ Hid (cp5 most far n s5 = cp5 most far (n - j) sj ∧ far ≤ sj.out.length))
                case atStart => exact ⟨0, s5, by omega, by omega, rfl, HR5, HK5, hid ⟨rfl, HLL.out⟩⟩
                case round =>
                  obtain ⟨j, sj, hq, hj, rfl, HRj, HKj, HEj⟩ := hrel
                  obtain ⟨k4, f4⟩ := HRj.out.err
                  by_cases hlt2 : j < n
                  · by_cases hsj : sj.e = 0
                    · have hfl := HEj.out.2
                      have HS : Hid (cp5 most far (n - j) sj = cp5 most far (n - (j + 1)) (ly most sj (sj.out.getD (sj.out.length - far) 0)) ∧ far ≤ (ly most sj (sj.out.getD (sj.out.length - far) 0)).out.length) := hid ⟨by rw [show n - j = (n - (j + 1)) + 1 by omega, cp5_go _ _ _ _ hsj], Nat.le_trans hfl (ly_out _ _ _)⟩
                      obtain ⟨hol, ao, cap, k2, hcap, hcells⟩ := HRj.out.outs
                      have hne : sj.out ≠ [] := by intro e; rw [e] at hfl; simp at hfl; omega
                      obtain ⟨g, rfl, hg⟩ := hcells hne
                      obtain ⟨p, hp⟩ : ∃ p, p = sj.out.length - far := ⟨_, rfl⟩
                      have hpl : p < sj.out.length := by omega
                      obtain ⟨cx, hb256⟩ := hg p hpl
                      have hgd : sj.out.getD (sj.out.length - far) 0 = sj.out[p] := by rw [← hp]; simp [List.getD, hpl]
                      rw [hgd] at HS
                      obtain ⟨b, hb⟩ : ∃ b, b = sj.out[p] := ⟨_, rfl⟩
                      rw [← hb] at HS cx hb256
                      obtain ⟨Lj, hLj⟩ : ∃ Lj, Lj = sj.out.length := ⟨_, rfl⟩
                      rw [← hLj] at k2 hcap hpl hol hp hfl
                      have hpI : (Lj : Int) - (far : Int) = (p : Int) := by omega
                      have hwp : IntKind.i64.wrap (p : Int) = (p : Int) := by rw [IntKind.wrap_i64]; omega
                      have L1 := lay5 wr.drew I G h v ls most sj b HZ.out hb256 HRj.out.drew
                      have HL1 : Hid (Calls Tryz.prog 134 #[.pointer (some ⟨h, 0, none⟩), .int .u8 (b : Nat)] wr.drew fun r w' => (∃ u, r = .returned u) ∧ RX w' I G h v ls most (ly most sj b) ∧ KG G wr.drew w') := L1
                      rw [hsj] at k4
                      clear hb hg hcells hLj hp hne hgd L1 hfl
                      go_wp2_with fail
                      go_region_with (go_at_call 134; refine HL1.out.mono ?_; rintro r6 w6 ⟨⟨u, rfl⟩, hr6, hk6⟩)
                      all_goals
                        have HR6 : Hid (RX w6 I G h v ls most (ly most sj b)) := hr6
                        have HK6 : Hid (KG G w w6) := hid (KG.trans HKj.out.drew hk6)
                        clear hr6 hk6
                        go_wp2_with fail
                        go_roundg (gk - 1)
                        case measure => omega
                        case rel => exact ⟨j + 1, _, by omega, by omega, by go_num, HR6, HK6, hid ⟨by rw [HEj.out.1, HS.out.1], HS.out.2⟩⟩
                    · obtain ⟨e7, he7⟩ : ∃ e7, e7 = sj.e := ⟨_, rfl⟩
                      have HFF : Hid (cp5 most far n s5 = sj) := hid (by rw [HEj.out.1, cp5_stuck _ _ _ _ hsj])
                      rw [← he7] at hsj k4
                      have hed : ((e7 : Int) == 0) = false := by simp; omega
                      clear he7
                      go_wp2_with fail
                      go_end0
                      rw [HE.out, HFF.out]
                      exact ⟨⟨_, rfl⟩, HRj.out, HKj.out⟩
                  · have hjn : n - j = 0 := by omega
                    have HFF : Hid (cp5 most far n s5 = sj) := hid (by rw [HEj.out.1, hjn, cp5_zero])
                    have hdj : decide (j < n) = false := by simp; omega
                    clear hjn
                    go_wp2_with fail
                    go_end0
                    rw [HE.out, HFF.out]
                    exact ⟨⟨_, rfl⟩, HRj.out, HKj.out⟩
            · have HE : Hid (copies5 ls most dist s y = s5) := hid (by rw [HF2.out, if_neg (fun h => hs5 h.1), cp5_stuck _ _ _ _ hs5])
              obtain ⟨e7, he7⟩ : ∃ e7, e7 = s5.e := ⟨_, rfl⟩
              rw [← he7] at hs5 k4
              have hed : ((e7 : Int) == 0) = false := by simp; omega
              clear he7 hL
              go_wp2_with fail
              go_loopg [11] 1 (fun q zi wr => zi = .int .i64 0 ∧ wr = w5)
              case atStart => exact ⟨rfl, rfl⟩
              case round =>
                obtain ⟨rfl, rfl⟩ := hrel
                go_wp2_with fail
                all_goals
                  go_end0
                  rw [HE.out]
                  exact ⟨⟨_, rfl⟩, HR5.out, HK5.out⟩
        · have HE : Hid (copies5 ls most dist s y = s3) := hid (by rw [HF.out s3 (by rw [if_neg (fun h => hs3 h.1)]), if_pos hs3])
          obtain ⟨e7, he7⟩ : ∃ e7, e7 = s3.e := ⟨_, rfl⟩
          rw [← he7] at hs3 k4'
          have hed : ((e7 : Int) == 0) = false := by simp; omega
          have hed2 : ((e7 : Int) != 0) = true := by simp; omega
          clear he7
          go_wp2_with fail
          refine bodyPost_ret (results_none rfl _ _ _) rfl ?_
          rw [HE.out]
          exact ⟨⟨_, rfl⟩, HR3.out, HK3.out⟩
    · have Y1 := sym5 w1 w0 I G h v ls most s1 53 go dist.length dist rs HZ.out HR1.out HW1.out rfl HA.out.1 HA.out.2
      rw [sy_stuck hs1] at Y1
      have HE : Hid (copies5 ls most dist s y = s1) := hid (by
        rw [copies5_far ls most dist s y HY.out n s1 s1 s1 s1 0 E1.out (by rw [if_neg (fun h => hs1 h.1)]) (sy_stuck hs1) (by rw [if_neg (fun h => hs1 h.1)])]
        rw [if_pos hs1])
      obtain ⟨e7, he7⟩ : ∃ e7, e7 = s1.e := ⟨_, rfl⟩
      have HE7 : Hid (e7 = s1.e) := he7
      rw [← he7] at hs1 k4
      have hed : ((e7 : Int) == 0) = false := by simp; omega
      have hed2 : ((e7 : Int) != 0) = true := by simp; omega
      clear he7
      go_wp2_with fail
      refine Y1.mono ?_
      rintro r3 w3 ⟨rfl, hr3, hk3⟩
      obtain ⟨k4', f4'⟩ := hr3.err
      have HR3 : Hid (RX w3 I G h v ls most s1) := hr3
      have HK3 : Hid (KG G w w3) := hid (HK1.out.trans hk3)
      rw [← HE7.out] at k4'
      clear hr3 hk3 Y1
      go_wp2_with fail
      refine bodyPost_ret (results_none rfl _ _ _) rfl ?_
      rw [HE.out]
      exact ⟨⟨_, rfl⟩, HR3.out, HK3.out⟩

end Go.Proofs.YtggcbnhckcenmaaGreatDoor
