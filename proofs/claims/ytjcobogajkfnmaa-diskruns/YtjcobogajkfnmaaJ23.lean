/-
  Of the proof: parts DmP, DmQ, DmR, DmS, DmT, DmU, DmV, DmW, DmX, DlRuns.
-/
import Derived.Maps.AppendAt
import Derived.Test.YtjcobogajkfnmaaJ22
import Derived.Test.YtjcobogajkfnmaaJ21
import Derived.Test.YtjcobogajkfnmaaJ15

/-
  Layer 9: the reference's Create; a file of the reference set anew.
-/
namespace Go.Proofs.Ytjcobogajkfnmaa
open Go.RowKit Go.Maps

theorem wpList_append_b {α : Type} {ops : Array Oper} {rest : List Oper} {o : Oper} {a : Act} {Q : Exit → Act → World → Prop} (w : World) (enc : α → List Value) (k : Nat) (ok : EncOk enc k) (B sT eT : Nat) (z : Value) (bytes : Nat)
    (hU : Try.prog.underlying sT = some (.slice eT)) (hI : (Try.prog.info? eT).map (fun i => (i.zero, i.size, i.bytes)) = some (some z, k, bytes)) (hz : z.cells.size = k) (hby : bytes ≤ 1000) (hgd : o.guard = none) (s x : Operand)
    (ho : o.op = .call { callee := .builtin .append, args := #[s, x], argTypes := #[sT, sT] })
    (v : Value) (xs : List α) (hs : a.eval s = v) (hrow : RowC B eT k enc w v xs) (ad : Addr) (m c : Nat) (cs : List α) (hx : a.eval x = .slice (some ad) m c) (hm : cs.length = m) (hcs : CellsAt w ad (cs.flatMap enc)) (hlen : xs.length + cs.length ≤ 1000000000) (hB : B ≤ w.heap.size)
    (h : ∀ v' w', RowC B eT k enc w' v' (xs ++ cs) → w.grownBy w' v.ownBlock → (∀ j, v'.ownBlock = some j → v.ownBlock = some j ∨ w.heap.size ≤ j) → wpList Try.prog ops Q rest (a.put o.dst v') w') : wpList Try.prog ops Q (o :: rest) a w := by
  subst hm
  obtain ⟨i0, hi, hz0, hz1, hz2⟩ := info_parts hI
  have hmul : (xs.length + cs.length) * bytes ≤ 1000000000 * 1000 := Nat.mul_le_mul hlen hby
  refine wpList_append_own_at w hgd s x sT ho B eT i0 z k bytes hU hi hz0 hz1 hz2 hz ok.pos v xs.length (xs.flatMap enc) hs hrow ad cs.length c (cs.flatMap enc) hx (flat_length ok cs) hcs (flat_one ok cs) (by simp only [maxLen]; omega) (by omega) hB ?_
  intro v' w' h1 h2 _ h4
  refine h v' w' ?_ h2 (fun j e => ?_)
  · unfold RowC
    rw [List.length_append, List.flatMap_append]
    exact h1
  · rcases h4 with h5 | h5
    · exact .inl (by rw [← h5]; exact e)
    · rw [h5] at e
      simp only [Option.some.injEq] at e
      exact .inr (by omega)

theorem Try.infoFv9 : (Try.prog.info? 80).map (fun i => (i.zero, i.size, i.bytes)) = some (some (.agg #[.slice none 0 0, .int .i64 0]), 2, 32) := by kernel_rfl

theorem cellsAt_fv0 (w : World) : CellsAt (w.alloc (.cells #[.slice none 0 0, .int .i64 0] 80)) ⟨w.heap.size, 0, none⟩ ([fv0].flatMap fvE) := by
  intro j u hj
  match j, hj with
  | 0, hj => simp [fvE, fv0] at hj; subst hj; simp [addAt]
  | 1, hj => simp [fvE, fv0] at hj; subst hj; simp [addAt]
  | j + 2, hj => simp [fvE, fv0] at hj

theorem rcV_new {t : ByteArray} (f : Nat) (ht : t.size ≠ 0) : rcV ⟨⟨#[]⟩, t, f⟩ = .agg #[.int .i64 1, .string ⟨#[]⟩, .string t, .int .i64 (f : Nat)] := by
  unfold rcV kdN
  dsimp only
  rw [if_neg ht]
  rfl

theorem nam9_ne {t : ByteArray} (hn : nam9 t = true) : t.size ≠ 0 := by
  unfold nam9 at hn
  simp at hn
  omega

section
variable {N : Nat} {w : World} {r : Nat} {s : Ds} {F : List Fv} {ρ : Rho} {fv nv sv cv : Value}

set_option maxRecDepth 100000 in
set_option maxHeartbeats 1000000 in
theorem rcreate_any (h : Rf N w r s F ρ fv nv sv cv) (hst : s.steps ≤ 1000000) (hN : N ≤ w.heap.size) (hF : F.length ≤ s.steps) (t : ByteArray) (ht : t.size ≤ 100000000) :
    Calls Try.prog 42 #[.pointer (some ⟨r, 0, none⟩), .string t] w fun e w' => RStp N w r ρ (creS s t F.length) e w' := by
  have HDN := rdown_any w r s.left (h.blk.cell 6)
  by_cases hl : s.left = 0
  · rw [show (s.left == 0) = true by simp [hl]] at HDN
    have HR : Hid (creS s t F.length = .error 94) := hid (if_pos hl)
    clear h hl
    go_enter Try.func42, Try.ntmps42
    go_wp2_with fail
    refine HDN.mono ?_
    rintro e w1 ⟨rfl, hw1⟩
    subst hw1
    clear HDN
    go_wp2_with fail
    go_ret
    exact ⟨fun k e => (by rw [HR.out] at e; cases e; exact ⟨rfl, Kept.refl _ _⟩), fun s' e => (by rw [HR.out] at e; cases e)⟩
  rw [show (s.left == 0) = false by simp [hl]] at HDN
  have HNA := rname9_any w t ht
  cases hn : nam9 t with
  | false =>
    rw [hn] at HNA
    have HR : Hid (creS s t F.length = .error 90) := hid (by unfold creS; rw [if_neg hl, if_pos hn])
    clear h hl hn
    go_enter Try.func42, Try.ntmps42
    go_wp2_with fail
    refine HDN.mono ?_
    rintro e w1 ⟨rfl, hw1⟩
    subst hw1
    clear HDN
    go_wp2_with fail
    refine HNA.mono ?_
    rintro e w2 ⟨rfl, hw2⟩
    subst hw2
    clear HNA
    go_wp2_with fail
    go_ret
    exact ⟨fun k e => (by rw [HR.out] at e; cases e; exact ⟨rfl, Kept.refl _ _⟩), fun s' e => (by rw [HR.out] at e; cases e)⟩
  | true =>
  rw [hn] at HNA
  have hn' : ¬ nam9 t = false := by rw [hn]; decide
  have HF := rfind_any w N nv s.names h.now (by have := h.lens; omega) t
  obtain ⟨a2, q2, hnv, _⟩ := h.now.shape
  obtain ⟨n2, hn2⟩ : ∃ n, n = s.names.length := ⟨_, rfl⟩
  rw [← hn2] at hnv
  subst hnv
  have r2 : w.cell? ⟨r, 2, none⟩ = some (.slice a2 n2 q2) := h.blk.cell 2
  cases hf : fixN t s.names 0 with
  | some k =>
    rw [hf] at HF
    unfold fixI at HF
    dsimp only at HF
    have HR : Hid (creS s t F.length = .error 91) := hid (by unfold creS; rw [if_neg hl, if_neg hn']; obtain ⟨_, _, h9⟩ := fixN_some hf; rw [h9]; rfl)
    have b1 : decide ((k : Int) ≥ 0) = true := by simp
    have b2 : decide ((0 : Int) ≤ (k : Int)) = true := by simp
    clear h hl hn hn' hf hn2
    go_enter Try.func42, Try.ntmps42
    go_wp2_with fail
    refine HDN.mono ?_
    rintro e w1 ⟨rfl, hw1⟩
    subst hw1
    clear HDN
    go_wp2_with fail
    refine HNA.mono ?_
    rintro e w2 ⟨rfl, hw2⟩
    subst hw2
    clear HNA
    go_wp2_with fail
    refine HF.mono ?_
    rintro e w3 ⟨rfl, hw3⟩
    subst hw3
    clear HF
    go_wp2_with fail
    go_ret
    exact ⟨fun k e => (by rw [HR.out] at e; cases e; exact ⟨rfl, Kept.refl _ _⟩), fun s' e => (by rw [HR.out] at e; cases e)⟩
  | none =>
  rw [hf] at HF
  unfold fixI at HF
  dsimp only at HF
  have hgn := fixN_none hf
  by_cases h64 : 64 ≤ s.names.length
  · have HR : Hid (creS s t F.length = .error 95) := hid (by unfold creS; rw [if_neg hl, if_neg hn', hgn, if_neg (by decide), if_pos h64])
    have b1 : decide ((n2 : Int) ≥ 64) = true := by simp; omega
    have b2 : decide ((64 : Int) ≤ (n2 : Int)) = true := by simp; omega
    have b3 : decide (64 ≤ n2) = true := by simp; omega
    clear h hl hn hn' hf hn2 hgn h64
    go_enter Try.func42, Try.ntmps42
    go_wp2_with fail
    refine HDN.mono ?_
    rintro e w1 ⟨rfl, hw1⟩
    subst hw1
    clear HDN
    go_wp2_with fail
    refine HNA.mono ?_
    rintro e w2 ⟨rfl, hw2⟩
    subst hw2
    clear HNA
    go_wp2_with fail
    refine HF.mono ?_
    rintro e w3 ⟨rfl, hw3⟩
    subst hw3
    clear HF
    go_wp2_with fail
    go_ret
    exact ⟨fun k e => (by rw [HR.out] at e; cases e; exact ⟨rfl, Kept.refl _ _⟩), fun s' e => (by rw [HR.out] at e; cases e)⟩
  have HR : Hid (creS s t F.length = .ok (chgS { s with fl := updF s.fl F.length ⟨[], 0⟩ } ⟨⟨#[]⟩, t, F.length⟩) ∧ nam9 t = true) := hid ⟨by unfold creS; rw [if_neg hl, if_neg hn', hgn, if_neg (by decide), if_neg h64], hn⟩
  have b1 : decide ((n2 : Int) ≥ 64) = false := by simp; omega
  have b2 : decide ((64 : Int) ≤ (n2 : Int)) = false := by simp; omega
  have b3 : decide (64 ≤ n2) = false := by simp; omega
  have HD : Hid (Rf N w r s F ρ fv (.slice a2 n2 q2) sv cv) := h
  have HQ : Hid (s.steps ≤ 1000000 ∧ N ≤ w.heap.size ∧ s.left ≠ 0 ∧ F.length ≤ s.steps) := hid ⟨hst, hN, hl, hF⟩
  obtain ⟨a1, q1, hfv, _⟩ := h.fil.shape
  obtain ⟨n1, hn1⟩ : ∃ n, n = F.length := ⟨_, rfl⟩
  rw [← hn1] at hfv
  subst hfv
  have HN1 : Hid (n1 = F.length) := hn1
  have r1 : w.cell? ⟨r, 1, none⟩ = some (.slice a1 n1 q1) := h.blk.cell 1
  have HOD : Hid (∀ k, (Value.slice a1 n1 q1).ownBlock = some k → k ≠ r) := hid (fun k e e2 => by have e3 := h.rf k e; rw [e2, h.rb] at e3; cases e3)
  have hsm : Same w (w.alloc (.cells #[.slice none 0 0, .int .i64 0] 80)) := (Kept.refl _ _).alloc _
  have HFA : Hid (RowC N 80 2 fvE (w.alloc (.cells #[.slice none 0 0, .int .i64 0] 80)) (.slice a1 n1 q1) F ∧ Same w (w.alloc (.cells #[.slice none 0 0, .int .i64 0] 80))) := hid ⟨h.fil.kept hsm (fun _ _ f => f), hsm⟩
  clear h hl hn hn' hf hn2 hgn h64 hst hN hF hsm hn1
  go_enter Try.func42, Try.ntmps42
  go_wp2_with fail
  refine HDN.mono ?_
  rintro e w1 ⟨rfl, hw1⟩
  subst hw1
  clear HDN
  go_wp2_with fail
  refine HNA.mono ?_
  rintro e w2 ⟨rfl, hw2⟩
  subst hw2
  clear HNA
  go_wp2_with fail
  refine HF.mono ?_
  rintro e w3 ⟨rfl, hw3⟩
  subst hw3
  clear HF
  go_wp2_with (at_builtin; refine wpList_append_b _ fvE 2 fvE_ok N 63 80 (.agg #[.slice none 0 0, .int .i64 0]) 32 Try.underlying63 Try.infoFv9 rfl (by decide) rfl (.tmp 31) (.tmp 33) rfl (.slice a1 n1 q1) F rfl HFA.out.1 ⟨w3.heap.size, 0, none⟩ 1 1 [fv0] rfl rfl (cellsAt_fv0 _) (by have := HQ.out; simp; omega) (by have := HQ.out; simp; omega) ?_)
  intro v5 w5 hr5 hg5 hb5
  have hk5 : Kept (fun k => (Value.slice a1 n1 q1).ownBlock = some k) w3 w5 := Kept.trans HFA.out.2 ((Kept.refl _ _).grown hg5 (fun k e => .inl e)) (fun _ _ f => f.elim) (fun _ _ e => e)
  have hB5 := HD.out.blk.kept hk5 (fun e => HOD.out r e rfl)
  have z5 := hB5.frozen 1
  have d5 := hB5.cell 1
  simp at d5
  obtain ⟨a6, n6, q6, e6, en6⟩ : ∃ a n q, v5 = Value.slice a n q ∧ n = F.length + 1 := (by obtain ⟨a, q, e, _⟩ := hr5.shape; exact ⟨a, _, q, e, by simp⟩)
  subst e6
  have HN6 : Hid (n6 = F.length + 1) := en6
  obtain ⟨w6, hw6⟩ : ∃ W, W = w5.setCell ⟨r, 1, none⟩ (.slice a6 n6 q6) := ⟨_, rfl⟩
  have hk6 : Kept (· = r) w5 w6 := by rw [hw6]; exact (Kept.refl (· = r) w5).setCell _ _ (.inl rfl)
  have hB6 : Blk w6 r #[.int .i64 (s.room : Nat), .slice a6 n6 q6, .slice a2 n2 q2, sv, cv, .int .i64 (s.steps : Nat), .int .i64 s.left] 67 := by
    rw [hw6]
    have h9 := hB5.set 1 (.slice a6 n6 q6)
    simpa using h9
  obtain ⟨ρ', hR6, hM6, hK6, hO6⟩ := HD.out.addFile HQ.out.2.2.2 hk5 hr5 (fun j e => (hb5 j e).imp id (fun h => Nat.le_trans (by simp) h)) hk6 hB6
  have HC := rchange_any hR6 HQ.out.1 (by have := HQ.out.2.1; have := hK6.size; omega) HQ.out.2.2.1 ⟨⟨#[]⟩, t, F.length⟩ (.inl (by simp))
  rw [rcV_new _ (nam9_ne HR.out.2)] at HC
  have H6 : Hid (Kept (fun k => ρ k ≠ 0 ∧ ρ k ≠ 9) w3 w6 ∧ MoR w3 ρ ρ' ∧ (∀ k, ρ k ≠ 0 → ρ' k = ρ k) ∧ w3.heap.size ≤ w6.heap.size ∧ ∀ k, ρ k ≠ 0 → k < w3.heap.size) := hid ⟨hK6, hM6, hO6, hK6.size, fun k e => (HD.out.new k e).2⟩
  have d6 : w6.cell? ⟨r, 1, none⟩ = some (.slice a6 n6 q6) := hB6.cell 1
  have hsb : IntKind.i64.wrap ((n6 : Int) - 1) = ((n1 : Nat) : Int) := by rw [IntKind.wrap_i64]; have := HN6.out; have := HN1.out; have := HQ.out; omega
  rw [← HN1.out] at HC
  clear hr5 hg5 hb5 hk5 hB5 hk6 hB6 hR6 hM6 hK6 hO6 en6 r1 r2 b1 b2 b3
  go_wp2_with fail
  rw [← hw6]
  clear hw6 z5 d5
  go_wp2_with fail
  refine HC.mono ?_
  rintro e w7 ⟨rfl, ρ7, h1, h2, h3⟩
  have H7 := hid (And.intro h1 (And.intro h2 h3))
  clear HC h1 h2 h3
  go_wp2_with fail
  go_ret
  refine ⟨fun k e => (by rw [HR.out.1] at e; cases e), fun s' e => ?_⟩
  rw [HR.out.1] at e
  cases e
  have h9 := H7.out.1
  rw [HN1.out] at h9
  refine ⟨rfl, _, ρ7, h9, H6.out.2.1.trans H7.out.2.1 H6.out.2.2.2.1, ?_⟩
  refine Kept.trans H6.out.1 H7.out.2.2 (fun _ _ e => e) (fun k hk e => ?_)
  rcases H6.out.2.1 k with h8 | h8 | h8
  · exact absurd h8 e.1
  · rw [h8] at e; exact e
  · omega

end

end Go.Proofs.Ytjcobogajkfnmaa

/-
  Layer 9: a file of the reference set anew; Sync.
-/
namespace Go.Proofs.Ytjcobogajkfnmaa
open Go.RowKit Go.Maps

theorem flat_setB : ∀ (xs : List Fv) (i : Nat) (a : Option Addr) (n c : Nat) (bs : List Nat) (hi : i < xs.length), (xs.flatMap fvE).set (i * 2) (.slice a n c) = (xs.set i ⟨a, n, c, bs, xs[i].safe⟩).flatMap fvE
  | [], i, _, _, _, _, hi => by simp at hi
  | x :: xs, 0, a, n, c, bs, _ => by simp [fvE]
  | x :: xs, i + 1, a, n, c, bs, hi => by
    have h1 := flat_setB xs i a n c bs (by simp at hi; omega)
    rw [List.flatMap_cons, List.set_cons_succ, List.flatMap_cons, List.getElem_cons_succ, ← h1]
    have e : (i + 1) * 2 = (i * 2) + 1 + 1 := by omega
    rw [e]
    rfl

theorem flat_setS : ∀ (xs : List Fv) (i m : Nat) (hi : i < xs.length), (xs.flatMap fvE).set (i * 2 + 1) (.int .i64 (m : Nat)) = (xs.set i { xs[i] with safe := m }).flatMap fvE
  | [], i, _, hi => by simp at hi
  | x :: xs, 0, m, _ => by simp [fvE]
  | x :: xs, i + 1, m, hi => by
    have h1 := flat_setS xs i m (by simp at hi; omega)
    rw [List.flatMap_cons, List.set_cons_succ, List.flatMap_cons, List.getElem_cons_succ, ← h1]
    have e : (i + 1) * 2 + 1 = (i * 2 + 1) + 1 + 1 := by omega
    rw [e]
    rfl

section
variable {B : Nat} {w : World} {g n cap : Nat} {xs : List Fv}

theorem RowC.setB (h : RowC B 80 2 fvE w (.slice (some ⟨g, 0, none⟩) n cap) xs) (i : Nat) (a : Option Addr) (n' c : Nat) (bs : List Nat) (hi : i < xs.length) :
    RowC B 80 2 fvE (w.setCell ⟨g, i * 2, none⟩ (.slice a n' c)) (.slice (some ⟨g, 0, none⟩) n cap) (xs.set i ⟨a, n', c, bs, xs[i].safe⟩) := by
  have hl := h.len
  subst hl
  have h1 := (World.ownsRow.stored h (i * 2) (.slice a n' c)).1
  rw [flat_setB xs i a n' c bs hi] at h1
  unfold RowC
  rw [List.length_set]
  exact h1

theorem RowC.setS (h : RowC B 80 2 fvE w (.slice (some ⟨g, 0, none⟩) n cap) xs) (i m : Nat) (hi : i < xs.length) :
    RowC B 80 2 fvE (w.setCell ⟨g, i * 2 + 1, none⟩ (.int .i64 (m : Nat))) (.slice (some ⟨g, 0, none⟩) n cap) (xs.set i { xs[i] with safe := m }) := by
  have hl := h.len
  subst hl
  have h1 := (World.ownsRow.stored h (i * 2 + 1) (.int .i64 (m : Nat))).1
  rw [flat_setS xs i m hi] at h1
  unfold RowC
  rw [List.length_set]
  exact h1

end

section
variable {N : Nat} {w : World} {r : Nat} {s : Ds} {F : List Fv} {ρ : Rho} {fv nv sv cv : Value}

/-- One file set anew. -/
theorem Rf.setFile (h : Rf N w r s F ρ fv nv sv cv) {k : Nat} {x : Fv} {w' : World} {ρ' : Rho} (hk : k < F.length) (kw : Kept (fun j => fv.ownBlock = some j) w w') (hr : RowC N 80 2 fvE w' fv (F.set k x)) (hx : FvOk w' ρ' s.room x)
    (hρ : ∀ j, ρ' j = ρ j ∨ (ρ j = 0 ∧ ρ' j = 9 ∧ N ≤ j ∧ j < w'.heap.size)) :
    Rf N w' r { s with fl := updF s.fl k ⟨x.bs, x.safe⟩ } (F.set k x) ρ' fv nv sv cv := by
  have hne : ∀ j, ρ j ≠ 0 → ρ' j = ρ j := fun j e => by
    rcases hρ j with h1 | h1
    · exact h1
    · exact absurd h1.1 e
  have hn : ∀ j, ρ j ≠ 2 → ¬ fv.ownBlock = some j := fun j e e2 => e (h.rf j e2)
  refine ⟨h.blk.kept kw (hn r (by rw [h.rb]; decide)), hr, h.now.kept kw (fun j e => hn j (by rw [h.rn j e]; decide)), h.saf.kept kw (fun j e => hn j (by rw [h.rs j e]; decide)), h.chg.kept kw (fun j e => hn j (by rw [h.rc j e]; decide)), fun j y e => ?_, fun p hp => ?_, fun p hp => ?_, fun c hc => ?_, ?_, fun j e => ?_, fun j e => ?_, fun j e => ?_, fun j e => ?_, fun j e => ?_, h.room, ?_, h.left, h.ne⟩
  · by_cases ej : j = k
    · subst ej
      rw [List.getElem?_set_self hk] at e
      simp only [Option.some.injEq] at e
      subst e
      exact ⟨if_pos rfl, hx⟩
    · rw [List.getElem?_set_ne (fun e => ej e.symm)] at e
      obtain ⟨h1, h2⟩ := h.fl j y e
      refine ⟨?_, (h2.src.kept kw (fun i e9 _ => hn i (by rw [e9]; decide))).mono (fun i e9 => by rw [hne i (by rw [e9]; decide)]; exact e9), h2.len, h2.nil, h2.cap, h2.safe, h2.byte, h2.room⟩
      show updF s.fl k _ j = _
      rw [← h1]
      exact if_neg ej
  · rw [List.length_set]; exact h.nmf p hp
  · rw [List.length_set]; exact h.sff p hp
  · rw [List.length_set]; exact h.chf c hc
  · rw [hne r (by rw [h.rb]; decide)]; exact h.rb
  · rw [hne j (by rw [h.rf j e]; decide)]; exact h.rf j e
  · rw [hne j (by rw [h.rn j e]; decide)]; exact h.rn j e
  · rw [hne j (by rw [h.rs j e]; decide)]; exact h.rs j e
  · rw [hne j (by rw [h.rc j e]; decide)]; exact h.rc j e
  · rcases hρ j with h1 | h1
    · have := h.new j (by rw [← h1]; exact e); have := kw.size; omega
    · exact h1.2.2
  · rw [List.length_set]; exact h.lens

/-- A file's cells. -/
theorem Rf.filAt (h : Rf N w r s F ρ fv nv sv cv) (i : Nat) (hi : i < F.length) : ∃ g cap, fv = .slice (some ⟨g, 0, none⟩) F.length cap ∧ w.cell? ⟨g, i * 2, none⟩ = some (.slice F[i].a F[i].n F[i].c) ∧ w.cell? ⟨g, i * 2 + 1, none⟩ = some (.int .i64 (F[i].safe : Nat)) ∧ RowC N 80 2 fvE w (.slice (some ⟨g, 0, none⟩) F.length cap) F ∧ ρ g = 2 := by
  obtain ⟨ao, cap, hv, hg, _⟩ := h.fil.shape
  obtain ⟨g, rfl⟩ := hg (fun e => by rw [e] at hi; simp at hi)
  have h2 := h.fil
  have h3 := h.rf g (by rw [hv]; rfl)
  rw [hv] at h2
  exact ⟨g, cap, hv, h2.cell fvE_ok i 0 hi (by decide), h2.cell fvE_ok i 1 hi (by decide), h2, h3⟩

set_option maxRecDepth 100000 in
set_option maxHeartbeats 800000 in
theorem rsync_any (h : Rf N w r s F ρ fv nv sv cv) (hst : s.steps ≤ 1000000) (hF : F.length ≤ s.steps) (t : ByteArray) :
    Calls Try.prog 46 #[.pointer (some ⟨r, 0, none⟩), .string t] w fun e w' => RStp N w r ρ (synS s t) e w' := by
  have HDN := rdown_any w r s.left (h.blk.cell 6)
  by_cases hl : s.left = 0
  · rw [show (s.left == 0) = true by simp [hl]] at HDN
    have HR : Hid (synS s t = .error 94) := hid (if_pos hl)
    clear h hl
    go_enter Try.func46, Try.ntmps46
    go_wp2_with fail
    refine HDN.mono ?_
    rintro e w1 ⟨rfl, hw1⟩
    subst hw1
    clear HDN
    go_wp2_with fail
    go_ret
    exact ⟨fun k e => (by rw [HR.out] at e; cases e; exact ⟨rfl, Kept.refl _ _⟩), fun s' e => (by rw [HR.out] at e; cases e)⟩
  rw [show (s.left == 0) = false by simp [hl]] at HDN
  have HF := rfile_any h hst t
  cases hg : getN t s.names with
  | none =>
    rw [hg] at HF
    have HR : Hid (synS s t = .error 92) := hid (by unfold synS; rw [if_neg hl, hg])
    unfold fixI at HF
    clear h hl hg
    go_enter Try.func46, Try.ntmps46
    go_wp2_with fail
    refine HDN.mono ?_
    rintro e w1 ⟨rfl, hw1⟩
    subst hw1
    clear HDN
    go_wp2_with fail
    refine HF.mono ?_
    rintro e w2 ⟨rfl, hw2⟩
    subst hw2
    clear HF
    go_wp2_with fail
    go_ret
    exact ⟨fun k e => (by rw [HR.out] at e; cases e; exact ⟨rfl, Kept.refl _ _⟩), fun s' e => (by rw [HR.out] at e; cases e)⟩
  | some f =>
    rw [hg] at HF
    unfold fixI at HF
    dsimp only at HF
    have b1 : decide ((f : Int) < 0) = false := by simp
    have b1' : decide (f < 0) = false := by simp
    have hf : f < F.length := h.nmf _ (getN_mem hg)
    obtain ⟨hfl, hok⟩ := h.fl f F[f] (List.getElem?_eq_getElem hf)
    obtain ⟨g, q1, hfv, k0, k1, hrow, hρg⟩ := h.filAt f hf
    have HR : Hid (synS s t = .ok (stepS { s with fl := updF s.fl f ⟨(s.fl f).bs, (s.fl f).bs.length⟩ })) := hid (by unfold synS; rw [if_neg hl, hg])
    obtain ⟨x, hx⟩ : ∃ x, x = F[f] := ⟨_, rfl⟩
    obtain ⟨w1, hw1⟩ : ∃ W, W = w.setCell ⟨g, f * 2 + 1, none⟩ (.int .i64 (x.n : Nat)) := ⟨_, rfl⟩
    have hk1 : Kept (fun j => fv.ownBlock = some j) w w1 := by rw [hw1, hfv]; exact (Kept.refl _ w).setCell _ _ (.inl rfl)
    have hr1 : RowC N 80 2 fvE w1 fv (F.set f { x with safe := x.n }) := by rw [hw1, hfv, hx]; exact hrow.setS f _ hf
    have hx1 : FvOk w1 ρ s.room { x with safe := x.n } := by
      rw [hx]
      exact ⟨hok.src.kept hk1 (fun j i _ e => by have := h.rf j e; rw [i] at this; cases this), hok.len, hok.nil, hok.cap, Nat.le_refl _, hok.byte, hok.room⟩
    have hS := h.setFile hf hk1 hr1 hx1 (fun j => .inl rfl)
    have hS2 : Rf N w1 r { s with fl := updF s.fl f ⟨(s.fl f).bs, (s.fl f).bs.length⟩ } (F.set f { x with safe := x.n }) ρ fv nv sv cv := by
      rw [hfl, hok.len]
      rw [hx] at hS ⊢
      exact hS
    have HS := rstep_any (hS2.same (show Same w1 w1.drew from (Kept.refl _ _).drew)) hst hl
    have r1 : w.cell? ⟨r, 1, none⟩ = some fv := h.blk.cell 1
    rw [hfv] at r1
    rw [← hx] at k0 k1
    obtain ⟨n1, hn1⟩ : ∃ n, n = F.length := ⟨_, rfl⟩
    rw [← hn1] at r1
    have i1 : (0 : Int) ≤ (f : Int) := by omega
    have i2 : (f : Int) < (n1 : Int) := by omega
    have z1 : w.frozen? ⟨g, f * 2 + 1, none⟩ = false := hrow.frozen _
    have HK : Hid (Kept (fun k => ρ k ≠ 0 ∧ ρ k ≠ 9) w w1 ∧ ρ r = 1 ∧ (F.set f { x with safe := x.n }).length ≤ s.steps + 1) := hid ⟨hk1.mono (fun k _ e => by rw [h.rf k e]; decide), h.rb, by rw [List.length_set]; omega⟩
    obtain ⟨xa, hxa⟩ : ∃ a, a = x.a := ⟨_, rfl⟩
    obtain ⟨xn, hxn⟩ : ∃ a, a = x.n := ⟨_, rfl⟩
    obtain ⟨xc, hxc⟩ : ∃ a, a = x.c := ⟨_, rfl⟩
    rw [← hxa, ← hxn, ← hxc] at k0
    rw [← hxn] at hw1
    clear h hl hg hst hF hfl hok hrow hρg hk1 hr1 hx1 hS hS2 hn1 hfv hx hf hxa hxn hxc
    go_enter Try.func46, Try.ntmps46
    go_wp2_with fail
    refine HDN.mono ?_
    rintro e w2 ⟨rfl, hw2⟩
    subst hw2
    clear HDN
    go_wp2_with fail
    refine HF.mono ?_
    rintro e w3 ⟨rfl, hw3⟩
    subst hw3
    clear HF
    go_wp2_with fail
    go_region
    all_goals
      rw [← hw1]
      clear hw1 k0 k1 r1 z1
      go_wp2_with fail
      refine HS.mono ?_
      rintro e w4 ⟨rfl, hR4, k4⟩
      have H4 := hid (And.intro hR4 (Kept.undrew9 k4))
      clear HS hR4 k4
      go_wp2_with fail
      go_ret
      refine ⟨fun k e => (by rw [HR.out] at e; cases e), fun s' e => ?_⟩
      rw [HR.out] at e
      cases e
      exact ⟨rfl, _, ρ, ⟨_, _, _, _, H4.out.1, HK.out.2.2⟩, MoR.refl _ _, Kept.trans HK.out.1 H4.out.2 (fun _ _ e => e) (fun k _ e => by rw [e, HK.out.2.1]; decide)⟩

end

end Go.Proofs.Ytjcobogajkfnmaa

/-
  Layer 9: the reference's Append.
-/
namespace Go.Proofs.Ytjcobogajkfnmaa
open Go.RowKit Go.Maps

theorem Row.nilB {w : World} {a : Option Addr} {n0 c0 : Nat} {bs : List Nat} (h : Row w (.slice a n0 c0) bs) : ∀ n c, Value.slice a n0 c0 = .slice none n c → n = 0 ∧ c = 0 := by
  intro n c e
  rcases h.2 with ⟨e9, h9⟩ | ⟨g, cp, cu, e9, _⟩
  · simp only [Value.slice.injEq] at e e9; omega
  · simp only [Value.slice.injEq] at e e9; rw [e9.1] at e; cases e.1

theorem Row.capB {w : World} {a : Option Addr} {n c : Nat} {bs : List Nat} (h : Row w (.slice a n c) bs) : n ≤ c := by
  rcases h.2 with ⟨e, _⟩ | ⟨g, cp, cu, e, _, _, h1, _⟩
  · simp only [Value.slice.injEq] at e; omega
  · simp only [Value.slice.injEq] at e; omega

theorem Row.lenB {w : World} {a : Option Addr} {n c : Nat} {bs : List Nat} (h : Row w (.slice a n c) bs) : bs.length = n := by
  obtain ⟨ao, cap, e, _⟩ := h.shape
  simp only [Value.slice.injEq] at e
  exact e.2.1.symm

section
variable {N : Nat} {w : World} {r : Nat} {s : Ds} {F : List Fv} {ρ : Rho} {fv nv sv cv : Value}

/-- A file whose bytes are a new row. -/
theorem Rf.newRow (h : Rf N w r s F ρ fv nv sv cv) (hN : N ≤ w.heap.size) {k : Nat} (hk : k < F.length) {w5 w' : World} {a : Option Addr} {n c : Nat} {bs : List Nat} {sf : Nat} (k5 : Same w w5) (hr5 : Row w5 (.slice a n c) bs) (hn5 : ∀ j, (Value.slice a n c).ownBlock = some j → w.heap.size ≤ j)
    (k6 : Kept (fun j => fv.ownBlock = some j) w5 w') (hr : RowC N 80 2 fvE w' fv (F.set k ⟨a, n, c, bs, sf⟩)) (hsf : sf ≤ n) (hby : ∀ b ∈ bs, b < 256) (hrm : n ≤ s.room) :
    Rf N w' r { s with fl := updF s.fl k ⟨bs, sf⟩ } (F.set k ⟨a, n, c, bs, sf⟩) (giveR ρ (.slice a n c) 9) fv nv sv cv ∧ MoR w ρ (giveR ρ (.slice a n c) 9) ∧ Kept (fun k => ρ k ≠ 0 ∧ ρ k ≠ 9) w w' := by
  have hfo : ∀ j, fv.ownBlock = some j → j < w.heap.size := fun j e => (h.new j (by rw [h.rf j e]; decide)).2
  have kw : Kept (fun j => fv.ownBlock = some j) w w' := Kept.trans k5 k6 (fun _ _ f => f.elim) (fun _ _ e => e)
  have hr9 : Row w' (.slice a n c) bs := hr5.kept k6 (fun j e e2 => by have := hn5 j e; have := hfo j e2; omega)
  refine ⟨h.setFile hk kw hr ⟨(Src.ofRow hr9).mono (fun j e => giveR_new e), hr9.lenB, hr9.nilB, hr9.capB, hsf, hby, hrm⟩ (fun j => ?_), fun j => ?_, kw.mono (fun j _ e => by rw [h.rf j e]; decide)⟩
  · by_cases e : (Value.slice a n c).ownBlock = some j
    · have h1 := hn5 j e
      exact .inr ⟨Classical.byContradiction (fun e9 => by have := (h.new j e9).2; omega), giveR_new e, by omega, hr9.lt e⟩
    · exact .inl (giveR_old e)
  · by_cases e : (Value.slice a n c).ownBlock = some j
    · exact .inr (.inr (hn5 j e))
    · exact .inr (.inl (giveR_old e))

set_option maxRecDepth 100000 in
set_option maxHeartbeats 1000000 in
theorem rappend_any (h : Rf N w r s F ρ fv nv sv cv) (hst : s.steps ≤ 1000000) (hN : N ≤ w.heap.size) (hF : F.length ≤ s.steps) (t : ByteArray) (I : Nat → Prop) (xv : Value) (cs : List Nat) (hsrc : Src w I xv cs) (hnil : ∀ n c, xv = .slice none n c → n = 0 ∧ c = 0) (hcs : cs.length ≤ 1000000000) (hb256 : ∀ b ∈ cs, b < 256) :
    Calls Try.prog 45 #[.pointer (some ⟨r, 0, none⟩), .string t, xv] w fun e w' => RStp N w r ρ (appS s t cs) e w' := by
  have HDN := rdown_any w r s.left (h.blk.cell 6)
  obtain ⟨ao, cap, rfl, hc⟩ := id hsrc
  by_cases hl : s.left = 0
  · rw [show (s.left == 0) = true by simp [hl]] at HDN
    have HR : Hid (appS s t cs = .error 94) := hid (if_pos hl)
    clear h hl hc hsrc hnil
    go_enter Try.func45, Try.ntmps45
    go_wp2_with fail
    refine HDN.mono ?_
    rintro e w1 ⟨rfl, hw1⟩
    subst hw1
    clear HDN
    go_wp2_with fail
    go_ret
    exact ⟨fun k e => (by rw [HR.out] at e; cases e; exact ⟨rfl, Kept.refl _ _⟩), fun s' e => (by rw [HR.out] at e; cases e)⟩
  rw [show (s.left == 0) = false by simp [hl]] at HDN
  have HF := rfile_any h hst t
  cases hg : getN t s.names with
  | none =>
    rw [hg] at HF
    have HR : Hid (appS s t cs = .error 92) := hid (by unfold appS; rw [if_neg hl, hg])
    unfold fixI at HF
    clear h hl hg hc hsrc hnil
    go_enter Try.func45, Try.ntmps45
    go_wp2_with fail
    refine HDN.mono ?_
    rintro e w1 ⟨rfl, hw1⟩
    subst hw1
    clear HDN
    go_wp2_with fail
    refine HF.mono ?_
    rintro e w2 ⟨rfl, hw2⟩
    subst hw2
    clear HF
    go_wp2_with fail
    go_ret
    exact ⟨fun k e => (by rw [HR.out] at e; cases e; exact ⟨rfl, Kept.refl _ _⟩), fun s' e => (by rw [HR.out] at e; cases e)⟩
  | some f =>
    rw [hg] at HF
    unfold fixI at HF
    dsimp only at HF
    have b1 : decide ((f : Int) < 0) = false := by simp
    have b1' : decide (f < 0) = false := by simp
    have hf : f < F.length := h.nmf _ (getN_mem hg)
    obtain ⟨T, hT⟩ : ∃ T, T = usedN s := ⟨_, rfl⟩
    obtain ⟨n, hn⟩ : ∃ n, n = cs.length := ⟨_, rfl⟩
    obtain ⟨R, hR⟩ : ∃ R, R = s.room := ⟨_, rfl⟩
    have hTl : T ≤ 4194304000000 := by
      have h9 := h.usedT_le s.names.length
      rw [usedT_all s _ (Nat.le_refl _)] at h9
      have := h.lens
      have : s.names.length * 4194304 ≤ 1000000 * 4194304 := Nat.mul_le_mul_right _ (by omega)
      omega
    have q1w : IntKind.i64.wrap ((R : Int) - (T : Int)) = (R : Int) - (T : Int) := by rw [IntKind.wrap_i64]; have := h.room; omega
    have c0 : w.cell? ⟨r, 0, none⟩ = some (.int .i64 (R : Nat)) := by rw [hR]; exact h.blk.cell 0
    have HU : Hid (∀ w', Same w w' → Calls Try.prog 33 #[.pointer (some ⟨r, 0, none⟩)] w' fun e w2 => e = .returned (.int .i64 (T : Nat)) ∧ Same w' w2) := hid (fun w' hk => by
      have h9 := rused_any (h.same hk) hst
      rw [show useS s = T by rw [hT]; exact if_neg hl] at h9
      exact h9)
    have HD : Hid (Rf N w r s F ρ fv nv sv cv) := h
    by_cases hfull : R < T + n
    · have b2 : decide ((n : Int) > (R : Int) - (T : Int)) = true := by simp; omega
      have b2' : decide ((R : Int) - (T : Int) < (n : Int)) = true := by simp; omega
      have HR : Hid (appS s t cs = .error 93) := hid (by unfold appS; rw [if_neg hl, hg]; dsimp only; rw [if_pos (by omega)])
      rw [← hn]
      clear h hl hg hc hsrc hnil hf hT hn hR hTl hfull hcs hb256 hst hN hF
      go_enter Try.func45, Try.ntmps45
      go_wp2_with fail
      refine HDN.mono ?_
      rintro e w1 ⟨rfl, hw1⟩
      subst hw1
      clear HDN
      go_wp2_with fail
      refine HF.mono ?_
      rintro e w2 ⟨rfl, hw2⟩
      subst hw2
      clear HF
      go_upto_region 6 with fail
      go_region_held3 (fun w' => w'.cell? ⟨r, 0, none⟩ = some (.int .i64 (R : Nat)))
        (first | (go_split_ands; exact hk3.cell (by assumption) (fun f => f)) | go_keep)
        (first | (go_at_call 33; refine (HU.out _ (by first | exact (Kept.refl _ _).drew | exact Kept.refl _ _ | exact (Kept.refl _ _).drewN _)).mono ?_; rintro e w3 ⟨rfl, hk3⟩))
      all_goals
        have HK2 : Hid (Same w2 w3) := hid (Kept.undrew9 hk3)
        clear hk3
        go_wp2_with fail
        go_ret
        exact ⟨fun k e => (by rw [HR.out] at e; cases e; exact ⟨rfl, HK2.out⟩), fun s' e => (by rw [HR.out] at e; cases e)⟩
    · have b2 : decide ((n : Int) > (R : Int) - (T : Int)) = false := by simp; omega
      have b2' : decide ((R : Int) - (T : Int) < (n : Int)) = false := by simp; omega
      obtain ⟨hfl, hok⟩ := h.fl f F[f] (List.getElem?_eq_getElem hf)
      have HR : Hid (appS s t cs = .ok (stepS { s with fl := updF s.fl f ⟨F[f].bs ++ cs, F[f].safe⟩ })) := hid (by unfold appS; rw [if_neg hl, hg]; dsimp only; rw [if_neg (by omega), hfl])
      obtain ⟨g, q1, hfv, k0, k1, hrow, hρg⟩ := h.filAt f hf
      obtain ⟨x, hx⟩ : ∃ x, x = F[f] := ⟨_, rfl⟩
      have hge := usedN_ge s t f hg
      rw [hfl] at hge
      dsimp only at hge
      rw [← hx] at HR hok k0 k1 hge
      have HX : Hid (F[f]? = some x) := hid (by rw [List.getElem?_eq_getElem hf, hx])
      have HQ : Hid (s.steps ≤ 1000000 ∧ N ≤ w.heap.size ∧ s.left ≠ 0 ∧ F.length ≤ s.steps ∧ f < F.length ∧ (∀ b ∈ cs, b < 256) ∧ cs.length ≤ 1000000000 ∧ x.bs.length + cs.length ≤ s.room ∧ s.room ≤ 4194304) := hid ⟨hst, hN, hl, hF, hf, hb256, hcs, by omega, h.room⟩
      obtain ⟨xa, hxa⟩ : ∃ a, a = x.a := ⟨_, rfl⟩
      obtain ⟨xn, hxn⟩ : ∃ a, a = x.n := ⟨_, rfl⟩
      obtain ⟨xc, hxc⟩ : ∃ a, a = x.c := ⟨_, rfl⟩
      have HO : Hid (Src w (fun j => ρ j = 9) (.slice xa xn xc) x.bs ∧ (∀ n c, Value.slice xa xn xc = .slice none n c → n = 0 ∧ c = 0) ∧ x.safe ≤ x.n ∧ (∀ b ∈ x.bs, b < 256) ∧ x.bs.length = x.n) := hid ⟨by rw [hxa, hxn, hxc]; exact hok.src, by rw [hxa, hxn, hxc]; exact hok.nil, hok.safe, hok.byte, hok.len⟩
      rw [← hxa, ← hxn, ← hxc] at k0
      obtain ⟨n1, hn1⟩ : ∃ n, n = F.length := ⟨_, rfl⟩
      rw [← hn1] at hfv hrow
      subst hfv
      have HRW : Hid (RowC N 80 2 fvE w (.slice (some ⟨g, 0, none⟩) n1 q1) F ∧ ρ g = 2) := hid ⟨hrow, hρg⟩
      have r1 : w.cell? ⟨r, 1, none⟩ = some (.slice (some ⟨g, 0, none⟩) n1 q1) := h.blk.cell 1
      have i1 : (0 : Int) ≤ (f : Int) := by omega
      have i2 : (f : Int) < (n1 : Int) := by omega
      have HS : Hid (Src w I (.slice ao n cap) cs ∧ ∀ n' c, Value.slice ao n cap = .slice none n' c → n' = 0 ∧ c = 0) := hid (by rw [hn]; exact ⟨hsrc, hnil⟩)
      rw [← hn]
      clear h hl hg hc hsrc hnil hf hT hn hR hTl hfull hcs hb256 hst hN hF hfl hok hrow hρg hx hge hxa hxn hxc hn1 k1
      go_enter Try.func45, Try.ntmps45
      go_wp2_with fail
      refine HDN.mono ?_
      rintro e w1 ⟨rfl, hw1⟩
      subst hw1
      clear HDN
      go_wp2_with fail
      refine HF.mono ?_
      rintro e w2 ⟨rfl, hw2⟩
      subst hw2
      clear HF
      go_upto_region 6 with fail
      go_region_held3 (fun w' => w'.cell? ⟨r, 0, none⟩ = some (.int .i64 (R : Nat)))
        (first | (go_split_ands; exact hk3.cell (by assumption) (fun f => f)) | go_keep)
        (first | (go_at_call 33; refine (HU.out _ (by first | exact (Kept.refl _ _).drew | exact Kept.refl _ _ | exact (Kept.refl _ _).drewN _)).mono ?_; rintro e w3 ⟨rfl, hk3⟩))
      all_goals
        have HK2 : Hid (Same w2 w3) := hid (Kept.undrew9 hk3)
        have e0 : w3.cell? ⟨g, f * 2, none⟩ = some (.slice xa xn xc) := HK2.out.cell k0 (fun f => f)
        have e1 : w3.cell? ⟨r, 1, none⟩ = some (.slice (some ⟨g, 0, none⟩) n1 q1) := HK2.out.cell r1 (fun f => f)
        have HK0 : Hid (w2.cell? ⟨g, f * 2, none⟩ = some (.slice xa xn xc)) := k0
        clear hk3 k0 r1 c0
        go_wp2_with (at_builtin; refine wpList_append_any _ rfl (.tmp 26) (.tmp 34) rfl (.slice none 0 0) [] rfl ⟨by simp, .inl ⟨rfl, rfl⟩⟩ (fun j => ρ j = 9) (.slice xa xn xc) x.bs rfl HO.out.2.1 (HO.out.1.kept HK2.out (fun _ _ _ f => f)) (by have := HQ.out; simp; omega) ?_)
        intro v4 w4 hr4 hg4 ho4
        have hr4 : Row w4 v4 x.bs := hr4
        have HK4 : Hid (Same w2 w4) := hid (Same.trans HK2.out ((Kept.refl _ w3).grown hg4 (fun k e => by cases e)))
        have HO4 : Hid (∀ j, v4.ownBlock = some j → w2.heap.size ≤ j) := hid (fun j e => by
          rcases ho4 with h9 | h9
          · rw [h9] at e; cases e
          · rw [h9] at e; simp only [Option.some.injEq] at e; have := HK2.out.size; omega)
        obtain ⟨a4, c4, hv4, _⟩ := hr4.shape
        obtain ⟨n4, hn4⟩ : ∃ n, n = x.bs.length := ⟨_, rfl⟩
        rw [← hn4] at hv4
        subst hv4
        have HR4 : Hid (Row w4 (.slice a4 n4 c4) x.bs) := hr4
        have d1 : w4.cell? ⟨r, 1, none⟩ = some (.slice (some ⟨g, 0, none⟩) n1 q1) := HK4.out.cell (HD.out.blk.cell 1) (fun f => f)
        clear hr4 hg4 ho4 hn4 e0 e1
        go_upto_region 10 with fail
        go_region_law (refine step_append_9 (by rfl) (.tmp 41) (.tmp 42) (by rfl) (.slice a4 n4 c4) x.bs (by rfl) (HR4.out.kept (show Same w4 _ from by first | exact (Kept.refl _ _).drew | exact Kept.refl _ _) (fun _ _ f => f)) I (.slice ao n cap) cs (by rfl) HS.out.2 (HS.out.1.kept (show Same w2 _ from by first | exact (HK4.out).drew | exact HK4.out) (fun _ _ _ f => f)) (by have := HQ.out; omega) ?_; intro v5 w5 hr5 hg5 ho5; have hk5 : Same w2 w5 := (by first | exact Kept.grown HK4.out hg5 (fun k e => .inr (HO4.out k e)) | exact Kept.grown HK4.out.drew hg5 (fun k e => .inr (HO4.out k e))); have hR5 := HRW.out.1.kept hk5 (fun _ _ f => f); have z5 := hR5.frozen (f * 2); have d5 : w5.cell? ⟨g, f * 2, none⟩ = some (.slice xa xn xc) := hk5.cell HK0.out (fun f => f); have e5 : w5.cell? ⟨r, 1, none⟩ = some (.slice (some ⟨g, 0, none⟩) n1 q1) := hk5.cell (HD.out.blk.cell 1) (fun f => f); have HO5 : Hid (∀ j, v5.ownBlock = some j → w2.heap.size ≤ j) := hid (fun j e => ho5.elim (fun h9 => HO4.out j (by rw [← h9]; exact e)) (fun h9 => (by rw [h9] at e; simp only [Option.some.injEq] at e; have := HK4.out.size; first | omega | (simp at e; omega)))); have HR5 := hid hr5; have HK5 := hid hk5; obtain ⟨a6, n6, q6, e6⟩ : ∃ a n q, v5 = Value.slice a n q := (by obtain ⟨a, q, e, _⟩ := hr5.shape; exact ⟨a, _, q, e⟩); subst e6; clear hg5 hr5 hk5 ho5 hR5)
        all_goals
          obtain ⟨w6, hw6⟩ : ∃ W, W = w5.setCell ⟨g, f * 2, none⟩ (.slice a6 n6 q6) := ⟨_, rfl⟩
          have hf := HQ.out.2.2.2.2.1
          have hFx : F[f] = x := by have h9 := HX.out; rw [List.getElem?_eq_getElem hf] at h9; simpa using h9
          have k6 : Kept (fun j => (Value.slice (some ⟨g, 0, none⟩) n1 q1).ownBlock = some j) w5 w6 := by rw [hw6]; exact (Kept.refl _ w5).setCell _ _ (.inl rfl)
          have hr6 : RowC N 80 2 fvE w6 (.slice (some ⟨g, 0, none⟩) n1 q1) (F.set f ⟨a6, n6, q6, x.bs ++ cs, x.safe⟩) := by
            rw [hw6]
            have h9 := (HRW.out.1.kept HK5.out (fun _ _ f => f)).setB f a6 n6 q6 (x.bs ++ cs) hf
            rw [hFx] at h9
            exact h9
          have hn6 : (x.bs ++ cs).length = n6 := HR5.out.lenB
          have hq := HQ.out
          have ho := HO.out
          rw [List.length_append] at hn6
          obtain ⟨h1, h2, h3⟩ := HD.out.newRow hq.2.1 hf HK5.out HR5.out HO5.out k6 hr6 (by omega) (fun b hb => (List.mem_append.1 hb).elim (ho.2.2.2.1 b) (hq.2.2.2.2.2.1 b)) (by omega)
          have HS2 := rstep_any h1 hq.1 hq.2.2.1
          have H6 : Hid (MoR w2 ρ (giveR ρ (.slice a6 n6 q6) 9) ∧ Kept (fun k => ρ k ≠ 0 ∧ ρ k ≠ 9) w2 w6 ∧ (F.set f ⟨a6, n6, q6, x.bs ++ cs, x.safe⟩).length ≤ s.steps + 1) := hid ⟨h2, h3, by rw [List.length_set]; omega⟩
          clear hf hFx k6 hr6 hn6 hq ho h1 h2 h3 z5 d5 d1
          go_wp2_with fail
          rw [← hw6]
          clear hw6
          refine HS2.mono ?_
          rintro e w7 ⟨rfl, hR7, k7⟩
          have H7 := hid (And.intro hR7 k7)
          clear HS2 hR7 k7
          go_wp2_with fail
          go_ret
          refine ⟨fun k e => (by rw [HR.out] at e; cases e), fun s' e => ?_⟩
          rw [HR.out] at e
          cases e
          exact ⟨rfl, _, _, ⟨_, _, _, _, H7.out.1, H6.out.2.2⟩, H6.out.1, Kept.trans H6.out.2.1 H7.out.2 (fun _ _ e => e) (fun k _ e => by rw [e, HD.out.rb]; decide)⟩

end

end Go.Proofs.Ytjcobogajkfnmaa

/-
  Layer 9: the reference's disk behind a crash, as a state.
-/
namespace Go.Proofs.Ytjcobogajkfnmaa
open Go.RowKit Go.Maps

theorem appN_ne {L : Nms} (h : ∀ p ∈ L, p.1.size ≠ 0) (c : Chg) : ∀ p ∈ appN c L, p.1.size ≠ 0 := fun p hp => by
  rcases appN_mem hp with e | e
  · intro e2
    unfold appN at hp
    rw [e] at e2
    rw [if_pos e2] at hp
    exact h p (delN_mem hp) (by rw [e]; exact e2)
  · exact h p e

theorem foldN_ne : ∀ (cs : List Chg) (L : Nms), (∀ p ∈ L, p.1.size ≠ 0) → ∀ p ∈ foldN L cs, p.1.size ≠ 0
  | [], _, h => h
  | c :: cs, L, h => foldN_ne cs (appN c L) (appN_ne h c)

theorem clr_snoc (n : Nat) : ∀ (bs : List Nat) (o : Nat), clr bs o (n + 1) = (clr bs o n).set (o + n) 0 := by
  induction n with
  | zero => intro bs o; rfl
  | succ n ih =>
    intro bs o
    rw [clr, ih, clr, show o + 1 + n = o + (n + 1) by omega]

theorem Src.takeB {w : World} {I : Nat → Prop} {a : Option Addr} {n cap k : Nat} {bs : List Nat} (h : Src w I (.slice a n cap) bs) (hk : k ≤ bs.length) (c' : Nat) : Src w I (.slice a k c') (bs.take k) := by
  obtain ⟨ao, c, e, hs⟩ := h
  simp only [Value.slice.injEq] at e
  obtain ⟨rfl, rfl, rfl⟩ := e
  refine ⟨a, c', by rw [List.length_take, Nat.min_eq_left hk], fun hne => ?_⟩
  obtain ⟨b, o, h1, h2, h3⟩ := hs (fun e => hne (by rw [e]; simp))
  refine ⟨b, o, h1, h2, fun j hj => ?_⟩
  rw [List.length_take] at hj
  rw [List.getElem_take]
  exact h3 j (by omega)

section
variable {N : Nat} {w : World} {r : Nat} {s : Ds} {F : List Fv} {ρ : Rho} {fv nv sv cv : Value}

/-- The names are a new row. -/
theorem Rf.newNames (h : Rf N w r s F ρ fv nv sv cv) (hN : N ≤ w.heap.size) {L : Nms} (hlen : L.length ≤ s.steps) (hnf : ∀ p ∈ L, p.2 < F.length) (hne9 : ∀ p ∈ L, p.1.size ≠ 0) {w2 w3 : World} {v2 : Value} (hk : Same w w2) (hr : RowC w.heap.size 99 2 nnE w2 v2 L) (hk3 : Kept (· = r) w2 w3)
    (hb : Blk w3 r #[.int .i64 (s.room : Nat), fv, v2, sv, cv, .int .i64 (s.steps : Nat), .int .i64 s.left] 67) :
    Rf N w3 r { s with names := L } F (giveR ρ v2 3) fv v2 sv cv ∧ MoR w ρ (giveR ρ v2 3) ∧ Kept (fun k => ρ k ≠ 0 ∧ ρ k ≠ 9) w w3 := by
  have hg : ∀ k, v2.ownBlock = some k → w.heap.size ≤ k := fun k e => hr.ge e
  have hne : ∀ k, ρ k ≠ 0 → giveR ρ v2 3 k = ρ k := fun k h0 => giveR_old (h.old hg h0)
  have hn : ∀ k, ρ k ≠ 0 → ρ k ≠ 1 → ¬ k = r := fun k _ h1 h2 => h1 (by rw [h2]; exact h.rb)
  have hrb : ¬ v2.ownBlock = some r := h.old hg (by rw [h.rb]; decide)
  refine ⟨⟨hb, ?_, ?_, ?_, ?_, fun k x e => ?_, hnf, h.sff, h.chf, ?_, fun k e => ?_, fun k e => giveR_new e, fun k e => ?_, fun k e => ?_, fun k h0 => ?_, h.room, ?_, h.left, ⟨hne9, h.ne.2⟩⟩, fun k => ?_, ?_⟩
  · exact (h.fil.kept hk (fun _ _ f => f)).kept hk3 (fun k e => hn k (by rw [h.rf k e]; decide) (by rw [h.rf k e]; decide))
  · exact (hr.kept hk3 (fun k e e2 => hrb (by rw [← e2]; exact e))).base hN
  · exact (h.saf.kept hk (fun _ _ f => f)).kept hk3 (fun k e => hn k (by rw [h.rs k e]; decide) (by rw [h.rs k e]; decide))
  · exact (h.chg.kept hk (fun _ _ f => f)).kept hk3 (fun k e => hn k (by rw [h.rc k e]; decide) (by rw [h.rc k e]; decide))
  · obtain ⟨h1, h2⟩ := h.fl k x e
    refine ⟨h1, ((h2.src.kept hk (fun _ _ _ f => f)).kept hk3 (fun j i _ e => hn j (by rw [i]; decide) (by rw [i]; decide) e)).mono (fun j i => by rw [hne j (by rw [i]; decide)]; exact i), h2.len, h2.nil, h2.cap, h2.safe, h2.byte, h2.room⟩
  · rw [hne r (by rw [h.rb]; decide)]; exact h.rb
  · rw [hne k (by rw [h.rf k e]; decide)]; exact h.rf k e
  · rw [hne k (by rw [h.rs k e]; decide)]; exact h.rs k e
  · rw [hne k (by rw [h.rc k e]; decide)]; exact h.rc k e
  · by_cases e : v2.ownBlock = some k
    · exact ⟨Nat.le_trans hN (hg k e), Nat.lt_of_lt_of_le (hr.lt e) hk3.size⟩
    · rw [giveR_old e] at h0
      exact ⟨(h.new k h0).1, Nat.lt_of_lt_of_le (h.new k h0).2 (Nat.le_trans hk.size hk3.size)⟩
  · have h9 := h.lens
    exact ⟨hlen, h9.2.1, h9.2.2⟩
  · by_cases e : v2.ownBlock = some k
    · exact .inr (.inr (hg k e))
    · exact .inr (.inl (giveR_old e))
  · exact Kept.trans hk hk3 (fun _ _ f => f.elim) (fun k _ e => by rw [e, h.rb]; decide)

end

theorem cra_mem {s : Ds} {cs : List Int} {m : Nat} (h1 : ∀ p ∈ s.safe, p.2 < m) (h2 : ∀ c ∈ s.chg, c.f < m ∨ (c.dst.size = 0 ∧ c.f = 0)) : ∀ p ∈ craN s cs, p.2 < m := fun p hp => by
  rcases foldN_live _ _ p hp with e | ⟨c, e1, e2, e3⟩
  · exact h1 p e
  · rw [e3]
    rcases h2 c (List.mem_of_mem_take e1) with e4 | e4
    · exact e4
    · exact absurd e4.1 e2

/-- A step of the files behind a crash. -/
theorem craFl_step (cs : List Int) (L : Nms) (i : Nat) (hi : i < L.length) (fl : Nat → Fl) : craFl cs i (L.drop i) fl = craFl cs (i + 1) (L.drop (i + 1)) (updF fl L[i].2 (crF (fl L[i].2) (pkN cs (i + 1)))) := by
  rw [List.drop_eq_getElem_cons hi]
  rfl

end Go.Proofs.Ytjcobogajkfnmaa

/-
  Layer 9: the reference's Crash.
-/
namespace Go.Proofs.Ytjcobogajkfnmaa
open Go.RowKit Go.Maps

section
variable {N : Nat} {w : World} {r : Nat} {s : Ds} {F : List Fv} {ρ : Rho} {fv nv sv cv : Value}

set_option maxRecDepth 100000 in
set_option maxHeartbeats 4000000 in
theorem rcrash_any (h : Rf N w r s F ρ fv nv sv cv) (hst : s.steps ≤ 1000000) (hN : N ≤ w.heap.size) (hF : F.length ≤ s.steps) (I : Nat → Prop) (xv : Value) (cs : List Int) (hsrc : SrcE intV w I xv cs) (hr : ∀ c ∈ cs, -9223372036854775808 ≤ c ∧ c ≤ 9223372036854775807) (hI : ∀ k, I k → k < w.heap.size → ρ k = 0) :
    Calls Try.prog 51 #[.pointer (some ⟨r, 0, none⟩), xv] w fun e w' => e = .returned (.tuple #[]) ∧ ∃ F' ρ', RfX N w' r (craS s cs) F' ρ' ∧ MoR w ρ ρ' ∧ Kept (fun k => ρ k ≠ 0 ∧ ρ k ≠ 9) w w' := by
  obtain ⟨w1, hw1⟩ : ∃ W, W = w.setCell ⟨r, 6, none⟩ (.int .i64 (-1)) := ⟨_, rfl⟩
  have hk1 : Kept (· = r) w w1 := by rw [hw1]; exact (Kept.refl (· = r) w).setCell _ _ (.inl rfl)
  obtain ⟨s1, hs1⟩ : ∃ x : Ds, x = { s with left := -1 } := ⟨_, rfl⟩
  have R1 : Rf N w1 r s1 F ρ fv nv sv cv := by
    rw [hs1]
    refine h.setBlk (s' := { s with left := -1 }) hk1 ?_ rfl rfl rfl rfl rfl (Nat.le_refl _) ⟨Int.le_refl _, by show (-1 : Int) ≤ _; omega⟩
    have h9 := h.blk.set 6 (.int .i64 (-1))
    rw [hw1]
    simpa using h9
  have c6 : w.cell? ⟨r, 6, none⟩ = some (.int .i64 s.left) := h.blk.cell 6
  have z6 := h.blk.frozen 6
  have HSR : Hid (∀ w', Kept (fun k => ρ k ≠ 0 ∧ ρ k ≠ 9) w w' → SrcE intV w' I xv cs) := hid (fun w' hk => hsrc.kept hk (fun k i1 i2 e => e.1 (hI k i1 i2)))
  have HKW1 : Hid (Kept (fun k => ρ k ≠ 0 ∧ ρ k ≠ 9) w w1) := hid (hk1.mono (fun k _ e => by rw [e, h.rb]; decide))
  have HRG : Hid (∀ i, -9223372036854775808 ≤ pkN cs i ∧ pkN cs i ≤ 9223372036854775807) := hid (pkN_in hr)
  obtain ⟨ao, cap, hxv, _⟩ := hsrc
  obtain ⟨L9, hL9⟩ : ∃ n, n = cs.length := ⟨_, rfl⟩
  rw [← hL9] at hxv
  subst hxv
  obtain ⟨a4, n4, q4, hcv⟩ : ∃ a n q, cv = .slice a n q := by
    obtain ⟨a, q, e, _⟩ := h.chg.shape
    exact ⟨a, _, q, e⟩
  subst hcv
  obtain ⟨a3, n3, q3, hsv⟩ : ∃ a n q, sv = .slice a n q := by
    obtain ⟨a, q, e, _⟩ := h.saf.shape
    exact ⟨a, _, q, e⟩
  subst hsv
  have hn4 : n4 = s1.chg.length := by
    obtain ⟨a, q, e, _⟩ := R1.chg.shape
    simp only [Value.slice.injEq] at e
    omega
  obtain ⟨K, hK⟩ : ∃ k, k = krN s1 cs := ⟨_, rfl⟩
  have hKl : K ≤ n4 := by rw [hK, hn4]; exact krN_le _ _
  have c3 : w.cell? ⟨r, 3, none⟩ = some (.slice a3 n3 q3) := h.blk.cell 3
  have c4 : w1.cell? ⟨r, 4, none⟩ = some (.slice a4 n4 q4) := R1.blk.cell 4
  have HCH : Hid (∀ w', Kept (fun k => ρ k ≠ 0 ∧ ρ k ≠ 9) w w' → ∀ k : Nat, Calls Try.prog 70 #[.slice ao L9 cap, .int .i64 (k : Nat)] w' fun e w2 => e = .returned (.int .i64 (pkN cs k)) ∧ w2 = w') := hid (fun w' hk k => rchoice_any w' I _ cs (HSR.out w' hk) k)
  have hst1 : s1.steps = s.steps := by rw [hs1]
  have HSA : Hid (∀ w', Calls Try.prog 69 #[.int .i64 (pkN cs 0), .int .i64 (n4 : Nat)] w' fun e w2 => e = .returned (.int .i64 (K : Nat)) ∧ w2 = w') := hid (fun w' => by
    have h9 := rsays_any w' (pkN cs 0) n4 (HRG.out 0).1 (HRG.out 0).2 (by have h7 := R1.lens; omega)
    rw [hK]
    unfold krN
    rw [← hn4]
    exact h9)
  have HR1 : Hid (Rf N w1 r s1 F ρ fv nv (.slice a3 n3 q3) (.slice a4 n4 q4)) := R1
  have HQ : Hid (s1.steps ≤ 1000000 ∧ N ≤ w.heap.size ∧ n4 = s1.chg.length ∧ K ≤ n4 ∧ K = krN s1 cs ∧ w.heap.size ≤ w1.heap.size ∧ F.length ≤ s1.steps ∧ craS s1 cs = craS s cs ∧ s1.left = -1) := hid ⟨by omega, hN, hn4, hKl, hK, hk1.size, by omega, by rw [hs1]; rfl, by rw [hs1]⟩
  clear h R1 hk1 hst hN hF hr hI hL9 hn4 hKl hK hs1 hst1
  go_enter Try.func51, Try.ntmps51
  go_wp2_with fail
  rw [← hw1]
  clear hw1 c6 z6 c3
  go_region_held3 (fun w' => w'.cell? ⟨r, 4, none⟩ = some (.slice a4 n4 q4))
    (first | (go_split_ands; assumption) | go_keep)
    (first
      | (go_at_call 70; refine (HCH.out _ (by first | exact HKW1.out.drew | exact HKW1.out | exact HKW1.out.drewN _) 0).mono ?_; rintro e w4 ⟨rfl, hw4⟩; subst hw4)
      | (go_at_call 69; refine (HSA.out _).mono ?_; rintro e w5 ⟨rfl, hw5⟩; subst hw5))
  all_goals
    go_wp2_with fail
    go_loopg [4, 6] K (fun qq z4 z6 wr => ∃ (i : Nat), z6 = .int .i64 (i : Nat) ∧ i ≤ K ∧ K - i ≤ qq ∧ Hid (RowC N 99 2 nnE wr z4 (foldN s1.safe (s1.chg.take i)) ∧ Same w1 wr))
    case atStart => exact ⟨0, rfl, by omega, by omega, hid ⟨HR1.out.saf.kept (show Same w1 _ from (Kept.refl _ w1).drew) (fun _ _ f => f), (Kept.refl _ w1).drew⟩⟩
    case round =>
      obtain ⟨i, rfl, hiK, hiq, HI⟩ := hrel
      obtain ⟨a0, m0, q0, e0⟩ : ∃ a n q, u4 = Value.slice a n q := by
        obtain ⟨a, q, e, _⟩ := HI.out.1.shape
        exact ⟨a, _, q, e⟩
      subst e0
      by_cases hlt : i < K
      · have b1 : decide (i < K) = true := by simp; omega
        have hq := HQ.out
        obtain ⟨c, hc⟩ : ∃ c, c = s1.chg[i]'(by omega) := ⟨_, rfl⟩
        have hne : s1.chg ≠ [] := fun e => by rw [e] at hq; simp at hq; omega
        obtain ⟨g, hg⟩ : ∃ g, a4 = some ⟨g, 0, none⟩ := by
          obtain ⟨a, q, e, h8, _⟩ := HR1.out.chg.shape
          simp only [Value.slice.injEq] at e
          obtain ⟨g, hg⟩ := h8 hne
          exact ⟨g, by rw [e.1, hg]⟩
        subst hg
        have hRr : RowC N 83 4 rcE wr (.slice (some ⟨g, 0, none⟩) n4 q4) s1.chg := HR1.out.chg.kept HI.out.2 (fun _ _ f => f)
        obtain ⟨kd, hkd⟩ : ∃ k, k = kdN c := ⟨_, rfl⟩
        have k0 : wr.cell? ⟨g, i * 4, none⟩ = some (.int .i64 (kd : Nat)) := by have h9 := hRr.cell rcE_ok i 0 (by omega) (by decide); rw [← hc] at h9; rw [hkd]; exact h9
        have k1 : wr.cell? ⟨g, i * 4 + 1, none⟩ = some (.string c.src) := by have h9 := hRr.cell rcE_ok i 1 (by omega) (by decide); rw [← hc] at h9; exact h9
        have k2 : wr.cell? ⟨g, i * 4 + 2, none⟩ = some (.string c.dst) := by have h9 := hRr.cell rcE_ok i 2 (by omega) (by decide); rw [← hc] at h9; exact h9
        have k3 : wr.cell? ⟨g, i * 4 + 3, none⟩ = some (.int .i64 (c.f : Nat)) := by have h9 := hRr.cell rcE_ok i 3 (by omega) (by decide); rw [← hc] at h9; exact h9
        have d4 : wr.cell? ⟨r, 4, none⟩ = some (.slice (some ⟨g, 0, none⟩) n4 q4) := HI.out.2.cell c4 (fun f => f)
        have i1 : (0 : Int) ≤ (i : Int) := by omega
        have i2 : (i : Int) < (n4 : Int) := by omega
        have hiw : IntKind.i64.wrap ((i : Int) + 1) = ((i + 1 : Nat) : Int) := by rw [IntKind.wrap_i64]; have := HR1.out.lens; omega
        have hfl : (foldN s1.safe (s1.chg.take i)).length ≤ 1000000 := by
          have h7 := foldN_len (s1.chg.take i) s1.safe
          have h8 : (s1.chg.take i).length ≤ s1.chg.length := List.length_take_le' _ _
          have := HR1.out.lens
          omega
        have HAP := rapply_any wr N _ _ HI.out.1 hfl (foldN_ne _ _ HR1.out.ne.2) c
        unfold rcV at HAP
        rw [← hkd] at HAP
        have HFO : Hid (foldN s1.safe (s1.chg.take (i + 1)) = appN c (foldN s1.safe (s1.chg.take i))) := hid (by rw [hc]; exact foldN_take _ _ _ _)
        have HX : Hid (i < K) := hlt
        clear hq hc hne hRr hfl hkd
        go_wp2_with fail
        refine HAP.mono ?_
        rintro e w5 ⟨v5, rfl, hr5, hk5⟩
        have H5 : Hid (RowC N 99 2 nnE w5 v5 (foldN s1.safe (s1.chg.take (i + 1))) ∧ Same w1 w5) := hid ⟨by rw [HFO.out]; exact hr5.base (by have := HQ.out; have := HI.out.2.size; omega), Same.trans HI.out.2 hk5⟩
        obtain ⟨a5, m5, q5, e5⟩ : ∃ a n q, v5 = Value.slice a n q := by
          obtain ⟨a, q, e, _⟩ := hr5.shape
          exact ⟨a, _, q, e⟩
        subst e5
        clear HAP hr5 hk5 k0 k1 k2 k3 d4
        go_wp2_with fail
        go_roundg (gk - 1)
        case measure => have := HX.out; omega
        case rel => exact ⟨i + 1, by go_num, by have := HX.out; omega, by have := HX.out; omega, H5⟩
      · have b1 : decide (i < K) = false := by simp; omega
        have hE : i = K := by omega
        subst hE
        have HCN : Hid (foldN s1.safe (s1.chg.take i) = craN s1 cs) := hid (by unfold craN; rw [← HQ.out.2.2.2.2.1])
        have hlen6 : (craN s1 cs).length ≤ s1.steps := by
          have h7 := foldN_len (s1.chg.take (krN s1 cs)) s1.safe
          have h8 : (s1.chg.take (krN s1 cs)).length ≤ s1.chg.length := List.length_take_le' _ _
          have := HR1.out.lens
          unfold craN
          omega
        have hne6 : ∀ p ∈ craN s1 cs, p.1.size ≠ 0 := foldN_ne _ _ HR1.out.ne.2
        have HI2 := HI.out
        rw [HCN.out] at HI2
        have HW := rwithout_any wr N _ (craN s1 cs) HI2.1 (by have := HQ.out; omega) ⟨#[]⟩
        rw [delN_empty (t := ⟨#[]⟩) rfl hne6] at HW
        have HC6 : Hid ((craN s1 cs).length ≤ s1.steps ∧ ∀ p ∈ craN s1 cs, p.1.size ≠ 0) := hid ⟨hlen6, hne6⟩
        clear hlen6 hne6 HI2
        go_wp2_with fail
        refine HW.mono ?_
        rintro e w6 ⟨v6, rfl, hr6, hk6⟩
        have hk6' : Same w1 w6 := Same.trans HI.out.2 hk6
        have hb6 := HR1.out.blk.kept hk6' (fun f => f)
        have e2 := hb6.cell 2
        have z2 := hb6.frozen 2
        simp at e2
        obtain ⟨a6, q6, e6, _⟩ := hr6.shape
        obtain ⟨M, hM⟩ : ∃ M, M = (craN s1 cs).length := ⟨_, rfl⟩
        rw [← hM] at e6
        subst e6
        obtain ⟨w7, hw7⟩ : ∃ W, W = w6.setCell ⟨r, 2, none⟩ (.slice a6 M q6) := ⟨_, rfl⟩
        have hk7 : Kept (· = r) w6 w7 := by rw [hw7]; exact (Kept.refl (· = r) w6).setCell _ _ (.inl rfl)
        have hb7 : Blk w7 r #[.int .i64 (s1.room : Nat), fv, .slice a6 M q6, .slice a3 n3 q3, .slice a4 n4 q4, .int .i64 (s1.steps : Nat), .int .i64 s1.left] 67 := by
          rw [hw7]
          have h9 := hb6.set 2 (.slice a6 M q6)
          simpa using h9
        obtain ⟨R7, M7, K7⟩ := HR1.out.newNames (by have := HQ.out; omega) HC6.out.1 (cra_mem HR1.out.sff HR1.out.chf) HC6.out.2 hk6' (hr6.base HI.out.2.size) hk7 hb7
        obtain ⟨ρ2, hρ2⟩ : ∃ x, x = giveR ρ (.slice a6 M q6) 3 := ⟨_, rfl⟩
        rw [← hρ2] at R7 M7
        obtain ⟨L, hL⟩ : ∃ L, L = craN s1 cs := ⟨_, rfl⟩
        rw [← hL] at R7
        have H7 : Hid (Rf N w7 r { s1 with names := L } F ρ2 fv (.slice a6 M q6) (.slice a3 n3 q3) (.slice a4 n4 q4) ∧ MoR w ρ ρ2 ∧ Kept (fun k => ρ k ≠ 0 ∧ ρ k ≠ 9) w w7) := hid ⟨R7, fun k => (by rcases M7 k with e | e | e; exact .inl e; exact .inr (.inl e); exact .inr (.inr (by have := HQ.out; omega))), Kept.trans HKW1.out K7 (fun _ _ e => e) (fun _ _ e => e)⟩
        have HS2 : Hid (L = craN s1 cs ∧ M = L.length ∧ M ≤ 1000000) := hid ⟨hL, by rw [hM, hL], by have := HC6.out; have := HQ.out; omega⟩
        clear HW hr6 hk6 hk6' hb6 hM hk7 hb7 R7 M7 K7 hρ2 hL HI HCN hiq b1 hiK hlt HC6 c4
        go_wp2_with fail
        rw [← hw7]
        clear hw7 e2 z2
        go_loopg [7] M (fun qq z wr => ∃ (i : Nat) (F2 : List Fv) (ρ3 : Rho) (fl2 : Nat → Fl), z = .int .i64 (i : Nat) ∧ i ≤ M ∧ M - i ≤ qq ∧ Hid (Rf N wr r { s1 with names := L, fl := fl2 } F2 ρ3 fv (.slice a6 M q6) (.slice a3 n3 q3) (.slice a4 n4 q4) ∧ craFl cs i (L.drop i) fl2 = craFl cs 0 L s1.fl ∧ MoR w ρ ρ3 ∧ Kept (fun k => ρ k ≠ 0 ∧ ρ k ≠ 9) w wr ∧ F2.length = F.length))
        case atStart => exact ⟨0, F, ρ2, s1.fl, rfl, by omega, by omega, hid ⟨H7.out.1, rfl, H7.out.2.1, H7.out.2.2, rfl⟩⟩
        case round =>
          obtain ⟨j, F2, ρ3, fl2, rfl, hj, hjq, HJ⟩ := hrel
          have d2 : wr.cell? ⟨r, 2, none⟩ = some (.slice a6 M q6) := HJ.out.1.blk.cell 2
          by_cases hlt : j < M
          · have b1 : decide (j < M) = true := by simp; omega
            have hjL : j < L.length := by have := HS2.out; omega
            obtain ⟨f, hf⟩ : ∃ f, f = L[j].2 := ⟨_, rfl⟩
            obtain ⟨g2, p2, hv2, k8, k9⟩ := HJ.out.1.nowAt j hjL
            simp only [Value.slice.injEq] at hv2
            have hv3 := hv2.1
            subst hv3
            have k1 : wr.cell? ⟨g2, j * 2 + 1, none⟩ = some (.int .i64 (f : Nat)) := by rw [hf]; exact k9
            clear k8 k9
            have hfF : f < F2.length := by rw [hf]; exact HJ.out.1.nmf L[j] (List.getElem_mem _)
            obtain ⟨g, q1, hfv, x0, x1, hrow, hρg⟩ := HJ.out.1.filAt f hfF
            obtain ⟨hfl, hok⟩ := HJ.out.1.fl f F2[f] (List.getElem?_eq_getElem hfF)
            obtain ⟨x, hx⟩ : ∃ x, x = F2[f] := ⟨_, rfl⟩
            have HX : Hid (F2[f]? = some x) := hid (by rw [List.getElem?_eq_getElem hfF, hx])
            rw [← hx] at x0 x1 hfl hok
            obtain ⟨n1, hn1⟩ : ∃ n, n = F2.length := ⟨_, rfl⟩
            rw [← hn1] at hfv hrow
            subst hfv
            have d1 : wr.cell? ⟨r, 1, none⟩ = some (.slice (some ⟨g, 0, none⟩) n1 q1) := HJ.out.1.blk.cell 1
            obtain ⟨xa, hxa⟩ : ∃ a, a = x.a := ⟨_, rfl⟩
            obtain ⟨xn, hxn⟩ : ∃ a, a = x.n := ⟨_, rfl⟩
            obtain ⟨xc, hxc⟩ : ∃ a, a = x.c := ⟨_, rfl⟩
            obtain ⟨xs, hxs⟩ : ∃ a, a = x.safe := ⟨_, rfl⟩
            rw [← hxa, ← hxn, ← hxc] at x0
            rw [← hxs] at x1
            have HO : Hid (Src wr (fun j => ρ3 j = 9) (.slice xa xn xc) x.bs ∧ (∀ n c, Value.slice xa xn xc = .slice none n c → n = 0 ∧ c = 0) ∧ xs ≤ xn ∧ xn ≤ xc ∧ (∀ b ∈ x.bs, b < 256) ∧ x.bs.length = xn ∧ xs = x.safe ∧ xn ≤ s1.room ∧ s1.room ≤ 4194304 ∧ fl2 f = ⟨x.bs, xs⟩) := hid ⟨by rw [hxa, hxn, hxc]; exact hok.src, by rw [hxa, hxn, hxc]; exact hok.nil, by rw [hxs, hxn]; exact hok.safe, by rw [hxn, hxc]; exact hok.cap, hok.byte, by rw [hxn]; exact hok.len, hxs, by rw [hxn]; exact hok.room, HJ.out.1.room, by rw [hxs]; exact hfl⟩
            have HRW : Hid (RowC N 80 2 fvE wr (.slice (some ⟨g, 0, none⟩) n1 q1) F2 ∧ ρ3 g = 2 ∧ n1 = F2.length ∧ f < F2.length) := hid ⟨hrow, hρg, hn1, hfF⟩
            have i1 : (0 : Int) ≤ (j : Int) := by omega
            have i2 : (j : Int) < (M : Int) := by omega
            have i3 : (0 : Int) ≤ (f : Int) := by omega
            have i4 : (f : Int) < (n1 : Int) := by omega
            have hjw : IntKind.i64.wrap ((j : Int) + 1) = ((j + 1 : Nat) : Int) := by rw [IntKind.wrap_i64]; have := HS2.out; omega
            have HJ1 : Hid (j < M ∧ j < L.length) := hid ⟨hlt, hjL⟩
            have HFJ : Hid (∀ h : j < L.length, f = L[j].2) := hid (fun _ => hf)
            clear hlt hjL hf hv2 hfF hrow hρg hok hfl hx hn1 hxa hxn hxc hxs
            have hsA : Same wr (wr.alloc (.cells #[.slice none 0 0, .int .i64 0] 80)) := (Kept.refl _ _).alloc _
            have dA2 : (wr.alloc (.cells #[.slice none 0 0, .int .i64 0] 80)).cell? ⟨r, 2, none⟩ = some (.slice (some ⟨g2, 0, none⟩) M q6) := hsA.cell d2 (fun f => f)
            have dA1 : (wr.alloc (.cells #[.slice none 0 0, .int .i64 0] 80)).cell? ⟨r, 1, none⟩ = some (.slice (some ⟨g, 0, none⟩) n1 q1) := hsA.cell d1 (fun f => f)
            have kA1 : (wr.alloc (.cells #[.slice none 0 0, .int .i64 0] 80)).cell? ⟨g2, j * 2 + 1, none⟩ = some (.int .i64 (f : Nat)) := hsA.cell k1 (fun f => f)
            have xA0 : (wr.alloc (.cells #[.slice none 0 0, .int .i64 0] 80)).cell? ⟨g, f * 2, none⟩ = some (.slice xa xn xc) := hsA.cell x0 (fun f => f)
            have xA1 : (wr.alloc (.cells #[.slice none 0 0, .int .i64 0] 80)).cell? ⟨g, f * 2 + 1, none⟩ = some (.int .i64 (xs : Nat)) := hsA.cell x1 (fun f => f)
            clear hsA
            go_wp2_with fail
            go_region
            all_goals
              obtain ⟨w8, hw8⟩ : ∃ W, W = (wr.alloc (.cells #[.slice xa xn xc, .int .i64 (xs : Nat)] 80)).drew := ⟨_, rfl⟩
              obtain ⟨b8, hb8⟩ : ∃ b, b = wr.heap.size := ⟨_, rfl⟩
              rw [← hw8, ← hb8]
              have H8 : Hid (Same wr w8) := hid (by rw [hw8]; exact ((Kept.refl _ wr).alloc _).drew)
              have B8 : Hid (Blk w8 b8 #[.slice xa xn xc, .int .i64 (xs : Nat)] 80) := hid (by rw [hw8, hb8]; exact (Blk.new wr _ _).kept (show Same _ _ from (Kept.refl _ _).drew) (fun f => f))
              have HB8 : Hid (wr.heap.size ≤ b8) := hid (by omega)
              have HX0 : Hid (wr.cell? ⟨g, f * 2, none⟩ = some (.slice xa xn xc) ∧ wr.cell? ⟨g, f * 2 + 1, none⟩ = some (.int .i64 (xs : Nat)) ∧ wr.cell? ⟨g2, j * 2 + 1, none⟩ = some (.int .i64 (f : Nat))) := hid ⟨x0, x1, k1⟩
              clear hw8 hb8 dA1 dA2 kA1 xA0 xA1 d1 d2 k1 x0 x1
              have y0 : w8.cell? ⟨b8, 0, none⟩ = some (.slice xa xn xc) := B8.out.cell 0
              have y1 : w8.cell? ⟨b8, 1, none⟩ = some (.int .i64 (xs : Nat)) := B8.out.cell 1
              have HC1 := HCH.out w8 (Kept.trans HJ.out.2.2.2.1 H8.out (fun _ _ e => e) (fun _ _ f => f.elim)) (j + 1)
              obtain ⟨ch, hch⟩ : ∃ c, c = pkN cs (j + 1) := ⟨_, rfl⟩
              rw [← hch] at HC1
              have HCR : Hid (ch = pkN cs (j + 1)) := hch
              obtain ⟨D, hD⟩ : ∃ D, D = xn - xs := ⟨_, rfl⟩
              obtain ⟨m, hm⟩ : ∃ m, m = sayN ch D := ⟨_, rfl⟩
              obtain ⟨E, hE9⟩ : ∃ e, e = xs + m := ⟨_, rfl⟩
              have ho := HO.out
              have hml : m ≤ D := by rw [hm]; exact sayN_le _ _
              have HSA2 : Calls Try.prog 69 #[.int .i64 ch, .int .i64 (D : Nat)] w8 fun e w2 => e = .returned (.int .i64 (m : Nat)) ∧ w2 = w8 := by
                have h9 := rsays_any w8 ch D (by rw [hch]; exact (HRG.out _).1) (by rw [hch]; exact (HRG.out _).2) (by omega)
                rw [← hm] at h9
                exact h9
              have t1 : IntKind.i64.wrap ((xn : Int) - (xs : Int)) = ((D : Nat) : Int) := by rw [IntKind.wrap_i64]; omega
              have t2 : (xs : Int) + (m : Int) = (E : Int) := by omega
              have t3 : IntKind.i64.wrap (E : Int) = (E : Int) := by rw [IntKind.wrap_i64]; omega
              have t4 : (0 : Int) ≤ (E : Int) := by omega
              have t5 : (E : Int) ≤ (xc : Int) := by omega
              have t6 : E ≤ xc := by omega
              have HE : Hid (E = xs + m ∧ E ≤ xn ∧ m = sayN ch (x.bs.length - xs) ∧ xn ≤ 4194304) := hid ⟨hE9, by omega, by rw [ho.2.2.2.2.2.1, ← hD]; exact hm, by omega⟩
              have HNL : Hid (∀ n c, Value.slice xa E xc = .slice none n c → n = 0 ∧ c = 0) := hid (fun n c e => by
                simp only [Value.slice.injEq] at e
                have h9 := ho.2.1 xn xc (by rw [e.1])
                omega)
              have HSX : Hid (Src w8 (fun j => ρ3 j = 9) (.slice xa E xc) (x.bs.take E)) := hid ((ho.1.takeB (by omega) xc).kept H8.out (fun _ _ _ f => f))
              have HLX : Hid ((x.bs.take E).length = E) := hid (by rw [List.length_take]; omega)
              clear ho hch hD hm hE9 hml
              go_wp2_with fail
              refine HC1.mono ?_
              rintro e w9 ⟨rfl, hw9⟩
              subst hw9
              clear HC1
              go_wp2_with fail
              refine HSA2.mono ?_
              rintro e w10 ⟨rfl, hw10⟩
              subst hw10
              clear HSA2
              go_wp2_with (at_builtin; refine wpList_append_any _ rfl (.tmp 82) (.tmp 89) rfl (.slice none 0 0) [] rfl ⟨by simp, .inl ⟨rfl, rfl⟩⟩ (fun j => ρ3 j = 9) (.slice xa E xc) (x.bs.take E) rfl HNL.out HSX.out (by have := HLX.out; have := HE.out; simp; omega) ?_)
              intro v11 w11 hr11 hg11 ho11
              have hr11 : Row w11 v11 (x.bs.take E) := hr11
              have hk11 : Same w10 w11 := (Kept.refl _ w10).grown hg11 (fun k e => by cases e)
              have HO11 : Hid (∀ k, v11.ownBlock = some k → w10.heap.size ≤ k) := hid (fun k e => by
                rcases ho11 with h9 | h9
                · rw [h9] at e; cases e
                · rw [h9] at e; simp only [Option.some.injEq] at e; omega)
              obtain ⟨a11, q11, e11, hg11'⟩ := hr11.shape
              rw [HLX.out] at e11
              subst e11
              have HG11 : Hid (x.bs.take E ≠ [] → ∃ g, a11 = some ⟨g, 0, none⟩) := hg11'
              have H11 : Hid (Row w11 (.slice a11 E q11) (x.bs.take E) ∧ Same w10 w11) := hid ⟨hr11, hk11⟩
              have y1' : w11.cell? ⟨b8, 1, none⟩ = some (.int .i64 (xs : Nat)) := hk11.cell y1 (fun f => f)
              clear hr11 hg11 ho11 hk11 hg11' y0 y1
              obtain ⟨gk0, hgk0⟩ : ∃ g, g = gk := ⟨_, rfl⟩
              obtain ⟨wo, hwo⟩ : ∃ W, W = wr := ⟨_, rfl⟩
              subst hwo
              go_wp2_with fail
              go_loopg [12] m (fun qq z wr => ∃ (t : Nat), z = .int .i64 (xs + t : Nat) ∧ t ≤ m ∧ m - t ≤ qq ∧ (0 ≤ ch → t = 0) ∧ Hid (Row wr (.slice a11 E q11) (clr (x.bs.take E) xs t) ∧ Kept (fun k => (Value.slice a11 E q11).ownBlock = some k) w11 wr))
              case atStart => exact ⟨0, rfl, by omega, by omega, fun _ => rfl, hid ⟨H11.out.1, Kept.refl _ _⟩⟩
              case round =>
                obtain ⟨t, rfl, ht, htq, ht0, HT⟩ := hrel
                obtain ⟨z, hz⟩ : ∃ z, z = xs + t := ⟨_, rfl⟩
                rw [← hz]
                have HZ : Hid (z = xs + t) := hz
                by_cases hgo : ch < 0 ∧ t < m
                · have hzE : z < E := by have := HE.out; omega
                  have b1 : decide (z < E) = true := by simp; omega
                  have b2 : decide (ch < 0) = true := by simp; omega
                  obtain ⟨g11, hg11⟩ := HG11.out (fun e => by have h9 := HLX.out; rw [e] at h9; simp at h9; omega)
                  subst hg11
                  have hcl : (clr (x.bs.take E) xs t).length = E := by rw [clr_length]; exact HLX.out
                  obtain ⟨y, k0⟩ : ∃ y : Value, wr.cell? ⟨g11, z, none⟩ = some y := ⟨_, HT.out.1.cell' z (by omega)⟩
                  have z0 : wr.frozen? ⟨g11, z, none⟩ = false := HT.out.1.frozen' z
                  have i5 : (0 : Int) ≤ (z : Int) := by omega
                  have i6 : (z : Int) < (E : Int) := by omega
                  have hzw : IntKind.i64.wrap ((z : Int) + 1) = ((z + 1 : Nat) : Int) := by rw [IntKind.wrap_i64]; have := HE.out; omega
                  have HZ1 : Hid (xs + (t + 1) = z + 1 ∧ t < m ∧ ¬ 0 ≤ ch) := hid ⟨by omega, hgo.2, by omega⟩
                  have HT1 : Hid (Row (wr.setCell ⟨g11, z, none⟩ (.int .u8 0)) (.slice (some ⟨g11, 0, none⟩) E q11) (clr (x.bs.take E) xs (t + 1)) ∧ Kept (fun k => (Value.slice (some ⟨g11, 0, none⟩) E q11).ownBlock = some k) w11 (wr.setCell ⟨g11, z, none⟩ (.int .u8 0))) := hid ⟨by rw [clr_snoc, ← hz]; exact HT.out.1.lay z 0, HT.out.2.setCell _ _ (.inl rfl)⟩
                  clear hz hgo hzE hcl
                  go_wp2_with fail
                  go_roundg (gk - 1)
                  case measure => have := HZ1.out; omega
                  case rel => exact ⟨t + 1, by rw [HZ1.out.1]; go_num, by have := HZ1.out; omega, by have := HZ1.out; omega, fun e => (by have := HZ1.out; omega), HT1⟩
                · have hBS : clr (x.bs.take E) xs t = (crF ⟨x.bs, xs⟩ ch).bs := by
                    have he := HE.out
                    have hlx := HLX.out
                    unfold crF
                    dsimp only
                    rw [← he.2.2.1]
                    by_cases hc : ch < 0
                    · have htm : t = m := by omega
                      rw [if_pos hc, htm]
                      have h9 := clr_take m (x.bs.take E) xs (by omega)
                      rw [List.take_of_length_le (by rw [clr_length]; omega), List.take_take, Nat.min_eq_left (by omega)] at h9
                      exact h9
                    · rw [if_neg hc, ht0 (by omega), ← he.1]
                      rfl
                  have HBS : Hid (clr (x.bs.take E) xs t = (crF ⟨x.bs, xs⟩ ch).bs) := hBS
                  have hcase : (decide (z < E) = true ∧ decide (ch < 0) = false) ∨ decide (z < E) = false := by
                    have he := HE.out
                    by_cases hc : ch < 0
                    · exact .inr (by simp; omega)
                    · by_cases hz9 : z < E
                      · exact .inl ⟨by simp; omega, by simp; omega⟩
                      · exact .inr (by simp; omega)
                  obtain ⟨w12, hw12⟩ : ∃ W, W = wr := ⟨_, rfl⟩
                  subst hw12
                  have hk12 : Same wo w12 := Kept.trans (Same.trans H8.out H11.out.2) HT.out.2 (fun _ _ f => f) (fun k hk e => by have := HO11.out k e; have := H8.out.size; omega)
                  have HK12 : Hid (Same wo w12) := hk12
                  have R12 := HJ.out.1.same hk12
                  have d1 : w12.cell? ⟨r, 1, none⟩ = some (.slice (some ⟨g, 0, none⟩) n1 q1) := R12.blk.cell 1
                  have d2 : w12.cell? ⟨r, 2, none⟩ = some (.slice (some ⟨g2, 0, none⟩) M q6) := R12.blk.cell 2
                  have hrow := HRW.out.1.kept hk12 (fun _ _ f => f)
                  have x0 : w12.cell? ⟨g, f * 2, none⟩ = some (.slice xa xn xc) := hk12.cell HX0.out.1 (fun f => f)
                  have x1 : w12.cell? ⟨g, f * 2 + 1, none⟩ = some (.int .i64 (xs : Nat)) := hk12.cell HX0.out.2.1 (fun f => f)
                  have k1 : w12.cell? ⟨g2, j * 2 + 1, none⟩ = some (.int .i64 (f : Nat)) := hk12.cell HX0.out.2.2 (fun f => f)
                  have f0 := hrow.frozen (f * 2)
                  have f1 := hrow.frozen (f * 2 + 1)
                  obtain ⟨w13, hw13⟩ : ∃ W, W = (w12.setCell ⟨g, f * 2, none⟩ (.slice a11 E q11)).setCell ⟨g, f * 2 + 1, none⟩ (.int .i64 (E : Nat)) := ⟨_, rfl⟩
                  have hfF := HRW.out.2.2.2
                  have hFx : F2[f] = x := by have h9 := HX.out; rw [List.getElem?_eq_getElem hfF] at h9; simpa using h9
                  have k13 : Kept (fun k => (Value.slice (some ⟨g, 0, none⟩) n1 q1).ownBlock = some k) w12 w13 := by rw [hw13]; exact ((Kept.refl (fun k => (Value.slice (some ⟨g, 0, none⟩) n1 q1).ownBlock = some k) w12).setCell ⟨g, f * 2, none⟩ _ (.inl rfl)).setCell ⟨g, f * 2 + 1, none⟩ _ (.inl rfl)
                  have hr13 : RowC N 80 2 fvE w13 (.slice (some ⟨g, 0, none⟩) n1 q1) (F2.set f ⟨a11, E, q11, (crF ⟨x.bs, xs⟩ ch).bs, E⟩) := by
                    rw [hw13]
                    have h9 := (hrow.setB f a11 E q11 (crF ⟨x.bs, xs⟩ ch).bs hfF).setS f E (by rw [List.length_set]; exact hfF)
                    rw [List.set_set, List.getElem_set_self] at h9
                    exact h9
                  have ho := HO.out
                  have he := HE.out
                  have hcr := crF_ok ⟨x.bs, xs⟩ ch (by show xs ≤ x.bs.length; omega)
                  have hRow12 : Row w12 (.slice a11 E q11) (crF ⟨x.bs, xs⟩ ch).bs := by rw [← hBS]; exact HT.out.1
                  obtain ⟨R13, M13, K13⟩ := HJ.out.1.newRow (by have := HQ.out; have := HJ.out.2.2.2.1.size; omega) hfF hk12 hRow12 (fun k e => by have := HO11.out k e; have := H8.out.size; omega) k13 hr13 (Nat.le_refl _) (fun b hb => by
                    rcases hcr.2.2 b hb with h9 | h9
                    · rw [h9]; decide
                    · exact ho.2.2.2.2.1 b h9) (by show E ≤ s1.room; omega)
                  have hsame : (⟨(crF ⟨x.bs, xs⟩ ch).bs, E⟩ : Fl) = crF (fl2 f) (pkN cs (j + 1)) := by
                    rw [ho.2.2.2.2.2.2.2.2.2, ← HCR.out]
                    have h9 : (crF ⟨x.bs, xs⟩ ch).safe = E := by
                      show xs + sayN ch (x.bs.length - xs) = E
                      rw [← he.2.2.1, ← he.1]
                    rw [← h9]
                  have H13 : Hid (Rf N w13 r { s1 with names := L, fl := updF fl2 f (crF (fl2 f) (pkN cs (j + 1))) } (F2.set f ⟨a11, E, q11, (crF ⟨x.bs, xs⟩ ch).bs, E⟩) (giveR ρ3 (.slice a11 E q11) 9) (.slice (some ⟨g, 0, none⟩) n1 q1) (.slice (some ⟨g2, 0, none⟩) M q6) (.slice a3 n3 q3) (.slice a4 n4 q4) ∧ MoR w ρ (giveR ρ3 (.slice a11 E q11) 9) ∧ Kept (fun k => ρ k ≠ 0 ∧ ρ k ≠ 9) w w13 ∧ craFl cs (j + 1) (L.drop (j + 1)) (updF fl2 f (crF (fl2 f) (pkN cs (j + 1)))) = craFl cs 0 L s1.fl) := by
                    refine hid ⟨?_, HJ.out.2.2.1.trans M13 HJ.out.2.2.2.1.size, Kept.trans HJ.out.2.2.2.1 K13 (fun _ _ e => e) (fun k hk e => ?_), ?_⟩
                    · rw [← hsame]; exact R13
                    · rcases HJ.out.2.2.1 k with h8 | h8 | h8
                      · exact absurd h8 e.1
                      · rw [h8] at e; exact e
                      · omega
                    · rw [← HJ.out.2.1, craFl_step cs L j HJ1.out.2, ← HFJ.out HJ1.out.2]
                  clear hz hgo hBS hk12 R12 hrow hfF hFx k13 hr13 ho he hcr hRow12 R13 M13 K13 hsame
                  rcases hcase with ⟨b1, b2⟩ | b1
                  all_goals
                    go_wp2_with fail
                    go_region
                    all_goals
                      rw [← hw13]
                      clear hw13 x0 x1 k1 f0 f1 d1 d2
                      go_wp2_with fail
                      go_roundg (gk0 - 1)
                      case measure => have := HJ1.out; omega
                      case rel => exact ⟨j + 1, F2.set f ⟨a11, E, q11, (crF ⟨x.bs, xs⟩ ch).bs, E⟩, giveR ρ3 (.slice a11 E q11) 9, updF fl2 f (crF (fl2 f) (pkN cs (j + 1))), by go_num, by have := HJ1.out; omega, by have := HJ1.out; omega, hid ⟨H13.out.1.same (show Same w13 w13.drew from (Kept.refl _ _).drew), H13.out.2.2.2, H13.out.2.1, H13.out.2.2.1.drew, by rw [List.length_set]; exact HJ.out.2.2.2.2⟩⟩
          · have b1 : decide (j < M) = false := by simp; omega
            have hjM : j = M := by omega
            have hfl : fl2 = craFl cs 0 L s1.fl := by
              rw [← HJ.out.2.1, List.drop_eq_nil_of_le (by have := HS2.out; omega)]
              rfl
            obtain ⟨w14, hw14⟩ : ∃ W, W = wr := ⟨_, rfl⟩
            subst hw14
            have HW := rwithout_any w14 N _ L HJ.out.1.now (by have := HS2.out; omega) ⟨#[]⟩
            rw [delN_empty (t := ⟨#[]⟩) rfl HJ.out.1.ne.1] at HW
            have HFL : Hid (fl2 = craFl cs 0 L s1.fl) := hfl
            clear hlt hjM hfl
            go_wp2_with fail
            refine HW.mono ?_
            rintro e w15 ⟨v15, rfl, hr15, hk15⟩
            have hb15 := HJ.out.1.blk.kept hk15 (fun f => f)
            have e3 := hb15.cell 3
            have e4 := hb15.cell 4
            have z3 := hb15.frozen 3
            have z4 := hb15.frozen 4
            simp at e3 e4
            obtain ⟨a15, m15, q15, e15⟩ : ∃ a n q, v15 = Value.slice a n q := by
              obtain ⟨a, q, e, _⟩ := hr15.shape
              exact ⟨a, _, q, e⟩
            subst e15
            obtain ⟨w16, hw16⟩ : ∃ W, W = (w15.setCell ⟨r, 3, none⟩ (.slice a15 m15 q15)).setCell ⟨r, 4, none⟩ (.slice none 0 0) := ⟨_, rfl⟩
            have k16 : Kept (· = r) w15 w16 := by rw [hw16]; exact ((Kept.refl (· = r) w15).setCell _ _ (.inl rfl)).setCell _ _ (.inl rfl)
            have hb16 : Blk w16 r #[.int .i64 (s1.room : Nat), fv, .slice a6 M q6, .slice a15 m15 q15, .slice none 0 0, .int .i64 (s1.steps : Nat), .int .i64 s1.left] 67 := by
              rw [hw16]
              have h9 := (hb15.set 3 (.slice a15 m15 q15)).set 4 (.slice none 0 0)
              simpa using h9
            obtain ⟨R16, M16, K16⟩ := HJ.out.1.syncs (by have := HQ.out; have := HJ.out.2.2.2.1.size; omega) hk15 hr15 k16 hb16
            have hcra : ({ s1 with names := L, fl := fl2, safe := L, chg := [] } : Ds) = craS s cs := by
              rw [← HQ.out.2.2.2.2.2.2.2.1]
              unfold craS cr0S
              rw [HFL.out, ← HS2.out.1, HQ.out.2.2.2.2.2.2.2.2]
            have H16 : Hid (RfX N w16 r (craS s cs) F2 (giveR ρ3 (.slice a15 m15 q15) 4) ∧ MoR w ρ (giveR ρ3 (.slice a15 m15 q15) 4) ∧ Kept (fun k => ρ k ≠ 0 ∧ ρ k ≠ 9) w w16) := by
              refine hid ⟨⟨_, _, _, _, by rw [← hcra]; exact R16, ?_⟩, HJ.out.2.2.1.trans M16 HJ.out.2.2.2.1.size, Kept.trans HJ.out.2.2.2.1 K16 (fun _ _ e => e) (fun k hk e => ?_)⟩
              · rw [← hcra, HJ.out.2.2.2.2]; exact HQ.out.2.2.2.2.2.2.1
              · rcases HJ.out.2.2.1 k with h8 | h8 | h8
                · exact absurd h8 e.1
                · rw [h8] at e; exact e
                · omega
            clear HW hr15 hk15 hb15 k16 hb16 R16 M16 K16 hcra
            go_wp2_with fail
            rw [← hw16]
            clear hw16
            go_end0
            exact ⟨rfl, _, _, H16.out⟩

end

end Go.Proofs.Ytjcobogajkfnmaa

/-
  Layer 9: the reference's Clone.
-/
namespace Go.Proofs.Ytjcobogajkfnmaa
open Go.RowKit Go.Maps

section
variable {N : Nat} {w : World} {r : Nat} {s : Ds} {F : List Fv} {ρ : Rho} {fv nv sv cv : Value}

/-- The blocks of a clone: its own, and the bytes of files, which it shares. -/
def clnR (ρ : Rho) (x : Nat) (f2 n2 s2 c2 : Value) : Rho := fun k => if k = x then 1 else if f2.ownBlock = some k then 2 else if n2.ownBlock = some k then 3 else if s2.ownBlock = some k then 4 else if c2.ownBlock = some k then 5 else if ρ k = 9 then 9 else 0

theorem Rf.clone (h : Rf N w r s F ρ fv nv sv cv) (hN : N ≤ w.heap.size) {w' : World} (hk : Same w w') {x : Nat} {f2 n2 s2 c2 : Value} (hx : w.heap.size ≤ x) (hx2 : x < w'.heap.size)
    (hb : Blk w' x #[.int .i64 (s.room : Nat), f2, n2, s2, c2, .int .i64 (s.steps : Nat), .int .i64 s.left] 67)
    (h1 : RowC w.heap.size 80 2 fvE w' f2 F) (h2 : RowC w.heap.size 99 2 nnE w' n2 s.names) (h3 : RowC w.heap.size 99 2 nnE w' s2 s.safe) (h4 : RowC w.heap.size 83 4 rcE w' c2 s.chg)
    (o1 : ∀ k, f2.ownBlock = some k → k ≠ x) (o2 : ∀ k, n2.ownBlock = some k → k ≠ x ∧ ¬ f2.ownBlock = some k) (o3 : ∀ k, s2.ownBlock = some k → k ≠ x ∧ ¬ f2.ownBlock = some k ∧ ¬ n2.ownBlock = some k) (o4 : ∀ k, c2.ownBlock = some k → k ≠ x ∧ ¬ f2.ownBlock = some k ∧ ¬ n2.ownBlock = some k ∧ ¬ s2.ownBlock = some k) :
    ∃ ρ', Rf N w' x s F ρ' f2 n2 s2 c2 ∧ ∀ k, ρ' k ≠ 0 → (ρ k = 9 ∧ ρ' k = 9) ∨ w.heap.size ≤ k := by
  have hold : ∀ k, k < w.heap.size → clnR ρ x f2 n2 s2 c2 k = if ρ k = 9 then 9 else 0 := fun k hk2 => by
    unfold clnR
    rw [if_neg (by omega), if_neg (fun e => by have := h1.ge e; omega), if_neg (fun e => by have := h2.ge e; omega), if_neg (fun e => by have := h3.ge e; omega), if_neg (fun e => by have := h4.ge e; omega)]
  have h9 : ∀ k, ρ k = 9 → clnR ρ x f2 n2 s2 c2 k = 9 := fun k e => by rw [hold k (h.new k (by rw [e]; decide)).2, if_pos e]
  refine ⟨clnR ρ x f2 n2 s2 c2, ⟨hb, h1.base hN, h2.base hN, h3.base hN, h4.base hN, fun k y e => ?_, h.nmf, h.sff, h.chf, if_pos rfl, fun k e => ?_, fun k e => ?_, fun k e => ?_, fun k e => ?_, fun k e => ?_, h.room, h.lens, h.left, h.ne⟩, fun k e => ?_⟩
  · obtain ⟨e1, e2⟩ := h.fl k y e
    exact ⟨e1, (e2.src.kept hk (fun _ _ _ f => f)).mono h9, e2.len, e2.nil, e2.cap, e2.safe, e2.byte, e2.room⟩
  · unfold clnR; rw [if_neg (o1 k e), if_pos e]
  · unfold clnR; rw [if_neg (o2 k e).1, if_neg (o2 k e).2, if_pos e]
  · unfold clnR; rw [if_neg (o3 k e).1, if_neg (o3 k e).2.1, if_neg (o3 k e).2.2, if_pos e]
  · unfold clnR; rw [if_neg (o4 k e).1, if_neg (o4 k e).2.1, if_neg (o4 k e).2.2.1, if_neg (o4 k e).2.2.2, if_pos e]
  · by_cases e1 : k < w.heap.size
    · rw [hold k e1] at e
      by_cases e2 : ρ k = 9
      · exact ⟨(h.new k (by rw [e2]; decide)).1, Nat.lt_of_lt_of_le e1 hk.size⟩
      · exact absurd (if_neg e2) e
    · refine ⟨by omega, ?_⟩
      unfold clnR at e
      by_cases a1 : k = x
      · rw [a1]; exact hx2
      rw [if_neg a1] at e
      by_cases a2 : f2.ownBlock = some k
      · exact h1.lt a2
      rw [if_neg a2] at e
      by_cases a3 : n2.ownBlock = some k
      · exact h2.lt a3
      rw [if_neg a3] at e
      by_cases a4 : s2.ownBlock = some k
      · exact h3.lt a4
      rw [if_neg a4] at e
      by_cases a5 : c2.ownBlock = some k
      · exact h4.lt a5
      rw [if_neg a5] at e
      by_cases a6 : ρ k = 9
      · have := (h.new k (by rw [a6]; decide)).2; omega
      · exact absurd (if_neg a6) e
  · by_cases e1 : k < w.heap.size
    · rw [hold k e1] at e ⊢
      by_cases e2 : ρ k = 9
      · exact .inl ⟨e2, if_pos e2⟩
      · exact absurd (if_neg e2) e
    · exact .inr (by omega)

set_option maxRecDepth 100000 in
set_option maxHeartbeats 4000000 in
theorem rclone_any (h : Rf N w r s F ρ fv nv sv cv) (hst : s.steps ≤ 1000000) (hN : N ≤ w.heap.size) (hF : F.length ≤ s.steps) :
    Calls Try.prog 14 #[.pointer (some ⟨r, 0, none⟩)] w fun e w' => ∃ x ρ', e = .returned (.pointer (some ⟨x, 0, none⟩)) ∧ RfX N w' x s F ρ' ∧ Same w w' ∧ ∀ k, ρ' k ≠ 0 → (ρ k = 9 ∧ ρ' k = 9) ∨ w.heap.size ≤ k := by
  obtain ⟨a1, n1, q1, hfv⟩ : ∃ a n q, fv = .slice a n q := by
    obtain ⟨a, q, e, _⟩ := h.fil.shape
    exact ⟨a, _, q, e⟩
  subst hfv
  obtain ⟨a2, n2, q2, hnv⟩ : ∃ a n q, nv = .slice a n q := by
    obtain ⟨a, q, e, _⟩ := h.now.shape
    exact ⟨a, _, q, e⟩
  subst hnv
  obtain ⟨a3, n3, q3, hsv⟩ : ∃ a n q, sv = .slice a n q := by
    obtain ⟨a, q, e, _⟩ := h.saf.shape
    exact ⟨a, _, q, e⟩
  subst hsv
  obtain ⟨a4, n4, q4, hcv⟩ : ∃ a n q, cv = .slice a n q := by
    obtain ⟨a, q, e, _⟩ := h.chg.shape
    exact ⟨a, _, q, e⟩
  subst hcv
  have c0 : w.cell? ⟨r, 0, none⟩ = some (.int .i64 (s.room : Nat)) := h.blk.cell 0
  have c1 : w.cell? ⟨r, 1, none⟩ = some (.slice a1 n1 q1) := h.blk.cell 1
  have c2 : w.cell? ⟨r, 2, none⟩ = some (.slice a2 n2 q2) := h.blk.cell 2
  have c3 : w.cell? ⟨r, 3, none⟩ = some (.slice a3 n3 q3) := h.blk.cell 3
  have c4 : w.cell? ⟨r, 4, none⟩ = some (.slice a4 n4 q4) := h.blk.cell 4
  have c5 : w.cell? ⟨r, 5, none⟩ = some (.int .i64 (s.steps : Nat)) := h.blk.cell 5
  have c6 : w.cell? ⟨r, 6, none⟩ = some (.int .i64 s.left) := h.blk.cell 6
  have HD : Hid (Rf N w r s F ρ (.slice a1 n1 q1) (.slice a2 n2 q2) (.slice a3 n3 q3) (.slice a4 n4 q4)) := h
  obtain ⟨x, hx⟩ : ∃ x, x = w.heap.size := ⟨_, rfl⟩
  obtain ⟨rm, hrm⟩ : ∃ x, x = s.room := ⟨_, rfl⟩
  obtain ⟨st, hstp⟩ : ∃ x, x = s.steps := ⟨_, rfl⟩
  obtain ⟨lf, hlf⟩ : ∃ x, x = s.left := ⟨_, rfl⟩
  rw [← hrm] at c0
  rw [← hstp] at c5
  rw [← hlf] at c6
  obtain ⟨w0, hw0⟩ : ∃ W, W = w.alloc (.cells #[.int .i64 (rm : Nat), .slice none 0 0, .slice a2 n2 q2, .slice a3 n3 q3, .slice a4 n4 q4, .int .i64 (st : Nat), .int .i64 lf] 67) := ⟨_, rfl⟩
  have hsz0 : w0.heap.size = x + 1 := by rw [hw0, hx]; simp
  have H0 : Hid (Same w w0 ∧ Blk w0 x #[.int .i64 (rm : Nat), .slice none 0 0, .slice a2 n2 q2, .slice a3 n3 q3, .slice a4 n4 q4, .int .i64 (st : Nat), .int .i64 lf] 67 ∧ w0.heap.size = x + 1 ∧ x = w.heap.size) := hid ⟨by rw [hw0]; exact (Kept.refl _ _).alloc _, by rw [hw0, hx]; exact Blk.new w _ _, hsz0, hx⟩
  have HN : Hid (n1 = F.length ∧ n4 = s.chg.length ∧ n1 ≤ 2000000 ∧ n4 ≤ 1000000 ∧ s.steps ≤ 1000000 ∧ N ≤ w.heap.size ∧ F.length ≤ s.steps ∧ rm = s.room ∧ st = s.steps ∧ lf = s.left) := hid (by
    have h1 : n1 = F.length := by
      obtain ⟨a, q, e, _⟩ := h.fil.shape
      simp only [Value.slice.injEq] at e
      omega
    have h4 : n4 = s.chg.length := by
      obtain ⟨a, q, e, _⟩ := h.chg.shape
      simp only [Value.slice.injEq] at e
      omega
    have h9 := h.lens
    exact ⟨h1, h4, by omega, by omega, hst, hN, hF, hrm, hstp, hlf⟩)
  clear h hst hN hF hrm hstp hlf hsz0
  go_enter Try.func14, Try.ntmps14
  go_wp2_with fail
  rw [← hw0, ← hx]
  clear hw0 hx c0 c1 c2 c3 c4 c5 c6
  go_loopg [4] n1 (fun qq z wr => ∃ (i : Nat) (f2 : Value), z = .int .i64 (i : Nat) ∧ i ≤ n1 ∧ n1 - i ≤ qq ∧ Hid (Blk wr x #[.int .i64 (rm : Nat), f2, .slice a2 n2 q2, .slice a3 n3 q3, .slice a4 n4 q4, .int .i64 (st : Nat), .int .i64 lf] 67 ∧ RowC w0.heap.size 80 2 fvE wr f2 (F.take i) ∧ Kept (· = x) w0 wr))
  case atStart => exact ⟨0, _, rfl, by omega, by omega, hid ⟨H0.out.2.1, RowC.nil, Kept.refl _ _⟩⟩
  case round =>
    obtain ⟨i, f2, rfl, hi, hiq, HI⟩ := hrel
    have hsw : Same w wr := Kept.trans H0.out.1 HI.out.2.2 (fun _ _ f => f) (fun k hk e => by have := H0.out; omega)
    have HSW : Hid (Same w wr) := hsw
    obtain ⟨af, nf, qf, ef⟩ : ∃ a n q, f2 = Value.slice a n q := by
      obtain ⟨a, q, e, _⟩ := HI.out.2.1.shape
      exact ⟨a, _, q, e⟩
    subst ef
    have d1 : wr.cell? ⟨r, 1, none⟩ = some (.slice a1 n1 q1) := (HD.out.same hsw).blk.cell 1
    by_cases hlt : i < n1
    · have b1 : decide (i < n1) = true := by simp; omega
      have hiF : i < F.length := by have := HN.out; omega
      obtain ⟨g, p1, hfv, k0, k1, _, _⟩ := (HD.out.same hsw).filAt i hiF
      simp only [Value.slice.injEq] at hfv
      have hfv1 := hfv.1
      subst hfv1
      obtain ⟨y, hy⟩ : ∃ y, y = F[i] := ⟨_, rfl⟩
      rw [← hy] at k0 k1
      have HT : Hid (F.take (i + 1) = F.take i ++ [y]) := hid (by rw [List.take_add_one, List.getElem?_eq_getElem hiF, hy]; rfl)
      obtain ⟨xa, hxa⟩ : ∃ a, a = y.a := ⟨_, rfl⟩
      obtain ⟨xn, hxn⟩ : ∃ a, a = y.n := ⟨_, rfl⟩
      obtain ⟨xc, hxc⟩ : ∃ a, a = y.c := ⟨_, rfl⟩
      obtain ⟨xs, hxs⟩ : ∃ a, a = y.safe := ⟨_, rfl⟩
      rw [← hxa, ← hxn, ← hxc] at k0
      rw [← hxs] at k1
      have e1 : wr.cell? ⟨x, 1, none⟩ = some (.slice af nf qf) := HI.out.1.cell 1
      have e1a : (wr.alloc (.cells #[.slice xa xn xc, .int .i64 (xs : Nat)] 80)).cell? ⟨x, 1, none⟩ = some (.slice af nf qf) := (show Same wr _ from (Kept.refl _ _).alloc _).cell e1 (fun f => f)
      have HCA : Hid (CellsAt (wr.alloc (.cells #[.slice xa xn xc, .int .i64 (xs : Nat)] 80)) ⟨wr.heap.size, 0, none⟩ ([y].flatMap fvE)) := hid (by
        rw [hxa, hxn, hxc, hxs]
        intro j u hj
        match j, hj with
        | 0, hj => simp [fvE] at hj; subst hj; simp [addAt]
        | 1, hj => simp [fvE] at hj; subst hj; simp [addAt]
        | j + 2, hj => simp [fvE] at hj)
      have HR3 : Hid (∀ w', Same wr w' → RowC w0.heap.size 80 2 fvE w' (.slice af nf qf) (F.take i)) := hid (fun w' hk => HI.out.2.1.kept hk (fun _ _ f => f))
      have HLN : Hid ((F.take i).length + [y].length ≤ 1000000000 ∧ w0.heap.size ≤ wr.heap.size) := hid ⟨by rw [List.length_take]; have := HN.out; simp; omega, HI.out.2.2.size⟩
      have HOX : Hid (∀ k, (Value.slice af nf qf).ownBlock = some k → k ≠ x ∧ w0.heap.size ≤ k) := hid (fun k e => by have := HI.out.2.1.ge e; have := H0.out; omega)
      have i1 : (0 : Int) ≤ (i : Int) := by omega
      have i2 : (i : Int) < (n1 : Int) := by omega
      have hiw : IntKind.i64.wrap ((i : Int) + 1) = ((i + 1 : Nat) : Int) := by rw [IntKind.wrap_i64]; have := HN.out; omega
      have HX : Hid (i < n1) := hlt
      clear hlt hiF hy hxa hxn hxc hxs hsw hfv
      go_wp2_with fail
      go_region_law (refine step_append_b fvE 2 fvE_ok w0.heap.size 63 80 (.agg #[.slice none 0 0, .int .i64 0]) 32 Try.underlying63 Try.infoFv9 rfl (by decide) (by rfl) (.tmp 20) (.tmp 28) (by rfl) (.slice af nf qf) (F.take i) (by rfl) (HR3.out _ (by first | exact ((Kept.refl _ _).drew).alloc _ | exact ((Kept.refl _ _).alloc _).drew | exact (Kept.refl _ _).alloc _)) ⟨wr.heap.size, 0, none⟩ 1 1 [y] (by rfl) (by rfl) (by decide) HCA.out HLN.out.1 (by have := HLN.out.2; simp; omega) ?_; intro v5 w5 hr5 hg5 hb5; have hk5 : Kept (fun k => (Value.slice af nf qf).ownBlock = some k) wr w5 := Kept.trans (show Same wr (wr.alloc (.cells #[.slice xa xn xc, .int .i64 (xs : Nat)] 80)).drew from ((Kept.refl _ _).alloc _).drew) ((Kept.refl _ _).grown hg5 (fun k e => .inl e)) (fun _ _ f => f.elim) (fun _ _ e => e); have hB5 := HI.out.1.kept hk5 (fun e => (HOX.out x e).1 rfl); have z5 := hB5.frozen 1; have d5 := hB5.cell 1; simp at d5; have HB5 := hid hB5; have HR5 := hid hr5; have HK5 := hid hk5; obtain ⟨a6, n6, q6, e6⟩ : ∃ a n q, v5 = Value.slice a n q := (by obtain ⟨a, q, e, _⟩ := hr5.shape; exact ⟨a, _, q, e⟩); subst e6; clear hg5 hr5 hk5 hb5 hB5)
      all_goals
        obtain ⟨w6, hw6⟩ : ∃ W, W = w5.setCell ⟨x, 1, none⟩ (.slice a6 n6 q6) := ⟨_, rfl⟩
        have H6 : Hid (Blk w6 x #[.int .i64 (rm : Nat), .slice a6 n6 q6, .slice a2 n2 q2, .slice a3 n3 q3, .slice a4 n4 q4, .int .i64 (st : Nat), .int .i64 lf] 67 ∧ RowC w0.heap.size 80 2 fvE w6 (.slice a6 n6 q6) (F.take (i + 1)) ∧ Kept (· = x) w0 w6) := by
          have k6 : Kept (· = x) w5 w6 := by rw [hw6]; exact (Kept.refl (· = x) w5).setCell _ _ (.inl rfl)
          refine hid ⟨?_, ?_, Kept.trans (Kept.trans HI.out.2.2 HK5.out (fun _ _ e => e) (fun k hk e => by have := (HOX.out k e).2; omega)) k6 (fun _ _ e => e) (fun _ _ e => e)⟩
          · rw [hw6]
            have h9 := HB5.out.set 1 (.slice a6 n6 q6)
            simpa using h9
          · rw [HT.out]
            exact HR5.out.kept k6 (fun k e e2 => by have := HR5.out.ge e; have := H0.out; omega)
        clear z5 d5
        go_wp2_with fail
        rw [← hw6]
        go_roundg (gk - 1)
        case measure => have := HX.out; omega
        case rel => exact ⟨i + 1, _, by go_num, by have := HX.out; omega, by have := HX.out; omega, H6⟩
    · have b1 : decide (i < n1) = false := by simp; omega
      have hall : F.take i = F := List.take_of_length_le (by have := HN.out; omega)
      have HF2 : Hid (RowC w0.heap.size 80 2 fvE wr (.slice af nf qf) F) := hid (by have h9 := HI.out.2.1; rw [hall] at h9; exact h9)
      have d2 : wr.cell? ⟨r, 2, none⟩ = some (.slice a2 n2 q2) := (HD.out.same hsw).blk.cell 2
      have HW := rwithout_any wr N _ s.names (HD.out.same hsw).now (by have := HD.out.lens; have := HN.out; omega) ⟨#[]⟩
      rw [delN_empty (t := ⟨#[]⟩) rfl HD.out.ne.1] at HW
      clear hlt hall hsw
      go_wp2_with fail
      refine HW.mono ?_
      rintro e w7 ⟨v7, rfl, hr7, hk7⟩
      obtain ⟨a7, m7, q7, e7⟩ : ∃ a n q, v7 = Value.slice a n q := by
        obtain ⟨a, q, e, _⟩ := hr7.shape
        exact ⟨a, _, q, e⟩
      subst e7
      have hb7 := HI.out.1.kept hk7 (fun f => f)
      have g2 := hb7.cell 2
      have z2 := hb7.frozen 2
      simp at g2
      obtain ⟨w8, hw8⟩ : ∃ W, W = w7.setCell ⟨x, 2, none⟩ (.slice a7 m7 q7) := ⟨_, rfl⟩
      have hxr : x < wr.heap.size := by have := H0.out; have := HI.out.2.2.size; omega
      have k8 : Kept (· = x) w7 w8 := by rw [hw8]; exact (Kept.refl (· = x) w7).setCell _ _ (.inl rfl)
      have H8 : Hid (Blk w8 x #[.int .i64 (rm : Nat), .slice af nf qf, .slice a7 m7 q7, .slice a3 n3 q3, .slice a4 n4 q4, .int .i64 (st : Nat), .int .i64 lf] 67 ∧ RowC w0.heap.size 80 2 fvE w8 (.slice af nf qf) F ∧ RowC wr.heap.size 99 2 nnE w8 (.slice a7 m7 q7) s.names ∧ Kept (· = x) wr w8 ∧ x < wr.heap.size ∧ Same w w8 ∧ wr.heap.size ≤ w8.heap.size ∧ w0.heap.size ≤ wr.heap.size) := by
        have h9 := hb7.set 2 (.slice a7 m7 q7)
        refine hid ⟨by rw [hw8]; simpa using h9, (HF2.out.kept hk7 (fun _ _ f => f)).kept k8 (fun k e e2 => by have := HF2.out.ge e; have := H0.out; omega), hr7.kept k8 (fun k e e2 => by have := hr7.ge e; omega), Kept.trans hk7 k8 (fun _ _ f => f.elim) (fun _ _ e => e), hxr, Kept.trans (Same.trans HSW.out hk7) k8 (fun _ _ f => f) (fun k hk e => by have := H0.out; omega), by have := hk7.size; have := k8.size; omega, HI.out.2.2.size⟩
      have d3 : w7.cell? ⟨r, 3, none⟩ = some (.slice a3 n3 q3) := (HD.out.same (Same.trans HSW.out hk7)).blk.cell 3
      have HW2 := rwithout_any w8 N _ s.safe (HD.out.same H8.out.2.2.2.2.2.1).saf (by have := HD.out.lens; have := HN.out; omega) ⟨#[]⟩
      rw [delN_empty (t := ⟨#[]⟩) rfl HD.out.ne.2] at HW2
      obtain ⟨B1, hB1⟩ : ∃ B, B = wr.heap.size := ⟨_, rfl⟩
      rw [← hB1] at H8
      have HLT : Hid (∀ k, (Value.slice af nf qf).ownBlock = some k → k < B1) := hid (fun k e => by rw [hB1]; exact HF2.out.lt e)
      clear HW hr7 hk7 hb7 hxr k8 d2 d1 b1 hiq hB1
      go_wp2_with fail
      rw [← hw8]
      clear hw8 g2 z2 d3
      refine HW2.mono ?_
      rintro e w9 ⟨v9, rfl, hr9, hk9⟩
      obtain ⟨a9, m9, q9, e9⟩ : ∃ a n q, v9 = Value.slice a n q := by
        obtain ⟨a, q, e, _⟩ := hr9.shape
        exact ⟨a, _, q, e⟩
      subst e9
      have hb9 := H8.out.1.kept hk9 (fun f => f)
      have g3 := hb9.cell 3
      have g4 := hb9.cell 4
      have z3 := hb9.frozen 3
      have z4 := hb9.frozen 4
      simp at g3 g4
      obtain ⟨wA, hwA⟩ : ∃ W, W = (w9.setCell ⟨x, 3, none⟩ (.slice a9 m9 q9)).setCell ⟨x, 4, none⟩ (.slice none 0 0) := ⟨_, rfl⟩
      have kA : Kept (· = x) w9 wA := by rw [hwA]; exact ((Kept.refl (· = x) w9).setCell _ _ (.inl rfl)).setCell _ _ (.inl rfl)
      have hz8 : B1 ≤ w8.heap.size ∧ x < w8.heap.size := by
        have h8 := H8.out.2.2.2.2.1
        have h9 := H8.out.2.2.2.2.2.2.1
        exact ⟨h9, by omega⟩
      have HA : Hid (Blk wA x #[.int .i64 (rm : Nat), .slice af nf qf, .slice a7 m7 q7, .slice a9 m9 q9, .slice none 0 0, .int .i64 (st : Nat), .int .i64 lf] 67 ∧ RowC w0.heap.size 80 2 fvE wA (.slice af nf qf) F ∧ RowC B1 99 2 nnE wA (.slice a7 m7 q7) s.names ∧ RowC w8.heap.size 99 2 nnE wA (.slice a9 m9 q9) s.safe ∧ x < B1 ∧ Same w wA ∧ (∀ k, (Value.slice a7 m7 q7).ownBlock = some k → k < w8.heap.size) ∧ B1 ≤ w8.heap.size ∧ w8.heap.size ≤ wA.heap.size ∧ w0.heap.size ≤ B1) := by
        have h9 := (hb9.set 3 (.slice a9 m9 q9)).set 4 (.slice none 0 0)
        refine hid ⟨by rw [hwA]; simpa using h9, (H8.out.2.1.kept hk9 (fun _ _ f => f)).kept kA (fun k e e2 => by have := H8.out.2.1.ge e; have := H0.out; omega), (H8.out.2.2.1.kept hk9 (fun _ _ f => f)).kept kA (fun k e e2 => by have := H8.out.2.2.1.ge e; have := H8.out.2.2.2.2.1; omega), hr9.kept kA (fun k e e2 => by have := hr9.ge e; omega), H8.out.2.2.2.2.1, Kept.trans (Same.trans H8.out.2.2.2.2.2.1 hk9) kA (fun _ _ f => f) (fun k hk e => by have := H0.out; omega), fun k e => H8.out.2.2.1.lt e, hz8.1, by have := hk9.size; have := kA.size; omega, H8.out.2.2.2.2.2.2.2⟩
      clear HW2 hr9 hk9 hb9 kA hz8
      go_wp2_with fail
      rw [← hwA]
      clear hwA g3 g4 z3 z4
      have HRR : Hid (Rf N wA r s F ρ (.slice a1 n1 q1) (.slice a2 n2 q2) (.slice a3 n3 q3) (.slice a4 n4 q4)) := hid (HD.out.same HA.out.2.2.2.2.2.1)
      go_loopg [5] n4 (fun qq z wr => ∃ (i : Nat) (c2 : Value), z = .int .i64 (i : Nat) ∧ i ≤ n4 ∧ n4 - i ≤ qq ∧ Hid (Blk wr x #[.int .i64 (rm : Nat), .slice af nf qf, .slice a7 m7 q7, .slice a9 m9 q9, c2, .int .i64 (st : Nat), .int .i64 lf] 67 ∧ RowC wA.heap.size 83 4 rcE wr c2 (s.chg.take i) ∧ Kept (· = x) wA wr))
      case atStart => exact ⟨0, _, rfl, by omega, by omega, hid ⟨HA.out.1, RowC.nil, Kept.refl _ _⟩⟩
      case round =>
        obtain ⟨j, c2, rfl, hj, hjq, HJ⟩ := hrel
        have hrx : ¬ r = x := fun e => by have h8 := (HD.out.new r (by rw [HD.out.rb]; decide)).2; have := H0.out; omega
        have hsw : Same w wr := Kept.trans HA.out.2.2.2.2.2.1 HJ.out.2.2 (fun _ _ f => f) (fun k hk e => by have := H0.out; omega)
        have HSJ : Hid (Same w wr) := hsw
        obtain ⟨af4, nf4, qf4, ef⟩ : ∃ a n q, c2 = Value.slice a n q := by
          obtain ⟨a, q, e, _⟩ := HJ.out.2.1.shape
          exact ⟨a, _, q, e⟩
        subst ef
        have d4 : wr.cell? ⟨r, 4, none⟩ = some (.slice a4 n4 q4) := (HD.out.same hsw).blk.cell 4
        by_cases hlt : j < n4
        · have b1 : decide (j < n4) = true := by simp; omega
          have hjC : j < s.chg.length := by have := HN.out; omega
          obtain ⟨g, hg⟩ : ∃ g, a4 = some ⟨g, 0, none⟩ := by
            obtain ⟨a, q, e, h8, _⟩ := HD.out.chg.shape
            simp only [Value.slice.injEq] at e
            obtain ⟨g, hg⟩ := h8 (fun e => by rw [e] at hjC; simp at hjC)
            exact ⟨g, by rw [e.1, hg]⟩
          subst hg
          obtain ⟨c, hc⟩ : ∃ c, c = s.chg[j] := ⟨_, rfl⟩
          obtain ⟨kd, hkd⟩ : ∃ k, k = kdN c := ⟨_, rfl⟩
          have hRr : RowC N 83 4 rcE wr (.slice (some ⟨g, 0, none⟩) n4 q4) s.chg := (HD.out.same hsw).chg
          have k0 : wr.cell? ⟨g, j * 4, none⟩ = some (.int .i64 (kd : Nat)) := by have h9 := hRr.cell rcE_ok j 0 hjC (by decide); rw [← hc] at h9; rw [hkd]; exact h9
          have k1 : wr.cell? ⟨g, j * 4 + 1, none⟩ = some (.string c.src) := by have h9 := hRr.cell rcE_ok j 1 hjC (by decide); rw [← hc] at h9; exact h9
          have k2 : wr.cell? ⟨g, j * 4 + 2, none⟩ = some (.string c.dst) := by have h9 := hRr.cell rcE_ok j 2 hjC (by decide); rw [← hc] at h9; exact h9
          have k3 : wr.cell? ⟨g, j * 4 + 3, none⟩ = some (.int .i64 (c.f : Nat)) := by have h9 := hRr.cell rcE_ok j 3 hjC (by decide); rw [← hc] at h9; exact h9
          have HT : Hid (s.chg.take (j + 1) = s.chg.take j ++ [c]) := hid (by rw [List.take_add_one, List.getElem?_eq_getElem hjC, hc]; rfl)
          have e4 : wr.cell? ⟨x, 4, none⟩ = some (.slice af4 nf4 qf4) := HJ.out.1.cell 4
          have e4a : (wr.alloc (.cells #[.int .i64 (kd : Nat), .string c.src, .string c.dst, .int .i64 (c.f : Nat)] 83)).cell? ⟨x, 4, none⟩ = some (.slice af4 nf4 qf4) := (show Same wr _ from (Kept.refl _ _).alloc _).cell e4 (fun f => f)
          have HCA : Hid (CellsAt (wr.alloc (.cells #[.int .i64 (kd : Nat), .string c.src, .string c.dst, .int .i64 (c.f : Nat)] 83)) ⟨wr.heap.size, 0, none⟩ ([c].flatMap rcE)) := hid (cellsAt_rc wr c kd hkd)
          have HR3 : Hid (∀ w', Same wr w' → RowC wA.heap.size 83 4 rcE w' (.slice af4 nf4 qf4) (s.chg.take j)) := hid (fun w' hk => HJ.out.2.1.kept hk (fun _ _ f => f))
          have HLN : Hid ((s.chg.take j).length + [c].length ≤ 1000000000 ∧ wA.heap.size ≤ wr.heap.size) := hid ⟨by rw [List.length_take]; have := HN.out; simp; omega, HJ.out.2.2.size⟩
          have HOX : Hid (∀ k, (Value.slice af4 nf4 qf4).ownBlock = some k → k ≠ x ∧ wA.heap.size ≤ k) := hid (fun k e => by have := HJ.out.2.1.ge e; have := HA.out.2.2.2.2; omega)
          have i1 : (0 : Int) ≤ (j : Int) := by omega
          have i2 : (j : Int) < (n4 : Int) := by omega
          have hjw : IntKind.i64.wrap ((j : Int) + 1) = ((j + 1 : Nat) : Int) := by rw [IntKind.wrap_i64]; have := HN.out; omega
          have HX : Hid (j < n4) := hlt
          clear hlt hjC hc hkd hsw hRr hrx
          go_wp2_with fail
          go_region_law (refine step_append_b rcE 4 rcE_ok wA.heap.size 65 83 (.agg #[.int .i64 0, .string ⟨#[]⟩, .string ⟨#[]⟩, .int .i64 0]) 48 Try.underlying65 Try.infoRc9 rfl (by decide) (by rfl) (.tmp 54) (.tmp 62) (by rfl) (.slice af4 nf4 qf4) (s.chg.take j) (by rfl) (HR3.out _ (by first | exact ((Kept.refl _ _).drew).alloc _ | exact ((Kept.refl _ _).alloc _).drew | exact (Kept.refl _ _).alloc _)) ⟨wr.heap.size, 0, none⟩ 1 1 [c] (by rfl) (by rfl) (by decide) HCA.out HLN.out.1 (by have := HLN.out.2; simp; omega) ?_; intro v5 w5 hr5 hg5 hb5; have hk5 : Kept (fun k => (Value.slice af4 nf4 qf4).ownBlock = some k) wr w5 := Kept.trans (show Same wr (wr.alloc (.cells #[.int .i64 (kd : Nat), .string c.src, .string c.dst, .int .i64 (c.f : Nat)] 83)).drew from ((Kept.refl _ _).alloc _).drew) ((Kept.refl _ _).grown hg5 (fun k e => .inl e)) (fun _ _ f => f.elim) (fun _ _ e => e); have hB5 := HJ.out.1.kept hk5 (fun e => (HOX.out x e).1 rfl); have z5 := hB5.frozen 4; have d5 := hB5.cell 4; simp at d5; have HB5 := hid hB5; have HR5 := hid hr5; have HK5 := hid hk5; obtain ⟨a6, n6, q6, e6⟩ : ∃ a n q, v5 = Value.slice a n q := (by obtain ⟨a, q, e, _⟩ := hr5.shape; exact ⟨a, _, q, e⟩); subst e6; clear hg5 hr5 hk5 hb5 hB5)
          all_goals
            obtain ⟨w6, hw6⟩ : ∃ W, W = w5.setCell ⟨x, 4, none⟩ (.slice a6 n6 q6) := ⟨_, rfl⟩
            have H6 : Hid (Blk w6 x #[.int .i64 (rm : Nat), .slice af nf qf, .slice a7 m7 q7, .slice a9 m9 q9, .slice a6 n6 q6, .int .i64 (st : Nat), .int .i64 lf] 67 ∧ RowC wA.heap.size 83 4 rcE w6 (.slice a6 n6 q6) (s.chg.take (j + 1)) ∧ Kept (· = x) wA w6) := by
              have k6 : Kept (· = x) w5 w6 := by rw [hw6]; exact (Kept.refl (· = x) w5).setCell _ _ (.inl rfl)
              refine hid ⟨?_, ?_, Kept.trans (Kept.trans HJ.out.2.2 HK5.out (fun _ _ e => e) (fun k hk e => by have := (HOX.out k e).2; omega)) k6 (fun _ _ e => e) (fun _ _ e => e)⟩
              · rw [hw6]
                have h9 := HB5.out.set 4 (.slice a6 n6 q6)
                simpa using h9
              · rw [HT.out]
                exact HR5.out.kept k6 (fun k e e2 => by have := HR5.out.ge e; have := HA.out.2.2.2.2; omega)
            clear z5 d5
            go_wp2_with fail
            rw [← hw6]
            go_roundg (gk - 1)
            case measure => have := HX.out; omega
            case rel => exact ⟨j + 1, _, by go_num, by have := HX.out; omega, by have := HX.out; omega, H6⟩
        · have b1 : decide (j < n4) = false := by simp; omega
          have hall : s.chg.take j = s.chg := List.take_of_length_le (by have := HN.out; omega)
          have h4 := HJ.out.2.1
          rw [hall] at h4
          have hA := HA.out
          have hn := HN.out
          have h0 := H0.out
          have hbx := HJ.out.1
          rw [hn.2.2.2.2.2.2.2.1, hn.2.2.2.2.2.2.2.2.1, hn.2.2.2.2.2.2.2.2.2] at hbx
          have hsz := HJ.out.2.2.size
          obtain ⟨ρ', hR, hP⟩ := HD.out.clone (w' := wr) hn.2.2.2.2.2.1 hsw (x := x) (by omega) (by omega) hbx ((hA.2.1.kept HJ.out.2.2 (fun k e e2 => by have := hA.2.1.ge e; omega)).base (by omega)) ((hA.2.2.1.kept HJ.out.2.2 (fun k e e2 => by have := hA.2.2.1.ge e; omega)).base (by omega)) ((hA.2.2.2.1.kept HJ.out.2.2 (fun k e e2 => by have := hA.2.2.2.1.ge e; omega)).base (by omega)) (h4.base (by omega))
            (fun k e => by have := hA.2.1.ge e; omega)
            (fun k e => ⟨by have := hA.2.2.1.ge e; omega, fun e2 => by have := hA.2.2.1.ge e; have := HLT.out k e2; omega⟩)
            (fun k e => ⟨by have := hA.2.2.2.1.ge e; omega, fun e2 => by have := hA.2.2.2.1.ge e; have := HLT.out k e2; omega, fun e2 => by have := hA.2.2.2.1.ge e; have := hA.2.2.2.2.2.2.1 k e2; omega⟩)
            (fun k e => ⟨by have := h4.ge e; omega, fun e2 => by have := h4.ge e; have := HLT.out k e2; omega, fun e2 => by have := h4.ge e; have := hA.2.2.2.2.2.2.1 k e2; omega, fun e2 => by have := h4.ge e; have := hA.2.2.2.1.lt e2; omega⟩)
          have HE : Hid (RfX N wr x s F ρ' ∧ Same w wr ∧ ∀ k, ρ' k ≠ 0 → (ρ k = 9 ∧ ρ' k = 9) ∨ w.heap.size ≤ k) := hid ⟨⟨_, _, _, _, hR, hn.2.2.2.2.2.2.1⟩, hsw, hP⟩
          clear hlt hall h4 hA hn h0 hbx hsz hR hP hsw hrx
          go_wp2_with fail
          go_ret
          exact ⟨x, ρ', rfl, HE.out⟩

end

end Go.Proofs.Ytjcobogajkfnmaa

/-
  Layer 9: a disk and the reference's side by side.
-/
namespace Go.Proofs.Ytjcobogajkfnmaa
open Go.RowKit Go.Maps

/-- The error of an answer. -/
def errN (x : Except Nat Ds) : Nat := match x with | .error k => k | .ok _ => 0

/-- Two answers that are the same. -/
def AgrX (φ : Nat → Nat) (x y : Except Nat Ds) : Prop := (∃ k, x = .error k ∧ y = .error k) ∨ ∃ a b, x = .ok a ∧ y = .ok b ∧ SimD φ a b ∧ a.left = b.left

theorem AgrX.err {φ : Nat → Nat} {x y : Except Nat Ds} (h : AgrX φ x y) : errN x = errN y := by
  rcases h with ⟨k, rfl, rfl⟩ | ⟨a, b, rfl, rfl, _⟩ <;> rfl

theorem AgrX.or {φ ψ : Nat → Nat} {s q : Ds} {x y : Except Nat Ds} (h : AgrX φ x y) (hs : SimD ψ s q) (hl : s.left = q.left) : ∃ χ, SimD χ (orS s x) (orS q y) ∧ (orS s x).left = (orS q y).left := by
  rcases h with ⟨k, rfl, rfl⟩ | ⟨a, b, rfl, rfl, h1, h2⟩
  · exact ⟨ψ, hs, hl⟩
  · exact ⟨φ, h1, h2⟩

section
variable {φ : Nat → Nat} {s q : Ds}

theorem stepS_left (h : s.left = q.left) : (stepS s).left = (stepS q).left := by rw [stepL, stepL, h]

theorem SimR.agr {x y : Except Nat Ds} (h : SimR φ s q x y) (hl : s.left = q.left) : AgrX φ x y := by
  rcases h with h | ⟨a, b, h1, h2, h3, h4, h5⟩
  · exact .inl h
  · exact .inr ⟨a, b, h1, h2, h3, by rw [h4, h5, stepS_left hl]⟩

theorem SimD.remR (h : SimD φ s q) (hl : s.left = q.left) (t : ByteArray) : AgrX φ (remS s t) (remR q t) := by
  refine SimR.agr ?_ hl
  unfold remS Go.Proofs.Ytjcobogajkfnmaa.remR
  by_cases h0 : q.left = 0
  · rw [if_pos h0, if_pos (by rw [hl]; exact h0)]; exact .inl ⟨94, rfl, rfl⟩
  · rw [if_neg h0, if_neg (by rw [hl]; exact h0), h.get]
    cases hg : getN t q.names with
    | none => exact .inl ⟨92, rfl, rfl⟩
    | some k => exact .inr ⟨_, _, rfl, rfl, h.chgs rfl (fun h => absurd rfl h), rfl, rfl⟩

theorem SimD.stp (h : SimD φ s q) (hl : s.left = q.left) (m : Int) : AgrX φ (stpS s m) (stpS q m) := by
  unfold stpS
  rw [hl]
  by_cases h0 : q.left = 0
  · rw [if_pos h0, if_pos h0]; exact .inl ⟨94, rfl, rfl⟩
  · rw [if_neg h0, if_neg h0]
    by_cases h1 : m < 0
    · rw [if_pos h1, if_pos h1]; exact .inl ⟨1, rfl, rfl⟩
    · rw [if_neg h1, if_neg h1]
      exact .inr ⟨_, _, rfl, rfl, ⟨h.room, h.steps, h.names, h.safe, h.chg, h.fl, h.inj⟩, rfl⟩

theorem SimD.creA (h : SimD φ s q) (hl : s.left = q.left) (t : ByteArray) (f g : Nat) (hf : ¬ refd s f) (hg : ¬ lvd q g) : ∃ χ, AgrX χ (creS s t f) (creS q t g) := by
  rcases h.cre (by rw [hl]) t f g hf hg with h1 | ⟨a, b, h1, h2, h3, h4, h5⟩
  · exact ⟨φ, .inl h1⟩
  · exact ⟨_, .inr ⟨a, b, h1, h2, h3, by rw [h4, h5, stepS_left hl]⟩⟩

/-- A disk's clone and the same of the reference. -/
theorem SimD.cln {τ : Nat → Nat} {s' : Ds} (h : SimD φ s q) (hc : ClnS τ s s') : SimD (fun k => τ (φ k)) s' q := by
  have hrf : ∀ k, lvd q k → refd s (φ k) := fun k hk => by
    rcases hk with ⟨p, h1, h2⟩ | ⟨p, h1, h2⟩ | ⟨c, h1, h2, h3⟩
    · exact .inl ⟨(p.1, φ p.2), by rw [h.names]; exact List.mem_map.2 ⟨p, h1, rfl⟩, by rw [← h2]⟩
    · exact .inr (.inl ⟨(p.1, φ p.2), by rw [h.safe]; exact List.mem_map.2 ⟨p, h1, rfl⟩, by rw [← h2]⟩)
    · have h4 : nrm φ c ∈ s.chg.map (nrm id) := by rw [h.chg]; exact List.mem_map.2 ⟨c, h1, rfl⟩
      obtain ⟨c', h5, h6⟩ := List.mem_map.1 h4
      unfold nrm at h6
      simp only [Prod.mk.injEq] at h6
      obtain ⟨_, h7, h8⟩ := h6
      rw [h7, if_neg h2, if_neg h2] at h8
      simp only [Option.some.injEq, id] at h8
      exact .inr (.inr ⟨c', h5, by rw [h8, h3]⟩)
  have hmm : ∀ L : Nms, mapF τ (mapF φ L) = mapF (fun k => τ (φ k)) L := fun L => by unfold mapF; rw [List.map_map]; rfl
  refine ⟨by rw [hc.room, h.room], by rw [hc.steps, h.steps], by rw [hc.names, h.names, hmm], by rw [hc.safe, h.safe, hmm], ?_, fun k hk => ?_, fun j k hj hk e => ?_⟩
  · rw [hc.chg, List.map_map]
    have e1 : ∀ c : Chg, (nrm id ∘ fun c : Chg => (⟨c.src, c.dst, τ c.f⟩ : Chg)) c = ((nrm id c).1, (nrm id c).2.1, (nrm id c).2.2.map τ) := fun c => by
      show nrm id ⟨c.src, c.dst, τ c.f⟩ = _
      unfold nrm
      dsimp only
      split <;> rfl
    have e2 : ∀ c : Chg, nrm (fun k => τ (φ k)) c = ((nrm φ c).1, (nrm φ c).2.1, (nrm φ c).2.2.map τ) := fun c => by
      unfold nrm
      dsimp only
      split <;> rfl
    have e3 : s.chg.map (nrm id ∘ fun c : Chg => (⟨c.src, c.dst, τ c.f⟩ : Chg)) = (s.chg.map (nrm id)).map (fun p => (p.1, p.2.1, p.2.2.map τ)) := by
      rw [List.map_map]
      exact List.map_congr_left (fun c _ => e1 c)
    have e4 : q.chg.map (nrm (fun k => τ (φ k))) = (q.chg.map (nrm φ)).map (fun p => (p.1, p.2.1, p.2.2.map τ)) := by
      rw [List.map_map]
      exact List.map_congr_left (fun c _ => e2 c)
    rw [e3, e4, h.chg]
  · rw [hc.fl _ (hrf k hk)]; exact h.fl k hk
  · exact h.inj j k hj hk (hc.inj _ _ (hrf j hj) (hrf k hk) e)

end

section
variable {N : Nat} {w : World} {r : Nat} {q : Ds} {F : List Fv} {ρ : Rho}

theorem RfX.live (h : RfX N w r q F ρ) : ¬ lvd q F.length := fun hk => by
  obtain ⟨_, _, _, _, h, _⟩ := h
  rcases hk with ⟨p, h1, h2⟩ | ⟨p, h1, h2⟩ | ⟨c, h1, h2, h3⟩
  · have := h.nmf p h1; omega
  · have := h.sff p h1; omega
  · rcases h.chf c h1 with h4 | h4
    · omega
    · exact h2 h4.1

/-- What a call of the reference tells, in one form. -/
def RRes (N : Nat) (w : World) (r : Nat) (q : Ds) (ρ : Rho) (y : Except Nat Ds) (e : Ending) (w' : World) : Prop :=
  e = .returned (.int .i64 (errN y : Nat)) ∧ ∃ F' ρ', RfX N w' r (orS q y) F' ρ' ∧ MoR w ρ ρ' ∧ Kept (fun k => ρ k ≠ 0 ∧ ρ k ≠ 9) w w'

theorem RStp.val {y : Except Nat Ds} {e : Ending} {w' : World} (h : RStp N w r ρ y e w') (hr : RfX N w r q F ρ) : RRes N w r q ρ y e w' := by
  cases y with
  | error k =>
    obtain ⟨rfl, h2⟩ := h.1 k rfl
    exact ⟨rfl, F, ρ, hr.same h2, MoR.refl _ _, h2.mono (fun _ _ f => f.elim)⟩
  | ok s' =>
    obtain ⟨rfl, F', ρ', h2, h3, h4⟩ := h.2 s' rfl
    exact ⟨rfl, F', ρ', h2, h3, h4⟩

theorem xrcreate (h : RfX N w r q F ρ) (hst : q.steps ≤ 1000000) (hN : N ≤ w.heap.size) (t : ByteArray) (ht : t.size ≤ 100000) :
    Calls Try.prog 42 #[.pointer (some ⟨r, 0, none⟩), .string t] w fun e w' => RRes N w r q ρ (creS q t F.length) e w' := by
  obtain ⟨_, _, _, _, h1, h2⟩ := id h
  exact (rcreate_any h1 hst hN h2 t (by omega)).mono (fun e w' hh => hh.val h)
theorem xrsync (h : RfX N w r q F ρ) (hst : q.steps ≤ 1000000) (t : ByteArray) :
    Calls Try.prog 46 #[.pointer (some ⟨r, 0, none⟩), .string t] w fun e w' => RRes N w r q ρ (synS q t) e w' := by
  obtain ⟨_, _, _, _, h1, h2⟩ := id h
  exact (rsync_any h1 hst h2 t).mono (fun e w' hh => hh.val h)
theorem xrrename (h : RfX N w r q F ρ) (hst : q.steps ≤ 1000000) (hN : N ≤ w.heap.size) (t u : ByteArray) (hu : u.size ≤ 100000) :
    Calls Try.prog 47 #[.pointer (some ⟨r, 0, none⟩), .string t, .string u] w fun e w' => RRes N w r q ρ (renS q t u) e w' := by
  obtain ⟨_, _, _, _, h1, h2⟩ := id h
  exact (rrename_any h1 hst hN t u (by omega)).mono (fun e w' hh => hh.val h)
theorem xrremove (h : RfX N w r q F ρ) (hst : q.steps ≤ 1000000) (hN : N ≤ w.heap.size) (t : ByteArray) :
    Calls Try.prog 48 #[.pointer (some ⟨r, 0, none⟩), .string t] w fun e w' => RRes N w r q ρ (remR q t) e w' := by
  obtain ⟨_, _, _, _, h1, h2⟩ := id h
  exact (rremove_any h1 hst hN t).mono (fun e w' hh => hh.val h)
theorem xrsyncdir (h : RfX N w r q F ρ) (hst : q.steps ≤ 1000000) (hN : N ≤ w.heap.size) :
    Calls Try.prog 49 #[.pointer (some ⟨r, 0, none⟩)] w fun e w' => RRes N w r q ρ (sydS q) e w' := by
  obtain ⟨_, _, _, _, h1, h2⟩ := id h
  exact (rsyncdir_any h1 hst hN).mono (fun e w' hh => hh.val h)
theorem xrstop (h : RfX N w r q F ρ) (m : Int) (hm : m ≤ 9223372036854775807) :
    Calls Try.prog 50 #[.pointer (some ⟨r, 0, none⟩), .int .i64 m] w fun e w' => RRes N w r q ρ (stpS q m) e w' := by
  obtain ⟨_, _, _, _, h1, h2⟩ := id h
  exact (rstop_any h1 h2 m hm).mono (fun e w' hh => hh.val h)
theorem xrappend (h : RfX N w r q F ρ) (hst : q.steps ≤ 1000000) (hN : N ≤ w.heap.size) (t : ByteArray) (I : Nat → Prop) (xv : Value) (cs : List Nat) (hsrc : Src w I xv cs) (hnil : ∀ n c, xv = .slice none n c → n = 0 ∧ c = 0) (hcs : cs.length ≤ 1000000000) (hb256 : ∀ b ∈ cs, b < 256) :
    Calls Try.prog 45 #[.pointer (some ⟨r, 0, none⟩), .string t, xv] w fun e w' => RRes N w r q ρ (appS q t cs) e w' := by
  obtain ⟨_, _, _, _, h1, h2⟩ := id h
  exact (rappend_any h1 hst hN h2 t I xv cs hsrc hnil hcs hb256).mono (fun e w' hh => hh.val h)
theorem xrcrash (h : RfX N w r q F ρ) (hst : q.steps ≤ 1000000) (hN : N ≤ w.heap.size) (I : Nat → Prop) (xv : Value) (cs : List Int) (hsrc : SrcE intV w I xv cs) (hr : ∀ c ∈ cs, -9223372036854775808 ≤ c ∧ c ≤ 9223372036854775807) (hI : ∀ k, I k → k < w.heap.size → ρ k = 0) :
    Calls Try.prog 51 #[.pointer (some ⟨r, 0, none⟩), xv] w fun e w' => e = .returned (.tuple #[]) ∧ ∃ F' ρ', RfX N w' r (craS q cs) F' ρ' ∧ MoR w ρ ρ' ∧ Kept (fun k => ρ k ≠ 0 ∧ ρ k ≠ 9) w w' := by
  obtain ⟨_, _, _, _, h1, h2⟩ := id h
  exact rcrash_any h1 hst hN h2 I xv cs hsrc hr hI
theorem xrclone (h : RfX N w r q F ρ) (hst : q.steps ≤ 1000000) (hN : N ≤ w.heap.size) :
    Calls Try.prog 14 #[.pointer (some ⟨r, 0, none⟩)] w fun e w' => ∃ x ρ', e = .returned (.pointer (some ⟨x, 0, none⟩)) ∧ RfX N w' x q F ρ' ∧ Same w w' ∧ ∀ k, ρ' k ≠ 0 → (ρ k = 9 ∧ ρ' k = 9) ∨ w.heap.size ≤ k := by
  obtain ⟨_, _, _, _, h1, h2⟩ := id h
  exact rclone_any h1 hst hN h2
theorem xrread (h : RfX N w r q F ρ) (hst : q.steps ≤ 1000000) (t : ByteArray) :
    Calls Try.prog 35 #[.pointer (some ⟨r, 0, none⟩), .string t] w fun e w' => RrdA w ρ (reaS q t) e w' := by
  obtain ⟨_, _, _, _, h1, _⟩ := id h
  exact rread_any h1 hst t

end

/-- What a call of a disk tells, where the reference's answer is y. -/
def DRes (N : Nat) (w : World) (d : Nat) (s : Ds) (ρ : Rho) (y : Except Nat Ds) (e : Ending) (w' : World) : Prop :=
  e = .returned (.int .i64 (errN y : Nat)) ∧ ∃ x χ ρ', AgrX χ x y ∧ DkX N w' d (orS s x) ρ' ∧ MoR w ρ ρ' ∧ Kept (fun k => ρ k ≠ 0) w w'

theorem StpX.val {N : Nat} {w : World} {d : Nat} {s : Ds} {ρ : Rho} {x y : Except Nat Ds} {χ : Nat → Nat} {e : Ending} {w' : World} (h : StpX N w d ρ x e w') (hd : DkX N w d s ρ) (ha : AgrX χ x y) : DRes N w d s ρ y e w' := by
  have he := ha.err
  cases x with
  | error k =>
    obtain ⟨rfl, h2⟩ := h.1 k rfl
    exact ⟨by rw [← he]; rfl, _, χ, ρ, ha, hd.same h2, MoR.refl _ _, h2.mono (fun _ _ f => f.elim)⟩
  | ok s' =>
    obtain ⟨rfl, ρ', h2, h3, h4⟩ := h.2 s' rfl
    exact ⟨by rw [← he]; rfl, _, χ, ρ', ha, h2, h3, h4⟩

/-- What step tells. -/
def StepA (N1 N2 : Nat) (w : World) (d r : Nat) (q : Ds) (ρ1 ρ2 : Rho) (w' : World) : Prop :=
  ∃ s' q' F' ρ1' ρ2' φ', DkX N1 w' d s' ρ1' ∧ RfX N2 w' r q' F' ρ2' ∧ SimD φ' s' q' ∧ s'.left = q'.left ∧ q'.steps ≤ q.steps + 1 ∧ (∀ k, ρ1' k = 0 ∨ ρ2' k = 0) ∧ MoR w ρ1 ρ1' ∧ MoR w ρ2 ρ2' ∧ Kept (fun k => ρ1 k ≠ 0 ∨ (ρ2 k ≠ 0 ∧ ρ2 k ≠ 9)) w w'

theorem MoR.up {w w1 : World} {ρ ρ' : Rho} (h : MoR w1 ρ ρ') (hs : w.heap.size ≤ w1.heap.size) : MoR w ρ ρ' := fun k => by
  rcases h k with h1 | h1 | h1
  · exact .inl h1
  · exact .inr (.inl h1)
  · exact .inr (.inr (by omega))

section
variable {N1 N2 : Nat} {w : World} {d r : Nat} {s q : Ds} {F : List Fv} {ρ1 ρ2 : Rho} {φ : Nat → Nat}

/-- The disk's call, something in new memory, the reference's call. -/
theorem fin9 (hr : RfX N2 w r q F ρ2) (ap : ∀ k, ρ1 k = 0 ∨ ρ2 k = 0) (hs : SimD φ s q) (hl : s.left = q.left) {w1 w2 w3 w4 : World} {x y : Except Nat Ds} {χ : Nat → Nat} {ρ1' ρ2' : Rho} {F' : List Fv}
    (k01 : Same w w1) (ha : AgrX χ x y) (hst : (orS q y).steps ≤ q.steps + 1) (m1 : MoR w1 ρ1 ρ1') (k12 : Kept (fun k => ρ1 k ≠ 0) w1 w2) (k23 : Kept (fun k => w.heap.size ≤ k) w2 w3) (hd3 : DkX N1 w3 d (orS s x) ρ1')
    (hr4 : RfX N2 w4 r (orS q y) F' ρ2') (m2 : MoR w3 ρ2 ρ2') (k34 : Kept (fun k => ρ2 k ≠ 0 ∧ ρ2 k ≠ 9) w3 w4) : StepA N1 N2 w d r q ρ1 ρ2 w4 := by
  obtain ⟨χ', h1, h2⟩ := ha.or hs hl
  have z1 := k01.size
  have z2 := k12.size
  have z3 := k23.size
  have hlt2 : ∀ k, ρ2 k ≠ 0 → k < w1.heap.size := fun k e => by have := (hr.new k e).2; omega
  have ap1 := m1.apart ap hlt2
  have ap2 := m2.apart (ρ2 := ρ1') (fun k => (ap1 k).symm) (fun k e => (hd3.new k e).2)
  refine ⟨orS s x, orS q y, F', ρ1', ρ2', χ', hd3.kept k34 (fun k e => (ap1 k).resolve_right e.1), hr4, h1, h2, hst, fun k => (ap2 k).symm, m1.up z1, m2.up (by omega), ?_⟩
  refine Kept.trans (Kept.trans (Kept.trans k01 k12 (H := fun k => ρ1 k ≠ 0 ∨ (ρ2 k ≠ 0 ∧ ρ2 k ≠ 9)) (fun _ _ f => f.elim) (fun _ _ e => .inl e)) k23 (H := fun k => ρ1 k ≠ 0 ∨ (ρ2 k ≠ 0 ∧ ρ2 k ≠ 9)) (fun _ _ e => e) (fun k hk e => by omega)) k34 (fun _ _ e => e) (fun _ _ e => .inr e)

/-- The reference's call, the disk's call. -/
theorem fin9b (hd : DkX N1 w d s ρ1) (ap : ∀ k, ρ1 k = 0 ∨ ρ2 k = 0) {w1 w2 w4 : World} {s' q' : Ds} {ρ1' ρ2' : Rho} {F' : List Fv} {φ' : Nat → Nat}
    (k01 : Same w w1) (hs : SimD φ' s' q') (hl : s'.left = q'.left) (hst : q'.steps ≤ q.steps + 1) (m2 : MoR w1 ρ2 ρ2') (k12 : Kept (fun k => ρ2 k ≠ 0 ∧ ρ2 k ≠ 9) w1 w2) (hr2 : RfX N2 w2 r q' F' ρ2')
    (hd4 : DkX N1 w4 d s' ρ1') (m1 : MoR w2 ρ1 ρ1') (k24 : Kept (fun k => ρ1 k ≠ 0) w2 w4) : StepA N1 N2 w d r q ρ1 ρ2 w4 := by
  have z1 := k01.size
  have z2 := k12.size
  have ap1 := m2.apart (ρ2 := ρ1) (fun k => (ap k).symm) (fun k e => by have := (hd.new k e).2; omega)
  have ap2 := m1.apart (ρ2 := ρ2') (fun k => (ap1 k).symm) (fun k e => (hr2.new k e).2)
  refine ⟨s', q', F', ρ1', ρ2', φ', hd4, hr2.kept k24 (fun k e => (ap1 k).resolve_right e), hs, hl, hst, ap2, m1.up (by omega), m2.up z1, ?_⟩
  exact Kept.trans (Kept.trans k01 k12 (H := fun k => ρ1 k ≠ 0 ∨ (ρ2 k ≠ 0 ∧ ρ2 k ≠ 9)) (fun _ _ f => f.elim) (fun _ _ e => .inr e)) k24 (fun _ _ e => e) (fun _ _ e => .inl e)

/-- Nothing is done. -/
theorem fin9c (hd : DkX N1 w d s ρ1) (hr : RfX N2 w r q F ρ2) (ap : ∀ k, ρ1 k = 0 ∨ ρ2 k = 0) (hs : SimD φ s q) (hl : s.left = q.left) {w1 : World} (k01 : Same w w1) : StepA N1 N2 w d r q ρ1 ρ2 w1 :=
  ⟨s, q, F, ρ1, ρ2, φ, hd.same k01, hr.same k01, hs, hl, Nat.le_succ _, ap, MoR.refl _ _, MoR.refl _ _, k01.mono (fun _ _ f => f.elim)⟩

end

theorem orS_steps {q : Ds} {y : Except Nat Ds} (h : ∀ b, y = .ok b → b.steps ≤ q.steps + 1) : (orS q y).steps ≤ q.steps + 1 := by
  cases y with
  | error k => exact Nat.le_succ _
  | ok b => exact h b rfl

theorem cre_steps (q : Ds) (t : ByteArray) (g : Nat) : (orS q (creS q t g)).steps ≤ q.steps + 1 := orS_steps (fun b e => by
  unfold creS at e
  repeat' split at e
  all_goals cases e
  exact Nat.le_refl _)
theorem app_steps (q : Ds) (t : ByteArray) (bs : List Nat) : (orS q (appS q t bs)).steps ≤ q.steps + 1 := orS_steps (fun b e => by
  unfold appS at e
  repeat' split at e
  all_goals cases e
  exact Nat.le_refl _)
theorem syn_steps (q : Ds) (t : ByteArray) : (orS q (synS q t)).steps ≤ q.steps + 1 := orS_steps (fun b e => by
  unfold synS at e
  repeat' split at e
  all_goals cases e
  exact Nat.le_refl _)
theorem ren_steps (q : Ds) (t u : ByteArray) : (orS q (renS q t u)).steps ≤ q.steps + 1 := orS_steps (fun b e => by
  unfold renS at e
  repeat' split at e
  all_goals cases e
  exact Nat.le_refl _)
theorem rem_steps (q : Ds) (t : ByteArray) : (orS q (remR q t)).steps ≤ q.steps + 1 := orS_steps (fun b e => by
  unfold remR at e
  repeat' split at e
  all_goals cases e
  exact Nat.le_refl _)
theorem syd_steps (q : Ds) : (orS q (sydS q)).steps ≤ q.steps + 1 := orS_steps (fun b e => by
  unfold sydS at e
  repeat' split at e
  all_goals cases e
  exact Nat.le_refl _)
theorem stp_steps (q : Ds) (m : Int) : (orS q (stpS q m)).steps ≤ q.steps + 1 := orS_steps (fun b e => by
  unfold stpS at e
  repeat' split at e
  all_goals cases e
  exact Nat.le_succ _)

end Go.Proofs.Ytjcobogajkfnmaa

/-
  Layer 9's law: step.
-/
namespace Go.Proofs.Ytjcobogajkfnmaa
open Go.RowKit Go.Maps

/-- A lent slice can be read. -/
theorem src_lent9 {w : World} {g n : Nat} {cs : List Nat} (hn : cs.length = n) (h : Row w (.slice (some ⟨g, 0, none⟩) (n + 2) (n + 2)) (cs ++ [165, 90])) : Src w (· = g) (.slice (some ⟨g, 0, none⟩) n (n + 2)) cs := by
  subst hn
  have hr3 : Row w (.slice (some ⟨g, 0, none⟩) (cs ++ [165, 90]).length (cs.length + 2)) (cs ++ [165, 90]) := by simpa using h
  refine ⟨_, _, rfl, fun _ => ⟨g, 0, rfl, rfl, fun j hj => ?_⟩⟩
  rw [Nat.zero_add, Row.cell hr3 j (by simp; omega), List.getElem_append_left hj]

set_option maxRecDepth 100000 in
set_option maxHeartbeats 4000000 in
theorem dstep9_any {N1 N2 : Nat} {w : World} {d r : Nat} {s q : Ds} {F : List Fv} {ρ1 ρ2 : Rho} {φ : Nat → Nat} (hd : DkX N1 w d s ρ1) (hr : RfX N2 w r q F ρ2) (ap : ∀ k, ρ1 k = 0 ∨ ρ2 k = 0) (hs : SimD φ s q) (hl : s.left = q.left) (hst : q.steps ≤ 900000) (hN1 : N1 ≤ w.heap.size) (hN2 : N2 ≤ w.heap.size) (x : O9) (I : Nat → Prop) (hok : OpOk w I x) (hI : ∀ k, I k → ρ1 k = 0 ∧ ρ2 k = 0 ∧ k < w.heap.size) (hsm : OpSm x) :
    Calls Try.prog 15 #[.pointer (some ⟨d, 0, none⟩), .pointer (some ⟨r, 0, none⟩), .agg (opC x)] w fun e w' => e = .returned (.bool true) ∧ StepA N1 N2 w d r q ρ1 ρ2 w' := by
  unfold opC
  obtain ⟨wA, hwA⟩ : ∃ W, W = w.alloc (.cells #[.int .i64 x.k, .string x.a, .string x.b, .slice x.da x.dn x.dc, .int .i64 x.n, .slice x.ca x.cn x.cc] 36) := ⟨_, rfl⟩
  obtain ⟨xb, hxb⟩ : ∃ b, b = w.heap.size := ⟨_, rfl⟩
  have BA : Blk wA xb #[.int .i64 x.k, .string x.a, .string x.b, .slice x.da x.dn x.dc, .int .i64 x.n, .slice x.ca x.cn x.cc] 36 := by rw [hwA, hxb]; exact Blk.new w _ _
  have q0 : wA.cell? ⟨xb, 0, none⟩ = some (.int .i64 x.k) := BA.cell 0
  have q1 : wA.cell? ⟨xb, 1, none⟩ = some (.string x.a) := BA.cell 1
  have q2 : wA.cell? ⟨xb, 2, none⟩ = some (.string x.b) := BA.cell 2
  have q3 : wA.cell? ⟨xb, 3, none⟩ = some (.slice x.da x.dn x.dc) := BA.cell 3
  have q4 : wA.cell? ⟨xb, 4, none⟩ = some (.int .i64 x.n) := BA.cell 4
  have q5 : wA.cell? ⟨xb, 5, none⟩ = some (.slice x.ca x.cn x.cc) := BA.cell 5
  have kA : Same w wA := by rw [hwA]; exact (Kept.refl _ w).alloc _
  have HKA : Hid (Same w wA) := kA
  have HNE : Hid (¬ (ρ1 xb ≠ 0) ∧ ¬ (ρ2 xb ≠ 0 ∧ ρ2 xb ≠ 9) ∧ w.heap.size ≤ xb ∧ xb < wA.heap.size) := hid ⟨fun e => by have := (hd.new xb e).2; omega, fun e => by have := (hr.new xb e.1).2; omega, by omega, by rw [hwA, hxb]; simp⟩
  have hta : x.a.size ≤ 100000 := Nat.le_trans hsm.2.2.1 (by decide)
  have htb : x.b.size ≤ 100000 := Nat.le_trans hsm.2.2.2 (by decide)
  have hsts : s.steps ≤ 1000000 := by rw [hs.steps]; omega
  have HB : Hid (DkX N1 w d s ρ1 ∧ RfX N2 w r q F ρ2 ∧ (∀ k, ρ1 k = 0 ∨ ρ2 k = 0) ∧ SimD φ s q ∧ s.left = q.left ∧ N1 ≤ w.heap.size ∧ N2 ≤ w.heap.size ∧ q.steps ≤ 1000000 ∧ s.steps ≤ 1000000) := hid ⟨hd, hr, ap, hs, hl, hN1, hN2, by omega, hsts⟩
  have DA : ∀ w', Same wA w' → DkX N1 w' d s ρ1 ∧ N1 ≤ w'.heap.size := fun w' hk => ⟨(hd.same kA).same hk, by have := kA.size; have := hk.size; omega⟩
  have RA : ∀ w', Kept (fun k => ρ1 k ≠ 0) wA w' → RfX N2 w' r q F ρ2 ∧ N2 ≤ w'.heap.size := fun w' hk => ⟨(hr.same kA).kept hk (fun k e => (ap k).resolve_left e), by have := kA.size; have := hk.size; omega⟩
  have HDA : Hid (∀ w', Same wA w' → DkX N1 w' d s ρ1 ∧ N1 ≤ w'.heap.size) := DA
  have HRA : Hid (∀ w', Kept (fun k => ρ1 k ≠ 0) wA w' → RfX N2 w' r q F ρ2 ∧ N2 ≤ w'.heap.size) := RA
  have HOK : Hid (OpOk wA I x ∧ (∀ k, I k → ρ1 k = 0 ∧ ρ2 k = 0 ∧ k < w.heap.size) ∧ OpSm x) := hid ⟨hok.kept kA (fun _ _ _ f => f), hI, hsm⟩
  have HCre : Hid (∀ w', Same wA w' → Calls Try.prog 18 #[.pointer (some ⟨d, 0, none⟩), .string x.a] w' fun e w2 => DRes N1 w' d s ρ1 (creS q x.a F.length) e w2) := hid (fun w' hk => by
    obtain ⟨h1, h2⟩ := DA w' hk
    obtain ⟨χ, ha⟩ := hs.creA hl x.a w'.heap.size F.length h1.fresh hr.live
    exact (xcreate h1 hsts h2 x.a hta).mono (fun e w2 h => h.val h1 ha))
  have HCreR : Hid (∀ w', Kept (fun k => ρ1 k ≠ 0) wA w' → Calls Try.prog 42 #[.pointer (some ⟨r, 0, none⟩), .string x.a] w' fun e w2 => RRes N2 w' r q ρ2 (creS q x.a F.length) e w2) := hid (fun w' hk => xrcreate (RA w' hk).1 (by omega) (RA w' hk).2 x.a hta)
  have HSyn : Hid (∀ w', Same wA w' → Calls Try.prog 20 #[.pointer (some ⟨d, 0, none⟩), .string x.a] w' fun e w2 => DRes N1 w' d s ρ1 (synS q x.a) e w2) := hid (fun w' hk => (xsync (DA w' hk).1 hsts x.a hta).mono (fun e w2 h => h.val (DA w' hk).1 ((hs.syn (by rw [hl]) x.a).agr hl)))
  have HSynR : Hid (∀ w', Kept (fun k => ρ1 k ≠ 0) wA w' → Calls Try.prog 46 #[.pointer (some ⟨r, 0, none⟩), .string x.a] w' fun e w2 => RRes N2 w' r q ρ2 (synS q x.a) e w2) := hid (fun w' hk => xrsync (RA w' hk).1 (by omega) x.a)
  have HRen : Hid (∀ w', Same wA w' → Calls Try.prog 30 #[.pointer (some ⟨d, 0, none⟩), .string x.a, .string x.b] w' fun e w2 => DRes N1 w' d s ρ1 (renS q x.a x.b) e w2) := hid (fun w' hk => (xrename (DA w' hk).1 hsts (DA w' hk).2 x.a x.b hta htb).mono (fun e w2 h => h.val (DA w' hk).1 ((hs.ren (by rw [hl]) x.a x.b).agr hl)))
  have HRenR : Hid (∀ w', Kept (fun k => ρ1 k ≠ 0) wA w' → Calls Try.prog 47 #[.pointer (some ⟨r, 0, none⟩), .string x.a, .string x.b] w' fun e w2 => RRes N2 w' r q ρ2 (renS q x.a x.b) e w2) := hid (fun w' hk => xrrename (RA w' hk).1 (by omega) (RA w' hk).2 x.a x.b htb)
  have HRem : Hid (∀ w', Same wA w' → Calls Try.prog 31 #[.pointer (some ⟨d, 0, none⟩), .string x.a] w' fun e w2 => DRes N1 w' d s ρ1 (remR q x.a) e w2) := hid (fun w' hk => (xremove (DA w' hk).1 hsts (DA w' hk).2 x.a hta).mono (fun e w2 h => h.val (DA w' hk).1 (hs.remR hl x.a)))
  have HRemR : Hid (∀ w', Kept (fun k => ρ1 k ≠ 0) wA w' → Calls Try.prog 48 #[.pointer (some ⟨r, 0, none⟩), .string x.a] w' fun e w2 => RRes N2 w' r q ρ2 (remR q x.a) e w2) := hid (fun w' hk => xrremove (RA w' hk).1 (by omega) (RA w' hk).2 x.a)
  have HStp : Hid (∀ w', Same wA w' → Calls Try.prog 27 #[.pointer (some ⟨d, 0, none⟩), .int .i64 x.n] w' fun e w2 => DRes N1 w' d s ρ1 (stpS q x.n) e w2) := hid (fun w' hk => (xstop (DA w' hk).1 x.n hok.num.2).mono (fun e w2 h => h.val (DA w' hk).1 (hs.stp hl x.n)))
  have HStpR : Hid (∀ w', Kept (fun k => ρ1 k ≠ 0) wA w' → Calls Try.prog 50 #[.pointer (some ⟨r, 0, none⟩), .int .i64 x.n] w' fun e w2 => RRes N2 w' r q ρ2 (stpS q x.n) e w2) := hid (fun w' hk => xrstop (RA w' hk).1 x.n hok.num.2)
  have HSyd : Hid (∀ w', Same wA w' → Calls Try.prog 19 #[.pointer (some ⟨d, 0, none⟩)] w' fun e w2 => DRes N1 w' d s ρ1 (sydS q) e w2) := hid (fun w' hk => (xsyncdir (DA w' hk).1 hsts (DA w' hk).2).mono (fun e w2 h => h.val (DA w' hk).1 ((hs.syd (by rw [hl])).agr hl)))
  have HSydR : Hid (∀ w', Kept (fun k => ρ1 k ≠ 0) wA w' → Calls Try.prog 49 #[.pointer (some ⟨r, 0, none⟩)] w' fun e w2 => RRes N2 w' r q ρ2 (sydS q) e w2) := hid (fun w' hk => xrsyncdir (RA w' hk).1 (by omega) (RA w' hk).2)
  clear hd hr ap hs hl hst hN1 hN2 hok hI hsm BA kA hsts DA RA
  obtain ⟨k, ta, tb, da, dn, dc, bs, n, ca, cn, cc, cs⟩ := x
  dsimp only at q0 q1 q2 q3 q4 q5 hta htb HCre HCreR HSyn HSynR HRen HRenR HRem HRemR HStp HStpR HSyd HSydR
  go_enter Try.func15, Try.ntmps15
  go_upto_region 1 with fail
  rw [← hwA, ← hxb]
  clear hwA hxb
  by_cases e1 : k = 1
  · subst e1
    clear HSyn HSynR HRen HRenR HRem HRemR HStp HStpR HSyd HSydR
    go_wp2_with fail
    go_region_held3 (fun w' => w'.cell? ⟨xb, 1, none⟩ = some (.string ta))
      (first | (go_split_ands; exact hk3.cell (by assumption) HNE.out.2.1) | (go_split_ands; exact hk2.cell (by assumption) HNE.out.1) | go_keep)
      (first
        | (go_at_call 18; refine (HCre.out _ (by first | exact (Kept.refl _ _).drew | exact Kept.refl _ _ | exact (Kept.refl _ _).drewN _)).mono ?_; rintro e w2 ⟨rfl, x1, χ1, ρ1', ha1, hd1, hm1, hk2⟩)
        | (go_at_call 42; refine (HCreR.out _ (by first | exact Kept.undrew9 hk2 | exact hk2)).mono ?_; rintro e w3 ⟨rfl, F3, ρ2', hr3, hm3, hk3⟩))
    all_goals
      have HF : Hid (StepA N1 N2 w d r q ρ1 ρ2 w3) := hid (fin9 HB.out.2.1 HB.out.2.2.1 HB.out.2.2.2.1 HB.out.2.2.2.2.1 (by first | exact HKA.out.drew | exact HKA.out) ha1 (cre_steps q ta F.length) hm1 hk2 (Kept.refl _ _) hd1 hr3 hm3 hk3)
      clear ha1 hd1 hm1 hk2 hr3 hm3 hk3
      go_wp2_with fail
      go_ret
      exact ⟨rfl, HF.out⟩
  have f1 : (k == 1) = false := by simp [e1]
  by_cases e2 : k = 2
  · subst e2
    clear HCre HCreR HSyn HSynR HRen HRenR HRem HRemR HStp HStpR HSyd HSydR
    have hok := HOK.out
    have hlen : bs.length = dn := hok.1.len
    have hdn : dn ≤ 65536 := hok.2.2.1
    have HLn := lend_any wA (.slice da dn dc) I bs hok.1.src (by omega)
    rw [hlen] at HLn
    have HLEN : Hid (bs.length = dn ∧ dn ≤ 65536) := hid ⟨hlen, hdn⟩
    clear hok hlen hdn
    go_wp2_with fail
    refine HLn.mono ?_
    rintro e wB ⟨g, rfl, hgr, hkB, hgB⟩
    have hkB : Same wA wB := hkB
    have HD1 := HDA.out wB hkB
    have hg0 : ρ1 g = 0 := Classical.byContradiction (fun e => by have := ((HDA.out wA (Kept.refl _ _)).1.new g e).2; omega)
    have hAp := (xappend HD1.1 HB.out.2.2.2.2.2.2.2.2 ta hta _ _ bs (src_lent9 HLEN.out.1 hgr) (fun n c e => by cases e) (by have := HLEN.out; omega) (fun k hk _ => by rw [hk]; exact hg0) HOK.out.1.byte HD1.2).mono (fun e w2 h => h.val HD1.1 ((HB.out.2.2.2.1.app (by rw [HB.out.2.2.2.2.1]) ta bs).agr HB.out.2.2.2.2.1))
    have Hg : Hid (Row wB (.slice (some ⟨g, 0, none⟩) (dn + 2) (dn + 2)) (bs ++ [165, 90]) ∧ Same wA wB ∧ wA.heap.size ≤ g ∧ ρ1 g = 0) := hid ⟨hgr, hkB, hgB, hg0⟩
    have p1 : wB.cell? ⟨xb, 1, none⟩ = some (.string ta) := hkB.cell q1 (fun f => f)
    clear HLn hgr hkB hgB HD1 hg0
    go_wp2_with fail
    refine hAp.mono ?_
    rintro e w2 ⟨rfl, x1, χ1, ρ1', ha1, hd1, hm1, hk2⟩
    have hrow2 := Hg.out.1.kept hk2 (fun k e e2 => e2 (by simp only [Value.ownBlock, Option.some.injEq] at e; rw [← e]; exact Hg.out.2.2.2))
    have hkA2 : Kept (fun k => ρ1 k ≠ 0) wA w2 := Kept.trans Hg.out.2.1 hk2 (fun _ _ f => f.elim) (fun _ _ e => e)
    have hsrc2 : Src w2 I (.slice da dn dc) bs := HOK.out.1.src.kept hkA2 (fun k i _ e => e (HOK.out.2.1 k i).1)
    have hrow2' : Row w2 (.slice (some ⟨g, 0, none⟩) (bs.length + 2) (bs.length + 2)) (bs ++ [165, 90]) := by rw [HLEN.out.1]; exact hrow2
    have HBk := keepBack_any w2 g (.slice da dn dc) I bs hrow2' hsrc2 (by have := HLEN.out; omega) HOK.out.1.byte
    rw [HLEN.out.1] at HBk
    have p3 : w2.cell? ⟨xb, 3, none⟩ = some (.slice da dn dc) := hkA2.cell q3 HNE.out.1
    have H2 := hid (And.intro ha1 (And.intro hd1 (And.intro hm1 hk2)))
    have HKA2 : Hid (Kept (fun k => ρ1 k ≠ 0) wA w2) := hkA2
    have HSR2 : Hid (Src w2 I (.slice da dn dc) bs) := hsrc2
    clear hAp ha1 hd1 hm1 hk2 hrow2 hkA2 hsrc2 hrow2' p1
    go_wp2_with fail
    refine HBk.mono ?_
    rintro e w2b ⟨rfl, hk2b⟩
    have hkA2b : Kept (fun k => ρ1 k ≠ 0 ∨ wA.heap.size ≤ k) wA w2b := Kept.trans HKA2.out hk2b (fun _ _ e => .inl e) (fun k _ e => .inr (by rw [e]; exact Hg.out.2.2.1))
    have hlt := HNE.out
    have hgI : ∀ k, I k → k < w2.heap.size → ¬ k = g := fun k i _ e => by have := (HOK.out.2.1 k i).2.2; have := Hg.out.2.2.1; omega
    have hsrc3 : Src w2b I (.slice da dn dc) bs := HSR2.out.kept hk2b hgI
    have hr2b : RfX N2 w2b r q F ρ2 := (HRA.out w2 HKA2.out).1.kept hk2b (fun k e => Classical.byContradiction (fun e2 => by have := (HB.out.2.1.new k e2).2; have := Hg.out.2.2.1; omega))
    have hN2b : N2 ≤ w2b.heap.size := by have := (HRA.out w2 HKA2.out).2; have := hk2b.size; omega
    have HApR := xrappend hr2b HB.out.2.2.2.2.2.2.2.1 hN2b ta I (.slice da dn dc) bs hsrc3 HOK.out.1.nil (by have := HLEN.out; omega) HOK.out.1.byte
    have p1 : w2b.cell? ⟨xb, 1, none⟩ = some (.string ta) := hkA2b.cell q1 (fun e => e.elim hlt.1 (fun e => Nat.lt_irrefl _ (Nat.lt_of_lt_of_le hlt.2.2.2 e)))
    have p3' : w2b.cell? ⟨xb, 3, none⟩ = some (.slice da dn dc) := hkA2b.cell q3 (fun e => e.elim hlt.1 (fun e => Nat.lt_irrefl _ (Nat.lt_of_lt_of_le hlt.2.2.2 e)))
    have hd2b : DkX N1 w2b d (orS s x1) ρ1' := H2.out.2.1.kept hk2b (fun k e => by
      rw [e]
      rcases H2.out.2.2.1 g with h9 | h9 | h9
      · exact h9
      · rw [h9]; exact Hg.out.2.2.2
      · exact absurd (show g < wB.heap.size from Hg.out.1.lt rfl) (Nat.not_lt.2 h9))
    have H2b : Hid (DkX N1 w2b d (orS s x1) ρ1' ∧ Kept (fun k => w.heap.size ≤ k) w2 w2b) := hid ⟨hd2b, hk2b.mono (fun k _ e => by rw [e]; have := Hg.out.2.2.1; omega)⟩
    clear HBk hk2b hkA2b hlt hgI hsrc3 hr2b hN2b hd2b p3
    go_wp2_with fail
    refine HApR.mono ?_
    rintro e w3 ⟨rfl, F3, ρ2', hr3, hm3, hk3⟩
    have HF : Hid (StepA N1 N2 w d r q ρ1 ρ2 w3) := hid (fin9 HB.out.2.1 HB.out.2.2.1 HB.out.2.2.2.1 HB.out.2.2.2.2.1 (Same.trans HKA.out Hg.out.2.1) H2.out.1 (app_steps q ta bs) H2.out.2.2.1 H2.out.2.2.2 H2b.out.2 H2b.out.1 hr3 hm3 hk3)
    clear HApR hr3 hm3 hk3
    go_wp2_with fail
    go_ret
    exact ⟨rfl, HF.out⟩
  have f2 : (k == 2) = false := by simp [e2]
  by_cases e3 : k = 3
  · subst e3
    clear HCre HCreR HRen HRenR HRem HRemR HStp HStpR HSyd HSydR
    go_wp2_with fail
    go_region_held3 (fun w' => w'.cell? ⟨xb, 1, none⟩ = some (.string ta))
      (first | (go_split_ands; exact hk3.cell (by assumption) HNE.out.2.1) | (go_split_ands; exact hk2.cell (by assumption) HNE.out.1) | go_keep)
      (first
        | (go_at_call 20; refine (HSyn.out _ (by first | exact (Kept.refl _ _).drew | exact Kept.refl _ _ | exact (Kept.refl _ _).drewN _)).mono ?_; rintro e w2 ⟨rfl, x1, χ1, ρ1', ha1, hd1, hm1, hk2⟩)
        | (go_at_call 46; refine (HSynR.out _ (by first | exact Kept.undrew9 hk2 | exact hk2)).mono ?_; rintro e w3 ⟨rfl, F3, ρ2', hr3, hm3, hk3⟩))
    all_goals
      have HF : Hid (StepA N1 N2 w d r q ρ1 ρ2 w3) := hid (fin9 HB.out.2.1 HB.out.2.2.1 HB.out.2.2.2.1 HB.out.2.2.2.2.1 (by first | exact HKA.out.drew | exact HKA.out) ha1 (syn_steps q ta) hm1 hk2 (Kept.refl _ _) hd1 hr3 hm3 hk3)
      clear ha1 hd1 hm1 hk2 hr3 hm3 hk3
      go_wp2_with fail
      go_ret
      exact ⟨rfl, HF.out⟩
  have f3 : (k == 3) = false := by simp [e3]
  by_cases e4 : k = 4
  · subst e4
    clear HCre HCreR HSyn HSynR HRem HRemR HStp HStpR HSyd HSydR
    go_wp2_with fail
    go_region_held3 (fun w' => w'.cell? ⟨xb, 1, none⟩ = some (.string ta) ∧ w'.cell? ⟨xb, 2, none⟩ = some (.string tb))
      (first | (go_split_ands; exact ⟨hk3.cell (by assumption) HNE.out.2.1, hk3.cell (by assumption) HNE.out.2.1⟩) | (go_split_ands; exact ⟨hk2.cell (by assumption) HNE.out.1, hk2.cell (by assumption) HNE.out.1⟩) | go_keep)
      (first
        | (go_at_call 30; refine (HRen.out _ (by first | exact (Kept.refl _ _).drew | exact Kept.refl _ _ | exact (Kept.refl _ _).drewN _)).mono ?_; rintro e w2 ⟨rfl, x1, χ1, ρ1', ha1, hd1, hm1, hk2⟩)
        | (go_at_call 47; refine (HRenR.out _ (by first | exact Kept.undrew9 hk2 | exact hk2)).mono ?_; rintro e w3 ⟨rfl, F3, ρ2', hr3, hm3, hk3⟩))
    all_goals
      have HF : Hid (StepA N1 N2 w d r q ρ1 ρ2 w3) := hid (fin9 HB.out.2.1 HB.out.2.2.1 HB.out.2.2.2.1 HB.out.2.2.2.2.1 (by first | exact HKA.out.drew | exact HKA.out) ha1 (ren_steps q ta tb) hm1 hk2 (Kept.refl _ _) hd1 hr3 hm3 hk3)
      clear ha1 hd1 hm1 hk2 hr3 hm3 hk3
      go_wp2_with fail
      go_ret
      exact ⟨rfl, HF.out⟩
  have f4 : (k == 4) = false := by simp [e4]
  by_cases e5 : k = 5
  · subst e5
    clear HCre HCreR HSyn HSynR HRen HRenR HStp HStpR HSyd HSydR
    go_wp2_with fail
    go_region_held3 (fun w' => w'.cell? ⟨xb, 1, none⟩ = some (.string ta))
      (first | (go_split_ands; exact hk3.cell (by assumption) HNE.out.2.1) | (go_split_ands; exact hk2.cell (by assumption) HNE.out.1) | go_keep)
      (first
        | (go_at_call 31; refine (HRem.out _ (by first | exact (Kept.refl _ _).drew | exact Kept.refl _ _ | exact (Kept.refl _ _).drewN _)).mono ?_; rintro e w2 ⟨rfl, x1, χ1, ρ1', ha1, hd1, hm1, hk2⟩)
        | (go_at_call 48; refine (HRemR.out _ (by first | exact Kept.undrew9 hk2 | exact hk2)).mono ?_; rintro e w3 ⟨rfl, F3, ρ2', hr3, hm3, hk3⟩))
    all_goals
      have HF : Hid (StepA N1 N2 w d r q ρ1 ρ2 w3) := hid (fin9 HB.out.2.1 HB.out.2.2.1 HB.out.2.2.2.1 HB.out.2.2.2.2.1 (by first | exact HKA.out.drew | exact HKA.out) ha1 (rem_steps q ta) hm1 hk2 (Kept.refl _ _) hd1 hr3 hm3 hk3)
      clear ha1 hd1 hm1 hk2 hr3 hm3 hk3
      go_wp2_with fail
      go_ret
      exact ⟨rfl, HF.out⟩
  have f5 : (k == 5) = false := by simp [e5]
  by_cases e6 : k = 6
  · subst e6
    clear HCre HCreR HSyn HSynR HRen HRenR HRem HRemR HStp HStpR
    go_wp2_with fail
    refine (HSyd.out _ (Kept.refl _ _)).mono ?_
    rintro e w2 ⟨rfl, x1, χ1, ρ1', ha1, hd1, hm1, hk2⟩
    have HSR := HSydR.out w2 hk2
    clear HSyd HSydR
    go_wp2_with fail
    refine HSR.mono ?_
    rintro e w3 ⟨rfl, F3, ρ2', hr3, hm3, hk3⟩
    have HF : Hid (StepA N1 N2 w d r q ρ1 ρ2 w3) := hid (fin9 HB.out.2.1 HB.out.2.2.1 HB.out.2.2.2.1 HB.out.2.2.2.2.1 HKA.out ha1 (syd_steps q) hm1 hk2 (Kept.refl _ _) hd1 hr3 hm3 hk3)
    clear ha1 hd1 hm1 hk2 hr3 hm3 hk3 HSR
    go_wp2_with fail
    go_ret
    exact ⟨rfl, HF.out⟩
  have f6 : (k == 6) = false := by simp [e6]
  by_cases e7 : k = 7
  · subst e7
    clear HCre HCreR HSyn HSynR HRen HRenR HRem HRemR HStp HStpR HSyd HSydR
    have hrs := HB.out.2.2.2.1.rea (by rw [HB.out.2.2.2.2.1]) ta
    have HR1 := xread (HDA.out wA (Kept.refl _ _)).1 ta hta
    rw [hrs] at HR1
    have HR2 : Hid (∀ w', Same wA w' → Calls Try.prog 35 #[.pointer (some ⟨r, 0, none⟩), .string ta] w' fun e w2 => RrdA w' ρ2 (reaS q ta) e w2) := hid (fun w' hk => xrread (HRA.out w' (hk.mono (fun _ _ f => f.elim))).1 HB.out.2.2.2.2.2.2.2.1 ta)
    have HBL : Hid (∀ bs, reaS q ta = .ok bs → bs.length ≤ 4194304) := hid (fun bs e => by
      rw [← hrs] at e
      unfold reaS at e
      split at e
      · cases e
      · cases hg : getN ta s.names with
        | none => rw [hg] at e; cases e
        | some f =>
          rw [hg] at e
          cases e
          obtain ⟨_, _, _, h9⟩ := HB.out.1
          have h8 := (h9.okf f (h9.nmf _ (getN_mem hg))).2.1
          have := h9.room
          omega)
    clear hrs
    go_wp2_with fail
    refine HR1.mono ?_
    rintro e y6 ⟨hno, hok⟩
    clear HR1
    cases hre : reaS q ta with
    | error k =>
      obtain ⟨rfl, hw6⟩ := hno k hre
      subst hw6
      have HRE : Hid (reaS q ta = .error k) := hre
      clear hno hok hre
      have HR3 := HR2.out y6 (Kept.refl _ _)
      go_wp2_with fail
      refine HR3.mono ?_
      rintro e y7 ⟨hw7, hno2, _⟩
      subst hw7
      have he2 := hno2 k HRE.out
      subst he2
      clear HR3 hno2
      have HBt := xbytes y7 (.slice none 0 0) (.slice none 0 0) (fun _ => False) (fun _ => False) [] [] ⟨none, 0, rfl, fun h => absurd rfl h⟩ ⟨none, 0, rfl, fun h => absurd rfl h⟩ (by decide) (by decide)
      rw [show decide (([] : List Nat) = []) = true from rfl] at HBt
      go_wp2_with fail
      refine HBt.mono ?_
      rintro e y8 ⟨rfl, k8⟩
      have HF : Hid (StepA N1 N2 w d r q ρ1 ρ2 y8) := hid (fin9c HB.out.1 HB.out.2.1 HB.out.2.2.1 HB.out.2.2.2.1 HB.out.2.2.2.2.1 (Same.trans HKA.out k8))
      clear HBt k8
      go_wp2_with fail
      go_ret
      exact ⟨rfl, HF.out⟩
    | ok bs1 =>
      obtain ⟨v6, rfl, hf6, hwh6⟩ := hok bs1 hre
      have HRE : Hid (reaS q ta = .ok bs1) := hre
      have HR3 := HR2.out y6 hf6.kept
      have p1 : y6.cell? ⟨xb, 1, none⟩ = some (.string ta) := hf6.kept.cell q1 (fun f => f)
      have H6 : Hid (Row y6 v6 bs1 ∧ Same wA y6) := hid ⟨hf6.row, hf6.kept⟩
      obtain ⟨a6, c6, hv6, _⟩ := hf6.row.shape
      obtain ⟨m6, hm6⟩ : ∃ m, m = bs1.length := ⟨_, rfl⟩
      rw [← hm6] at hv6
      subst hv6
      clear hno hok hre hf6 hwh6 hm6
      go_wp2_with fail
      refine HR3.mono ?_
      rintro e y7 ⟨hw7, _, hok2⟩
      subst hw7
      obtain ⟨a7, n7, c7, he2, hs7⟩ := hok2 bs1 HRE.out
      subst he2
      have HBt := xbytes y7 (.slice a6 m6 c6) (.slice a7 n7 c7) _ _ bs1 bs1 (Src.ofRow H6.out.1) hs7 (by have := HBL.out bs1 HRE.out; omega) (by have := HBL.out bs1 HRE.out; omega)
      rw [show decide (bs1 = bs1) = true by simp] at HBt
      clear HR3 hok2 hs7
      go_wp2_with fail
      refine HBt.mono ?_
      rintro e y8 ⟨rfl, k8⟩
      have HF : Hid (StepA N1 N2 w d r q ρ1 ρ2 y8) := hid (fin9c HB.out.1 HB.out.2.1 HB.out.2.2.1 HB.out.2.2.2.1 HB.out.2.2.2.2.1 (Same.trans HKA.out (Same.trans H6.out.2 k8)))
      clear HBt k8
      go_wp2_with fail
      go_ret
      exact ⟨rfl, HF.out⟩
  have f7 : (k == 7) = false := by simp [e7]
  by_cases e8 : k = 8
  · subst e8
    clear HCre HCreR HSyn HSynR HRen HRenR HRem HRemR HSyd HSydR
    go_wp2_with fail
    go_region_held3 (fun w' => w'.cell? ⟨xb, 4, none⟩ = some (.int .i64 n))
      (first | (go_split_ands; exact hk3.cell (by assumption) HNE.out.2.1) | (go_split_ands; exact hk2.cell (by assumption) HNE.out.1) | go_keep)
      (first
        | (go_at_call 27; refine (HStp.out _ (by first | exact (Kept.refl _ _).drew | exact Kept.refl _ _ | exact (Kept.refl _ _).drewN _)).mono ?_; rintro e w2 ⟨rfl, x1, χ1, ρ1', ha1, hd1, hm1, hk2⟩)
        | (go_at_call 50; refine (HStpR.out _ (by first | exact Kept.undrew9 hk2 | exact hk2)).mono ?_; rintro e w3 ⟨rfl, F3, ρ2', hr3, hm3, hk3⟩))
    all_goals
      have HF : Hid (StepA N1 N2 w d r q ρ1 ρ2 w3) := hid (fin9 HB.out.2.1 HB.out.2.2.1 HB.out.2.2.2.1 HB.out.2.2.2.2.1 (by first | exact HKA.out.drew | exact HKA.out) ha1 (stp_steps q n) hm1 hk2 (Kept.refl _ _) hd1 hr3 hm3 hk3)
      clear ha1 hd1 hm1 hk2 hr3 hm3 hk3
      go_wp2_with fail
      go_ret
      exact ⟨rfl, HF.out⟩
  have f8 : (k == 8) = false := by simp [e8]
  by_cases e9 : k = 9
  · subst e9
    clear HCre HCreR HSyn HSynR HRen HRenR HRem HRemR HStp HStpR HSyd HSydR
    have hRA := HRA.out wA (Kept.refl _ _)
    have HCR := xrcrash hRA.1 HB.out.2.2.2.2.2.2.2.1 hRA.2 I (.slice ca cn cc) cs HOK.out.1.ints HOK.out.1.rng (fun k i _ => (HOK.out.2.1 k i).2.1)
    clear hRA
    go_wp2_with fail
    refine HCR.mono ?_
    rintro e w2 ⟨rfl, F2, ρ2', hr2, hm2, hk2⟩
    have hd2 : DkX N1 w2 d s ρ1 := (HDA.out wA (Kept.refl _ _)).1.kept hk2 (fun k e => (HB.out.2.2.1 k).resolve_right e.1)
    have HC1 := (xcrash hd2 HB.out.2.2.2.2.2.2.2.2 (by have := (HDA.out wA (Kept.refl _ _)).2; have := hk2.size; omega) I (.slice ca cn cc) cs (HOK.out.1.ints.kept hk2 (fun k i _ e => e.1 (HOK.out.2.1 k i).2.1)) HOK.out.1.rng (fun k i _ => (HOK.out.2.1 k i).1))
    have p5 : w2.cell? ⟨xb, 5, none⟩ = some (.slice ca cn cc) := hk2.cell q5 HNE.out.2.1
    have H2 := hid (And.intro hr2 (And.intro hm2 hk2))
    clear HCR hr2 hm2 hk2 hd2
    go_wp2_with fail
    refine HC1.mono ?_
    rintro e w3 ⟨_, hok3⟩
    obtain ⟨rfl, ρ1', hd3, hm3, hk3⟩ := hok3 _ rfl
    have HF : Hid (StepA N1 N2 w d r q ρ1 ρ2 w3) := hid (fin9b HB.out.1 HB.out.2.2.1 HKA.out (HB.out.2.2.2.1.cra cs) rfl (Nat.le_succ _) H2.out.2.1 H2.out.2.2 H2.out.1 hd3 hm3 hk3)
    clear HC1 hok3 hd3 hm3 hk3
    go_wp2_with fail
    go_ret
    exact ⟨rfl, HF.out⟩
  have f9 : (k == 9) = false := by simp [e9]
  clear HCre HCreR HSyn HSynR HRen HRenR HRem HRemR HStp HStpR HSyd HSydR
  have HF : Hid (StepA N1 N2 w d r q ρ1 ρ2 wA) := hid (fin9c HB.out.1 HB.out.2.1 HB.out.2.2.1 HB.out.2.2.2.1 HB.out.2.2.2.2.1 HKA.out)
  clear e1 e2 e3 e4 e5 e6 e7 e8 e9
  go_wp2_with fail
  go_ret
  exact ⟨rfl, HF.out⟩

end Go.Proofs.Ytjcobogajkfnmaa

/-
  Layer 9's law DiskRuns: two disks through a script, as states.
-/
namespace Go.Proofs.Ytjcobogajkfnmaa
open Go.RowKit Go.Maps

/-- What a disk that stands aside has is not written. -/
def Sep (ρ1 ρ2 σ : Rho) : Prop := ∀ k, σ k ≠ 0 → ρ1 k = 0 ∧ (ρ2 k = 0 ∨ ρ2 k = 9)

/-- A disk and the reference's, behind some calls. -/
def Run9 (W : World) (i : Nat) (w : World) (d r : Nat) (ρ1 ρ2 : Rho) : Prop :=
  ∃ N1 N2 s q F φ, DkX N1 w d s ρ1 ∧ RfX N2 w r q F ρ2 ∧ SimD φ s q ∧ s.left = q.left ∧ q.steps ≤ i ∧ (∀ k, ρ1 k = 0 ∨ ρ2 k = 0) ∧ W.heap.size ≤ N1 ∧ W.heap.size ≤ N2 ∧ N1 ≤ w.heap.size ∧ N2 ≤ w.heap.size

def RunI (W : World) (i : Nat) (w : World) (d r e k : Nat) : Prop :=
  Same W w ∧ ∃ ρ1 ρ2, Run9 W i w d r ρ1 ρ2 ∧ ((e = d ∧ k = r) ∨ ∃ σ1 σ2, Run9 W i w e k σ1 σ2 ∧ Sep ρ1 ρ2 σ1 ∧ Sep ρ1 ρ2 σ2)

section
variable {W : World} {i : Nat} {w w' : World} {d r : Nat} {ρ1 ρ2 σ1 σ2 : Rho}

theorem Run9.aside (h : Run9 W i w d r σ1 σ2) (hk : Kept (fun k => ρ1 k ≠ 0 ∨ (ρ2 k ≠ 0 ∧ ρ2 k ≠ 9)) w w') (h1 : Sep ρ1 ρ2 σ1) (h2 : Sep ρ1 ρ2 σ2) : Run9 W i w' d r σ1 σ2 := by
  obtain ⟨N1, N2, s, q, F, φ, a1, a2, a3, a4, a5, a6, a7, a8, a9, a10⟩ := h
  have hz := hk.size
  have hne : ∀ σ : Rho, Sep ρ1 ρ2 σ → ∀ k, (ρ1 k ≠ 0 ∨ (ρ2 k ≠ 0 ∧ ρ2 k ≠ 9)) → σ k = 0 := fun σ hs k e => Classical.byContradiction (fun e0 => by
    have h9 := hs k e0
    omega)
  exact ⟨N1, N2, s, q, F, φ, a1.kept hk (hne σ1 h1), a2.kept hk (hne σ2 h2), a3, a4, a5, a6, a7, a8, by omega, by omega⟩

theorem Run9.same (h : Run9 W i w d r ρ1 ρ2) (hk : Same w w') : Run9 W i w' d r ρ1 ρ2 := by
  obtain ⟨N1, N2, s, q, F, φ, a1, a2, a3, a4, a5, a6, a7, a8, a9, a10⟩ := h
  have hz := hk.size
  exact ⟨N1, N2, s, q, F, φ, a1.same hk, a2.same hk, a3, a4, a5, a6, a7, a8, by omega, by omega⟩

theorem Run9.up (h : Run9 W i w d r ρ1 ρ2) : Run9 W (i + 1) w d r ρ1 ρ2 := by
  obtain ⟨N1, N2, s, q, F, φ, a1, a2, a3, a4, a5, a6, a7, a8, a9, a10⟩ := h
  exact ⟨N1, N2, s, q, F, φ, a1, a2, a3, a4, by omega, a6, a7, a8, a9, a10⟩

theorem Run9.lt (h : Run9 W i w d r ρ1 ρ2) (k : Nat) : (ρ1 k ≠ 0 → W.heap.size ≤ k ∧ k < w.heap.size) ∧ (ρ2 k ≠ 0 → W.heap.size ≤ k ∧ k < w.heap.size) := by
  obtain ⟨N1, N2, s, q, F, φ, a1, a2, a3, a4, a5, a6, a7, a8, a9, a10⟩ := h
  exact ⟨fun e => ⟨Nat.le_trans a7 (a1.new k e).1, (a1.new k e).2⟩, fun e => ⟨Nat.le_trans a8 (a2.new k e).1, (a2.new k e).2⟩⟩

theorem Sep.next {σ ρ1' ρ2' : Rho} (h : Sep ρ1 ρ2 σ) (m1 : MoR w ρ1 ρ1') (m2 : MoR w ρ2 ρ2') (hs : ∀ k, σ k ≠ 0 → k < w.heap.size) : Sep ρ1' ρ2' σ := fun k e => by
  have h0 := h k e
  have h9 := hs k e
  refine ⟨?_, ?_⟩
  · rcases m1 k with h1 | h1 | h1
    · exact h1
    · rw [h1]; exact h0.1
    · omega
  · rcases m2 k with h1 | h1 | h1
    · exact .inl h1
    · rw [h1]; exact h0.2
    · omega

end

section
variable {W : World} {i : Nat} {w w' : World} {d r e k : Nat}

theorem RunI.same (h : RunI W i w d r e k) (hk : Same w w') : RunI W i w' d r e k := by
  obtain ⟨h0, ρ1, ρ2, h1, h2⟩ := h
  refine ⟨Same.trans h0 hk, ρ1, ρ2, h1.same hk, ?_⟩
  rcases h2 with h2 | ⟨σ1, σ2, h2, h3, h4⟩
  · exact .inl h2
  · exact .inr ⟨σ1, σ2, h2.same hk, h3, h4⟩

/-- A step. -/
theorem RunI.step {ρ1 ρ2 : Rho} {N1 N2 : Nat} {q : Ds} (h0 : Same W w) (h1 : Run9 W i w d r ρ1 ρ2) (hn : W.heap.size ≤ N1 ∧ W.heap.size ≤ N2 ∧ N1 ≤ w.heap.size ∧ N2 ≤ w.heap.size) (hq : q.steps ≤ i) (h2 : (e = d ∧ k = r) ∨ ∃ σ1 σ2, Run9 W i w e k σ1 σ2 ∧ Sep ρ1 ρ2 σ1 ∧ Sep ρ1 ρ2 σ2) (hs : StepA N1 N2 w d r q ρ1 ρ2 w') : RunI W (i + 1) w' d r e k := by
  obtain ⟨s', q', F', ρ1', ρ2', φ', a1, a2, a3, a4, a5, a6, m1, m2, hk⟩ := hs
  have hz := hk.size
  refine ⟨Kept.trans h0 hk (fun _ _ f => f) (fun k hk2 e2 => ?_), ρ1', ρ2', ⟨N1, N2, s', q', F', φ', a1, a2, a3, a4, by omega, a6, hn.1, hn.2.1, by omega, by omega⟩, ?_⟩
  · rcases e2 with e2 | e2
    · have := ((h1.lt k).1 e2).1; omega
    · have := ((h1.lt k).2 e2.1).1; omega
  · rcases h2 with h2 | ⟨σ1, σ2, h2, h3, h4⟩
    · exact .inl h2
    · exact .inr ⟨σ1, σ2, (h2.aside hk h3 h4).up, h3.next m1 m2 (fun k e => ((h2.lt k).1 e).2), h4.next m1 m2 (fun k e => ((h2.lt k).2 e).2)⟩

/-- A clone goes on. -/
theorem RunI.cloned {N1 N2 : Nat} {s q : Ds} {F : List Fv} {φ τ : Nat → Nat} {ρ1 ρ2 ρ1' ρ2' : Rho} {w1 w2 : World} {s' : Ds} {x y : Nat} (h0 : Same W w) (hd : DkX N1 w d s ρ1) (hr : RfX N2 w r q F ρ2) (hs : SimD φ s q) (hl : s.left = q.left) (hst : q.steps ≤ i) (ap : ∀ k, ρ1 k = 0 ∨ ρ2 k = 0) (hn : W.heap.size ≤ N1 ∧ W.heap.size ≤ N2 ∧ N1 ≤ w.heap.size ∧ N2 ≤ w.heap.size)
    (hx : DkX w.heap.size w1 x s' ρ1') (k1 : Same w w1) (hc : ClnS τ s s') (hy : RfX N2 w2 y q F ρ2') (k2 : Same w1 w2) (h9 : ∀ k, ρ2' k ≠ 0 → (ρ2 k = 9 ∧ ρ2' k = 9) ∨ w1.heap.size ≤ k) : RunI W i w2 x y d r := by
  have z1 := k1.size
  have z2 := k2.size
  have zW := h0.size
  have k12 := Same.trans k1 k2
  refine ⟨Same.trans h0 k12, ρ1', ρ2', ⟨w.heap.size, N2, s', q, F, _, hx.same k2, hy, hs.cln hc, by rw [hc.left]; exact hl, hst, fun k => ?_, zW, hn.2.1, by omega, by omega⟩, .inr ⟨ρ1, ρ2, ⟨N1, N2, s, q, F, φ, hd.same k12, hr.same k12, hs, hl, hst, ap, hn.1, hn.2.1, by omega, by omega⟩, fun k e => ⟨?_, .inl ?_⟩, fun k e => ⟨?_, ?_⟩⟩⟩
  · by_cases e1 : ρ1' k = 0
    · exact .inl e1
    · refine .inr (Classical.byContradiction (fun e2 => ?_))
      have b1 := hx.new k e1
      rcases h9 k e2 with b2 | b2
      · have := (hr.new k (by rw [b2.1]; decide)).2; omega
      · omega
  · exact Classical.byContradiction (fun e1 => by have := (hx.new k e1).1; have := (hd.new k e).2; omega)
  · exact Classical.byContradiction (fun e2 => by
      have b0 := (hd.new k e).2
      rcases h9 k e2 with b2 | b2
      · rcases ap k with b3 | b3
        · exact e b3
        · rw [b3] at b2; cases b2.1
      · omega)
  · exact Classical.byContradiction (fun e1 => by have := (hx.new k e1).1; have := (hr.new k e).2; omega)
  · by_cases e2 : ρ2' k = 0
    · exact .inl e2
    · rcases h9 k e2 with b2 | b2
      · exact .inr b2.2
      · have := (hr.new k e).2; omega

/-- same, of two that are. -/
theorem Run9.holds {ρ1 ρ2 : Rho} (h : Run9 W i w d r ρ1 ρ2) (hi : i ≤ 1000000) :
    Calls Try.prog 10 #[.pointer (some ⟨d, 0, none⟩), .pointer (some ⟨r, 0, none⟩)] w fun e w' => e = .returned (.bool true) ∧ Same w w' := by
  obtain ⟨N1, N2, s, q, F, φ, a1, a2, a3, a4, a5, a6, a7, a8, a9, a10⟩ := h
  exact dsame_any a1 a2 a3 a4 (by omega)

theorem RunI.holds (h : RunI W i w d r e k) (hi : i ≤ 1000000) :
    Calls Try.prog 10 #[.pointer (some ⟨d, 0, none⟩), .pointer (some ⟨r, 0, none⟩)] w fun e w' => e = .returned (.bool true) ∧ Same w w' := by
  obtain ⟨_, _, _, h1, _⟩ := h
  exact h1.holds hi

theorem RunI.elder (h : RunI W i w d r e k) (hi : i ≤ 1000000) :
    Calls Try.prog 10 #[.pointer (some ⟨e, 0, none⟩), .pointer (some ⟨k, 0, none⟩)] w fun e w' => e = .returned (.bool true) ∧ Same w w' := by
  obtain ⟨_, _, _, h1, h2⟩ := h
  rcases h2 with ⟨rfl, rfl⟩ | ⟨σ1, σ2, h2, _⟩
  · exact h1.holds hi
  · exact h2.holds hi

end

end Go.Proofs.Ytjcobogajkfnmaa

/-
  Layer 9's law DiskRuns: the walk.
-/
namespace Go.Proofs.Ytjcobogajkfnmaa
open Go.RowKit Go.Maps

theorem Same.belR {w w' : World} (h : Same w w') : Below w.heap.size w w' := Kept.below h (Nat.le_refl _) (fun _ _ e => e)

set_option maxRecDepth 100000 in
set_option maxHeartbeats 4000000 in
theorem diskRuns_all (a0 : Int) (a1 : Option Addr) (len1 cap1 : Nat) (O1 : Nat → O9) (W : World) (_w0 : (Lit.int .i64 a0).wf = true) (h1 : Ops9 W (fun k => k < W.heap.size) a1 len1 O1) :
    Calls Try.prog 4 #[.int .i64 a0, .slice a1 len1 cap1] W fun e W' => e = .returned (.bool true) ∧ Below W.heap.size W W' := by
  clear _w0
  have HL := dlarge_any W _ a1 len1 cap1 O1 h1
  have HO : Hid (Ops9 W (fun k => k < W.heap.size) a1 len1 O1) := h1
  clear h1
  go_enter Try.func4, Try.ntmps4
  go_wp2_with fail
  refine HL.mono ?_
  rintro e v1 ⟨rl, rfl, hrl, kv1⟩
  have H1 : Hid ((rl = false → len1 ≤ 1000 ∧ ∀ j, j < len1 → OpSm (O1 j)) ∧ Same W v1) := hid ⟨hrl, kv1⟩
  clear HL hrl kv1
  cases rl with
  | true =>
    go_wp2_with fail
    refine (dawake_any _).mono ?_
    rintro e v4 ⟨rfl, hk4⟩
    have HK4 := hid hk4
    clear hk4
    go_wp2_with fail
    go_ret
    exact ⟨rfl, (Same.trans H1.out.2 HK4.out).belR⟩
  | false =>
    have HL1 : Hid (len1 ≤ 1000 ∧ ∀ j, j < len1 → OpSm (O1 j)) := hid (H1.out.1 rfl)
    by_cases hlo : a0 < 1
    · have b1 : decide (a0 < 1) = true := by simp; omega
      clear hlo
      go_wp2_with fail
      refine (dawake_any _).mono ?_
      rintro e v4 ⟨rfl, hk4⟩
      have HK4 := hid hk4
      clear hk4
      go_wp2_with fail
      go_ret
      exact ⟨rfl, (Same.trans H1.out.2 HK4.out).belR⟩
    by_cases hhi : 4194304 < a0
    · have b1 : decide (a0 < 1) = false := by simp; omega
      have b2 : decide (a0 > 4194304) = true := by simp; omega
      have b3 : decide (4194304 < a0) = true := by simp; omega
      clear hlo hhi
      go_wp2_with fail
      refine (dawake_any _).mono ?_
      rintro e v4 ⟨rfl, hk4⟩
      have HK4 := hid hk4
      clear hk4
      go_wp2_with fail
      go_ret
      exact ⟨rfl, (Same.trans H1.out.2 HK4.out).belR⟩
    obtain ⟨R, hR⟩ : ∃ R : Nat, a0 = (R : Int) := ⟨a0.toNat, by omega⟩
    subst hR
    have b1 : decide ((R : Int) < 1) = false := by simp; omega
    have b2 : decide ((R : Int) > 4194304) = false := by simp; omega
    have b3 : decide ((4194304 : Int) < (R : Int)) = false := by simp; omega
    have b1' : decide (R < 1) = false := by simp; omega
    have b2' : decide (R > 4194304) = false := by simp; omega
    have b3' : decide (4194304 < R) = false := by simp; omega
    have HNW := xnew v1 R (by omega) (by omega)
    have HRL : Hid (R ≤ 4194304) := hid (by omega)
    clear hlo hhi
    go_wp2_with fail
    refine HNW.mono ?_
    rintro e v2 ⟨d0, ρ10, rfl, hd0, kv2⟩
    have HRN := xrnew v2 R HRL.out
    have H2 : Hid (DkX v1.heap.size v2 d0 (newD R) ρ10 ∧ Same v1 v2) := hid ⟨hd0, kv2⟩
    clear HNW hd0 kv2 b1 b2 b3 b1' b2' b3'
    go_wp2_with fail
    refine HRN.mono ?_
    rintro e v3 ⟨r0, ρ20, rfl, hr0, kv3⟩
    have H3 : Hid (RunI W 0 v3 d0 r0 d0 r0) := by
      have z1 := H1.out.2.size
      have z2 := H2.out.2.size
      have z3 := kv3.size
      refine hid ⟨Same.trans H1.out.2 (Same.trans H2.out.2 kv3), ρ10, ρ20, ⟨v1.heap.size, v2.heap.size, newD R, newD R, [], id, H2.out.1.same kv3, hr0, sim_new R, rfl, Nat.le_refl _, fun k => ?_, z1, by omega, by omega, z3⟩, .inl ⟨rfl, rfl⟩⟩
      by_cases e : ρ10 k = 0
      · exact .inl e
      · exact .inr (Classical.byContradiction (fun e2 => by have := (H2.out.1.new k e).2; have := (hr0.new k e2).1; omega))
    clear HRN hr0 kv3
    go_wp2_with fail
    go_loopg [5, 7, 8, 9, 10] len1 (fun qq z5 z7 z8 z9 z10 wr => ∃ (i d r e k : Nat), z5 = .pointer (some ⟨d, 0, none⟩) ∧ z7 = .pointer (some ⟨r, 0, none⟩) ∧ z8 = .pointer (some ⟨e, 0, none⟩) ∧ z9 = .pointer (some ⟨k, 0, none⟩) ∧ z10 = .int .i64 (i : Nat) ∧ i ≤ len1 ∧ len1 - i ≤ qq ∧ Hid (RunI W i wr d r e k))
    case atStart => exact ⟨0, d0, r0, d0, r0, rfl, rfl, rfl, rfl, rfl, by omega, by omega, H3⟩
    case round =>
      obtain ⟨i, d, r, el, ke, rfl, rfl, rfl, rfl, rfl, hi, hiq, HI⟩ := hrel
      by_cases hlt : i < len1
      · have c1 : decide (i < len1) = true := by simp; omega
        have hl1 := HL1.out
        obtain ⟨hok, b, o, ha, hib, hat⟩ := HO.out i hlt
        subst ha
        obtain ⟨x, hx⟩ : ∃ x, x = O1 i := ⟨_, rfl⟩
        have hsm := hl1.2 i hlt
        rw [← hx] at hat hok hsm
        have i1 : (0 : Int) ≤ (i : Int) := by omega
        have i2 : (i : Int) < (len1 : Int) := by omega
        have hiw : IntKind.i64.wrap ((i : Int) + 1) = ((i + 1 : Nat) : Int) := by rw [IntKind.wrap_i64]; omega
        have hat1 := hat.kept HI.out.1 (fun f => f)
        have HX : Hid (i < len1 ∧ i ≤ 1000) := hid ⟨hlt, by omega⟩
        have HXO : Hid (OpOk W (fun k => k < W.heap.size) x ∧ OpSm x ∧ OpAt W b (o + i * 6) x) := hid ⟨hok, hsm, hat⟩
        obtain ⟨k0, k1, k2, k3, k4, k5⟩ := hat1
        clear hl1 hok hib hat hx hsm hlt
        obtain ⟨k, ta, tb, da, dn, dc, bs, n, ca, cn, cc, cs⟩ := x
        dsimp only at k0 k1 k2 k3 k4 k5
        by_cases e10 : k = 10
        case' pos =>
          subst e10
          obtain ⟨h0, ρ1, ρ2, ⟨N1, N2, s, q, F, φ, hd, hr, hs, hl, hst, ap, hn1, hn2, hn3, hn4⟩, _⟩ := HI.out
          have HCL := xclone hd (by rw [hs.steps]; have := HX.out; omega)
          have HCC : Hid (Same W wr ∧ DkX N1 wr d s ρ1 ∧ RfX N2 wr r q F ρ2 ∧ SimD φ s q ∧ s.left = q.left ∧ q.steps ≤ i ∧ (∀ k, ρ1 k = 0 ∨ ρ2 k = 0) ∧ W.heap.size ≤ N1 ∧ W.heap.size ≤ N2 ∧ N1 ≤ wr.heap.size ∧ N2 ≤ wr.heap.size) := hid ⟨h0, hd, hr, hs, hl, hst, ap, hn1, hn2, hn3, hn4⟩
          clear h0 hd hr hs hl hst ap hn1 hn2 hn3 hn4
          go_wp2_with fail
          refine HCL.mono ?_
          rintro e u1 ⟨x1, s', ρ1', τ, rfl, hx1, hku1, hcl⟩
          have hc := HCC.out
          have HCR := xrclone (hc.2.2.1.same hku1) (by have := HX.out; omega) (by have := hku1.size; omega)
          have HU1 : Hid (DkX wr.heap.size u1 x1 s' ρ1' ∧ Same wr u1 ∧ ClnS τ s s') := hid ⟨hx1, hku1, hcl⟩
          clear HCL hx1 hku1 hcl hc
          go_wp2_with fail
          refine HCR.mono ?_
          rintro e u2 ⟨y1, ρ2', rfl, hy1, hku2, h92⟩
          have hc := HCC.out
          have HI1 : Hid (RunI W i u2 x1 y1 d r) := hid (RunI.cloned hc.1 hc.2.1 hc.2.2.1 hc.2.2.2.1 hc.2.2.2.2.1 hc.2.2.2.2.2.1 hc.2.2.2.2.2.2.1 hc.2.2.2.2.2.2.2 HU1.out.1 HU1.out.2.1 HU1.out.2.2 hy1 hku2 h92)
          clear HCR hy1 hku2 h92 hc HCC HU1
        case' neg =>
          have e10' : (k == 10) = false := by simp [e10]
          have HI1 : Hid (RunI W i wr d r el ke) := HI
          obtain ⟨u2, hu2⟩ : ∃ W, W = wr := ⟨_, rfl⟩
          subst hu2
        all_goals
          obtain ⟨h0, ρ1, ρ2, hrun, hel⟩ := HI1.out
          obtain ⟨N1, N2, s, q, F, φ, hd, hr, hs, hl, hst, ap, hn1, hn2, hn3, hn4⟩ := id hrun
          have HSTP := dstep9_any hd hr ap hs hl (by have := HX.out; omega) hn3 hn4 _ (fun k => k < W.heap.size) (HXO.out.1.kept h0 (fun _ _ _ f => f)) (fun k hk => ⟨Classical.byContradiction (fun e => by have := ((hrun.lt k).1 e).1; omega), Classical.byContradiction (fun e => by have := ((hrun.lt k).2 e).1; omega), by have := h0.size; omega⟩) HXO.out.2.1
          unfold opC at HSTP
          dsimp only at HSTP
          have HNX : Hid (∀ w', StepA N1 N2 u2 _ _ q ρ1 ρ2 w' → RunI W (i + 1) w' _ _ _ _) := hid (fun w' hA => RunI.step h0 hrun ⟨hn1, hn2, hn3, hn4⟩ hst hel hA)
          have hat2 := HXO.out.2.2.kept h0 (fun f => f)
          obtain ⟨k0, k1, k2, k3, k4, k5⟩ := hat2
          dsimp only at k0 k1 k2 k3 k4 k5
          clear h0 hrun hel hd hr hs hl hst ap hn1 hn2 hn3 hn4
          go_wp2_with fail
          refine HSTP.mono ?_
          rintro e u3 ⟨rfl, hA⟩
          have HI2 := hid (HNX.out u3 hA)
          have HSM := HI2.out.holds (by have := HX.out; omega)
          clear HSTP hA HNX
          go_wp2_with fail
          refine HSM.mono ?_
          rintro e u4 ⟨rfl, k4⟩
          have HI3 := hid (HI2.out.same k4)
          clear HSM k4
          go_wp2_with fail
          go_roundg (gk - 1)
          case measure => have := HX.out; omega
          case rel => exact ⟨i + 1, _, _, _, _, rfl, rfl, rfl, rfl, by go_num, by have := HX.out; omega, by have := HX.out; omega, HI3⟩
      · have c1 : decide (i < len1) = false := by simp; omega
        have HX : Hid (i ≤ 1000) := hid (by have := HL1.out; omega)
        go_wp2_with fail
        refine (dawake_any _).mono ?_
        rintro e u5 ⟨rfl, k5⟩
        have HI5 := hid (HI.out.same k5)
        have HSM := HI5.out.elder (by have := HX.out; omega)
        clear k5
        go_wp2_with fail
        refine HSM.mono ?_
        rintro e u6 ⟨rfl, k6⟩
        have HI6 := hid (HI5.out.same k6)
        clear HSM k6
        go_wp2_with fail
        go_ret
        exact ⟨rfl, HI6.out.1.belR⟩

end Go.Proofs.Ytjcobogajkfnmaa
