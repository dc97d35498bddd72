/-
  Of the proof: parts DkM, DkN, DkO.
-/
import Derived.Maps.RangeWalk
import Derived.Test.YtjcobogajkfnmaaJ8

/-
  Layer 9: Used.
-/
namespace Go.Proofs.Ytjcobogajkfnmaa
open Go.RowKit Go.Maps

def lenF (s : Ds) (f : Nat) : Nat := (s.fl f).bs.length

/-- The bytes of all that have a name. -/
def usedN (s : Ds) : Nat := (s.names.map (fun p => lenF s p.2)).sum

theorem sumL_has (F : Nat → Nat) {left : Lit → Bool} {L : Nms} (h : ∀ p ∈ L, left (litN p.1) = true) : sumL F left L = (L.map (fun p => F p.2)).sum := by
  unfold sumL
  rw [List.filter_eq_self.2 h]

theorem has_nm (L : Nms) : ∀ p ∈ L, Maps.has (nmD L) (litN p.1) = true := by
  intro p hp
  unfold nmD
  simp [Maps.has]
  exact ⟨p.1, p.2, hp, by rw [show (entN (p.1, p.2)).1 = litN p.1 from rfl, sameN]; simp⟩

theorem usedN_le {N : Nat} {w : World} {d : Nat} {s : Ds} {ρ : Rho} {nb sb : Nat} {cv : Value} (h : Dk N w d s ρ nb sb cv) (hst : s.steps ≤ 1000000) : usedN s ≤ 4194304000000 := by
  have h1 : ∀ L : Nms, (∀ p ∈ L, ρ p.2 = 5) → (L.map (fun p => lenF s p.2)).sum ≤ L.length * 4194304 := by
    intro L
    induction L with
    | nil => intro _; exact Nat.zero_le _
    | cons p L ih =>
      intro hp
      have h2 := ih (fun q hq => hp q (List.mem_cons_of_mem _ hq))
      have h3 := (h.okf p.2 (hp p List.mem_cons_self)).2.1
      have h4 := h.room
      rw [List.map_cons, List.sum_cons, List.length_cons, Nat.add_mul]
      unfold lenF at h2 ⊢
      omega
  have h2 := h1 s.names h.nmf
  have h3 := h.lens
  unfold usedN
  omega

end Go.Proofs.Ytjcobogajkfnmaa

/-
  Layer 9: Used.
-/
namespace Go.Proofs.Ytjcobogajkfnmaa
open Go.RowKit Go.Maps

set_option maxRecDepth 100000 in
set_option maxHeartbeats 1000000 in
theorem dused_any {N : Nat} {w : World} {d : Nat} {s : Ds} {ρ : Rho} {nb sb : Nat} {cv : Value} (h : Dk N w d s ρ nb sb cv) (hst : s.steps ≤ 1000000) (hl : s.left ≠ 0) :
    Calls Try.prog 29 #[.pointer (some ⟨d, 0, none⟩)] w fun e w' => e = .returned (.int .i64 (usedN s : Nat)) ∧ Same w w' := by
  have HRF := drefuse_any w d s.left (h.blk.cell 5)
  rw [show dwn s.left = 0 from if_neg hl] at HRF
  have c1 : w.cell? ⟨d, 1, none⟩ = some (.map (some nb)) := h.blk.cell 1
  have HD : Hid (Dk N w d s ρ nb sb cv) := h
  have HM : Hid (Mp w nb s.names) := hid h.nm
  have HU : Hid (usedN s ≤ 4194304000000) := hid (usedN_le h hst)
  obtain ⟨T, hT⟩ : ∃ T, T = usedN s := ⟨_, rfl⟩
  have HT : Hid (T = usedN s) := hT
  rw [← hT]
  clear h hl hst hT
  go_enter Try.func29, Try.ntmps29
  go_wp2_with fail
  refine HRF.mono ?_
  rintro e w1 ⟨rfl, hw1⟩
  subst hw1
  clear HRF
  go_wp2_with (at_range; refine wpList_range_own _ rfl _ 59 rfl 9 70 Try.strKey Try.underlying59 ptR nb s.names.length (nmD s.names) rfl HM.out ?_; intro w0 hrg0 hg0 hs0)
  obtain ⟨r, hr⟩ : ∃ r, r = w1.heap.size := ⟨_, rfl⟩
  rw [← hr] at hrg0 ⊢
  have HRG : Hid (w0.ranges Try.prog 9 ptR nb r s.names.length (nmD s.names) (Maps.has (nmD s.names)) (Maps.size (nmD s.names))) := hrg0
  have HK0 : Hid (Same w1 w0) := hid ((Kept.refl _ w1).grown hg0 (fun k e => by cases e))
  have HRR : Hid (r = w1.heap.size) := hr
  clear hrg0 hg0 hs0 hr
  obtain ⟨K0, hK0⟩ : ∃ k, k = Maps.size (nmD s.names) := ⟨_, rfl⟩
  have HKZ : Hid (K0 = Maps.size (nmD s.names)) := hK0
  clear hK0
  go_frame
  go_loopg [3] K0 (fun k z3 wr => ∃ (U : Nat) (left : Lit → Bool) (cnt : Nat), z3 = .int .i64 (U : Nat) ∧ cnt ≤ k ∧ U ≤ T ∧ Hid (wr.ranges Try.prog 9 ptR nb r s.names.length (nmD s.names) left cnt ∧ Same w1 wr ∧ U + sumL (lenF s) left s.names = T))
  case atStart =>
    refine ⟨0, _, _, rfl, Nat.le_of_eq HKZ.out.symm, Nat.zero_le _, hid ⟨HRG.out, HK0.out, ?_⟩⟩
    rw [sumL_has _ (has_nm s.names), HT.out, Nat.zero_add]; rfl
  case round =>
    obtain ⟨U, left, cnt, rfl, hcnt, hUT, HI⟩ := hrel
    have HUT : Hid (T ≤ 4194304000000) := hid (by rw [HT.out]; exact HU.out)
    go_wp2_with (at_next; refine wpList_next_ranges _ rfl (.tmp 13) rfl 9 Try.strKey ptR (fun x : Value => x) (fun x : Value => x) (fun key kl _ => ⟨key, rfl⟩) (fun v y _ => ⟨v, rfl⟩) nb r s.names.length (nmD s.names) left cnt rfl HI.out.1 ?_ ?_)
    · intro hc0 hl0
      have HE : Hid (U = T) := hid (by
        have h9 := HI.out.2.2
        rw [sumL_none (lenF s) (fun p _ => hl0 (litN p.1))] at h9
        omega)
      clear hc0 hl0
      go_wp2_with fail
      go_ret
      exact ⟨by rw [← HE.out]; rfl, HI.out.2.1⟩
    · intro x c kl y1 y2 w2 cnt2 hkey hlx hv hat hrg2 hlt hg2 hs2 hen
      obtain ⟨t, rfl, rfl⟩ : ∃ t, x = .string t ∧ kl = litN t := by
        cases x <;> simp [keyOf, Try.underlying9, mapKey] at hkey
        exact ⟨_, rfl, by unfold litN; first | exact hkey.2.symm | exact hkey.symm⟩
      obtain ⟨f, hg⟩ : ∃ f, getN t s.names = some f := by
        cases hg : getN t s.names with
        | some f => exact ⟨f, rfl⟩
        | none =>
          have h1 := hat .nil
          have h2 := hat (.lit (.int .i64 0))
          rw [nmD_at, hg] at h1 h2
          rw [← h1] at h2
          cases h2
      have hy : y1 = .lit (.int .i64 (f : Nat)) := by have h1 := hat .nil; rw [nmD_at, hg] at h1; exact h1.symm
      have hm := getN_mem hg
      obtain rfl : c = .pointer (some ⟨f, 0, none⟩) := ptR_inv (ps := y2) (by rw [hv, ← hy])
      have hf5 := HD.out.nmf _ hm
      have hk2 : Same w1 w2 := HI.out.2.1.grown hg2 (fun k e => .inr (by simp only [Option.some.injEq] at e; rw [← e, HRR.out]; exact Nat.le_refl _))
      obtain ⟨v, h1, h2, _⟩ := (HD.out.same hk2).fil f hf5
      obtain ⟨a, cap, hvv, _⟩ := h2.shape
      obtain ⟨n, hn⟩ : ∃ n, n = (s.fl f).bs.length := ⟨_, rfl⟩
      rw [← hn] at hvv
      subst hvv
      have f0 : w2.cell? ⟨f, 0, none⟩ = some (.slice a n cap) := h1.cell 0
      have hst := sumL_step (lenF s) HM.out.apart hm hlx
      have hsum := HI.out.2.2
      rw [hst, show lenF s f = n from hn.symm] at hsum
      obtain ⟨U2, hU2⟩ : ∃ u, u = U + n := ⟨_, rfl⟩
      have q1 : (U : Int) + (n : Int) = (U2 : Int) := by omega
      have q1w : IntKind.i64.wrap (U2 : Int) = (U2 : Int) := by rw [IntKind.wrap_i64]; have := HUT.out; omega
      have HF : Hid (w2.ranges Try.prog 9 ptR nb r s.names.length (nmD s.names) (fun z => left z && !z.sameKey (litN t)) cnt2 ∧ Same w1 w2 ∧ U2 + sumL (lenF s) (fun z => left z && !z.sameKey (litN t)) s.names = T) := hid ⟨hrg2, hk2, by omega⟩
      have HL : Hid (cnt2 < cnt ∧ U2 ≤ T) := hid ⟨hlt, by omega⟩
      clear hkey hlx hv hat hrg2 hlt hg2 hs2 hg hy hm hf5 hk2 h1 h2 hn hst hsum hU2
      go_wp2_with fail
      go_roundg (gk - 1)
      case measure => have := HL.out; omega
      case rel => exact ⟨U2, _, cnt2, by go_num, by have := HL.out; omega, HL.out.2, HF⟩

end Go.Proofs.Ytjcobogajkfnmaa

/-
  Layer 9: Append.
-/
namespace Go.Proofs.Ytjcobogajkfnmaa
open Go.RowKit Go.Maps

/-- append of whatever bytes as a step of a region that draws its order, and where the row lies. -/
theorem step_append_9 {ops : Array Oper} {o : Oper} {a : Act} {w : World} {K : Act → World → Prop} {Q : Exit → Act → World → Prop} {E : Prop} (hgd : o.guard = none) (s x : Operand)
    (ho : o.op = .call { callee := .builtin .append, args := #[s, x], argTypes := #[33, 33] })
    (v : Value) (bs : List Nat) (hs : a.eval s = v) (hrow : Row w v bs) (I : Nat → Prop) (xv : Value) (cs : List Nat) (hx : a.eval x = xv) (hnil : ∀ n c, xv = .slice none n c → n = 0 ∧ c = 0) (hsrc : Src w I xv cs) (hlen : bs.length + cs.length ≤ 1000000000000)
    (h : ∀ v' w', Row w' v' (bs ++ cs) → w.grownBy w' v.ownBlock → (v'.ownBlock = v.ownBlock ∨ v'.ownBlock = some w.heap.size) → K (a.put o.dst v') w') : if Region.wanted o (yielded ops a.tmps) = true then Oper.wp Try.prog o a w K Q else E := by
  have hw : Region.wanted o (yielded ops a.tmps) = true := by simp [Region.wanted, hgd]
  rw [if_pos hw]
  obtain ⟨ao, cap, rfl, hc⟩ := id hsrc
  cases ao with
  | some ad =>
    have hb : BytesAt w ad cs := by
      by_cases h0 : cs = []
      · subst h0; intro j u hu; simp at hu
      · obtain ⟨a', e, hb⟩ := (Src.at hsrc).2 h0
        injection e with e
        subst e
        exact hb
    obtain ⟨v', w', hr, h2, h3, h4⟩ := run_append_row w o.type v bs hrow ad cap cs hb hlen
    unfold Oper.wp execOp
    simp only [ho, resolve, invoke, builtin, Sem.run_bind, Sem.run_pure, Result.andThen_ok, List.map_toArray, List.map_cons, List.map_nil, hs, hx, hr]
    exact h v' w' h2 h3 h4
  | none =>
    obtain ⟨h0, h1⟩ := hnil _ _ rfl
    have hcs : cs = [] := List.eq_nil_of_length_eq_zero h0
    subst hcs h1
    obtain ⟨i0, hi, hz0, hz1, hz2⟩ := info_parts Try.info8
    have hr := run_append_owned_none (P := Try.prog) w 0 33 o.type 5 i0 1 Try.underlying33 hi v bs.length (bs.map byteV) hrow
    unfold Oper.wp execOp
    simp only [ho, resolve, invoke, builtin, Sem.run_bind, Sem.run_pure, Result.andThen_ok, List.map_toArray, List.map_cons, List.map_nil, hs, hx, List.length_nil, hr]
    exact h v w (by simpa using hrow) (World.grownBy.refl _ _) (.inl rfl)

/-- Append's answer. -/
def appS (s : Ds) (t : ByteArray) (bs : List Nat) : Except Nat Ds := if s.left = 0 then .error 94 else match getN t s.names with
  | none => .error 92
  | some f => if s.room < usedN s + bs.length then .error 93 else .ok (stepS { s with fl := updF s.fl f ⟨(s.fl f).bs ++ bs, (s.fl f).safe⟩ })

theorem usedN_ge (s : Ds) (t : ByteArray) (f : Nat) (h : getN t s.names = some f) : (s.fl f).bs.length ≤ usedN s := by
  have hm := getN_mem h
  unfold usedN
  have : ∀ L : Nms, (t, f) ∈ L → lenF s f ≤ (L.map (fun p => lenF s p.2)).sum := by
    intro L
    induction L with
    | nil => intro h; cases h
    | cons p L ih =>
      intro h
      rw [List.map_cons, List.sum_cons]
      rcases List.mem_cons.1 h with h | h
      · rw [← h]; exact Nat.le_add_right _ _
      · exact Nat.le_trans (ih h) (Nat.le_add_left _ _)
  exact this _ hm

section
variable {N : Nat} {w : World} {d : Nat} {s : Ds} {ρ : Rho} {nb sb : Nat} {cv : Value}

/-- What a call tells that is one step and looks about first. -/
def StpB (N : Nat) (w : World) (d : Nat) (ρ : Rho) (nb sb : Nat) (r : Except Nat Ds) (e : Ending) (w' : World) : Prop :=
  (∀ k, r = .error k → e = .returned (.int .i64 (k : Nat)) ∧ Same w w') ∧
  ∀ s', r = .ok s' → e = .returned (.int .i64 0) ∧ ∃ ρ' cv', Dk N w' d s' ρ' nb sb cv' ∧ Ext w ρ ρ' ∧ Kept (fun k => ρ k ≠ 0) w w'

theorem StpA.toB {r : Except Nat Ds} {e : Ending} {w' : World} (h : StpA N w d ρ nb sb r e w') : StpB N w d ρ nb sb r e w' :=
  ⟨fun k hk => ⟨(h.1 k hk).1, by rw [(h.1 k hk).2]; exact Kept.refl _ _⟩, h.2⟩

set_option maxRecDepth 100000 in
set_option maxHeartbeats 1000000 in
theorem dappend_any (h : Dk N w d s ρ nb sb cv) (hst : s.steps ≤ 1000000) (t : ByteArray) (ht : t.size ≤ 100000) (I : Nat → Prop) (xv : Value) (cs : List Nat) (hsrc : Src w I xv cs) (hnil : ∀ n c, xv = .slice none n c → n = 0 ∧ c = 0) (hcs : cs.length ≤ 1000000000) (hI : ∀ k, I k → k < w.heap.size → ρ k = 0) (hb256 : ∀ b ∈ cs, b < 256) (hN : N ≤ w.heap.size) :
    Calls Try.prog 22 #[.pointer (some ⟨d, 0, none⟩), .string t, xv] w fun e w' => StpB N w d ρ nb sb (appS s t cs) e w' := by
  obtain ⟨ao, cap, rfl, hc⟩ := id hsrc
  by_cases hl : s.left = 0
  · have c5 : w.cell? ⟨d, 5, none⟩ = some (.int .i64 s.left) := h.blk.cell 5
    rw [hl] at c5
    have HF := dfind_down w d t c5
    have HR : Hid (appS s t cs = .error 94) := hid (if_pos hl)
    clear h hl c5 hsrc hc hnil
    go_enter Try.func22, Try.ntmps22
    go_wp2_with fail
    refine HF.mono ?_
    rintro e w1 ⟨rfl, hw1⟩
    subst hw1
    go_wp2_with fail
    go_ret
    exact ⟨fun k e => by rw [HR.out] at e; cases e; exact ⟨rfl, Kept.refl _ _⟩, fun s' e => by rw [HR.out] at e; cases e⟩
  · have HF := dfind_any h hl t (Nat.le_trans ht (by decide))
    cases hg : getN t s.names with
    | none =>
      rw [hg] at HF
      have HR : Hid (appS s t cs = .error 92) := hid (by unfold appS; rw [if_neg hl, hg])
      unfold fndD at HF
      clear h hl hg hsrc hc hnil
      go_enter Try.func22, Try.ntmps22
      go_wp2_with fail
      refine HF.mono ?_
      rintro e w1 ⟨rfl, hw1⟩
      subst hw1
      go_wp2_with fail
      go_ret
      exact ⟨fun k e => by rw [HR.out] at e; cases e; exact ⟨rfl, Kept.refl _ _⟩, fun s' e => by rw [HR.out] at e; cases e⟩
    | some f =>
      rw [hg] at HF
      unfold fndD at HF
      have hf : ρ f = 5 := h.nmf _ (getN_mem hg)
      obtain ⟨v, h1, h2, h3⟩ := h.fil f hf
      obtain ⟨a, cp, hv, _⟩ := h2.shape
      obtain ⟨m, hm⟩ : ∃ n, n = (s.fl f).bs.length := ⟨_, rfl⟩
      rw [← hm] at hv
      subst hv
      obtain ⟨T, hT⟩ : ∃ T, T = usedN s := ⟨_, rfl⟩
      obtain ⟨n, hn⟩ : ∃ n, n = cs.length := ⟨_, rfl⟩
      obtain ⟨X, hX⟩ : ∃ X, X = T + n := ⟨_, rfl⟩
      obtain ⟨R, hR⟩ : ∃ R, R = s.room := ⟨_, rfl⟩
      have hTl : T ≤ 4194304000000 := by rw [hT]; exact usedN_le h hst
      have q1 : (T : Int) + (n : Int) = (X : Int) := by omega
      have q1w : IntKind.i64.wrap (X : Int) = (X : Int) := by rw [IntKind.wrap_i64]; omega
      have c0 : w.cell? ⟨d, 0, none⟩ = some (.int .i64 (R : Nat)) := by rw [hR]; exact h.blk.cell 0
      have HU : Hid (∀ w', Same w w' → Calls Try.prog 29 #[.pointer (some ⟨d, 0, none⟩)] w' fun e w2 => e = .returned (.int .i64 (T : Nat)) ∧ Same w' w2) := hid (fun w' hk => by rw [hT]; exact dused_any (h.same hk) hst hl)
      have HD : Hid (Dk N w d s ρ nb sb cv) := h
      have HQ : Hid (s.steps ≤ 1000000 ∧ ρ f = 5 ∧ m = (s.fl f).bs.length ∧ T = usedN s ∧ n = cs.length ∧ X = T + n ∧ R = s.room ∧ (s.fl f).bs.length ≤ T ∧ (∀ b ∈ cs, b < 256) ∧ cs.length ≤ 1000000000 ∧ N ≤ w.heap.size) := hid ⟨hst, hf, hm, hT, hn, hX, hR, by rw [hT]; exact usedN_ge s t f hg, hb256, hcs, hN⟩
      have HB : Hid (Blk w f #[.slice a m cp, .int .i64 ((s.fl f).safe : Nat)] 73) := h1
      have HRw : Hid (Row w (.slice a m cp) (s.fl f).bs) := h2
      have H3 : Hid (∀ k, (Value.slice a m cp).ownBlock = some k → ρ k = 10 + f) := h3
      have HS : Hid (Src w I (.slice ao cs.length cap) cs ∧ (∀ k, I k → k < w.heap.size → ρ k = 0)) := hid ⟨hsrc, hI⟩
      have HNL : Hid (∀ n c, Value.slice ao cs.length cap = .slice none n c → n = 0 ∧ c = 0) := hnil
      rw [← hn] at HS HNL ⊢
      by_cases hfull : R < X
      · have b1 : decide ((R : Int) < (X : Int)) = true := by simp; omega
        have b1' : decide (R < X) = true := by simp; omega
        have HR : Hid (appS s t cs = .error 93) := hid (by unfold appS; rw [if_neg hl, hg]; dsimp only; rw [if_pos (by omega)])
        clear h hl hg hsrc hc hnil hI hcs hb256 hst hf h1 h2 h3 hm hT hn hX hR hTl hfull hN
        go_enter Try.func22, Try.ntmps22
        go_wp2_with fail
        refine HF.mono ?_
        rintro e w1 ⟨rfl, hw1⟩
        subst hw1
        clear HF
        go_upto_region 4 with fail
        go_region_held3 (fun w' => w'.cell? ⟨d, 0, none⟩ = some (.int .i64 (R : Nat)))
          (first | (go_split_ands; exact hk2.cell (by assumption) (fun f => f)) | go_keep)
          (first | (go_at_call 29; refine (HU.out _ (by first | exact (Kept.refl _ _).drew | exact Kept.refl _ _ | exact (Kept.refl _ _).drewN _)).mono ?_; rintro e w2 ⟨rfl, hk2⟩))
        all_goals
          have HK2 : Hid (Same w1 w2) := hid (Kept.undrew9 hk2)
          clear hk2
          go_wp2_with fail
          go_ret
          exact ⟨fun k e => by rw [HR.out] at e; cases e; exact ⟨rfl, HK2.out⟩, fun s' e => by rw [HR.out] at e; cases e⟩
      · have b1 : decide ((R : Int) < (X : Int)) = false := by simp; omega
        have b1' : decide (R < X) = false := by simp; omega
        have HR : Hid (appS s t cs = .ok (stepS { s with fl := updF s.fl f ⟨(s.fl f).bs ++ cs, (s.fl f).safe⟩ })) := hid (by unfold appS; rw [if_neg hl, hg]; dsimp only; rw [if_neg (by omega)])
        have HXR : Hid (X ≤ R) := hid (by omega)
        have HLN : Hid ((s.fl f).bs.length + cs.length ≤ 1000000000000) := hid (by have := HQ.out; have := HD.out.room; omega)
        clear h hl hg hsrc hc hnil hI hcs hb256 hst hf h1 h2 h3 hm hT hn hX hR hTl hfull hN
        go_enter Try.func22, Try.ntmps22
        go_wp2_with fail
        refine HF.mono ?_
        rintro e w1 ⟨rfl, hw1⟩
        subst hw1
        clear HF
        go_upto_region 4 with fail
        go_region_held3 (fun w' => w'.cell? ⟨d, 0, none⟩ = some (.int .i64 (R : Nat)))
          (first | (go_split_ands; exact hk2.cell (by assumption) (fun f => f)) | go_keep)
          (first | (go_at_call 29; refine (HU.out _ (by first | exact (Kept.refl _ _).drew | exact Kept.refl _ _ | exact (Kept.refl _ _).drewN _)).mono ?_; rintro e w2 ⟨rfl, hk2⟩))
        all_goals
          have HK2 : Hid (Same w1 w2) := hid (Kept.undrew9 hk2)
          have f0 : w2.cell? ⟨f, 0, none⟩ = some (.slice a m cp) := (HB.out.kept HK2.out (fun f => f)).cell 0
          clear hk2
          go_wp2_with (at_builtin; refine wpList_append_any _ rfl (.tmp 32) (.tmp 33) rfl (.slice a m cp) (s.fl f).bs rfl (HRw.out.kept HK2.out (fun _ _ f => f)) I (.slice ao n cap) cs rfl HNL.out (HS.out.1.kept HK2.out (fun _ _ _ f => f)) HLN.out ?_)
          intro v3 w3 hr3 hg3 ho3
          obtain ⟨a3, c3, hv3, _⟩ := hr3.shape
          obtain ⟨n3, hn3⟩ : ∃ n, n = ((s.fl f).bs ++ cs).length := ⟨_, rfl⟩
          rw [← hn3] at hv3
          subst hv3
          have hk3 : Kept (fun k => (Value.slice a m cp).ownBlock = some k) w1 w3 := Kept.trans HK2.out ((Kept.refl _ w2).grown hg3 (fun k e => .inl e)) (fun _ _ f => f.elim) (fun _ _ e => e)
          have hnf : ¬ (Value.slice a m cp).ownBlock = some f := fun e => by have := H3.out f e; have := HQ.out; omega
          have B3 := HB.out.kept hk3 hnf
          have z3 := B3.frozen 0
          have f3 : w3.cell? ⟨f, 0, none⟩ = some (.slice a m cp) := B3.cell 0
          have HB3 : Hid (Blk w3 f #[.slice a m cp, .int .i64 ((s.fl f).safe : Nat)] 73) := B3
          have HR3 : Hid (Row w3 (.slice a3 n3 c3) ((s.fl f).bs ++ cs) ∧ Kept (fun k => (Value.slice a m cp).ownBlock = some k) w1 w3 ∧ ((Value.slice a3 n3 c3).ownBlock = (Value.slice a m cp).ownBlock ∨ (Value.slice a3 n3 c3).ownBlock = some w2.heap.size)) := hid ⟨hr3, hk3, ho3⟩
          clear hr3 hg3 ho3 hk3 hnf B3 hn3 f0
          go_upto_region 7 with fail
          obtain ⟨w4, hw4⟩ : ∃ W, W = w3.setCell ⟨f, 0, none⟩ (.slice a3 n3 c3) := ⟨_, rfl⟩
          rw [← hw4]
          have hd := HD.out
          have hq := HQ.out
          have hlt : ∀ k, ρ k ≠ 0 → k < w1.heap.size := fun k hk => (hd.new k hk).2
          have hown : ∀ k, (Value.slice a3 n3 c3).ownBlock = some k → (ρ k = 10 + f) ∨ (w1.heap.size ≤ k) := fun k e => by
            rcases HR3.out.2.2 with h9 | h9
            · rw [h9] at e; exact .inl (H3.out k e)
            · rw [h9] at e; simp only [Option.some.injEq] at e; have := HK2.out.size; exact .inr (by omega)
          have hk4 : Kept (fun k => k = f ∨ ρ k = 10 + f) w1 w4 := by rw [hw4]; exact (HR3.out.2.1.mono (fun k _ e => .inr (H3.out k e))).setCell _ _ (.inl (.inl rfl))
          have B4 : Blk w4 f #[.slice a3 n3 c3, .int .i64 ((s.fl f).safe : Nat)] 73 := by
            rw [hw4]
            have h9 := HB3.out.set 0 (.slice a3 n3 c3)
            simpa using h9
          have hnf : ∀ k, (Value.slice a3 n3 c3).ownBlock = some k → ¬ k = f := fun k e e2 => by
            rcases hown k e with h9 | h9
            · rw [e2] at h9; omega
            · have := hlt f (by omega); omega
          have hR4 : Row w4 (.slice a3 n3 c3) ((s.fl f).bs ++ cs) := by
            have hk9 : Kept (fun k => k = f) w3 w4 := by rw [hw4]; exact (Kept.refl _ w3).setCell _ _ (.inl rfl)
            exact HR3.out.1.kept hk9 hnf
          have ok := hd.okf f hq.2.1
          have D4 := hd.setFile hq.2.1 hk4 (x := ⟨(s.fl f).bs ++ cs, (s.fl f).safe⟩) (ρ' := fun k => if (Value.slice a3 n3 c3).ownBlock = some k then 10 + f else ρ k) ⟨.slice a3 n3 c3, B4, hR4, fun k e => if_pos e⟩ ⟨by show (s.fl f).safe ≤ ((s.fl f).bs ++ cs).length; rw [List.length_append]; omega, by show ((s.fl f).bs ++ cs).length ≤ s.room; rw [List.length_append]; have := HXR.out; omega, fun b hb => by rcases List.mem_append.1 hb with hb | hb; exact ok.2.2 b hb; exact hq.2.2.2.2.2.2.2.2.1 b hb⟩ (fun k => by
            by_cases e : (Value.slice a3 n3 c3).ownBlock = some k
            · rcases hown k e with h9 | h9
              · exact .inl (by show (if _ then _ else _) = _; rw [if_pos e, h9])
              · exact .inr ⟨Classical.byContradiction (fun h0 => by have := hlt k h0; omega), if_pos e, by omega, hR4.lt e⟩
            · exact .inl (if_neg e))
          have HST := dstep_any D4 (show s.steps ≤ 1000000000 by omega)
          have HEX : Hid (Ext w1 ρ (fun k => if (Value.slice a3 n3 c3).ownBlock = some k then 10 + f else ρ k)) := hid (fun k => by
            by_cases e : (Value.slice a3 n3 c3).ownBlock = some k
            · rcases hown k e with h9 | h9
              · exact .inl (by show (if _ then _ else _) = _; rw [if_pos e, h9])
              · exact .inr ⟨h9, Classical.byContradiction (fun h0 => by have := hlt k h0; omega)⟩
            · exact .inl (if_neg e))
          have HK4 : Hid (Kept (fun k => ρ k ≠ 0) w1 w4) := hid (hk4.mono (fun k _ e => by rcases e with e | e; rw [e]; omega; omega))
          have HDD : Hid (ρ d = 1) := hd.rd
          clear hd hq hlt hown hk4 B4 hnf hR4 ok D4 hw4 f3 z3
          go_wp2_with fail
          refine HST.mono ?_
          rintro e w5 ⟨rfl, hd5, hk5⟩
          have H5 := hid (And.intro hd5 hk5)
          clear hd5 hk5 HST
          go_wp2_with fail
          go_ret
          refine ⟨fun k e => (by rw [HR.out] at e; cases e), fun s' e => ?_⟩
          rw [HR.out] at e
          cases e
          exact ⟨rfl, _, cv, H5.out.1, HEX.out, Kept.trans HK4.out H5.out.2 (fun _ _ e => e) (fun k _ e => by rw [e, HDD.out]; decide)⟩

end

end Go.Proofs.Ytjcobogajkfnmaa
