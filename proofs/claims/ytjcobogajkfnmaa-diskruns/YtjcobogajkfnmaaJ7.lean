/-
  Of the proof: parts DkF, DkG, DkH, DkI, DkJ, DkK.
-/
import Derived.Deep.RegionHeld3
import Derived.Deep.RegionLaw
import Derived.Test.YtjcobogajkfnmaaJ5
import Derived.Test.YtjcobogajkfnmaaJ6

/-
  Layer 9: a change done to a disk.
-/
namespace Go.Proofs.Ytjcobogajkfnmaa
open Go.RowKit Go.Maps

theorem Try.infoChange : (Try.prog.info? 78).map (fun i => (i.zero, i.size, i.bytes)) = some (some (.agg #[.string ⟨#[]⟩, .string ⟨#[]⟩, .pointer none]), 3, 40) := by kernel_rfl

theorem cellsAt_ch (w : World) (c : Chg) : CellsAt (w.alloc (.cells #[.string c.src, .string c.dst, .pointer (some ⟨c.f, 0, none⟩)] 78)) ⟨w.heap.size, 0, none⟩ ([c].flatMap chE) := by
  intro j u hj
  match j, hj with
  | 0, hj => simp [chE] at hj; subst hj; simp [addAt]
  | 1, hj => simp [chE] at hj; subst hj; simp [addAt]
  | 2, hj => simp [chE] at hj; subst hj; simp [addAt]
  | j + 3, hj => simp [chE] at hj

theorem Kept.undrew9 {F : Nat → Prop} {w w' : World} (h : Kept F w.drew w') : Kept F w w' := ⟨h.os, h.tape, h.output, h.size, h.block⟩

/-- Where the row lies behind an append. -/
theorem append_block (w : World) (B t ty e : TypeId) (i : TypeInfo) (z : Value) (k bytes : Nat) (ht : Try.prog.underlying t = some (.slice e)) (hi : Try.prog.info? e = some i) (hz : i.zero = some z) (hs : i.size = k) (hby : i.bytes = bytes)
    (v : Value) (n : Nat) (xs : List Value) (hown : w.ownsRow B e k v n xs) (a : Addr) (m c : Nat) (news : List Value) (hl : news.length = m * k) (hnews : CellsAt w a news) (h1 : ∀ u ∈ news, u.oneCell' = true) (hm : 0 < m)
    (h63 : n + m ≤ maxLen) (hbytes : (n + m) * bytes ≤ 140737488355328) {v' : Value} {w' : World} (hr : (Builtin.append_ #[t, t] ty #[v, .slice (some a) m c]).run Try.prog w = .ok v' w') :
    ∀ j, v'.ownBlock = some j → v.ownBlock = some j ∨ w.heap.size ≤ j := by
  subst hs hby
  simp only [maxLen] at h63
  rcases hown.2 with ⟨rfl, rfl⟩ | ⟨g, cap, cur, rfl, hbg, hg, hnc, hcm, hcs, htake⟩
  · have h := run_append_nil w t ty e i z ht hi hz a m c news hl hnews hm (by omega) (by have hb := hbytes; simp only [Nat.zero_add] at hb; omega)
    rw [hr] at h
    simp only [Result.ok.injEq] at h
    intro j hj
    rw [h.1] at hj
    simp [Value.ownBlock] at hj
    exact .inr (by omega)
  · by_cases hroom : n + m ≤ cap
    · have hfit : n * i.size + news.length ≤ cur.size := by rw [hl, hcs, ← Nat.add_mul]; exact Nat.mul_le_mul_right _ hroom
      have h := run_append_room w t ty e i ht hi g n cap cur hg a m c news hl hnews h1 hroom hfit
      rw [hr] at h
      simp only [Result.ok.injEq] at h
      intro j hj
      rw [h.1] at hj
      exact .inl hj
    · have h := run_append_grow w t ty e i z ht hi hz ⟨g, 0, none⟩ n cap xs hown.1 (hown.cells (g := g) rfl) a m c news hl hnews (by omega) (by omega) (growslice_fits (by omega) hbytes)
      rw [hr] at h
      simp only [Result.ok.injEq] at h
      intro j hj
      rw [h.1] at hj
      simp [Value.ownBlock] at hj
      exact .inr (by omega)

/-- append as a step of a region that draws its order, and where the row lies. -/
theorem step_append_b {α : Type} {ops : Array Oper} {o : Oper} {a : Act} {w : World} {K : Act → World → Prop} {Q : Exit → Act → World → Prop} {E : Prop} (enc : α → List Value) (k : Nat) (ok : EncOk enc k) (B sT eT : Nat) (z : Value) (bytes : Nat)
    (hU : Try.prog.underlying sT = some (.slice eT)) (hI : (Try.prog.info? eT).map (fun i => (i.zero, i.size, i.bytes)) = some (some z, k, bytes)) (hz : z.cells.size = k) (hby : bytes ≤ 1000) (hgd : o.guard = none) (s x : Operand)
    (ho : o.op = .call { callee := .builtin .append, args := #[s, x], argTypes := #[sT, sT] })
    (v : Value) (xs : List α) (hs : a.eval s = v) (hrow : RowC B eT k enc w v xs) (ad : Addr) (m c : Nat) (cs : List α) (hx : a.eval x = .slice (some ad) m c) (hm : cs.length = m) (h0 : 0 < m) (hcs : CellsAt w ad (cs.flatMap enc)) (hlen : xs.length + cs.length ≤ 1000000000) (hB : B ≤ w.heap.size)
    (h : ∀ v' w', RowC B eT k enc w' v' (xs ++ cs) → w.grownBy w' v.ownBlock → (∀ j, v'.ownBlock = some j → v.ownBlock = some j ∨ w.heap.size ≤ j) → K (a.put o.dst v') w') : if Region.wanted o (yielded ops a.tmps) = true then Oper.wp Try.prog o a w K Q else E := by
  have hw : Region.wanted o (yielded ops a.tmps) = true := by simp [Region.wanted, hgd]
  rw [if_pos hw]
  subst hm
  obtain ⟨i0, hi, hz0, hz1, hz2⟩ := info_parts hI
  have hmul : (xs.length + cs.length) * bytes ≤ 1000000000 * 1000 := Nat.mul_le_mul hlen hby
  obtain ⟨v', w', hr, h2, h3, _⟩ := run_append_own w B sT o.type eT i0 z k bytes hU hi hz0 hz1 hz2 hz ok.pos v xs.length (xs.flatMap enc) hrow ad cs.length c (cs.flatMap enc) (flat_length ok cs) hcs (flat_one ok cs) (by simp only [maxLen]; omega) (by omega) hB
  have hb := append_block w B sT o.type eT i0 z k bytes hU hi hz0 hz1 hz2 v xs.length (xs.flatMap enc) hrow ad cs.length c (cs.flatMap enc) (flat_length ok cs) hcs (flat_one ok cs) h0 (by simp only [maxLen]; omega) (by omega) hr
  unfold Oper.wp
  simp [execOp, ho, resolve, invoke, builtin, hs, hx, hr, Result.andThen]
  refine h v' w' ?_ h3 hb
  unfold RowC
  rw [List.length_append, List.flatMap_append]
  exact h2

set_option maxRecDepth 100000 in
set_option maxHeartbeats 400000 in
theorem dstep_raw {w : World} {d : Nat} {c0 c1 c2 c3 : Value} {st : Nat} {lf : Int} (hb : Blk w d #[c0, c1, c2, c3, .int .i64 (st : Nat), .int .i64 lf] 62) (hst : st ≤ 1000000000) (hl : -1 ≤ lf ∧ lf ≤ 9223372036854775807) :
    Calls Try.prog 60 #[.pointer (some ⟨d, 0, none⟩)] w fun e w' => e = .returned (.int .i64 0) ∧ Blk w' d #[c0, c1, c2, c3, .int .i64 (st + 1 : Nat), .int .i64 (if lf = -1 then -1 else lf - 1)] 62 ∧ Kept (· = d) w w' := by
  have HB : Hid (Blk w d #[c0, c1, c2, c3, .int .i64 (st : Nat), .int .i64 lf] 62) := hb
  have c4 : w.cell? ⟨d, 4, none⟩ = some (.int .i64 (st : Nat)) := hb.cell 4
  have c5 : w.cell? ⟨d, 5, none⟩ = some (.int .i64 lf) := hb.cell 5
  have z4 := hb.frozen 4
  have z5 := hb.frozen 5
  obtain ⟨st1, hst1⟩ : ∃ n, n = st + 1 := ⟨_, rfl⟩
  have q1 : (st : Int) + 1 = (st1 : Int) := by omega
  have q1w : IntKind.i64.wrap (st1 : Int) = (st1 : Int) := by rw [IntKind.wrap_i64]; omega
  have HS1 : Hid (st1 = st + 1) := hst1
  clear hb hst1
  by_cases hn : lf = -1
  · have b1 : (lf != -1) = false := by simp [hn]
    have HN : Hid (lf = -1) := hn
    clear hn
    go_enter Try.func60, Try.ntmps60
    go_wp2_with fail
    go_ret
    refine ⟨rfl, ?_, (Kept.refl (· = d) w).setCell _ _ (.inl rfl)⟩
    have h9 := HB.out.set 4 (.int .i64 (st1 : Nat))
    rw [HN.out] at h9
    simpa using h9
  · have b1 : (lf != -1) = true := by simp [hn]
    have q2w : IntKind.i64.wrap (lf - 1) = lf - 1 := by rw [IntKind.wrap_i64]; omega
    have HN : Hid (¬ lf = -1) := hn
    clear hn
    go_enter Try.func60, Try.ntmps60
    go_wp2_with fail
    go_ret
    refine ⟨rfl, ?_, ((Kept.refl (· = d) w).setCell _ _ (.inl rfl)).setCell _ _ (.inl rfl)⟩
    have h9 := (HB.out.set 4 (.int .i64 (st1 : Nat))).set 5 (.int .i64 (lf - 1))
    simpa using h9

/-- The state behind a change. -/
def chgS (s : Ds) (c : Chg) : Ds := stepS { s with names := appN c s.names, chg := s.chg ++ [c] }

/-- What a disk is in memory grows by new blocks alone. -/
def Ext (w : World) (ρ ρ' : Rho) : Prop := ∀ k, ρ' k = ρ k ∨ (w.heap.size ≤ k ∧ ρ k = 0)

set_option maxRecDepth 100000 in
set_option maxHeartbeats 1000000 in
theorem dchange_any {N : Nat} {w : World} {d : Nat} {s : Ds} {ρ : Rho} {nb sb : Nat} {cv : Value} (h : Dk N w d s ρ nb sb cv) (hst : s.steps ≤ 1000000) (hN : N ≤ w.heap.size) (c : Chg) (h1 : c.src.size ≤ 100000) (h2 : c.dst.size ≤ 100000) (hf : ρ c.f = 5) :
    Calls Try.prog 59 #[.pointer (some ⟨d, 0, none⟩), .agg #[.string c.src, .string c.dst, .pointer (some ⟨c.f, 0, none⟩)]] w fun e w' => e = .returned (.int .i64 0) ∧ ∃ ρ' cv', Dk N w' d (chgS s c) ρ' nb sb cv' ∧ Ext w ρ ρ' ∧ Kept (fun k => ρ k ≠ 0) w w' := by
  obtain ⟨a3, n3, q3, rfl⟩ : ∃ a n q, cv = .slice a n q := by
    obtain ⟨a, q, e, _⟩ := h.ch.shape
    exact ⟨a, _, q, e⟩
  have HD : Hid (Dk N w d s ρ nb sb (.slice a3 n3 q3)) := h
  obtain ⟨src, dst, f⟩ := c
  have h1 : src.size ≤ 100000 := h1
  have h2 : dst.size ≤ 100000 := h2
  obtain ⟨wA, hwA⟩ : ∃ W, W = w.alloc (.cells #[.string src, .string dst, .pointer (some ⟨f, 0, none⟩)] 78) := ⟨_, rfl⟩
  have HKA : Hid (Same w wA) := hid (by rw [hwA]; exact (Kept.refl _ w).alloc _)
  obtain ⟨xb, hxb⟩ : ∃ x, x = w.heap.size := ⟨_, rfl⟩
  have BA : Hid (Blk wA xb #[.string src, .string dst, .pointer (some ⟨f, 0, none⟩)] 78) := hid (by rw [hwA, hxb]; exact Blk.new w _ _)
  have DA := h.same HKA.out
  have hlt : ∀ k, ρ k ≠ 0 → k < xb := fun k hk => by rw [hxb]; exact (h.new k hk).2
  have HLT : Hid (∀ k, ρ k ≠ 0 → k < xb) := hlt
  have HNS : Hid (s.names.length ≤ 1000000 ∧ s.chg.length ≤ 1000000) := hid (by have := h.lens; omega)
  have HAP : Hid (∀ w', Same wA w' → Calls Try.prog 54 #[.agg #[.string src, .string dst, .pointer (some ⟨f, 0, none⟩)], .map (some nb)] w' fun e w2 => e = .returned (.tuple #[]) ∧ Mp w2 nb (appN ⟨src, dst, f⟩ s.names) ∧ Kept (· = nb) w' w2) := hid (fun w' hk => dapply_any w' nb s.names (DA.nm.kept hk (fun f => f)) ⟨src, dst, f⟩ h1 h2 (by have := HNS.out; omega))
  have HNE : Hid (¬ xb = nb ∧ ¬ d = nb) := hid ⟨fun e => by have := hlt nb (by rw [h.rn]; decide); omega, fun e => by have e1 := h.rd; rw [e, h.rn] at e1; cases e1⟩
  have a0 := BA.out.cell 0
  have a1 := BA.out.cell 1
  have a2 := BA.out.cell 2
  have d1 : wA.cell? ⟨d, 1, none⟩ = some (.map (some nb)) := DA.blk.cell 1
  simp at a0 a1 a2
  have HQ : Hid (src.size ≤ 100000 ∧ dst.size ≤ 100000 ∧ s.steps ≤ 1000000 ∧ N ≤ w.heap.size ∧ ρ f = 5) := hid ⟨h1, h2, hst, hN, hf⟩
  clear h h1 h2 hf hst hN hlt DA
  go_enter Try.func59, Try.ntmps59
  go_wp2_with fail
  rw [← hwA, ← hxb]
  have HXB : Hid (xb = w.heap.size) := hxb
  clear hwA hxb
  go_region_held3 (fun w' => w'.cell? ⟨xb, 0, none⟩ = some (.string src) ∧ w'.cell? ⟨xb, 1, none⟩ = some (.string dst) ∧ w'.cell? ⟨xb, 2, none⟩ = some (.pointer (some ⟨f, 0, none⟩)) ∧ w'.cell? ⟨d, 1, none⟩ = some (.map (some nb)))
    (first | (go_split_ands; exact ⟨hk1.cell (by assumption) HNE.out.1, hk1.cell (by assumption) HNE.out.1, hk1.cell (by assumption) HNE.out.1, hk1.cell (by assumption) HNE.out.2⟩) | go_keep)
    (first
      | (go_at_call 54; refine (HAP.out _ (by first | exact (Kept.refl _ _).drew | exact Kept.refl _ _ | exact (Kept.refl _ _).drewN _)).mono ?_; rintro e w1 ⟨rfl, hm1, hk1⟩))
  all_goals
    have HK1 : Hid (Kept (· = nb) w w1) := hid (Kept.trans HKA.out (Kept.undrew9 hk1) (fun _ _ f => f.elim) (fun _ _ e => e))
    have HM1 : Hid (Mp w1 nb (appN ⟨src, dst, f⟩ s.names)) := hm1
    have B1 : Hid (Blk w1 xb #[.string src, .string dst, .pointer (some ⟨f, 0, none⟩)] 78) := hid ((BA.out.kept (Kept.undrew9 hk1) HNE.out.1))
    have hdb : Hid (Blk w1 d #[.int .i64 (s.room : Nat), .map (some nb), .map (some sb), .slice a3 n3 q3, .int .i64 (s.steps : Nat), .int .i64 s.left] 62) := hid (HD.out.blk.kept HK1.out HNE.out.2)
    have HR1 : Hid (∀ w', Same w1 w' → RowC N 78 3 chE w' (.slice a3 n3 q3) s.chg) := hid (fun w' hk => (HD.out.ch.kept HK1.out (fun k e e2 => by have e3 := HD.out.rc k e; rw [e2, HD.out.rn] at e3; cases e3)).kept hk (fun _ _ f => f))
    have a0 := B1.out.cell 0
    have a1 := B1.out.cell 1
    have a2 := B1.out.cell 2
    have d3 := hdb.out.cell 3
    have z3 := hdb.out.frozen 3
    simp at a0 a1 a2 d3
    have HSZ : Hid (N ≤ w1.heap.size) := hid (by have := HQ.out; have := HK1.out.size; omega)
    clear hk1 hm1
    have HSL : Hid (s.chg.length ≤ 1000000) := hid HNS.out.2
    have HOD : Hid (∀ k, (Value.slice a3 n3 q3).ownBlock = some k → k ≠ d) := hid (fun k e e2 => by have e3 := HD.out.rc k e; rw [e2, HD.out.rd] at e3; cases e3)
    have d3a : (w1.alloc (.cells #[.string src, .string dst, .pointer (some ⟨f, 0, none⟩)] 78)).cell? ⟨d, 3, none⟩ = some (.slice a3 n3 q3) := (show Same w1 _ from (Kept.refl _ _).alloc _).cell d3 (fun f => f)
    go_upto_region 2 with fail
    go_region_law (refine step_append_b chE 3 chE_ok N 60 78 (.agg #[.string ⟨#[]⟩, .string ⟨#[]⟩, .pointer none]) 40 Try.underlying60 Try.infoChange rfl (by decide) (by rfl) (.tmp 15) (.tmp 17) (by rfl) (.slice a3 n3 q3) s.chg (by rfl) (HR1.out _ (by first | exact ((Kept.refl _ _).drew).alloc _ | exact ((Kept.refl _ _).alloc _).drew | exact (Kept.refl _ _).alloc _)) ⟨w1.heap.size, 0, none⟩ 1 1 [⟨src, dst, f⟩] (by rfl) (by rfl) (by decide) (cellsAt_ch _ ⟨src, dst, f⟩) (by have := HSL.out; simp; omega) (by have := HSZ.out; simp; omega) ?_; intro v5 w5 hr5 hg5 hb5; have hk5 : Kept (fun k => (Value.slice a3 n3 q3).ownBlock = some k) w1 w5 := Kept.trans (show Same w1 (w1.alloc (.cells #[.string src, .string dst, .pointer (some ⟨f, 0, none⟩)] 78)).drew from ((Kept.refl _ _).alloc _).drew) ((Kept.refl _ _).grown hg5 (fun k e => .inl e)) (fun _ _ f => f.elim) (fun _ _ e => e); have z5 := (hdb.out.kept hk5 (fun e => HOD.out d e rfl)).frozen 3; have d5 := (hdb.out.kept hk5 (fun e => HOD.out d e rfl)).cell 3; simp at d5; obtain ⟨a5, n5, q5, e5⟩ : ∃ a n q, v5 = Value.slice a n q := (by obtain ⟨a, q, e, _⟩ := hr5.shape; exact ⟨a, _, q, e⟩); subst e5; clear hg5)
    all_goals
      obtain ⟨w6, hw6⟩ : ∃ W, W = w5.setCell ⟨d, 3, none⟩ (.slice a5 n5 q5) := ⟨_, rfl⟩
      have HK5 : Hid (Kept (fun k => (Value.slice a3 n3 q3).ownBlock = some k) w1 w5) := hk5
      have HR5 : Hid (RowC N 78 3 chE w5 (.slice a5 n5 q5) (s.chg ++ [⟨src, dst, f⟩])) := hr5
      have HB5 : Hid (∀ j, (Value.slice a5 n5 q5).ownBlock = some j → (Value.slice a3 n3 q3).ownBlock = some j ∨ w1.heap.size ≤ j) := hid (fun j e => (hb5 j e).imp id (fun h => Nat.le_trans (by simp) h))
      have B6 : Hid (Blk w6 d #[.int .i64 (s.room : Nat), .map (some nb), .map (some sb), .slice a5 n5 q5, .int .i64 (s.steps : Nat), .int .i64 s.left] 62) := hid (by
        rw [hw6]
        have h9 := (hdb.out.kept HK5.out (fun e => HOD.out d e rfl)).set 3 (.slice a5 n5 q5)
        simpa using h9)
      have HK6 : Hid (Kept (· = d) w5 w6) := hid (by rw [hw6]; exact (Kept.refl (· = d) w5).setCell _ _ (.inl rfl))
      have HST := dstep_raw B6.out (by have := HQ.out; omega) HD.out.left
      clear hr5 hk5 hb5 z5 d5
      go_wp2_with fail
      rw [← hw6]
      refine HST.mono ?_
      rintro e w7 ⟨rfl, hb7, hk7⟩
      have HB7 : Hid (Blk w7 d #[.int .i64 (s.room : Nat), .map (some nb), .map (some sb), .slice a5 n5 q5, .int .i64 (s.steps + 1 : Nat), .int .i64 (if s.left = -1 then -1 else s.left - 1)] 62) := hb7
      have HK7 : Hid (Kept (· = d) w5 w7) := hid (Kept.trans HK6.out hk7 (fun _ _ e => e) (fun _ _ e => e))
      clear HST hb7 hk7 hw6
      go_wp2_with fail
      go_ret
      have D := HD.out
      have hlt := HLT.out
      have hw1 : w.heap.size ≤ w1.heap.size := HK1.out.size
      have hown : ∀ k, (Value.slice a3 n3 q3).ownBlock = some k → ρ k = 4 := D.rc
      have hall : ∀ k, ρ k ≠ 0 → ρ k ≠ 1 → ρ k ≠ 2 → ρ k ≠ 4 → ¬ k = nb ∧ ¬ (Value.slice a3 n3 q3).ownBlock = some k ∧ ¬ k = d := fun k h0 h1 h2 h4 => ⟨fun e => h2 (by rw [e]; exact D.rn), fun e => h4 (hown k e), fun e => h1 (by rw [e]; exact D.rd)⟩
      refine ⟨rfl, fun k => if ρ k = 0 ∧ (Value.slice a5 n5 q5).ownBlock = some k then 4 else ρ k, .slice a5 n5 q5, ?_, ?_, ?_⟩
      · refine ⟨HB7.out, ?_, ?_, ?_, ?_, ?_, ?_, ?_, ?_, ?_, ?_, ?_, ?_, ?_, D.room, ?_, ?_, ?_⟩
        · exact (HM1.out.kept HK5.out (fun e => by have := hown nb e; rw [D.rn] at this; cases this)).kept HK7.out (fun e => by have := D.rn; rw [e, D.rd] at this; cases this)
        · have hx := hall sb (by rw [D.rs]; decide) (by rw [D.rs]; decide) (by rw [D.rs]; decide) (by rw [D.rs]; decide)
          exact ((D.sf.kept HK1.out hx.1).kept HK5.out hx.2.1).kept HK7.out hx.2.2
        · refine HR5.out.kept HK7.out (fun j e e2 => ?_)
          rcases HB5.out j e with h | h
          · have := hown j h; rw [e2, D.rd] at this; cases this
          · have := hlt d (by rw [D.rd]; decide); have := HXB.out; omega
        · intro g hg
          have hg5 : ρ g = 5 := by
            by_cases h9 : ρ g = 0 ∧ (Value.slice a5 n5 q5).ownBlock = some g
            · rw [if_pos h9] at hg; cases hg
            · rwa [if_neg h9] at hg
          have hx := hall g (by rw [hg5]; decide) (by rw [hg5]; decide) (by rw [hg5]; decide) (by rw [hg5]; decide)
          obtain ⟨v, h1, h2, h3⟩ := D.fil g hg5
          have hy : ∀ k, v.ownBlock = some k → ¬ k = nb ∧ ¬ (Value.slice a3 n3 q3).ownBlock = some k ∧ ¬ k = d := fun k e => hall k (by rw [h3 k e]; omega) (by rw [h3 k e]; omega) (by rw [h3 k e]; omega) (by rw [h3 k e]; omega)
          refine ⟨v, ((h1.kept HK1.out hx.1).kept HK5.out hx.2.1).kept HK7.out hx.2.2, ((h2.kept HK1.out (fun k e => (hy k e).1)).kept HK5.out (fun k e => (hy k e).2.1)).kept HK7.out (fun k e => (hy k e).2.2), fun k e => ?_⟩
          have h4 := h3 k e
          show (if ρ k = 0 ∧ (Value.slice a5 n5 q5).ownBlock = some k then 4 else ρ k) = 10 + g
          rw [if_neg (by omega)]; exact h4
        · intro g hg
          have hg5 : ρ g = 5 := by
            by_cases h9 : ρ g = 0 ∧ (Value.slice a5 n5 q5).ownBlock = some g
            · rw [if_pos h9] at hg; cases hg
            · rwa [if_neg h9] at hg
          exact D.okf g hg5
        · intro p hp
          have h5 : ρ p.2 = 5 := by
            rcases appN_mem hp with h | h
            · rw [h]; exact HQ.out.2.2.2.2
            · exact D.nmf p h
          show (if ρ p.2 = 0 ∧ _ then 4 else ρ p.2) = 5
          rw [if_neg (by omega)]; exact h5
        · intro p hp
          have h5 := D.sff p hp
          show (if ρ p.2 = 0 ∧ _ then 4 else ρ p.2) = 5
          rw [if_neg (by omega)]; exact h5
        · intro c hc
          have h5 : ρ c.f = 5 := by
            rcases List.mem_append.1 hc with h | h
            · exact D.chf c h
            · rw [List.mem_singleton.1 h]; exact HQ.out.2.2.2.2
          show (if ρ c.f = 0 ∧ _ then 4 else ρ c.f) = 5
          rw [if_neg (by omega)]; exact h5
        · have h5 := D.rd
          show (if ρ d = 0 ∧ _ then 4 else ρ d) = 1
          rw [if_neg (by omega)]; exact h5
        · have h5 := D.rn
          show (if ρ nb = 0 ∧ _ then 4 else ρ nb) = 2
          rw [if_neg (by omega)]; exact h5
        · have h5 := D.rs
          show (if ρ sb = 0 ∧ _ then 4 else ρ sb) = 3
          rw [if_neg (by omega)]; exact h5
        · intro k e
          show (if ρ k = 0 ∧ (Value.slice a5 n5 q5).ownBlock = some k then 4 else ρ k) = 4
          by_cases h9 : ρ k = 0
          · rw [if_pos ⟨h9, e⟩]
          · rw [if_neg (fun h => h9 h.1)]
            rcases HB5.out k e with h | h
            · exact hown k h
            · have := hlt k h9; have := HXB.out; omega
        · intro k hk
          have hs : w1.heap.size ≤ w7.heap.size := Nat.le_trans HK5.out.size HK7.out.size
          by_cases h9 : ρ k = 0 ∧ (Value.slice a5 n5 q5).ownBlock = some k
          · exact ⟨HR5.out.ge h9.2, Nat.lt_of_lt_of_le (HR5.out.lt h9.2) HK7.out.size⟩
          · have hk2 : ρ k ≠ 0 := by
              intro e
              apply hk
              show (if ρ k = 0 ∧ (Value.slice a5 n5 q5).ownBlock = some k then 4 else ρ k) = 0
              rw [if_neg h9]; exact e
            have := D.new k hk2
            omega
        · have h1 := D.lens
          have h2 := appN_len ⟨src, dst, f⟩ s.names
          show (appN ⟨src, dst, f⟩ s.names).length ≤ s.steps + 1 ∧ s.safe.length + (s.chg ++ [_]).length ≤ s.steps + 1
          rw [List.length_append, List.length_singleton]
          omega
        · have h1 := D.left
          show -1 ≤ (if s.left = -1 then -1 else s.left - 1) ∧ (if s.left = -1 then -1 else s.left - 1) ≤ 9223372036854775807
          split <;> omega
        · refine ⟨fun c hc => ?_, fun p hp => ?_, D.txs.2.2⟩
          · rcases List.mem_append.1 hc with h | h
            · exact D.txs.1 c h
            · rw [List.mem_singleton.1 h]; exact ⟨HQ.out.1, HQ.out.2.1⟩
          · rcases appN_mem hp with h | h
            · rw [h]; exact HQ.out.2.1
            · exact D.txs.2.1 p h
      · intro k
        dsimp only
        by_cases h9 : ρ k = 0 ∧ (Value.slice a5 n5 q5).ownBlock = some k
        · refine .inr ⟨?_, h9.1⟩
          rcases HB5.out k h9.2 with h | h
          · have := hown k h; omega
          · omega
        · exact .inl (if_neg h9)
      · refine Kept.trans (Kept.trans HK1.out HK5.out (H := fun k => ρ k ≠ 0) (fun k _ e => by rw [e, D.rn]; decide) (fun k _ e => by rw [hown k e]; decide)) HK7.out (fun _ _ e => e) (fun k _ e => by rw [e, D.rd]; decide)

end Go.Proofs.Ytjcobogajkfnmaa

/-
  Layer 9: Remove, Rename, Sync, Stop, Steps.
-/
namespace Go.Proofs.Ytjcobogajkfnmaa
open Go.RowKit Go.Maps

/-- What a call that is one step tells: an error and nothing else, or the state behind it. -/
def StpA (N : Nat) (w : World) (d : Nat) (ρ : Rho) (nb sb : Nat) (r : Except Nat Ds) (e : Ending) (w' : World) : Prop :=
  (∀ k, r = .error k → e = .returned (.int .i64 (k : Nat)) ∧ w' = w) ∧
  ∀ s', r = .ok s' → e = .returned (.int .i64 0) ∧ ∃ ρ' cv', Dk N w' d s' ρ' nb sb cv' ∧ Ext w ρ ρ' ∧ Kept (fun k => ρ k ≠ 0) w w'

/-- Remove's answer. -/
def remS (s : Ds) (t : ByteArray) : Except Nat Ds := if s.left = 0 then .error 94 else match getN t s.names with
  | none => .error 92
  | some f => .ok (chgS s ⟨t, ⟨#[]⟩, f⟩)

section
variable {N : Nat} {w : World} {d : Nat} {s : Ds} {ρ : Rho} {nb sb : Nat} {cv : Value}

set_option maxRecDepth 100000 in
set_option maxHeartbeats 400000 in
theorem dremove_any (h : Dk N w d s ρ nb sb cv) (hst : s.steps ≤ 1000000) (hN : N ≤ w.heap.size) (t : ByteArray) (ht : t.size ≤ 100000) :
    Calls Try.prog 31 #[.pointer (some ⟨d, 0, none⟩), .string t] w fun e w' => StpA N w d ρ nb sb (remS s t) e w' := by
  by_cases hl : s.left = 0
  · have c5 : w.cell? ⟨d, 5, none⟩ = some (.int .i64 s.left) := h.blk.cell 5
    rw [hl] at c5
    have HF := dfind_down w d t c5
    have HR : Hid (remS s t = .error 94) := hid (if_pos hl)
    clear h hl c5
    go_enter Try.func31, Try.ntmps31
    go_wp2_with fail
    refine HF.mono ?_
    rintro e w1 ⟨rfl, hw1⟩
    subst hw1
    go_wp2_with fail
    go_ret
    exact ⟨fun k e => by rw [HR.out] at e; cases e; exact ⟨rfl, rfl⟩, fun s' e => by rw [HR.out] at e; cases e⟩
  · have HF := dfind_any h hl t (Nat.le_trans ht (by decide))
    cases hg : getN t s.names with
    | none =>
      rw [hg] at HF
      have HR : Hid (remS s t = .error 92) := hid (by unfold remS; rw [if_neg hl, hg])
      unfold fndD at HF
      clear h hl hg
      go_enter Try.func31, Try.ntmps31
      go_wp2_with fail
      refine HF.mono ?_
      rintro e w1 ⟨rfl, hw1⟩
      subst hw1
      go_wp2_with fail
      go_ret
      exact ⟨fun k e => by rw [HR.out] at e; cases e; exact ⟨rfl, rfl⟩, fun s' e => by rw [HR.out] at e; cases e⟩
    | some f =>
      rw [hg] at HF
      have HR : Hid (remS s t = .ok (chgS s ⟨t, ⟨#[]⟩, f⟩)) := hid (by unfold remS; rw [if_neg hl, hg])
      unfold fndD at HF
      have HC := dchange_any h hst hN ⟨t, ⟨#[]⟩, f⟩ ht (Nat.zero_le _) (h.nmf _ (getN_mem hg))
      clear h hl hg
      go_enter Try.func31, Try.ntmps31
      go_wp2_with fail
      refine HF.mono ?_
      rintro e w1 ⟨rfl, hw1⟩
      subst hw1
      clear HF
      go_wp2_with fail
      refine HC.mono ?_
      rintro e w2 ⟨rfl, h2⟩
      have H2 := hid h2
      clear h2 HC
      go_wp2_with fail
      go_ret
      exact ⟨fun k e => (by rw [HR.out] at e; cases e), fun s' e => by rw [HR.out] at e; cases e; exact ⟨rfl, H2.out⟩⟩

/-- Rename's answer. -/
def renS (s : Ds) (t u : ByteArray) : Except Nat Ds := if s.left = 0 then .error 94 else match getN t s.names with
  | none => .error 92
  | some f => if nam9 u = true then .ok (chgS s ⟨t, u, f⟩) else .error 90

set_option maxRecDepth 100000 in
set_option maxHeartbeats 400000 in
theorem drename_any (h : Dk N w d s ρ nb sb cv) (hst : s.steps ≤ 1000000) (hN : N ≤ w.heap.size) (t u : ByteArray) (ht : t.size ≤ 100000) (hu : u.size ≤ 100000) :
    Calls Try.prog 30 #[.pointer (some ⟨d, 0, none⟩), .string t, .string u] w fun e w' => StpA N w d ρ nb sb (renS s t u) e w' := by
  by_cases hl : s.left = 0
  · have c5 : w.cell? ⟨d, 5, none⟩ = some (.int .i64 s.left) := h.blk.cell 5
    rw [hl] at c5
    have HF := dfind_down w d t c5
    have HR : Hid (renS s t u = .error 94) := hid (if_pos hl)
    clear h hl c5
    go_enter Try.func30, Try.ntmps30
    go_wp2_with fail
    refine HF.mono ?_
    rintro e w1 ⟨rfl, hw1⟩
    subst hw1
    go_wp2_with fail
    go_ret
    exact ⟨fun k e => by rw [HR.out] at e; cases e; exact ⟨rfl, rfl⟩, fun s' e => by rw [HR.out] at e; cases e⟩
  · have HF := dfind_any h hl t (Nat.le_trans ht (by decide))
    cases hg : getN t s.names with
    | none =>
      rw [hg] at HF
      have HR : Hid (renS s t u = .error 92) := hid (by unfold renS; rw [if_neg hl, hg])
      unfold fndD at HF
      clear h hl hg
      go_enter Try.func30, Try.ntmps30
      go_wp2_with fail
      refine HF.mono ?_
      rintro e w1 ⟨rfl, hw1⟩
      subst hw1
      go_wp2_with fail
      go_ret
      exact ⟨fun k e => by rw [HR.out] at e; cases e; exact ⟨rfl, rfl⟩, fun s' e => by rw [HR.out] at e; cases e⟩
    | some f =>
      rw [hg] at HF
      unfold fndD at HF
      have HNM := dname_any w u (by omega)
      cases hn : nam9 u with
      | false =>
        rw [hn] at HNM
        have HR : Hid (renS s t u = .error 90) := hid (by unfold renS; rw [if_neg hl, hg]; dsimp only; rw [hn]; rfl)
        clear h hl hg hn
        go_enter Try.func30, Try.ntmps30
        go_wp2_with fail
        refine HF.mono ?_
        rintro e w1 ⟨rfl, hw1⟩
        subst hw1
        clear HF
        go_wp2_with fail
        refine HNM.mono ?_
        rintro e w2 ⟨rfl, hw2⟩
        subst hw2
        clear HNM
        go_wp2_with fail
        go_ret
        exact ⟨fun k e => by rw [HR.out] at e; cases e; exact ⟨rfl, rfl⟩, fun s' e => by rw [HR.out] at e; cases e⟩
      | true =>
        rw [hn] at HNM
        have HR : Hid (renS s t u = .ok (chgS s ⟨t, u, f⟩)) := hid (by unfold renS; rw [if_neg hl, hg]; dsimp only; rw [hn]; rfl)
        have HC := dchange_any h hst hN ⟨t, u, f⟩ ht hu (h.nmf _ (getN_mem hg))
        clear h hl hg hn
        go_enter Try.func30, Try.ntmps30
        go_wp2_with fail
        refine HF.mono ?_
        rintro e w1 ⟨rfl, hw1⟩
        subst hw1
        clear HF
        go_wp2_with fail
        refine HNM.mono ?_
        rintro e w2 ⟨rfl, hw2⟩
        subst hw2
        clear HNM
        go_wp2_with fail
        refine HC.mono ?_
        rintro e w3 ⟨rfl, h3⟩
        have H3 := hid h3
        clear h3 HC
        go_wp2_with fail
        go_ret
        exact ⟨fun k e => (by rw [HR.out] at e; cases e), fun s' e => by rw [HR.out] at e; cases e; exact ⟨rfl, H3.out⟩⟩

end

end Go.Proofs.Ytjcobogajkfnmaa

/-
  Layer 9: Create.
-/
namespace Go.Proofs.Ytjcobogajkfnmaa
open Go.RowKit Go.Maps

/-- One file set. -/
def updF (F : Nat → Fl) (f : Nat) (x : Fl) : Nat → Fl := fun k => if k = f then x else F k

section
variable {N : Nat} {w : World} {d : Nat} {s : Ds} {ρ : Rho} {nb sb : Nat} {cv : Value}

/-- A new, empty file beside a disk's. -/
theorem Dk.addFile (h : Dk N w d s ρ nb sb cv) (hN : N ≤ w.heap.size) {w' : World} (hw : w' = w.alloc (.cells #[.slice none 0 0, .int .i64 0] 73)) :
    Dk N w' d { s with fl := updF s.fl w.heap.size ⟨[], 0⟩ } (fun k => if k = w.heap.size then 5 else ρ k) nb sb cv := by
  have hk : Same w w' := by rw [hw]; exact (Kept.refl _ w).alloc _
  have D := h.same hk
  have hsz : w'.heap.size = w.heap.size + 1 := by rw [hw]; exact Array.size_push ..
  have hB : Blk w' w.heap.size #[.slice none 0 0, .int .i64 0] 73 := by rw [hw]; exact Blk.new w _ _
  have hlt : ∀ k, ρ k ≠ 0 → ¬ k = w.heap.size := fun k h0 e => by have := (h.new k h0).2; omega
  have hne : ∀ k x, ρ k = x → x ≠ 0 → (if k = w.heap.size then 5 else ρ k) = x := fun k x e h0 => by rw [if_neg (hlt k (by rw [e]; exact h0))]; exact e
  refine ⟨D.blk, D.nm, D.sf, D.ch, ?_, ?_, fun p hp => hne _ _ (D.nmf p hp) (by decide), fun p hp => hne _ _ (D.sff p hp) (by decide), fun c hc => hne _ _ (D.chf c hc) (by decide), hne _ _ D.rd (by decide), hne _ _ D.rn (by decide), hne _ _ D.rs (by decide), fun k e => hne _ _ (D.rc k e) (by decide), ?_, D.room, D.lens, D.left, D.txs⟩
  · intro f hf
    by_cases e : f = w.heap.size
    · subst e
      show FlAt w' _ w.heap.size (updF s.fl w.heap.size ⟨[], 0⟩ w.heap.size)
      rw [show (updF s.fl w.heap.size ⟨[], 0⟩ w.heap.size) = ⟨[], 0⟩ from if_pos rfl]
      exact ⟨.slice none 0 0, hB, World.ownsRow_nil _ _ _ _, fun k e => by simp [Value.ownBlock] at e⟩
    · rw [if_neg e] at hf
      obtain ⟨v, h1, h2, h3⟩ := D.fil f hf
      have e2 : updF s.fl w.heap.size ⟨[], 0⟩ f = s.fl f := if_neg e
      show FlAt w' _ f (updF s.fl w.heap.size ⟨[], 0⟩ f)
      rw [e2]
      exact ⟨v, h1, h2, fun k e => hne _ _ (h3 k e) (by omega)⟩
  · intro f hf
    show (updF s.fl w.heap.size ⟨[], 0⟩ f).safe ≤ (updF s.fl w.heap.size ⟨[], 0⟩ f).bs.length ∧ (updF s.fl w.heap.size ⟨[], 0⟩ f).bs.length ≤ s.room ∧ ∀ b ∈ (updF s.fl w.heap.size ⟨[], 0⟩ f).bs, b < 256
    by_cases e : f = w.heap.size
    · rw [show updF s.fl w.heap.size ⟨[], 0⟩ f = ⟨[], 0⟩ from if_pos e]
      exact ⟨Nat.le_refl _, Nat.zero_le _, fun b hb => by cases hb⟩
    · rw [show updF s.fl w.heap.size ⟨[], 0⟩ f = s.fl f from if_neg e]
      rw [if_neg e] at hf
      exact D.okf f hf
  · intro k hk2
    by_cases e : k = w.heap.size
    · omega
    · rw [if_neg e] at hk2
      exact D.new k hk2

/-- Create's answer; f: the new file's block. -/
def creS (s : Ds) (t : ByteArray) (f : Nat) : Except Nat Ds :=
  if s.left = 0 then .error 94 else if nam9 t = false then .error 90 else if (getN t s.names).isSome = true then .error 91 else if 64 ≤ s.names.length then .error 95
  else .ok (chgS { s with fl := updF s.fl f ⟨[], 0⟩ } ⟨⟨#[]⟩, t, f⟩)

set_option maxRecDepth 100000 in
set_option maxHeartbeats 800000 in
theorem dcreate_any (h : Dk N w d s ρ nb sb cv) (hst : s.steps ≤ 1000000) (hN : N ≤ w.heap.size) (t : ByteArray) (ht : t.size ≤ 100000) :
    Calls Try.prog 18 #[.pointer (some ⟨d, 0, none⟩), .string t] w fun e w' => StpA N w d ρ nb sb (creS s t w.heap.size) e w' := by
  have HRF := drefuse_any w d s.left (h.blk.cell 5)
  have HNM := dname_any w t (by omega)
  have hlk := h.nm.look t (Nat.le_trans ht (by decide))
  have hln := h.nm.len 3
  have c1 : w.cell? ⟨d, 1, none⟩ = some (.map (some nb)) := h.blk.cell 1
  by_cases hl : s.left = 0
  · rw [show dwn s.left = 94 from if_pos hl] at HRF
    have HR : Hid (creS s t w.heap.size = .error 94) := hid (if_pos hl)
    clear h hl c1 hlk hln HNM
    go_enter Try.func18, Try.ntmps18
    go_wp2_with fail
    refine HRF.mono ?_
    rintro e w1 ⟨rfl, hw1⟩
    subst hw1
    go_wp2_with fail
    go_ret
    exact ⟨fun k e => by rw [HR.out] at e; cases e; exact ⟨rfl, rfl⟩, fun s' e => by rw [HR.out] at e; cases e⟩
  · rw [show dwn s.left = 0 from if_neg hl] at HRF
    cases hn : nam9 t with
    | false =>
      rw [hn] at HNM
      have HR : Hid (creS s t w.heap.size = .error 90) := hid (by unfold creS; rw [if_neg hl, if_pos hn])
      clear h hl c1 hlk hln hn
      go_enter Try.func18, Try.ntmps18
      go_wp2_with fail
      refine HRF.mono ?_
      rintro e w1 ⟨rfl, hw1⟩
      subst hw1
      clear HRF
      go_wp2_with fail
      refine HNM.mono ?_
      rintro e w2 ⟨rfl, hw2⟩
      subst hw2
      go_wp2_with fail
      go_ret
      exact ⟨fun k e => by rw [HR.out] at e; cases e; exact ⟨rfl, rfl⟩, fun s' e => by rw [HR.out] at e; cases e⟩
    | true =>
      rw [hn] at HNM
      have hn' : ¬ nam9 t = false := by rw [hn]; decide
      cases hg : getN t s.names with
      | some f =>
        rw [hg] at hlk
        have HR : Hid (creS s t w.heap.size = .error 91) := hid (by unfold creS; rw [if_neg hl, if_neg hn', hg]; rfl)
        clear h hl hn hn' hln hg
        go_enter Try.func18, Try.ntmps18
        go_wp2_with fail
        refine HRF.mono ?_
        rintro e w1 ⟨rfl, hw1⟩
        subst hw1
        clear HRF
        go_wp2_with fail
        refine HNM.mono ?_
        rintro e w2 ⟨rfl, hw2⟩
        subst hw2
        clear HNM
        go_wp2_with fail
        go_ret
        exact ⟨fun k e => by rw [HR.out] at e; cases e; exact ⟨rfl, rfl⟩, fun s' e => by rw [HR.out] at e; cases e⟩
      | none =>
        rw [hg] at hlk
        have hg' : ¬ (getN t s.names).isSome = true := by rw [hg]; decide
        obtain ⟨m, hm⟩ : ∃ m, m = s.names.length := ⟨_, rfl⟩
        rw [← hm] at hln
        by_cases h64 : 64 ≤ m
        · have b1 : decide ((64 : Int) ≤ (m : Int)) = true := by simp; omega
          have b1' : decide (64 ≤ m) = true := by simp; omega
          have HR : Hid (creS s t w.heap.size = .error 95) := hid (by unfold creS; rw [if_neg hl, if_neg hn', if_neg hg', if_pos (by omega)])
          clear h hl hn hn' hg hg' hm h64
          go_enter Try.func18, Try.ntmps18
          go_wp2_with fail
          refine HRF.mono ?_
          rintro e w1 ⟨rfl, hw1⟩
          subst hw1
          clear HRF
          go_wp2_with fail
          refine HNM.mono ?_
          rintro e w2 ⟨rfl, hw2⟩
          subst hw2
          clear HNM
          go_wp2_with fail
          go_ret
          exact ⟨fun k e => by rw [HR.out] at e; cases e; exact ⟨rfl, rfl⟩, fun s' e => by rw [HR.out] at e; cases e⟩
        · have b1 : decide ((64 : Int) ≤ (m : Int)) = false := by simp; omega
          have b1' : decide (64 ≤ m) = false := by simp; omega
          have HR : Hid (creS s t w.heap.size = .ok (chgS { s with fl := updF s.fl w.heap.size ⟨[], 0⟩ } ⟨⟨#[]⟩, t, w.heap.size⟩)) := hid (by unfold creS; rw [if_neg hl, if_neg hn', if_neg hg', if_neg (by omega)])
          obtain ⟨wA, hwA⟩ : ∃ W, W = w.alloc (.cells #[.slice none 0 0, .int .i64 0] 73) := ⟨_, rfl⟩
          have hkA : Same w wA := by rw [hwA]; exact (Kept.refl _ w).alloc _
          have HD1 : Hid (Dk N w d s ρ nb sb cv) := h
          have HC := dchange_any (h.addFile hN hwA) hst (Nat.le_trans hN hkA.size) ⟨⟨#[]⟩, t, w.heap.size⟩ (Nat.zero_le _) ht (if_pos rfl)
          have HKA : Hid (Same w wA) := hkA
          clear h hl hn hn' hg hg' hm h64 hkA
          go_enter Try.func18, Try.ntmps18
          go_wp2_with fail
          refine HRF.mono ?_
          rintro e w1 ⟨rfl, hw1⟩
          subst hw1
          clear HRF
          go_wp2_with fail
          refine HNM.mono ?_
          rintro e w2 ⟨rfl, hw2⟩
          subst hw2
          clear HNM
          go_wp2_with fail
          rw [← hwA]
          refine HC.mono ?_
          rintro e w3 ⟨rfl, h3⟩
          have H3 := hid h3
          clear h3 HC hwA
          go_wp2_with fail
          go_ret
          refine ⟨fun k e => (by rw [HR.out] at e; cases e), fun s' e => ?_⟩
          rw [HR.out] at e
          cases e
          obtain ⟨ρ', cv', h1, h2, h3⟩ := H3.out
          refine ⟨rfl, ρ', cv', h1, fun k => ?_, ?_⟩
          · rcases h2 k with e | ⟨e1, e2⟩
            · by_cases hk : k = w2.heap.size
              · refine .inr ⟨by omega, ?_⟩
                by_cases h0 : ρ k = 0
                · exact h0
                · have := (HD1.out.new k h0).2; omega
              · dsimp only at e; rw [if_neg hk] at e; exact .inl e
            · by_cases hk : k = w2.heap.size
              · dsimp only at e2; rw [if_pos hk] at e2; cases e2
              · dsimp only at e2; rw [if_neg hk] at e2; exact .inr ⟨Nat.le_trans HKA.out.size e1, e2⟩
          · refine Kept.trans HKA.out h3 (fun _ _ f => f.elim) (fun k hk e => ?_)
            rw [if_neg (by omega)] at e
            exact e

end

end Go.Proofs.Ytjcobogajkfnmaa

/-
  Layer 9: a file set anew; Sync, Stop, Steps.
-/
namespace Go.Proofs.Ytjcobogajkfnmaa
open Go.RowKit Go.Maps

section
variable {N : Nat} {w : World} {d : Nat} {s : Ds} {ρ : Rho} {nb sb : Nat} {cv : Value}

/-- One file's bytes, or how many are safe, set anew. -/
theorem Dk.setFile (h : Dk N w d s ρ nb sb cv) {f : Nat} (hf : ρ f = 5) {w' : World} {x : Fl} {ρ' : Rho} (hk : Kept (fun k => k = f ∨ ρ k = 10 + f) w w') (hx : FlAt w' ρ' f x)
    (hok : x.safe ≤ x.bs.length ∧ x.bs.length ≤ s.room ∧ ∀ b ∈ x.bs, b < 256) (hρ : ∀ k, ρ' k = ρ k ∨ (ρ k = 0 ∧ ρ' k = 10 + f ∧ N ≤ k ∧ k < w'.heap.size)) :
    Dk N w' d { s with fl := updF s.fl f x } ρ' nb sb cv := by
  have hne : ∀ k y, ρ k = y → y ≠ 0 → ρ' k = y := fun k y e h0 => by
    rcases hρ k with h1 | h1
    · rw [h1]; exact e
    · omega
  have hba : ∀ k y, ρ' k = y → y < 10 → y ≠ 0 → ρ k = y := fun k y e h1 _ => by
    rcases hρ k with h2 | h2
    · rw [← h2]; exact e
    · omega
  have hn : ∀ k, ρ k ≠ 0 → ρ k ≠ 5 → ρ k ≠ 10 + f → ¬ (k = f ∨ ρ k = 10 + f) := fun k _ h5 h10 e => by
    rcases e with e | e
    · exact h5 (by rw [e]; exact hf)
    · exact h10 e
  refine ⟨h.blk.kept hk (hn d (by rw [h.rd]; decide) (by rw [h.rd]; decide) (by rw [h.rd]; omega)), h.nm.kept hk (hn nb (by rw [h.rn]; decide) (by rw [h.rn]; decide) (by rw [h.rn]; omega)), h.sf.kept hk (hn sb (by rw [h.rs]; decide) (by rw [h.rs]; decide) (by rw [h.rs]; omega)), h.ch.kept hk (fun k e => hn k (by rw [h.rc k e]; decide) (by rw [h.rc k e]; decide) (by rw [h.rc k e]; omega)), ?_, ?_, fun p hp => hne _ _ (h.nmf p hp) (by decide), fun p hp => hne _ _ (h.sff p hp) (by decide), fun c hc => hne _ _ (h.chf c hc) (by decide), hne _ _ h.rd (by decide), hne _ _ h.rn (by decide), hne _ _ h.rs (by decide), fun k e => hne _ _ (h.rc k e) (by decide), ?_, h.room, h.lens, h.left, h.txs⟩
  · intro g hg
    show FlAt w' ρ' g (updF s.fl f x g)
    by_cases e : g = f
    · rw [show updF s.fl f x g = x from if_pos e, e]; exact hx
    · rw [show updF s.fl f x g = s.fl g from if_neg e]
      have hg5 := hba g 5 hg (by decide) (by decide)
      obtain ⟨v, h1, h2, h3⟩ := h.fil g hg5
      exact ⟨v, h1.kept hk (fun e2 => by rcases e2 with e2 | e2; exact e e2; omega), h2.kept hk (fun k e1 e2 => by have := h3 k e1; rcases e2 with e2 | e2; rw [e2, hf] at this; omega; omega), fun k e1 => hne _ _ (h3 k e1) (by omega)⟩
  · intro g hg
    show (updF s.fl f x g).safe ≤ (updF s.fl f x g).bs.length ∧ (updF s.fl f x g).bs.length ≤ s.room ∧ ∀ b ∈ (updF s.fl f x g).bs, b < 256
    by_cases e : g = f
    · rw [show updF s.fl f x g = x from if_pos e]; exact hok
    · rw [show updF s.fl f x g = s.fl g from if_neg e]; exact h.okf g (hba g 5 hg (by decide) (by decide))
  · intro k hk2
    rcases hρ k with h1 | h1
    · have := h.new k (by rw [← h1]; exact hk2); have := hk.size; omega
    · exact h1.2.2

/-- Sync's answer. -/
def synS (s : Ds) (t : ByteArray) : Except Nat Ds := if s.left = 0 then .error 94 else match getN t s.names with
  | none => .error 92
  | some f => .ok (stepS { s with fl := updF s.fl f ⟨(s.fl f).bs, (s.fl f).bs.length⟩ })

set_option maxRecDepth 100000 in
set_option maxHeartbeats 400000 in
theorem dsync_any (h : Dk N w d s ρ nb sb cv) (hst : s.steps ≤ 1000000) (t : ByteArray) (ht : t.size ≤ 100000) :
    Calls Try.prog 20 #[.pointer (some ⟨d, 0, none⟩), .string t] w fun e w' => StpA N w d ρ nb sb (synS s t) e w' := by
  by_cases hl : s.left = 0
  · have c5 : w.cell? ⟨d, 5, none⟩ = some (.int .i64 s.left) := h.blk.cell 5
    rw [hl] at c5
    have HF := dfind_down w d t c5
    have HR : Hid (synS s t = .error 94) := hid (if_pos hl)
    clear h hl c5
    go_enter Try.func20, Try.ntmps20
    go_wp2_with fail
    refine HF.mono ?_
    rintro e w1 ⟨rfl, hw1⟩
    subst hw1
    go_wp2_with fail
    go_ret
    exact ⟨fun k e => by rw [HR.out] at e; cases e; exact ⟨rfl, rfl⟩, fun s' e => by rw [HR.out] at e; cases e⟩
  · have HF := dfind_any h hl t (Nat.le_trans ht (by decide))
    cases hg : getN t s.names with
    | none =>
      rw [hg] at HF
      have HR : Hid (synS s t = .error 92) := hid (by unfold synS; rw [if_neg hl, hg])
      unfold fndD at HF
      clear h hl hg
      go_enter Try.func20, Try.ntmps20
      go_wp2_with fail
      refine HF.mono ?_
      rintro e w1 ⟨rfl, hw1⟩
      subst hw1
      go_wp2_with fail
      go_ret
      exact ⟨fun k e => by rw [HR.out] at e; cases e; exact ⟨rfl, rfl⟩, fun s' e => by rw [HR.out] at e; cases e⟩
    | some f =>
      rw [hg] at HF
      have HR : Hid (synS s t = .ok (stepS { s with fl := updF s.fl f ⟨(s.fl f).bs, (s.fl f).bs.length⟩ })) := hid (by unfold synS; rw [if_neg hl, hg])
      unfold fndD at HF
      have hf : ρ f = 5 := h.nmf _ (getN_mem hg)
      obtain ⟨v, h1, h2, h3⟩ := h.fil f hf
      obtain ⟨a, cap, hv, _⟩ := h2.shape
      obtain ⟨n, hn⟩ : ∃ n, n = (s.fl f).bs.length := ⟨_, rfl⟩
      rw [← hn] at hv
      subst hv
      have f0 : w.cell? ⟨f, 0, none⟩ = some (.slice a n cap) := h1.cell 0
      have f1 : w.cell? ⟨f, 1, none⟩ = some (.int .i64 ((s.fl f).safe : Nat)) := h1.cell 1
      have z1 := h1.frozen 1
      obtain ⟨w1, hw1⟩ : ∃ W, W = w.setCell ⟨f, 1, none⟩ (.int .i64 (n : Nat)) := ⟨_, rfl⟩
      have hk1 : Kept (fun k => k = f ∨ ρ k = 10 + f) w w1 := by rw [hw1]; exact (Kept.refl _ w).setCell _ _ (.inl (.inl rfl))
      have B1 : Blk w1 f #[.slice a n cap, .int .i64 (n : Nat)] 73 := by
        rw [hw1]
        have h9 := h1.set 1 (.int .i64 (n : Nat))
        simpa using h9
      have hown : ∀ k, (Value.slice a n cap).ownBlock = some k → ¬ k = f := fun k e e2 => by have := h3 k e; rw [e2, hf] at this; omega
      have hR1 : Row w1 (.slice a n cap) (s.fl f).bs := by
        have hk2 : Kept (fun k => k = f) w w1 := by rw [hw1]; exact (Kept.refl _ w).setCell _ _ (.inl rfl)
        exact h2.kept hk2 hown
      have ok := h.okf f hf
      have D1 := h.setFile hf hk1 (x := ⟨(s.fl f).bs, (s.fl f).bs.length⟩) (ρ' := ρ) ⟨.slice a n cap, by rw [← hn]; exact B1, hR1, h3⟩ ⟨Nat.le_refl _, ok.2.1, ok.2.2⟩ (fun k => .inl rfl)
      have HST := dstep_any D1 (show s.steps ≤ 1000000000 by omega)
      have HK1 : Hid (Kept (fun k => ρ k ≠ 0) w w1) := hid (hk1.mono (fun k _ e => by rcases e with e | e; rw [e, hf]; decide; omega))
      have HD : Hid (ρ d = 1) := h.rd
      clear h hl hg h1 h2 h3 hk1 B1 hR1 D1 ok hn hown
      go_enter Try.func20, Try.ntmps20
      go_wp2_with fail
      refine HF.mono ?_
      rintro e w2 ⟨rfl, hw2⟩
      subst hw2
      clear HF
      go_wp2_with fail
      rw [← hw1]
      refine HST.mono ?_
      rintro e w3 ⟨rfl, hd3, hk3⟩
      have H3 := hid (And.intro hd3 hk3)
      clear hd3 hk3 HST hw1
      go_wp2_with fail
      go_ret
      refine ⟨fun k e => (by rw [HR.out] at e; cases e), fun s' e => ?_⟩
      rw [HR.out] at e
      cases e
      exact ⟨rfl, ρ, cv, H3.out.1, fun k => .inl rfl, Kept.trans HK1.out H3.out.2 (fun _ _ e => e) (fun k _ e => by rw [e, HD.out]; decide)⟩

end

end Go.Proofs.Ytjcobogajkfnmaa

/-
  Layer 9: the calls of no disk; Stop, Steps.
-/
namespace Go.Proofs.Ytjcobogajkfnmaa
open Go.RowKit Go.Maps

set_option maxHeartbeats 400000 in
theorem dcreate_nil (w : World) (s : ByteArray) :
    Calls Try.prog 18 #[.pointer none, .string s] w fun e w' => e = .returned (.int .i64 3) ∧ w' = w := by
  have HR := drefuse_nil w
  go_enter Try.func18, Try.ntmps18
  go_wp2_with fail
  refine HR.mono ?_
  rintro e w1 ⟨rfl, hw1⟩
  subst hw1
  go_wp2_with fail
  go_ret
  exact ⟨rfl, rfl⟩

set_option maxHeartbeats 400000 in
theorem dappend_nil (w : World) (s : ByteArray) (a : Option Addr) (n c : Nat) :
    Calls Try.prog 22 #[.pointer none, .string s, .slice a n c] w fun e w' => e = .returned (.int .i64 3) ∧ w' = w := by
  have HR := dfind_nil w s
  go_enter Try.func22, Try.ntmps22
  go_wp2_with fail
  refine HR.mono ?_
  rintro e w1 ⟨rfl, hw1⟩
  subst hw1
  go_wp2_with fail
  go_ret
  exact ⟨rfl, rfl⟩

set_option maxHeartbeats 400000 in
theorem dsync_nil (w : World) (s : ByteArray) :
    Calls Try.prog 20 #[.pointer none, .string s] w fun e w' => e = .returned (.int .i64 3) ∧ w' = w := by
  have HR := dfind_nil w s
  go_enter Try.func20, Try.ntmps20
  go_wp2_with fail
  refine HR.mono ?_
  rintro e w1 ⟨rfl, hw1⟩
  subst hw1
  go_wp2_with fail
  go_ret
  exact ⟨rfl, rfl⟩

set_option maxHeartbeats 400000 in
theorem drename_nil (w : World) (s : ByteArray) (t : ByteArray) :
    Calls Try.prog 30 #[.pointer none, .string s, .string t] w fun e w' => e = .returned (.int .i64 3) ∧ w' = w := by
  have HR := dfind_nil w s
  go_enter Try.func30, Try.ntmps30
  go_wp2_with fail
  refine HR.mono ?_
  rintro e w1 ⟨rfl, hw1⟩
  subst hw1
  go_wp2_with fail
  go_ret
  exact ⟨rfl, rfl⟩

set_option maxHeartbeats 400000 in
theorem dremove_nil (w : World) (s : ByteArray) :
    Calls Try.prog 31 #[.pointer none, .string s] w fun e w' => e = .returned (.int .i64 3) ∧ w' = w := by
  have HR := dfind_nil w s
  go_enter Try.func31, Try.ntmps31
  go_wp2_with fail
  refine HR.mono ?_
  rintro e w1 ⟨rfl, hw1⟩
  subst hw1
  go_wp2_with fail
  go_ret
  exact ⟨rfl, rfl⟩

set_option maxHeartbeats 400000 in
theorem dsyncdir_nil (w : World)  :
    Calls Try.prog 19 #[.pointer none] w fun e w' => e = .returned (.int .i64 3) ∧ w' = w := by
  have HR := drefuse_nil w
  go_enter Try.func19, Try.ntmps19
  go_wp2_with fail
  refine HR.mono ?_
  rintro e w1 ⟨rfl, hw1⟩
  subst hw1
  go_wp2_with fail
  go_ret
  exact ⟨rfl, rfl⟩

set_option maxHeartbeats 400000 in
theorem dread_nil (w : World) (s : ByteArray) :
    Calls Try.prog 21 #[.pointer none, .string s] w fun e w' => e = .returned (.tuple #[.slice none 0 0, .int .i64 3]) ∧ w' = w := by
  have HR := dfind_nil w s
  go_enter Try.func21, Try.ntmps21
  go_wp2_with fail
  refine HR.mono ?_
  rintro e w1 ⟨rfl, hw1⟩
  subst hw1
  go_wp2_with fail
  go_ret2
  exact ⟨rfl, rfl⟩

set_option maxHeartbeats 400000 in
theorem dnames_nil (w : World)  :
    Calls Try.prog 24 #[.pointer none] w fun e w' => e = .returned (.slice none 0 0) ∧ w' = w := by
  have HR := drefuse_nil w
  go_enter Try.func24, Try.ntmps24
  go_wp2_with fail
  refine HR.mono ?_
  rintro e w1 ⟨rfl, hw1⟩
  subst hw1
  go_wp2_with fail
  go_ret
  exact ⟨rfl, rfl⟩

set_option maxHeartbeats 400000 in
theorem dused_nil (w : World)  :
    Calls Try.prog 29 #[.pointer none] w fun e w' => e = .returned (.int .i64 0) ∧ w' = w := by
  have HR := drefuse_nil w
  go_enter Try.func29, Try.ntmps29
  go_wp2_with fail
  refine HR.mono ?_
  rintro e w1 ⟨rfl, hw1⟩
  subst hw1
  go_wp2_with fail
  go_ret
  exact ⟨rfl, rfl⟩

set_option maxHeartbeats 400000 in
theorem dsteps_nil (w : World)  :
    Calls Try.prog 28 #[.pointer none] w fun e w' => e = .returned (.int .i64 0) ∧ w' = w := by
  go_enter Try.func28, Try.ntmps28
  go_wp2_with fail
  go_ret
  exact ⟨rfl, rfl⟩

set_option maxHeartbeats 400000 in
theorem dstop_nil (w : World) (m : Int) :
    Calls Try.prog 27 #[.pointer none, .int .i64 m] w fun e w' => e = .returned (.int .i64 3) ∧ w' = w := by
  have HR := drefuse_nil w
  go_enter Try.func27, Try.ntmps27
  go_wp2_with fail
  refine HR.mono ?_
  rintro e w1 ⟨rfl, hw1⟩
  subst hw1
  go_wp2_with fail
  go_ret
  exact ⟨rfl, rfl⟩

set_option maxHeartbeats 400000 in
theorem dcrash_nil (w : World) (a : Option Addr) (n c : Nat) :
    Calls Try.prog 17 #[.pointer none, .slice a n c] w fun e w' => e = .returned (.int .i64 3) ∧ w' = w := by
  go_enter Try.func17, Try.ntmps17
  go_wp2_with fail
  go_ret
  exact ⟨rfl, rfl⟩

set_option maxHeartbeats 400000 in
theorem dclone_nil (w : World)  :
    Calls Try.prog 13 #[.pointer none] w fun e w' => e = .returned (.pointer none) ∧ w' = w := by
  go_enter Try.func13, Try.ntmps13
  go_wp2_with fail
  go_ret
  exact ⟨rfl, rfl⟩

set_option maxHeartbeats 400000 in
theorem dsteps_any (w : World) (d : Nat) (x : Int) (h : w.cell? ⟨d, 4, none⟩ = some (.int .i64 x)) :
    Calls Try.prog 28 #[.pointer (some ⟨d, 0, none⟩)] w fun e w' => e = .returned (.int .i64 x) ∧ w' = w := by
  go_enter Try.func28, Try.ntmps28
  go_wp2_with fail
  go_ret
  exact ⟨rfl, rfl⟩

/-- Stop's answer. -/
def stpS (s : Ds) (m : Int) : Except Nat Ds := if s.left = 0 then .error 94 else if m < 0 then .error 1 else .ok { s with left := m }

set_option maxHeartbeats 400000 in
theorem dstop_any {N : Nat} {w : World} {d : Nat} {s : Ds} {ρ : Rho} {nb sb : Nat} {cv : Value} (h : Dk N w d s ρ nb sb cv) (m : Int) (hm : m ≤ 9223372036854775807) :
    Calls Try.prog 27 #[.pointer (some ⟨d, 0, none⟩), .int .i64 m] w fun e w' => StpA N w d ρ nb sb (stpS s m) e w' := by
  have HRF := drefuse_any w d s.left (h.blk.cell 5)
  by_cases hl : s.left = 0
  · rw [show dwn s.left = 94 from if_pos hl] at HRF
    have HR : Hid (stpS s m = .error 94) := hid (if_pos hl)
    clear h hl
    go_enter Try.func27, Try.ntmps27
    go_wp2_with fail
    refine HRF.mono ?_
    rintro e w1 ⟨rfl, hw1⟩
    subst hw1
    go_wp2_with fail
    go_ret
    exact ⟨fun k e => by rw [HR.out] at e; cases e; exact ⟨rfl, rfl⟩, fun s' e => by rw [HR.out] at e; cases e⟩
  · rw [show dwn s.left = 0 from if_neg hl] at HRF
    by_cases h0 : m < 0
    · have b1 : decide (m < 0) = true := by simp; omega
      have HR : Hid (stpS s m = .error 1) := hid (by unfold stpS; rw [if_neg hl, if_pos h0])
      clear h hl h0
      go_enter Try.func27, Try.ntmps27
      go_wp2_with fail
      refine HRF.mono ?_
      rintro e w1 ⟨rfl, hw1⟩
      subst hw1
      go_wp2_with fail
      go_ret
      exact ⟨fun k e => by rw [HR.out] at e; cases e; exact ⟨rfl, rfl⟩, fun s' e => by rw [HR.out] at e; cases e⟩
    · have b1 : decide (m < 0) = false := by simp; omega
      have HR : Hid (stpS s m = .ok { s with left := m }) := hid (by unfold stpS; rw [if_neg hl, if_neg h0])
      have c5 : w.cell? ⟨d, 5, none⟩ = some (.int .i64 s.left) := h.blk.cell 5
      have z5 := h.blk.frozen 5
      have HD : Hid (Dk N w d s ρ nb sb cv ∧ -1 ≤ m) := hid ⟨h, by omega⟩
      clear h hl h0
      go_enter Try.func27, Try.ntmps27
      go_wp2_with fail
      refine HRF.mono ?_
      rintro e w1 ⟨rfl, hw1⟩
      subst hw1
      go_wp2_with fail
      go_ret
      have hk : Kept (· = d) w1 (w1.setCell ⟨d, 5, none⟩ (.int .i64 m)) := (Kept.refl (· = d) w1).setCell _ _ (.inl rfl)
      refine ⟨fun k e => (by rw [HR.out] at e; cases e), fun s' e => ?_⟩
      rw [HR.out] at e
      cases e
      refine ⟨rfl, ρ, cv, HD.out.1.setBlk hk ?_ ⟨rfl, rfl, rfl, rfl, rfl⟩ (Nat.le_refl _) ⟨HD.out.2, hm⟩, fun k => .inl rfl, hk.mono (fun k _ e => by rw [e, HD.out.1.rd]; decide)⟩
      have h9 := HD.out.1.blk.set 5 (.int .i64 m)
      simpa using h9

end Go.Proofs.Ytjcobogajkfnmaa

/-
  Layer 9: what a choice says.
-/
namespace Go.Proofs.Ytjcobogajkfnmaa
open Go.RowKit Go.Maps

/-- A choice as a number. -/
def chN (c : Int) : Nat := if c < 0 then (-(c + 1)).toNat else c.toNat

/-- How many of n things it says. -/
def sayN (c : Int) (n : Nat) : Nat := chN c % (n + 1)

set_option maxHeartbeats 400000 in
theorem dsaid_any (w : World) (c : Int) (n : Nat) (h1 : -9223372036854775808 ≤ c) (h2 : c ≤ 9223372036854775807) (hn : n ≤ 1000000000) :
    Calls Try.prog 52 #[.int .i64 c, .int .i64 (n : Nat)] w fun e w' => e = .returned (.int .i64 (sayN c n : Nat)) ∧ w' = w := by
  obtain ⟨n1, hn1⟩ : ∃ m, m = n + 1 := ⟨_, rfl⟩
  obtain ⟨x, hx⟩ : ∃ x, x = chN c := ⟨_, rfl⟩
  obtain ⟨r, hr⟩ : ∃ r, r = x % n1 := ⟨_, rfl⟩
  have HR : Hid (sayN c n = r) := hid (by unfold sayN; rw [← hx, ← hn1, hr])
  have q1 : (n : Int) + 1 = (n1 : Int) := by omega
  have q1w : IntKind.i64.wrap (n1 : Int) = (n1 : Int) := by rw [IntKind.wrap_i64]; omega
  have q2 : ¬ (n1 : Int) = 0 := by omega
  have q2' : ¬ n1 = 0 := by omega
  have hxc : (c < 0 → (x : Int) = -(c + 1)) ∧ (¬ c < 0 → (x : Int) = c) := by
    rw [hx]; unfold chN
    constructor
    · intro h; rw [if_pos h]; omega
    · intro h; rw [if_neg h]; omega
  have q3 : Int.tmod (x : Int) (n1 : Int) = (r : Int) := by rw [hr]; exact (Int.ofNat_tmod x n1).symm
  have q3' : (x : Int) % (n1 : Int) = (r : Int) := by rw [hr]; exact (Int.natCast_emod x n1).symm
  have hrl : r < n1 := by rw [hr]; exact Nat.mod_lt _ (by omega)
  have q3w : IntKind.i64.wrap (r : Int) = (r : Int) := by rw [IntKind.wrap_i64]; omega
  by_cases h0 : c < 0
  · have b1 : decide (c < 0) = true := by simp; omega
    have w1 : IntKind.i64.wrap (c + 1) = c + 1 := by rw [IntKind.wrap_i64]; omega
    have e1 : -(c + 1) = (x : Int) := (hxc.1 h0).symm
    have w2 : IntKind.i64.wrap (x : Int) = (x : Int) := by rw [IntKind.wrap_i64]; omega
    clear hxc hr hx hn1 h0 hrl
    go_enter Try.func52, Try.ntmps52
    go_wp2_with fail
    go_ret
    exact ⟨by rw [HR.out]; rfl, rfl⟩
  · have b1 : decide (c < 0) = false := by simp; omega
    have e1 : c = (x : Int) := (hxc.2 h0).symm
    subst e1
    clear hxc hr hx hn1 h0 hrl
    go_enter Try.func52, Try.ntmps52
    go_wp2_with fail
    go_ret
    exact ⟨by rw [HR.out]; rfl, rfl⟩

set_option maxHeartbeats 400000 in
theorem dpick_out (w : World) (a : Option Addr) (len cap k : Nat) (h : len ≤ k) :
    Calls Try.prog 53 #[.slice a len cap, .int .i64 (k : Nat)] w fun e w' => e = .returned (.int .i64 0) ∧ w' = w := by
  have b1 : decide ((len : Int) ≤ (k : Int)) = true := by simp; omega
  have b1' : decide (len ≤ k) = true := by simp; omega
  go_enter Try.func53, Try.ntmps53
  go_wp2_with fail
  go_ret
  exact ⟨rfl, rfl⟩

set_option maxHeartbeats 400000 in
theorem dpick_in (w : World) (b o len cap k : Nat) (h : k < len) (z : Int) (hz : w.cell? ⟨b, o + k, none⟩ = some (.int .i64 z)) :
    Calls Try.prog 53 #[.slice (some ⟨b, o, none⟩) len cap, .int .i64 (k : Nat)] w fun e w' => e = .returned (.int .i64 z) ∧ w' = w := by
  have b1 : decide ((len : Int) ≤ (k : Int)) = false := by simp; omega
  have b1' : decide (len ≤ k) = false := by simp; omega
  have i1 : (0 : Int) ≤ (k : Int) := by omega
  have i2 : (k : Int) < (len : Int) := by omega
  go_enter Try.func53, Try.ntmps53
  go_wp2_with fail
  go_ret
  exact ⟨rfl, rfl⟩

end Go.Proofs.Ytjcobogajkfnmaa
