/-
  Of the proof: parts CrJ, CrL, CrM.
-/
import Derived.Deep.CutRange
import Derived.Shelf.SlSortCmp.QuietGrown
import Derived.Test.YthignkloecfcbaaJ24
import Derived.Test.YthignkloecfcbaaJ25
import Derived.Test.YthignkloecfcbaaJ26

/-
  Layer 12, the reference: Prune.
-/
namespace Go.Proofs.Ythignkloecfcbaa
open Go.RowKit Go.Maps Go.Sort

theorem nw_ex (L : List Lv) (b : Bx) (n : Nm) (t : Int) : ∃ r, NwR L b n t r := by
  have key : ∀ i, i ≤ L.length → ∃ r, NwI L b n t i r := by
    intro i
    induction i with
    | zero => exact fun _ => ⟨-1, .inl ⟨rfl, fun j hj => by omega⟩⟩
    | succ i ih =>
      intro hi
      obtain ⟨r, hr⟩ := ih (by omega)
      by_cases hk : isK b n (L[i]'(by omega)) = true ∧ (L[i]'(by omega)).v.t ≤ t
      · rcases id hr with ⟨h1, _⟩ | ⟨k, hkl, _, h1, _⟩
        · subst h1
          exact ⟨_, hr.first (by omega) hk.1 hk.2⟩
        · subst h1
          by_cases hb : L[k].v.t < (L[i]'(by omega)).v.t
          · exact ⟨_, hr.better (by omega) hkl hk.1 hk.2 hb⟩
          · exact ⟨_, hr.keep hkl (by omega) hb⟩
      · exact ⟨r, hr.skip (by omega) (fun e1 e2 => hk ⟨e1, e2⟩)⟩
  exact key L.length (Nat.le_refl _)

theorem NwR.det {L : List Lv} {b : Bx} {n : Nm} {t r r' : Int} (hr : RisV (ofK L b n)) (h : NwR L b n t r) (h' : NwR L b n t r') : r = r' := by
  rcases h with ⟨h1, h2⟩ | ⟨k, hk, _, h1, h2, h3, h4⟩ <;> rcases h' with ⟨g1, g2⟩ | ⟨k', hk', _, g1, g2, g3, g4⟩
  · omega
  · exact absurd g3 (h2 k' hk' hk' g2)
  · exact absurd h3 (g2 k hk hk h2)
  · have e1 := h4 k' hk' hk' g2 g3
    have e2 := g4 k hk hk h2 h3
    have := ofK_pair hr hk hk' h2 g2 (by omega)
    omega

theorem kpP_is {L : List Lv} {f r : Int} {i : Nat} (hi : i < L.length) (hr : RisV (ofK L L[i].b L[i].n)) (h : NwR L L[i].b L[i].n f r) : kpP L f L[i] = (decide (f < L[i].v.t) || (decide (r = (i : Int)) && L[i].v.there)) := by
  unfold kpP
  by_cases hf : f < L[i].v.t
  · rw [decide_eq_true hf, Bool.true_or, Bool.true_or]
  · rw [NwR.at_ hi hr h hf]

theorem filter_succ12 (L : List Lv) (P : Lv → Bool) (i : Nat) (hi : i < L.length) : (L.take (i + 1)).filter P = if P L[i] = true then (L.take i).filter P ++ [L[i]] else (L.take i).filter P := by
  rw [List.take_succ_eq_append_getElem hi, List.filter_append, List.filter_cons]
  split <;> simp

set_option maxRecDepth 100000 in
set_option maxHeartbeats 1000000 in
theorem rprune_old {N : Nat} {w : World} {p : Nat} {L : List Lv} {now floor : Int} {v : Value} (h : Rc N w p L now floor v) (t : Int) (ht : t ≤ floor) : Calls Try.prog 30 #[.pointer (some ⟨p, 0, none⟩), .int .i64 t] w fun e w' => e = .returned (.int .i64 0) ∧ Same w w' := by
  have b1 : decide (t ≤ floor) = true := decide_eq_true ht
  have p2 : w.cell? ⟨p, 2, none⟩ = some (.int .i64 floor) := h.blk.cell 2
  clear h ht
  go_enter Try.func30, Try.ntmps30
  go_wp2_with fail
  go_ret
  exact ⟨rfl, Kept.refl _ _⟩

/-- What Prune leaves. -/
def RPr (N : Nat) (w : World) (p : Nat) (L : List Lv) (now f : Int) (e : Ending) (w' : World) : Prop :=
  ∃ v', e = .returned (.int .i64 ((L.length - (L.filter (kpP L f)).length : Nat) : Int)) ∧ Rc N w' p (L.filter (kpP L f)) now f v' ∧ (∀ j, v'.ownBlock = some j → w.heap.size ≤ j) ∧ Kept (· = p) w w'

theorem wrap64_sub12 (a b : Nat) (ha : a ≤ 100000) (hb : b ≤ a) : wrap64 ((a : Int) - (b : Int)) = ((a - b : Nat) : Int) := by unfold wrap64; omega

set_option maxRecDepth 100000 in
set_option maxHeartbeats 8000000 in
theorem rprune_new {N : Nat} {w : World} {p : Nat} {L : List Lv} {now floor : Int} {v : Value} (h : Rc N w p L now floor v) (hN : N ≤ w.heap.size) (t : Int) (ht : floor < t) (hr : ∀ b n, RisV (ofK L b n)) : Calls Try.prog 30 #[.pointer (some ⟨p, 0, none⟩), .int .i64 t] w fun e w' => RPr N w p L now (min t now) e w' := by
  have bt : decide (t ≤ floor) = false := decide_eq_false (by omega)
  obtain ⟨f, hf⟩ : ∃ f, f = min t now := ⟨_, rfl⟩
  rw [← hf]
  have p1 : w.cell? ⟨p, 1, none⟩ = some (.int .i64 now) := h.blk.cell 1
  have p2 : w.cell? ⟨p, 2, none⟩ = some (.int .i64 floor) := h.blk.cell 2
  have zp := h.blk.frozen 2
  obtain ⟨wB, hwB⟩ : ∃ W, W = w.setCell ⟨p, 2, none⟩ (.int .i64 (min t now)) := ⟨_, rfl⟩
  have hkB : Kept (· = p) w wB := by rw [hwB]; exact (Kept.refl (· = p) w).setCell _ _ (.inl rfl)
  have hown : ¬ v.ownBlock = some p := h.row.off_blk h.blk (by decide)
  have hRB : Rc N wB p L now f v := ⟨by rw [hwB, ← hf]; have h9 := h.blk.set 2 (.int .i64 f); simpa using h9, h.row.kept hkB (fun k e e2 => hown (by rw [← e2]; exact e)), h.np, h.len⟩
  obtain ⟨a, c, hv, hgs, _⟩ := h.row.shape
  obtain ⟨l, hl⟩ : ∃ n, n = L.length := ⟨_, rfl⟩
  rw [← hl] at hv
  subst hv
  have HR : Hid (∀ w', Same wB w' → Rc N w' p L now f (.slice a l c)) := hid (fun w' hk => hRB.same hk)
  have HG : Hid ((L ≠ [] → ∃ g, a = some ⟨g, 0, none⟩) ∧ l = L.length ∧ l ≤ 100000 ∧ N ≤ w.heap.size ∧ (∀ b n, RisV (ofK L b n)) ∧ Kept (· = p) w wB ∧ w.heap.size = wB.heap.size) := hid ⟨hgs, hl, by rw [hl]; exact h.len, hN, hr, hkB, by rw [hwB]; simp⟩
  clear h hgs hl hr hkB hRB hown hN ht hf
  go_enter Try.func30, Try.ntmps30
  go_wp2_with fail
  rw [← hwB]
  clear hwB p1 p2 zp bt
  go_loopg [5, 6] l (fun q z5 z6 wr => ∃ (i : Nat) (a0 : Option Addr) (l0 c0 : Nat), l - i ≤ q ∧ i ≤ l ∧ z5 = .slice a0 l0 c0 ∧ z6 = .int .i64 (i : Nat) ∧ Hid (RowC wB.heap.size 93 6 lvE wr (.slice a0 l0 c0) ((L.take i).filter (kpP L f)) ∧ Same wB wr))
  case atStart => exact ⟨0, none, 0, 0, by omega, by omega, rfl, rfl, hid ⟨RowC.nil, Kept.refl _ _⟩⟩
  case round =>
    obtain ⟨i, a0, l0, c0, hq, hil, rfl, rfl, HS⟩ := hrel
    have p0 : wr.cell? ⟨p, 0, none⟩ = some (.slice a l c) := (HR.out wr HS.out.2).blk.cell 0
    by_cases hlt : i < l
    · have hli : decide (i < l) = true := decide_eq_true hlt
      have hli2 : (i : Int) < (l : Int) := by omega
      have hlt2 : i < L.length := by have := HG.out.2.1; omega
      obtain ⟨g, hg⟩ := HG.out.1 (fun e => by rw [e] at hlt2; simp at hlt2)
      subst hg
      obtain ⟨y, hy⟩ : ∃ y, y = L[i] := ⟨_, rfl⟩
      have hcw : ∀ q u, q < 6 → (lvE y)[q]? = some u → wr.cell? ⟨g, i * 6 + q, none⟩ = some u := fun q u hq e => by rw [RowC.cell lvE_ok (HR.out wr HS.out.2).row i q hlt2 hq, ← hy, e]
      have k0 := hcw 0 (.string y.b.tn) (by decide) rfl
      have k1 := hcw 1 (.string y.b.ar) (by decide) rfl
      have k2 := hcw 2 (.string y.n.s) (by decide) rfl
      have k3 := hcw 3 (.int .i64 y.v.t) (by decide) rfl
      have k4 := hcw 4 (.bool y.v.there) (by decide) rfl
      have k5 := hcw 5 (.string y.v.data) (by decide) rfl
      rw [Nat.add_zero] at k0
      obtain ⟨wG, hwG⟩ : ∃ W, W = wr.alloc (.cells #[.string y.b.tn, .string y.b.ar, .string y.n.s, .int .i64 y.v.t, .bool y.v.there, .string y.v.data] 93) := ⟨_, rfl⟩
      obtain ⟨vb, hvb⟩ : ∃ x, x = wr.heap.size := ⟨_, rfl⟩
      have hkG : Same wr wG := by rw [hwG]; exact (Kept.refl _ _).alloc _
      have hbg : Blk wG vb #[.string y.b.tn, .string y.b.ar, .string y.n.s, .int .i64 y.v.t, .bool y.v.there, .string y.v.data] 93 := by rw [hwG, hvb]; exact Blk.new wr _ _
      have HG2 : Hid (Blk wG vb #[.string y.b.tn, .string y.b.ar, .string y.n.s, .int .i64 y.v.t, .bool y.v.there, .string y.v.data] 93 ∧ Same wr wG) := hid ⟨hbg, hkG⟩
      have hiw : IntKind.i64.wrap ((i : Int) + 1) = ((i + 1 : Nat) : Int) := by have := HG.out.2.2.1; rw [IntKind.wrap_i64]; omega
      obtain ⟨r, hnr⟩ := nw_ex L y.b y.n f
      have HNW : Hid (∀ w', Same wB w' → Calls Try.prog 43 #[.pointer (some ⟨p, 0, none⟩), .agg #[.string y.b.tn, .string y.b.ar, .string y.n.s], .int .i64 f] w' fun e w2 => e = .returned (.int .i64 r) ∧ Same w' w2) := hid (fun w' hk => (rnewest_any (HR.out w' hk) y.b y.n f).mono (fun e w2 h9 => by
        obtain ⟨r', h1, h2, h3⟩ := h9
        rw [Int.max_self] at h2
        rw [h1, NwR.det (HG.out.2.2.2.2.1 y.b y.n) h2 hnr]
        exact ⟨rfl, h3⟩))
      have HNG0 : Hid (∀ w', Same wB w' → Calls Try.prog 43 #[.pointer (some ⟨p, 0, none⟩), .agg #[.string y.b.tn, .string y.b.ar, .string y.n.s], .int .i64 f] w' fun e w2 => e = .returned (.int .i64 r) ∧ Gr w' w2) := hid (fun w' hk => (rnewest_gr (HR.out w' hk) y.b y.n f).mono (fun e w2 h9 => by
        obtain ⟨r', h1, h2, h3⟩ := h9
        rw [Int.max_self] at h2
        rw [h1, NwR.det (HG.out.2.2.2.2.1 y.b y.n) h2 hnr]
        exact ⟨rfl, h3⟩))
      have HKP : Hid (kpP L f y = (decide (f < y.v.t) || (decide (r = (i : Int)) && y.v.there))) := hid (by
        have h9 := kpP_is hlt2 (HG.out.2.2.2.2.1 _ _) (r := r) (f := f) (by rw [← hy]; exact hnr)
        rw [← hy] at h9
        exact h9)
      have HSU := hid (filter_succ12 L (kpP L f) i hlt2)
      rw [← hy] at HSU
      clear hcw hy hkG hbg hnr
      go_upto_region 9 with fail
      rw [← hwG, ← hvb]
      clear hwG hvb k0 k1 k2 k3 k4 k5 p0
      have HSG : Hid (Same wB wG) := hid (HS.out.2.trans HG2.out.2)
      have g0 := HG2.out.1.cell 0
      have g1 := HG2.out.1.cell 1
      have g2 := HG2.out.1.cell 2
      have g3 := HG2.out.1.cell 3
      have g4 := HG2.out.1.cell 4
      simp only [List.getElem?_toArray, List.getElem?_cons_zero, List.getElem?_cons_succ] at g0 g1 g2 g3 g4
      have p2 : wG.cell? ⟨p, 2, none⟩ = some (.int .i64 f) := (HR.out wG HSG.out).blk.cell 2
      have HNG : Hid (∀ n os, Calls Try.prog 43 #[.pointer (some ⟨p, 0, none⟩), .agg #[.string y.b.tn, .string y.b.ar, .string y.n.s], .int .i64 f] (grow (wG.drewN n) os) fun e w2 => e = .returned (.int .i64 r) ∧ Gr (grow (wG.drewN n) os) w2) := hid (fun n os => HNG0.out _ (HSG.out.trans (same_grow wG n os)))
      have HGZ : Hid (vb < wG.heap.size ∧ p < wG.heap.size) := hid ⟨HG2.out.1.lt, (HR.out wG HSG.out).blk.lt⟩
      go_cut [62] from 24 to 66 (fun z wx => z = .bool (kpP L f y) ∧ Hid (Same wG wx))
      case first =>
        by_cases hft : f < y.v.t
        · have i1 : decide (f < y.v.t) = true := decide_eq_true hft
          have HE : Hid (kpP L f y = true) := hid (by rw [HKP.out, i1, Bool.true_or])
          clear hft
          go_quiet (fail)
          go_wp2_with fail
          go_meet
          exact ⟨by rw [HE.out], hid ((Kept.refl _ _).drewN _)⟩
        · have i1 : decide (f < y.v.t) = false := decide_eq_false hft
          by_cases hri : r = (i : Int)
          · have i2 : (r == (i : Int)) = true := by rw [hri]; exact beq_self_eq_true _
            have HE : Hid (kpP L f y = y.v.there) := hid (by rw [HKP.out, i1, decide_eq_true hri, Bool.false_or, Bool.true_and])
            clear hft
            go_region_held3 (fun w' => w'.cell? ⟨vb, 0, none⟩ = some (.string y.b.tn) ∧ w'.cell? ⟨vb, 1, none⟩ = some (.string y.b.ar) ∧ w'.cell? ⟨vb, 2, none⟩ = some (.string y.n.s) ∧ w'.cell? ⟨vb, 3, none⟩ = some (.int .i64 y.v.t) ∧ w'.cell? ⟨vb, 4, none⟩ = some (.bool y.v.there) ∧ w'.cell? ⟨p, 2, none⟩ = some (.int .i64 f))
              (first
                | (go_split_ands; exact ⟨hkc.cell (by assumption) (fun f => f), hkc.cell (by assumption) (fun f => f), hkc.cell (by assumption) (fun f => f), hkc.cell (by assumption) (fun f => f), hkc.cell (by assumption) (fun f => f), hkc.cell (by assumption) (fun f => f)⟩)
                | go_keep)
              (first
                | (go_at_call 43; refine (HNW.out _ (by first | exact HSG.out | exact HSG.out.drew)).mono ?_; rintro e wk ⟨rfl, hkc⟩; have HKK : Hid (Same wG wk) := hid (by first | exact Kept.undrewC hkc | exact hkc)))
            all_goals go_wp2_with fail
            all_goals go_meet
            all_goals exact ⟨by rw [HE.out], HKK⟩
          · have i2 : (r == (i : Int)) = false := by simpa using hri
            have HE : Hid (kpP L f y = false) := hid (by rw [HKP.out, i1, decide_eq_false hri, Bool.false_or, Bool.false_and])
            clear hft
            have hmo : Try.prog.follows .mixedOrders = true := by kernel_rfl
            have hsz := HGZ.out
            have l0 := fun n os => cell_grown (a := ⟨vb, 0, none⟩) hsz.1 g0 n os
            have l1 := fun n os => cell_grown (a := ⟨vb, 1, none⟩) hsz.1 g1 n os
            have l2 := fun n os => cell_grown (a := ⟨vb, 2, none⟩) hsz.1 g2 n os
            have l3 := fun n os => cell_grown (a := ⟨vb, 3, none⟩) hsz.1 g3 n os
            have l4 := fun n os => cell_grown (a := ⟨vb, 4, none⟩) hsz.1 g4 n os
            have l5 := fun n os => cell_grown (a := ⟨p, 2, none⟩) hsz.2 p2 n os
            clear hsz
            go_quiet_grown (first | (go_at_call 43; refine Calls.grown_of (HNG.out _ _)))
            all_goals go_wp2_with fail
            all_goals go_meet
            all_goals exact ⟨by rw [HE.out], hid (same_grow _ _ _)⟩
      case rest =>
        obtain ⟨rfl, HX⟩ := hcut
        have HXB : Hid (Same wB wc ∧ RowC wB.heap.size 93 6 lvE wc (.slice a0 l0 c0) ((L.take i).filter (kpP L f))) := hid ⟨HSG.out.trans HX.out, HS.out.1.kept (HG2.out.2.trans HX.out) (fun _ _ f => f)⟩
        have HSZ : Hid (((L.take i).filter (kpP L f)).length ≤ 100000 ∧ wB.heap.size ≤ wc.heap.size) := hid ⟨Nat.le_trans (List.length_filter_le _ _) (by rw [List.length_take]; have := HG.out; omega), HXB.out.1.size⟩
        have hv9 := HG2.out.1.kept HX.out (fun f => f)
        have v0 := hv9.cell 0
        have v1 := hv9.cell 1
        have v2 := hv9.cell 2
        have v3 := hv9.cell 3
        have v4 := hv9.cell 4
        have v5 := hv9.cell 5
        simp only [List.getElem?_toArray, List.getElem?_cons_zero, List.getElem?_cons_succ] at v0 v1 v2 v3 v4 v5
        obtain ⟨kb, hkb⟩ : ∃ q, q = kpP L f y := ⟨_, rfl⟩
        rw [← hkb] at HSU ⊢
        clear hkb hv9 g0 g1 g2 g3 g4 p2
        cases kb with
        | false =>
          have HN : Hid ((L.take (i + 1)).filter (kpP L f) = (L.take i).filter (kpP L f)) := hid (by rw [HSU.out]; rfl)
          clear v0 v1 v2 v3 v4 v5
          go_wp2_with fail
          go_roundg (gk - 1)
          case measure => omega
          case rel => exact ⟨i + 1, a0, l0, c0, by omega, by omega, rfl, by go_num, hid ⟨by rw [HN.out]; exact HXB.out.2, HXB.out.1⟩⟩
        | true =>
          have HN : Hid ((L.take (i + 1)).filter (kpP L f) = (L.take i).filter (kpP L f) ++ [y]) := hid (by rw [HSU.out]; rfl)
          go_wp2_with (at_builtin; refine wpList_append_c _ lvE 6 lvE_ok (by decide) wB.heap.size 28 93 (.agg #[.string ⟨#[]⟩, .string ⟨#[]⟩, .string ⟨#[]⟩, .int .i64 0, .bool false, .string ⟨#[]⟩]) 80 Try.underlying28 Try.infoLv rfl (by decide) rfl (.tmp 63) (.tmp 65) rfl (.slice a0 l0 c0) ((L.take i).filter (kpP L f)) rfl (HXB.out.2.kept (show Same _ _ from (Kept.refl _ _).alloc _) (fun _ _ f => f)) ⟨wc.heap.size, 0, none⟩ 1 1 [y] rfl rfl (cellsAt_lv _ y) (by have := HSZ.out; simp only [List.length_singleton]; omega) (by have := HSZ.out; simp; omega) ?_)
          intro v9 w9 hr9 hg9
          obtain ⟨a9, c9, hv9, _⟩ := hr9.shape
          subst hv9
          have hk9 : Kept (fun k => (Value.slice a0 l0 c0).ownBlock = some k) wc w9 := Kept.trans (F := fun _ => False) ((Kept.refl _ wc).alloc _) ((Kept.refl _ _).grown hg9 (fun k e => .inl e)) (fun _ _ f => False.elim f) (fun _ _ e => e)
          have HF : Hid (RowC wB.heap.size 93 6 lvE w9 (.slice a9 ((L.take i).filter (kpP L f) ++ [y]).length c9) ((L.take (i + 1)).filter (kpP L f)) ∧ Same wB w9) := hid ⟨by rw [HN.out]; exact hr9, Kept.trans HXB.out.1 hk9 (fun _ _ f => f) (fun k hk e => by have := HXB.out.2.ge e; omega)⟩
          obtain ⟨Ln, hLn⟩ : ∃ x, x = ((L.take i).filter (kpP L f) ++ [y]).length := ⟨_, rfl⟩
          rw [← hLn] at HF ⊢
          clear hr9 hg9 hk9 hLn v0 v1 v2 v3 v4 v5
          go_wp2_with fail
          go_roundg (gk - 1)
          case measure => omega
          case rel => exact ⟨i + 1, a9, Ln, c9, by omega, by omega, rfl, by go_num, HF⟩
    · have hli : decide (i < l) = false := decide_eq_false hlt
      have HE : Hid ((L.take i).filter (kpP L f) = L.filter (kpP L f)) := hid (by rw [List.take_of_length_le (by have := HG.out.2.1; omega)])
      have hl0 : l0 = ((L.take i).filter (kpP L f)).length := by
        obtain ⟨a9, c9, hv9, _⟩ := HS.out.1.shape
        injection hv9
      have hle : l0 ≤ l := by rw [hl0, HG.out.2.1, HE.out]; exact List.length_filter_le _ _
      have HW9 : Hid (wrap64 ((l : Int) - (l0 : Int)) = ((L.length - (L.filter (kpP L f)).length : Nat) : Int)) := hid (by rw [wrap64_sub12 l l0 HG.out.2.2.1 hle, ← HE.out, ← hl0, HG.out.2.1])
      have HP : Hid (Rc N (wr.setCell ⟨p, 0, none⟩ (.slice a0 l0 c0)) p (L.filter (kpP L f)) now f (.slice a0 l0 c0) ∧ Kept (· = p) w (wr.setCell ⟨p, 0, none⟩ (.slice a0 l0 c0))) := hid (by
        have h9 := HR.out wr HS.out.2
        have hks : Kept (· = p) wr (wr.setCell ⟨p, 0, none⟩ (.slice a0 l0 c0)) := (Kept.refl (· = p) wr).setCell _ _ (.inl rfl)
        have hr9 := HS.out.1
        rw [HE.out] at hr9
        refine ⟨⟨?_, (hr9.base (by have := HG.out; omega)).kept hks (fun k e e2 => hr9.off_blk h9.blk (by decide) (by rw [← e2]; exact e)), h9.np, Nat.le_trans (List.length_filter_le _ _) h9.len⟩, Kept.trans (Kept.trans HG.out.2.2.2.2.2.1 HS.out.2 (fun _ _ e => e) (fun _ _ f => f.elim)) hks (fun _ _ e => e) (fun _ _ e => e)⟩
        have h8 := h9.blk.set 0 (.slice a0 l0 c0)
        simpa using h8)
      have HO : Hid (∀ j, (Value.slice a0 l0 c0).ownBlock = some j → w.heap.size ≤ j) := hid (fun j e => by have := HS.out.1.ge e; have := HG.out; omega)
      have z0 := (HR.out wr HS.out.2).blk.frozen 0
      clear hl0 hle
      go_wp2_with fail
      go_ret
      exact ⟨.slice a0 l0 c0, by first | exact congrArg (fun z => Ending.returned (Value.int .i64 z)) HW9.out | (rw [← HW9.out]; rfl), HP.out.1, HO.out, HP.out.2⟩

end Go.Proofs.Ythignkloecfcbaa

/-
  Layer 12's law ChainRuns: a store and the reference's side by side; a call, held against the other.
-/
namespace Go.Proofs.Ythignkloecfcbaa
open Go.RowKit Go.Maps Go.Sort

/-- A store and the reference's. -/
structure T12 (K N : Nat) (w : World) (p : Nat) (ρ : Nat → Nat) (M : Mst) (rp : Nat) (L : List Lv) (v : Value) : Prop where
  sto : Sto K N w p M ρ
  ref : Rc N w rp L M.now M.floor v
  vs : M.V = ofK L
  zp : ρ rp = 0
  zv : ∀ k, v.ownBlock = some k → ρ k = 0
  len : L.length ≤ K
  hN : N ≤ w.heap.size

section
variable {K N : Nat} {w : World} {p : Nat} {ρ : Nat → Nat} {M : Mst} {rp : Nat} {L : List Lv} {v : Value}

theorem T12.same (h : T12 K N w p ρ M rp L v) {w' : World} (hk : Same w w') : T12 K N w' p ρ M rp L v := { h with sto := h.sto.same hk, ref := h.ref.same hk, hN := Nat.le_trans h.hN hk.size }
theorem T12.vok (h : T12 K N w p ρ M rp L v) (b : Bx) (n : Nm) : VerOk M.now (ofK L b n) := by rw [← h.vs]; exact h.sto.vok b n
theorem T12.ris (h : T12 K N w p ρ M rp L v) (b : Bx) (n : Nm) : RisV (ofK L b n) := (h.vok b n).ris
theorem T12.gone (h : T12 K N w p ρ M rp L v) (b : Bx) (n : Nm) : ∀ x ∈ ofK L b n, x.there = false → x.data = ⟨#[]⟩ := (h.vok b n).gone
theorem T12.more (h : T12 K N w p ρ M rp L v) {K' : Nat} (hK : K ≤ K') (hb : K' ≤ 100000) : T12 K' N w p ρ M rp L v := { h with sto := h.sto.more hK hb, len := Nat.le_trans h.len hK }

end

/-- What a step leaves. -/
def S12 (K N : Nat) (w : World) (p rp : Nat) (w' : World) : Prop := ∃ ρ M L v, T12 K N w' p ρ M rp L v ∧ Kept (fun k => N ≤ k) w w'

def OcBk (w : World) (xb : Nat) (o : Oc) : Prop := Blk w xb #[.int .i64 o.k, .int .i64 o.cm.t, .slice o.cm.a o.cm.n o.cm.c, .string o.b.tn, .string o.b.ar, .string o.nm.s, .int .i64 o.t] 38

theorem OcBk.cells {w : World} {xb : Nat} {o : Oc} (h : OcBk w xb o) : w.cell? ⟨xb, 0, none⟩ = some (.int .i64 o.k) ∧ w.cell? ⟨xb, 1, none⟩ = some (.int .i64 o.cm.t) ∧ w.cell? ⟨xb, 2, none⟩ = some (.slice o.cm.a o.cm.n o.cm.c) ∧ w.cell? ⟨xb, 3, none⟩ = some (.string o.b.tn) ∧ w.cell? ⟨xb, 4, none⟩ = some (.string o.b.ar) ∧ w.cell? ⟨xb, 5, none⟩ = some (.string o.nm.s) ∧ w.cell? ⟨xb, 6, none⟩ = some (.int .i64 o.t) := ⟨h.cell 0, h.cell 1, h.cell 2, h.cell 3, h.cell 4, h.cell 5, h.cell 6⟩

section
variable {K N : Nat} {w : World} {p : Nat} {ρ : Nat → Nat} {M : Mst} {rp : Nat} {L : List Lv} {v : Value}

set_option maxRecDepth 100000 in
set_option maxHeartbeats 4000000 in
theorem cstep2 (h : T12 K N w p ρ M rp L v) (o : Oc) (ho : OcOk w (fun k => k < N) o) (hk : o.k = 2) (hK : K + 3 * o.cm.n ≤ 100000) : Calls Try.prog 11 #[.pointer (some ⟨p, 0, none⟩), .pointer (some ⟨rp, 0, none⟩), .agg (ocC o).toArray] w fun e w' => e = .returned (.bool true) ∧ S12 (K + 3 * o.cm.n) N w p rp w' := by
  obtain ⟨k, cm, b, nm, t⟩ := o
  obtain ⟨ct, ca, cn, cc, ws⟩ := cm
  obtain rfl : k = 2 := hk
  show Calls Try.prog 11 #[.pointer (some ⟨p, 0, none⟩), .pointer (some ⟨rp, 0, none⟩), .agg #[.int .i64 2, .int .i64 ct, .slice ca cn cc, .string b.tn, .string b.ar, .string nm.s, .int .i64 t]] w _
  obtain ⟨wA, hwA⟩ : ∃ W, W = w.alloc (.cells #[.int .i64 2, .int .i64 ct, .slice ca cn cc, .string b.tn, .string b.ar, .string nm.s, .int .i64 t] 38) := ⟨_, rfl⟩
  obtain ⟨xb, hxb⟩ : ∃ y, y = w.heap.size := ⟨_, rfl⟩
  have hka : Same w wA := by rw [hwA]; exact (Kept.refl _ w).alloc _
  have HB : Hid (OcBk wA xb ⟨2, ⟨ct, ca, cn, cc, ws⟩, b, nm, t⟩) := hid (by rw [hwA, hxb]; exact Blk.new w _ _)
  have HT : Hid (T12 K N wA p ρ M rp L v) := hid (h.same hka)
  have HO : Hid (OcOk wA (fun k => k < N) ⟨2, ⟨ct, ca, cn, cc, ws⟩, b, nm, t⟩) := hid (ho.kept hka (fun _ _ _ f => f))
  have HK : Hid (Same w wA ∧ xb = w.heap.size) := hid ⟨hka, hxb⟩
  have HW : Hid (∀ w', Same wA w' → Kept (fun k => N ≤ k) w w') := hid (fun w' hk => (hka.trans hk).mono (fun _ _ f => f.elim))
  obtain ⟨c0, c1, c2, c3, c4, c5, c6⟩ := HB.out.cells
  clear h hka ho
  rw [hwA, hxb] at c0 c1 c2 c3 c4 c5 c6
  simp only at c0 c1 c2 c3 c4 c5 c6
  obtain ⟨A, hA⟩ : ∃ A, A = newV (M.V b nm) (max t M.floor) := ⟨_, rfl⟩
  obtain ⟨d, th⟩ : ∃ d th, A.data = d ∧ A.there = th := ⟨_, _, rfl, rfl⟩
  obtain ⟨th, hd, hth⟩ := th
  have HG1 : Hid (∀ w', Same wA w' → Calls Try.prog 14 #[.pointer (some ⟨p, 0, none⟩), .agg #[.string b.tn, .string b.ar, .string nm.s], .int .i64 t] w' fun e w2 => e = .returned (.tuple #[.string d, .bool th]) ∧ Same w' w2) := hid (fun w' hk => by
    have h9 := xget (HT.out.sto.same hk) b nm t
    unfold getA at h9
    rw [← hA, hd, hth] at h9
    exact h9)
  have HG2 : Hid (∀ w', Same wA w' → Calls Try.prog 27 #[.pointer (some ⟨rp, 0, none⟩), .agg #[.string b.tn, .string b.ar, .string nm.s], .int .i64 t] w' fun e w2 => e = .returned (.tuple #[.string d, .bool th]) ∧ Same w' w2) := hid (fun w' hk => by
    have h9 := rget_any (HT.out.same hk).ref b nm t (HT.out.ris b nm) (HT.out.gone b nm)
    unfold getA at h9
    rw [← HT.out.vs, ← hA, hd, hth] at h9
    exact h9)
  have se := streq12 d d
  rw [decide_eq_true rfl] at se
  have be : (th == th) = true := beq_self_eq_true _
  clear hA hd hth
  go_enter Try.func11, Try.ntmps11
  go_wp2_with fail
  rw [← hwA, ← hxb]
  clear hwA hxb c0 c1 c2 c3 c4 c5 c6
  refine (HG1.out wA (Kept.refl _ _)).mono ?_
  rintro e w1 ⟨rfl, hk1⟩
  have HK1 : Hid (Same wA w1) := hk1
  obtain ⟨c0, c1, c2, c3, c4, c5, c6⟩ := (show OcBk w1 xb _ from HB.out.kept hk1 (fun f => f)).cells
  simp only at c0 c1 c2 c3 c4 c5 c6
  clear hk1
  go_wp2_with fail
  refine (HG2.out w1 HK1.out).mono ?_
  rintro e w2 ⟨rfl, hk2⟩
  have HK2 : Hid (Same wA w2) := hid (HK1.out.trans hk2)
  clear hk2 c0 c1 c2 c3 c4 c5 c6
  go_wp2_with fail
  go_ret
  exact ⟨by first | rfl | simp, ρ, M, L, v, (HT.out.same HK2.out).more (by omega) hK, HW.out _ HK2.out⟩

set_option maxRecDepth 100000 in
set_option maxHeartbeats 4000000 in
theorem cstep4 (h : T12 K N w p ρ M rp L v) (o : Oc) (ho : OcOk w (fun k => k < N) o) (hk : o.k = 4) (hK : K + 3 * o.cm.n ≤ 100000) : Calls Try.prog 11 #[.pointer (some ⟨p, 0, none⟩), .pointer (some ⟨rp, 0, none⟩), .agg (ocC o).toArray] w fun e w' => e = .returned (.bool true) ∧ S12 (K + 3 * o.cm.n) N w p rp w' := by
  obtain ⟨k, cm, b, nm, t⟩ := o
  obtain ⟨ct, ca, cn, cc, ws⟩ := cm
  obtain rfl : k = 4 := hk
  show Calls Try.prog 11 #[.pointer (some ⟨p, 0, none⟩), .pointer (some ⟨rp, 0, none⟩), .agg #[.int .i64 4, .int .i64 ct, .slice ca cn cc, .string b.tn, .string b.ar, .string nm.s, .int .i64 t]] w _
  obtain ⟨wA, hwA⟩ : ∃ W, W = w.alloc (.cells #[.int .i64 4, .int .i64 ct, .slice ca cn cc, .string b.tn, .string b.ar, .string nm.s, .int .i64 t] 38) := ⟨_, rfl⟩
  obtain ⟨xb, hxb⟩ : ∃ y, y = w.heap.size := ⟨_, rfl⟩
  have hka : Same w wA := by rw [hwA]; exact (Kept.refl _ w).alloc _
  have HB : Hid (OcBk wA xb ⟨4, ⟨ct, ca, cn, cc, ws⟩, b, nm, t⟩) := hid (by rw [hwA, hxb]; exact Blk.new w _ _)
  have HT : Hid (T12 K N wA p ρ M rp L v) := hid (h.same hka)
  have HO : Hid (OcOk wA (fun k => k < N) ⟨4, ⟨ct, ca, cn, cc, ws⟩, b, nm, t⟩) := hid (ho.kept hka (fun _ _ _ f => f))
  have HK : Hid (Same w wA ∧ xb = w.heap.size) := hid ⟨hka, hxb⟩
  have HW : Hid (∀ w', Same wA w' → Kept (fun k => N ≤ k) w w') := hid (fun w' hk => (hka.trans hk).mono (fun _ _ f => f.elim))
  obtain ⟨c0, c1, c2, c3, c4, c5, c6⟩ := HB.out.cells
  clear h hka ho
  rw [hwA, hxb] at c0 c1 c2 c3 c4 c5 c6
  simp only at c0 c1 c2 c3 c4 c5 c6
  obtain ⟨r, hr⟩ : ∃ r, r = (newV (M.V b nm) M.now).t := ⟨_, rfl⟩
  have HG1 : Hid (∀ w', Same wA w' → Calls Try.prog 23 #[.pointer (some ⟨p, 0, none⟩), .agg #[.string b.tn, .string b.ar, .string nm.s]] w' fun e w2 => e = .returned (.int .i64 r) ∧ Same w' w2) := hid (fun w' hk => by
    rw [hr]; exact xlast (HT.out.sto.same hk) b nm)
  have HG2 : Hid (∀ w', Same wA w' → Calls Try.prog 29 #[.pointer (some ⟨rp, 0, none⟩), .agg #[.string b.tn, .string b.ar, .string nm.s]] w' fun e w2 => e = .returned (.int .i64 r) ∧ Same w' w2) := hid (fun w' hk => by
    have h9 := rlast_any (HT.out.same hk).ref b nm
    rw [lasK_is (HT.out.ris b nm) (HT.out.vok b nm).low, ← HT.out.vs, ← hr] at h9
    exact h9)
  have be : (r == r) = true := beq_self_eq_true _
  clear hr
  have HKK : Hid (Same wA wA) := hid (Kept.refl _ _)
  go_enter Try.func11, Try.ntmps11
  go_wp2_with fail
  rw [← hwA, ← hxb]
  clear hwA hxb c0 c1 c2 c3 c4 c5 c6
  obtain ⟨c0, c1, c2, c3, c4, c5, c6⟩ := (show OcBk wA xb _ from HB.out.kept (Kept.refl (fun _ => False) _) (fun f => f)).cells
  simp only at c0 c1 c2 c3 c4 c5 c6
  go_region_held3 (fun w' => w'.cell? ⟨xb, 3, none⟩ = some (.string b.tn) ∧ w'.cell? ⟨xb, 4, none⟩ = some (.string b.ar) ∧ w'.cell? ⟨xb, 5, none⟩ = some (.string nm.s))
    (first
      | (go_split_ands; exact ⟨hkc.cell (by assumption) (fun f => f), hkc.cell (by assumption) (fun f => f), hkc.cell (by assumption) (fun f => f)⟩)
      | go_keep)
    (first
      | (go_at_call 23; refine (HG1.out _ (by first | exact HKK.out | exact HKK.out.drew)).mono ?_; rintro e wk ⟨rfl, hkc⟩; have HKK : Hid (Same wA wk) := hid (by first | exact HKK.out.trans hkc | exact HKK.out.trans (Kept.undrewC hkc)))
      | (go_at_call 29; refine (HG2.out _ (by first | exact HKK.out | exact HKK.out.drew)).mono ?_; rintro e wk ⟨rfl, hkc⟩; have HKK : Hid (Same wA wk) := hid (by first | exact HKK.out.trans hkc | exact HKK.out.trans (Kept.undrewC hkc))))
  go_wp2_with fail
  go_ret
  exact ⟨by first | rfl | simp, ρ, M, L, v, (HT.out.same HKK.out).more (by omega) hK, HW.out _ HKK.out⟩

set_option maxRecDepth 100000 in
set_option maxHeartbeats 4000000 in
theorem cstep3 (h : T12 K N w p ρ M rp L v) (o : Oc) (ho : OcOk w (fun k => k < N) o) (hk : o.k = 3) (hK : K + 3 * o.cm.n ≤ 100000) : Calls Try.prog 11 #[.pointer (some ⟨p, 0, none⟩), .pointer (some ⟨rp, 0, none⟩), .agg (ocC o).toArray] w fun e w' => e = .returned (.bool true) ∧ S12 (K + 3 * o.cm.n) N w p rp w' := by
  obtain ⟨k, cm, b, nm, t⟩ := o
  obtain ⟨ct, ca, cn, cc, ws⟩ := cm
  obtain rfl : k = 3 := hk
  show Calls Try.prog 11 #[.pointer (some ⟨p, 0, none⟩), .pointer (some ⟨rp, 0, none⟩), .agg #[.int .i64 3, .int .i64 ct, .slice ca cn cc, .string b.tn, .string b.ar, .string nm.s, .int .i64 t]] w _
  obtain ⟨wA, hwA⟩ : ∃ W, W = w.alloc (.cells #[.int .i64 3, .int .i64 ct, .slice ca cn cc, .string b.tn, .string b.ar, .string nm.s, .int .i64 t] 38) := ⟨_, rfl⟩
  obtain ⟨xb, hxb⟩ : ∃ y, y = w.heap.size := ⟨_, rfl⟩
  have hka : Same w wA := by rw [hwA]; exact (Kept.refl _ w).alloc _
  have HB : Hid (OcBk wA xb ⟨3, ⟨ct, ca, cn, cc, ws⟩, b, nm, t⟩) := hid (by rw [hwA, hxb]; exact Blk.new w _ _)
  have HT : Hid (T12 K N wA p ρ M rp L v) := hid (h.same hka)
  have HO : Hid (OcOk wA (fun k => k < N) ⟨3, ⟨ct, ca, cn, cc, ws⟩, b, nm, t⟩) := hid (ho.kept hka (fun _ _ _ f => f))
  have HK : Hid (Same w wA ∧ xb = w.heap.size) := hid ⟨hka, hxb⟩
  have HW : Hid (∀ w', Same wA w' → Kept (fun k => N ≤ k) w w') := hid (fun w' hk => (hka.trans hk).mono (fun _ _ f => f.elim))
  obtain ⟨c0, c1, c2, c3, c4, c5, c6⟩ := HB.out.cells
  clear h hka ho
  rw [hwA, hxb] at c0 c1 c2 c3 c4 c5 c6
  simp only at c0 c1 c2 c3 c4 c5 c6
  have HL1 : Hid (∀ w', Same wA w' → Calls Try.prog 21 #[.pointer (some ⟨p, 0, none⟩), .agg #[.string b.tn, .string b.ar], .int .i64 t] w' fun e w2 => ∃ v1, e = .returned v1 ∧ (∃ aa nn cc, v1 = .slice aa nn cc) ∧ Same w' w2 ∧ ∀ w3, Same w2 w3 → Calls Try.prog 28 #[.pointer (some ⟨rp, 0, none⟩), .agg #[.string b.tn, .string b.ar], .int .i64 t] w3 fun e w4 => ∃ v2, e = .returned v2 ∧ (∃ aa nn cc, v2 = .slice aa nn cc) ∧ Same w3 w4 ∧ ∀ w5, Same w4 w5 → Calls Try.prog 20 #[v1, v2] w5 fun e w6 => e = .returned (.bool true) ∧ Same w5 w6) := hid (fun w' hk => (xlist (HT.out.sto.same hk) b t).mono (fun e w2 h9 => by
    obtain ⟨v1, xs, rfl, hr1, hs1, hm1, hl1, hk2⟩ := h9
    obtain ⟨aa, cc, hv1, _⟩ := hr1.shape
    refine ⟨v1, rfl, ⟨aa, _, cc, hv1⟩, hk2, fun w3 hk3 => (rlist_any (HT.out.same ((hk.trans hk2).trans hk3)).ref b t HT.out.ris HT.out.gone).mono (fun e w4 h8 => ?_)⟩
    obtain ⟨v2, ys, rfl, hr2, hs2, hm2, hl2, hk4⟩ := h8
    obtain ⟨aa2, cc2, hv2, _⟩ := hr2.shape
    have exy : xs = ys := lis_det ⟨hs1, hm1⟩ ⟨hs2, fun n => by rw [hm2, ← HT.out.vs]⟩
    subst exy
    exact ⟨v2, rfl, ⟨aa2, _, cc2, hv2⟩, hk4, fun w5 hk5 => texts_true w5 _ _ v1 v2 xs (hr1.kept ((hk3.trans hk4).trans hk5) (fun _ _ f => f)) (hr2.kept hk5 (fun _ _ f => f)) (by omega)⟩))
  have HKK : Hid (Same wA wA) := hid (Kept.refl _ _)
  go_enter Try.func11, Try.ntmps11
  go_wp2_with fail
  rw [← hwA, ← hxb]
  clear hwA hxb c0 c1 c2 c3 c4 c5 c6
  obtain ⟨c0, c1, c2, c3, c4, c5, c6⟩ := (show OcBk wA xb _ from HB.out.kept (Kept.refl (fun _ => False) _) (fun f => f)).cells
  simp only at c0 c1 c2 c3 c4 c5 c6
  go_region_held3 (fun w' => w'.cell? ⟨xb, 3, none⟩ = some (.string b.tn) ∧ w'.cell? ⟨xb, 4, none⟩ = some (.string b.ar) ∧ w'.cell? ⟨xb, 5, none⟩ = some (.string nm.s) ∧ w'.cell? ⟨xb, 6, none⟩ = some (.int .i64 t))
    (first
      | (go_split_ands; exact ⟨hkc.cell (by assumption) (fun f => f), hkc.cell (by assumption) (fun f => f), hkc.cell (by assumption) (fun f => f), hkc.cell (by assumption) (fun f => f)⟩)
      | go_keep)
    (first
      | (go_at_call 22; refine (box_any _ b.tn b.ar nm.s).mono ?_; rintro e wk ⟨rfl, hkc⟩; have HKK : Hid (Same wA wk) := hid (by first | exact HKK.out.trans hkc | exact HKK.out.trans (Kept.undrewC hkc)))
      | (go_at_call 21; refine (HL1.out _ (by first | exact HKK.out | exact HKK.out.drew)).mono ?_; rintro e wk ⟨v1, rfl, ⟨aa, nn, cq, rfl⟩, hkc, hcon⟩; have HCN := hid hcon; clear hcon; have HW2 : Hid (Same wk wk) := hid (Kept.refl _ _); have HKK : Hid (Same wA wk) := hid (by first | exact HKK.out.trans hkc | exact HKK.out.trans (Kept.undrewC hkc))))
  clear hkc c0 c1 c2 c3 c4 c5 c6
  obtain ⟨c0, c1, c2, c3, c4, c5, c6⟩ := (show OcBk wk xb _ from HB.out.kept HKK.out (fun f => f)).cells
  simp only at c0 c1 c2 c3 c4 c5 c6
  obtain ⟨wz, hwz⟩ : ∃ W, W = wk := ⟨_, rfl⟩
  have HKZ : Hid (Same wz wz) := hid (Kept.refl _ _)
  have HZA : Hid (Same wA wz) := hid (by rw [hwz]; exact HKK.out)
  rw [← hwz] at HCN c0 c1 c2 c3 c4 c5 c6
  go_wp2_with fail
  try rw [← hwz]
  clear hwz HKK HW2 HL1
  go_region_held3 (fun w' => w'.cell? ⟨xb, 3, none⟩ = some (.string b.tn) ∧ w'.cell? ⟨xb, 4, none⟩ = some (.string b.ar) ∧ w'.cell? ⟨xb, 5, none⟩ = some (.string nm.s) ∧ w'.cell? ⟨xb, 6, none⟩ = some (.int .i64 t))
    (first
      | (go_split_ands; exact ⟨hkc.cell (by assumption) (fun f => f), hkc.cell (by assumption) (fun f => f), hkc.cell (by assumption) (fun f => f), hkc.cell (by assumption) (fun f => f)⟩)
      | go_keep)
    (first
      | (go_at_call 22; refine (box_any _ b.tn b.ar nm.s).mono ?_; rintro e wq ⟨rfl, hkc⟩; have HKZ : Hid (Same wz wq) := hid (by first | exact HKZ.out.trans hkc | exact HKZ.out.trans (Kept.undrewC hkc)))
      | (go_at_call 28; refine (HCN.out _ (by first | exact HKZ.out | exact HKZ.out.drew)).mono ?_; rintro e wq ⟨v2, rfl, ⟨aa2, nn2, cq2, rfl⟩, hkc, hcon⟩; have HCN2 := hid hcon; clear hcon; have HQQ : Hid (Same wq wq) := hid (Kept.refl _ _); have HKZ : Hid (Same wz wq) := hid (by first | exact HKZ.out.trans hkc | exact HKZ.out.trans (Kept.undrewC hkc)))
      | (go_at_call 20; refine (HCN2.out _ (by first | exact HQQ.out | exact HQQ.out.drew)).mono ?_; rintro e wq ⟨rfl, hkc⟩; have HKZ : Hid (Same wz wq) := hid (by first | exact HKZ.out.trans hkc | exact HKZ.out.trans (Kept.undrewC hkc))))
  have HF : Hid (Same wA wq) := hid (HZA.out.trans HKZ.out)
  go_wp2_with fail
  go_ret
  exact ⟨rfl, ρ, M, L, v, (HT.out.same HF.out).more (by omega) hK, HW.out _ HF.out⟩

set_option maxRecDepth 100000 in
set_option maxHeartbeats 4000000 in
theorem cstep6 (h : T12 K N w p ρ M rp L v) (o : Oc) (ho : OcOk w (fun k => k < N) o) (hk : o.k = 6) (hK : K + 3 * o.cm.n ≤ 100000) : Calls Try.prog 11 #[.pointer (some ⟨p, 0, none⟩), .pointer (some ⟨rp, 0, none⟩), .agg (ocC o).toArray] w fun e w' => e = .returned (.bool true) ∧ S12 (K + 3 * o.cm.n) N w p rp w' := by
  obtain ⟨k, cm, b, nm, t⟩ := o
  obtain ⟨ct, ca, cn, cc, ws⟩ := cm
  obtain rfl : k = 6 := hk
  show Calls Try.prog 11 #[.pointer (some ⟨p, 0, none⟩), .pointer (some ⟨rp, 0, none⟩), .agg #[.int .i64 6, .int .i64 ct, .slice ca cn cc, .string b.tn, .string b.ar, .string nm.s, .int .i64 t]] w _
  obtain ⟨wA, hwA⟩ : ∃ W, W = w.alloc (.cells #[.int .i64 6, .int .i64 ct, .slice ca cn cc, .string b.tn, .string b.ar, .string nm.s, .int .i64 t] 38) := ⟨_, rfl⟩
  obtain ⟨xb, hxb⟩ : ∃ y, y = w.heap.size := ⟨_, rfl⟩
  have hka : Same w wA := by rw [hwA]; exact (Kept.refl _ w).alloc _
  have HB : Hid (OcBk wA xb ⟨6, ⟨ct, ca, cn, cc, ws⟩, b, nm, t⟩) := hid (by rw [hwA, hxb]; exact Blk.new w _ _)
  have HT : Hid (T12 K N wA p ρ M rp L v) := hid (h.same hka)
  have HO : Hid (OcOk wA (fun k => k < N) ⟨6, ⟨ct, ca, cn, cc, ws⟩, b, nm, t⟩) := hid (ho.kept hka (fun _ _ _ f => f))
  have HK : Hid (Same w wA ∧ xb = w.heap.size) := hid ⟨hka, hxb⟩
  have HW : Hid (∀ w', Same wA w' → Kept (fun k => N ≤ k) w w') := hid (fun w' hk => (hka.trans hk).mono (fun _ _ f => f.elim))
  obtain ⟨c0, c1, c2, c3, c4, c5, c6⟩ := HB.out.cells
  clear h hka ho
  rw [hwA, hxb] at c0 c1 c2 c3 c4 c5 c6
  simp only at c0 c1 c2 c3 c4 c5 c6
  have HD1 : Hid (∀ w', Same wA w' → Calls Try.prog 15 #[.pointer (some ⟨p, 0, none⟩), .int .i64 t] w' fun e w2 => ∃ v1, e = .returned v1 ∧ (∃ aa nn cc, v1 = .slice aa nn cc) ∧ Same w' w2 ∧ ∀ w3, Same w2 w3 → Calls Try.prog 31 #[.pointer (some ⟨rp, 0, none⟩), .int .i64 t] w3 fun e w4 => ∃ v2, e = .returned v2 ∧ (∃ aa nn cc, v2 = .slice aa nn cc) ∧ Same w3 w4 ∧ ∀ w5, Same w4 w5 → Calls Try.prog 17 #[v1, v2] w5 fun e w6 => e = .returned (.bool true) ∧ Same w5 w6) := hid (fun w' hk => by
    obtain ⟨s, mb, hck, hM⟩ := HT.out.sto.same hk
    refine (dump_any hck t).mono (fun e w2 h9 => ?_)
    obtain ⟨v1, As, rfl, hd1, hi1, hl1, hb1, hk2⟩ := h9
    obtain ⟨aa, cc, hv1, _⟩ := hd1.row.shape
    refine ⟨v1, rfl, ⟨aa, _, cc, hv1⟩, hk2, fun w3 hk3 => (rdump_any (HT.out.same ((hk.trans hk2).trans hk3)).ref t HT.out.ris HT.out.gone).mono (fun e w4 h8 => ?_)⟩
    obtain ⟨v2, Bs, rfl, hd2, hi2, hl2, hb2, hk4⟩ := h8
    obtain ⟨aa2, cc2, hv2, _⟩ := hd2.row.shape
    have e9 : visF (vers s) (max t s.floor) = visF (ofK L) (max t M.floor) := by rw [← HT.out.vs, hM]
    rw [e9] at hi1
    exact ⟨v2, rfl, ⟨aa2, _, cc2, hv2⟩, hk4, fun w5 hk5 => dsame_true w5 _ _ v1 v2 As Bs (hd1.same ((hk3.trans hk4).trans hk5)) (hd2.same hk5) (hi1.det hi2) hl1 hb1⟩)
  go_enter Try.func11, Try.ntmps11
  go_wp2_with fail
  rw [← hwA, ← hxb]
  clear hwA hxb c0 c1 c2 c3 c4 c5 c6
  refine (HD1.out wA (Kept.refl _ _)).mono ?_
  rintro e w1 ⟨v1, rfl, ⟨aa, nn, cq, rfl⟩, hk1, hcon⟩
  have HCN := hid hcon
  have HK1 : Hid (Same wA w1) := hk1
  obtain ⟨c0, c1, c2, c3, c4, c5, c6⟩ := (show OcBk w1 xb _ from HB.out.kept hk1 (fun f => f)).cells
  simp only at c0 c1 c2 c3 c4 c5 c6
  clear hk1 hcon HD1
  go_wp2_with fail
  refine (HCN.out w1 (Kept.refl _ _)).mono ?_
  rintro e w2 ⟨v2, rfl, ⟨aa2, nn2, cq2, rfl⟩, hk2, hcon⟩
  have HCN2 := hid hcon
  have HK2 : Hid (Same wA w2) := hid (HK1.out.trans hk2)
  clear hk2 hcon HCN c0 c1 c2 c3 c4 c5 c6
  go_wp2_with fail
  refine (HCN2.out w2 (Kept.refl _ _)).mono ?_
  rintro e w3 ⟨rfl, hk3⟩
  have HK3 : Hid (Same wA w3) := hid (HK2.out.trans hk3)
  clear hk3 HCN2
  go_wp2_with fail
  go_ret
  exact ⟨rfl, ρ, M, L, v, (HT.out.same HK3.out).more (by omega) hK, HW.out _ HK3.out⟩

set_option maxRecDepth 100000 in
set_option maxHeartbeats 4000000 in
theorem cstep7 (h : T12 K N w p ρ M rp L v) (o : Oc) (ho : OcOk w (fun k => k < N) o) (hk : o.k ≠ 1 ∧ o.k ≠ 2 ∧ o.k ≠ 3 ∧ o.k ≠ 4 ∧ o.k ≠ 5 ∧ o.k ≠ 6) (hK : K + 3 * o.cm.n ≤ 100000) : Calls Try.prog 11 #[.pointer (some ⟨p, 0, none⟩), .pointer (some ⟨rp, 0, none⟩), .agg (ocC o).toArray] w fun e w' => e = .returned (.bool true) ∧ S12 (K + 3 * o.cm.n) N w p rp w' := by
  obtain ⟨k, cm, b, nm, t⟩ := o
  obtain ⟨ct, ca, cn, cc, ws⟩ := cm
  have q1 : ((k : Int) == 1) = false := by simpa using hk.1
  have q2 : ((k : Int) == 2) = false := by simpa using hk.2.1
  have q3 : ((k : Int) == 3) = false := by simpa using hk.2.2.1
  have q4 : ((k : Int) == 4) = false := by simpa using hk.2.2.2.1
  have q5 : ((k : Int) == 5) = false := by simpa using hk.2.2.2.2.1
  have q6 : ((k : Int) == 6) = false := by simpa using hk.2.2.2.2.2
  clear hk
  show Calls Try.prog 11 #[.pointer (some ⟨p, 0, none⟩), .pointer (some ⟨rp, 0, none⟩), .agg #[.int .i64 k, .int .i64 ct, .slice ca cn cc, .string b.tn, .string b.ar, .string nm.s, .int .i64 t]] w _
  obtain ⟨wA, hwA⟩ : ∃ W, W = w.alloc (.cells #[.int .i64 k, .int .i64 ct, .slice ca cn cc, .string b.tn, .string b.ar, .string nm.s, .int .i64 t] 38) := ⟨_, rfl⟩
  obtain ⟨xb, hxb⟩ : ∃ y, y = w.heap.size := ⟨_, rfl⟩
  have hka : Same w wA := by rw [hwA]; exact (Kept.refl _ w).alloc _
  have HB : Hid (OcBk wA xb ⟨k, ⟨ct, ca, cn, cc, ws⟩, b, nm, t⟩) := hid (by rw [hwA, hxb]; exact Blk.new w _ _)
  have HT : Hid (T12 K N wA p ρ M rp L v) := hid (h.same hka)
  have HO : Hid (OcOk wA (fun k => k < N) ⟨k, ⟨ct, ca, cn, cc, ws⟩, b, nm, t⟩) := hid (ho.kept hka (fun _ _ _ f => f))
  have HK : Hid (Same w wA ∧ xb = w.heap.size) := hid ⟨hka, hxb⟩
  have HW : Hid (∀ w', Same wA w' → Kept (fun k => N ≤ k) w w') := hid (fun w' hk => (hka.trans hk).mono (fun _ _ f => f.elim))
  obtain ⟨c0, c1, c2, c3, c4, c5, c6⟩ := HB.out.cells
  clear h hka ho
  rw [hwA, hxb] at c0 c1 c2 c3 c4 c5 c6
  simp only at c0 c1 c2 c3 c4 c5 c6
  obtain ⟨now, hnow⟩ : ∃ x, x = M.now := ⟨_, rfl⟩
  obtain ⟨a0, q0, hv0, _⟩ := HT.out.ref.row.shape
  obtain ⟨l, hl⟩ : ∃ x, x = L.length := ⟨_, rfl⟩
  rw [← hl] at hv0
  have HN1 : Hid (∀ w', Same wA w' → Calls Try.prog 13 #[.pointer (some ⟨p, 0, none⟩)] w' fun e w2 => e = .returned (.int .i64 now) ∧ Same w' w2) := hid (fun w' hk => (xnow (HT.out.sto.same hk)).mono (fun e w2 h9 => ⟨by rw [hnow]; exact h9.1, by rw [h9.2]; exact Kept.refl _ _⟩))
  have HV1 : Hid (∀ w', Same wA w' → Calls Try.prog 18 #[.pointer (some ⟨p, 0, none⟩)] w' fun e w2 => e = .returned (.int .i64 (l : Nat)) ∧ Same w' w2) := hid (fun w' hk => (xversions (HT.out.sto.same hk)).mono (fun e w2 h9 => by
    obtain ⟨m, h1, h2, h3⟩ := h9
    rw [HT.out.vs] at h2
    rw [h1, h2.det (ofK_tot L), hl]
    exact ⟨rfl, h3⟩))
  have HR : Hid (∀ w', Same wA w' → w'.cell? ⟨rp, 0, none⟩ = some (.slice a0 l q0) ∧ w'.cell? ⟨rp, 1, none⟩ = some (.int .i64 now)) := hid (fun w' hk => by
    have h9 := (HT.out.same hk).ref.blk
    rw [hv0] at h9
    rw [hnow]
    exact ⟨h9.cell 0, h9.cell 1⟩)
  have be : (now == now) = true := beq_self_eq_true _
  have be2 : ((l : Int) == (l : Int)) = true := beq_self_eq_true _
  clear hnow hl hv0
  have HKK : Hid (Same wA wA) := hid (Kept.refl _ _)
  go_enter Try.func11, Try.ntmps11
  go_wp2_with fail
  rw [← hwA, ← hxb]
  clear hwA hxb c0 c1 c2 c3 c4 c5 c6
  obtain ⟨r0, r1⟩ := HR.out wA (Kept.refl _ _)
  go_region_held3 (fun w' => w'.cell? ⟨rp, 0, none⟩ = some (.slice a0 l q0) ∧ w'.cell? ⟨rp, 1, none⟩ = some (.int .i64 now))
    (first
      | (go_split_ands; exact ⟨hkc.cell (by assumption) (fun f => f), hkc.cell (by assumption) (fun f => f)⟩)
      | go_keep)
    (first
      | (go_at_call 13; refine (HN1.out _ (by first | exact HKK.out | exact HKK.out.drew)).mono ?_; rintro e wk ⟨rfl, hkc⟩; have HKK : Hid (Same wA wk) := hid (by first | exact HKK.out.trans hkc | exact HKK.out.trans (Kept.undrewC hkc)))
      | (go_at_call 18; refine (HV1.out _ (by first | exact HKK.out | exact HKK.out.drew)).mono ?_; rintro e wk ⟨rfl, hkc⟩; have HKK : Hid (Same wA wk) := hid (by first | exact HKK.out.trans hkc | exact HKK.out.trans (Kept.undrewC hkc))))
  go_wp2_with fail
  go_ret
  exact ⟨by first | rfl | simp, ρ, M, L, v, (HT.out.same HKK.out).more (by omega) hK, HW.out _ HKK.out⟩

end

end Go.Proofs.Ythignkloecfcbaa

/-
  Layer 12's law ChainRuns: Prune and Put, held against the reference.
-/
namespace Go.Proofs.Ythignkloecfcbaa
open Go.RowKit Go.Maps Go.Sort

theorem Sto.ge {K N : Nat} {w : World} {p : Nat} {M : Mst} {ρ : Nat → Nat} (h : Sto K N w p M ρ) {k : Nat} (hk : ρ k ≠ 0) : N ≤ k := by
  obtain ⟨s, mb, h1, _⟩ := h
  exact (h1.new k hk).1

theorem cpr_any {K N : Nat} {w : World} {p : Nat} {M : Mst} {ρ : Nat → Nat} (h : Sto K N w p M ρ) (t : Int) : Calls Try.prog 19 #[.pointer (some ⟨p, 0, none⟩), .int .i64 t] w fun e w' => ∃ (k : Nat) (ρ' : Nat → Nat), e = .returned (.int .i64 (k : Nat)) ∧ Sto K N w' p (prM M t) ρ' ∧ ExtC w ρ ρ' ∧ Kept (fun k => ρ k ≠ 0) w w' ∧ ∀ m, TotIs M.V m → ∃ m', TotIs (prM M t).V m' ∧ m' + k = m := by
  by_cases ht : t ≤ M.floor
  · refine (xprune_old h t ht).mono ?_
    rintro e w' ⟨rfl, hk⟩
    have e1 : prM M t = M := if_pos ht
    rw [e1]
    exact ⟨0, ρ, rfl, h.same hk, ExtC.refl _ _, hk.mono (fun _ _ f => f.elim), fun m hm => ⟨m, hm, rfl⟩⟩
  · refine (xprune_new h t (by omega)).mono ?_
    rintro e w' ⟨k, rfl, ⟨ρ', g1, g2, g3⟩, hT⟩
    have e1 : prM M t = pruM M (min t M.now) := if_neg ht
    rw [e1]
    exact ⟨k, ρ', rfl, g1, g2, g3, hT⟩

/-- The versions that Prune leaves. -/
def prLL (L : List Lv) (now floor t : Int) : List Lv := if t ≤ floor then L else L.filter (kpP L (min t now))

theorem prLL_len (L : List Lv) (now floor t : Int) : (prLL L now floor t).length ≤ L.length := by
  unfold prLL
  split
  · exact Nat.le_refl _
  · exact List.length_filter_le _ _

theorem prLL_is {L : List Lv} {M : Mst} (hv : M.V = ofK L) (hr : ∀ b n, RisV (ofK L b n)) (t : Int) : (prM M t).V = ofK (prLL L M.now M.floor t) := by
  unfold prM prLL
  split
  · exact hv
  · rw [prL_is L _ hr]
    unfold pruM
    simp only [hv]

theorem rpr_any {N : Nat} {w : World} {p : Nat} {L : List Lv} {M : Mst} {v : Value} (h : Rc N w p L M.now M.floor v) (hN : N ≤ w.heap.size) (t : Int) (hr : ∀ b n, RisV (ofK L b n)) : Calls Try.prog 30 #[.pointer (some ⟨p, 0, none⟩), .int .i64 t] w fun e w' => ∃ v', e = .returned (.int .i64 ((L.length - (prLL L M.now M.floor t).length : Nat) : Int)) ∧ Rc N w' p (prLL L M.now M.floor t) (prM M t).now (prM M t).floor v' ∧ (∀ j, v'.ownBlock = some j → v.ownBlock = some j ∨ w.heap.size ≤ j) ∧ Kept (· = p) w w' := by
  by_cases ht : t ≤ M.floor
  · refine (rprune_old h t ht).mono ?_
    rintro e w' ⟨rfl, hk⟩
    have e1 : prM M t = M := if_pos ht
    have e2 : prLL L M.now M.floor t = L := if_pos ht
    rw [e1, e2, Nat.sub_self]
    exact ⟨v, rfl, h.same hk, fun j e => .inl e, hk.mono (fun _ _ f => f.elim)⟩
  · refine (rprune_new h hN t (by omega) hr).mono ?_
    rintro e w' ⟨v', rfl, h1, h2, h3⟩
    have e1 : prM M t = pruM M (min t M.now) := if_neg ht
    have e2 : prLL L M.now M.floor t = L.filter (kpP L (min t M.now)) := if_neg ht
    rw [e1, e2]
    exact ⟨v', rfl, h1, fun j e => .inr (h2 j e), h3⟩

theorem prune12 {K N : Nat} {w : World} {p : Nat} {ρ : Nat → Nat} {M : Mst} {rp : Nat} {L : List Lv} {v : Value} (h : T12 K N w p ρ M rp L v) (t : Int) : Calls Try.prog 19 #[.pointer (some ⟨p, 0, none⟩), .int .i64 t] w fun e w2 => e = .returned (.int .i64 ((L.length - (prLL L M.now M.floor t).length : Nat) : Int)) ∧ Kept (fun k => ρ k ≠ 0) w w2 ∧ ∀ w3, Same w2 w3 → Calls Try.prog 30 #[.pointer (some ⟨rp, 0, none⟩), .int .i64 t] w3 fun e w4 => e = .returned (.int .i64 ((L.length - (prLL L M.now M.floor t).length : Nat) : Int)) ∧ (∃ ρ' M' L' v', T12 K N w4 p ρ' M' rp L' v') ∧ Kept (fun k => ρ k ≠ 0 ∨ k = rp) w w4 := by
  refine (cpr_any h.sto t).mono ?_
  rintro e w2 ⟨k, ρ2, rfl, h1, h2, h3, h4⟩
  obtain ⟨m', g1, g2⟩ := h4 L.length (by rw [h.vs]; exact ofK_tot L)
  have g3 : m' = (prLL L M.now M.floor t).length := by
    rw [prLL_is h.vs h.ris] at g1
    exact g1.det (ofK_tot _)
  have hk : k = L.length - (prLL L M.now M.floor t).length := by omega
  subst hk
  refine ⟨rfl, h3, fun w3 hk3 => ?_⟩
  have hr3 : Rc N w3 rp L M.now M.floor v := by
    have hz : ∀ k, v.ownBlock = some k → ¬ ρ k ≠ 0 := fun k e => by simp [h.zv k e]
    have h9 : Rc N w2 rp L M.now M.floor v := { h.ref with blk := h.ref.blk.kept h3 (by simp [h.zp]), row := h.ref.row.kept h3 hz }
    exact h9.same hk3
  have hs3 := Nat.le_trans h3.size hk3.size
  refine (rpr_any hr3 (Nat.le_trans h.hN hs3) t h.ris).mono ?_
  rintro e w4 ⟨v', rfl, q1, q2, q3⟩
  have hlr : rp < w.heap.size := h.ref.blk.lt
  have hzr : ρ2 rp = 0 := h2.zero hlr h.zp
  have hzv : ∀ j, v.ownBlock = some j → ρ2 j = 0 := fun j e => h2.zero (h.ref.row.lt e) (h.zv j e)
  refine ⟨rfl, ⟨ρ2, prM M t, _, v', ⟨(h1.same hk3).kept q3 (fun k e => by rw [e]; exact hzr), q1, prLL_is h.vs h.ris t, hzr, fun k e => ?_, Nat.le_trans (prLL_len _ _ _ _) h.len, Nat.le_trans h.hN (Nat.le_trans hs3 q3.size)⟩⟩, Kept.trans (Kept.trans h3 hk3 (fun _ _ e => e) (fun _ _ f => f.elim)) q3 (fun _ _ e => .inl e) (fun _ _ e => .inr e)⟩
  rcases q2 k e with q | q
  · exact hzv k q
  · exact h1.zero (Nat.le_trans hk3.size q)

section
variable {K N : Nat} {w : World} {p : Nat} {ρ : Nat → Nat} {M : Mst} {rp : Nat} {L : List Lv} {v : Value}

set_option maxRecDepth 100000 in
set_option maxHeartbeats 4000000 in
theorem cstep5 (h : T12 K N w p ρ M rp L v) (o : Oc) (ho : OcOk w (fun k => k < N) o) (hk : o.k = 5) (hK : K + 3 * o.cm.n ≤ 100000) : Calls Try.prog 11 #[.pointer (some ⟨p, 0, none⟩), .pointer (some ⟨rp, 0, none⟩), .agg (ocC o).toArray] w fun e w' => e = .returned (.bool true) ∧ S12 (K + 3 * o.cm.n) N w p rp w' := by
  obtain ⟨k, cm, b, nm, t⟩ := o
  obtain ⟨ct, ca, cn, cc, ws⟩ := cm
  obtain rfl : k = 5 := hk
  show Calls Try.prog 11 #[.pointer (some ⟨p, 0, none⟩), .pointer (some ⟨rp, 0, none⟩), .agg #[.int .i64 5, .int .i64 ct, .slice ca cn cc, .string b.tn, .string b.ar, .string nm.s, .int .i64 t]] w _
  obtain ⟨wA, hwA⟩ : ∃ W, W = w.alloc (.cells #[.int .i64 5, .int .i64 ct, .slice ca cn cc, .string b.tn, .string b.ar, .string nm.s, .int .i64 t] 38) := ⟨_, rfl⟩
  obtain ⟨xb, hxb⟩ : ∃ y, y = w.heap.size := ⟨_, rfl⟩
  have hka : Same w wA := by rw [hwA]; exact (Kept.refl _ w).alloc _
  have HB : Hid (OcBk wA xb ⟨5, ⟨ct, ca, cn, cc, ws⟩, b, nm, t⟩) := hid (by rw [hwA, hxb]; exact Blk.new w _ _)
  have HT : Hid (T12 K N wA p ρ M rp L v) := hid (h.same hka)
  have HO : Hid (OcOk wA (fun k => k < N) ⟨5, ⟨ct, ca, cn, cc, ws⟩, b, nm, t⟩) := hid (ho.kept hka (fun _ _ _ f => f))
  have HK : Hid (Same w wA ∧ xb = w.heap.size) := hid ⟨hka, hxb⟩
  have HW : Hid (∀ w', Same wA w' → Kept (fun k => N ≤ k) w w') := hid (fun w' hk => (hka.trans hk).mono (fun _ _ f => f.elim))
  obtain ⟨c0, c1, c2, c3, c4, c5, c6⟩ := HB.out.cells
  have HZ0 : Hid (ρ xb = 0) := hid (h.sto.zero (by omega))
  have HZ1 : Hid (¬ xb = rp) := hid (fun e => by have := h.ref.blk.lt; omega)
  clear h hka ho
  rw [hwA, hxb] at c0 c1 c2 c3 c4 c5 c6
  simp only at c0 c1 c2 c3 c4 c5 c6
  obtain ⟨kk, hkk⟩ : ∃ q, q = L.length - (prLL L M.now M.floor t).length := ⟨_, rfl⟩
  have HXR : Hid (¬ (ρ xb ≠ 0) ∧ ¬ xb = rp) := hid ⟨fun e => e HZ0.out, HZ1.out⟩
  have HP1 : Hid (∀ w', Same wA w' → Calls Try.prog 19 #[.pointer (some ⟨p, 0, none⟩), .int .i64 t] w' fun e w2 => e = .returned (.int .i64 (kk : Nat)) ∧ w2.cell? ⟨xb, 6, none⟩ = some (.int .i64 t) ∧ ∀ w3, Same w2 w3 → Calls Try.prog 30 #[.pointer (some ⟨rp, 0, none⟩), .int .i64 t] w3 fun e w4 => e = .returned (.int .i64 (kk : Nat)) ∧ w4.cell? ⟨xb, 6, none⟩ = some (.int .i64 t) ∧ (∃ ρ' M' L' v', T12 K N w4 p ρ' M' rp L' v') ∧ Kept (fun k => N ≤ k) w w4) := hid (fun w' hk => (prune12 (HT.out.same hk) t).mono (fun e w2 h9 => by
    obtain ⟨rfl, h2, h3⟩ := h9
    have hb := (HB.out.kept hk (fun f => f))
    refine ⟨by rw [hkk], (show OcBk w2 xb _ from Blk.kept hb h2 HXR.out.1).cells.2.2.2.2.2.2, fun w3 hk3 => (h3 w3 hk3).mono (fun e w4 h8 => ?_)⟩
    obtain ⟨rfl, q1, q2⟩ := h8
    refine ⟨by rw [hkk], (show OcBk w4 xb _ from Blk.kept hb q2 (fun e => e.elim HXR.out.1 HXR.out.2)).cells.2.2.2.2.2.2, q1, Kept.trans (HW.out w' hk) q2 (fun _ _ e => e) (fun k _ e => ?_)⟩
    rcases e with e | e
    · exact HT.out.sto.ge e
    · rw [e]; exact HT.out.ref.np))
  have be : ((kk : Int) == (kk : Int)) = true := beq_self_eq_true _
  clear hkk
  have HKK : Hid (Same wA wA) := hid (Kept.refl _ _)
  go_enter Try.func11, Try.ntmps11
  go_wp2_with fail
  rw [← hwA, ← hxb]
  clear hwA hxb c0 c1 c2 c3 c4 c5 c6
  obtain ⟨c0, c1, c2, c3, c4, c5, c6⟩ := (show OcBk wA xb _ from HB.out.kept (Kept.refl (fun _ => False) _) (fun f => f)).cells
  simp only at c0 c1 c2 c3 c4 c5 c6
  go_region_held3 (fun w' => w'.cell? ⟨xb, 6, none⟩ = some (.int .i64 t))
    (first
      | exact hcl
      | go_keep)
    (first
      | (go_at_call 19; refine (HP1.out _ (by first | exact HKK.out | exact HKK.out.drew)).mono ?_; rintro e wk ⟨rfl, hcl, hcon⟩; have HCN := hid hcon; clear hcon; have HKW : Hid (Same wk wk) := hid (Kept.refl _ _))
      | (go_at_call 30; refine (HCN.out _ (by first | exact HKW.out | exact HKW.out.drew)).mono ?_; rintro e wk ⟨rfl, hcl, hT9, hk9⟩; have HT9 := hid hT9; have HK9 := hid hk9; clear hT9 hk9))
  go_wp2_with fail
  go_ret
  obtain ⟨ρ', M', L', v', h9⟩ := HT9.out
  exact ⟨by first | rfl | simp, ρ', M', L', v', h9.more (by omega) hK, HK9.out⟩

end

end Go.Proofs.Ythignkloecfcbaa
