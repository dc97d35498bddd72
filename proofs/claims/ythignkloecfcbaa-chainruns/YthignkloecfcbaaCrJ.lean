/-
  Layer 12, the reference: Prune.
-/
import Derived.Test.YthignkloecfcbaaCrHa
import Derived.Deep.CutRange
namespace Go.Proofs.Ythignkloecfcbaa
open Go.RowKit Go.Maps Go.Sort

theorem nw_ex (L : List Lv) (b : Bx) (n : Nm) (t : Int) : ∃ r, NwR L b n t r := by
  have key : ∀ i, i ≤ L.length → ∃ r, NwI L b n t i r := by
    intro i
    induction i with
    | zero => exact fun _ => ⟨-1, .inl ⟨rfl, fun j hj => by omega⟩⟩
    | succ i ih =>
      intro hi
      obtain ⟨r, hr⟩ := ih (by omega)
      by_cases hk : isK b n (L[i]'(by omega)) = true ∧ (L[i]'(by omega)).v.t ≤ t
      · rcases id hr with ⟨h1, _⟩ | ⟨k, hkl, _, h1, _⟩
        · subst h1
          exact ⟨_, hr.first (by omega) hk.1 hk.2⟩
        · subst h1
          by_cases hb : L[k].v.t < (L[i]'(by omega)).v.t
          · exact ⟨_, hr.better (by omega) hkl hk.1 hk.2 hb⟩
          · exact ⟨_, hr.keep hkl (by omega) hb⟩
      · exact ⟨r, hr.skip (by omega) (fun e1 e2 => hk ⟨e1, e2⟩)⟩
  exact key L.length (Nat.le_refl _)

theorem NwR.det {L : List Lv} {b : Bx} {n : Nm} {t r r' : Int} (hr : RisV (ofK L b n)) (h : NwR L b n t r) (h' : NwR L b n t r') : r = r' := by
  rcases h with ⟨h1, h2⟩ | ⟨k, hk, _, h1, h2, h3, h4⟩ <;> rcases h' with ⟨g1, g2⟩ | ⟨k', hk', _, g1, g2, g3, g4⟩
  · omega
  · exact absurd g3 (h2 k' hk' hk' g2)
  · exact absurd h3 (g2 k hk hk h2)
  · have e1 := h4 k' hk' hk' g2 g3
    have e2 := g4 k hk hk h2 h3
    have := ofK_pair hr hk hk' h2 g2 (by omega)
    omega

theorem kpP_is {L : List Lv} {f r : Int} {i : Nat} (hi : i < L.length) (hr : RisV (ofK L L[i].b L[i].n)) (h : NwR L L[i].b L[i].n f r) : kpP L f L[i] = (decide (f < L[i].v.t) || (decide (r = (i : Int)) && L[i].v.there)) := by
  unfold kpP
  by_cases hf : f < L[i].v.t
  · rw [decide_eq_true hf, Bool.true_or, Bool.true_or]
  · rw [NwR.at_ hi hr h hf]

theorem filter_succ12 (L : List Lv) (P : Lv → Bool) (i : Nat) (hi : i < L.length) : (L.take (i + 1)).filter P = if P L[i] = true then (L.take i).filter P ++ [L[i]] else (L.take i).filter P := by
  rw [List.take_succ_eq_append_getElem hi, List.filter_append, List.filter_cons]
  split <;> simp

set_option maxRecDepth 100000 in
set_option maxHeartbeats 1000000 in
theorem rprune_old {N : Nat} {w : World} {p : Nat} {L : List Lv} {now floor : Int} {v : Value} (h : Rc N w p L now floor v) (t : Int) (ht : t ≤ floor) : Calls Try.prog 30 #[.pointer (some ⟨p, 0, none⟩), .int .i64 t] w fun e w' => e = .returned (.int .i64 0) ∧ Same w w' := by
  have b1 : decide (t ≤ floor) = true := decide_eq_true ht
  have p2 : w.cell? ⟨p, 2, none⟩ = some (.int .i64 floor) := h.blk.cell 2
  clear h ht
  go_enter Try.func30, Try.ntmps30
  go_wp2_with fail
  go_ret
  exact ⟨rfl, Kept.refl _ _⟩

/-- What Prune leaves. -/
def RPr (N : Nat) (w : World) (p : Nat) (L : List Lv) (now f : Int) (e : Ending) (w' : World) : Prop :=
  ∃ v', e = .returned (.int .i64 ((L.length - (L.filter (kpP L f)).length : Nat) : Int)) ∧ Rc N w' p (L.filter (kpP L f)) now f v' ∧ (∀ j, v'.ownBlock = some j → w.heap.size ≤ j) ∧ Kept (· = p) w w'

theorem wrap64_sub12 (a b : Nat) (ha : a ≤ 100000) (hb : b ≤ a) : wrap64 ((a : Int) - (b : Int)) = ((a - b : Nat) : Int) := by unfold wrap64; omega

set_option maxRecDepth 100000 in
set_option maxHeartbeats 8000000 in
theorem rprune_new {N : Nat} {w : World} {p : Nat} {L : List Lv} {now floor : Int} {v : Value} (h : Rc N w p L now floor v) (hN : N ≤ w.heap.size) (t : Int) (ht : floor < t) (hr : ∀ b n, RisV (ofK L b n)) : Calls Try.prog 30 #[.pointer (some ⟨p, 0, none⟩), .int .i64 t] w fun e w' => RPr N w p L now (min t now) e w' := by
  have bt : decide (t ≤ floor) = false := decide_eq_false (by omega)
  obtain ⟨f, hf⟩ : ∃ f, f = min t now := ⟨_, rfl⟩
  rw [← hf]
  have p1 : w.cell? ⟨p, 1, none⟩ = some (.int .i64 now) := h.blk.cell 1
  have p2 : w.cell? ⟨p, 2, none⟩ = some (.int .i64 floor) := h.blk.cell 2
  have zp := h.blk.frozen 2
  obtain ⟨wB, hwB⟩ : ∃ W, W = w.setCell ⟨p, 2, none⟩ (.int .i64 (min t now)) := ⟨_, rfl⟩
  have hkB : Kept (· = p) w wB := by rw [hwB]; exact (Kept.refl (· = p) w).setCell _ _ (.inl rfl)
  have hown : ¬ v.ownBlock = some p := h.row.off_blk h.blk (by decide)
  have hRB : Rc N wB p L now f v := ⟨by rw [hwB, ← hf]; have h9 := h.blk.set 2 (.int .i64 f); simpa using h9, h.row.kept hkB (fun k e e2 => hown (by rw [← e2]; exact e)), h.np, h.len⟩
  obtain ⟨a, c, hv, hgs, _⟩ := h.row.shape
  obtain ⟨l, hl⟩ : ∃ n, n = L.length := ⟨_, rfl⟩
  rw [← hl] at hv
  subst hv
  have HR : Hid (∀ w', Same wB w' → Rc N w' p L now f (.slice a l c)) := hid (fun w' hk => hRB.same hk)
  have HG : Hid ((L ≠ [] → ∃ g, a = some ⟨g, 0, none⟩) ∧ l = L.length ∧ l ≤ 100000 ∧ N ≤ w.heap.size ∧ (∀ b n, RisV (ofK L b n)) ∧ Kept (· = p) w wB ∧ w.heap.size = wB.heap.size) := hid ⟨hgs, hl, by rw [hl]; exact h.len, hN, hr, hkB, by rw [hwB]; simp⟩
  clear h hgs hl hr hkB hRB hown hN ht hf
  go_enter Try.func30, Try.ntmps30
  go_wp2_with fail
  rw [← hwB]
  clear hwB p1 p2 zp bt
  go_loopg [5, 6] l (fun q z5 z6 wr => ∃ (i : Nat) (a0 : Option Addr) (l0 c0 : Nat), l - i ≤ q ∧ i ≤ l ∧ z5 = .slice a0 l0 c0 ∧ z6 = .int .i64 (i : Nat) ∧ Hid (RowC wB.heap.size 93 6 lvE wr (.slice a0 l0 c0) ((L.take i).filter (kpP L f)) ∧ Same wB wr))
  case atStart => exact ⟨0, none, 0, 0, by omega, by omega, rfl, rfl, hid ⟨RowC.nil, Kept.refl _ _⟩⟩
  case round =>
    obtain ⟨i, a0, l0, c0, hq, hil, rfl, rfl, HS⟩ := hrel
    have p0 : wr.cell? ⟨p, 0, none⟩ = some (.slice a l c) := (HR.out wr HS.out.2).blk.cell 0
    by_cases hlt : i < l
    · have hli : decide (i < l) = true := decide_eq_true hlt
      have hli2 : (i : Int) < (l : Int) := by omega
      have hlt2 : i < L.length := by have := HG.out.2.1; omega
      obtain ⟨g, hg⟩ := HG.out.1 (fun e => by rw [e] at hlt2; simp at hlt2)
      subst hg
      obtain ⟨y, hy⟩ : ∃ y, y = L[i] := ⟨_, rfl⟩
      have hcw : ∀ q u, q < 6 → (lvE y)[q]? = some u → wr.cell? ⟨g, i * 6 + q, none⟩ = some u := fun q u hq e => by rw [RowC.cell lvE_ok (HR.out wr HS.out.2).row i q hlt2 hq, ← hy, e]
      have k0 := hcw 0 (.string y.b.tn) (by decide) rfl
      have k1 := hcw 1 (.string y.b.ar) (by decide) rfl
      have k2 := hcw 2 (.string y.n.s) (by decide) rfl
      have k3 := hcw 3 (.int .i64 y.v.t) (by decide) rfl
      have k4 := hcw 4 (.bool y.v.there) (by decide) rfl
      have k5 := hcw 5 (.string y.v.data) (by decide) rfl
      rw [Nat.add_zero] at k0
      obtain ⟨wG, hwG⟩ : ∃ W, W = wr.alloc (.cells #[.string y.b.tn, .string y.b.ar, .string y.n.s, .int .i64 y.v.t, .bool y.v.there, .string y.v.data] 93) := ⟨_, rfl⟩
      obtain ⟨vb, hvb⟩ : ∃ x, x = wr.heap.size := ⟨_, rfl⟩
      have hkG : Same wr wG := by rw [hwG]; exact (Kept.refl _ _).alloc _
      have hbg : Blk wG vb #[.string y.b.tn, .string y.b.ar, .string y.n.s, .int .i64 y.v.t, .bool y.v.there, .string y.v.data] 93 := by rw [hwG, hvb]; exact Blk.new wr _ _
      have HG2 : Hid (Blk wG vb #[.string y.b.tn, .string y.b.ar, .string y.n.s, .int .i64 y.v.t, .bool y.v.there, .string y.v.data] 93 ∧ Same wr wG) := hid ⟨hbg, hkG⟩
      have hiw : IntKind.i64.wrap ((i : Int) + 1) = ((i + 1 : Nat) : Int) := by have := HG.out.2.2.1; rw [IntKind.wrap_i64]; omega
      obtain ⟨r, hnr⟩ := nw_ex L y.b y.n f
      have HNW : Hid (∀ w', Same wB w' → Calls Try.prog 43 #[.pointer (some ⟨p, 0, none⟩), .agg #[.string y.b.tn, .string y.b.ar, .string y.n.s], .int .i64 f] w' fun e w2 => e = .returned (.int .i64 r) ∧ Same w' w2) := hid (fun w' hk => (rnewest_any (HR.out w' hk) y.b y.n f).mono (fun e w2 h9 => by
        obtain ⟨r', h1, h2, h3⟩ := h9
        rw [Int.max_self] at h2
        rw [h1, NwR.det (HG.out.2.2.2.2.1 y.b y.n) h2 hnr]
        exact ⟨rfl, h3⟩))
      have HKP : Hid (kpP L f y = (decide (f < y.v.t) || (decide (r = (i : Int)) && y.v.there))) := hid (by
        have h9 := kpP_is hlt2 (HG.out.2.2.2.2.1 _ _) (r := r) (f := f) (by rw [← hy]; exact hnr)
        rw [← hy] at h9
        exact h9)
      have HSU := hid (filter_succ12 L (kpP L f) i hlt2)
      rw [← hy] at HSU
      clear hcw hy hkG hbg hnr
      go_upto_region 9 with fail
      rw [← hwG, ← hvb]
      clear hwG hvb k0 k1 k2 k3 k4 k5 p0
      have HSG : Hid (Same wB wG) := hid (HS.out.2.trans HG2.out.2)
      have g0 := HG2.out.1.cell 0
      have g1 := HG2.out.1.cell 1
      have g2 := HG2.out.1.cell 2
      have g3 := HG2.out.1.cell 3
      have g4 := HG2.out.1.cell 4
      simp only [List.getElem?_toArray, List.getElem?_cons_zero, List.getElem?_cons_succ] at g0 g1 g2 g3 g4
      have p2 : wG.cell? ⟨p, 2, none⟩ = some (.int .i64 f) := (HR.out wG HSG.out).blk.cell 2
      go_cut [62] from 24 to 66 (fun z wx => z = .bool (kpP L f y) ∧ Hid (Same wG wx))
      case first =>
        by_cases hft : f < y.v.t
        · have i1 : decide (f < y.v.t) = true := decide_eq_true hft
          have HE : Hid (kpP L f y = true) := hid (by rw [HKP.out, i1, Bool.true_or])
          clear hft
          go_quiet (fail)
          go_wp2_with fail
          go_meet
          exact ⟨by rw [HE.out], hid ((Kept.refl _ _).drewN _)⟩
        · have i1 : decide (f < y.v.t) = false := decide_eq_false hft
          by_cases hri : r = (i : Int)
          · have i2 : (r == (i : Int)) = true := by rw [hri]; exact beq_self_eq_true _
            have HE : Hid (kpP L f y = y.v.there) := hid (by rw [HKP.out, i1, decide_eq_true hri, Bool.false_or, Bool.true_and])
            clear hft
            go_region_held3 (fun w' => w'.cell? ⟨vb, 0, none⟩ = some (.string y.b.tn) ∧ w'.cell? ⟨vb, 1, none⟩ = some (.string y.b.ar) ∧ w'.cell? ⟨vb, 2, none⟩ = some (.string y.n.s) ∧ w'.cell? ⟨vb, 3, none⟩ = some (.int .i64 y.v.t) ∧ w'.cell? ⟨vb, 4, none⟩ = some (.bool y.v.there) ∧ w'.cell? ⟨p, 2, none⟩ = some (.int .i64 f))
              (first
                | (go_split_ands; exact ⟨hkc.cell (by assumption) (fun f => f), hkc.cell (by assumption) (fun f => f), hkc.cell (by assumption) (fun f => f), hkc.cell (by assumption) (fun f => f), hkc.cell (by assumption) (fun f => f), hkc.cell (by assumption) (fun f => f)⟩)
                | go_keep)
              (first
                | (go_at_call 43; refine (HNW.out _ (by first | exact HSG.out | exact HSG.out.drew)).mono ?_; rintro e wk ⟨rfl, hkc⟩; have HKK : Hid (Same wG wk) := hid (by first | exact Kept.undrewC hkc | exact hkc)))
            all_goals go_wp2_with fail
            all_goals go_meet
            all_goals exact ⟨by rw [HE.out], HKK⟩
          · have i2 : (r == (i : Int)) = false := by simpa using hri
            have i3 : decide (r = (i : Int)) = false := decide_eq_false hri
            have HE : Hid (kpP L f y = false) := hid (by rw [HKP.out, i1, decide_eq_false hri, Bool.false_or, Bool.false_and])
            clear hft
            first
              | (go_region_held3 (fun w' => w'.cell? ⟨vb, 0, none⟩ = some (.string y.b.tn) ∧ w'.cell? ⟨vb, 1, none⟩ = some (.string y.b.ar) ∧ w'.cell? ⟨vb, 2, none⟩ = some (.string y.n.s) ∧ w'.cell? ⟨vb, 3, none⟩ = some (.int .i64 y.v.t) ∧ w'.cell? ⟨vb, 4, none⟩ = some (.bool y.v.there) ∧ w'.cell? ⟨p, 2, none⟩ = some (.int .i64 f))
                  (first
                    | (go_split_ands; exact ⟨hkc.cell (by assumption) (fun f => f), hkc.cell (by assumption) (fun f => f), hkc.cell (by assumption) (fun f => f), hkc.cell (by assumption) (fun f => f), hkc.cell (by assumption) (fun f => f), hkc.cell (by assumption) (fun f => f)⟩)
                    | go_keep)
                  (first
                    | (go_at_call 43; refine (HNW.out _ (by first | exact HSG.out | exact HSG.out.drew)).mono ?_; rintro e wk ⟨rfl, hkc⟩; have HKK : Hid (Same wG wk) := hid (by first | exact Kept.undrewC hkc | exact hkc))))
              | fail
            all_goals go_wp2_with fail
            all_goals go_meet
            all_goals exact ⟨by rw [HE.out], HKK⟩
      case rest =>
        obtain ⟨rfl, HX⟩ := hcut
        have HXB : Hid (Same wB wc ∧ RowC wB.heap.size 93 6 lvE wc (.slice a0 l0 c0) ((L.take i).filter (kpP L f))) := hid ⟨HSG.out.trans HX.out, HS.out.1.kept (HG2.out.2.trans HX.out) (fun _ _ f => f)⟩
        have HSZ : Hid (((L.take i).filter (kpP L f)).length ≤ 100000 ∧ wB.heap.size ≤ wc.heap.size) := hid ⟨Nat.le_trans (List.length_filter_le _ _) (by rw [List.length_take]; have := HG.out; omega), HXB.out.1.size⟩
        have hv9 := HG2.out.1.kept HX.out (fun f => f)
        have v0 := hv9.cell 0
        have v1 := hv9.cell 1
        have v2 := hv9.cell 2
        have v3 := hv9.cell 3
        have v4 := hv9.cell 4
        have v5 := hv9.cell 5
        simp only [List.getElem?_toArray, List.getElem?_cons_zero, List.getElem?_cons_succ] at v0 v1 v2 v3 v4 v5
        obtain ⟨kb, hkb⟩ : ∃ q, q = kpP L f y := ⟨_, rfl⟩
        rw [← hkb] at HSU ⊢
        clear hkb hv9 g0 g1 g2 g3 g4 p2
        cases kb with
        | false =>
          have HN : Hid ((L.take (i + 1)).filter (kpP L f) = (L.take i).filter (kpP L f)) := hid (by rw [HSU.out]; rfl)
          clear v0 v1 v2 v3 v4 v5
          go_wp2_with fail
          go_roundg (gk - 1)
          case measure => omega
          case rel => exact ⟨i + 1, a0, l0, c0, by omega, by omega, rfl, by go_num, hid ⟨by rw [HN.out]; exact HXB.out.2, HXB.out.1⟩⟩
        | true =>
          have HN : Hid ((L.take (i + 1)).filter (kpP L f) = (L.take i).filter (kpP L f) ++ [y]) := hid (by rw [HSU.out]; rfl)
          go_wp2_with (at_builtin; refine wpList_append_c _ lvE 6 lvE_ok (by decide) wB.heap.size 28 93 (.agg #[.string ⟨#[]⟩, .string ⟨#[]⟩, .string ⟨#[]⟩, .int .i64 0, .bool false, .string ⟨#[]⟩]) 80 Try.underlying28 Try.infoLv rfl (by decide) rfl (.tmp 63) (.tmp 65) rfl (.slice a0 l0 c0) ((L.take i).filter (kpP L f)) rfl (HXB.out.2.kept (show Same _ _ from (Kept.refl _ _).alloc _) (fun _ _ f => f)) ⟨wc.heap.size, 0, none⟩ 1 1 [y] rfl rfl (cellsAt_lv _ y) (by have := HSZ.out; simp only [List.length_singleton]; omega) (by have := HSZ.out; simp; omega) ?_)
          intro v9 w9 hr9 hg9
          obtain ⟨a9, c9, hv9, _⟩ := hr9.shape
          subst hv9
          have hk9 : Kept (fun k => (Value.slice a0 l0 c0).ownBlock = some k) wc w9 := Kept.trans (F := fun _ => False) ((Kept.refl _ wc).alloc _) ((Kept.refl _ _).grown hg9 (fun k e => .inl e)) (fun _ _ f => False.elim f) (fun _ _ e => e)
          have HF : Hid (RowC wB.heap.size 93 6 lvE w9 (.slice a9 ((L.take i).filter (kpP L f) ++ [y]).length c9) ((L.take (i + 1)).filter (kpP L f)) ∧ Same wB w9) := hid ⟨by rw [HN.out]; exact hr9, Kept.trans HXB.out.1 hk9 (fun _ _ f => f) (fun k hk e => by have := HXB.out.2.ge e; omega)⟩
          obtain ⟨Ln, hLn⟩ : ∃ x, x = ((L.take i).filter (kpP L f) ++ [y]).length := ⟨_, rfl⟩
          rw [← hLn] at HF ⊢
          clear hr9 hg9 hk9 hLn v0 v1 v2 v3 v4 v5
          go_wp2_with fail
          go_roundg (gk - 1)
          case measure => omega
          case rel => exact ⟨i + 1, a9, Ln, c9, by omega, by omega, rfl, by go_num, HF⟩
    · have hli : decide (i < l) = false := decide_eq_false hlt
      have HE : Hid ((L.take i).filter (kpP L f) = L.filter (kpP L f)) := hid (by rw [List.take_of_length_le (by have := HG.out.2.1; omega)])
      have hl0 : l0 = ((L.take i).filter (kpP L f)).length := by
        obtain ⟨a9, c9, hv9, _⟩ := HS.out.1.shape
        injection hv9
      have hle : l0 ≤ l := by rw [hl0, HG.out.2.1, HE.out]; exact List.length_filter_le _ _
      have HW9 : Hid (wrap64 ((l : Int) - (l0 : Int)) = ((L.length - (L.filter (kpP L f)).length : Nat) : Int)) := hid (by rw [wrap64_sub12 l l0 HG.out.2.2.1 hle, ← HE.out, ← hl0, HG.out.2.1])
      have HP : Hid (Rc N (wr.setCell ⟨p, 0, none⟩ (.slice a0 l0 c0)) p (L.filter (kpP L f)) now f (.slice a0 l0 c0) ∧ Kept (· = p) w (wr.setCell ⟨p, 0, none⟩ (.slice a0 l0 c0))) := hid (by
        have h9 := HR.out wr HS.out.2
        have hks : Kept (· = p) wr (wr.setCell ⟨p, 0, none⟩ (.slice a0 l0 c0)) := (Kept.refl (· = p) wr).setCell _ _ (.inl rfl)
        have hr9 := HS.out.1
        rw [HE.out] at hr9
        refine ⟨⟨?_, (hr9.base (by have := HG.out; omega)).kept hks (fun k e e2 => hr9.off_blk h9.blk (by decide) (by rw [← e2]; exact e)), h9.np, Nat.le_trans (List.length_filter_le _ _) h9.len⟩, Kept.trans (Kept.trans HG.out.2.2.2.2.2.1 HS.out.2 (fun _ _ e => e) (fun _ _ f => f.elim)) hks (fun _ _ e => e) (fun _ _ e => e)⟩
        have h8 := h9.blk.set 0 (.slice a0 l0 c0)
        simpa using h8)
      have HO : Hid (∀ j, (Value.slice a0 l0 c0).ownBlock = some j → w.heap.size ≤ j) := hid (fun j e => by have := HS.out.1.ge e; have := HG.out; omega)
      have z0 := (HR.out wr HS.out.2).blk.frozen 0
      clear hl0 hle
      go_wp2_with fail
      go_ret
      exact ⟨.slice a0 l0 c0, by first | exact congrArg (fun z => Ending.returned (Value.int .i64 z)) HW9.out | (rw [← HW9.out]; rfl), HP.out.1, HO.out, HP.out.2⟩

end Go.Proofs.Ythignkloecfcbaa
