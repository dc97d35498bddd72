/-
  Layer 12, the reference: Get and Last.
-/
import Derived.Test.YthignkloecfcbaaCrA
namespace Go.Proofs.Ythignkloecfcbaa
open Go.RowKit Go.Maps Go.Sort

theorem newV_max {l : List Ver} (h : RisV l) {t : Int} {v : Ver} (hm : v ∈ l) (ht : v.t ≤ t) (hx : ∀ x ∈ l, x.t ≤ t → x.t ≤ v.t) : newV l t = v := by
  rw [newV_filter h]
  obtain ⟨F, hF⟩ : ∃ F, F = l.filter (fun v => decide (v.t ≤ t)) := ⟨_, rfl⟩
  have hr : RisV F := by rw [hF]; exact filter_ris h _
  have hv : v ∈ F := by rw [hF]; exact List.mem_filter.2 ⟨hm, decide_eq_true ht⟩
  rw [← hF]
  have hne : F ≠ [] := fun e => by rw [e] at hv; cases hv
  rw [List.getLast?_eq_some_getLast hne]
  obtain ⟨z, hz⟩ : ∃ z, z = F.getLast hne := ⟨_, rfl⟩
  rw [← hz]
  show z = v
  have hzm : z ∈ l.filter (fun v => decide (v.t ≤ t)) := by rw [← hF, hz]; exact List.getLast_mem hne
  obtain ⟨hz1, hz2⟩ := List.mem_filter.1 hzm
  have h1 := hx z hz1 (of_decide_eq_true hz2)
  have hs : F = F.dropLast ++ [z] := by rw [hz]; exact (List.dropLast_concat_getLast hne).symm
  unfold RisV at hr
  rw [hs] at hv hr
  rcases List.mem_append.1 hv with e | e
  · have := (List.pairwise_append.1 hr).2.2 v e z (List.mem_singleton.2 rfl)
    omega
  · exact (List.mem_singleton.1 e).symm

theorem newV_none {l : List Ver} (h : RisV l) {t : Int} (hx : ∀ x ∈ l, ¬ x.t ≤ t) : newV l t = ver0 := by
  rw [newV_filter h, List.filter_eq_nil_iff.2 (fun x hm => by simpa using hx x hm)]
  rfl

theorem mem_ofK {L : List Lv} {b : Bx} {n : Nm} {v : Ver} : v ∈ ofK L b n ↔ ∃ j, ∃ hj : j < L.length, isK b n L[j] = true ∧ L[j].v = v := by
  unfold ofK
  rw [List.mem_map]
  constructor
  · rintro ⟨x, hx, rfl⟩
    obtain ⟨h1, h2⟩ := List.mem_filter.1 hx
    obtain ⟨j, hj, rfl⟩ := List.getElem_of_mem h1
    exact ⟨j, hj, h2, rfl⟩
  · rintro ⟨j, hj, h1, rfl⟩
    exact ⟨L[j], List.mem_filter.2 ⟨List.getElem_mem hj, h1⟩, rfl⟩

theorem NwR.new {L : List Lv} {b : Bx} {n : Nm} {t r : Int} (hr : RisV (ofK L b n)) (h : NwR L b n t r) : (r = -1 ∧ newV (ofK L b n) t = ver0) ∨ ∃ k, ∃ hk : k < L.length, r = (k : Int) ∧ newV (ofK L b n) t = L[k].v := by
  rcases h with ⟨h1, h2⟩ | ⟨k, hk, _, h1, h2, h3, h4⟩
  · refine .inl ⟨h1, newV_none hr (fun x hx => ?_)⟩
    obtain ⟨j, hj, e1, rfl⟩ := mem_ofK.1 hx
    exact h2 j hj hj e1
  · refine .inr ⟨k, hk, h1, newV_max hr (mem_ofK.2 ⟨k, hk, h2, rfl⟩) h3 (fun x hx e => ?_)⟩
    obtain ⟨j, hj, e1, rfl⟩ := mem_ofK.1 hx
    exact h4 j hj hj e1 e

set_option maxRecDepth 100000 in
set_option maxHeartbeats 2000000 in
theorem rget_any {N : Nat} {w : World} {p : Nat} {L : List Lv} {now floor : Int} {v : Value} (h : Rc N w p L now floor v) (b : Bx) (n : Nm) (t : Int) (hr : RisV (ofK L b n)) (hg : ∀ x ∈ ofK L b n, x.there = false → x.data = ⟨#[]⟩) : Calls Try.prog 27 #[.pointer (some ⟨p, 0, none⟩), .agg #[.string b.tn, .string b.ar, .string n.s], .int .i64 t] w fun e w' => e = .returned (getA (ofK L b n) (max t floor)) ∧ Same w w' := by
  obtain ⟨wA, hwA⟩ : ∃ W, W = w.alloc (.cells #[.string b.tn, .string b.ar, .string n.s] 36) := ⟨_, rfl⟩
  obtain ⟨xb, hxb⟩ : ∃ y, y = w.heap.size := ⟨_, rfl⟩
  have hka : Same w wA := by rw [hwA]; exact (Kept.refl _ w).alloc _
  have B1 : Blk wA xb #[.string b.tn, .string b.ar, .string n.s] 36 := by rw [hwA, hxb]; exact Blk.new w _ _
  obtain ⟨a, c, hv, hgs, _⟩ := h.row.shape
  obtain ⟨l, hl⟩ : ∃ n, n = L.length := ⟨_, rfl⟩
  rw [← hl] at hv
  subst hv
  have b0 := B1.cell 0
  have b1 := B1.cell 1
  have b2 := B1.cell 2
  have HR : Hid (∀ w', Same wA w' → Rc N w' p L now floor (.slice a l c)) := hid (fun w' hk => h.same (hka.trans hk))
  have HG : Hid ((L ≠ [] → ∃ g, a = some ⟨g, 0, none⟩) ∧ l = L.length ∧ RisV (ofK L b n) ∧ (∀ x ∈ ofK L b n, x.there = false → x.data = ⟨#[]⟩)) := hid ⟨hgs, hl, hr, hg⟩
  have HK : Hid (Same w wA) := hka
  obtain ⟨R, hR⟩ : ∃ R, R = newV (ofK L b n) (max t floor) := ⟨_, rfl⟩
  unfold getA
  rw [← hR]
  have HNW := rnewest_any (HR.out wA (Kept.refl _ _)) b n t
  rw [hwA] at b0 b1 b2
  clear h hka B1 hgs hl hr hg
  go_enter Try.func27, Try.ntmps27
  go_wp2_with fail
  rw [← hwA]
  clear hwA hxb b0 b1 b2
  refine HNW.mono ?_
  rintro e w1 ⟨r, rfl, hnw, hk1⟩
  have HK1 : Hid (Same w w1) := hid (HK.out.trans hk1)
  have hst := HR.out w1 hk1
  have p0 : w1.cell? ⟨p, 0, none⟩ = some (.slice a l c) := hst.blk.cell 0
  have hn9 := NwR.new HG.out.2.2.1 hnw
  rw [← hR] at hn9
  clear HNW hk1 hR
  rcases hn9 with ⟨hr1, e9⟩ | ⟨k, hk, hr1, e9⟩
  · subst hr1
    have HE : Hid (R = ver0) := e9
    have h2 : decide ((-1 : Int) < 0) = true := by decide
    clear hst e9 hnw
    go_wp2_with fail
    go_ret2
    exact ⟨by rw [HE.out]; rfl, HK1.out⟩
  · subst hr1
    have h2 : decide ((k : Int) < 0) = false := decide_eq_false (by omega)
    have hkb : (k : Int) < (l : Int) := by have := HG.out.2.1; omega
    obtain ⟨g, hg⟩ := HG.out.1 (fun e => by rw [e] at hk; simp at hk)
    subst hg
    have hgn : R.there = false → R.data = ⟨#[]⟩ := fun e => by
      rcases hnw with ⟨h1, _⟩ | ⟨k', hk', _, h1, h3, _, _⟩
      · omega
      · obtain rfl : k = k' := by omega
        rw [e9] at e ⊢
        exact HG.out.2.2.2 _ (mem_ofK.2 ⟨k, hk, h3, rfl⟩) e
    have k4 : w1.cell? ⟨g, k * 6 + 4, none⟩ = some (.bool R.there) := by rw [RowC.cell lvE_ok hst.row k 4 hk (by decide), e9]; rfl
    have k5 : w1.cell? ⟨g, k * 6 + 5, none⟩ = some (.string R.data) := by rw [RowC.cell lvE_ok hst.row k 5 hk (by decide), e9]; rfl
    clear hst e9 hnw hk
    obtain ⟨rt, rth, rd⟩ := R
    cases rth with
    | true =>
      clear hgn
      go_wp2_with fail
      go_ret2
      exact ⟨rfl, HK1.out⟩
    | false =>
      have HD : Hid (rd = ⟨#[]⟩) := hid (hgn rfl)
      clear hgn
      go_wp2_with fail
      go_ret2
      exact ⟨by have h9 := HD.out; subst h9; rfl, HK1.out⟩

/-- The latest time of the first versions of an entry. -/
def lasK (L : List Lv) (b : Bx) (n : Nm) : Int := ((L.filter (isK b n)).map (·.v.t)).foldl max 0

theorem lasK_succ (L : List Lv) (b : Bx) (n : Nm) (i : Nat) (hi : i < L.length) : lasK (L.take (i + 1)) b n = if isK b n L[i] = true then max (lasK (L.take i) b n) L[i].v.t else lasK (L.take i) b n := by
  unfold lasK
  rw [List.take_succ_eq_append_getElem hi, List.filter_append, List.map_append, List.foldl_append]
  by_cases e : isK b n L[i] = true
  · rw [if_pos e, List.filter_cons, if_pos e]; rfl
  · rw [if_neg e, List.filter_cons, if_neg e]; rfl

theorem foldl_max_le : ∀ (l : List Int) (a : Int), a ≤ l.foldl max a ∧ (∀ x ∈ l, x ≤ l.foldl max a) ∧ (l.foldl max a = a ∨ l.foldl max a ∈ l)
  | [], a => ⟨Int.le_refl _, fun _ h => (by cases h), .inl rfl⟩
  | x :: r, a => by
    obtain ⟨h1, h2, h3⟩ := foldl_max_le r (max a x)
    rw [List.foldl_cons]
    refine ⟨by omega, fun y hy => ?_, ?_⟩
    · rcases List.mem_cons.1 hy with rfl | e
      · omega
      · exact h2 y e
    · rcases h3 with e | e
      · rw [e]
        by_cases hx : x ≤ a
        · exact .inl (by omega)
        · exact .inr (by rw [show max a x = x by omega]; exact List.mem_cons_self)
      · exact .inr (List.mem_cons_of_mem _ e)

theorem lasK_is {L : List Lv} {b : Bx} {n : Nm} {now : Int} (hr : RisV (ofK L b n)) (hl : ∀ x ∈ ofK L b n, 1 ≤ x.t ∧ x.t ≤ now) : lasK L b n = (newV (ofK L b n) now).t := by
  obtain ⟨h1, h2, h3⟩ := foldl_max_le ((ofK L b n).map (·.t)) 0
  have e0 : lasK L b n = ((ofK L b n).map (·.t)).foldl max 0 := by unfold lasK ofK; rw [List.map_map]; rfl
  rw [e0]
  rcases h3 with e | e
  · rw [newV_none hr (fun x hx => by have := h2 x.t (List.mem_map.2 ⟨x, hx, rfl⟩); have := hl x hx; omega), e]; rfl
  · obtain ⟨x, hx, e1⟩ := List.mem_map.1 e
    rw [newV_max hr hx (hl x hx).2 (fun y hy _ => by have := h2 y.t (List.mem_map.2 ⟨y, hy, rfl⟩); rw [← e1] at this; exact this), e1]

set_option maxRecDepth 100000 in
set_option maxHeartbeats 4000000 in
theorem rlast_any {N : Nat} {w : World} {p : Nat} {L : List Lv} {now floor : Int} {v : Value} (h : Rc N w p L now floor v) (b : Bx) (n : Nm) : Calls Try.prog 29 #[.pointer (some ⟨p, 0, none⟩), .agg #[.string b.tn, .string b.ar, .string n.s]] w fun e w' => e = .returned (.int .i64 (lasK L b n)) ∧ Same w w' := by
  obtain ⟨wA, hwA⟩ : ∃ W, W = w.alloc (.cells #[.string b.tn, .string b.ar, .string n.s] 36) := ⟨_, rfl⟩
  obtain ⟨xb, hxb⟩ : ∃ y, y = w.heap.size := ⟨_, rfl⟩
  have hka : Same w wA := by rw [hwA]; exact (Kept.refl _ w).alloc _
  have B1 : Blk wA xb #[.string b.tn, .string b.ar, .string n.s] 36 := by rw [hwA, hxb]; exact Blk.new w _ _
  obtain ⟨a, c, hv, hg, _⟩ := h.row.shape
  obtain ⟨l, hl⟩ : ∃ n, n = L.length := ⟨_, rfl⟩
  rw [← hl] at hv
  subst hv
  have HC : Hid (∀ w', Same wA w' → w'.cell? ⟨xb, 0, none⟩ = some (.string b.tn) ∧ w'.cell? ⟨xb, 1, none⟩ = some (.string b.ar) ∧ w'.cell? ⟨xb, 2, none⟩ = some (.string n.s) ∧ w'.cell? ⟨p, 0, none⟩ = some (.slice a l c)) := hid (fun w' hk => by
    have h1 := B1.kept hk (fun f => f)
    have h2 := (h.same (hka.trans hk)).blk
    exact ⟨h1.cell 0, h1.cell 1, h1.cell 2, h2.cell 0⟩)
  have HR : Hid (∀ w', Same wA w' → RowC N 93 6 lvE w' (.slice a l c) L) := hid (fun w' hk => (h.same (hka.trans hk)).row)
  have HG : Hid ((L ≠ [] → ∃ g, a = some ⟨g, 0, none⟩) ∧ l = L.length ∧ l ≤ 100000) := hid ⟨hg, hl, by rw [hl]; exact h.len⟩
  have HK : Hid (Same w wA) := hka
  clear h hka B1 hg hl
  go_enter Try.func29, Try.ntmps29
  go_wp2_with fail
  rw [← hwA, ← hxb]
  clear hwA hxb
  go_loopg [5, 6] l (fun q z5 z6 wr => ∃ (i : Nat) (r : Int), l - i ≤ q ∧ i ≤ l ∧ z5 = .int .i64 r ∧ z6 = .int .i64 (i : Nat) ∧ Hid (r = lasK (L.take i) b n) ∧ Hid (Same wA wr))
  case atStart => exact ⟨0, 0, by omega, by omega, rfl, rfl, hid rfl, hid (Kept.refl _ _)⟩
  case round =>
    obtain ⟨i, r, hq, hil, rfl, rfl, HF, HS⟩ := hrel
    obtain ⟨b0, b1, b2, p0⟩ := HC.out wr HS.out
    by_cases hlt : i < l
    · have hli : decide (i < l) = true := decide_eq_true hlt
      have hli2 : (i : Int) < (l : Int) := by omega
      have hlt2 : i < L.length := by have := HG.out.2.1; omega
      obtain ⟨g, hg⟩ := HG.out.1 (fun e => by rw [e] at hlt2; simp at hlt2)
      subst hg
      obtain ⟨y, hy⟩ : ∃ y, y = L[i] := ⟨_, rfl⟩
      have hcw : ∀ w', Same wA w' → ∀ q u, q < 6 → (lvE y)[q]? = some u → w'.cell? ⟨g, i * 6 + q, none⟩ = some u := fun w' hk q u hq e => by rw [RowC.cell lvE_ok (HR.out w' hk) i q hlt2 hq, ← hy, e]
      have k0 := hcw wr HS.out 0 (.string y.b.tn) (by decide) rfl
      have k1 := hcw wr HS.out 1 (.string y.b.ar) (by decide) rfl
      have k2 := hcw wr HS.out 2 (.string y.n.s) (by decide) rfl
      have k3 := hcw wr HS.out 3 (.int .i64 y.v.t) (by decide) rfl
      rw [Nat.add_zero] at k0
      have hiw : IntKind.i64.wrap ((i : Int) + 1) = ((i + 1 : Nat) : Int) := by have := HG.out.2.2; rw [IntKind.wrap_i64]; omega
      have s1 := streq12 y.b.tn b.tn
      have s2 := streq12 y.b.ar b.ar
      have s3 := streq12 y.n.s n.s
      have HSU := hid (lasK_succ L b n i hlt2)
      rw [← hy] at HSU
      clear hcw hy
      by_cases hm : y.b.tn = b.tn ∧ y.b.ar = b.ar ∧ y.n.s = n.s
      · obtain ⟨m1, m2, m3⟩ := hm
        have HN : Hid (max r y.v.t = lasK (L.take (i + 1)) b n) := hid (by rw [HSU.out, if_pos (show isK b n y = true from decide_eq_true ⟨Bx.ext' m1 m2, Nm.ext' m3⟩), HF.out])
        rw [decide_eq_true m1] at s1
        rw [decide_eq_true m2] at s2
        rw [decide_eq_true m3] at s3
        clear m1 m2 m3 HSU
        go_wp2_with fail
        go_quiet (fail)
        all_goals go_wp2_with fail
        all_goals go_roundg (gk - 1)
        all_goals first
          | (case measure => omega)
          | skip
        all_goals exact ⟨i + 1, max r y.v.t, by omega, by omega, by go_num, by go_num, HN, hid (HS.out.drewN _)⟩
      · have HN : Hid (r = lasK (L.take (i + 1)) b n) := hid (by rw [HSU.out, if_neg (show ¬ isK b n y = true from fun e => absurd (of_decide_eq_true e) (fun e2 => hm (by rw [e2.1, e2.2]; exact ⟨rfl, rfl, rfl⟩))), HF.out])
        obtain ⟨d1, e1⟩ : ∃ q, q = decide (y.b.tn = b.tn) := ⟨_, rfl⟩
        obtain ⟨d2, e2⟩ : ∃ q, q = decide (y.b.ar = b.ar) := ⟨_, rfl⟩
        obtain ⟨d3, e3⟩ : ∃ q, q = decide (y.n.s = n.s) := ⟨_, rfl⟩
        rw [← e1] at s1
        rw [← e2] at s2
        rw [← e3] at s3
        have hd : ¬ (d1 = true ∧ d2 = true ∧ d3 = true) := fun e => hm ⟨of_decide_eq_true (e1.symm.trans e.1), of_decide_eq_true (e2.symm.trans e.2.1), of_decide_eq_true (e3.symm.trans e.2.2)⟩
        have hf := (four12 d1 d2 d3).resolve_right hd
        clear e1 e2 e3 hm hd HF HSU
        rcases hf with rfl | ⟨rfl, rfl⟩ | ⟨rfl, rfl, rfl⟩
        all_goals
          go_wp2_with fail
          go_quiet (fail)
          all_goals go_wp2_with fail
          all_goals go_roundg (gk - 1)
          all_goals first
            | (case measure => omega)
            | skip
          all_goals exact ⟨i + 1, r, by omega, by omega, by go_num, by go_num, HN, hid (HS.out.drewN _)⟩
    · have hli : decide (i < l) = false := decide_eq_false hlt
      have HE : Hid (r = lasK L b n) := hid (by rw [HF.out, List.take_of_length_le (by have := HG.out.2.1; omega)])
      clear HF
      go_wp2_with fail
      go_ret
      exact ⟨by have h9 := HE.out; subst h9; rfl, HK.out.trans HS.out⟩

end Go.Proofs.Ythignkloecfcbaa
