/-
  Layer 12, the reference: a list of versions; the newest one.
-/
import Derived.Test.YthignkloecfcbaaChTx
import Derived.Test.YthignkloecfcbaaChSm
namespace Go.Proofs.Ythignkloecfcbaa
open Go.RowKit Go.Maps Go.Sort

/-- A version of an entry. -/
structure Lv where
  b : Bx
  n : Nm
  v : Ver

instance : Inhabited Lv := ⟨⟨default, default, ver0⟩⟩

def lvE (x : Lv) : List Value := [.string x.b.tn, .string x.b.ar, .string x.n.s, .int .i64 x.v.t, .bool x.v.there, .string x.v.data]
theorem lvE_ok : EncOk lvE 6 := ⟨fun _ => rfl, fun x u hu => by simp [lvE] at hu; rcases hu with rfl | rfl | rfl | rfl | rfl | rfl <;> rfl, by decide⟩

/-- Is it one of this entry? -/
def isK (b : Bx) (n : Nm) (x : Lv) : Bool := decide (x.b = b ∧ x.n = n)

/-- The versions of an entry. -/
def ofK (L : List Lv) (b : Bx) (n : Nm) : List Ver := (L.filter (isK b n)).map (·.v)

/-- The reference's store in memory. -/
structure Rc (N : Nat) (w : World) (p : Nat) (L : List Lv) (now floor : Int) (v : Value) : Prop where
  blk : Blk w p #[v, .int .i64 now, .int .i64 floor] 30
  row : RowC N 93 6 lvE w v L
  np : N ≤ p
  len : L.length ≤ 100000

theorem Rc.same {N : Nat} {w w' : World} {p : Nat} {L : List Lv} {now floor : Int} {v : Value} (h : Rc N w p L now floor v) (hk : Same w w') : Rc N w' p L now floor v :=
  { h with blk := h.blk.kept hk (fun f => f), row := h.row.kept hk (fun _ _ f => f) }

/-- What newest tells of the first versions. -/
def NwI (L : List Lv) (b : Bx) (n : Nm) (t : Int) (i : Nat) (r : Int) : Prop :=
  (r = -1 ∧ ∀ j (_ : j < i) (hj : j < L.length), isK b n L[j] = true → ¬ L[j].v.t ≤ t) ∨
  (∃ k, ∃ hk : k < L.length, k < i ∧ r = (k : Int) ∧ isK b n L[k] = true ∧ L[k].v.t ≤ t ∧ ∀ j (_ : j < i) (hj : j < L.length), isK b n L[j] = true → L[j].v.t ≤ t → L[j].v.t ≤ L[k].v.t)

def NwR (L : List Lv) (b : Bx) (n : Nm) (t : Int) (r : Int) : Prop := NwI L b n t L.length r

theorem four12 (q1 q2 q3 : Bool) : (q1 = false ∨ (q1 = true ∧ q2 = false) ∨ (q1 = true ∧ q2 = true ∧ q3 = false)) ∨ (q1 = true ∧ q2 = true ∧ q3 = true) := by cases q1 <;> cases q2 <;> cases q3 <;> simp

theorem NwI.skip {L : List Lv} {b : Bx} {n : Nm} {t : Int} {i : Nat} {r : Int} (h : NwI L b n t i r) (hi : i < L.length) (hn : isK b n L[i] = true → ¬ L[i].v.t ≤ t) : NwI L b n t (i + 1) r := by
  rcases h with ⟨h1, h2⟩ | ⟨k, hk, h0, h1, h2, h3, h4⟩
  · refine .inl ⟨h1, fun j hj hj2 => ?_⟩
    rcases Nat.lt_or_ge j i with e | e
    · exact h2 j e hj2
    · obtain rfl : j = i := by omega
      exact hn
  · refine .inr ⟨k, hk, by omega, h1, h2, h3, fun j hj hj2 e1 e2 => ?_⟩
    rcases Nat.lt_or_ge j i with e | e
    · exact h4 j e hj2 e1 e2
    · obtain rfl : j = i := by omega
      exact absurd e2 (hn e1)

theorem NwI.first {L : List Lv} {b : Bx} {n : Nm} {t : Int} {i : Nat} (h : NwI L b n t i (-1)) (hi : i < L.length) (h1 : isK b n L[i] = true) (h2 : L[i].v.t ≤ t) : NwI L b n t (i + 1) (i : Int) := by
  rcases h with ⟨_, h3⟩ | ⟨k, _, _, e, _⟩
  · refine .inr ⟨i, hi, by omega, rfl, h1, h2, fun j hj hj2 e1 e2 => ?_⟩
    rcases Nat.lt_or_ge j i with e | e
    · exact absurd e2 (h3 j e hj2 e1)
    · obtain rfl : j = i := by omega
      exact Int.le_refl _
  · omega

theorem NwI.better {L : List Lv} {b : Bx} {n : Nm} {t : Int} {i k : Nat} (h : NwI L b n t i (k : Int)) (hi : i < L.length) (hk : k < L.length) (h1 : isK b n L[i] = true) (h2 : L[i].v.t ≤ t) (hb : L[k].v.t < L[i].v.t) : NwI L b n t (i + 1) (i : Int) := by
  rcases h with ⟨e, _⟩ | ⟨k', hk', h0, e, g2, g3, g4⟩
  · omega
  · obtain rfl : k = k' := by omega
    refine .inr ⟨i, hi, by omega, rfl, h1, h2, fun j hj hj2 e1 e2 => ?_⟩
    rcases Nat.lt_or_ge j i with e | e
    · have := g4 j e hj2 e1 e2; omega
    · obtain rfl : j = i := by omega
      exact Int.le_refl _

theorem NwI.keep {L : List Lv} {b : Bx} {n : Nm} {t : Int} {i k : Nat} (h : NwI L b n t i (k : Int)) (hk : k < L.length) (hi : i < L.length) (hb : ¬ L[k].v.t < L[i].v.t) : NwI L b n t (i + 1) (k : Int) := by
  rcases h with ⟨e, _⟩ | ⟨k', hk', h0, e, g2, g3, g4⟩
  · omega
  · obtain rfl : k = k' := by omega
    refine .inr ⟨k, hk, by omega, rfl, g2, g3, fun j hj hj2 e1 e2 => ?_⟩
    rcases Nat.lt_or_ge j i with e | e
    · exact g4 j e hj2 e1 e2
    · obtain rfl : j = i := by omega
      omega

set_option maxRecDepth 100000 in
set_option maxHeartbeats 4000000 in
theorem rnewest_any {N : Nat} {w : World} {p : Nat} {L : List Lv} {now floor : Int} {v : Value} (h : Rc N w p L now floor v) (b : Bx) (n : Nm) (t : Int) : Calls Try.prog 43 #[.pointer (some ⟨p, 0, none⟩), .agg #[.string b.tn, .string b.ar, .string n.s], .int .i64 t] w fun e w' => ∃ r, e = .returned (.int .i64 r) ∧ NwR L b n (max t floor) r ∧ Same w w' := by
  obtain ⟨wA, hwA⟩ : ∃ W, W = w.alloc (.cells #[.string b.tn, .string b.ar, .string n.s] 36) := ⟨_, rfl⟩
  obtain ⟨xb, hxb⟩ : ∃ y, y = w.heap.size := ⟨_, rfl⟩
  have hka : Same w wA := by rw [hwA]; exact (Kept.refl _ w).alloc _
  have B1 : Blk wA xb #[.string b.tn, .string b.ar, .string n.s] 36 := by rw [hwA, hxb]; exact Blk.new w _ _
  obtain ⟨a, c, hv, hg, _⟩ := h.row.shape
  obtain ⟨l, hl⟩ : ∃ n, n = L.length := ⟨_, rfl⟩
  rw [← hl] at hv
  subst hv
  obtain ⟨T, hT⟩ : ∃ T, T = max t floor := ⟨_, rfl⟩
  have HC : Hid (∀ w', Same wA w' → w'.cell? ⟨xb, 0, none⟩ = some (.string b.tn) ∧ w'.cell? ⟨xb, 1, none⟩ = some (.string b.ar) ∧ w'.cell? ⟨xb, 2, none⟩ = some (.string n.s) ∧ w'.cell? ⟨p, 0, none⟩ = some (.slice a l c) ∧ w'.cell? ⟨p, 2, none⟩ = some (.int .i64 floor)) := hid (fun w' hk => by
    have h1 := B1.kept hk (fun f => f)
    have h2 := (h.same (hka.trans hk)).blk
    exact ⟨h1.cell 0, h1.cell 1, h1.cell 2, h2.cell 0, h2.cell 2⟩)
  have HR : Hid (∀ w', Same wA w' → RowC N 93 6 lvE w' (.slice a l c) L) := hid (fun w' hk => (h.same (hka.trans hk)).row)
  have HG : Hid ((L ≠ [] → ∃ g, a = some ⟨g, 0, none⟩) ∧ l = L.length ∧ l ≤ 100000) := hid ⟨hg, hl, by rw [hl]; exact h.len⟩
  have HK : Hid (Same w wA) := hka
  have HTT : Hid (T = max t floor) := hT
  obtain ⟨c0, c1, c2, p0, p2⟩ := HC.out wA (Kept.refl _ _)
  rw [hwA] at p0 p2
  clear h hka B1 hg hl c0 c1 c2
  go_enter Try.func43, Try.ntmps43
  go_wp2_with fail
  rw [← hwA, ← hxb, ← hT]
  clear hwA hxb p0 p2 hT
  go_loopg [7, 8] l (fun q z7 z8 wr => ∃ (i : Nat) (r : Int), l - i ≤ q ∧ i ≤ l ∧ z7 = .int .i64 r ∧ z8 = .int .i64 (i : Nat) ∧ Hid (NwI L b n T i r) ∧ Hid (Same wA wr))
  case atStart => exact ⟨0, -1, by omega, by omega, rfl, rfl, hid (.inl ⟨rfl, fun j hj => by omega⟩), hid (Kept.refl _ _)⟩
  case round =>
    obtain ⟨i, r, hq, hil, rfl, rfl, HF, HS⟩ := hrel
    obtain ⟨b0, b1, b2, p0, p2⟩ := HC.out wr HS.out
    by_cases hlt : i < l
    · have hli : decide (i < l) = true := decide_eq_true hlt
      have hli2 : (i : Int) < (l : Int) := by omega
      have hlt2 : i < L.length := by have := HG.out.2.1; omega
      obtain ⟨g, hg⟩ := HG.out.1 (fun e => by rw [e] at hlt2; simp at hlt2)
      subst hg
      obtain ⟨y, hy⟩ : ∃ y, y = L[i] := ⟨_, rfl⟩
      have hcw : ∀ q u, q < 6 → (lvE y)[q]? = some u → wr.cell? ⟨g, i * 6 + q, none⟩ = some u := fun q u hq e => by rw [RowC.cell lvE_ok (HR.out wr HS.out) i q hlt2 hq, ← hy, e]
      have k0 := hcw 0 (.string y.b.tn) (by decide) rfl
      have k1 := hcw 1 (.string y.b.ar) (by decide) rfl
      have k2 := hcw 2 (.string y.n.s) (by decide) rfl
      have k3 := hcw 3 (.int .i64 y.v.t) (by decide) rfl
      rw [Nat.add_zero] at k0
      have hiw : IntKind.i64.wrap ((i : Int) + 1) = ((i + 1 : Nat) : Int) := by have := HG.out.2.2; rw [IntKind.wrap_i64]; omega
      have s1 := streq12 y.b.tn b.tn
      have s2 := streq12 y.b.ar b.ar
      have s3 := streq12 y.n.s n.s
      have HY : Hid (y = L[i]) := hy
      clear hcw hy
      by_cases hm : y.b.tn = b.tn ∧ y.b.ar = b.ar ∧ y.n.s = n.s
      · obtain ⟨m1, m2, m3⟩ := hm
        have HM : Hid (isK b n L[i] = true) := hid (by rw [← HY.out]; exact decide_eq_true ⟨Bx.ext' m1 m2, Nm.ext' m3⟩)
        rw [decide_eq_true m1] at s1
        rw [decide_eq_true m2] at s2
        rw [decide_eq_true m3] at s3
        clear m1 m2 m3
        by_cases ht : y.v.t ≤ T
        · have h1 : decide (y.v.t ≤ T) = true := decide_eq_true ht
          have HTL : Hid (L[i].v.t ≤ T) := hid (by rw [← HY.out]; exact ht)
          clear ht
          rcases HF.out with ⟨hr, _⟩ | ⟨k, hk, hki, hr, _⟩
          · subst hr
            have HN : Hid (NwI L b n T (i + 1) (i : Int)) := hid (HF.out.first hlt2 HM.out HTL.out)
            have h2 : decide ((-1 : Int) < 0) = true := by decide
            clear HF
            go_wp2_with fail
            go_quiet (fail)
            all_goals go_wp2_with fail
            all_goals go_roundg (gk - 1)
            all_goals first
              | (case measure => omega)
              | skip
            all_goals exact ⟨i + 1, _, by omega, by omega, by go_num, by go_num, HN, hid (HS.out.drewN _)⟩
          · subst hr
            obtain ⟨z, hz⟩ : ∃ z, z = L[k] := ⟨_, rfl⟩
            have j3 : wr.cell? ⟨g, k * 6 + 3, none⟩ = some (.int .i64 z.v.t) := by rw [RowC.cell lvE_ok (HR.out wr HS.out) k 3 hk (by decide), ← hz]; rfl
            have h2 : decide ((k : Int) < 0) = false := decide_eq_false (by omega)
            have hkb : (k : Int) < (l : Int) := by omega
            by_cases hb : z.v.t < y.v.t
            · have h3 : decide (z.v.t < y.v.t) = true := decide_eq_true hb
              have HN : Hid (NwI L b n T (i + 1) (i : Int)) := hid (HF.out.better hlt2 hk HM.out HTL.out (by rw [← HY.out, ← hz]; exact hb))
              clear HF hb hz hki
              go_wp2_with fail
              go_quiet (fail)
              all_goals go_wp2_with fail
              all_goals go_roundg (gk - 1)
              all_goals first
                | (case measure => omega)
                | skip
              all_goals exact ⟨i + 1, _, by omega, by omega, by go_num, by go_num, HN, hid (HS.out.drewN _)⟩
            · have h3 : decide (z.v.t < y.v.t) = false := decide_eq_false hb
              have HN : Hid (NwI L b n T (i + 1) (k : Int)) := hid (HF.out.keep hk hlt2 (by rw [← HY.out, ← hz]; exact hb))
              clear HF hb hz hki
              go_wp2_with fail
              go_quiet (fail)
              all_goals go_wp2_with fail
              all_goals go_roundg (gk - 1)
              all_goals first
                | (case measure => omega)
                | skip
              all_goals exact ⟨i + 1, _, by omega, by omega, by go_num, by go_num, HN, hid (HS.out.drewN _)⟩
        · have h1 : decide (y.v.t ≤ T) = false := decide_eq_false ht
          have HN : Hid (NwI L b n T (i + 1) r) := hid (HF.out.skip hlt2 (fun _ => by rw [← HY.out]; exact ht))
          clear HF ht
          go_wp2_with fail
          go_quiet (fail)
          all_goals go_wp2_with fail
          all_goals go_roundg (gk - 1)
          all_goals first
            | (case measure => omega)
            | skip
          all_goals exact ⟨i + 1, r, by omega, by omega, by go_num, by go_num, HN, hid (HS.out.drewN _)⟩
      · have HN : Hid (NwI L b n T (i + 1) r) := hid (HF.out.skip hlt2 (fun e => absurd (of_decide_eq_true e) (fun e2 => hm (by rw [HY.out, e2.1, e2.2]; exact ⟨rfl, rfl, rfl⟩))))
        obtain ⟨d1, e1⟩ : ∃ q, q = decide (y.b.tn = b.tn) := ⟨_, rfl⟩
        obtain ⟨d2, e2⟩ : ∃ q, q = decide (y.b.ar = b.ar) := ⟨_, rfl⟩
        obtain ⟨d3, e3⟩ : ∃ q, q = decide (y.n.s = n.s) := ⟨_, rfl⟩
        rw [← e1] at s1
        rw [← e2] at s2
        rw [← e3] at s3
        have hd : ¬ (d1 = true ∧ d2 = true ∧ d3 = true) := fun e => hm ⟨of_decide_eq_true (e1.symm.trans e.1), of_decide_eq_true (e2.symm.trans e.2.1), of_decide_eq_true (e3.symm.trans e.2.2)⟩
        have hf := (four12 d1 d2 d3).resolve_right hd
        clear e1 e2 e3 hm hd HF
        rcases hf with rfl | ⟨rfl, rfl⟩ | ⟨rfl, rfl, rfl⟩
        all_goals
          go_wp2_with fail
          go_quiet (fail)
          all_goals go_wp2_with fail
          all_goals go_roundg (gk - 1)
          all_goals first
            | (case measure => omega)
            | skip
          all_goals exact ⟨i + 1, r, by omega, by omega, by go_num, by go_num, HN, hid (HS.out.drewN _)⟩
    · have hli : decide (i < l) = false := decide_eq_false hlt
      obtain rfl : i = l := by omega
      go_wp2_with fail
      go_ret
      exact ⟨r, rfl, by unfold NwR; rw [← HG.out.2.1, ← HTT.out]; exact HF.out, HK.out.trans HS.out⟩

end Go.Proofs.Ythignkloecfcbaa
