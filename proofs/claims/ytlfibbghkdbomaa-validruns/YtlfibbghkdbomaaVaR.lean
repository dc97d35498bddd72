/-
  Layer 13: the reference's set; its order of keys, what is noted.
-/
import Derived.Test.YtlfibbghkdbomaaVaT
import Derived.Test.YtlfibbghkdbomaaVaBox
namespace Go.Proofs.Ytlfibbghkdbomaa
open Go.RowKit Go.Maps Go.Sort Go.Shelf

theorem bless_lt : ∀ a b : List UInt8, Op.bytesLess a b = true ↔ a < b
  | [], [] => by simp [Op.bytesLess]
  | [], b :: bs => by simp [Op.bytesLess]
  | a :: r, [] => by simp [Op.bytesLess]
  | a :: r, b :: bs => by
    rw [Op.bytesLess, List.cons_lt_cons_iff]
    simp [bless_lt r bs]

def bl13 (s t : ByteArray) : Bool := Op.bytesLess s.toList t.toList

theorem bl13_lt (s t : ByteArray) : bl13 s t = true ↔ s.data.toList < t.data.toList := by
  unfold bl13
  rw [bless_lt, Lib.toList_data, Lib.toList_data]

/-- Does a key stand ahead of another one? -/
def befK (a b : Ke) : Bool := if a.1.tn = b.1.tn then (if a.1.ar = b.1.ar then bl13 a.2.s b.2.s else bl13 a.1.ar b.1.ar) else bl13 a.1.tn b.1.tn

theorem befK_iff (a b : Ke) : befK a b = true ↔ ltK a b := by
  unfold befK ltK
  have e1 : kT a = kT b ↔ a.1.tn = b.1.tn := ⟨fun h => bytes_inj h, fun h => by unfold kT; rw [h]⟩
  have e2 : kA a = kA b ↔ a.1.ar = b.1.ar := ⟨fun h => bytes_inj h, fun h => by unfold kA; rw [h]⟩
  by_cases h1 : a.1.tn = b.1.tn
  · rw [if_pos h1]
    have h1' := e1.2 h1
    by_cases h2 : a.1.ar = b.1.ar
    · rw [if_pos h2, bl13_lt]
      have h2' := e2.2 h2
      constructor
      · intro e; exact .inr ⟨h1', .inr ⟨h2', e⟩⟩
      · rintro (e | ⟨_, e | ⟨_, e⟩⟩)
        · rw [h1'] at e; exact absurd e (List.lt_irrefl _)
        · rw [h2'] at e; exact absurd e (List.lt_irrefl _)
        · exact e
    · rw [if_neg h2, bl13_lt]
      constructor
      · intro e; exact .inr ⟨h1', .inl e⟩
      · rintro (e | ⟨_, e | ⟨e, _⟩⟩)
        · rw [h1'] at e; exact absurd e (List.lt_irrefl _)
        · exact e
        · exact absurd (e2.1 e) h2
  · rw [if_neg h1, bl13_lt]
    constructor
    · intro e; exact .inl e
    · rintro (e | ⟨e, _⟩)
      · exact e
      · exact absurd (e1.1 e) h1

set_option maxRecDepth 100000 in
set_option maxHeartbeats 1000000 in
theorem before_any (w : World) (x y : Ke) : Calls Try.prog 36 #[.agg #[.string x.1.tn, .string x.1.ar, .string x.2.s], .agg #[.string y.1.tn, .string y.1.ar, .string y.2.s]] w fun e w' => e = .returned (.bool (befK x y)) ∧ Same w w' := by
  have hk : Same w ((w.alloc (.cells #[.string x.1.tn, .string x.1.ar, .string x.2.s] 24)).alloc (.cells #[.string y.1.tn, .string y.1.ar, .string y.2.s] 24)) := ((Kept.refl _ w).alloc _).alloc _
  have HK := hid hk
  clear hk
  have B1 : Blk ((w.alloc (.cells #[.string x.1.tn, .string x.1.ar, .string x.2.s] 24)).alloc (.cells #[.string y.1.tn, .string y.1.ar, .string y.2.s] 24)) w.heap.size #[.string x.1.tn, .string x.1.ar, .string x.2.s] 24 := (Blk.new w _ _).kept (F := fun _ => False) ((Kept.refl _ _).alloc _) (fun f => f)
  have a0 := B1.cell 0
  have a1 := B1.cell 1
  have a2 := B1.cell 2
  simp only [List.getElem?_toArray, List.getElem?_cons_zero, List.getElem?_cons_succ] at a0 a1 a2
  clear B1
  have s1 := streq13 x.1.tn y.1.tn
  have s2 := streq13 x.1.ar y.1.ar
  unfold befK
  by_cases h1 : x.1.tn = y.1.tn
  · rw [if_pos h1]
    rw [decide_eq_true h1] at s1
    by_cases h2 : x.1.ar = y.1.ar
    · rw [if_pos h2]
      rw [decide_eq_true h2] at s2
      clear h1 h2
      go_enter Try.func36, Try.ntmps36
      go_wp2_with fail
      go_ret
      exact ⟨rfl, HK.out⟩
    · rw [if_neg h2]
      rw [decide_eq_false h2] at s2
      clear h1 h2
      go_enter Try.func36, Try.ntmps36
      go_wp2_with fail
      go_ret
      exact ⟨rfl, HK.out⟩
  · rw [if_neg h1]
    rw [decide_eq_false h1] at s1
    clear h1
    go_enter Try.func36, Try.ntmps36
    go_wp2_with fail
    go_ret
    exact ⟨rfl, HK.out⟩

/-- The reference's set. -/
structure Rs where
  t : Int
  rs : List Ke
  ls : List Bx
  st : List Wr

structure Rv (N : Nat) (w : World) (p : Nat) (s : Rs) (v1 v2 v3 : Value) : Prop where
  blk : Blk w p #[.int .i64 s.t, v1, v2, v3] 37
  r1 : RowC N 24 3 keE w v1 s.rs
  r2 : RowC N 26 2 bxC w v2 s.ls
  r3 : RowC N 51 5 wrE w v3 s.st
  np : N ≤ p
  lens : s.rs.length ≤ 100000 ∧ s.ls.length ≤ 100000 ∧ s.st.length ≤ 100000

theorem Rv.same {N : Nat} {w w' : World} {p : Nat} {s : Rs} {v1 v2 v3 : Value} (h : Rv N w p s v1 v2 v3) (hk : Same w w') : Rv N w' p s v1 v2 v3 :=
  { h with blk := h.blk.kept hk (fun f => f), r1 := h.r1.kept hk (fun _ _ f => f), r2 := h.r2.kept hk (fun _ _ f => f), r3 := h.r3.kept hk (fun _ _ f => f) }

/-- Is a key noted? -/
def meeR (s : Rs) (k : Ke) : Bool := s.rs.any (fun x => decide (x = k)) || s.ls.any (fun b => decide (b = k.1))

/-- Four ways in which two keys are alike or not. -/
theorem four13 (q1 q2 q3 : Bool) : (q1 = false ∨ (q1 = true ∧ q2 = false) ∨ (q1 = true ∧ q2 = true ∧ q3 = false)) ∨ (q1 = true ∧ q2 = true ∧ q3 = true) := by cases q1 <;> cases q2 <;> cases q3 <;> simp

set_option maxRecDepth 100000 in
set_option maxHeartbeats 2000000 in
theorem meets_any {N : Nat} {w : World} {p : Nat} {s : Rs} {v1 v2 v3 : Value} (h : Rv N w p s v1 v2 v3) (k : Ke) : Calls Try.prog 37 #[.pointer (some ⟨p, 0, none⟩), .agg #[.string k.1.tn, .string k.1.ar, .string k.2.s]] w fun e w' => e = .returned (.bool (meeR s k)) ∧ Same w w' := by
  obtain ⟨wA, hwA⟩ : ∃ W, W = w.alloc (.cells #[.string k.1.tn, .string k.1.ar, .string k.2.s] 24) := ⟨_, rfl⟩
  obtain ⟨xb, hxb⟩ : ∃ y, y = w.heap.size := ⟨_, rfl⟩
  have hka : Same w wA := by rw [hwA]; exact (Kept.refl _ w).alloc _
  have B1 : Blk wA xb #[.string k.1.tn, .string k.1.ar, .string k.2.s] 24 := by rw [hwA, hxb]; exact Blk.new w _ _
  obtain ⟨a1, c1, hv1, hg1, _⟩ := h.r1.shape
  obtain ⟨a2, c2, hv2, hg2, _⟩ := h.r2.shape
  obtain ⟨l1, hl1⟩ : ∃ n, n = s.rs.length := ⟨_, rfl⟩
  obtain ⟨l2, hl2⟩ : ∃ n, n = s.ls.length := ⟨_, rfl⟩
  rw [← hl1] at hv1
  rw [← hl2] at hv2
  subst hv1 hv2
  have HC : Hid (∀ w', Same wA w' → w'.cell? ⟨xb, 0, none⟩ = some (.string k.1.tn) ∧ w'.cell? ⟨xb, 1, none⟩ = some (.string k.1.ar) ∧ w'.cell? ⟨xb, 2, none⟩ = some (.string k.2.s) ∧ w'.cell? ⟨p, 1, none⟩ = some (.slice a1 l1 c1) ∧ w'.cell? ⟨p, 2, none⟩ = some (.slice a2 l2 c2)) := hid (fun w' hk => by
    have h1 := B1.kept hk (fun f => f)
    have h2 := (h.same (hka.trans hk)).blk
    exact ⟨h1.cell 0, h1.cell 1, h1.cell 2, h2.cell 1, h2.cell 2⟩)
  have HR : Hid (∀ w', Same wA w' → RowC N 24 3 keE w' (.slice a1 l1 c1) s.rs ∧ RowC N 26 2 bxC w' (.slice a2 l2 c2) s.ls) := hid (fun w' hk => ⟨(h.same (hka.trans hk)).r1, (h.same (hka.trans hk)).r2⟩)
  have HG : Hid ((s.rs ≠ [] → ∃ g, a1 = some ⟨g, 0, none⟩) ∧ (s.ls ≠ [] → ∃ g, a2 = some ⟨g, 0, none⟩) ∧ l1 = s.rs.length ∧ l2 = s.ls.length ∧ l1 ≤ 100000 ∧ l2 ≤ 100000) := hid ⟨hg1, hg2, hl1, hl2, by rw [hl1]; exact h.lens.1, by rw [hl2]; exact h.lens.2.1⟩
  have HK : Hid (Same w wA) := hka
  clear h hka B1 hg1 hg2 hl1 hl2
  go_enter Try.func37, Try.ntmps37
  go_wp2_with fail
  rw [← hwA, ← hxb]
  clear hwA hxb
  go_loopg [5] l1 (fun q z wr => ∃ i : Nat, l1 - i ≤ q ∧ i ≤ l1 ∧ z = .int .i64 (i : Nat) ∧ Hid (∀ j (hj : j < i) (hj2 : j < s.rs.length), s.rs[j] ≠ k) ∧ Hid (Same wA wr))
  case atStart => exact ⟨0, by omega, by omega, rfl, hid (fun j hj _ => by omega), hid (Kept.refl _ _)⟩
  case round =>
    obtain ⟨i, hq, hil, rfl, HF, HS⟩ := hrel
    obtain ⟨b0, b1, b2, p1, p2⟩ := HC.out wr HS.out
    by_cases hlt : i < l1
    · have hli : decide (i < l1) = true := decide_eq_true hlt
      have hli2 : (i : Int) < (l1 : Int) := by omega
      have hlt2 : i < s.rs.length := by have := HG.out.2.2.1; omega
      obtain ⟨g, hg⟩ := HG.out.1 (fun e => by rw [e] at hlt2; simp at hlt2)
      obtain ⟨y, hy⟩ : ∃ y, y = s.rs[i] := ⟨_, rfl⟩
      have hrow := (HR.out wr HS.out).1
      rw [hg] at hrow
      have hcw : ∀ q u, q < 3 → (keE y)[q]? = some u → wr.cell? ⟨g, i * 3 + q, none⟩ = some u := fun q u hq e => by rw [RowC.cell keE_ok hrow i q hlt2 hq, ← hy, e]
      have k0 := hcw 0 (.string y.1.tn) (by decide) rfl
      have k1 := hcw 1 (.string y.1.ar) (by decide) rfl
      have k2 := hcw 2 (.string y.2.s) (by decide) rfl
      rw [Nat.add_zero] at k0
      rw [hg] at p1
      have hiw : IntKind.i64.wrap ((i : Int) + 1) = ((i + 1 : Nat) : Int) := by have := HG.out.2.2.2.2.1; rw [IntKind.wrap_i64]; omega
      have s1 := streq13 y.1.tn k.1.tn
      have s2 := streq13 y.1.ar k.1.ar
      have s3 := streq13 y.2.s k.2.s
      have HY : Hid (y = s.rs[i]) := hy
      clear hrow hcw hy
      by_cases hm : y.1.tn = k.1.tn ∧ y.1.ar = k.1.ar ∧ y.2.s = k.2.s
      · obtain ⟨m1, m2, m3⟩ := hm
        have HE : Hid (meeR s k = true) := hid (by
          unfold meeR
          rw [Bool.or_eq_true]
          left
          refine List.any_eq_true.2 ⟨y, by rw [HY.out]; exact List.getElem_mem _, decide_eq_true ?_⟩
          exact Prod.ext (Bx.ext' m1 m2) (Nm.ext' m3))
        rw [decide_eq_true m1] at s1
        rw [decide_eq_true m2] at s2
        rw [decide_eq_true m3] at s3
        clear m1 m2 m3
        go_wp2_with fail
        go_region
        all_goals go_wp2_with fail
        all_goals go_ret
        all_goals exact ⟨by rw [HE.out]; rfl, (HK.out.trans HS.out).drew⟩
      · have HE : Hid (∀ j (hj : j < i + 1) (hj2 : j < s.rs.length), s.rs[j] ≠ k) := hid (fun j hj hj2 => by
          rcases Nat.lt_or_ge j i with h1 | h1
          · exact HF.out j h1 hj2
          · obtain rfl : j = i := by omega
            rw [← HY.out]
            exact fun e => hm (by rw [e]; exact ⟨rfl, rfl, rfl⟩))
        obtain ⟨d1, e1⟩ : ∃ r, r = decide (y.1.tn = k.1.tn) := ⟨_, rfl⟩
        obtain ⟨d2, e2⟩ : ∃ r, r = decide (y.1.ar = k.1.ar) := ⟨_, rfl⟩
        obtain ⟨d3, e3⟩ : ∃ r, r = decide (y.2.s = k.2.s) := ⟨_, rfl⟩
        rw [← e1] at s1
        rw [← e2] at s2
        rw [← e3] at s3
        have hd : ¬ (d1 = true ∧ d2 = true ∧ d3 = true) := fun e => hm ⟨of_decide_eq_true (e1.symm.trans e.1), of_decide_eq_true (e2.symm.trans e.2.1), of_decide_eq_true (e3.symm.trans e.2.2)⟩
        have hf := (four13 d1 d2 d3).resolve_right hd
        clear e1 e2 e3 hm hd HF
        rcases hf with rfl | ⟨rfl, rfl⟩ | ⟨rfl, rfl, rfl⟩
        all_goals
          go_wp2_with fail
          go_region
          all_goals go_wp2_with fail
          all_goals go_roundg (gk - 1)
          all_goals first
            | (case measure => omega)
            | skip
          all_goals exact ⟨i + 1, by omega, by omega, by go_num, HE, hid HS.out.drew⟩
    · have hli : decide (i < l1) = false := decide_eq_false hlt
      obtain rfl : i = l1 := by omega
      have HN : Hid (s.rs.any (fun x => decide (x = k)) = false) := hid (by
        rw [List.any_eq_false]
        intro x hx
        obtain ⟨j, hj, rfl⟩ := List.mem_iff_getElem.1 hx
        have := HF.out j (by have := HG.out.2.2.1; omega) hj
        simpa using this)
      go_wp2_with fail
      obtain ⟨w6, hw6⟩ : ∃ W, W = wr := ⟨_, rfl⟩
      rw [← hw6] at HS ⊢
      clear hli hlt hq hil hw6 HF b0 b1 b2 p1 p2
      go_loopg [6] l2 (fun q z wr => ∃ i : Nat, l2 - i ≤ q ∧ i ≤ l2 ∧ z = .int .i64 (i : Nat) ∧ Hid (∀ j (hj : j < i) (hj2 : j < s.ls.length), s.ls[j] ≠ k.1) ∧ Hid (Same wA wr))
      case atStart => exact ⟨0, by omega, by omega, rfl, hid (fun j hj _ => by omega), HS⟩
      case round =>
        obtain ⟨n, hq, hil, rfl, HF, HS⟩ := hrel
        obtain ⟨b0, b1, b2, p1, p2⟩ := HC.out wr HS.out
        by_cases hlt : n < l2
        · have hli : decide (n < l2) = true := decide_eq_true hlt
          have hli2 : (n : Int) < (l2 : Int) := by omega
          have hlt2 : n < s.ls.length := by have := HG.out.2.2.2.1; omega
          obtain ⟨g, hg⟩ := HG.out.2.1 (fun e => by rw [e] at hlt2; simp at hlt2)
          obtain ⟨y, hy⟩ : ∃ y, y = s.ls[n] := ⟨_, rfl⟩
          have hrow := (HR.out wr HS.out).2
          rw [hg] at hrow
          have hcw : ∀ q u, q < 2 → (bxC y)[q]? = some u → wr.cell? ⟨g, n * 2 + q, none⟩ = some u := fun q u hq e => by rw [RowC.cell bxC_ok hrow n q hlt2 hq, ← hy, e]
          have k0 := hcw 0 (.string y.tn) (by decide) rfl
          have k1 := hcw 1 (.string y.ar) (by decide) rfl
          rw [Nat.add_zero] at k0
          rw [hg] at p2
          have hiw : IntKind.i64.wrap ((n : Int) + 1) = ((n + 1 : Nat) : Int) := by have := HG.out.2.2.2.2.2; rw [IntKind.wrap_i64]; omega
          have s1 := streq13 y.tn k.1.tn
          have s2 := streq13 y.ar k.1.ar
          have HY : Hid (y = s.ls[n]) := hy
          clear hrow hcw hy
          by_cases m1 : y.tn = k.1.tn
          · by_cases m2 : y.ar = k.1.ar
            · have HE : Hid (meeR s k = true) := hid (by
                unfold meeR
                rw [Bool.or_eq_true]
                right
                refine List.any_eq_true.2 ⟨y, by rw [HY.out]; exact List.getElem_mem _, decide_eq_true ?_⟩
                exact Bx.ext' m1 m2)
              rw [decide_eq_true m1] at s1
              rw [decide_eq_true m2] at s2
              clear m1 m2
              go_wp2_with fail
              go_quiet (fail)
              all_goals go_wp2_with fail
              all_goals go_ret
              all_goals exact ⟨by rw [HE.out]; rfl, (HK.out.trans HS.out).drewN _⟩
            · have HE : Hid (∀ j (hj : j < n + 1) (hj2 : j < s.ls.length), s.ls[j] ≠ k.1) := hid (fun j hj hj2 => by
                rcases Nat.lt_or_ge j n with h1 | h1
                · exact HF.out j h1 hj2
                · obtain rfl : j = n := by omega
                  rw [← HY.out]
                  exact fun e => m2 (by rw [e]))
              rw [decide_eq_true m1] at s1
              rw [decide_eq_false m2] at s2
              clear m1 m2 HF
              go_wp2_with fail
              go_quiet (fail)
              all_goals go_wp2_with fail
              all_goals go_roundg (gk - 1)
              all_goals first
                | (case measure => omega)
                | skip
              all_goals exact ⟨n + 1, by omega, by omega, by go_num, HE, hid (HS.out.drewN _)⟩
          · have HE : Hid (∀ j (hj : j < n + 1) (hj2 : j < s.ls.length), s.ls[j] ≠ k.1) := hid (fun j hj hj2 => by
              rcases Nat.lt_or_ge j n with h1 | h1
              · exact HF.out j h1 hj2
              · obtain rfl : j = n := by omega
                rw [← HY.out]
                exact fun e => m1 (by rw [e]))
            rw [decide_eq_false m1] at s1
            clear m1 HF s2
            go_wp2_with fail
            go_quiet (fail)
            all_goals go_wp2_with fail
            all_goals go_roundg (gk - 1)
            all_goals first
              | (case measure => omega)
              | skip
            all_goals exact ⟨n + 1, by omega, by omega, by go_num, HE, hid (HS.out.drewN _)⟩
        · have hli : decide (n < l2) = false := decide_eq_false hlt
          obtain rfl : n = l2 := by omega
          have HE : Hid (meeR s k = false) := hid (by
            unfold meeR
            rw [HN.out, Bool.false_or, List.any_eq_false]
            intro x hx
            obtain ⟨j, hj, rfl⟩ := List.mem_iff_getElem.1 hx
            have := HF.out j (by have := HG.out.2.2.2.1; omega) hj
            simpa using this)
          go_wp2_with fail
          go_ret
          exact ⟨by rw [HE.out]; rfl, HK.out.trans HS.out⟩

end Go.Proofs.Ytlfibbghkdbomaa
