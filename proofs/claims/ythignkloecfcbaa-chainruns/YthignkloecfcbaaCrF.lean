/-
  Layer 12, the reference: List.
-/
import Derived.Test.YthignkloecfcbaaCrE
import Derived.Test.YthignkloecfcbaaCrI
namespace Go.Proofs.Ythignkloecfcbaa
open Go.RowKit Go.Maps Go.Sort

/-- The names of an archive among keys. -/
def nmK (b : Bx) (l : List Ky) : List Nm := (l.filter (fun k => decide (k.1 = b))).map (·.2)

theorem nmK_succ (b : Bx) (l : List Ky) (i : Nat) (hi : i < l.length) : nmK b (l.take (i + 1)) = if l[i].1 = b then nmK b (l.take i) ++ [l[i].2] else nmK b (l.take i) := by
  unfold nmK
  rw [List.take_succ_eq_append_getElem hi, List.filter_append, List.map_append]
  by_cases e : l[i].1 = b
  · rw [if_pos e, List.filter_cons, if_pos (decide_eq_true e)]; rfl
  · rw [if_neg e, List.filter_cons, if_neg (fun e2 => e (of_decide_eq_true e2))]; simp

theorem nmK_mem (b : Bx) (l : List Ky) (n : Nm) : n ∈ nmK b l ↔ (b, n) ∈ l := by
  unfold nmK
  rw [List.mem_map]
  constructor
  · rintro ⟨k, hk, rfl⟩
    obtain ⟨h1, h2⟩ := List.mem_filter.1 hk
    have := of_decide_eq_true h2
    subst this
    exact h1
  · intro h
    exact ⟨(b, n), List.mem_filter.2 ⟨h, decide_eq_true rfl⟩, rfl⟩

theorem nmK_ris (b : Bx) {l : List Ky} (h : l.Pairwise ltK12) : RisN (nmK b l) := by
  unfold nmK RisN
  rw [List.pairwise_map, List.pairwise_filter]
  refine h.imp (fun {x y} hxy e1 e2 => ?_)
  have e1' := of_decide_eq_true e1
  have e2' := of_decide_eq_true e2
  rcases ltK12_split hxy with e | e
  · rw [e1', e2'] at e; exact absurd e (ltB_irr _)
  · exact e.2

theorem nmK_len (b : Bx) (l : List Ky) : (nmK b l).length ≤ l.length := by
  unfold nmK
  rw [List.length_map]
  exact List.length_filter_le _ _

theorem three12 (q1 q2 : Bool) : (q1 = false ∨ (q1 = true ∧ q2 = false)) ∨ (q1 = true ∧ q2 = true) := by cases q1 <;> cases q2 <;> simp

set_option maxRecDepth 100000 in
set_option maxHeartbeats 4000000 in
theorem rlist_any {N : Nat} {w : World} {p : Nat} {L : List Lv} {now floor : Int} {v : Value} (h : Rc N w p L now floor v) (b : Bx) (t : Int) (hr : ∀ b n, RisV (ofK L b n)) (hg : ∀ b n, ∀ x ∈ ofK L b n, x.there = false → x.data = ⟨#[]⟩) : Calls Try.prog 28 #[.pointer (some ⟨p, 0, none⟩), .agg #[.string b.tn, .string b.ar], .int .i64 t] w fun e w' => LisA w (fun n => isTh (ofK L b n) (max t floor)) e w' := by
  obtain ⟨wA, hwA⟩ : ∃ W, W = w.alloc (.cells #[.string b.tn, .string b.ar] 62) := ⟨_, rfl⟩
  obtain ⟨xb, hxb⟩ : ∃ y, y = w.heap.size := ⟨_, rfl⟩
  have hka : Same w wA := by rw [hwA]; exact (Kept.refl _ w).alloc _
  have HB : Hid (Blk wA xb #[.string b.tn, .string b.ar] 62) := hid (by rw [hwA, hxb]; exact Blk.new w _ _)
  have HKY := rkeys_any (h.same hka) t hr hg
  have HLL : Hid (L.length ≤ 100000 ∧ Same w wA) := hid ⟨h.len, hka⟩
  clear h hr hg hka
  go_enter Try.func28, Try.ntmps28
  go_wp2_with fail
  rw [← hwA, ← hxb]
  clear hwA hxb
  refine HKY.mono ?_
  rintro e w1 ⟨v, ks, rfl, hrow, hki, hk1⟩
  clear HKY
  obtain ⟨ka, kc, hv, hgs, _⟩ := hrow.shape
  obtain ⟨kl, hkl⟩ : ∃ n, n = ks.length := ⟨_, rfl⟩
  rw [← hkl] at hv
  subst hv
  have HI : Hid (RowC wA.heap.size 36 3 kyE w1 (.slice ka kl kc) ks ∧ KyI L (max t floor) L.length ks ∧ Same w w1 ∧ kl = ks.length ∧ kl ≤ 100000 ∧ (ks ≠ [] → ∃ g, ka = some ⟨g, 0, none⟩) ∧ Blk w1 xb #[.string b.tn, .string b.ar] 62) := hid ⟨hrow, hki, HLL.out.2.trans hk1, hkl, by have := hki.len; have := HLL.out.1; omega, hgs, HB.out.kept hk1 (fun f => f)⟩
  clear hrow hki hk1 hgs hkl
  go_wp2_with fail
  go_loopg [7, 9] kl (fun q z7 z9 wr => ∃ (i : Nat) (a0 : Option Addr) (l0 c0 : Nat), kl - i ≤ q ∧ i ≤ kl ∧ z7 = .slice a0 l0 c0 ∧ z9 = .int .i64 (i : Nat) ∧ Hid (RowE w1.heap.size 9 nmV wr (.slice a0 l0 c0) (nmK b (ks.take i)) ∧ Same w1 wr))
  case atStart => exact ⟨0, none, 0, 0, by omega, by omega, rfl, rfl, hid ⟨RowE.nil, Kept.refl _ _⟩⟩
  case round =>
    obtain ⟨i, a0, l0, c0, hq, hil, rfl, rfl, HS⟩ := hrel
    by_cases hlt : i < kl
    · have hli : decide (i < kl) = true := decide_eq_true hlt
      have hli2 : (i : Int) < (kl : Int) := by omega
      have hlt2 : i < ks.length := by have := HI.out.2.2.2.1; omega
      obtain ⟨g, hg⟩ := HI.out.2.2.2.2.2.1 (fun e => by rw [e] at hlt2; simp at hlt2)
      subst hg
      obtain ⟨y, hy⟩ : ∃ y, y = ks[i] := ⟨_, rfl⟩
      have hcw : ∀ q u, q < 3 → (kyE y)[q]? = some u → wr.cell? ⟨g, i * 3 + q, none⟩ = some u := fun q u hq e => by rw [RowC.cell kyE_ok (HI.out.1.kept HS.out.2 (fun _ _ f => f)) i q hlt2 hq, ← hy, e]
      have k0 := hcw 0 (.string y.1.tn) (by decide) rfl
      have k1 := hcw 1 (.string y.1.ar) (by decide) rfl
      have k2 := hcw 2 (.string y.2.s) (by decide) rfl
      rw [Nat.add_zero] at k0
      have hbb := HI.out.2.2.2.2.2.2.kept HS.out.2 (fun f => f)
      have b0 := hbb.cell 0
      have b1 := hbb.cell 1
      simp only [List.getElem?_toArray, List.getElem?_cons_zero, List.getElem?_cons_succ] at b0 b1
      have hiw : IntKind.i64.wrap ((i : Int) + 1) = ((i + 1 : Nat) : Int) := by have := HI.out.2.2.2.2.1; rw [IntKind.wrap_i64]; omega
      have s1 := streq12 y.1.tn b.tn
      have s2 := streq12 y.1.ar b.ar
      have HSU := hid (nmK_succ b ks i hlt2)
      rw [← hy] at HSU
      clear hcw hy hbb
      by_cases hm : y.1.tn = b.tn ∧ y.1.ar = b.ar
      · obtain ⟨m1, m2⟩ := hm
        have HN : Hid (nmK b (ks.take (i + 1)) = nmK b (ks.take i) ++ [y.2]) := hid (by rw [HSU.out, if_pos (Bx.ext' m1 m2)])
        rw [decide_eq_true m1] at s1
        rw [decide_eq_true m2] at s2
        have HSZ : Hid ((nmK b (ks.take i)).length ≤ 100000 ∧ w1.heap.size ≤ wr.heap.size) := hid ⟨by have h1 := nmK_len b (ks.take i); rw [List.length_take] at h1; have := HI.out.2.2.2.2.1; omega, HS.out.2.size⟩
        clear m1 m2 HSU
        go_upto_region 7 with fail
        go_quiet (fail)
        all_goals go_wp2_with (at_builtin; refine wpList_append_e _ nmV nmV_one w1.heap.size 56 9 (.string ⟨#[]⟩) 16 Try.underlying56 Try.infoStr rfl (by decide) rfl (.tmp 37) (.tmp 43) rfl (.slice a0 l0 c0) (nmK b (ks.take i)) rfl (HS.out.1.kept (show Same wr _ from ((Kept.refl _ _).drewN _).alloc _) (fun _ _ f => f)) ⟨wr.heap.size, 0, none⟩ 1 1 [y.2] rfl rfl (cellsAt_new _ _ _) (by have := HSZ.out; simp; omega) (by have := HSZ.out; simp; omega) ?_)
        all_goals
          intro v5 w5 hr5 hg5
          obtain ⟨a5, c5, hv5, _⟩ := hr5.shape
          subst hv5
          have hk5 : Kept (fun k => (Value.slice a0 l0 c0).ownBlock = some k) wr w5 := Kept.trans (F := fun _ => False) (show Same wr _ from ((Kept.refl _ wr).drewN _).alloc _) ((Kept.refl _ _).grown hg5 (fun k e => .inl e)) (fun _ _ f => False.elim f) (fun _ _ e => e)
          have HF : Hid (RowE w1.heap.size 9 nmV w5 (.slice a5 (nmK b (ks.take i) ++ [y.2]).length c5) (nmK b (ks.take (i + 1))) ∧ Same w1 w5) := hid ⟨by rw [HN.out]; exact hr5, Kept.trans HS.out.2 hk5 (fun _ _ f => f) (fun k hk e => by have := HS.out.1.ge e; omega)⟩
          obtain ⟨Ln, hLn⟩ : ∃ x, x = (nmK b (ks.take i) ++ [y.2]).length := ⟨_, rfl⟩
          rw [← hLn] at HF ⊢
          clear hr5 hg5 hk5 hLn k0 k1 k2 b0 b1
          go_wp2_with fail
          go_roundg (gk - 1)
        all_goals first
          | (case measure => omega)
          | skip
        all_goals exact ⟨i + 1, a5, Ln, c5, by omega, by omega, rfl, by go_num, HF⟩
      · have HN : Hid (nmK b (ks.take (i + 1)) = nmK b (ks.take i)) := hid (by rw [HSU.out, if_neg (fun e => hm (by rw [e]; exact ⟨rfl, rfl⟩))])
        obtain ⟨d1, e1⟩ : ∃ q, q = decide (y.1.tn = b.tn) := ⟨_, rfl⟩
        obtain ⟨d2, e2⟩ : ∃ q, q = decide (y.1.ar = b.ar) := ⟨_, rfl⟩
        rw [← e1] at s1
        rw [← e2] at s2
        have hd : ¬ (d1 = true ∧ d2 = true) := fun e => hm ⟨of_decide_eq_true (e1.symm.trans e.1), of_decide_eq_true (e2.symm.trans e.2)⟩
        have hf := (three12 d1 d2).resolve_right hd
        clear e1 e2 hm hd HSU
        rcases hf with rfl | ⟨rfl, rfl⟩
        all_goals
          go_wp2_with fail
          go_quiet (fail)
          all_goals go_wp2_with fail
          all_goals go_roundg (gk - 1)
          all_goals first
            | (case measure => omega)
            | skip
          all_goals exact ⟨i + 1, a0, l0, c0, by omega, by omega, rfl, by go_num, hid ⟨by rw [HN.out]; exact HS.out.1.kept (show Same _ _ from (Kept.refl _ _).drewN _) (fun _ _ f => f), HS.out.2.drewN _⟩⟩
    · have hli : decide (i < kl) = false := decide_eq_false hlt
      have HE : Hid (nmK b (ks.take i) = nmK b ks) := hid (by rw [List.take_of_length_le (by have := HI.out.2.2.2.1; omega)])
      go_wp2_with fail
      go_ret
      refine ⟨_, nmK b ks, rfl, by rw [← HE.out]; exact HS.out.1.base HI.out.2.2.1.size, nmK_ris b HI.out.2.1.ris, fun n => ?_, by have := nmK_len b ks; have := HI.out.2.2.2.1; have := HI.out.2.2.2.2.1; omega, HI.out.2.2.1.trans HS.out.2⟩
      rw [nmK_mem, HI.out.2.1.all]

end Go.Proofs.Ythignkloecfcbaa
