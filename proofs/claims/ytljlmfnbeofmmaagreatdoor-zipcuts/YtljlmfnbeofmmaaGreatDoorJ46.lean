/-
  Of the proof: parts ZrL, ZrN, ZrCutLaw.
-/
import Derived.Test.YtljlmfnbeofmmaaGreatDoorJ44
import Derived.Test.YtljlmfnbeofmmaaGreatDoorJ43
import Derived.Test.YtljlmfnbeofmmaaGreatDoorJ9

namespace Go.Proofs.YtljlmfnbeofmmaaGreatDoor
open Go.RowKit

def LgA (E : Nat → En) (len : Nat) (b : Bool) : Prop := b = false → len ≤ 16777216 ∧ ∀ j, j < len → (E j).n.size ≤ 16777216 ∧ (E j).d.size ≤ 16777216

set_option maxRecDepth 100000 in
set_option maxHeartbeats 400000 in
theorem zlarge_any (w : World) (a : Option Addr) (len cap : Nat) (E : Nat → En) (hs : Ents w (fun _ => True) a len E) (hn : len ≤ reachBytes) (hz : ∀ j, j < len → (E j).n.size ≤ reachBytes ∧ (E j).d.size ≤ reachBytes) :
  Calls Tryz.prog 12 #[.slice a len cap] w fun e w' => (∃ b, e = .returned (.bool b) ∧ LgA E len b) ∧ Same w w' := by
 have HS : Hid (Ents w (fun _ => True) a len E) := hs
 have HZ : Hid (∀ j, j < len → (E j).n.size ≤ 140737488351232 ∧ (E j).d.size ≤ 140737488351232) := hz
 have hn2 : len ≤ 140737488351232 := hn
 clear hs hz hn
 go_enter Tryz.func12, Tryz.ntmps12
 go_wp2_with fail
 go_loopg [3, 4] len (fun k z3 z4 wr => ∃ i n : Nat, len - i ≤ k ∧ i ≤ len ∧ z3 = .int .i64 (n : Nat) ∧ z4 = .int .i64 (i : Nat) ∧ n ≤ 422212465065984 ∧ Hid (len ≤ n ∧ ∀ j, j < i → (E j).n.size ≤ n ∧ (E j).d.size ≤ n) ∧ Hid (Same w wr))
 case atStart => exact ⟨0, len, by omega, by omega, rfl, rfl, by omega, hid ⟨Nat.le_refl _, fun j hj => by omega⟩, hid (Kept.refl _ _)⟩
 case round =>
  obtain ⟨i, n, hk, hil, rfl, rfl, hnb, HN, HK⟩ := hrel
  by_cases hlt : i < len
  ·have hli : decide (i < len) = true := by simp; omega
   by_cases hm : n ≤ 16777216
   ·have hmb : decide ((n : Int) ≤ 16777216) = true := by simp; omega
    have hmb' : decide (n ≤ 16777216) = true := by simp; omega
    obtain ⟨b, o, ha, _, hc0, hc1⟩ := HS.out i hlt
    subst ha
    have hc0 := HK.out.cell hc0 (fun f => f)
    have hc1 := HK.out.cell hc1 (fun f => f)
    obtain ⟨y, hy⟩ : ∃ y, y = E i := ⟨_, rfl⟩
    have hzy := HZ.out i hlt
    rw [← hy] at hc0 hc1 hzy
    have HY : Hid (y = E i) := hy
    have hiw : IntKind.i64.wrap ((i : Int) + 1) = ((i + 1 : Nat) : Int) := by rw [IntKind.wrap_i64]; omega
    obtain ⟨s0, hs0⟩ : ∃ s, s = y.n.size := ⟨_, rfl⟩
    obtain ⟨s1, hs1⟩ : ∃ s, s = y.d.size := ⟨_, rfl⟩
    obtain ⟨n1, hn1⟩ : ∃ m, m = n + s0 := ⟨_, rfl⟩
    obtain ⟨n2, hn2'⟩ : ∃ m, m = n1 + s1 := ⟨_, rfl⟩
    have g0 : (y.n.size : Int) = (s0 : Int) := by rw [hs0]
    have g1 : (y.d.size : Int) = (s1 : Int) := by rw [hs1]
    rw [← hs0, ← hs1] at hzy
    have q1 : (n : Int) + (s0 : Int) = (n1 : Int) := by omega
    have q1w : IntKind.i64.wrap (n1 : Int) = (n1 : Int) := by rw [IntKind.wrap_i64]; omega
    have q2 : (n1 : Int) + (s1 : Int) = (n2 : Int) := by omega
    have q2w : IntKind.i64.wrap (n2 : Int) = (n2 : Int) := by rw [IntKind.wrap_i64]; omega
    have i1 : (0 : Int) ≤ (i : Int) := by omega
    have i2 : (i : Int) < (len : Int) := by omega
    have hb2 : n2 ≤ 422212465065984 := by omega
    have HNN : Hid (n ≤ n2 ∧ y.n.size ≤ n2 ∧ y.d.size ≤ n2) := hid (by omega)
    clear hy hs0 hs1 hn1 hn2' hzy hm
    go_wp2_with fail
    go_quiet (fail)
    go_wp2_with fail
    go_roundg (gk - 1)
    case measure => omega
    case rel =>
     refine ⟨i + 1, n2, by omega, by omega, rfl, by go_num, hb2, hid ⟨by have := HN.out.1; have := HNN.out.1; omega, fun j hj => ?_⟩, hid (HK.out.drewN _)⟩
     by_cases e : j = i
     ·rw [e, ← HY.out]; exact HNN.out.2
     ·have h9 := HN.out.2 j (by omega)
      have := HNN.out.1
      omega
   ·have hmb : decide ((n : Int) ≤ 16777216) = false := by simp; omega
    have hmb' : decide (n ≤ 16777216) = false := by simp; omega
    have hmc : decide ((16777216 : Int) < (n : Int)) = true := by simp; omega
    have hmc' : decide (16777216 < n) = true := by simp; omega
    clear hm
    go_wp2_with fail
    go_ret
    exact ⟨⟨_, rfl, fun e => by simp at e⟩, HK.out⟩
  ·have hli : decide (i < len) = false := by simp; omega
   have HIL : Hid (i = len) := hid (by omega)
   obtain ⟨B, hB⟩ : ∃ B, B = decide ((16777216 : Int) < (n : Int)) := ⟨_, rfl⟩
   have hB' := hB.symm
   have HB : Hid (B = false → n ≤ 16777216) := hid (fun e => by rw [e] at hB; simp at hB; omega)
   have HNB : Hid (len ≤ n ∧ ∀ j, j < len → (E j).n.size ≤ n ∧ (E j).d.size ≤ n) := hid ⟨HN.out.1, fun j hj => HN.out.2 j (by have := HIL.out; omega)⟩
   clear hB hlt
   go_wp2_with fail
   go_ret
   refine ⟨⟨_, rfl, fun e => ?_⟩, HK.out⟩
   have h8 : n ≤ 16777216 := by
    first
     | exact HB.out e
     | (simp at e; omega)
   exact ⟨by have := HNB.out.1; omega, fun j hj => by have := HNB.out.2 j hj; omega⟩

end Go.Proofs.YtljlmfnbeofmmaaGreatDoor

namespace Go.Proofs.YtljlmfnbeofmmaaGreatDoor

theorem bytN_take (l : List Nat) (o n j : Nat) (h : o + n ≤ j) : bytN (l.take j) o n = bytN l o n := by
 unfold bytN
 rw [List.drop_take, List.take_take, Nat.min_eq_left (by omega)]

theorem mkAt_take (l : List Nat) (o j : Nat) (h : o + 22 ≤ j) : mkAt (l.take j) o = mkAt l o := by
 unfold mkAt
 rw [bytN_take _ _ _ _ (by omega), bytN_take _ _ _ _ (by omega), bytN_take _ _ _ _ (by omega), bytN_take _ _ _ _ (by omega)]

theorem hedB_at (m : Mk) (h : MkOk m) (r : List Nat) : bytN (hedB m ++ r) 0 4 = 67324752 ∧ bytN (hedB m ++ r) 26 2 = m.name.length ∧ (mkAt (hedB m ++ r) 4).packed = m.packed := by
 have h1 := hed8_app m h r
 rw [hed8_is] at h1
 split at h1
 ·rename_i h2
  obtain ⟨_, h3, _, _, h4, h5⟩ := h2
  refine ⟨h3, ?_, ?_⟩
  ·have h6 := congrArg (fun q => q.name.length) h5
   simp only [Mk.named, List.length_take, List.length_drop] at h6
   omega
  ·exact congrArg (fun q => q.packed) h5
 ·cases h1

theorem recB_at (m : Mk) (h : MkOk m) (a : Nat) (ha : a < 4294967296) (r : List Nat) : bytN (recB m a ++ r) 0 4 = 33639248 ∧ bytN (recB m a ++ r) 28 2 = m.name.length := by
 have h1 := rec8_app m h a ha r
 rw [rec8_is] at h1
 split at h1
 ·rename_i h2
  obtain ⟨_, h3, _, _, _, _, h4⟩ := h2
  refine ⟨h3, ?_⟩
  simp only [Option.some.injEq, Prod.mk.injEq] at h1
  have h6 := congrArg (fun q => q.name.length) h1.1.1
  simp only [Mk.named, List.length_take, List.length_drop] at h6
  omega
 ·cases h1

theorem pie_pref {x : It} (hx : ItOk x) {Z : List Nat} {j : Nat} {mk : Mk} {b y : List Nat} (h : pie8 mk ((pieB x ++ Z).take j) = some (b, y)) : (pieB x).length ≤ j ∧ y = Z.take (j - (pieB x).length) := by
 have hql := pieB_length x
 have e0 : pieB x ++ Z = hedB x.lab ++ (x.bytes ++ Z) := by unfold pieB; rw [List.append_assoc]
 obtain ⟨_, h26, hpk⟩ := hedB_at x.lab hx.lab (x.bytes ++ Z)
 rw [← e0] at h26 hpk
 unfold pie8 at h
 rw [hed8_is] at h
 split at h
 ·rename_i hc
  obtain ⟨c1, _, _, _, c5, c6⟩ := hc
  rw [List.length_take] at c1 c5
  have hj : 30 ≤ j := by omega
  rw [bytN_take _ _ _ _ (by omega), h26] at c5
  rw [mkAt_take _ _ _ (by omega)] at c6
  have hmk : mk.packed = x.lab.packed := by rw [← c6]; exact hpk
  rw [bnd8_s, bytN_take _ _ _ _ (by omega), h26] at h
  obtain ⟨t1, _, t3⟩ := tk8_some h
  rw [List.length_drop, List.length_take] at t1
  have hq : 30 + x.lab.name.length + mk.packed = (pieB x).length := by rw [hql, hx.len, hmk]
  refine ⟨by omega, ?_⟩
  rw [t3, List.drop_drop, hq, List.drop_take]
  congr 1
  exact List.drop_left
 ·rw [bnd8_n] at h; cases h

theorem rec_pref {m : Mk} (hm : MkOk m) {a : Nat} (ha : a < 4294967296) {Z : List Nat} {j : Nat} {p : Mk × Nat} {y : List Nat} (h : rec8 ((recB m a ++ Z).take j) = some (p, y)) : (recB m a).length ≤ j ∧ y = Z.take (j - (recB m a).length) := by
 have hql := recB_length m a
 obtain ⟨_, h28⟩ := recB_at m hm a ha Z
 rw [rec8_is] at h
 split at h
 ·rename_i hc
  obtain ⟨c1, _, _, _, _, _, c7⟩ := hc
  rw [List.length_take] at c1 c7
  rw [bytN_take _ _ _ _ (by omega), h28] at c7 h
  simp only [Option.some.injEq, Prod.mk.injEq] at h
  have h2 := h.2
  refine ⟨by omega, ?_⟩
  rw [← h2, ← hql, List.drop_take]
  congr 1
  exact List.drop_left
 ·cases h

theorem pie_no {Z : List Nat} (hz : bytN Z 0 4 ≠ 67324752) (j : Nat) (mk : Mk) : pie8 mk (Z.take j) = none := by
 unfold pie8
 rw [hed8_is]
 split
 ·rename_i hc
  obtain ⟨c1, c2, _⟩ := hc
  rw [List.length_take] at c1
  rw [bytN_take _ _ _ _ (by omega)] at c2
  exact absurd c2 hz
 ·rfl

theorem opn8_P {fs : Nat} {Z : List Nat} (hz : bytN Z 0 4 ≠ 67324752) (n : Nat) : ∀ (L1 : List It) (j : Nat) (R : List Nat) (acc L' : List It), (∀ x ∈ L1, ItOk x) → opn8 fs n ((piesB L1 ++ Z).take j) R acc = .ok L' → n ≤ L1.length ∧ (piesB (L1.take n)).length ≤ j ∧ ((piesB (L1.drop n) ++ Z).take (j - (piesB (L1.take n)).length)).length = 0 := by
 induction n with
 | zero =>
  intro L1 j R acc L' _ h
  rw [opn8] at h
  split at h
  ·rename_i hc
   refine ⟨Nat.zero_le _, Nat.zero_le _, ?_⟩
   simpa [piesB] using hc.1
  ·cases h
 | succ n ih =>
  intro L1 j R acc L' hok h
  rw [opn8] at h
  split at h
  ·cases h
  ·split at h
   ·cases h
   ·split at h
    ·cases h
    ·split at h
     ·cases h
     ·rename_i hp
      cases L1 with
      | nil =>
       rw [show piesB [] ++ Z = Z from rfl, pie_no hz] at hp
       cases hp
      | cons x r =>
       rw [piesB_cons, List.append_assoc] at hp
       obtain ⟨h1, h2⟩ := pie_pref (hok x (by simp)) hp
       rw [h2] at h
       obtain ⟨i1, i2, i3⟩ := ih r _ _ _ _ (fun y hy => hok y (by simp [hy])) h
       rw [List.take_succ_cons, List.drop_succ_cons, piesB_cons, List.length_append, List.length_cons]
       refine ⟨by omega, by omega, ?_⟩
       rw [show j - ((pieB x).length + (piesB (r.take n)).length) = j - (pieB x).length - (piesB (r.take n)).length by omega]
       exact i3

theorem opn8_R {fs : Nat} {Z : List Nat} (L1 : List It) : ∀ (a j : Nat) (P : List Nat) (acc L' : List It), (∀ x ∈ L1, ItOk x) → a + (piesB L1).length < 4294967296 → opn8 fs L1.length P ((recsB a L1 ++ Z).take j) acc = .ok L' → (recsB a L1).length ≤ j ∧ (Z.take (j - (recsB a L1).length)).length = 0 := by
 induction L1 with
 | nil =>
  intro a j P acc L' _ _ h
  rw [List.length_nil, opn8] at h
  split at h
  ·rename_i hc
   exact ⟨Nat.zero_le _, by simpa [recsB] using hc.2⟩
  ·cases h
 | cons x r ih =>
  intro a j P acc L' hok hb h
  rw [List.length_cons, opn8] at h
  rw [piesB_cons, List.length_append] at hb
  split at h
  ·cases h
  ·rename_i q hq
   split at h
   ·cases h
   ·split at h
    ·cases h
    ·split at h
     ·cases h
     ·rw [recsB, List.append_assoc] at hq
      obtain ⟨h1, h2⟩ := rec_pref (p := q.1) (y := q.2) (hok x (by simp)).lab (by omega) hq
      rw [h2] at h
      obtain ⟨i1, i2⟩ := ih _ _ _ _ _ (fun y hy => hok y (by simp [hy])) (by omega) h
      rw [recsB, List.length_append]
      refine ⟨by omega, ?_⟩
      rw [show j - ((recB x.lab a).length + (recsB (a + (pieB x).length) r).length) = j - (recB x.lab a).length - (recsB (a + (pieB x).length) r).length by omega]
      exact i2

theorem endB_sign (n l f : Nat) (hn : n < 65536) (hl : l < 4294967296) (hf : f < 4294967296) : bytN (endB n l f) 0 4 = 101010256 := by
 have h1 := enf8_app n l f hn hl hf
 rw [enf8_is _ (endB_length n l f)] at h1
 split at h1
 ·rename_i h2; exact h2.1
 ·cases h1

theorem cut_bad {L : List It} (ho : ∀ x ∈ L, ItOk x) (h64 : L.length ≤ 64) (hsm : (filB L).length ≤ 1048576) (m : Nat) (hm : m < (filB L).length) : ∃ k, opf8 ((filB L).take m) = .error k ∧ k ≠ 0 := by
 have hfl := filB_length L
 have hlen : ((filB L).take m).length = m := by rw [List.length_take]; omega
 cases hop : opf8 ((filB L).take m) with
 | error k =>
  refine ⟨k, rfl, ?_⟩
  have hnz : ∀ (n : Nat) (fs : Nat) (P R : List Nat) (acc : List It) (k : Nat), opn8 fs n P R acc = .error k → k ≠ 0 := by
   intro n
   induction n with
   | zero =>
    intro fs P R acc k h
    rw [opn8] at h
    split at h
    ·cases h
    ·simp only [Except.error.injEq] at h; omega
   | succ n ih =>
    intro fs P R acc k h
    rw [opn8] at h
    split at h
    ·simp only [Except.error.injEq] at h; omega
    ·split at h
     ·rename_i hc; simp only [Except.error.injEq] at h; rw [← h]; exact hc
     ·split at h
      ·simp only [Except.error.injEq] at h; omega
      ·split at h
       ·simp only [Except.error.injEq] at h; omega
       ·exact ih _ _ _ _ _ h
  unfold opf8 at hop
  split at hop
  ·simp only [Except.error.injEq] at hop; omega
  ·split at hop
   ·simp only [Except.error.injEq] at hop; omega
   ·split at hop
    ·rename_i he
     simp only [Except.error.injEq] at hop
     unfold end8 at he
     split at he
     ·simp only [Except.error.injEq] at he; omega
     ·split at he
      ·simp only [Except.error.injEq] at he; omega
      ·split at he
       ·simp only [Except.error.injEq] at he; omega
       ·cases he
    ·exact hnz _ _ _ _ _ _ hop
 | ok L' =>
  exfalso
  unfold opf8 at hop
  rw [hlen] at hop
  split at hop
  ·cases hop
  ·split at hop
   ·cases hop
   ·rename_i h22
    split at hop
    ·cases hop
    ·rename_i q he
     obtain ⟨cnt, fs⟩ := q
     simp only at hop
     obtain ⟨hf1, hf2⟩ := end8_ok he
     obtain ⟨Z, hZ⟩ : ∃ Z, Z = recsB 0 L ++ endB L.length (recsB 0 L).length (piesB L).length := ⟨_, rfl⟩
     have hF : filB L = piesB L ++ Z := by rw [hZ]; rfl
     have hZl : 22 ≤ Z.length := by rw [hZ, List.length_append, endB_length]; omega
     have hes := endB_sign L.length (recsB 0 L).length (piesB L).length (by omega) (by omega) (by omega)
     have hzs : bytN Z 0 4 ≠ 67324752 := by
      rw [hZ]
      cases hL : L with
      | nil => rw [hL] at hes; rw [show recsB 0 [] ++ endB ([] : List It).length (recsB 0 []).length (piesB []).length = endB ([] : List It).length (recsB 0 []).length (piesB []).length from rfl, hes]; decide
      | cons x r =>
       rw [recsB, List.append_assoc, (recB_at x.lab (ho x (by rw [hL]; simp)).lab 0 (by decide) _).1]
       decide
     rw [List.take_take, Nat.min_eq_left (by omega), List.take_take, Nat.min_eq_left (by omega), hF] at hop
     obtain ⟨p1, p2, p3⟩ := opn8_P hzs cnt L fs _ _ _ ho hop
     have hfs : fs = (piesB (L.take cnt)).length := by
      rw [List.length_take, List.length_append] at p3
      omega
     have hsplit : piesB L = piesB (L.take cnt) ++ piesB (L.drop cnt) := by
      unfold piesB
      rw [← List.flatMap_append, List.take_append_drop]
     have hR : ((piesB L ++ Z).take (m - 22)).drop fs = (piesB (L.drop cnt) ++ Z).take (m - 22 - fs) := by
      rw [List.drop_take]
      congr 1
      rw [hsplit, List.append_assoc, hfs, List.drop_left]
     rw [hR] at hop
     cases cnt with
     | zero =>
      have hfs0 : fs = 0 := by rw [hfs]; rfl
      rw [opn8] at hop
      split at hop
      ·rename_i hc
       have h9 := hc.2
       rw [List.length_take, List.length_append] at h9
       have hm22 : m = 22 := by omega
       unfold end8 at he
       cases hen : enf8 (((filB L).take m).drop (m - 22)) with
       | none => rw [hen] at he; cases he
       | some q =>
        rw [hm22, Nat.sub_self, List.drop_zero] at hen
        rw [enf8_is _ (by rw [List.length_take]; omega)] at hen
        split at hen
        ·rename_i hs
         have hs := hs.1
         rw [bytN_take _ _ _ _ (by decide)] at hs
         by_cases hL : L = []
         ·rw [hL] at hm
          have : (filB []).length = 22 := rfl
          omega
         ·obtain ⟨x, r, hL⟩ := List.exists_cons_of_ne_nil hL
          have e9 : filB L = hedB x.lab ++ (x.bytes ++ (piesB r ++ Z)) := by
           rw [hF, show piesB L = piesB (x :: r) by rw [hL], piesB_cons]
           unfold pieB
           simp only [List.append_assoc]
          rw [e9, (hedB_at x.lab (ho x (by rw [hL]; simp)).lab _).1] at hs
          cases hs
        ·cases hen
      ·cases hop
     | succ cnt =>
      have hop0 := hop
      rw [opn8] at hop
      split at hop
      ·cases hop
      ·rename_i q hq
       rw [rec8_is] at hq
       split at hq
       ·rename_i hc
        have h46 := hc.1
        have hs := hc.2.1
        rw [List.length_take] at h46
        rw [bytN_take _ _ _ _ (by omega)] at hs
        cases hd : L.drop (cnt + 1) with
        | cons x r =>
         rw [hd, piesB_cons] at hs
         unfold pieB at hs
         rw [List.append_assoc, List.append_assoc, (hedB_at x.lab (ho x (by have := List.mem_of_mem_drop (a := x) (i := cnt + 1) (l := L) (by rw [hd]; simp); exact this)).lab _).1] at hs
         cases hs
        | nil =>
         have hcl : cnt + 1 = L.length := by
          have := List.drop_eq_nil_iff.1 hd
          omega
         rw [hd] at hop0
         rw [hcl, show piesB [] ++ Z = Z from rfl, hZ] at hop0
         have hfs2 : fs = (piesB L).length := by rw [hfs, hcl, List.take_length]
         obtain ⟨r1, r2⟩ := opn8_R L 0 _ _ _ _ ho (by omega) hop0
         rw [List.length_take, endB_length] at r2
         omega
       ·cases hq

theorem ahead_bad {L : List It} (h64 : L.length ≤ 64) (hsm : (filB L).length ≤ 1048576) (b : Nat) : opf8 (b :: filB L) = .error 81 ∨ opf8 (b :: filB L) = .error 2 := by
 have hfl := filB_length L
 unfold opf8
 by_cases h1 : 1048576 < (b :: filB L).length
 ·rw [if_pos h1]; exact .inr rfl
 ·left
  rw [if_neg h1, if_neg (by rw [List.length_cons]; omega)]
  have e1 : (b :: filB L).length - 22 = (filB L).length - 22 + 1 := by rw [List.length_cons]; omega
  rw [e1, List.drop_succ_cons]
  have e2 : (filB L).length - 22 = (piesB L ++ recsB 0 L).length := by rw [List.length_append]; omega
  have e3 : filB L = (piesB L ++ recsB 0 L) ++ endB L.length (recsB 0 L).length (piesB L).length := by simp [filB]
  have e4 : (filB L).drop ((filB L).length - 22) = endB L.length (recsB 0 L).length (piesB L).length := by
   rw [e2]
   conv => lhs; rw [e3]
   rw [List.drop_left]
  rw [e4]
  unfold end8
  rw [enf8_app _ _ _ (by omega) (by omega) (by omega)]
  simp only
  rw [if_pos (by omega)]

end Go.Proofs.YtljlmfnbeofmmaaGreatDoor

namespace Go.Proofs.YtljlmfnbeofmmaaGreatDoor
open Go.RowKit

theorem i64_bounds8 {z : Int} (h : (Lit.int .i64 z).wf = true) : -9223372036854775808 ≤ z ∧ z ≤ 9223372036854775807 := by
 simp [Lit.wf, IntKind.min, IntKind.max, IntKind.signed, IntKind.bits] at h
 omega

theorem rd8_bad {bs : List Nat} {k : Nat} (h : opf8 bs = .error k) : rd8 bs = .error k := by unfold rd8; rw [h]

theorem Src.take8 {w : World} {I : Nat → Prop} {a : Option Addr} {n cap k : Nat} {bs : List Nat} (h : Src w I (.slice a n cap) bs) (hk : k ≤ bs.length) (c' : Nat) : Src w I (.slice a k c') (bs.take k) := by
 obtain ⟨ao, c, e, hs⟩ := h
 simp only [Value.slice.injEq] at e
 obtain ⟨rfl, hn, rfl⟩ := e
 refine ⟨a, c', by rw [List.length_take, Nat.min_eq_left hk], fun hne => ?_⟩
 obtain ⟨b, o, h1, h2, h3⟩ := hs (fun e => hne (by rw [e]; simp))
 refine ⟨b, o, h1, h2, fun j hj => ?_⟩
 rw [List.length_take] at hj
 rw [h3 j (by omega), List.getElem_take]

set_option maxRecDepth 100000 in
set_option maxHeartbeats 400000 in
theorem zcuts_any (a : Option Addr) (len cap : Nat) (E : Nat → En) (m : Int) (W : World) (he : Ents W (fun _ => True) a len E) (hc : len ≤ cap) (hr : len ≤ reachBytes) (hz : ∀ j, j < len → (E j).n.size ≤ reachBytes ∧ (E j).d.size ≤ reachBytes) (hm : (Lit.int .i64 m).wf = true) (hT : Tab W) (hx : Mxl W) :
  Calls Tryz.prog 7 #[.slice a len cap, .int .i64 m] W fun e w' => e = .returned (.bool true) ∧ Same W w' := by
 have HL := zlarge_any W a len cap E he hr hz
 have HS : Hid (Ents W (fun _ => True) a len E) := he
 have HX : Hid (Mxl W) := hx
 have HT : Hid (Tab W) := hT
 have hmb : -9223372036854775808 ≤ m ∧ m ≤ 9223372036854775807 := i64_bounds8 hm
 have HM : Hid (-9223372036854775808 ≤ m ∧ m ≤ 9223372036854775807) := hmb
 have HC : Hid (len ≤ cap) := hc
 clear he hz hm hx hT hr hmb hc
 go_enter Tryz.func7, Tryz.ntmps7
 go_wp2_with fail
 refine HL.mono ?_
 rintro e w1 ⟨⟨b, rfl, hlg⟩, hk1⟩
 have HK1 : Hid (Same W w1) := hk1
 have HLG : Hid (LgA E len b) := hlg
 clear hk1 HL hlg
 cases b with
 | true =>
  have HA := zawake_any w1 (HX.out.kept HK1.out (fun f => f)) (HT.out.kept HK1.out (fun f => f))
  go_wp2_with fail
  refine HA.mono ?_
  rintro e w2 ⟨rfl, hk2⟩
  have HK2 : Hid (Same W w2) := hid (Same.trans HK1.out hk2)
  clear hk2 HA
  go_wp2_with fail
  go_ret
  exact ⟨rfl, HK2.out⟩
 | false =>
  have hlen : len ≤ 16777216 := (HLG.out rfl).1
  by_cases hck : chkE E len = 0
  ·have HWr := zwrite_good w1 a len cap E (HS.out.kept HK1.out (fun _ _ f => f)) HC.out (HX.out.kept HK1.out (fun f => f)) (HT.out.kept HK1.out (fun f => f)) hck
   go_wp2_with fail
   refine HWr.mono ?_
   rintro e w2 ⟨v2, L, rfl, hf2, hi2⟩
   obtain ⟨hok, _, h64⟩ := its_ok hi2 hck
   have hsm := its_small hi2 hck
   have hby := its_byte hi2 hck
   have hah := ahead_bad h64 hsm 80
   have HCUT : Hid (∀ k, k < (filB L).length → ∃ x, opf8 ((filB L).take k) = .error x ∧ x ≠ 0) := hid (cut_bad hok h64 hsm)
   have h22 : 22 ≤ (filB L).length := by rw [filB_length]; omega
   obtain ⟨F, hF⟩ : ∃ F, F = filB L := ⟨_, rfl⟩
   rw [← hF] at hf2 hsm hby hah HCUT h22
   obtain ⟨a2, c2, hv2, hcap2, _⟩ := hf2.row.shape8
   obtain ⟨n, hn⟩ : ∃ n, n = F.length := ⟨_, rfl⟩
   rw [← hn] at hv2 hcap2 hsm HCUT h22
   subst hv2
   have HR2 : Hid (Row w2 (.slice a2 n c2) F) := hid hf2.row
   have HN : Hid (n = F.length) := hn
   have HBY : Hid (∀ x ∈ F, x < 256) := hby
   have HK2 : Hid (Same W w2) := hid (Same.trans HK1.out hf2.kept)
   have HAH : Hid (opf8 (80 :: F) = .error 81 ∨ opf8 (80 :: F) = .error 2) := hah
   have b1 : decide ((1048576 : Int) < (n : Int)) = false := by simp; omega
   have b1' : decide (1048576 < n) = false := by simp; omega
   have b2 : decide ((n : Int) < 22) = false := by simp; omega
   have b2' : decide (n < 22) = false := by simp; omega
   have b3 : ((n : Int) == 0) = false := by simp; omega
   clear hf2 hi2 hok h64 hby hah hF hn HWr hck HLG
   have hsign : (∃ c0 : Nat, m = (c0 : Int) ∧ c0 < 9223372036854775808) ∨ (∃ c0 : Nat, m < 0 ∧ -(m + 1) = (c0 : Int) ∧ c0 < 9223372036854775808) := by
    have := HM.out
    by_cases h : m < 0
    ·exact .inr ⟨(-(m + 1)).toNat, h, by omega, by omega⟩
    ·exact .inl ⟨m.toNat, by omega, by omega⟩
   rcases hsign with ⟨c0, hc0, hc1⟩ | ⟨c0, hneg, hc0, hc1⟩
   ·subst hc0
    have s1 : decide ((c0 : Int) < 0) = false := by simp
    obtain ⟨r, hr⟩ : ∃ r, r = c0 % n := ⟨_, rfl⟩
    have hrn : r < n := by rw [hr]; exact Nat.mod_lt _ (by omega)
    have t1 : Int.tmod (c0 : Int) (n : Int) = (r : Int) := by rw [hr]; rfl
    have t1' : (c0 : Int) % (n : Int) = (r : Int) := by rw [hr]; rfl
    obtain ⟨x, hx⟩ : ∃ x, x = 1 + r := ⟨_, rfl⟩
    obtain ⟨k, hk⟩ : ∃ k, k = n - x := ⟨_, rfl⟩
    have t2 : (1 : Int) + (r : Int) = (x : Int) := by omega
    have t2w : IntKind.i64.wrap (x : Int) = (x : Int) := by rw [IntKind.wrap_i64]; omega
    have t3 : (n : Int) - (x : Int) = (k : Int) := by omega
    have t3w : IntKind.i64.wrap (k : Int) = (k : Int) := by rw [IntKind.wrap_i64]; omega
    have k1 : (0 : Int) ≤ (k : Int) := by omega
    have k2 : (k : Int) ≤ (c2 : Int) := by omega
    have hkn : k < n := by omega
    clear hr hx hk
    go_wp2_with fail
    obtain ⟨x1, hop1, hx1⟩ := HCUT.out k hkn
    have HRD := read_any w2 a2 k c2 (F.take k) (Src.take8 HR2.out.low8 (by have := HN.out; omega) c2) (by rw [List.length_take]; have := HN.out; omega) (fun x hx => HBY.out x (List.mem_of_mem_take hx)) (by omega) (by omega) (HX.out.kept HK2.out (fun f => f)) (fun L hL => by rw [hop1] at hL; cases hL)
    rw [rd8_bad hop1] at HRD
    have hxe : ((x1 : Int) == 0) = false := by simp; omega
    have hxn : ((x1 : Int) != 0) = true := by simp; omega
    refine HRD.mono ?_
    intro e w3 h3
    obtain rfl := h3.1 x1 rfl
    have HK3 : Hid (Same w2 w3) := hid h3.2.2
    clear HRD h3 hop1 hx1 HCUT
    go_wp2_with (first | (at_builtin; refine wpList_append_any _ rfl (.tmp 62) (.tmp 63) rfl (.slice none 0 0) [] rfl (World.ownsRow_nil _ 0 5 1) _ _ [80] rfl (fun n c e => by cases e) (src_lit w3 [80] 1 rfl) (by decide) ?_; intro v4 w4 hr4 hg4 ho4; have HR4 : Hid (Row w4 v4 [80]) := hr4; have HK4 : Hid (Same w3 w4) := hid ((show Same w3 (w3.alloc (.cells #[.int .u8 80] 5)) from (Kept.refl _ _).alloc _).then ((Kept.refl (fun k => (Value.slice none 0 0).ownBlock = some k) _).grown hg4 (fun k e => .inl e)) (fun x hx e => by cases e)); have HN4 : Hid (∀ k, v4.ownBlock = some k → w3.heap.size ≤ k) := hid (fun k e => by rcases ho4 with h | h <;> rw [h] at e; cases e; simp only [Option.some.injEq] at e; simp at e; omega); clear hr4 hg4 ho4) | (at_builtin; refine wpList_append_any _ rfl (.tmp 65) (.tmp 66) rfl _ [80] rfl HR4.out _ _ F rfl (nil8 HR2.out) ((Src.ofRow HR2.out).kept (Same.trans HK3.out HK4.out) (fun _ _ _ f => f)) (by have := HN.out; simp; omega) ?_; intro v5 w5 hr5 hg5 ho5; have HR5 : Hid (Row w5 v5 (80 :: F)) := hr5; have HK5 : Hid (Same w3 w5) := hid (HK4.out.then ((Kept.refl (fun k => v4.ownBlock = some k) _).grown hg5 (fun k e => .inl e)) (fun x hx e => by have := HN4.out x e; omega)); obtain ⟨a5, c5, hv5, hcap5, _⟩ := HR5.out.shape8; rw [List.length_cons, ← HN.out] at hv5 hcap5; subst hv5; clear hr5 hg5 ho5))
    have HK25 : Hid (Same W w5) := hid (Same.trans HK2.out (Same.trans HK3.out HK5.out))
    rcases HAH.out with hop2 | hop2
    all_goals
     have HRD := read_any w5 a5 (n + 1) c5 (80 :: F) HR5.out.low8 (by rw [List.length_cons, ← HN.out]) (fun x hx => by rcases List.mem_cons.1 hx with e | e; omega; exact HBY.out x e) hcap5 (by omega) (HX.out.kept HK25.out (fun f => f)) (fun L hL => by rw [hop2] at hL; cases hL)
     rw [rd8_bad hop2] at HRD
     refine HRD.mono ?_
     intro e w6 h6
     obtain rfl := h6.1 _ rfl
     have HK6 : Hid (Same W w6) := hid (Same.trans HK25.out h6.2.2)
     have HA := zawake_any w6 (HX.out.kept HK6.out (fun f => f)) (HT.out.kept HK6.out (fun f => f))
     clear HRD h6 hop2
     go_wp2_with fail
     refine HA.mono ?_
     rintro e w7 ⟨rfl, hk7⟩
     have HK7 : Hid (Same W w7) := hid (Same.trans HK6.out hk7)
     clear hk7 HA
     go_wp2_with fail
     go_ret
     exact ⟨rfl, HK7.out⟩
   ·have s1 : decide (m < 0) = true := by simp; omega
    have s2 : IntKind.i64.wrap (m + 1) = m + 1 := by rw [IntKind.wrap_i64]; have := HM.out; omega
    have s3 : IntKind.i64.wrap (c0 : Int) = (c0 : Int) := by rw [IntKind.wrap_i64]; omega
    obtain ⟨r, hr⟩ : ∃ r, r = c0 % n := ⟨_, rfl⟩
    have hrn : r < n := by rw [hr]; exact Nat.mod_lt _ (by omega)
    have t1 : Int.tmod (c0 : Int) (n : Int) = (r : Int) := by rw [hr]; rfl
    have t1' : (c0 : Int) % (n : Int) = (r : Int) := by rw [hr]; rfl
    obtain ⟨x, hx⟩ : ∃ x, x = 1 + r := ⟨_, rfl⟩
    obtain ⟨k, hk⟩ : ∃ k, k = n - x := ⟨_, rfl⟩
    have t2 : (1 : Int) + (r : Int) = (x : Int) := by omega
    have t2w : IntKind.i64.wrap (x : Int) = (x : Int) := by rw [IntKind.wrap_i64]; omega
    have t3 : (n : Int) - (x : Int) = (k : Int) := by omega
    have t3w : IntKind.i64.wrap (k : Int) = (k : Int) := by rw [IntKind.wrap_i64]; omega
    have k1 : (0 : Int) ≤ (k : Int) := by omega
    have k2 : (k : Int) ≤ (c2 : Int) := by omega
    have hkn : k < n := by omega
    clear hr hx hk
    go_wp2_with fail
    obtain ⟨x1, hop1, hx1⟩ := HCUT.out k hkn
    have HRD := read_any w2 a2 k c2 (F.take k) (Src.take8 HR2.out.low8 (by have := HN.out; omega) c2) (by rw [List.length_take]; have := HN.out; omega) (fun x hx => HBY.out x (List.mem_of_mem_take hx)) (by omega) (by omega) (HX.out.kept HK2.out (fun f => f)) (fun L hL => by rw [hop1] at hL; cases hL)
    rw [rd8_bad hop1] at HRD
    have hxe : ((x1 : Int) == 0) = false := by simp; omega
    have hxn : ((x1 : Int) != 0) = true := by simp; omega
    refine HRD.mono ?_
    intro e w3 h3
    obtain rfl := h3.1 x1 rfl
    have HK3 : Hid (Same w2 w3) := hid h3.2.2
    clear HRD h3 hop1 hx1 HCUT
    go_wp2_with (first | (at_builtin; refine wpList_append_any _ rfl (.tmp 62) (.tmp 63) rfl (.slice none 0 0) [] rfl (World.ownsRow_nil _ 0 5 1) _ _ [80] rfl (fun n c e => by cases e) (src_lit w3 [80] 1 rfl) (by decide) ?_; intro v4 w4 hr4 hg4 ho4; have HR4 : Hid (Row w4 v4 [80]) := hr4; have HK4 : Hid (Same w3 w4) := hid ((show Same w3 (w3.alloc (.cells #[.int .u8 80] 5)) from (Kept.refl _ _).alloc _).then ((Kept.refl (fun k => (Value.slice none 0 0).ownBlock = some k) _).grown hg4 (fun k e => .inl e)) (fun x hx e => by cases e)); have HN4 : Hid (∀ k, v4.ownBlock = some k → w3.heap.size ≤ k) := hid (fun k e => by rcases ho4 with h | h <;> rw [h] at e; cases e; simp only [Option.some.injEq] at e; simp at e; omega); clear hr4 hg4 ho4) | (at_builtin; refine wpList_append_any _ rfl (.tmp 65) (.tmp 66) rfl _ [80] rfl HR4.out _ _ F rfl (nil8 HR2.out) ((Src.ofRow HR2.out).kept (Same.trans HK3.out HK4.out) (fun _ _ _ f => f)) (by have := HN.out; simp; omega) ?_; intro v5 w5 hr5 hg5 ho5; have HR5 : Hid (Row w5 v5 (80 :: F)) := hr5; have HK5 : Hid (Same w3 w5) := hid (HK4.out.then ((Kept.refl (fun k => v4.ownBlock = some k) _).grown hg5 (fun k e => .inl e)) (fun x hx e => by have := HN4.out x e; omega)); obtain ⟨a5, c5, hv5, hcap5, _⟩ := HR5.out.shape8; rw [List.length_cons, ← HN.out] at hv5 hcap5; subst hv5; clear hr5 hg5 ho5))
    have HK25 : Hid (Same W w5) := hid (Same.trans HK2.out (Same.trans HK3.out HK5.out))
    rcases HAH.out with hop2 | hop2
    all_goals
     have HRD := read_any w5 a5 (n + 1) c5 (80 :: F) HR5.out.low8 (by rw [List.length_cons, ← HN.out]) (fun x hx => by rcases List.mem_cons.1 hx with e | e; omega; exact HBY.out x e) hcap5 (by omega) (HX.out.kept HK25.out (fun f => f)) (fun L hL => by rw [hop2] at hL; cases hL)
     rw [rd8_bad hop2] at HRD
     refine HRD.mono ?_
     intro e w6 h6
     obtain rfl := h6.1 _ rfl
     have HK6 : Hid (Same W w6) := hid (Same.trans HK25.out h6.2.2)
     have HA := zawake_any w6 (HX.out.kept HK6.out (fun f => f)) (HT.out.kept HK6.out (fun f => f))
     clear HRD h6 hop2
     go_wp2_with fail
     refine HA.mono ?_
     rintro e w7 ⟨rfl, hk7⟩
     have HK7 : Hid (Same W w7) := hid (Same.trans HK6.out hk7)
     clear hk7 HA
     go_wp2_with fail
     go_ret
     exact ⟨rfl, HK7.out⟩
  ·have HWr := zwrite_bad w1 a len cap E (HS.out.kept HK1.out (fun _ _ f => f)) (by omega) HC.out (HX.out.kept HK1.out (fun f => f)) hck
   obtain ⟨x, hx⟩ : ∃ x, x = chkE E len := ⟨_, rfl⟩
   rw [← hx] at HWr hck
   have hxn : ((x : Int) != 0) = true := by simp; omega
   clear hx hck
   go_wp2_with fail
   refine HWr.mono ?_
   rintro e w2 ⟨rfl, hk2⟩
   have HK2 : Hid (Same W w2) := hid (Same.trans HK1.out hk2)
   have HA := zawake_any w2 (HX.out.kept HK2.out (fun f => f)) (HT.out.kept HK2.out (fun f => f))
   clear hk2 HWr
   go_wp2_with fail
   refine HA.mono ?_
   rintro e w3 ⟨rfl, hk3⟩
   have HK3 : Hid (Same W w3) := hid (Same.trans HK2.out hk3)
   clear hk3 HA
   go_wp2_with fail
   go_ret
   exact ⟨rfl, HK3.out⟩

theorem zipCuts_all (a : Option Addr) (len cap : Nat) (E : Nat → En) (m : Int) (W : World) (he : Ents W (fun _ => True) a len E) (hc : len ≤ cap) (hr : len ≤ reachBytes) (hz : ∀ j, j < len → (E j).n.size ≤ reachBytes ∧ (E j).d.size ≤ reachBytes) (hm : (Lit.int .i64 m).wf = true) (hT : Tab W) (hx : Mxl W) :
  Calls Tryz.prog 7 #[.slice a len cap, .int .i64 m] W fun e w' => e = .returned (.bool true) ∧ Below W.heap.size W w' :=
 (zcuts_any a len cap E m W he hc hr hz hm hT hx).mono (fun _ _ h => ⟨h.1, h.2.bel⟩)

end Go.Proofs.YtljlmfnbeofmmaaGreatDoor
