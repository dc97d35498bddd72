import Derived.Test.YtljlmfnbeofmmaaGreatDoorZqM
import Derived.Test.YtljlmfnbeofmmaaGreatDoorZqK
namespace Go.Proofs.YtljlmfnbeofmmaaGreatDoor

theorem bytN_take (l : List Nat) (o n j : Nat) (h : o + n ≤ j) : bytN (l.take j) o n = bytN l o n := by
 unfold bytN
 rw [List.drop_take, List.take_take, Nat.min_eq_left (by omega)]

theorem mkAt_take (l : List Nat) (o j : Nat) (h : o + 22 ≤ j) : mkAt (l.take j) o = mkAt l o := by
 unfold mkAt
 rw [bytN_take _ _ _ _ (by omega), bytN_take _ _ _ _ (by omega), bytN_take _ _ _ _ (by omega), bytN_take _ _ _ _ (by omega)]

theorem hedB_at (m : Mk) (h : MkOk m) (r : List Nat) : bytN (hedB m ++ r) 0 4 = 67324752 ∧ bytN (hedB m ++ r) 26 2 = m.name.length ∧ (mkAt (hedB m ++ r) 4).packed = m.packed := by
 have h1 := hed8_app m h r
 rw [hed8_is] at h1
 split at h1
 ·rename_i h2
  obtain ⟨_, h3, _, _, h4, h5⟩ := h2
  refine ⟨h3, ?_, ?_⟩
  ·have h6 := congrArg (fun q => q.name.length) h5
   simp only [Mk.named, List.length_take, List.length_drop] at h6
   omega
  ·exact congrArg (fun q => q.packed) h5
 ·cases h1

theorem recB_at (m : Mk) (h : MkOk m) (a : Nat) (ha : a < 4294967296) (r : List Nat) : bytN (recB m a ++ r) 0 4 = 33639248 ∧ bytN (recB m a ++ r) 28 2 = m.name.length := by
 have h1 := rec8_app m h a ha r
 rw [rec8_is] at h1
 split at h1
 ·rename_i h2
  obtain ⟨_, h3, _, _, _, _, h4⟩ := h2
  refine ⟨h3, ?_⟩
  simp only [Option.some.injEq, Prod.mk.injEq] at h1
  have h6 := congrArg (fun q => q.name.length) h1.1.1
  simp only [Mk.named, List.length_take, List.length_drop] at h6
  omega
 ·cases h1

theorem pie_pref {x : It} (hx : ItOk x) {Z : List Nat} {j : Nat} {mk : Mk} {b y : List Nat} (h : pie8 mk ((pieB x ++ Z).take j) = some (b, y)) : (pieB x).length ≤ j ∧ y = Z.take (j - (pieB x).length) := by
 have hql := pieB_length x
 have e0 : pieB x ++ Z = hedB x.lab ++ (x.bytes ++ Z) := by unfold pieB; rw [List.append_assoc]
 obtain ⟨_, h26, hpk⟩ := hedB_at x.lab hx.lab (x.bytes ++ Z)
 rw [← e0] at h26 hpk
 unfold pie8 at h
 rw [hed8_is] at h
 split at h
 ·rename_i hc
  obtain ⟨c1, _, _, _, c5, c6⟩ := hc
  rw [List.length_take] at c1 c5
  have hj : 30 ≤ j := by omega
  rw [bytN_take _ _ _ _ (by omega), h26] at c5
  rw [mkAt_take _ _ _ (by omega)] at c6
  have hmk : mk.packed = x.lab.packed := by rw [← c6]; exact hpk
  rw [bnd8_s, bytN_take _ _ _ _ (by omega), h26] at h
  obtain ⟨t1, _, t3⟩ := tk8_some h
  rw [List.length_drop, List.length_take] at t1
  have hq : 30 + x.lab.name.length + mk.packed = (pieB x).length := by rw [hql, hx.len, hmk]
  refine ⟨by omega, ?_⟩
  rw [t3, List.drop_drop, hq, List.drop_take]
  congr 1
  exact List.drop_left
 ·rw [bnd8_n] at h; cases h

theorem rec_pref {m : Mk} (hm : MkOk m) {a : Nat} (ha : a < 4294967296) {Z : List Nat} {j : Nat} {p : Mk × Nat} {y : List Nat} (h : rec8 ((recB m a ++ Z).take j) = some (p, y)) : (recB m a).length ≤ j ∧ y = Z.take (j - (recB m a).length) := by
 have hql := recB_length m a
 obtain ⟨_, h28⟩ := recB_at m hm a ha Z
 rw [rec8_is] at h
 split at h
 ·rename_i hc
  obtain ⟨c1, _, _, _, _, _, c7⟩ := hc
  rw [List.length_take] at c1 c7
  rw [bytN_take _ _ _ _ (by omega), h28] at c7 h
  simp only [Option.some.injEq, Prod.mk.injEq] at h
  have h2 := h.2
  refine ⟨by omega, ?_⟩
  rw [← h2, ← hql, List.drop_take]
  congr 1
  exact List.drop_left
 ·cases h

theorem pie_no {Z : List Nat} (hz : bytN Z 0 4 ≠ 67324752) (j : Nat) (mk : Mk) : pie8 mk (Z.take j) = none := by
 unfold pie8
 rw [hed8_is]
 split
 ·rename_i hc
  obtain ⟨c1, c2, _⟩ := hc
  rw [List.length_take] at c1
  rw [bytN_take _ _ _ _ (by omega)] at c2
  exact absurd c2 hz
 ·rfl

theorem opn8_P {fs : Nat} {Z : List Nat} (hz : bytN Z 0 4 ≠ 67324752) (n : Nat) : ∀ (L1 : List It) (j : Nat) (R : List Nat) (acc L' : List It), (∀ x ∈ L1, ItOk x) → opn8 fs n ((piesB L1 ++ Z).take j) R acc = .ok L' → n ≤ L1.length ∧ (piesB (L1.take n)).length ≤ j ∧ ((piesB (L1.drop n) ++ Z).take (j - (piesB (L1.take n)).length)).length = 0 := by
 induction n with
 | zero =>
  intro L1 j R acc L' _ h
  rw [opn8] at h
  split at h
  ·rename_i hc
   refine ⟨Nat.zero_le _, Nat.zero_le _, ?_⟩
   simpa [piesB] using hc.1
  ·cases h
 | succ n ih =>
  intro L1 j R acc L' hok h
  rw [opn8] at h
  split at h
  ·cases h
  ·split at h
   ·cases h
   ·split at h
    ·cases h
    ·split at h
     ·cases h
     ·rename_i hp
      cases L1 with
      | nil =>
       rw [show piesB [] ++ Z = Z from rfl, pie_no hz] at hp
       cases hp
      | cons x r =>
       rw [piesB_cons, List.append_assoc] at hp
       obtain ⟨h1, h2⟩ := pie_pref (hok x (by simp)) hp
       rw [h2] at h
       obtain ⟨i1, i2, i3⟩ := ih r _ _ _ _ (fun y hy => hok y (by simp [hy])) h
       rw [List.take_succ_cons, List.drop_succ_cons, piesB_cons, List.length_append, List.length_cons]
       refine ⟨by omega, by omega, ?_⟩
       rw [show j - ((pieB x).length + (piesB (r.take n)).length) = j - (pieB x).length - (piesB (r.take n)).length by omega]
       exact i3

theorem opn8_R {fs : Nat} {Z : List Nat} (L1 : List It) : ∀ (a j : Nat) (P : List Nat) (acc L' : List It), (∀ x ∈ L1, ItOk x) → a + (piesB L1).length < 4294967296 → opn8 fs L1.length P ((recsB a L1 ++ Z).take j) acc = .ok L' → (recsB a L1).length ≤ j ∧ (Z.take (j - (recsB a L1).length)).length = 0 := by
 induction L1 with
 | nil =>
  intro a j P acc L' _ _ h
  rw [List.length_nil, opn8] at h
  split at h
  ·rename_i hc
   exact ⟨Nat.zero_le _, by simpa [recsB] using hc.2⟩
  ·cases h
 | cons x r ih =>
  intro a j P acc L' hok hb h
  rw [List.length_cons, opn8] at h
  rw [piesB_cons, List.length_append] at hb
  split at h
  ·cases h
  ·rename_i q hq
   split at h
   ·cases h
   ·split at h
    ·cases h
    ·split at h
     ·cases h
     ·rw [recsB, List.append_assoc] at hq
      obtain ⟨h1, h2⟩ := rec_pref (p := q.1) (y := q.2) (hok x (by simp)).lab (by omega) hq
      rw [h2] at h
      obtain ⟨i1, i2⟩ := ih _ _ _ _ _ (fun y hy => hok y (by simp [hy])) (by omega) h
      rw [recsB, List.length_append]
      refine ⟨by omega, ?_⟩
      rw [show j - ((recB x.lab a).length + (recsB (a + (pieB x).length) r).length) = j - (recB x.lab a).length - (recsB (a + (pieB x).length) r).length by omega]
      exact i2

theorem endB_sign (n l f : Nat) (hn : n < 65536) (hl : l < 4294967296) (hf : f < 4294967296) : bytN (endB n l f) 0 4 = 101010256 := by
 have h1 := enf8_app n l f hn hl hf
 rw [enf8_is _ (endB_length n l f)] at h1
 split at h1
 ·rename_i h2; exact h2.1
 ·cases h1

theorem cut_bad {L : List It} (ho : ∀ x ∈ L, ItOk x) (h64 : L.length ≤ 64) (hsm : (filB L).length ≤ 1048576) (m : Nat) (hm : m < (filB L).length) : ∃ k, opf8 ((filB L).take m) = .error k ∧ k ≠ 0 := by
 have hfl := filB_length L
 have hlen : ((filB L).take m).length = m := by rw [List.length_take]; omega
 cases hop : opf8 ((filB L).take m) with
 | error k =>
  refine ⟨k, rfl, ?_⟩
  have hnz : ∀ (n : Nat) (fs : Nat) (P R : List Nat) (acc : List It) (k : Nat), opn8 fs n P R acc = .error k → k ≠ 0 := by
   intro n
   induction n with
   | zero =>
    intro fs P R acc k h
    rw [opn8] at h
    split at h
    ·cases h
    ·simp only [Except.error.injEq] at h; omega
   | succ n ih =>
    intro fs P R acc k h
    rw [opn8] at h
    split at h
    ·simp only [Except.error.injEq] at h; omega
    ·split at h
     ·rename_i hc; simp only [Except.error.injEq] at h; rw [← h]; exact hc
     ·split at h
      ·simp only [Except.error.injEq] at h; omega
      ·split at h
       ·simp only [Except.error.injEq] at h; omega
       ·exact ih _ _ _ _ _ h
  unfold opf8 at hop
  split at hop
  ·simp only [Except.error.injEq] at hop; omega
  ·split at hop
   ·simp only [Except.error.injEq] at hop; omega
   ·split at hop
    ·rename_i he
     simp only [Except.error.injEq] at hop
     unfold end8 at he
     split at he
     ·simp only [Except.error.injEq] at he; omega
     ·split at he
      ·simp only [Except.error.injEq] at he; omega
      ·split at he
       ·simp only [Except.error.injEq] at he; omega
       ·cases he
    ·exact hnz _ _ _ _ _ _ hop
 | ok L' =>
  exfalso
  unfold opf8 at hop
  rw [hlen] at hop
  split at hop
  ·cases hop
  ·split at hop
   ·cases hop
   ·rename_i h22
    split at hop
    ·cases hop
    ·rename_i q he
     obtain ⟨cnt, fs⟩ := q
     simp only at hop
     obtain ⟨hf1, hf2⟩ := end8_ok he
     obtain ⟨Z, hZ⟩ : ∃ Z, Z = recsB 0 L ++ endB L.length (recsB 0 L).length (piesB L).length := ⟨_, rfl⟩
     have hF : filB L = piesB L ++ Z := by rw [hZ]; rfl
     have hZl : 22 ≤ Z.length := by rw [hZ, List.length_append, endB_length]; omega
     have hes := endB_sign L.length (recsB 0 L).length (piesB L).length (by omega) (by omega) (by omega)
     have hzs : bytN Z 0 4 ≠ 67324752 := by
      rw [hZ]
      cases hL : L with
      | nil => rw [hL] at hes; rw [show recsB 0 [] ++ endB ([] : List It).length (recsB 0 []).length (piesB []).length = endB ([] : List It).length (recsB 0 []).length (piesB []).length from rfl, hes]; decide
      | cons x r =>
       rw [recsB, List.append_assoc, (recB_at x.lab (ho x (by rw [hL]; simp)).lab 0 (by decide) _).1]
       decide
     rw [List.take_take, Nat.min_eq_left (by omega), List.take_take, Nat.min_eq_left (by omega), hF] at hop
     obtain ⟨p1, p2, p3⟩ := opn8_P hzs cnt L fs _ _ _ ho hop
     have hfs : fs = (piesB (L.take cnt)).length := by
      rw [List.length_take, List.length_append] at p3
      omega
     have hsplit : piesB L = piesB (L.take cnt) ++ piesB (L.drop cnt) := by
      unfold piesB
      rw [← List.flatMap_append, List.take_append_drop]
     have hR : ((piesB L ++ Z).take (m - 22)).drop fs = (piesB (L.drop cnt) ++ Z).take (m - 22 - fs) := by
      rw [List.drop_take]
      congr 1
      rw [hsplit, List.append_assoc, hfs, List.drop_left]
     rw [hR] at hop
     cases cnt with
     | zero =>
      have hfs0 : fs = 0 := by rw [hfs]; rfl
      rw [opn8] at hop
      split at hop
      ·rename_i hc
       have h9 := hc.2
       rw [List.length_take, List.length_append] at h9
       have hm22 : m = 22 := by omega
       unfold end8 at he
       cases hen : enf8 (((filB L).take m).drop (m - 22)) with
       | none => rw [hen] at he; cases he
       | some q =>
        rw [hm22, Nat.sub_self, List.drop_zero] at hen
        rw [enf8_is _ (by rw [List.length_take]; omega)] at hen
        split at hen
        ·rename_i hs
         have hs := hs.1
         rw [bytN_take _ _ _ _ (by decide)] at hs
         by_cases hL : L = []
         ·rw [hL] at hm
          have : (filB []).length = 22 := rfl
          omega
         ·obtain ⟨x, r, hL⟩ := List.exists_cons_of_ne_nil hL
          have e9 : filB L = hedB x.lab ++ (x.bytes ++ (piesB r ++ Z)) := by
           rw [hF, show piesB L = piesB (x :: r) by rw [hL], piesB_cons]
           unfold pieB
           simp only [List.append_assoc]
          rw [e9, (hedB_at x.lab (ho x (by rw [hL]; simp)).lab _).1] at hs
          cases hs
        ·cases hen
      ·cases hop
     | succ cnt =>
      have hop0 := hop
      rw [opn8] at hop
      split at hop
      ·cases hop
      ·rename_i q hq
       rw [rec8_is] at hq
       split at hq
       ·rename_i hc
        have h46 := hc.1
        have hs := hc.2.1
        rw [List.length_take] at h46
        rw [bytN_take _ _ _ _ (by omega)] at hs
        cases hd : L.drop (cnt + 1) with
        | cons x r =>
         rw [hd, piesB_cons] at hs
         unfold pieB at hs
         rw [List.append_assoc, List.append_assoc, (hedB_at x.lab (ho x (by have := List.mem_of_mem_drop (a := x) (i := cnt + 1) (l := L) (by rw [hd]; simp); exact this)).lab _).1] at hs
         cases hs
        | nil =>
         have hcl : cnt + 1 = L.length := by
          have := List.drop_eq_nil_iff.1 hd
          omega
         rw [hd] at hop0
         rw [hcl, show piesB [] ++ Z = Z from rfl, hZ] at hop0
         have hfs2 : fs = (piesB L).length := by rw [hfs, hcl, List.take_length]
         obtain ⟨r1, r2⟩ := opn8_R L 0 _ _ _ _ ho (by omega) hop0
         rw [List.length_take, endB_length] at r2
         omega
       ·cases hq

theorem ahead_bad {L : List It} (h64 : L.length ≤ 64) (hsm : (filB L).length ≤ 1048576) (b : Nat) : opf8 (b :: filB L) = .error 81 ∨ opf8 (b :: filB L) = .error 2 := by
 have hfl := filB_length L
 unfold opf8
 by_cases h1 : 1048576 < (b :: filB L).length
 ·rw [if_pos h1]; exact .inr rfl
 ·left
  rw [if_neg h1, if_neg (by rw [List.length_cons]; omega)]
  have e1 : (b :: filB L).length - 22 = (filB L).length - 22 + 1 := by rw [List.length_cons]; omega
  rw [e1, List.drop_succ_cons]
  have e2 : (filB L).length - 22 = (piesB L ++ recsB 0 L).length := by rw [List.length_append]; omega
  have e3 : filB L = (piesB L ++ recsB 0 L) ++ endB L.length (recsB 0 L).length (piesB L).length := by simp [filB]
  have e4 : (filB L).drop ((filB L).length - 22) = endB L.length (recsB 0 L).length (piesB L).length := by
   rw [e2]
   conv => lhs; rw [e3]
   rw [List.drop_left]
  rw [e4]
  unfold end8
  rw [enf8_app _ _ _ (by omega) (by omega) (by omega)]
  simp only
  rw [if_pos (by omega)]

end Go.Proofs.YtljlmfnbeofmmaaGreatDoor
