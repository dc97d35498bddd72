/-
  Of the proof: parts LnPgM, LnShape, CopyK, LnRep, HDec, HDec2, HNew, LnTk, LnTs, LnTb, LnTc, LnIdx, LnMany.
-/
import Derived.Laws.CopyOwn
import Derived.Deep.RegionLaw
import Derived.Laws.Bits64b
import Derived.Deep.RegionHeld3
import Derived.Test.YtofhlnpbflkdlaaDoorJ3
import Derived.Test.YtofhlnpbflkdlaaDoorJ2
import Derived.Test.YtofhlnpbflkdlaaDoorJ1

/-
  The program's own way of steps: shapes, what may stand, rows of like lengths.
-/
namespace Go.Proofs.YtofhlnpbflkdlaaDoor

/-- How many lengths a step says at least, and how many bits its number has. -/
def leastM (s : Int) : Nat := if s = 16 then 3 else if s = 17 then 3 else if s = 18 then 11 else 1
def widthM (s : Int) : Nat := if s = 16 then 2 else if s = 17 then 3 else if s = 18 then 7 else 0

theorem widthM_nat (s : Nat) : widthM (s : Int) = xbits s := by
  unfold widthM xbits
  by_cases h1 : s = 16
  · subst h1; rfl
  · by_cases h2 : s = 17
    · subst h2; rfl
    · by_cases h3 : s = 18
      · subst h3; rfl
      · rw [if_neg (by omega), if_neg (by omega), if_neg (by omega), if_neg h1, if_neg h2, if_neg h3]

theorem widthM_le (s : Int) : widthM s ≤ 7 := by
  unfold widthM
  split
  · omega
  · split
    · omega
    · split <;> omega

theorem leastM_le (s : Int) : 1 ≤ leastM s ∧ leastM s ≤ 11 := by
  unfold leastM
  split
  · omega
  · split
    · omega
    · split <;> omega

/-- The length that a step says. -/
def sayV (s : Int) (l : List Nat) : Nat := if s = 16 then lastN l else if s = 17 ∨ s = 18 then 0 else s.toNat

/-- Is it a step, and may it stand where so many of n lengths were said? -/
def mayB (s : Int × Int) (said n : Nat) : Prop := 0 ≤ s.1 ∧ s.1 ≤ 18 ∧ 0 ≤ s.2 ∧ s.2 < 2 ^ widthM s.1 ∧ ¬ (s.1 = 16 ∧ said = 0) ∧ (said + leastM s.1 : Nat) + s.2 ≤ n

theorem withM_may {l : List Nat} {s : Int × Int} {n : Nat} (h : mayB s l.length n) : withM l s n = some (l ++ List.replicate (leastM s.1 + s.2.toNat) (sayV s.1 l)) := by
  obtain ⟨a, b⟩ := s
  obtain ⟨h1, h2, h3, h4, h5, h6⟩ := h
  simp only at h1 h2 h3 h4 h5 h6 ⊢
  refine withM_ok ?_ (by omega)
  unfold saysM
  simp only
  by_cases e16 : a = 16
  · subst e16
    have hw : widthM 16 = 2 := rfl
    have hl : leastM 16 = 3 := rfl
    rw [hw] at h4
    rw [if_neg (by omega), if_pos ⟨rfl, h3, by omega, by omega⟩, hl]
    simp only [sayV, if_true]
    congr 2; omega
  · by_cases e17 : a = 17
    · subst e17
      have hw : widthM 17 = 3 := rfl
      have hl : leastM 17 = 3 := rfl
      rw [hw] at h4
      rw [if_neg (by omega), if_neg (by omega), if_pos ⟨rfl, h3, by omega⟩, hl]
      simp [sayV]; omega
    · by_cases e18 : a = 18
      · subst e18
        have hw : widthM 18 = 7 := rfl
        have hl : leastM 18 = 11 := rfl
        rw [hw] at h4
        rw [if_neg (by omega), if_neg (by omega), if_neg (by omega), if_pos ⟨rfl, h3, by omega⟩, hl]
        simp [sayV]; omega
      · have hw : widthM a = 0 := by unfold widthM; rw [if_neg e16, if_neg e17, if_neg e18]
        have hl : leastM a = 1 := by unfold leastM; rw [if_neg e16, if_neg e17, if_neg e18]
        rw [hw] at h4
        have hb : b = 0 := by omega
        subst hb
        rw [if_pos ⟨h1, by omega, rfl⟩, hl]
        unfold sayV
        rw [if_neg e16, if_neg (by omega)]
        rfl

theorem withM_no {l : List Nat} {s : Int × Int} {n : Nat} (h : ¬ mayB s l.length n) : withM l s n = none := by
  cases hw : withM l s n with
  | none => rfl
  | some m =>
    exfalso
    apply h
    obtain ⟨a, b⟩ := s
    unfold withM at hw
    split at hw
    · cases hw
    · rename_i v k hs
      split at hw
      · cases hw
      · rename_i hle
        unfold saysM at hs
        simp only at hs
        unfold mayB
        simp only
        split at hs
        · rename_i h1
          simp at hs
          have hw0 : widthM a = 0 := by unfold widthM; rw [if_neg (by omega), if_neg (by omega), if_neg (by omega)]
          have hl : leastM a = 1 := by unfold leastM; rw [if_neg (by omega), if_neg (by omega), if_neg (by omega)]
          rw [hw0, hl]
          omega
        · split at hs
          · rename_i h1
            simp at hs
            obtain ⟨rfl, h1⟩ := h1
            have hw0 : widthM 16 = 2 := rfl
            have hl : leastM 16 = 3 := rfl
            rw [hw0, hl]
            omega
          · split at hs
            · rename_i h1
              simp at hs
              obtain ⟨rfl, h1⟩ := h1
              have hw0 : widthM 17 = 3 := rfl
              have hl : leastM 17 = 3 := rfl
              rw [hw0, hl]
              omega
            · split at hs
              · rename_i h1
                simp at hs
                obtain ⟨rfl, h1⟩ := h1
                have hw0 : widthM 18 = 7 := rfl
                have hl : leastM 18 = 11 := rfl
                rw [hw0, hl]
                omega
              · cases hs

/-- So many steps of one kind as there are lengths for. -/
def manyL (s : Int) (lo hi n : Nat) : List (Int × Int) :=
  if 1 ≤ lo ∧ lo ≤ hi ∧ lo ≤ n then (s, ((min n hi - lo : Nat) : Int)) :: manyL s lo hi (n - min n hi) else []
termination_by n
decreasing_by omega

/-- And how many lengths are left. -/
def manyR (lo hi n : Nat) : Nat :=
  if 1 ≤ lo ∧ lo ≤ hi ∧ lo ≤ n then manyR lo hi (n - min n hi) else n
termination_by n
decreasing_by omega

theorem manyL_more {s : Int} {lo hi n : Nat} (h1 : 1 ≤ lo) (h2 : lo ≤ hi) (h3 : lo ≤ n) : manyL s lo hi n = (s, ((min n hi - lo : Nat) : Int)) :: manyL s lo hi (n - min n hi) := by
  rw [manyL, if_pos ⟨h1, h2, h3⟩]
theorem manyL_end {s : Int} {lo hi n : Nat} (h3 : n < lo) : manyL s lo hi n = [] := by rw [manyL, if_neg (by omega)]
theorem manyR_more {lo hi n : Nat} (h1 : 1 ≤ lo) (h2 : lo ≤ hi) (h3 : lo ≤ n) : manyR lo hi n = manyR lo hi (n - min n hi) := by
  rw [manyR, if_pos ⟨h1, h2, h3⟩]
theorem manyR_end {lo hi n : Nat} (h3 : n < lo) : manyR lo hi n = n := by rw [manyR, if_neg (by omega)]

theorem many_le (s : Int) (lo hi n : Nat) (h1 : 1 ≤ lo) (h2 : lo ≤ hi) : (manyL s lo hi n).length + manyR lo hi n ≤ n ∧ manyR lo hi n < lo := by
  induction n using Nat.strongRecOn with
  | ind n ih =>
    by_cases h : lo ≤ n
    · have := ih (n - min n hi) (by omega)
      rw [manyL_more h1 h2 h, manyR_more h1 h2 h, List.length_cons]
      omega
    · rw [manyL_end (by omega), manyR_end (by omega)]
      simp; omega

theorem zerosM_many (n : Nat) : zerosM n = manyL 18 11 138 n ++ (manyL 17 3 10 (manyR 11 138 n) ++ List.replicate (manyR 3 10 (manyR 11 138 n)) (0, 0)) := by
  induction n using Nat.strongRecOn with
  | ind n ih =>
    by_cases h : 11 ≤ n
    · rw [zerosM_big n h, manyL_more (by omega) (by omega) h, manyR_more (by omega) (by omega) h, ih (n - min n 138) (by omega)]
      rfl
    · rw [manyL_end (n := n) (by omega), manyR_end (n := n) (by omega)]
      by_cases h3 : 3 ≤ n
      · rw [zerosM_mid n (by omega) h3, manyL_more (by omega) (by omega) h3, manyR_more (by omega) (by omega) h3, show min n 10 = n by omega, Nat.sub_self, manyL_end (by omega), manyR_end (by omega)]
        rfl
      · rw [zerosM_few n (by omega), manyL_end (by omega), manyR_end (by omega)]
        rfl

theorem againM_many (v n : Nat) : againM v n = manyL 16 3 6 n ++ List.replicate (manyR 3 6 n) ((v : Int), 0) := by
  induction n using Nat.strongRecOn with
  | ind n ih =>
    by_cases h : 3 ≤ n
    · rw [againM_big v n h, manyL_more (by omega) (by omega) h, manyR_more (by omega) (by omega) h, ih (n - min n 6) (by omega)]
      rfl
    · rw [againM_few v n (by omega), manyL_end (by omega), manyR_end (by omega)]
      rfl

/-- How many of the codes' lengths come: noughts at the end are left out. -/
def comeN (cs : List Nat) : Nat → Nat
  | 0 => 0
  | k + 1 => if 4 < k + 1 ∧ cs.getD (ord.getD k 0) 0 = 0 then comeN cs k else k + 1

theorem comeN_ge (cs : List Nat) (k : Nat) (h : 4 ≤ k) : 4 ≤ comeN cs k ∧ comeN cs k ≤ k := by
  induction k with
  | zero => omega
  | succ k ih =>
    rw [comeN]
    split
    · have := ih (by omega); omega
    · omega

theorem comeN_rest (cs : List Nat) (k : Nat) : ∀ j, comeN cs k ≤ j → j < k → cs.getD (ord.getD j 0) 0 = 0 := by
  induction k with
  | zero => intro j _ h; omega
  | succ k ih =>
    intro j h1 h2
    rw [comeN] at h1
    split at h1
    · rename_i h
      by_cases e : j = k
      · subst e; exact h.2
      · exact ih j h1 (by omega)
    · omega

end Go.Proofs.YtofhlnpbflkdlaaDoor

/-
  The program's within, shape, mayStand, say.
-/
namespace Go.Proofs.YtofhlnpbflkdlaaDoor
open Go.RowKit

def inB (n lo hi : Int) : Bool := decide (lo ≤ n) && decide (n ≤ hi)

set_option maxHeartbeats 1000000 in
theorem within_any (w : World) (n lo hi : Int) :
    Calls Tryd.prog 33 #[.int .i64 n, .int .i64 lo, .int .i64 hi] w fun e w' => e = .returned (.bool (inB n lo hi)) ∧ w' = w := by
  go_enter Tryd.func33, Tryd.ntmps33
  by_cases h : lo ≤ n
  · go_wp2_with fail
    go_ret
    exact ⟨by simp only [inB, h, decide_true, Bool.true_and]; rfl, rfl⟩
  · go_wp2_with fail
    go_ret
    have hd : decide (lo ≤ n) = false := by simp; omega
    exact ⟨by simp only [inB, hd, Bool.false_and]; rfl, rfl⟩

set_option maxHeartbeats 1000000 in
theorem shape_any (w : World) (s : Int) :
    Calls Tryd.prog 58 #[.int .i64 s] w fun e w' => e = .returned (.tuple #[.int .i64 (leastM s : Nat), .int .i64 (widthM s : Nat)]) ∧ w' = w := by
  by_cases h16 : s = 16
  · subst h16
    go_enter Tryd.func58, Tryd.ntmps58
    go_wp2_with fail
    go_ret2
    exact ⟨rfl, rfl⟩
  · by_cases h17 : s = 17
    · subst h17
      go_enter Tryd.func58, Tryd.ntmps58
      go_wp2_with fail
      go_ret2
      exact ⟨rfl, rfl⟩
    · by_cases h18 : s = 18
      · subst h18
        go_enter Tryd.func58, Tryd.ntmps58
        go_wp2_with fail
        go_ret2
        exact ⟨rfl, rfl⟩
      · have e16 : (s == 16) = false := by simp; omega
        have e17 : (s == 17) = false := by simp; omega
        have e18 : (s == 18) = false := by simp; omega
        have HE : Hid (leastM s = 1 ∧ widthM s = 0) := hid ⟨by unfold leastM; rw [if_neg h16, if_neg h17, if_neg h18], by unfold widthM; rw [if_neg h16, if_neg h17, if_neg h18]⟩
        clear h16 h17 h18
        go_enter Tryd.func58, Tryd.ntmps58
        go_wp2_with fail
        go_ret2
        exact ⟨by rw [HE.out.1, HE.out.2]; rfl, rfl⟩

theorem pow_le7 (n : Nat) (h : n ≤ 7) : (2 : Nat) ^ n ≤ 128 := by
  have := Nat.pow_le_pow_right (show 0 < 2 by decide) h
  simpa using this

/-- mayStand's answer. -/
def MayR (e : Ending) (s : Int × Int) (said n : Nat) : Prop := ∃ r : Bool, e = .returned (.bool r) ∧ (r = true ↔ mayB s said n)

theorem MayR.no {e : Ending} {s : Int × Int} {said n : Nat} (h : MayR e s said n) (hm : ¬ mayB s said n) : e = .returned (.bool false) := by
  obtain ⟨r, rfl, hr⟩ := h
  cases r with
  | false => rfl
  | true => exact absurd (hr.1 rfl) hm

theorem MayR.yes {e : Ending} {s : Int × Int} {said n : Nat} (h : MayR e s said n) (hm : mayB s said n) : e = .returned (.bool true) := by
  obtain ⟨r, rfl, hr⟩ := h
  rw [hr.2 hm]

set_option maxRecDepth 100000 in
set_option maxHeartbeats 2000000 in
theorem mayStand_any (w : World) (a b : Int) (said n : Nat) (hs : said ≤ 1000000) :
    Calls Tryd.prog 39 #[.agg #[.int .i64 a, .int .i64 b], .int .i64 (said : Nat), .int .i64 (n : Nat)] w fun e w' => MayR e (a, b) said n ∧ Same w w' := by
  have hw7 := widthM_le a
  have hl1 := leastM_le a
  have HSH := shape_any (w.alloc (.cells #[.int .i64 a, .int .i64 b] 31)) a
  obtain ⟨wd, hwd⟩ : ∃ x, x = widthM a := ⟨_, rfl⟩
  obtain ⟨ls, hls⟩ : ∃ x, x = leastM a := ⟨_, rfl⟩
  rw [← hwd] at HSH hw7
  rw [← hls] at HSH hl1
  have HM : Hid (mayB (a, b) said n ↔ (0 ≤ a ∧ a ≤ 18 ∧ 0 ≤ b ∧ b < 2 ^ wd ∧ ¬ (a = 16 ∧ said = 0) ∧ (said + ls : Nat) + b ≤ n)) := hid (by rw [hwd, hls]; exact Iff.rfl)
  clear hwd hls
  have hp7 := pow_le7 wd hw7
  have hp0 : 0 < 2 ^ wd := Nat.two_pow_pos wd
  obtain ⟨pw, hpw⟩ : ∃ x, x = 2 ^ wd := ⟨_, rfl⟩
  obtain ⟨pm, hpm⟩ : ∃ x : Nat, x = pw - 1 := ⟨_, rfl⟩
  rw [← hpw] at hp7 hp0
  have HM2 : Hid (mayB (a, b) said n ↔ (inB a 0 18 = true ∧ inB b 0 (pm : Int) = true ∧ ¬ (a = 16 ∧ said = 0) ∧ (said + ls : Nat) + b ≤ n)) := hid (by
    rw [HM.out]
    have : (2 : Int) ^ wd = (pw : Int) := by rw [hpw]; simp
    rw [this]
    simp only [inB, Bool.and_eq_true, decide_eq_true_eq]
    omega)
  have hshl : wrap64 ((2 : Int) ^ wd) = (pw : Int) := by
    have : (2 : Int) ^ wd = (pw : Int) := by rw [hpw]; simp
    rw [this]; unfold wrap64; omega
  have hsub : (pw : Int) - 1 = (pm : Int) := by omega
  have HW1 := fun q => within_any ((w.alloc (.cells #[.int .i64 a, .int .i64 b] 31)).drewN q) a 0 18
  have HW2 := fun q => within_any ((w.alloc (.cells #[.int .i64 a, .int .i64 b] 31)).drewN q) b 0 (pm : Int)
  clear HM hpw
  have hpm' : pm ≤ 127 := by omega
  clear hpm
  go_enter Tryd.func39, Tryd.ntmps39
  go_wp2_with fail
  refine HSH.mono ?_
  rintro e w1 ⟨rfl, rfl⟩
  clear HSH
  have HK0 : Hid (Same w (w.alloc (.cells #[.int .i64 a, .int .i64 b] 31))) := hid ((Kept.refl _ w).alloc _)
  have cB : (w.alloc (.cells #[.int .i64 a, .int .i64 b] 31)).cell? ⟨w.heap.size, 1, none⟩ = some (.int .i64 b) := by simp
  have cA : (w.alloc (.cells #[.int .i64 a, .int .i64 b] 31)).cell? ⟨w.heap.size, 0, none⟩ = some (.int .i64 a) := by simp
  generalize w.alloc (.cells #[.int .i64 a, .int .i64 b] 31) = W at *
  cases h1 : inB a 0 18 with
  | false =>
    have HE : Hid (¬ mayB (a, b) said n) := hid (fun h => by have := (HM2.out.1 h).1; rw [h1] at this; cases this)
    rw [h1] at HW1
    clear h1
    go_wp2_with fail
    go_quiet ((go_at_call 33; exact Calls.quiet_of_same (HW1 _)))
    go_wp2_with fail
    go_ret
    exact ⟨⟨false, rfl, by simp [HE.out]⟩, HK0.out.drewN _⟩
  | true =>
    rw [h1] at HW1
    cases h2 : inB b 0 (pm : Int) with
    | false =>
      have HE : Hid (¬ mayB (a, b) said n) := hid (fun h => by have := (HM2.out.1 h).2.1; rw [h2] at this; cases this)
      rw [h2] at HW2
      clear h1 h2
      go_wp2_with fail
      go_quiet ((go_at_call 33; first | (with_reducible exact Calls.quiet_of_same (HW1 _)) | (with_reducible exact Calls.quiet_of_same (HW2 _))))
      go_wp2_with fail
      go_ret
      exact ⟨⟨false, rfl, by simp [HE.out]⟩, HK0.out.drewN _⟩
    | true =>
      rw [h2] at HW2
      have hb : 0 ≤ b ∧ b ≤ (pm : Int) := by simpa [inB] using h2
      have HM3 : Hid (mayB (a, b) said n ↔ (¬ (a = 16 ∧ said = 0) ∧ (said + ls : Nat) + b ≤ n)) := hid (by rw [HM2.out, h1, h2]; simp)
      obtain ⟨bn, rfl⟩ : ∃ x : Nat, b = (x : Int) := ⟨b.toNat, by omega⟩
      have hbn : bn ≤ 127 := by omega
      obtain ⟨t, ht⟩ : ∃ t, t = said + ls := ⟨_, rfl⟩
      have htI : (said : Int) + (ls : Int) = (t : Int) := by omega
      have htw : IntKind.i64.wrap (t : Int) = (t : Int) := by rw [IntKind.wrap_i64]; omega
      obtain ⟨u, hu⟩ : ∃ u, u = t + bn := ⟨_, rfl⟩
      have huI : (t : Int) + (bn : Int) = (u : Int) := by omega
      have huw : IntKind.i64.wrap (u : Int) = (u : Int) := by rw [IntKind.wrap_i64]; omega
      have HM4 : Hid (mayB (a, (bn : Int)) said n ↔ (¬ (a = 16 ∧ said = 0) ∧ u ≤ n)) := hid (by
        rw [HM3.out]
        have : ((said + ls : Nat) : Int) + (bn : Int) ≤ (n : Int) ↔ u ≤ n := by omega
        rw [this])
      clear h1 h2 hb HM3 HM2 ht hu
      go_wp2_with fail
      go_quiet ((go_at_call 33; first | (with_reducible exact Calls.quiet_of_same (HW1 _)) | (with_reducible exact Calls.quiet_of_same (HW2 _))))
      by_cases h16 : a = 16
      · subst h16
        by_cases h0 : said = 0
        · have HE : Hid (¬ mayB (16, (bn : Int)) 0 n) := hid (fun h => (HM4.out.1 (by rw [h0]; exact h)).1 ⟨rfl, h0⟩)
          have hsd : ((said : Int) == 0) = true := by simp [h0]
          go_wp2_with fail
          go_ret
          exact ⟨⟨false, rfl, by simp [HE.out]⟩, HK0.out.drewN _⟩
        · have hsd : ((said : Int) == 0) = false := by simp [h0]
          have HE : Hid (mayB (16, (bn : Int)) said n ↔ u ≤ n) := hid (by rw [HM4.out]; simp [h0])
          clear h0
          go_wp2_with fail
          go_ret
          exact ⟨⟨_, rfl, by rw [HE.out]; simp⟩, HK0.out.drewN _⟩
      · have h16' : (a == 16) = false := by simp [h16]
        have HE : Hid (mayB (a, (bn : Int)) said n ↔ u ≤ n) := hid (by rw [HM4.out]; simp [h16])
        clear h16
        go_wp2_with fail
        go_ret
        exact ⟨⟨_, rfl, by rw [HE.out]; simp⟩, HK0.out.drewN _⟩


set_option maxRecDepth 100000 in
set_option maxHeartbeats 2000000 in
/-- say, behind a row of one's own. -/
theorem say_any (w : World) (B : Nat) (v : Value) (l : List Nat) (a b : Int) (n : Nat) (hr : NRow B w v l) (hB : B ≤ w.heap.size) (hl : l.length ≤ 1000000) (hm : mayB (a, b) l.length n) :
    Calls Tryd.prog 40 #[v, .agg #[.int .i64 a, .int .i64 b]] w fun e w' => ∃ v', e = .returned v' ∧ NRow B w' v' (l ++ List.replicate (leastM a + b.toNat) (sayV a l)) ∧ Kept (Over B) w w' := by
  obtain ⟨ao, cap, rfl, hao, _⟩ := hr.shape
  obtain ⟨h1, h2, h3, h4, h5, h6⟩ := hm
  simp only at h1 h2 h3 h4 h5 h6
  have hw7 := widthM_le a
  have hl1 := leastM_le a
  have hp7 := pow_le7 _ hw7
  have hb7 : b < 128 := by
    have : ((2 ^ widthM a : Nat) : Int) = 2 ^ widthM a := by simp
    omega
  obtain ⟨bn, rfl⟩ : ∃ x : Nat, b = (x : Int) := ⟨b.toNat, by omega⟩
  obtain ⟨an, rfl⟩ : ∃ x : Nat, a = (x : Int) := ⟨a.toNat, by omega⟩
  obtain ⟨ls, hls⟩ : ∃ x, x = leastM (an : Int) := ⟨_, rfl⟩
  have HSH := shape_any (w.alloc (.cells #[.int .i64 (an : Int), .int .i64 (bn : Int)] 31)) (an : Int)
  rw [← hls] at HSH hl1 ⊢
  rw [Int.toNat_natCast]
  obtain ⟨k, hk⟩ : ∃ k, k = ls + bn := ⟨_, rfl⟩
  have hkI : (ls : Int) + (bn : Int) = (k : Int) := by omega
  have hkw : IntKind.i64.wrap (k : Int) = (k : Int) := by rw [IntKind.wrap_i64]; omega
  rw [← hk]
  have hk138 : k ≤ 138 := by omega
  obtain ⟨x, hx⟩ : ∃ x, x = sayV (an : Int) l := ⟨_, rfl⟩
  rw [← hx]
  have HR : Hid (NRow B (w.alloc (.cells #[.int .i64 (an : Int), .int .i64 (bn : Int)] 31)) (.slice ao l.length cap) l) := hid (World.ownsRow.alloc hr _)
  have HK0 : Hid (Kept (Over B) w (w.alloc (.cells #[.int .i64 (an : Int), .int .i64 (bn : Int)] 31))) := hid ((Kept.refl _ w).alloc _)
  have cB : (w.alloc (.cells #[.int .i64 (an : Int), .int .i64 (bn : Int)] 31)).cell? ⟨w.heap.size, 1, none⟩ = some (.int .i64 (bn : Int)) := by simp
  have cA : (w.alloc (.cells #[.int .i64 (an : Int), .int .i64 (bn : Int)] 31)).cell? ⟨w.heap.size, 0, none⟩ = some (.int .i64 (an : Int)) := by simp
  have hsz : B ≤ (w.alloc (.cells #[.int .i64 (an : Int), .int .i64 (bn : Int)] 31)).heap.size := by simp; omega
  have HLOOP : ∀ W : World, W = w.alloc (.cells #[.int .i64 (an : Int), .int .i64 (bn : Int)] 31) → True := fun _ _ => trivial
  clear HLOOP
  obtain ⟨L, hL⟩ : ∃ L, L = l.length := ⟨_, rfl⟩
  have HL : Hid (L = l.length) := hL
  have HAO : Hid (l ≠ [] → ∃ g, ao = some ⟨g, 0, none⟩) := hao
  have H5 : Hid (¬ ((an : Int) = 16 ∧ l.length = 0)) := h5
  have HX : Hid (x = sayV (an : Int) l) := hx
  rw [← hL] at HR hl ⊢
  clear hr hls hk hx hL h3 h4 h5 h6 hw7 hp7 hb7 hao h1
  go_enter Tryd.func40, Tryd.ntmps40
  go_wp2_with fail
  refine HSH.mono ?_
  rintro e w1 ⟨rfl, hw1⟩
  subst hw1
  clear HSH
  generalize w.alloc (.cells #[.int .i64 (an : Int), .int .i64 (bn : Int)] 31) = W at *
  by_cases h16 : an = 16
  · subst h16
    have hL0 : 0 < L := by have := HL.out; have := H5.out; omega
    have hl0 : 0 < l.length := by have := HL.out; omega
    obtain ⟨b2, o2, cap2, e2, _, _, c2⟩ := (SrcE.ofRow HR.out).get (l.length - 1) (by omega)
    simp only [Value.slice.injEq] at e2
    obtain ⟨rfl, hxe, rfl⟩ := e2
    clear hxe
    have hle : l[l.length - 1] = x := by rw [HX.out]; simp [sayV, lastN, List.getD, show l.length - 1 < l.length by omega]
    rw [hle, ← HL.out] at c2
    unfold natV at c2
    obtain ⟨m, hm⟩ : ∃ m, m = L - 1 := ⟨_, rfl⟩
    rw [← hm] at c2
    have hmI : (L : Int) - 1 = (m : Int) := by omega
    have hmL : m < L := by omega
    have hwm : IntKind.i64.wrap (m : Int) = (m : Int) := by rw [IntKind.wrap_i64]; omega
    clear hm hle hl0 hL0
    go_wp2_with fail
    go_loopg [0, 32] k (fun q zv zi wr => ∃ (i : Nat), k - i ≤ q ∧ i ≤ k ∧ zi = .int .i64 (i : Nat) ∧ Hid (NRow B wr zv (l ++ List.replicate i x)) ∧ Hid (Kept (Over B) w wr))
    case atStart => exact ⟨0, by omega, by omega, rfl, hid (by simpa using HR.out), HK0⟩
    case round =>
      clear HR HK0 cA cB
      obtain ⟨i, hq, hi, rfl, HV, HK⟩ := hrel
      by_cases hlt : i < k
      · have hsz2 := HK.out.size
        have HLN : Hid ((l ++ List.replicate i x).length + [x].length ≤ 1000000000) := hid (by have := HL.out; simp; omega)
        go_wp2_with (at_builtin; refine wpList_append_e _ natV natV_one B 22 3 (natV 0) 8 Tryd.underlying22 Tryd.infoN rfl (by decide) rfl (.tmp 34) (.tmp 36) rfl u0 (l ++ List.replicate i x) rfl (World.ownsRow.alloc HV.out _) ⟨wr.heap.size, 0, none⟩ 1 1 [x] rfl rfl (cellsAt_new _ _ _) HLN.out (by simp; omega) ?_; intro v5 w5 hr5 hg5)
        have HV5 : Hid (NRow B w5 v5 (l ++ List.replicate (i + 1) x)) := hid (by rw [List.replicate_succ', ← List.append_assoc]; exact hr5)
        have HK5 : Hid (Kept (Over B) w w5) := hid ((HK.out.alloc _).grown hg5 (fun j e => .inl (HV.out.ge e)))
        clear hr5 hg5
        go_wp2_with fail
        go_roundg (gk - 1)
        case measure => omega
        case rel => exact ⟨i + 1, by omega, by omega, by go_num, HV5, HK5⟩
      · have hik : i = k := by omega
        subst hik
        go_wp2_with fail
        go_ret
        exact ⟨_, rfl, HV.out, HK.out⟩
  · have e16 : ((an : Int) == 16) = false := by simp; omega
    by_cases h17 : an = 17
    · subst h17
      have hx0 : x = 0 := by rw [HX.out]; simp [sayV]
      subst hx0
      go_wp2_with fail
      go_loopg [0, 32] k (fun q zv zi wr => ∃ (i : Nat), k - i ≤ q ∧ i ≤ k ∧ zi = .int .i64 (i : Nat) ∧ Hid (NRow B wr zv (l ++ List.replicate i 0)) ∧ Hid (Kept (Over B) w wr))
      case atStart => exact ⟨0, by omega, by omega, rfl, hid (by simpa using HR.out), HK0⟩
      case round =>
        clear HR HK0 cA cB
        obtain ⟨i, hq, hi, rfl, HV, HK⟩ := hrel
        by_cases hlt : i < k
        · have hsz2 := HK.out.size
          have HLN : Hid ((l ++ List.replicate i 0).length + [0].length ≤ 1000000000) := hid (by have := HL.out; simp; omega)
          go_wp2_with (at_builtin; refine wpList_append_e _ natV natV_one B 22 3 (natV 0) 8 Tryd.underlying22 Tryd.infoN rfl (by decide) rfl (.tmp 34) (.tmp 36) rfl u0 (l ++ List.replicate i 0) rfl (World.ownsRow.alloc HV.out _) ⟨wr.heap.size, 0, none⟩ 1 1 [0] rfl rfl (cellsAt_new _ _ _) HLN.out (by simp; omega) ?_; intro v5 w5 hr5 hg5)
          have HV5 : Hid (NRow B w5 v5 (l ++ List.replicate (i + 1) 0)) := hid (by rw [List.replicate_succ', ← List.append_assoc]; exact hr5)
          have HK5 : Hid (Kept (Over B) w w5) := hid ((HK.out.alloc _).grown hg5 (fun j e => .inl (HV.out.ge e)))
          clear hr5 hg5
          go_wp2_with fail
          go_roundg (gk - 1)
          case measure => omega
          case rel => exact ⟨i + 1, by omega, by omega, by go_num, HV5, HK5⟩
        · have hik : i = k := by omega
          subst hik
          go_wp2_with fail
          go_ret
          exact ⟨_, rfl, HV.out, HK.out⟩
    · have e17 : ((an : Int) == 17) = false := by simp; omega
      by_cases h18 : an = 18
      · subst h18
        have hx0 : x = 0 := by rw [HX.out]; simp [sayV]
        subst hx0
        go_wp2_with fail
        go_loopg [0, 32] k (fun q zv zi wr => ∃ (i : Nat), k - i ≤ q ∧ i ≤ k ∧ zi = .int .i64 (i : Nat) ∧ Hid (NRow B wr zv (l ++ List.replicate i 0)) ∧ Hid (Kept (Over B) w wr))
        case atStart => exact ⟨0, by omega, by omega, rfl, hid (by simpa using HR.out), HK0⟩
        case round =>
          clear HR HK0 cA cB
          obtain ⟨i, hq, hi, rfl, HV, HK⟩ := hrel
          by_cases hlt : i < k
          · have hsz2 := HK.out.size
            have HLN : Hid ((l ++ List.replicate i 0).length + [0].length ≤ 1000000000) := hid (by have := HL.out; simp; omega)
            go_wp2_with (at_builtin; refine wpList_append_e _ natV natV_one B 22 3 (natV 0) 8 Tryd.underlying22 Tryd.infoN rfl (by decide) rfl (.tmp 34) (.tmp 36) rfl u0 (l ++ List.replicate i 0) rfl (World.ownsRow.alloc HV.out _) ⟨wr.heap.size, 0, none⟩ 1 1 [0] rfl rfl (cellsAt_new _ _ _) HLN.out (by simp; omega) ?_; intro v5 w5 hr5 hg5)
            have HV5 : Hid (NRow B w5 v5 (l ++ List.replicate (i + 1) 0)) := hid (by rw [List.replicate_succ', ← List.append_assoc]; exact hr5)
            have HK5 : Hid (Kept (Over B) w w5) := hid ((HK.out.alloc _).grown hg5 (fun j e => .inl (HV.out.ge e)))
            clear hr5 hg5
            go_wp2_with fail
            go_roundg (gk - 1)
            case measure => omega
            case rel => exact ⟨i + 1, by omega, by omega, by go_num, HV5, HK5⟩
          · have hik : i = k := by omega
            subst hik
            go_wp2_with fail
            go_ret
            exact ⟨_, rfl, HV.out, HK.out⟩
      · have e18 : ((an : Int) == 18) = false := by simp; omega
        have hx0 : x = an := by rw [HX.out]; unfold sayV; rw [if_neg (by omega), if_neg (by omega)]; simp
        clear h16 h17 h18
        subst hx0
        go_wp2_with fail
        go_loopg [0, 32] k (fun q zv zi wr => ∃ (i : Nat), k - i ≤ q ∧ i ≤ k ∧ zi = .int .i64 (i : Nat) ∧ Hid (NRow B wr zv (l ++ List.replicate i x)) ∧ Hid (Kept (Over B) w wr))
        case atStart => exact ⟨0, by omega, by omega, rfl, hid (by simpa using HR.out), HK0⟩
        case round =>
          clear HR HK0 cA cB
          obtain ⟨i, hq, hi, rfl, HV, HK⟩ := hrel
          by_cases hlt : i < k
          · have hsz2 := HK.out.size
            have HLN : Hid ((l ++ List.replicate i x).length + [x].length ≤ 1000000000) := hid (by have := HL.out; simp; omega)
            go_wp2_with (at_builtin; refine wpList_append_e _ natV natV_one B 22 3 (natV 0) 8 Tryd.underlying22 Tryd.infoN rfl (by decide) rfl (.tmp 34) (.tmp 36) rfl u0 (l ++ List.replicate i x) rfl (World.ownsRow.alloc HV.out _) ⟨wr.heap.size, 0, none⟩ 1 1 [x] rfl rfl (cellsAt_new _ _ _) HLN.out (by simp; omega) ?_; intro v5 w5 hr5 hg5)
            have HV5 : Hid (NRow B w5 v5 (l ++ List.replicate (i + 1) x)) := hid (by rw [List.replicate_succ', ← List.append_assoc]; exact hr5)
            have HK5 : Hid (Kept (Over B) w w5) := hid ((HK.out.alloc _).grown hg5 (fun j e => .inl (HV.out.ge e)))
            clear hr5 hg5
            go_wp2_with fail
            go_roundg (gk - 1)
            case measure => omega
            case rel => exact ⟨i + 1, by omega, by omega, by go_num, HV5, HK5⟩
          · have hik : i = k := by omega
            subst hik
            go_wp2_with fail
            go_ret
            exact ⟨_, rfl, HV.out, HK.out⟩

end Go.Proofs.YtofhlnpbflkdlaaDoor

/-
  Rows of some cells an element: made, copied into.
-/
namespace Go.Proofs.YtofhlnpbflkdlaaDoor
open Go.RowKit

theorem flat_made {α : Type} {enc : α → List Value} {k : Nat} (ok : EncOk enc k) (x0 : α) (n : Nat) : (madeCells (enc x0).toArray (n * k)).toList = (List.replicate n x0).flatMap enc := by
  have hk := ok.pos
  have hl := ok.len x0
  refine List.ext_getElem? (fun i => ?_)
  by_cases hi : i < n * k
  · have h1 : i / k < n := (Nat.div_lt_iff_lt_mul hk).2 hi
    have h2 : i % k < k := Nat.mod_lt _ hk
    have h3 := flat_get ok (List.replicate n x0) (i / k) (i % k) (by simpa using h1) h2
    rw [List.getElem_replicate, Nat.div_add_mod' i k] at h3
    rw [h3]
    simp [madeCells, hi, hl, h2]
  · rw [List.getElem?_eq_none (by simp [madeCells]; omega), List.getElem?_eq_none (by rw [flat_length ok]; simp; omega)]

/-- A whole block. -/
def Raw (w : World) (g : Nat) (t : TypeId) (L : List Value) : Prop := w.heap[g]? = some (.cells L.toArray t (0, 0))

theorem RowC.raw {α : Type} {B t k : Nat} {enc : α → List Value} {w : World} {g n : Nat} {xs : List α} (h : RowC B t k enc w (.slice (some ⟨g, 0, none⟩) n n) xs) : Raw w g t (xs.flatMap enc) := by
  have hl := h.len
  rcases h.2 with ⟨e, _⟩ | ⟨g', cap, cur, e, _, hg, _, _, hcs, htake⟩
  · simp at e
  · simp only [Value.slice.injEq, Option.some.injEq, Addr.mk.injEq, and_true] at e
    obtain ⟨rfl, rfl, rfl⟩ := e
    have : cur.toList = xs.flatMap enc := by
      rw [← htake, List.take_of_length_le]
      have h2 : cur.toList.length = cur.size := by simp
      rw [h2, hcs, hl]
      exact Nat.le_refl _
    unfold Raw
    rw [hg, ← this]

theorem Raw.row {α : Type} {B t k : Nat} {enc : α → List Value} (ok : EncOk enc k) {w : World} {g : Nat} {xs : List α} (h : Raw w g t (xs.flatMap enc)) (hB : B ≤ g) (hm : xs.length ≤ maxLen) : RowC B t k enc w (.slice (some ⟨g, 0, none⟩) xs.length xs.length) xs := by
  have hl := flat_length ok xs
  refine ⟨hl, .inr ⟨g, xs.length, _, rfl, hB, h, Nat.le_refl _, hm, ?_, ?_⟩⟩
  · simp [hl]
  · rw [List.take_of_length_le (by simp [hl])]

theorem Raw.kept {F : Nat → Prop} {w w' : World} {g : Nat} {t : TypeId} {L : List Value} (h : Raw w g t L) (hk : Kept F w w') (hF : ¬ F g) : Raw w' g t L := by
  unfold Raw
  rw [hk.block g (Array.getElem?_eq_some_iff.1 h).1 hF]
  exact h

/-- make(S, n). -/
theorem wpList_make_c {α : Type} {ops : Array Oper} {rest : List Oper} {o : Oper} {a : Act} {Q : Exit → Act → World → Prop} (w : World) (enc : α → List Value) (k : Nat) (ok : EncOk enc k) (x0 : α) (B sT eT : Nat) (z : Value) (bytes : Nat)
    (hU : Tryd.prog.underlying sT = some (.slice eT)) (hI : (Tryd.prog.info? eT).map (fun i => (i.zero, i.size, i.bytes)) = some (some z, k, bytes)) (hz : z.cells = (enc x0).toArray) (hby : bytes ≤ 1000)
    (hg : o.guard = none) (l c : Operand) (hop : o.op = Op.makeSlice sT l c) (kl kc : IntKind) (L C : Int) (n : Nat)
    (hl : a.eval l = .int kl L) (hc : a.eval c = .int kc C) (hL : L = (n : Int)) (hC : C = (n : Int)) (hn : n ≤ 1000000000) (hB : B ≤ w.heap.size)
    (hK : ∀ w', RowC B eT k enc w' (.slice (some ⟨w.heap.size, 0, none⟩) n n) (List.replicate n x0) → w.grownBy w' none → w.heap.size < w'.heap.size → wpList Tryd.prog ops Q rest (a.put o.dst (.slice (some ⟨w.heap.size, 0, none⟩) n n)) w') : wpList Tryd.prog ops Q (o :: rest) a w := by
  obtain ⟨i0, hi, hz0, hz1, hz2⟩ := info_parts hI
  have hmul : n * bytes ≤ 1000000000 * 1000 := Nat.mul_le_mul hn hby
  refine wpList_make_full w hg l c sT hop B eT i0 z k hU hi hz0 hz1 kl kc L C n hl hc hL hC (by rw [hz2]; have := Nat.mul_comm n bytes; omega) (by simp only [maxLen]; omega) hB ?_
  intro w' h1 h2
  refine hK w' ?_ h2 (World.ownsRow.lt h1 w.heap.size rfl).2
  rw [hz, flat_made ok] at h1
  unfold RowC
  rw [List.length_replicate]
  exact h1

theorem run_copy_k {P : Program} (w : World) (dT sT ty elem : TypeId) (k g off dLen dCap : Nat) (ad : Addr) (sLen sCap : Nat) (cur : List Value) (t : TypeId) (cs : List Value)
    (hu : P.underlying dT = some (.slice elem)) (hs : (P.info? elem).map (·.size) = some k) (hg : Raw w g t cur) (hn : cs.length = Nat.min sLen dLen * k)
    (hsrc : CellsAt w ad cs) (hfit : off + cs.length ≤ cur.length) (h1 : ∀ v ∈ cs, v.oneCell' = true) :
    (Builtin.copy_ #[dT, sT] ty #[.slice (some ⟨g, off, none⟩) dLen dCap, .slice (some ad) sLen sCap]).run P w =
      .ok (goInt (Nat.min sLen dLen)) (w.setRow g (splice cur off cs).toArray) := by
  have hl := run_loadCells_list (P := P) w ad cs hsrc
  have hst := run_storeCells_at P g off t cs 0 cur.toArray w hg (by simpa using hfit) h1
  rw [hn] at hl
  cases hq : P.info? elem with
  | none => simp [hq] at hs
  | some i =>
    have hi : i.size = k := by simpa [hq] using hs
    simp [Builtin.copy_, run_underlying hu, Builtin.lenOf, Builtin.firstCells, sizeOf, typeInfo, hq, hi, hl, hst, splice]

theorem run_copy_none_k {P : Program} (w : World) (dT sT ty elem : TypeId) (k : Nat) (d s : Option Addr) (dLen dCap sLen sCap : Nat)
    (hu : P.underlying dT = some (.slice elem)) (hs : (P.info? elem).map (·.size) = some k) (hn : Nat.min sLen dLen = 0) :
    (Builtin.copy_ #[dT, sT] ty #[.slice d dLen dCap, .slice s sLen sCap]).run P w = .ok (goInt 0) w := by
  cases hq : P.info? elem with
  | none => simp [hq] at hs
  | some i =>
    have hl : ∀ (x : Addr), (loadCells x 0).run P w = .ok #[] w := fun x => by simpa using run_loadCells_list (P := P) w x [] (by simp)
    cases d <;> cases s <;> simp [Builtin.copy_, run_underlying hu, Builtin.lenOf, Builtin.firstCells, sizeOf, typeInfo, hq, hn, storeCells, hl]

theorem splice_nil {α : Type} (L : List α) (off : Nat) : splice L off [] = L := by simp [splice]

theorem grown_setRow (w : World) (g : Nat) (cs : Array Value) : w.grownBy (w.setRow g cs) (some g) :=
  ⟨rfl, rfl, rfl, by simp, fun k _ hk => setRow_other w g k _ (fun e => hk (by simp [e]))⟩

/-- copy as a step of a walk. -/
theorem wpList_copy_k {ops : Array Oper} {rest : List Oper} {o : Oper} {a : Act} {Q : Exit → Act → World → Prop} (w : World) (hgd : o.guard = none) (d s : Operand) (dT sT : TypeId)
    (ho : o.op = .call { callee := .builtin .copy, args := #[d, s], argTypes := #[dT, sT] }) (elem : TypeId) (k : Nat) (hu : Tryd.prog.underlying dT = some (.slice elem)) (hsz : (Tryd.prog.info? elem).map (·.size) = some k)
    (g off dLen dCap : Nat) (sp : Option Addr) (sLen sCap : Nat) (hd : a.eval d = .slice (some ⟨g, off, none⟩) dLen dCap) (hs : a.eval s = .slice sp sLen sCap)
    (cur : List Value) (t : TypeId) (hg : Raw w g t cur) (cs : List Value) (hn : cs.length = Nat.min sLen dLen * k) (hpos : 0 < cs.length → ∃ ad, sp = some ad ∧ CellsAt w ad cs) (hk : 0 < k)
    (hfit : off + cs.length ≤ cur.length) (h1 : ∀ v ∈ cs, v.oneCell' = true) (m : Nat) (hm : Nat.min sLen dLen = m)
    (h : ∀ w', Raw w' g t (splice cur off cs) → w.grownBy w' (some g) → wpList Tryd.prog ops Q rest (a.put o.dst (.int .i64 (m : Nat))) w') : wpList Tryd.prog ops Q (o :: rest) a w := by
  refine wpList_plain hgd fun K hK => ?_
  by_cases h0 : cs = []
  · subst h0
    have hm0 : Nat.min sLen dLen = 0 := by
      rcases Nat.eq_zero_or_pos (Nat.min sLen dLen) with h | h
      · exact h
      · have := Nat.mul_pos h hk; simp at hn; omega
    have hrun := run_copy_none_k (P := Tryd.prog) w dT sT o.type elem k (some ⟨g, off, none⟩) sp dLen dCap sLen sCap hu hsz hm0
    have hmz : m = 0 := by omega
    subst hmz
    rw [splice_nil] at h
    unfold Oper.wp
    simp [execOp, ho, resolve, invoke, builtin, hd, hs, hrun, Result.andThen]
    exact hK _ _ (h w hg (World.grownBy.refl _ _))
  · obtain ⟨ad, rfl, hsrc⟩ := hpos (List.length_pos_iff.2 h0)
    have hrun := run_copy_k (P := Tryd.prog) w dT sT o.type elem k g off dLen dCap ad sLen sCap cur t cs hu hsz hg hn hsrc hfit h1
    rw [hm] at hrun
    unfold Oper.wp
    simp [execOp, ho, resolve, invoke, builtin, hd, hs, hrun, Result.andThen]
    exact hK _ _ (h _ (setRow_heap w g _ _ t _ hg) (grown_setRow w g _))

/-- copy as a step of a region that draws its order. -/
theorem step_copy_k {ops : Array Oper} {o : Oper} {a : Act} {w : World} {K : Act → World → Prop} {Q : Exit → Act → World → Prop} {E : Prop} (hgd : o.guard = none) (d s : Operand) (dT sT : TypeId)
    (ho : o.op = .call { callee := .builtin .copy, args := #[d, s], argTypes := #[dT, sT] }) (elem : TypeId) (k : Nat) (hu : Tryd.prog.underlying dT = some (.slice elem)) (hsz : (Tryd.prog.info? elem).map (·.size) = some k)
    (g off dLen dCap : Nat) (ad : Addr) (sLen sCap : Nat) (hd : a.eval d = .slice (some ⟨g, off, none⟩) dLen dCap) (hs : a.eval s = .slice (some ad) sLen sCap)
    (cur : List Value) (t : TypeId) (hg : Raw w g t cur) (cs : List Value) (hn : cs.length = Nat.min sLen dLen * k) (hsrc : CellsAt w ad cs)
    (hfit : off + cs.length ≤ cur.length) (h1 : ∀ v ∈ cs, v.oneCell' = true) (m : Nat) (hm : Nat.min sLen dLen = m)
    (h : ∀ w', Raw w' g t (splice cur off cs) → w.grownBy w' (some g) → K (a.put o.dst (.int .i64 (m : Nat))) w') :
    if Region.wanted o (yielded ops a.tmps) = true then Oper.wp Tryd.prog o a w K Q else E := by
  have hw : Region.wanted o (yielded ops a.tmps) = true := by simp [Region.wanted, hgd]
  rw [if_pos hw]
  have hrun := run_copy_k (P := Tryd.prog) w dT sT o.type elem k g off dLen dCap ad sLen sCap cur t cs hu hsz hg hn hsrc hfit h1
  rw [hm] at hrun
  unfold Oper.wp
  simp [execOp, ho, resolve, invoke, builtin, hd, hs, hrun, Result.andThen]
  exact h _ (setRow_heap w g _ _ t _ hg) (grown_setRow w g _)

/-- Cells of a block that is known whole. -/
theorem Raw.at {w : World} {g : Nat} {t : TypeId} {L : List Value} (h : Raw w g t L) (n : Nat) : CellsAt w ⟨g, 0, none⟩ (L.take n) := by
  intro j u hu
  have hj : j < (L.take n).length := (List.getElem?_eq_some_iff.1 hu).1
  rw [List.length_take] at hj
  rw [List.getElem?_take_of_lt (by omega)] at hu
  have e : (⟨g, 0, none⟩ : Addr).add j = ⟨g, j, none⟩ := by unfold Addr.add; split <;> simp_all
  rw [e]
  unfold Raw at h
  simp [World.cell?, h, hu]

/-- append as a step of a region that draws its order. -/
theorem step_append_c {α : Type} {ops : Array Oper} {o : Oper} {a : Act} {w : World} {K : Act → World → Prop} {Q : Exit → Act → World → Prop} {E : Prop} (enc : α → List Value) (k : Nat) (ok : EncOk enc k) (B sT eT : Nat) (z : Value) (bytes : Nat)
    (hU : Tryd.prog.underlying sT = some (.slice eT)) (hI : (Tryd.prog.info? eT).map (fun i => (i.zero, i.size, i.bytes)) = some (some z, k, bytes)) (hz : z.cells.size = k) (hby : bytes ≤ 1000) (hgd : o.guard = none) (s x : Operand)
    (ho : o.op = .call { callee := .builtin .append, args := #[s, x], argTypes := #[sT, sT] })
    (v : Value) (xs : List α) (hs : a.eval s = v) (hrow : RowC B eT k enc w v xs) (ad : Addr) (m c : Nat) (cs : List α) (hx : a.eval x = .slice (some ad) m c) (hm : cs.length = m) (hcs : CellsAt w ad (cs.flatMap enc)) (hlen : xs.length + cs.length ≤ 1000000000) (hB : B ≤ w.heap.size)
    (h : ∀ v' w', RowC B eT k enc w' v' (xs ++ cs) → w.grownBy w' v.ownBlock → K (a.put o.dst v') w') : if Region.wanted o (yielded ops a.tmps) = true then Oper.wp Tryd.prog o a w K Q else E := by
  have hw : Region.wanted o (yielded ops a.tmps) = true := by simp [Region.wanted, hgd]
  rw [if_pos hw]
  subst hm
  obtain ⟨i0, hi, hz0, hz1, hz2⟩ := info_parts hI
  have hmul : (xs.length + cs.length) * bytes ≤ 1000000000 * 1000 := Nat.mul_le_mul hlen hby
  refine wp_append_own w s x sT ho B eT i0 z k bytes hU hi hz0 hz1 hz2 hz ok.pos v xs.length (xs.flatMap enc) hs hrow ad cs.length c (cs.flatMap enc) hx (flat_length ok cs) hcs (flat_one ok cs) (by simp only [maxLen]; omega) (by omega) hB ?_
  intro v' w' h1 h2 _
  refine h v' w' ?_ h2
  unfold RowC
  rw [List.length_append, List.flatMap_append]
  exact h1

end Go.Proofs.YtofhlnpbflkdlaaDoor

/-
  slices.Repeat of one element.
-/
namespace Go.Proofs.YtofhlnpbflkdlaaDoor
open Go.RowKit

set_option maxHeartbeats 1000000 in
theorem mul64_one (w : World) (n : Nat) (hn : n ≤ 1000000) :
    Calls Tryd.prog 84 #[.int .u64 1, .int .u64 (n : Nat)] w fun e w' => e = .returned (.tuple #[.int .u64 0, .int .u64 (n : Nat)]) ∧ w' = w := by
  have h1 : bits .and .u64 1 4294967295 = 1 := by decide
  have h2 : bits .and .u64 (n : Int) 4294967295 = (n : Int) := by
    have h := bits_and_u64_nat n 4294967295 (by omega) (by omega)
    have e : n &&& 4294967295 = n % 4294967296 := Nat.and_two_pow_sub_one_eq_mod n 32
    rw [e, Nat.mod_eq_of_lt (by omega)] at h
    exact h
  have h3 : (n : Int) / 4294967296 = 0 := by omega
  have h4 : IntKind.u64.wrap (n : Int) = (n : Int) := by rw [IntKind.wrap_u64]; omega
  have h5 : bits .and .u64 0 4294967295 = 0 := by decide
  go_enter Tryd.func84, Tryd.ntmps84
  go_wp2_with fail
  go_ret2
  exact ⟨rfl, rfl⟩

set_option maxHeartbeats 1000000 in
theorem mul_one (w : World) (n : Nat) (hn : n ≤ 1000000) :
    Calls Tryd.prog 73 #[.int .u64 1, .int .u64 (n : Nat)] w fun e w' => e = .returned (.tuple #[.int .u64 0, .int .u64 (n : Nat)]) ∧ w' = w := by
  have HC := mul64_one w n hn
  go_enter Tryd.func73, Tryd.ntmps73
  go_wp2_with fail
  refine HC.mono ?_
  rintro e w1 ⟨rfl, hw1⟩
  subst hw1
  clear HC
  go_wp2_with fail
  go_ret2
  exact ⟨rfl, rfl⟩

theorem splice_more {α : Type} {enc : α → List Value} {k : Nat} (ok : EncOk enc k) (x y : α) (n m N : Nat) (h : n + m ≤ N) :
    splice ((List.replicate n x ++ List.replicate (N - n) y).flatMap enc) (n * k) ((List.replicate m x).flatMap enc) = (List.replicate (n + m) x ++ List.replicate (N - (n + m)) y).flatMap enc := by
  have e1 : ((List.replicate n x).flatMap enc).length = n * k := by rw [flat_length ok, List.length_replicate]
  have e2 : ((List.replicate m x).flatMap enc).length = m * k := by rw [flat_length ok, List.length_replicate]
  have e3 : List.replicate (N - n) y = List.replicate m y ++ List.replicate (N - (n + m)) y := by rw [List.replicate_append_replicate]; congr 1; omega
  have e4 : ((List.replicate m y).flatMap enc).length = m * k := by rw [flat_length ok, List.length_replicate]
  unfold splice
  rw [List.flatMap_append, e2, List.take_append_of_le_length (by omega), List.take_of_length_le (by omega), List.drop_append, List.drop_eq_nil_of_le (by omega), e1, List.nil_append, Nat.add_sub_cancel_left, e3, List.flatMap_append, ← e4, List.drop_left, ← List.append_assoc, ← List.flatMap_append, List.replicate_append_replicate, ← List.flatMap_append]

theorem flat_rep_take {α : Type} {enc : α → List Value} {k : Nat} (ok : EncOk enc k) (x y : α) (n m N : Nat) (h : m ≤ n) : ((List.replicate n x ++ List.replicate N y).flatMap enc).take (m * k) = (List.replicate m x).flatMap enc := by
  have e1 : List.replicate n x = List.replicate m x ++ List.replicate (n - m) x := by rw [List.replicate_append_replicate]; congr 1; omega
  have e2 : ((List.replicate m x).flatMap enc).length = m * k := by rw [flat_length ok, List.length_replicate]
  rw [e1, List.append_assoc, List.flatMap_append, ← e2, List.take_left]

/-- A number's cell. -/
def natL (n : Nat) : List Value := [natV n]
theorem natL_ok : EncOk natL 1 := ⟨fun _ => rfl, fun x u hu => by simp [natL] at hu; subst hu; rfl, by decide⟩
theorem natL_flat (xs : List Nat) : xs.flatMap natL = xs.map natV := by
  induction xs with
  | nil => rfl
  | cons a r ih => rw [List.flatMap_cons, ih]; rfl

theorem Tryd.infoSt1 : (Tryd.prog.info? 31).map (·.size) = some 2 := by kernel_rfl
theorem Tryd.infoN1 : (Tryd.prog.info? 3).map (·.size) = some 1 := by kernel_rfl

set_option maxRecDepth 100000 in
set_option maxHeartbeats 2000000 in
theorem repeatS_any (w : World) (ad : Addr) (y : Int × Int) (N : Nat) (hx : CellsAt w ad (stC y)) (hN : N ≤ 1000) :
    Calls Tryd.prog 59 #[.slice (some ad) 1 1, .int .i64 (N : Nat)] w fun e w' => ∃ g, e = .returned (.slice (some ⟨g, 0, none⟩) N N) ∧ RowC w.heap.size 31 2 stC w' (.slice (some ⟨g, 0, none⟩) N N) (List.replicate N y) ∧ Same w w' := by
  have HMU := mul_one w N (by omega)
  have HX : Hid (CellsAt w ad (stC y)) := hx
  have hxb : ad.block < w.heap.size := by
    have h0 := hx 0
    have hl := stC_ok.len y
    rw [List.getElem?_eq_getElem (by rw [hl]; decide)] at h0
    have := World.block_lt_of_cell? w _ (h0 _ rfl)
    unfold Addr.add at this
    split at this <;> simpa using this
  have HXB : Hid (ad.block < w.heap.size) := hxb
  have hwN : wrap64 (N : Int) = (N : Int) := by unfold wrap64; omega
  have hwU : IntKind.u64.wrap (N : Int) = (N : Int) := by rw [IntKind.wrap_u64]; omega
  clear hx hxb
  obtain ⟨m, hm⟩ : ∃ m, m = Nat.min 1 N := ⟨_, rfl⟩
  have hm1 : m ≤ 1 := by rw [hm]; exact Nat.min_le_left _ _
  have hmN : m ≤ N := by rw [hm]; exact Nat.min_le_right _ _
  have hm0 : 0 < m ∨ N = 0 := by
    rw [hm]
    rcases Nat.eq_zero_or_pos N with h | h
    · exact .inr h
    · exact .inl (Nat.lt_min.2 ⟨by decide, h⟩)
  have HM : Hid (Nat.min 1 N = m) := hid hm.symm
  clear hm
  have HE0 : Hid (((List.replicate m y).flatMap stC).length = m * 2) := hid (by rw [flat_length stC_ok, List.length_replicate])
  have HCS0 : Hid (∀ w2, Same w w2 → 0 < ((List.replicate m y).flatMap stC).length → ∃ a, some ad = some a ∧ CellsAt w2 a ((List.replicate m y).flatMap stC)) := hid (fun w2 hk h => by
    refine ⟨ad, rfl, fun j u hu => hk.cell (HX.out j u ?_) (fun f => f)⟩
    have : m = 1 := by
      rcases Nat.eq_zero_or_pos m with e | e
      · subst e; simp at h
      · omega
    subst this
    simpa using hu)
  go_enter Tryd.func59, Tryd.ntmps59
  go_wp2_with fail
  refine HMU.mono ?_
  rintro e w1 ⟨rfl, hw1⟩
  subst hw1
  clear HMU
  go_wp2_with (first | (at_make; refine wpList_make_c _ stC 2 stC_ok (0, 0) w1.heap.size 25 31 (.agg #[.int .i64 0, .int .i64 0]) 16 Tryd.underlying25 Tryd.infoSt rfl (by decide) rfl _ _ rfl _ _ _ _ N rfl rfl rfl rfl (by omega) (Nat.le_refl _) ?_; intro w2 hr2 hg2 hs2; have HR2 : Hid (Raw w2 w1.heap.size 31 ((List.replicate N (0, 0)).flatMap stC)) := hid hr2.raw; have HK2 : Hid (Same w1 w2) := hid ((Kept.refl _ w1).grown hg2 (fun j e => by cases e)); clear hr2 hg2) | (with_reducible refine atCopy ?_; refine wpList_copy_k _ rfl (.tmp 31) (.tmp 32) 25 25 rfl 31 2 Tryd.underlying25 Tryd.infoSt1 w1.heap.size 0 N N (some ad) 1 1 rfl rfl _ 31 HR2.out ((List.replicate m y).flatMap stC) (by rw [HM.out]; exact HE0.out) (HCS0.out _ HK2.out) (by decide) (by rw [HE0.out, flat_length stC_ok, List.length_replicate, Nat.zero_add]; exact Nat.mul_le_mul_right _ hmN) (flat_one stC_ok _) m HM.out ?_; intro w3 hr3 hg3; have HR3 : Hid (Raw w3 w1.heap.size 31 ((List.replicate m y ++ List.replicate (N - m) (0, 0)).flatMap stC)) := hid (by have h := splice_more stC_ok y (0, 0) 0 m N (by omega); simp only [List.replicate_zero, List.nil_append, Nat.sub_zero, Nat.zero_mul, Nat.zero_add] at h; rw [← h]; exact hr3); have HK3 : Hid (Same w1 w3) := hid (HK2.out.grown hg3 (fun j e => .inr (by injection e with e; omega))); clear hr3 hg3))
  go_loopg [8] N (fun q z wr => ∃ (n : Nat), N - n ≤ q ∧ n ≤ N ∧ (0 < n ∨ N = 0) ∧ z = .int .i64 (n : Nat) ∧ Hid (Raw wr w1.heap.size 31 ((List.replicate n y ++ List.replicate (N - n) (0, 0)).flatMap stC)) ∧ Hid (Same w1 wr))
  case atStart => exact ⟨m, by omega, by omega, hm0, rfl, HR3, HK3⟩
  case round =>
    clear HR2 HK2 HR3 HK3 hm1 hmN hm0
    obtain ⟨n, hq, hn, hn0, rfl, HR, HK⟩ := hrel
    by_cases hlt : n < N
    · obtain ⟨j, hj⟩ : ∃ j, j = Nat.min n (N - n) := ⟨_, rfl⟩
      have hjn : j ≤ n := by rw [hj]; exact Nat.min_le_left _ _
      have hjN : j ≤ N - n := by rw [hj]; exact Nat.min_le_right _ _
      have hj0 : 0 < j := by rw [hj]; exact Nat.lt_min.2 ⟨by omega, by omega⟩
      have HJ : Hid (Nat.min n (N - n) = j) := hid hj.symm
      clear hj
      obtain ⟨t, ht⟩ : ∃ t, t = n + j := ⟨_, rfl⟩
      have htI : (n : Int) + (j : Int) = (t : Int) := by omega
      have htw : IntKind.i64.wrap (t : Int) = (t : Int) := by rw [IntKind.wrap_i64]; omega
      have htN : t ≤ N := by omega
      have htn : n < t := by omega
      have HT : Hid (t = n + j) := ht
      have HE1 : Hid (((List.replicate j y).flatMap stC).length = j * 2) := hid (by rw [flat_length stC_ok, List.length_replicate])
      have HA1 : Hid (CellsAt wr ⟨w1.heap.size, 0, none⟩ ((List.replicate j y).flatMap stC)) := hid (by rw [← flat_rep_take stC_ok y (0, 0) n j (N - n) hjn]; exact HR.out.at _)
      have HF1 : Hid (n * 2 + ((List.replicate j y).flatMap stC).length ≤ ((List.replicate n y ++ List.replicate (N - n) (0, 0)).flatMap stC).length) := hid (by rw [HE1.out, flat_length stC_ok, List.length_append, List.length_replicate, List.length_replicate, ← Nat.add_mul]; exact Nat.mul_le_mul_right _ (by omega))
      have hNe : ¬ N = n := by omega
      clear ht hjN hj0
      go_wp2_with fail
      go_region_law (refine step_copy_k rfl (.tmp 41) (.tmp 44) 25 25 rfl 31 2 Tryd.underlying25 Tryd.infoSt1 w1.heap.size (n * 2) (N - n) (N - n) ⟨w1.heap.size, 0, none⟩ n N (by simp [Act.eval, Act.put]) (by simp [Act.eval, Act.put]) _ 31 HR.out ((List.replicate j y).flatMap stC) (by rw [HJ.out]; exact HE1.out) HA1.out HF1.out (flat_one stC_ok _) j HJ.out ?_; intro w4 hr4 hg4)
      all_goals
        have HR4 : Hid (Raw w4 w1.heap.size 31 ((List.replicate t y ++ List.replicate (N - t) (0, 0)).flatMap stC)) := hid (by have h := splice_more stC_ok y (0, 0) n j N (by have := HT.out; omega); rw [← HT.out] at h; rw [← h]; exact hr4)
        have HK4 : Hid (Same w1 w4) := hid (HK.out.drew.grown hg4 (fun i e => .inr (by injection e with e; omega)))
        clear hr4 hg4
        go_wp2_with fail
        go_roundg (gk - 1)
        case measure => omega
        case rel => exact ⟨t, by omega, htN, .inl (by omega), rfl, HR4, HK4⟩
    · have hnN : n = N := by omega
      have HR4 : Hid (Raw wr w1.heap.size 31 ((List.replicate N y).flatMap stC)) := hid (by have h := HR.out; rw [hnN, Nat.sub_self] at h; simpa using h)
      clear hnN HR
      go_wp2_with fail
      go_ret
      refine ⟨_, rfl, ?_, HK.out⟩
      have h := HR4.out.row (B := w1.heap.size) stC_ok (Nat.le_refl _) (by simp [maxLen]; omega)
      rw [List.length_replicate] at h
      exact h

set_option maxRecDepth 100000 in
set_option maxHeartbeats 2000000 in
theorem repeatN_any (w : World) (ad : Addr) (y : Nat) (N : Nat) (hx : CellsAt w ad (natL y)) (hN : N ≤ 1000) :
    Calls Tryd.prog 80 #[.slice (some ad) 1 1, .int .i64 (N : Nat)] w fun e w' => ∃ g, e = .returned (.slice (some ⟨g, 0, none⟩) N N) ∧ RowC w.heap.size 3 1 natL w' (.slice (some ⟨g, 0, none⟩) N N) (List.replicate N y) ∧ Same w w' := by
  have HMU := mul_one w N (by omega)
  have HX : Hid (CellsAt w ad (natL y)) := hx
  have hxb : ad.block < w.heap.size := by
    have h0 := hx 0
    have hl := natL_ok.len y
    rw [List.getElem?_eq_getElem (by rw [hl]; decide)] at h0
    have := World.block_lt_of_cell? w _ (h0 _ rfl)
    unfold Addr.add at this
    split at this <;> simpa using this
  have HXB : Hid (ad.block < w.heap.size) := hxb
  have hwN : wrap64 (N : Int) = (N : Int) := by unfold wrap64; omega
  have hwU : IntKind.u64.wrap (N : Int) = (N : Int) := by rw [IntKind.wrap_u64]; omega
  clear hx hxb
  obtain ⟨m, hm⟩ : ∃ m, m = Nat.min 1 N := ⟨_, rfl⟩
  have hm1 : m ≤ 1 := by rw [hm]; exact Nat.min_le_left _ _
  have hmN : m ≤ N := by rw [hm]; exact Nat.min_le_right _ _
  have hm0 : 0 < m ∨ N = 0 := by
    rw [hm]
    rcases Nat.eq_zero_or_pos N with h | h
    · exact .inr h
    · exact .inl (Nat.lt_min.2 ⟨by decide, h⟩)
  have HM : Hid (Nat.min 1 N = m) := hid hm.symm
  clear hm
  have HE0 : Hid (((List.replicate m y).flatMap natL).length = m * 1) := hid (by rw [flat_length natL_ok, List.length_replicate])
  have HCS0 : Hid (∀ w2, Same w w2 → 0 < ((List.replicate m y).flatMap natL).length → ∃ a, some ad = some a ∧ CellsAt w2 a ((List.replicate m y).flatMap natL)) := hid (fun w2 hk h => by
    refine ⟨ad, rfl, fun j u hu => hk.cell (HX.out j u ?_) (fun f => f)⟩
    have : m = 1 := by
      rcases Nat.eq_zero_or_pos m with e | e
      · subst e; simp at h
      · omega
    subst this
    simpa using hu)
  go_enter Tryd.func80, Tryd.ntmps80
  go_wp2_with fail
  refine HMU.mono ?_
  rintro e w1 ⟨rfl, hw1⟩
  subst hw1
  clear HMU
  go_wp2_with (first | (at_make; refine wpList_make_c _ natL 1 natL_ok 0 w1.heap.size 22 3 (.int .i64 0) 8 Tryd.underlying22 Tryd.infoN rfl (by decide) rfl _ _ rfl _ _ _ _ N rfl rfl rfl rfl (by omega) (Nat.le_refl _) ?_; intro w2 hr2 hg2 hs2; have HR2 : Hid (Raw w2 w1.heap.size 3 ((List.replicate N 0).flatMap natL)) := hid hr2.raw; have HK2 : Hid (Same w1 w2) := hid ((Kept.refl _ w1).grown hg2 (fun j e => by cases e)); clear hr2 hg2) | (with_reducible refine atCopy ?_; refine wpList_copy_k _ rfl (.tmp 31) (.tmp 32) 22 22 rfl 3 1 Tryd.underlying22 Tryd.infoN1 w1.heap.size 0 N N (some ad) 1 1 rfl rfl _ 3 HR2.out ((List.replicate m y).flatMap natL) (by rw [HM.out]; exact HE0.out) (HCS0.out _ HK2.out) (by decide) (by rw [HE0.out, flat_length natL_ok, List.length_replicate, Nat.zero_add]; exact Nat.mul_le_mul_right _ hmN) (flat_one natL_ok _) m HM.out ?_; intro w3 hr3 hg3; have HR3 : Hid (Raw w3 w1.heap.size 3 ((List.replicate m y ++ List.replicate (N - m) 0).flatMap natL)) := hid (by have h := splice_more natL_ok y 0 0 m N (by omega); simp only [List.replicate_zero, List.nil_append, Nat.sub_zero, Nat.zero_mul, Nat.zero_add] at h; rw [← h]; exact hr3); have HK3 : Hid (Same w1 w3) := hid (HK2.out.grown hg3 (fun j e => .inr (by injection e with e; omega))); clear hr3 hg3))
  go_loopg [8] N (fun q z wr => ∃ (n : Nat), N - n ≤ q ∧ n ≤ N ∧ (0 < n ∨ N = 0) ∧ z = .int .i64 (n : Nat) ∧ Hid (Raw wr w1.heap.size 3 ((List.replicate n y ++ List.replicate (N - n) 0).flatMap natL)) ∧ Hid (Same w1 wr))
  case atStart => exact ⟨m, by omega, by omega, hm0, rfl, HR3, HK3⟩
  case round =>
    clear HR2 HK2 HR3 HK3 hm1 hmN hm0
    obtain ⟨n, hq, hn, hn0, rfl, HR, HK⟩ := hrel
    by_cases hlt : n < N
    · obtain ⟨j, hj⟩ : ∃ j, j = Nat.min n (N - n) := ⟨_, rfl⟩
      have hjn : j ≤ n := by rw [hj]; exact Nat.min_le_left _ _
      have hjN : j ≤ N - n := by rw [hj]; exact Nat.min_le_right _ _
      have hj0 : 0 < j := by rw [hj]; exact Nat.lt_min.2 ⟨by omega, by omega⟩
      have HJ : Hid (Nat.min n (N - n) = j) := hid hj.symm
      clear hj
      obtain ⟨t, ht⟩ : ∃ t, t = n + j := ⟨_, rfl⟩
      have htI : (n : Int) + (j : Int) = (t : Int) := by omega
      have htw : IntKind.i64.wrap (t : Int) = (t : Int) := by rw [IntKind.wrap_i64]; omega
      have htN : t ≤ N := by omega
      have htn : n < t := by omega
      have HT : Hid (t = n + j) := ht
      have HE1 : Hid (((List.replicate j y).flatMap natL).length = j * 1) := hid (by rw [flat_length natL_ok, List.length_replicate])
      have HA1 : Hid (CellsAt wr ⟨w1.heap.size, 0, none⟩ ((List.replicate j y).flatMap natL)) := hid (by rw [← flat_rep_take natL_ok y 0 n j (N - n) hjn]; exact HR.out.at _)
      have HF1 : Hid (n * 1 + ((List.replicate j y).flatMap natL).length ≤ ((List.replicate n y ++ List.replicate (N - n) 0).flatMap natL).length) := hid (by rw [HE1.out, flat_length natL_ok, List.length_append, List.length_replicate, List.length_replicate, ← Nat.add_mul]; exact Nat.mul_le_mul_right _ (by omega))
      have hNe : ¬ N = n := by omega
      clear ht hjN hj0
      go_wp2_with fail
      go_region_law (refine step_copy_k rfl (.tmp 41) (.tmp 44) 22 22 rfl 3 1 Tryd.underlying22 Tryd.infoN1 w1.heap.size (n * 1) (N - n) (N - n) ⟨w1.heap.size, 0, none⟩ n N (by simp [Act.eval, Act.put]) (by simp [Act.eval, Act.put]) _ 3 HR.out ((List.replicate j y).flatMap natL) (by rw [HJ.out]; exact HE1.out) HA1.out HF1.out (flat_one natL_ok _) j HJ.out ?_; intro w4 hr4 hg4)
      all_goals
        have HR4 : Hid (Raw w4 w1.heap.size 3 ((List.replicate t y ++ List.replicate (N - t) 0).flatMap natL)) := hid (by have h := splice_more natL_ok y 0 n j N (by have := HT.out; omega); rw [← HT.out] at h; rw [← h]; exact hr4)
        have HK4 : Hid (Same w1 w4) := hid (HK.out.drew.grown hg4 (fun i e => .inr (by injection e with e; omega)))
        clear hr4 hg4
        go_wp2_with fail
        go_roundg (gk - 1)
        case measure => omega
        case rel => exact ⟨t, by omega, htN, .inl (by omega), rfl, HR4, HK4⟩
    · have hnN : n = N := by omega
      have HR4 : Hid (Raw wr w1.heap.size 3 ((List.replicate N y).flatMap natL)) := hid (by have h := HR.out; rw [hnN, Nat.sub_self] at h; simpa using h)
      clear hnN HR
      go_wp2_with fail
      go_ret
      refine ⟨_, rfl, ?_, HK.out⟩
      have h := HR4.out.row (B := w1.heap.size) natL_ok (Nat.le_refl _) (by simp [maxLen]; omega)
      rw [List.length_replicate] at h
      exact h

end Go.Proofs.YtofhlnpbflkdlaaDoor

/-
  The decoder's calls: Max, New, search, Next.
-/
namespace Go.Proofs.YtofhlnpbflkdlaaDoor
open Go.RowKit

set_option maxHeartbeats 1000000 in
theorem max_any (w : World) (v : Value) (I : Nat → Prop) (ns : List Nat) (hs : SrcE natV w I v ns) (hn : ns.length ≤ 1000000) (h0 : 0 < ns.length) (h15 : ∀ n ∈ ns, n ≤ 1000000000000) :
    Calls Tryd.prog 92 #[v] w fun e w' => e = .returned (.int .i64 (mxL ns : Nat)) ∧ w' = w := by
  obtain ⟨b, o, cap, rfl, _, _, c0⟩ := hs.get 0 h0
  have HS : Hid (SrcE natV w I (.slice (some ⟨b, o, none⟩) ns.length cap) ns) := hs
  have H15 : Hid (∀ n ∈ ns, n ≤ 1000000000000) := h15
  clear hs h15
  obtain ⟨x0, hx0⟩ : ∃ x, x = ns[0] := ⟨_, rfl⟩
  rw [← hx0] at c0
  unfold natV at c0
  have HX0 : Hid (x0 = ns[0]) := hx0
  clear hx0
  rw [Nat.add_zero] at c0
  have hlen : ((ns.length : Int) < 1) = False := by simp; omega
  go_enter Tryd.func92, Tryd.ntmps92
  go_wp2_with fail
  clear hlen
  go_loopg [3, 4] ns.length (fun q zm zi wr => ∃ (i m : Nat), ns.length - i ≤ q ∧ i ≤ ns.length ∧ 1 ≤ i ∧ zi = .int .i64 (i : Nat) ∧ zm = .int .i64 (m : Nat) ∧ wr = w ∧ Hid (m = (ns.take i).foldl max 0))
  case atStart => exact ⟨1, x0, by omega, by omega, by omega, rfl, rfl, rfl, hid (by
    rw [show (1 : Nat) = 0 + 1 from rfl, List.take_succ_eq_append_getElem h0, ← HX0.out]; simp)⟩
  case round =>
    obtain ⟨i, m, hq, hi, h1i, rfl, rfl, rfl, HF⟩ := hrel
    by_cases hlt : i < ns.length
    · obtain ⟨b2, o2, cap2, e, _, _, c1⟩ := HS.out.get i hlt
      simp only [Value.slice.injEq, Option.some.injEq, Addr.mk.injEq, and_true] at e
      obtain ⟨⟨rfl, rfl⟩, hxe, rfl⟩ := e
      clear hxe
      obtain ⟨x, hx⟩ : ∃ x, x = ns[i] := ⟨_, rfl⟩
      rw [← hx] at c1
      unfold natV at c1
      have HX : Hid (x = ns[i]) := hx
      clear hx
      by_cases hmx : m < x
      · go_wp2_with fail
        go_roundg (gk - 1)
        case measure => omega
        case rel => exact ⟨i + 1, x, by omega, by omega, by omega, by go_num, by first | rfl | (congr 1; omega), rfl, hid (by rw [List.take_succ_eq_append_getElem hlt, List.foldl_append, ← HF.out, ← HX.out]; simp [Nat.max_eq_right (show m ≤ x by omega)])⟩
      · go_wp2_with fail
        go_roundg (gk - 1)
        case measure => omega
        case rel => exact ⟨i + 1, m, by omega, by omega, by omega, by go_num, by first | rfl | (congr 1; omega), rfl, hid (by rw [List.take_succ_eq_append_getElem hlt, List.foldl_append, ← HF.out, ← HX.out]; simp [Nat.max_eq_left (show x ≤ m by omega)])⟩
    · have hi2 : i = ns.length := by omega
      subst hi2
      go_wp2_with fail
      go_ret
      have h := HF.out
      rw [List.take_of_length_le (Nat.le_refl _)] at h
      exact ⟨by rw [mxL, ← h]; rfl, rfl⟩

/-- A decoder at block p. -/
structure Dec (w : World) (p : Nat) (vc vs : Value) (ns : List Nat) : Prop where
  cc : w.cell? ⟨p, 0, none⟩ = some vc
  cs : w.cell? ⟨p, 1, none⟩ = some vs
  rc : NRow 0 w vc (cntL ns)
  rs : NRow 0 w vs (ris ns)

/-- The blocks of a decoder. -/
def DF (p : Nat) (vc vs : Value) (k : Nat) : Prop := k = p ∨ vc.ownBlock = some k ∨ vs.ownBlock = some k

theorem Dec.kept {F : Nat → Prop} {w w' : World} {p : Nat} {vc vs : Value} {ns : List Nat} (h : Dec w p vc vs ns) (hk : Kept F w w') (hF : ∀ k, DF p vc vs k → ¬ F k) : Dec w' p vc vs ns :=
  ⟨hk.cell h.cc (hF p (.inl rfl)), hk.cell h.cs (hF p (.inl rfl)), h.rc.kept hk (fun k e => hF k (.inr (.inl e))), h.rs.kept hk (fun k e => hF k (.inr (.inr e)))⟩

theorem Dec.lt {w : World} {p : Nat} {vc vs : Value} {ns : List Nat} (h : Dec w p vc vs ns) {k : Nat} (hk : DF p vc vs k) : k < w.heap.size := by
  rcases hk with rfl | hk | hk
  · exact World.block_lt_of_cell? w _ h.cc
  · exact h.rc.lt hk
  · exact h.rs.lt hk

theorem Dec.drewN {w : World} {p : Nat} {vc vs : Value} {ns : List Nat} (h : Dec w p vc vs ns) (k : Nat) : Dec (w.drewN k) p vc vs ns := ⟨h.cc, h.cs, h.rc, h.rs⟩

theorem new_bad (w : World) (v : Value) (I : Nat → Prop) (zs : List Int) (hs : SrcE intV w I v zs) (hn : zs.length ≤ 1000000) (hb : chk zs ≠ 0) :
    Calls Tryd.prog 81 #[v] w fun e w' => e = .returned (.tuple #[.pointer none, .int .i64 (chk zs : Nat)]) ∧ Same w w' := by
  have HC := check_any w v I zs hs hn
  generalize chk zs = c at HC hb
  have hd : ((c : Int) != 0) = true := by simp; omega
  clear hs hb
  go_enter Tryd.func81, Tryd.ntmps81
  go_wp2_with fail
  refine HC.mono ?_
  rintro e w2 ⟨rfl, hk⟩
  have HK : Hid (Same w w2) := hk
  clear hk HC
  go_wp2_with fail
  first
    | (go_ret2; exact ⟨rfl, HK.out⟩)
    | (go_quiet (fail); go_wp2_with fail; go_ret2; exact ⟨rfl, HK.out.drewN _⟩)

set_option maxHeartbeats 2000000 in
theorem search_any (w : World) (p : Nat) (vc vs : Value) (ns : List Nat) (R h : Nat) (hd : Dec w p vc vs ns) (hm : mxL ns ≤ 15) (hns : ns.length ≤ 288) (hh : h ≤ mxL ns) (hR : R < 4294967296) :
    Calls Tryd.prog 97 #[.pointer (some ⟨p, 0, none⟩), .int .u32 (R : Nat), .int .i64 (h : Nat)] w fun e w' => (∃ sym long er, e = .returned (.tuple #[.int .i64 (sym : Nat), .int .i64 (long : Nat), .int .i64 (er : Nat)]) ∧ Ans ns h R sym long er) ∧ Same w w' := by
  obtain ⟨ac, capc, rfl, shc, _⟩ := hd.rc.shape
  obtain ⟨as', caps, rfl, shs, _⟩ := hd.rs.shape
  have c1 := hd.cc
  have c2 := hd.cs
  have HD : Hid (Dec w p (.slice ac (cntL ns).length capc) (.slice as' (ris ns).length caps) ns) := hd
  have HM : Hid (mxL ns = (cntL ns).length) := hid (by simp [cntL])
  have hcl : (cntL ns).length ≤ 15 := by have := HM.out; omega
  have hhl : h ≤ (cntL ns).length := by have := HM.out; omega
  have HRL : Hid ((ris ns).length ≤ 288) := hid (Nat.le_trans (ris_length ns) hns)
  clear hd hm shc shs hh
  generalize hcn : (cntL ns).length = cn at *
  have HCN : Hid ((cntL ns).length = cn) := hcn
  clear hcn
  go_enter Tryd.func97, Tryd.ntmps97
  go_wp2_with fail
  go_step3
  go_wp2_with fail
  go_step3
  go_wp2_with fail
  go_loopg [6, 7, 8, 9, 10, 18] cn (fun q z6 z7 z8 zp za zn wr => ∃ (n place ahead : Nat), cn - n ≤ q ∧ n ≤ cn ∧ n ≤ h ∧ place ≤ 32768 ∧ ahead ≤ 288 ∧ z6 = .int .i64 0 ∧ z7 = .int .i64 0 ∧ z8 = .int .i64 32 ∧ zp = .int .i64 (place : Nat) ∧ za = .int .i64 (ahead : Nat) ∧ zn = .int .i64 (n : Nat) ∧ Hid (Seek ns R n place ahead) ∧ Hid (Same w wr))
  case atStart => exact ⟨0, 0, 0, by omega, by omega, by omega, by omega, by omega, rfl, rfl, rfl, rfl, rfl, rfl, Seek.start ns R, Kept.refl _ _⟩
  case round =>
    obtain ⟨n, place, ahead, hq, hn, hnh, hp1, hp2, rfl, rfl, rfl, rfl, rfl, rfl, HF, HK⟩ := hrel
    have d2 : wr.cell? ⟨p, 1, none⟩ = some (.slice as' (ris ns).length caps) := HK.out.cell c2 (fun h => h)
    by_cases hlt : n < cn
    · obtain ⟨b, o, cap', e, _, _, cx⟩ := (SrcE.ofRow (HD.out.rc.same HK.out)).get n (by have := HCN.out; omega)
      simp only [Value.slice.injEq] at e
      obtain ⟨rfl, hxe, rfl⟩ := e
      clear hxe
      obtain ⟨x, hx⟩ : ∃ x, x = ofN ns (n + 1) := ⟨_, rfl⟩
      have cx2 : wr.cell? ⟨b, o + n, none⟩ = some (.int .i64 (x : Int)) := by rw [cx, hx]; simp [natV, cntL]
      have HX : Hid (x = ofN ns (n + 1)) := hx
      clear cx hx
      obtain ⟨bt, hbt⟩ : ∃ bt, bt = R / 2 ^ n % 2 := ⟨_, rfl⟩
      have hbl : bt < 2 := by omega
      have hbi : bits .and .u32 ((R : Int) / 2 ^ n) 1 = (bt : Int) := by
        have e1 : (R : Int) / 2 ^ n = ((R / 2 ^ n : Nat) : Int) := by simp
        have := u32_and_nat (R / 2 ^ n) 1 (Nat.lt_of_le_of_lt (Nat.div_le_self _ _) hR) (by decide)
        rw [e1, hbt]
        rw [Nat.and_one_is_mod] at this
        exact this
      have HB : Hid (bt = R / 2 ^ n % 2) := hbt
      have hx288 : x ≤ 288 := by
        have h1 := upN_succ ns n; have h2 := upN_le ns (n + 1); have h3 := HX.out; have h4 := HRL.out; omega
      clear hbt
      by_cases hend : n = h
      · have hdn : ((n : Int) == (h : Int)) = true := by simp [hend]
        have HE : Hid (n = h) := hend
        clear hend
        go_wp2_with fail
        rw [Exit.noGoto_ret]
        go_ret3
        refine ⟨⟨0, 0, 10, rfl, .inr (.inl ⟨rfl, rfl, rfl, ?_, ?_⟩)⟩, HK.out⟩
        · have := HM.out; have := HCN.out; have := HE.out; omega
        · have h1 := HF.out.pl
          rw [HE.out] at h1
          omega
      · have hdn : ((n : Int) == (h : Int)) = false := by simp; omega
        by_cases hfd : 2 * place + bt < x
        · obtain ⟨hk, hkey, hcode⟩ := HF.out.found (by omega) (by rw [← HB.out, ← HX.out]; exact hfd)
          obtain ⟨b3, o3, cap3, e3, _, _, c3⟩ := (SrcE.ofRow (HD.out.rs.same HK.out)).get _ hk
          simp only [Value.slice.injEq] at e3
          obtain ⟨rfl, hxe, rfl⟩ := e3
          clear hxe
          obtain ⟨sy, hsy⟩ : ∃ sy, sy = (ris ns)[ahead + (2 * place + R / 2 ^ n % 2)] := ⟨_, rfl⟩
          rw [← hsy] at c3 hkey hcode
          rw [← HB.out] at c3 hk
          unfold natV at c3
          have HANS : Hid (Ans ns h R sy (n + 1) 0) := hid (.inl ⟨rfl, by rw [hsy]; exact List.getElem_mem _, hkey.symm, by omega, hcode⟩)
          clear hsy hkey hcode
          have hrl := HRL.out
          go_wp2_with fail
          rw [Exit.noGoto_ret]
          go_ret3
          exact ⟨⟨sy, n + 1, 0, rfl, HANS.out⟩, HK.out⟩
        · have HS2 : Hid (Seek ns R (n + 1) (2 * place + bt - x) (ahead + x)) := hid (by
            have := HF.out.next (by omega) (by rw [← HB.out, ← HX.out]; exact hfd)
            rw [← HB.out, ← HX.out] at this; exact this)
          have hah : ahead + x ≤ 288 := by
            have h1 := HS2.out.ah; have h2 := upN_le ns (n + 1); have h4 := HRL.out; omega
          have hpl : 2 * place + bt - x ≤ 32768 := by
            have h1 := HS2.out.pl
            have h2 := rv_lt (n + 1) R
            have h3 : rv (n + 1) R * 2 ^ (15 - (n + 1)) ≤ 2 ^ (n + 1) * 2 ^ (15 - (n + 1)) := Nat.mul_le_mul_right _ (by omega)
            rw [← Nat.pow_add, show n + 1 + (15 - (n + 1)) = 15 by omega] at h3
            have h4 : (2 * place + bt - x) * 1 ≤ (2 * place + bt - x) * 2 ^ (15 - (n + 1)) := Nat.mul_le_mul_left _ (Nat.two_pow_pos _)
            have h5 : (2 : Nat) ^ 15 = 32768 := by decide
            omega
          go_wp2_with fail
          go_roundg (gk - 1)
          case measure => omega
          case rel => exact ⟨n + 1, 2 * place + bt - x, ahead + x, by omega, by omega, by omega, hpl, hah, rfl, rfl, rfl, by congr 1; omega, by congr 1, by go_num, HS2, HK⟩
    · have hn2 : n = cn := by omega
      subst hn2
      go_wp2_with fail
      rw [Exit.noGoto_ret]
      go_ret3
      refine ⟨⟨0, 0, 32, rfl, .inr (.inr ⟨rfl, rfl, rfl, ?_, ?_⟩)⟩, HK.out⟩
      · have := HM.out; have := HCN.out; omega
      · have h1 := HF.out.pl
        have h2 : n = mxL ns := by have := HM.out; have := HCN.out; omega
        have h3 : n = h := by omega
        rw [← sumTo_all, ← upN_all ns, ← h2, ← h3]
        omega

end Go.Proofs.YtofhlnpbflkdlaaDoor

/-
  The decoder's calls: New, Next.
-/
namespace Go.Proofs.YtofhlnpbflkdlaaDoor
open Go.RowKit

theorem cntL_length (ns : List Nat) : (cntL ns).length = mxL ns := by simp [cntL]

set_option maxHeartbeats 2000000 in
theorem next_any (w : World) (d : Nat) (vc vs : Value) (ns : List Nat) (p c : Nat) (s : Value) (bs : List Nat) (hd : Dec w d vc vs ns) (hm : mxL ns ≤ 15) (hns : ns.length ≤ 288) (hs : St w p s bs c) (hc : c ≤ 8 * bs.length) (hlen : bs.length ≤ 100000000) (hdis : ∀ k, DF d vc vs k → ¬ Fp p s k) :
    Calls Tryd.prog 93 #[.pointer (some ⟨d, 0, none⟩), .pointer (some ⟨p, 0, none⟩)] w fun e w' => (∃ sym long er, e = .returned (.tuple #[.int .i64 (sym : Nat), .int .i64 (er : Nat)]) ∧
      Ans ns (min (8 * bs.length - c) (mxL ns)) (n256 bs / 2 ^ c % 2 ^ (min (8 * bs.length - c) (mxL ns))) sym long er ∧ St w' p s bs (c + long)) ∧ Kept (· = p) w w' := by
  have HL := fun q => left_any p c s bs (w.drewN q) (hs.drewN q) hc (by omega)
  obtain ⟨ac, capc, rfl, shc, _⟩ := hd.rc.shape
  have c1 := hd.cc
  have HD : Hid (Dec w d (.slice ac (cntL ns).length capc) vs ns) := hd
  have HS : Hid (St w p s bs c) := hs
  have HX : Hid (∀ k, DF d (.slice ac (cntL ns).length capc) vs k → ¬ Fp p s k) := hdis
  have hcl := cntL_length ns
  obtain ⟨left, hleft⟩ : ∃ left, left = 8 * bs.length - c := ⟨_, rfl⟩
  rw [← hleft] at HL ⊢
  obtain ⟨mx, hmx⟩ : ∃ mx, mx = mxL ns := ⟨_, rfl⟩
  rw [← hmx] at hcl hm ⊢
  have HMX : Hid (mx = mxL ns) := hmx
  have HLEFT : Hid (left = 8 * bs.length - c) := hleft
  have HCL : Hid ((cntL ns).length = mx) := hcl
  clear hd hs hdis hmx hleft shc
  rw [hcl] at c1 HD HX
  clear hcl
  go_enter Tryd.func93, Tryd.ntmps93
  by_cases hlm : mx < left
  · have HMIN : Hid (min left mx = mx) := hid (by omega)
    go_wp2_with fail
    go_quiet ((go_at_call 29; exact Calls.quiet_of (HL _)))
    have HT := take_good p c mx s bs (w.drewN nq) (HS.out.drewN nq) (by omega) (by omega) (by have := HLEFT.out; omega)
    obtain ⟨R, hR⟩ : ∃ R, R = n256 bs / 2 ^ c % 2 ^ mx := ⟨_, rfl⟩
    rw [← hR] at HT
    have HR : Hid (R = n256 bs / 2 ^ c % 2 ^ mx) := hR
    have hRl : R < 4294967296 := by
      have h1 : R < 2 ^ mx := by rw [hR]; exact Nat.mod_lt _ (Nat.two_pow_pos _)
      have h2 : 2 ^ mx ≤ 2 ^ 15 := Nat.pow_le_pow_right (by omega) (by omega)
      have h3 : (2 : Nat) ^ 15 = 32768 := by decide
      omega
    clear hR
    go_wp2_with fail
    refine HT.mono ?_
    rintro e w1 ⟨rfl, hst1, hk1⟩
    have HS1 : Hid (St w1 p s bs (c + mx)) := hst1
    have HK1 : Hid (Kept (· = p) w w1) := hid (((Kept.refl (· = p) w).drewN nq).trans hk1 (fun _ _ h => h) (fun _ _ h => h))
    have HSE := search_any w1 d _ vs ns R mx (HD.out.kept HK1.out (fun k hk e => HX.out k hk (.inl e))) (by have := HMX.out; omega) hns (by have := HMX.out; omega) hRl
    clear hst1 hk1 HT
    go_wp2_with fail
    refine HSE.mono ?_
    rintro e w2 ⟨⟨sym, long, er, rfl, hans⟩, hk2⟩
    have HANS : Hid (Ans ns mx R sym long er) := hans
    have hll : long ≤ mx := by
      rcases hans with ⟨_, _, _, h, _⟩ | ⟨_, _, h, _⟩ | ⟨_, _, h, _⟩
      · exact h
      · omega
      · omega
    have hsub : ((mx : Int) - (long : Int)) = ((mx - long : Nat) : Int) := by omega
    have HS2 : Hid (St w2 p s bs (c + mx)) := hid (HS1.out.kept hk2 (fun _ _ h => h))
    have HK2 : Hid (Kept (· = p) w w2) := hid (HK1.out.trans hk2 (fun _ _ h => h) (fun _ _ h => h.elim))
    have HBK := back_good p (c + mx) (mx - long) s bs w2 HS2.out (by omega) (by have := HLEFT.out; omega)
    clear hans hk2 HSE
    go_wp2_with fail
    refine HBK.mono ?_
    rintro e w3 ⟨rfl, hst3, hk3⟩
    have HS3 : Hid (St w3 p s bs (c + long)) := hid (by rw [show c + mx - (mx - long) = c + long by omega] at hst3; exact hst3)
    have HK3 : Hid (Kept (· = p) w w3) := hid (HK2.out.trans hk3 (fun _ _ h => h) (fun _ _ h => h))
    clear hst3 hk3 HBK
    go_wp2_with fail
    go_ret2
    exact ⟨⟨sym, long, er, rfl, by rw [HMIN.out, ← HR.out]; exact HANS.out, HS3.out⟩, HK3.out⟩
  · have HMIN : Hid (min left mx = left) := hid (by omega)
    go_wp2_with fail
    go_quiet ((go_at_call 29; exact Calls.quiet_of (HL _)))
    have HT := take_good p c left s bs (w.drewN nq) (HS.out.drewN nq) (by omega) (by omega) (by have := HLEFT.out; omega)
    obtain ⟨R, hR⟩ : ∃ R, R = n256 bs / 2 ^ c % 2 ^ left := ⟨_, rfl⟩
    rw [← hR] at HT
    have HR : Hid (R = n256 bs / 2 ^ c % 2 ^ left) := hR
    have hRl : R < 4294967296 := by
      have h1 : R < 2 ^ left := by rw [hR]; exact Nat.mod_lt _ (Nat.two_pow_pos _)
      have h2 : 2 ^ left ≤ 2 ^ 15 := Nat.pow_le_pow_right (by omega) (by omega)
      have h3 : (2 : Nat) ^ 15 = 32768 := by decide
      omega
    clear hR
    go_wp2_with fail
    refine HT.mono ?_
    rintro e w1 ⟨rfl, hst1, hk1⟩
    have HS1 : Hid (St w1 p s bs (c + left)) := hst1
    have HK1 : Hid (Kept (· = p) w w1) := hid (((Kept.refl (· = p) w).drewN nq).trans hk1 (fun _ _ h => h) (fun _ _ h => h))
    have HSE := search_any w1 d _ vs ns R left (HD.out.kept HK1.out (fun k hk e => HX.out k hk (.inl e))) (by have := HMX.out; omega) hns (by have := HMX.out; omega) hRl
    clear hst1 hk1 HT
    go_wp2_with fail
    refine HSE.mono ?_
    rintro e w2 ⟨⟨sym, long, er, rfl, hans⟩, hk2⟩
    have HANS : Hid (Ans ns left R sym long er) := hans
    have hll : long ≤ left := by
      rcases hans with ⟨_, _, _, h, _⟩ | ⟨_, _, h, _⟩ | ⟨_, _, h, _⟩
      · exact h
      · omega
      · omega
    have hsub : ((left : Int) - (long : Int)) = ((left - long : Nat) : Int) := by omega
    have HS2 : Hid (St w2 p s bs (c + left)) := hid (HS1.out.kept hk2 (fun _ _ h => h))
    have HK2 : Hid (Kept (· = p) w w2) := hid (HK1.out.trans hk2 (fun _ _ h => h) (fun _ _ h => h.elim))
    have HBK := back_good p (c + left) (left - long) s bs w2 HS2.out (by omega) (by have := HLEFT.out; omega)
    clear hans hk2 HSE
    go_wp2_with fail
    refine HBK.mono ?_
    rintro e w3 ⟨rfl, hst3, hk3⟩
    have HS3 : Hid (St w3 p s bs (c + long)) := hid (by rw [show c + left - (left - long) = c + long by omega] at hst3; exact hst3)
    have HK3 : Hid (Kept (· = p) w w3) := hid (HK2.out.trans hk3 (fun _ _ h => h) (fun _ _ h => h))
    clear hst3 hk3 HBK
    go_wp2_with fail
    go_ret2
    exact ⟨⟨sym, long, er, rfl, by rw [HMIN.out, ← HR.out]; exact HANS.out, HS3.out⟩, HK3.out⟩

theorem next_none (w : World) (rv' : Value) : Calls Tryd.prog 93 #[.pointer none, rv'] w fun e w' => e = .returned (.tuple #[.int .i64 0, .int .i64 3]) ∧ w' = w := by
  go_enter Tryd.func93, Tryd.ntmps93
  go_wp2_with fail
  go_ret2
  exact ⟨rfl, rfl⟩

theorem next_noreader (w : World) (d : Nat) : Calls Tryd.prog 93 #[.pointer (some ⟨d, 0, none⟩), .pointer none] w fun e w' => e = .returned (.tuple #[.int .i64 0, .int .i64 3]) ∧ w' = w := by
  go_enter Tryd.func93, Tryd.ntmps93
  go_wp2_with fail
  go_ret2
  exact ⟨rfl, rfl⟩

end Go.Proofs.YtofhlnpbflkdlaaDoor

/-
  New.
-/
namespace Go.Proofs.YtofhlnpbflkdlaaDoor
open Go.RowKit

theorem Kept.undrew {F : Nat → Prop} {w w' : World} (h : Kept F w.drew w') : Kept F w w' := ⟨h.os, h.tape, h.output, h.size, h.block⟩

/-- make of a row of ints, as an equation. -/
theorem make_eq (n : Nat) (hn : n ≤ 1000000) : ∃ ob : Obj, (∀ W : World, (Instr.makeSlice 22 (.int .i64 (n : Nat)) (.int .i64 (n : Nat))).run Tryd.prog W = .ok (.slice (some ⟨W.heap.size, 0, none⟩) n n) (W.alloc ob)) ∧
    ∀ (W : World) (B : Nat), B ≤ W.heap.size → NRow B (W.alloc ob) (.slice (some ⟨W.heap.size, 0, none⟩) n n) (List.replicate n 0) := by
  obtain ⟨i0, hi, hz0, hz1, hz2⟩ := info_parts Tryd.infoN
  have hr := fun W : World => run_make (P := Tryd.prog) W 22 3 i0 (natV 0) Tryd.underlying22 hi hz0 .i64 .i64 (n : Int) (n : Int) (by omega) (Int.le_refl _) (by rw [hz2]; omega) (by omega)
  refine ⟨.cells (madeCells (natV 0).cells (n * i0.size)) 3, fun W => by simpa using hr W, fun W B hB => ?_⟩
  obtain ⟨w1, hr1, ho1, hg1⟩ := run_make_full (P := Tryd.prog) W B 22 3 i0 (natV 0) 1 Tryd.underlying22 hi hz0 hz1 .i64 .i64 n (by rw [hz2]; omega) (by simp only [maxLen]; omega) hB
  have h2 := hr W
  rw [hr1] at h2
  simp only [Result.ok.injEq] at h2
  have h3 := h2.2
  simp only [Int.toNat_natCast] at h3
  rw [← h3]
  have e : (natV 0).cells = #[natV 0] := rfl
  rw [e, Nat.mul_one, toList_madeCells_one] at ho1
  unfold NRow RowE
  simpa using ho1

set_option maxHeartbeats 2000000 in
theorem new_good (w : World) (v : Value) (I : Nat → Prop) (zs : List Int) (ns : List Nat) (hs : SrcE intV w I v zs) (hg : Good zs ns) (hb : chk zs = 0) :
    Calls Tryd.prog 81 #[v] w fun e w' => (∃ d vc vs, e = .returned (.tuple #[.pointer (some ⟨d, 0, none⟩), .int .i64 0]) ∧ Dec w' d vc vs ns ∧ ∀ k, DF d vc vs k → w.heap.size ≤ k) ∧ Same w w' := by
  obtain ⟨ao, cap, rfl, hx1, hx2⟩ := id hs
  clear hx1 hx2
  have HC := check_any w _ I zs hs (by have := hg.len; have := hg.max; omega)
  rw [hb] at HC
  have HG : Hid (Good zs ns) := hg
  have HS : Hid (SrcE natV w I (.slice ao zs.length cap) ns) := hid (hs.recode hg.eq)
  have HL : Hid (zs.length = ns.length) := hg.len.symm
  have h288 : zs.length ≤ 288 := by have := hg.len; have := hg.max; omega
  have hmx : mxL ns ≤ 15 := mx_le ns 15 hg.le
  clear hs hg hb
  generalize zs.length = n at *
  go_enter Tryd.func81, Tryd.ntmps81
  go_wp2_with fail
  refine HC.mono ?_
  rintro e w2 ⟨rfl, hk⟩
  have HK : Hid (Same w w2) := hk
  clear hk HC
  have HMX := fun wx (h : Same w wx) => max_any wx _ I ns (HS.out.same h) (by have := HL.out; omega) HG.out.pos (fun x hx => by have := HG.out.le x hx; omega)
  have HRI : ∀ wx, Same w wx → Calls Tryd.prog 75 #[.slice ao n cap] wx fun e w' => ∃ a4 n4 c4, e = .returned (.slice a4 n4 c4) ∧ New wx w' (.slice a4 n4 c4) (ris ns) := fun wx h => (rising_any wx _ I ns (HS.out.same h) (by have := HL.out; omega)).mono (by
    rintro e w' ⟨v', rfl, hn⟩
    obtain ⟨a4, c4, rfl, _⟩ := hn.row.shape
    exact ⟨a4, _, c4, rfl, hn⟩)
  obtain ⟨mx, hmxe⟩ : ∃ mx, mx = mxL ns := ⟨_, rfl⟩
  rw [← hmxe] at HMX hmx
  have HME : Hid (mx = mxL ns) := hmxe
  clear hmxe
  obtain ⟨ob, hmk, hmr⟩ := make_eq mx (by omega)
  have HMR : Hid (∀ (W : World) (B : Nat), B ≤ W.heap.size → NRow B (W.alloc ob) (.slice (some ⟨W.heap.size, 0, none⟩) mx mx) (List.replicate mx 0)) := hmr
  clear hmr
  go_upto_region 4 with fail
  go_cut [5] from 13 to 19 (fun z wx => ∃ d vs gc, z = .pointer (some ⟨d, 0, none⟩) ∧ Hid (Same w wx) ∧ Hid (wx.cell? ⟨d, 0, none⟩ = some (.slice (some ⟨gc, 0, none⟩) mx mx) ∧ wx.cell? ⟨d, 1, none⟩ = some vs ∧ NRow w.heap.size wx (.slice (some ⟨gc, 0, none⟩) mx mx) (List.replicate mx 0) ∧ NRow w.heap.size wx vs (ris ns) ∧ w.heap.size ≤ d ∧ w.heap.size ≤ gc ∧ gc ≠ d ∧ vs.ownBlock ≠ some gc ∧ vs.ownBlock ≠ some d))
  case first =>
    go_region_with (first | (go_at_call 92; refine (HMX _ (by first | exact HK.out | exact HK.out.drewN _ | exact HK.out.drew)).mono ?_; rintro e w3 ⟨rfl, rfl⟩) | (go_at_call 75; refine (HRI _ (by first | exact HK.out | exact HK.out.drewN _ | exact HK.out.drew | exact (HK.out.alloc _).drew)).mono ?_; rintro e w4 ⟨a4, n4, c4, rfl, hn4⟩))
    · go_wp2_with fail
      go_meet
      have hsz := HK.out.size
      have hs4 : w2.heap.size + 1 ≤ w4.heap.size := by have := hn4.same.size; simpa using this
      have k4 : Same (w2.alloc ob) w4 := Kept.undrew hn4.same
      have k5 : Same w4 (w4.alloc (.cells #[.slice (some ⟨w2.heap.size, 0, none⟩) mx mx, .slice a4 n4 c4] 133)) := (Kept.refl _ w4).alloc _
      refine ⟨w4.heap.size, _, w2.heap.size, rfl, hid (Same.trans (HK.out.alloc _) (Same.trans k4 k5)), hid ⟨by simp, by simp, RowE.same (RowE.same (HMR.out w2 w.heap.size hsz) k4) k5, RowE.same (RowE.base hn4.row (by show w.heap.size ≤ (w2.alloc ob).heap.size; simp; omega)) k5, by omega, by omega, by omega, ?_, ?_⟩⟩
      · intro e
        have h : (w2.alloc ob).heap.size ≤ w2.heap.size := hn4.row.ge e
        rw [World.size_alloc] at h
        omega
      · intro e
        have := hn4.row.lt e
        omega
    · go_wp2_with fail
      go_meet
      have hsz := HK.out.size
      have hs4 : w2.heap.size ≤ w4.heap.size := hn4.same.size
      have k4 : Same w2 w4 := Kept.undrew hn4.same
      have k5 : Same w4 ((w4.alloc ob).alloc (.cells #[.slice (some ⟨w4.heap.size, 0, none⟩) mx mx, .slice a4 n4 c4] 133)) := ((Kept.refl _ w4).alloc _).alloc _
      have k6 : Same (w4.alloc ob) ((w4.alloc ob).alloc (.cells #[.slice (some ⟨w4.heap.size, 0, none⟩) mx mx, .slice a4 n4 c4] 133)) := (Kept.refl _ _).alloc _
      have hz : (w4.alloc ob).heap.size = w4.heap.size + 1 := by simp
      refine ⟨w4.heap.size + 1, _, w4.heap.size, rfl, hid (Same.trans HK.out (Same.trans k4 k5)), hid ⟨?_, ?_, RowE.same (HMR.out w4 w.heap.size (by omega)) k6, RowE.same (RowE.base hn4.row (by show w.heap.size ≤ w2.heap.size; omega)) k5, by omega, by omega, by omega, ?_, ?_⟩⟩
      · rw [← hz]; simp
      · rw [← hz]; simp
      · intro e
        have := hn4.row.lt e
        omega
      · intro e
        have := hn4.row.lt e
        omega
  case rest =>
    obtain ⟨d, vs, gc, rfl, HKc, HFc⟩ := hcut
    clear HK HMX HRI hmk HMR
    obtain ⟨as', caps, hvs, _⟩ := HFc.out.2.2.2.1.shape
    subst hvs
    have c0 := HFc.out.1
    have c1 := HFc.out.2.1
    have hls : (ris ns).length ≤ 288 := Nat.le_trans (ris_length ns) (by have := HL.out; omega)
    generalize hrl : (ris ns).length = rl at *
    have HRL : Hid ((ris ns).length = rl) := hrl
    clear hrl
    go_wp2_with fail
    go_loopg [25] rl (fun q zk wr => ∃ (k : Nat), rl - k ≤ q ∧ k ≤ rl ∧ zk = .int .i64 (k : Nat) ∧ Hid (NRow w.heap.size wr (.slice (some ⟨gc, 0, none⟩) mx mx) (cntTo ns k)) ∧ Hid (Kept (· = gc) wc wr))
    case atStart => exact ⟨0, by omega, by omega, rfl, hid (by rw [cntTo_zero, ← HME.out]; exact HFc.out.2.2.1), Kept.refl _ _⟩
    case round =>
      obtain ⟨k, hq, hk, rfl, HR, HKr⟩ := hrel
      have hf := HFc.out
      have d0 : wr.cell? ⟨d, 0, none⟩ = some (.slice (some ⟨gc, 0, none⟩) mx mx) := HKr.out.cell c0 (fun e => hf.2.2.2.2.2.2.1 e.symm)
      have d1 : wr.cell? ⟨d, 1, none⟩ = some (.slice as' rl caps) := HKr.out.cell c1 (fun e => hf.2.2.2.2.2.2.1 e.symm)
      have hrs : NRow w.heap.size wr (.slice as' rl caps) (ris ns) := hf.2.2.2.1.kept HKr.out (fun j hj e => hf.2.2.2.2.2.2.2.1 (by rw [hj, e]))
      by_cases hlt : k < rl
      · have hkl : k < (ris ns).length := by have := HRL.out; omega
        obtain ⟨b4, o4, cap4', e4, _, _, c4⟩ := (SrcE.ofRow hrs).get k hkl
        simp only [Value.slice.injEq] at e4
        obtain ⟨rfl, hxe, rfl⟩ := e4
        clear hxe
        obtain ⟨s, hs⟩ : ∃ s, s = (ris ns)[k] := ⟨_, rfl⟩
        rw [← hs] at c4
        unfold natV at c4
        have hsr : s < ns.length ∧ key ns s ≠ 0 := mem_ris.1 (by rw [hs]; exact List.getElem_mem _)
        have hsn : s < n := by have := HL.out; omega
        have hsrc : SrcE natV wr (fun j => I j ∧ j < w.heap.size) (.slice ao n cap) ns := SrcE.kept (SrcE.same HS.out.low HKc.out) HKr.out (fun j hj _ e => by have := hf.2.2.2.2.2.1; omega)
        obtain ⟨b, o, cap', e5, _, _, c5⟩ := hsrc.get s hsr.1
        simp only [Value.slice.injEq] at e5
        obtain ⟨rfl, hxe, rfl⟩ := e5
        clear hxe
        rw [← key_get hsr.1] at c5
        unfold natV at c5
        obtain ⟨l, hl⟩ : ∃ l, l = key ns s := ⟨_, rfl⟩
        rw [← hl] at c5
        have hl15 : l ≤ mx := by rw [hl, HME.out]; exact key_le_mx ns s
        have hl0 : 0 < l := by omega
        have hsub : ((l : Int) - 1) = ((l - 1 : Nat) : Int) := by omega
        have hlc : l - 1 < (cntTo ns k).length := by rw [cntTo_length, ← HME.out]; omega
        obtain ⟨y, hy⟩ : ∃ y, y = (cntTo ns k)[l - 1] := ⟨_, rfl⟩
        have cy : wr.cell? ⟨gc, l - 1, none⟩ = some (.int .i64 (y : Nat)) := by rw [hy]; exact HR.out.cell (l - 1) hlc
        have fy := HR.out.frozen (l - 1)
        have hyl : y ≤ 288 := by
          rw [hy]
          simp only [cntTo, List.getElem_map, List.getElem_range]
          refine Nat.le_trans List.countP_le_length ?_
          rw [List.length_take]
          have := HRL.out; omega
        have HR6 : Hid (NRow w.heap.size (wr.setCell ⟨gc, l - 1, none⟩ (.int .i64 ((y : Int) + 1))) (.slice (some ⟨gc, 0, none⟩) mx mx) (cntTo ns (k + 1))) := hid (by
          have h := HR.out.lay (l - 1) (y + 1)
          subst hl hs hy
          rw [cntTo_succ ns k hkl hlc] at h
          exact h)
        clear hs hsr hsrc hl hy hlc hrs hf
        go_wp2_with fail
        go_region
        all_goals
          go_wp2_with fail
          go_roundg (gk - 1)
          case measure => omega
          case rel => exact ⟨k + 1, by omega, by omega, by go_num, HR6, (HKr.out.setCell ⟨gc, l - 1, none⟩ _ (.inl rfl)).drew⟩
      · have hk2 : k = rl := by omega
        subst hk2
        have HD : Hid (Dec wr d (.slice (some ⟨gc, 0, none⟩) mx mx) (.slice as' k caps) ns) := hid (by
          refine ⟨d0, d1, ?_, RowE.base hrs (Nat.zero_le _)⟩
          have h := HR.out
          rw [← HRL.out, cntTo_all] at h
          exact RowE.base h (Nat.zero_le _))
        have HDF : Hid (∀ j, DF d (.slice (some ⟨gc, 0, none⟩) mx mx) (.slice as' k caps) j → w.heap.size ≤ j) := hid (by
          rintro j (rfl | h | h)
          · exact hf.2.2.2.2.1
          · simp [Value.ownBlock] at h; have := hf.2.2.2.2.2.1; omega
          · exact hf.2.2.2.1.ge h)
        have HKK : Hid (Same w wr) := hid (HKc.out.then HKr.out (fun j hj e => by have := hf.2.2.2.2.2.1; omega))
        clear hf hrs
        go_wp2_with fail
        first
          | go_ret2
          | (go_quiet (fail); go_wp2_with fail; go_ret2)
        exact ⟨⟨_, _, _, rfl, HD.out, HDF.out⟩, HKK.out⟩

end Go.Proofs.YtofhlnpbflkdlaaDoor

/-
  The program's take, readStep.
-/
namespace Go.Proofs.YtofhlnpbflkdlaaDoor
open Go.RowKit

/-- Numbers of so many bits each, one behind the other. -/
def numsAt (ls : List Nat) (c : Nat) : List Nat → List Nat
  | [] => []
  | n :: r => numAt ls c n :: numsAt ls (c + n) r

theorem numsAt_snoc (ls : List Nat) (c : Nat) (ws : List Nat) (n : Nat) : numsAt ls c (ws ++ [n]) = numsAt ls c ws ++ [numAt ls (c + ws.sum) n] := by
  induction ws generalizing c with
  | nil => simp [numsAt]
  | cons a r ih => simp only [List.cons_append, numsAt, ih, List.sum_cons, Nat.add_assoc]

theorem numsAt_length (ls : List Nat) (c : Nat) (ws : List Nat) : (numsAt ls c ws).length = ws.length := by
  induction ws generalizing c with
  | nil => rfl
  | cons a r ih => simp [numsAt, ih]

theorem sum_take_le (ws : List Nat) (i : Nat) (hi : i < ws.length) : (ws.take i).sum + ws[i] ≤ ws.sum := by
  have h : (ws.take (i + 1)).sum + (ws.drop (i + 1)).sum = ws.sum := by rw [← List.sum_append, List.take_append_drop]
  rw [List.take_succ_eq_append_getElem hi, List.sum_append] at h
  simp at h
  omega

/-- The reader's number as one of the bits. -/
theorem num_bits (bs : List Nat) (hb : ∀ b ∈ bs, b < 256) (c n : Nat) (h : c + n ≤ 8 * bs.length) : n256 bs / 2 ^ c % 2 ^ n = numAt (ofBytes bs) c n := (left_n2 bs hb c n h).symm

/-- An answer of take: the numbers, or that there are too few bits. -/
def TakeA (w w' : World) (p : Nat) (s : Value) (bs : List Nat) (c : Nat) (ws : List Nat) (e : Ending) : Prop :=
  (c + ws.sum ≤ 8 * bs.length ∧ (∃ v', e = .returned (.tuple #[v', .int .i64 0]) ∧ NRow w.heap.size w' v' (numsAt (ofBytes bs) c ws)) ∧ St w' p s bs (c + ws.sum)) ∨
  (8 * bs.length < c + ws.sum ∧ e = .returned (.tuple #[.slice none 0 0, .int .i64 10]) ∧ ∃ c', c ≤ c' ∧ c' ≤ 8 * bs.length ∧ St w' p s bs c')

set_option maxRecDepth 100000 in
set_option maxHeartbeats 2000000 in
theorem ltake_any (w : World) (p c : Nat) (s : Value) (bs : List Nat) (v : Value) (I : Nat → Prop) (ws : List Nat) (hst : St w p s bs c) (hc : c ≤ 8 * bs.length) (hlen : bs.length ≤ 100000000) (hs : SrcE natV w I v ws) (hI : ∀ k, I k → k ≠ p) (hws : ∀ n ∈ ws, n ≤ 32) (hwl : ws.length ≤ 1000) :
    Calls Tryd.prog 69 #[.pointer (some ⟨p, 0, none⟩), v] w fun e w' => TakeA w w' p s bs c ws e ∧ Kept (· = p) w w' := by
  obtain ⟨ao, cap, rfl, hx1, hx2⟩ := id hs
  clear hx1 hx2
  have HS : Hid (SrcE natV w I (.slice ao ws.length cap) ws) := hs
  have HST : Hid (St w p s bs c) := hst
  have HP : Hid (∀ k, Fp p s k → k < w.heap.size) := hid (fun k h => hst.fp_lt h)
  have HWS : Hid (∀ n ∈ ws, n ≤ 32) := hws
  have HI : Hid (∀ k, I k → k ≠ p) := hI
  have HB : Hid (∀ b ∈ bs, b < 256) := hst.byte
  clear hs hst hws hI
  go_enter Tryd.func69, Tryd.ntmps69
  go_wp2_with fail
  go_loopg [6, 8, 9, 10, 13] ws.length (fun q zo _ _ _ zi wr => ∃ (i : Nat), ws.length - i ≤ q ∧ i ≤ ws.length ∧ zi = .int .i64 (i : Nat) ∧ Hid (c + (ws.take i).sum ≤ 8 * bs.length) ∧ Hid (NRow w.heap.size wr zo (numsAt (ofBytes bs) c (ws.take i))) ∧ Hid (St wr p s bs (c + (ws.take i).sum)) ∧ Hid (Kept (· = p) w wr))
  case atStart => exact ⟨0, by omega, by omega, rfl, hid (by simpa using hc), hid (by simpa [numsAt] using RowE.nil), hid (by simpa using HST.out), Kept.refl _ _⟩
  case round =>
    clear HST
    obtain ⟨i, hq, hi, rfl, HC, HV, HST, HK⟩ := hrel
    have hsz := HK.out.size
    by_cases hlt : i < ws.length
    · obtain ⟨b, o, cap', e, hIb, _, cx⟩ := (HS.out.kept HK.out (fun k h _ => HI.out k h)).get i hlt
      simp only [Value.slice.injEq] at e
      obtain ⟨rfl, hxe, rfl⟩ := e
      clear hxe hIb
      obtain ⟨n, hn⟩ : ∃ n, n = ws[i] := ⟨_, rfl⟩
      rw [← hn] at cx
      unfold natV at cx
      have hn32 : n ≤ 32 := by rw [hn]; exact HWS.out _ (List.getElem_mem _)
      obtain ⟨ci, hci⟩ : ∃ ci, ci = c + (ws.take i).sum := ⟨_, rfl⟩
      rw [← hci] at HC HST
      have hci0 : c ≤ ci := by omega
      have HSUM : Hid (c + (ws.take (i + 1)).sum = ci + n) := hid (by rw [List.take_succ_eq_append_getElem hlt, List.sum_append, hci, hn]; simp; omega)
      have HTOT : Hid (ci + n ≤ c + ws.sum) := hid (by have := sum_take_le ws i hlt; rw [hci, hn]; omega)
      have HNUM : Hid (numsAt (ofBytes bs) c (ws.take (i + 1)) = numsAt (ofBytes bs) c (ws.take i) ++ [numAt (ofBytes bs) ci n]) := hid (by rw [List.take_succ_eq_append_getElem hlt, numsAt_snoc, hci, hn])
      have hnl : (numsAt (ofBytes bs) c (ws.take i)).length ≤ 1000 := by rw [numsAt_length]; simp; omega
      clear hn hci
      by_cases hfit : ci + n ≤ 8 * bs.length
      · have HT := take_good p ci n s bs wr HST.out (by omega) hn32 hfit
        rw [num_bits bs HB.out ci n hfit] at HT
        obtain ⟨x, hx⟩ : ∃ x, x = numAt (ofBytes bs) ci n := ⟨_, rfl⟩
        have hxl : x < 2 ^ 32 := by
          rw [hx]
          exact Nat.lt_of_lt_of_le (numAt_lt _ (ofBytes_lt bs) _ _) (Nat.pow_le_pow_right (by decide) hn32)
        rw [← hx] at HT HNUM
        have hxw : wrap64 (x : Int) = (x : Int) := by unfold wrap64; omega
        have HF : Hid (ci + n ≤ 8 * bs.length) := hfit
        clear hx hfit
        go_wp2_with fail
        refine HT.mono ?_
        rintro e w2 ⟨rfl, hs2, hk2⟩
        have HST2 : Hid (St w2 p s bs (ci + n)) := hs2
        have HK2 : Hid (Kept (· = p) w w2) := hid (Kept.trans HK.out hk2 (fun _ _ h => h) (fun _ _ h => h))
        have HV2 : Hid (NRow w.heap.size w2 u6 (numsAt (ofBytes bs) c (ws.take i))) := hid (HV.out.kept hk2 (fun k e h => by have h1 := HV.out.ge e; have h2 := HP.out p (.inl rfl); omega))
        have hsz2 := HK2.out.size
        clear hs2 hk2 HT
        go_wp2_with (at_builtin; refine wpList_append_e _ natV natV_one w.heap.size 22 3 (natV 0) 8 Tryd.underlying22 Tryd.infoN rfl (by decide) rfl (.tmp 26) (.tmp 29) rfl u6 _ rfl (World.ownsRow.alloc HV2.out _) ⟨w2.heap.size, 0, none⟩ 1 1 [x] rfl rfl (cellsAt_new _ _ _) (by simp; omega) (by simp; omega) ?_; intro v5 w5 hr5 hg5; have HV5 : Hid (NRow w.heap.size w5 v5 (numsAt (ofBytes bs) c (ws.take (i + 1)))) := hid (by rw [HNUM.out]; exact hr5); have HK5' : Hid (Kept (fun k => u6.ownBlock = some k) w2 w5) := hid (((Kept.refl _ w2).alloc _).grown hg5 (fun _ e => .inl e)); have HST5 : Hid (St w5 p s bs (c + (ws.take (i + 1)).sum)) := hid (by rw [HSUM.out]; exact HST2.out.kept HK5'.out (fun k h e => by have h1 := HV2.out.ge e; have h2 := HP.out k h; omega)); have HK5 : Hid (Kept (· = p) w w5) := hid (Kept.trans HK2.out HK5'.out (fun _ _ h => h) (fun k hk e => by have := HV2.out.ge e; omega)); clear hr5 hg5)
        go_roundg (gk - 1)
        case measure => omega
        case rel => exact ⟨i + 1, by omega, by omega, by go_num, hid (by rw [HSUM.out]; exact HF.out), HV5, HST5, HK5⟩
      · have HT := take_end p ci n s bs wr HST.out HC.out (by omega) hn32 (by omega)
        have HE : Hid (8 * bs.length < c + ws.sum) := hid (by have := HTOT.out; omega)
        clear hfit
        go_wp2_with fail
        refine HT.mono ?_
        rintro e w2 ⟨rfl, m, hw2⟩
        subst hw2
        clear HT
        go_wp2_with fail
        go_ret2
        exact ⟨.inr ⟨HE.out, rfl, ci, hci0, HC.out, HST.out.drewN _⟩, HK.out.drewN _⟩
    · have hil : i = ws.length := by omega
      subst hil
      have e1 : ws.take ws.length = ws := List.take_of_length_le (Nat.le_refl _)
      have HC2 : Hid (c + ws.sum ≤ 8 * bs.length) := hid (by have h := HC.out; rw [e1] at h; exact h)
      have HV2 : Hid (NRow w.heap.size wr u6 (numsAt (ofBytes bs) c ws)) := hid (by have h := HV.out; rw [e1] at h; exact h)
      have HST2 : Hid (St wr p s bs (c + ws.sum)) := hid (by have h := HST.out; rw [e1] at h; exact h)
      clear HC HV HST e1
      go_wp2_with fail
      go_ret2
      exact ⟨.inl ⟨HC2.out, ⟨_, rfl, HV2.out⟩, HST2.out⟩, HK.out⟩

theorem rest_lt2 (bs : List Nat) (hb : ∀ b ∈ bs, b < 256) (c : Nat) (hc : c ≤ 8 * bs.length) : n256 bs / 2 ^ c < 2 ^ (8 * bs.length - c) := by
  have h := n256_lt bs hb
  rw [pow8] at h
  refine (Nat.div_lt_iff_lt_mul (Nat.two_pow_pos c)).2 ?_
  rw [← Nat.pow_add, show 8 * bs.length - c + c = 8 * bs.length by omega]
  exact h

/-- The decoder's Next as a function of the bits. -/
theorem lnext_any (w : World) (d : Nat) (vc vs : Value) (zs : List Int) (ns : List Nat) (p c : Nat) (s : Value) (bs : List Nat) (hg : Good zs ns) (hd : Dec w d vc vs ns) (hs : St w p s bs c) (hc : c ≤ 8 * bs.length) (hlen : bs.length ≤ 100000000) (hdis : ∀ k, DF d vc vs k → ¬ Fp p s k) :
    Calls Tryd.prog 93 #[.pointer (some ⟨d, 0, none⟩), .pointer (some ⟨p, 0, none⟩)] w fun e w' => e = .returned (.tuple #[.int .i64 ((nextF ns ((ofBytes bs).drop c)).1 : Nat), .int .i64 ((nextF ns ((ofBytes bs).drop c)).2.2 : Nat)]) ∧ St w' p s bs (c + (nextF ns ((ofBytes bs).drop c)).2.1) ∧ c + (nextF ns ((ofBytes bs).drop c)).2.1 ≤ 8 * bs.length ∧ Kept (· = p) w w' := by
  refine (next_any w d vc vs ns p c s bs hd (mx_le ns 15 hg.le) hg.max hs hc hlen hdis).mono ?_
  rintro e w' ⟨⟨sym, long, er, rfl, hans, hst⟩, hk⟩
  have hr := nextF_is ns ((ofBytes bs).drop c)
  obtain ⟨h1, h2, h3⟩ := next_same hg bs hs.byte c hc (rest_lt2 bs hs.byte c hc) hans hr
  rw [h1, h2, h3]
  refine ⟨rfl, hst, ?_, hk⟩
  rcases hans with ⟨_, _, _, h, _⟩ | ⟨_, _, h, _, _⟩ | ⟨_, _, h, _, _⟩
  · omega
  · omega
  · omega

/-- An answer of readStep. -/
def RStepA (w' : World) (p : Nat) (s : Value) (bs : List Nat) (c : Nat) (e : Ending) : Except Nat ((Nat × Nat) × Nat) → Prop
  | .error er => e = .returned (.tuple #[.agg #[.int .i64 0, .int .i64 0], .int .i64 (er : Nat)]) ∧ er ≠ 0 ∧ ∃ c', c ≤ c' ∧ c' ≤ 8 * bs.length ∧ St w' p s bs c'
  | .ok (x, c') => e = .returned (.tuple #[.agg #[.int .i64 (x.1 : Nat), .int .i64 (x.2 : Nat)], .int .i64 0]) ∧ c' ≤ 8 * bs.length ∧ St w' p s bs c'

end Go.Proofs.YtofhlnpbflkdlaaDoor

/-
  The program's readStep.
-/
namespace Go.Proofs.YtofhlnpbflkdlaaDoor
open Go.RowKit

set_option maxRecDepth 100000 in
set_option maxHeartbeats 2000000 in
theorem lstep_any (w : World) (d : Nat) (vc vs : Value) (zs : List Int) (ns : List Nat) (p c : Nat) (s : Value) (bs : List Nat) (hg : Good zs ns) (hd : Dec w d vc vs ns) (hs : St w p s bs c) (hc : c ≤ 8 * bs.length) (hlen : bs.length ≤ 100000000) (hdis : ∀ k, DF d vc vs k → ¬ Fp p s k) :
    Calls Tryd.prog 82 #[.pointer (some ⟨p, 0, none⟩), .pointer (some ⟨d, 0, none⟩)] w fun e w' => RStepA w' p s bs c e (stepF ns (ofBytes bs) c) ∧ Kept (· = p) w w' := by
  obtain ⟨W, hW⟩ : ∃ W, W = w.alloc (.cells #[.int .i64 0, .int .i64 0] 31) := ⟨_, rfl⟩
  have hk0 : Same w W := by rw [hW]; exact (Kept.refl _ w).alloc _
  have HN := lnext_any W d vc vs zs ns p c s bs hg (hd.kept hk0 (fun _ _ f => f)) (hs.kept hk0 (fun _ _ f => f)) hc hlen hdis
  have HK0 : Hid (Same w W) := hk0
  have HBK : Hid (Blk W w.heap.size #[.int .i64 0, .int .i64 0] 31) := hid (by rw [hW]; exact Blk.new w _ _)
  have hpw : p < w.heap.size := hs.lt
  have HB : Hid (∀ b ∈ bs, b < 256) := hs.byte
  obtain ⟨sym, long, er, hnf⟩ : ∃ a b c', nextF ns ((ofBytes bs).drop c) = (a, b, c') := ⟨_, _, _, rfl⟩
  rw [hnf] at HN
  simp only at HN
  have HF : Hid (stepF ns (ofBytes bs) c = if er ≠ 0 then .error er else if 8 * bs.length < c + long + xbits sym then .error 10 else .ok ((sym, numAt (ofBytes bs) (c + long) (xbits sym)), c + long + xbits sym)) := hid (by
    unfold stepF
    rw [hnf, ofBytes_length])
  have HSH := fun W2 => shape_any W2 (sym : Int)
  rw [widthM_nat] at HSH
  have hx7 := xbits_le sym
  obtain ⟨xb, hxb⟩ : ∃ x, x = xbits sym := ⟨_, rfl⟩
  rw [← hxb] at HF HSH hx7
  have HP : Hid (∀ k, Fp p s k → k < w.heap.size) := hid (fun k h => hs.fp_lt h)
  clear hd hs hdis hnf hk0 hxb
  go_enter Tryd.func82, Tryd.ntmps82
  go_wp2_with fail
  rw [← hW]
  clear hW
  refine HN.mono ?_
  rintro e w2 ⟨rfl, hs2, hc2, hk2⟩
  have HST2 : Hid (St w2 p s bs (c + long)) := hs2
  have HK2 : Hid (Kept (· = p) W w2) := hk2
  have HB2 : Hid (Blk w2 w.heap.size #[.int .i64 0, .int .i64 0] 31) := hid (HBK.out.kept hk2 (by omega))
  have f1 : w2.frozen? ⟨w.heap.size, 0, none⟩ = false := HB2.out.frozen 0
  have f2 : w2.frozen? ⟨w.heap.size, 1, none⟩ = false := HB2.out.frozen 1
  have c1 : w2.cell? ⟨w.heap.size, 0, none⟩ = some (.int .i64 0) := HB2.out.cell 0
  have c2 : w2.cell? ⟨w.heap.size, 1, none⟩ = some (.int .i64 0) := HB2.out.cell 1
  have hcl : c ≤ c + long := by omega
  have HKW : Hid (Kept (· = p) w w2) := hid (Kept.trans (HK0.out.mono (fun _ _ f => f.elim)) hk2 (fun _ _ h => h) (fun _ _ h => h))
  clear hs2 hk2 HN
  by_cases her : er = 0
  · have hed : ((er : Int) != 0) = false := by simp; omega
    have HER : Hid (er = 0) := her
    have her0 : (er : Int) = 0 := by omega
    clear her
    go_wp2_with fail
    refine (HSH _).mono ?_
    rintro e w3 ⟨rfl, hw3⟩
    subst hw3
    clear HSH
    by_cases hfit : c + long + xb ≤ 8 * bs.length
    · have HT := take_good p (c + long) xb s bs w3 HST2.out (by omega) (by omega) hfit
      rw [num_bits bs HB.out _ xb hfit] at HT
      obtain ⟨x, hx⟩ : ∃ x, x = numAt (ofBytes bs) (c + long) xb := ⟨_, rfl⟩
      have hxl : x < 2 ^ 7 := by
        rw [hx]
        exact Nat.lt_of_lt_of_le (numAt_lt _ (ofBytes_lt bs) _ _) (Nat.pow_le_pow_right (by decide) hx7)
      rw [← hx] at HT HF
      have hxw : wrap64 (x : Int) = (x : Int) := by unfold wrap64; omega
      have HE : Hid (stepF ns (ofBytes bs) c = .ok ((sym, x), c + long + xb)) := hid (by rw [HF.out, HER.out, if_neg (by simp), if_neg (by omega)])
      have HFIT : Hid (c + long + xb ≤ 8 * bs.length) := hfit
      clear hx hfit
      go_wp2_with fail
      refine HT.mono ?_
      rintro e w4 ⟨rfl, hs4, hk4⟩
      have HST4 : Hid (St w4 p s bs (c + long + xb)) := hs4
      have HB4 : Hid (Blk w4 w.heap.size #[.int .i64 0, .int .i64 0] 31) := hid (HB2.out.kept hk4 (by omega))
      have HK4 : Hid (Kept (· = p) w w4) := hid (Kept.trans HKW.out hk4 (fun _ _ h => h) (fun _ _ h => h))
      have f3 : w4.frozen? ⟨w.heap.size, 0, none⟩ = false := HB4.out.frozen 0
      have f4 : w4.frozen? ⟨w.heap.size, 1, none⟩ = false := HB4.out.frozen 1
      have c3 : w4.cell? ⟨w.heap.size, 0, none⟩ = some (.int .i64 0) := HB4.out.cell 0
      have c4 : w4.cell? ⟨w.heap.size, 1, none⟩ = some (.int .i64 0) := HB4.out.cell 1
      clear hs4 hk4 HT f1 f2 c1 c2
      go_wp2_with fail
      have HKF : Hid (Kept (· = w.heap.size) w4 ((w4.setCell ⟨w.heap.size, 0, none⟩ (.int .i64 (sym : Nat))).setCell ⟨w.heap.size, 1, none⟩ (.int .i64 (x : Nat)))) := hid (((Kept.refl (· = w.heap.size) w4).setCell ⟨w.heap.size, 0, none⟩ _ (.inl rfl)).setCell ⟨w.heap.size, 1, none⟩ _ (.inl rfl))
      refine bodyPost_ret (v := .tuple #[.agg #[.int .i64 (sym : Nat), .int .i64 (x : Nat)], .int .i64 0]) (by simp [results, Tryd.results82, go_sem, c3, c4]) rfl ?_
      refine ⟨?_, Kept.trans HK4.out HKF.out (fun _ _ h => h) (fun k hk e => by omega)⟩
      rw [HE.out]
      exact ⟨rfl, HFIT.out, HST4.out.kept HKF.out (fun k h e => by have := HP.out k h; omega)⟩
    · have HT := take_end p (c + long) xb s bs w3 HST2.out hc2 (by omega) (by omega) (by omega)
      have HE : Hid (stepF ns (ofBytes bs) c = .error 10) := hid (by rw [HF.out, HER.out, if_neg (by simp), if_pos (by omega)])
      clear hfit
      go_wp2_with fail
      refine HT.mono ?_
      rintro e w4 ⟨rfl, m, hw4⟩
      subst hw4
      clear HT
      go_wp2_with fail
      have HKF : Hid (Kept (· = w.heap.size) w3 (((w3.drewN m).setCell ⟨w.heap.size, 0, none⟩ (.int .i64 0)).setCell ⟨w.heap.size, 1, none⟩ (.int .i64 0))) := hid ((((Kept.refl (· = w.heap.size) w3).drewN m).setCell ⟨w.heap.size, 0, none⟩ _ (.inl rfl)).setCell ⟨w.heap.size, 1, none⟩ _ (.inl rfl))
      refine bodyPost_ret (v := .tuple #[.agg #[.int .i64 0, .int .i64 0], .int .i64 10]) (by simp [results, Tryd.results82, go_sem, c1, c2]) rfl ?_
      refine ⟨?_, Kept.trans HKW.out HKF.out (fun _ _ h => h) (fun k hk e => by omega)⟩
      rw [HE.out]
      exact ⟨rfl, by decide, c + long, hcl, hc2, HST2.out.kept HKF.out (fun k h e => by have := HP.out k h; omega)⟩
  · have hed : ((er : Int) != 0) = true := by simp; omega
    have HE : Hid (stepF ns (ofBytes bs) c = .error er) := hid (by rw [HF.out, if_pos her])
    have HER : Hid (er ≠ 0) := her
    clear her
    go_wp2_with fail
    have HKF : Hid (Kept (· = w.heap.size) w2 ((w2.setCell ⟨w.heap.size, 0, none⟩ (.int .i64 0)).setCell ⟨w.heap.size, 1, none⟩ (.int .i64 0))) := hid (((Kept.refl (· = w.heap.size) w2).setCell ⟨w.heap.size, 0, none⟩ _ (.inl rfl)).setCell ⟨w.heap.size, 1, none⟩ _ (.inl rfl))
    refine bodyPost_ret (v := .tuple #[.agg #[.int .i64 0, .int .i64 0], .int .i64 (er : Nat)]) (by simp [results, Tryd.results82, go_sem, c1, c2]) rfl ?_
    refine ⟨?_, Kept.trans HKW.out HKF.out (fun _ _ h => h) (fun k hk e => by omega)⟩
    rw [HE.out]
    exact ⟨rfl, HER.out, c + long, hcl, hc2, HST2.out.kept HKF.out (fun k h e => by have := HP.out k h; omega)⟩

end Go.Proofs.YtofhlnpbflkdlaaDoor

/-
  The program's readSteps.
-/
namespace Go.Proofs.YtofhlnpbflkdlaaDoor
open Go.RowKit

/-- An answer of readSteps. -/
def RStepsA (w w' : World) (p : Nat) (s : Value) (bs : List Nat) (c : Nat) (e : Ending) : Except Nat (List Nat × Nat) → Prop
  | .error er => e = .returned (.tuple #[.slice none 0 0, .int .i64 (er : Nat)]) ∧ er ≠ 0 ∧ ∃ c', c ≤ c' ∧ c' ≤ 8 * bs.length ∧ St w' p s bs c'
  | .ok (l, c') => (∃ v', e = .returned (.tuple #[v', .int .i64 0]) ∧ NRow w.heap.size w' v' l) ∧ c' ≤ 8 * bs.length ∧ St w' p s bs c'

set_option maxRecDepth 100000 in
set_option maxHeartbeats 2000000 in
theorem lsteps_any (w : World) (d : Nat) (vc vs : Value) (zs : List Int) (ns : List Nat) (p c : Nat) (s : Value) (bs : List Nat) (N : Nat) (hg : Good zs ns) (hd : Dec w d vc vs ns) (hs : St w p s bs c) (hc : c ≤ 8 * bs.length) (hlen : bs.length ≤ 100000000) (hdis : ∀ k, DF d vc vs k → ¬ Fp p s k) (hN : N ≤ 1000) :
    Calls Tryd.prog 71 #[.pointer (some ⟨p, 0, none⟩), .pointer (some ⟨d, 0, none⟩), .int .i64 (N : Nat)] w fun e w' => RStepsA w w' p s bs c e (bodyF ns (ofBytes bs) N N [] c) ∧ Kept (· = p) w w' := by
  have HG : Hid (Good zs ns) := hg
  have HD : Hid (Dec w d vc vs ns) := hd
  have HST : Hid (St w p s bs c) := hs
  have HDIS : Hid (∀ k, DF d vc vs k → ¬ Fp p s k) := hdis
  have HP : Hid (∀ k, Fp p s k → k < w.heap.size) := hid (fun k h => hs.fp_lt h)
  clear hg hd hs hdis
  go_enter Tryd.func71, Tryd.ntmps71
  go_wp2_with fail
  go_loopg [8, 9, 10] N (fun q zo _ _ wr => ∃ (l : List Nat) (f ci : Nat), N - l.length ≤ q ∧ N - l.length ≤ f ∧ c ≤ ci ∧ ci ≤ 8 * bs.length ∧ Hid (bodyF ns (ofBytes bs) N N [] c = bodyF ns (ofBytes bs) N f l ci) ∧ Hid (l.length ≤ N ∧ ∀ x ∈ l, x ≤ 15) ∧ Hid (NRow w.heap.size wr zo l) ∧ Hid (St wr p s bs ci) ∧ Hid (Kept (· = p) w wr))
  case atStart => exact ⟨[], N, c, by simp, by simp, by omega, hc, rfl, hid ⟨by simp, by simp⟩, RowE.nil, HST, Kept.refl _ _⟩
  case round =>
    clear HST
    obtain ⟨l, f, ci, hq, hf, hci, hci8, HBF, HLL, HV, HST, HK⟩ := hrel
    have hsz := HK.out.size
    have hl1 : l.length ≤ 1000000 := by have := HLL.out.1; omega
    obtain ⟨a8, cap8, hv8, _⟩ := HV.out.shape
    subst hv8
    have HDW : Hid (Dec wr d vc vs ns) := hid (HD.out.kept HK.out (fun k h e => HDIS.out k h (.inl e)))
    have HRS := lstep_any wr d vc vs zs ns p ci s bs HG.out HDW.out HST.out hci8 hlen HDIS.out
    have HMS := fun (W : World) (x y : Int) => mayStand_any W x y l.length N hl1
    have HSAYS := fun (W : World) (x y : Int) (hr : NRow w.heap.size W (.slice a8 l.length cap8) l) (hB : w.heap.size ≤ W.heap.size) (hm : mayB (x, y) l.length N) => say_any W w.heap.size _ l x y N hr hB hl1 hm
    by_cases hlt : l.length < N
    · obtain ⟨f, rfl⟩ : ∃ g, f = g + 1 := ⟨f - 1, by omega⟩
      obtain ⟨L, hL⟩ : ∃ L, L = l.length := ⟨_, rfl⟩
      have HL : Hid (L = l.length) := hL
      cases hsf : stepF ns (ofBytes bs) ci with
      | error er =>
        rw [hsf] at HRS
        have HE : Hid (bodyF ns (ofBytes bs) N N [] c = .error er) := hid (by rw [HBF.out, bodyF_err hlt hsf])
        rw [← hL] at HV hq hf hl1 hlt HMS HSAYS ⊢
        clear hsf hL HMS HSAYS
        go_wp2_with fail
        refine HRS.mono ?_
        rintro e w2 ⟨⟨rfl, her, c', hc1, hc2, hs2⟩, hk2⟩
        have HST2 : Hid (St w2 p s bs c') := hs2
        have HK2 : Hid (Kept (· = p) w w2) := hid (Kept.trans HK.out hk2 (fun _ _ h => h) (fun _ _ h => h))
        have hed : ((er : Int) != 0) = true := by simp; omega
        have HER : Hid (er ≠ 0) := her
        have hcc : c ≤ c' := by omega
        have HP2 : Hid (∀ k, Fp p s k → k < w2.heap.size) := hid (fun k h => by have := HP.out k h; have := HK2.out.size; omega)
        clear hs2 hk2 HRS her
        go_wp2_with fail
        go_ret2
        refine ⟨?_, HK2.out.alloc _⟩
        rw [HE.out]
        exact ⟨rfl, HER.out, c', hcc, hc2, HST2.out.kept ((Kept.refl (fun _ => False) w2).alloc _) (fun _ _ f => f)⟩
      | ok r =>
        obtain ⟨⟨sy, x⟩, c'⟩ := r
        rw [hsf] at HRS
        have HBS : Hid (bodyF ns (ofBytes bs) N N [] c = match withM l ((sy : Int), (x : Int)) N with | none => .error 41 | some m => bodyF ns (ofBytes bs) N f m c') := hid (by rw [HBF.out, bodyF_step hlt hsf]; rfl)
        have hcc : ci ≤ c' := stepF_ge hsf
        have HMS2 := fun W => HMS W (sy : Int) (x : Int)
        have HSA2 := fun W => HSAYS W (sy : Int) (x : Int)
        rw [← hL] at HV hq hf hl1 hlt HMS2 HSA2 ⊢
        clear hsf hL HMS HSAYS
        go_wp2_with fail
        refine HRS.mono ?_
        rintro e w2 ⟨⟨rfl, hc2, hs2⟩, hk2⟩
        have HST2 : Hid (St w2 p s bs c') := hs2
        have HK2 : Hid (Kept (· = p) w w2) := hid (Kept.trans HK.out hk2 (fun _ _ h => h) (fun _ _ h => h))
        have HV2 : Hid (NRow w.heap.size w2 (.slice a8 L cap8) l) := hid (HV.out.kept hk2 (fun k e h => by have h1 := HV.out.ge e; have h2 := HP.out p (.inl rfl); omega))
        have hsz2 := HK2.out.size
        clear hs2 hk2 HRS HST HK HV HDW
        by_cases hmay : mayB ((sy : Int), (x : Int)) L N
        · have HM : Hid (withM l ((sy : Int), (x : Int)) N = some (l ++ List.replicate (leastM (sy : Int) + (x : Int).toNat) (sayV (sy : Int) l))) := hid (withM_may (by rw [← HL.out]; exact hmay))
          have HMAY : Hid (mayB ((sy : Int), (x : Int)) L N) := hmay
          clear hmay
          obtain ⟨m, hm⟩ : ∃ m, m = l ++ List.replicate (leastM (sy : Int) + (x : Int).toNat) (sayV (sy : Int) l) := ⟨_, rfl⟩
          rw [← hm] at HM HSA2
          have hgr := withM_grows HM.out HLL.out.2
          have HBM : Hid (bodyF ns (ofBytes bs) N N [] c = bodyF ns (ofBytes bs) N f m c') := hid (by rw [HBS.out, HM.out])
          have HMM : Hid (m.length ≤ N ∧ ∀ x ∈ m, x ≤ 15) := hid hgr.2
          have hLm : L < m.length := by rw [HL.out]; exact hgr.1
          clear hm hgr
          go_wp2_with fail
          refine (HMS2 _).mono ?_
          rintro e w3 ⟨he, hk3⟩
          have he2 := he.yes HMAY.out
          subst he2
          have c3 : w3.cell? ⟨w2.heap.size, 0, none⟩ = some (.int .i64 (sy : Nat)) := hk3.cell (by simp) (fun f => f)
          have c4 : w3.cell? ⟨w2.heap.size, 1, none⟩ = some (.int .i64 (x : Nat)) := hk3.cell (by simp) (fun f => f)
          have HK3 : Hid (Same w2 w3) := hid (Same.trans ((Kept.refl _ w2).alloc _) hk3)
          have hsz3 : w.heap.size ≤ w3.heap.size := by have h2 := HK3.out.size; omega
          have HSY := HSA2 w3 (HV2.out.same HK3.out) hsz3 HMAY.out
          clear he hk3 HMS2 HSA2
          go_wp2_with fail
          refine HSY.mono ?_
          rintro e w4 ⟨v4, rfl, hr4, hk4⟩
          have HV4 : Hid (NRow w.heap.size w4 v4 m) := hr4
          have HST4 : Hid (St w4 p s bs c') := hid ((HST2.out.kept HK3.out (fun _ _ f => f)).kept hk4 (fun k h e => by have := HP.out k h; unfold Over at e; omega))
          have HK4 : Hid (Kept (· = p) w w4) := hid (Kept.trans (Kept.trans HK2.out HK3.out (fun _ _ h => h) (fun _ _ f => f.elim)) hk4 (fun _ _ h => h) (fun k hk e => by unfold Over at e; omega))
          clear hr4 hk4 HSY c3 c4
          go_wp2_with fail
          go_roundg (gk - 1)
          case measure => omega
          case rel => exact ⟨m, f, c', by omega, by omega, by omega, hc2, HBM, HMM, HV4, HST4, HK4⟩
        · have HM : Hid (withM l ((sy : Int), (x : Int)) N = none) := hid (withM_no (by rw [← HL.out]; exact hmay))
          have HMAY : Hid (¬ mayB ((sy : Int), (x : Int)) L N) := hmay
          have HE : Hid (bodyF ns (ofBytes bs) N N [] c = .error 41) := hid (by rw [HBS.out, HM.out])
          have hccc : c ≤ c' := by omega
          clear hmay
          go_wp2_with fail
          refine (HMS2 _).mono ?_
          rintro e w3 ⟨he, hk3⟩
          have he2 := he.no HMAY.out
          subst he2
          have HK3 : Hid (Same w2 w3) := hid (Same.trans ((Kept.refl _ w2).alloc _) hk3)
          clear he hk3 HMS2 HSA2
          go_wp2_with fail
          go_ret2
          refine ⟨?_, Kept.trans HK2.out HK3.out (fun _ _ h => h) (fun _ _ f => f.elim)⟩
          rw [HE.out]
          exact ⟨rfl, by decide, c', hccc, hc2, HST2.out.kept HK3.out (fun _ _ f => f)⟩
    · have HE : Hid (bodyF ns (ofBytes bs) N N [] c = .ok (l, ci)) := hid (by rw [HBF.out, bodyF_end (by omega)])
      obtain ⟨L, hL⟩ : ∃ L, L = l.length := ⟨_, rfl⟩
      rw [← hL] at HV hlt ⊢
      clear hL HMS HSAYS HRS hq hf
      go_wp2_with fail
      go_ret2
      refine ⟨?_, HK.out⟩
      rw [HE.out]
      exact ⟨⟨_, rfl, HV.out⟩, hci8, HST.out⟩

end Go.Proofs.YtofhlnpbflkdlaaDoor

/-
  The program's readCodes.
-/
namespace Go.Proofs.YtofhlnpbflkdlaaDoor
open Go.RowKit

/-- The order of the codes' lengths, as the program's variable holds it. -/
def Tab (w : World) : Prop := ∀ i, i < 19 → w.cell? ⟨0, i, none⟩ = some (.int .i64 ((ord.getD i 0 : Nat) : Int))

theorem Tab.kept {F : Nat → Prop} {w w' : World} (h : Tab w) (hk : Kept F w w') (hF : ¬ F 0) : Tab w' := fun i hi => hk.cell (h i hi) hF

theorem numsAt_three (ls : List Nat) (c n i : Nat) (hi : i < (numsAt ls c (List.replicate n 3)).length) : (numsAt ls c (List.replicate n 3))[i] = numAt ls (c + 3 * i) 3 := by
  induction n generalizing c i with
  | zero => simp [numsAt] at hi
  | succ n ih =>
    cases i with
    | zero => simp [List.replicate_succ, numsAt]
    | succ i =>
      simp only [List.replicate_succ, numsAt, List.getElem_cons_succ]
      rw [ih (c + 3) i (by simpa [List.replicate_succ, numsAt] using hi)]
      congr 1
      omega

theorem nrow_of_l {B : Nat} {w : World} {v : Value} {xs : List Nat} (h : RowC B 3 1 natL w v xs) : NRow B w v xs := by
  unfold RowC at h
  rw [natL_flat] at h
  exact h

theorem sum_three (n : Nat) : (List.replicate n 3).sum = 3 * n := by
  induction n with
  | zero => rfl
  | succ n ih => rw [List.replicate_succ, List.sum_cons, ih]; omega

theorem chk_good (l : List Nat) (hl : l.length = 19) (h7 : ∀ x ∈ l, x ≤ 7) (h : chkN l = 0) : Good (l.map (fun (n : Nat) => (n : Int))) l := by
  have hg := good_of (zs := l.map (fun (n : Nat) => (n : Int))) (by rw [chk_codes l hl h7]; exact h)
  have e : (l.map (fun (n : Nat) => (n : Int))).map Int.toNat = l := by
    rw [List.map_map]
    conv => rhs; rw [← List.map_id l]
    exact List.map_congr_left (fun x _ => by simp)
  rw [e] at hg
  exact hg

/-- An answer of readCodes. -/
def RCodesA (w w' : World) (p : Nat) (s : Value) (bs : List Nat) (c come : Nat) (e : Ending) : Prop :=
  (8 * bs.length < c + 3 * come ∧ e = .returned (.tuple #[.pointer none, .int .i64 10]) ∧ ∃ c', c ≤ c' ∧ c' ≤ 8 * bs.length ∧ St w' p s bs c') ∨
  (c + 3 * come ≤ 8 * bs.length ∧ St w' p s bs (c + 3 * come) ∧
    ((chkN (codesF (ofBytes bs) c come) ≠ 0 ∧ e = .returned (.tuple #[.pointer none, .int .i64 (chkN (codesF (ofBytes bs) c come) : Nat)])) ∨
      (chkN (codesF (ofBytes bs) c come) = 0 ∧ ∃ d vc vs, e = .returned (.tuple #[.pointer (some ⟨d, 0, none⟩), .int .i64 0]) ∧ Dec w' d vc vs (codesF (ofBytes bs) c come) ∧ ∀ k, DF d vc vs k → w.heap.size ≤ k)))

set_option maxRecDepth 100000 in
set_option maxHeartbeats 2000000 in
theorem lcodes_any (w : World) (p c : Nat) (s : Value) (bs : List Nat) (come : Nat) (hs : St w p s bs c) (hc : c ≤ 8 * bs.length) (hlen : bs.length ≤ 100000000) (h19 : come ≤ 19) (hT : Tab w) (hpg : p ≠ 0) :
    Calls Tryd.prog 70 #[.pointer (some ⟨p, 0, none⟩), .int .i64 (come : Nat)] w fun e w' => RCodesA w w' p s bs c come e ∧ Kept (· = p) w w' := by
  obtain ⟨W, hW⟩ : ∃ W, W = w.alloc (.cells #[.int .i64 3] 3) := ⟨_, rfl⟩
  have hk0 : Same w W := by rw [hW]; exact (Kept.refl _ w).alloc _
  have HK0 : Hid (Same w W) := hk0
  have HRP := repeatN_any W ⟨w.heap.size, 0, none⟩ 3 come (by rw [hW]; exact cellsAt_new w 3 (natV 3)) (by omega)
  have HST : Hid (St W p s bs c) := hid (hs.kept hk0 (fun _ _ f => f))
  have HT : Hid (Tab W) := hid (hT.kept hk0 (fun f => f))
  have HP : Hid (∀ k, Fp p s k → k < w.heap.size) := hid (fun k h => hs.fp_lt h)
  have hpw : p < w.heap.size := hs.lt
  have hsW := hk0.size
  clear hs hT hk0
  go_enter Tryd.func70, Tryd.ntmps70
  go_wp2_with fail
  rw [← hW]
  clear hW
  refine HRP.mono ?_
  rintro e w1 ⟨g, rfl, hr1, hk1⟩
  have hr1n := nrow_of_l hr1
  have hTK := ltake_any w1 p c s bs (.slice (some ⟨g, 0, none⟩) come come) _ (List.replicate come 3) (HST.out.kept hk1 (fun _ _ f => f)) hc hlen (SrcE.ofRow hr1n) (fun k e => by have := hr1n.ge e; omega) (fun n hn => by have := List.eq_of_mem_replicate hn; omega) (by simp; omega)
  have HK1 : Hid (Same w w1) := hid (Same.trans HK0.out hk1)
  have HT1 : Hid (Tab w1) := hid (HT.out.kept hk1 (fun f => f))
  clear hr1 hk1 HRP hr1n HST HT
  go_wp2_with fail
  refine hTK.mono ?_
  rintro e w2 ⟨hta, hk2⟩
  have HK2 : Hid (Kept (· = p) w w2) := hid (Kept.trans (HK1.out.mono (fun _ _ f => f.elim)) hk2 (fun _ _ h => h) (fun _ _ h => h))
  have HT2 : Hid (Tab w2) := hid (HT1.out.kept hk2 (fun e => hpg e.symm))
  have hsz1 := HK1.out.size
  have hsz2 := HK2.out.size
  have hsz12 := hk2.size
  clear hk2 hTK
  rcases hta with ⟨hfit, ⟨v2, rfl, hr2⟩, hs2⟩ | ⟨hbig, rfl, c', hc1, hc2, hs2⟩
  · have HF : Hid (c + 3 * come ≤ 8 * bs.length) := by rw [sum_three] at hfit; exact hfit
    have HS2 : Hid (St w2 p s bs (c + 3 * come)) := by rw [sum_three] at hs2; exact hs2
    have HR2 : Hid (NRow w1.heap.size w2 v2 (numsAt (ofBytes bs) c (List.replicate come 3))) := hr2
    have hnl := numsAt_length (ofBytes bs) c (List.replicate come 3)
    rw [List.length_replicate] at hnl
    obtain ⟨a2, cap2, hv2, _⟩ := hr2.shape
    subst hv2
    rw [hnl] at HR2 ⊢
    clear hfit hs2 hr2
    have HNL : Hid ((numsAt (ofBytes bs) c (List.replicate come 3)).length = come) := hnl
    clear hnl
    go_wp2_with (at_make; refine wpList_make_e _ natV 0 w2.heap.size 22 3 8 Tryd.underlying22 Tryd.infoN rfl (by decide) rfl _ _ rfl _ _ _ _ 19 rfl rfl rfl rfl (by decide) (Nat.le_refl _) ?_; intro w3 hr3 hg3 hs3; have HR3 : Hid (NRow w2.heap.size w3 (.slice (some ⟨w2.heap.size, 0, none⟩) 19 19) (codesF (ofBytes bs) c 0)) := hid hr3; have HK3 : Hid (Same w2 w3) := hid ((Kept.refl _ w2).grown hg3 (fun j e => by cases e)); clear hr3 hg3)
    go_loopg [9, 10, 25] come (fun q _ _ zi wr => ∃ (i : Nat), come - i ≤ q ∧ i ≤ come ∧ zi = .int .i64 (i : Nat) ∧ Hid (NRow w2.heap.size wr (.slice (some ⟨w2.heap.size, 0, none⟩) 19 19) (codesF (ofBytes bs) c i)) ∧ Hid (Same w2 wr))
    case atStart => exact ⟨0, by omega, by omega, rfl, HR3, HK3⟩
    case round =>
      clear HR3 HK3 hs3
      obtain ⟨i, hq, hi, rfl, HV, HK⟩ := hrel
      by_cases hlt : i < come
      · obtain ⟨b, o, cap', e, _, _, cx⟩ := (SrcE.ofRow (HR2.out.same HK.out)).get i (by rw [HNL.out]; exact hlt)
        rw [HNL.out] at e
        simp only [Value.slice.injEq] at e
        obtain ⟨rfl, hxe, rfl⟩ := e
        clear hxe
        rw [numsAt_three] at cx
        obtain ⟨x, hx⟩ : ∃ x, x = numAt (ofBytes bs) (c + 3 * i) 3 := ⟨_, rfl⟩
        rw [← hx] at cx
        unfold natV at cx
        have ct := (HT2.out.kept HK.out (fun f => f)) i (by omega)
        have ho18 := ord_le i (by omega)
        obtain ⟨oi, hoi⟩ : ∃ x, x = ord.getD i 0 := ⟨_, rfl⟩
        rw [← hoi] at ct ho18
        have cl : wr.cell? ⟨w2.heap.size, oi, none⟩ = some (natV (codesF (ofBytes bs) c i)[oi]!) := by
          have h := HV.out.cell oi (by rw [codesF_length]; omega)
          rw [h]
          congr 2
          rw [getElem!_pos]
        have fl : wr.frozen? ⟨w2.heap.size, oi, none⟩ = false := HV.out.frozen oi
        have HV2 : Hid (NRow w2.heap.size (wr.setCell ⟨w2.heap.size, oi, none⟩ (.int .i64 (x : Nat))) (.slice (some ⟨w2.heap.size, 0, none⟩) 19 19) (codesF (ofBytes bs) c (i + 1))) := hid (by
          have h := HV.out.lay oi x
          rw [hx, hoi] at h ⊢
          exact h)
        have HKN : Hid (Same w2 (wr.setCell ⟨w2.heap.size, oi, none⟩ (.int .i64 (x : Nat)))) := hid (HK.out.setCell _ _ (.inr (Nat.le_refl _)))
        generalize (codesF (ofBytes bs) c i)[oi]! = old at cl
        clear hx hoi
        go_wp2_with fail
        go_roundg (gk - 1)
        case measure => omega
        case rel => exact ⟨i + 1, by omega, by omega, by go_num, HV2, HKN⟩
      · have hic : i = come := by omega
        subst hic
        clear hq hlt
        have hcl := codesF_length (ofBytes bs) c i
        have hc7 := codesF_le (ofBytes bs) (ofBytes_lt bs) c i
        have hsrc : SrcE intV wr _ (.slice (some ⟨w2.heap.size, 0, none⟩) 19 19) ((codesF (ofBytes bs) c i).map (fun (n : Nat) => (n : Int))) := (SrcE.ofRow HV.out).recode (by rw [List.map_map]; rfl)
        have HSTF : Hid (St wr p s bs (c + 3 * i)) := hid (HS2.out.kept HK.out (fun _ _ f => f))
        by_cases hch : chkN (codesF (ofBytes bs) c i) = 0
        · have HN := new_good wr _ _ _ _ hsrc (chk_good _ hcl hc7 hch) (by rw [chk_codes _ hcl hc7]; exact hch)
          have HCH : Hid (chkN (codesF (ofBytes bs) c i) = 0) := hch
          have hszr := HK.out.size
          clear hch hsrc hcl hc7
          go_wp2_with fail
          refine HN.mono ?_
          rintro e w5 ⟨⟨d, vc, vs, rfl, hdec, hdf⟩, hk5⟩
          have HDEC : Hid (Dec w5 d vc vs (codesF (ofBytes bs) c i)) := hdec
          have HDF : Hid (∀ k, DF d vc vs k → w.heap.size ≤ k) := hid (fun k h => by have := hdf k h; omega)
          have HK5 : Hid (Same wr w5) := hk5
          clear hdec hdf hk5 HN
          go_wp2_with fail
          go_ret2
          exact ⟨.inr ⟨HF.out, HSTF.out.kept HK5.out (fun _ _ f => f), .inr ⟨HCH.out, d, vc, vs, rfl, HDEC.out, HDF.out⟩⟩, Kept.trans (Kept.trans HK2.out HK.out (fun _ _ h => h) (fun _ _ f => f.elim)) HK5.out (fun _ _ h => h) (fun _ _ f => f.elim)⟩
        · have HN := new_bad wr _ _ _ hsrc (by simp [hcl]) (by rw [chk_codes _ hcl hc7]; exact hch)
          rw [chk_codes _ hcl hc7] at HN
          have HCH : Hid (chkN (codesF (ofBytes bs) c i) ≠ 0) := hch
          clear hch hsrc hcl hc7
          go_wp2_with fail
          refine HN.mono ?_
          rintro e w5 ⟨rfl, hk5⟩
          have HK5 : Hid (Same wr w5) := hk5
          clear hk5 HN
          go_wp2_with fail
          go_ret2
          exact ⟨.inr ⟨HF.out, HSTF.out.kept HK5.out (fun _ _ f => f), .inl ⟨HCH.out, rfl⟩⟩, Kept.trans (Kept.trans HK2.out HK.out (fun _ _ h => h) (fun _ _ f => f.elim)) HK5.out (fun _ _ h => h) (fun _ _ f => f.elim)⟩
  · have HB : Hid (8 * bs.length < c + 3 * come) := by rw [sum_three] at hbig; exact hbig
    have HS2 : Hid (St w2 p s bs c') := hs2
    clear hbig hs2
    go_wp2_with fail
    go_ret2
    exact ⟨.inl ⟨HB.out, rfl, c', hc1, hc2, HS2.out⟩, HK2.out⟩

end Go.Proofs.YtofhlnpbflkdlaaDoor

/-
  The program's alike, and whether lengths may be.
-/
namespace Go.Proofs.YtofhlnpbflkdlaaDoor
open Go.RowKit

theorem inB_bad (z : Int) : (!inB z 0 15) = badI 0 15 z := by
  unfold inB badI
  by_cases h1 : 0 ≤ z
  · by_cases h2 : z ≤ 15
    · have h3 : ¬ z < 0 := by omega
      have h4 : ¬ 15 < z := by omega
      simp [h1, h2, h3, h4]
    · have h3 : ¬ z < 0 := by omega
      have h4 : 15 < z := by omega
      simp [h1, h2, h3, h4]
  · have h3 : z < 0 := by omega
    simp [h1, h3]

set_option maxHeartbeats 1000000 in
theorem lwrong_any (w : World) (z : Int) :
    Calls Tryd.prog 32 #[.int .i64 z] w fun e w' => e = .returned (.bool (badI 0 15 z)) ∧ w' = w := by
  have HW := within_any w z 0 15
  go_enter Tryd.func32, Tryd.ntmps32
  go_wp2_with fail
  refine HW.mono ?_
  rintro e w1 ⟨rfl, hw1⟩
  subst hw1
  clear HW
  go_wp2_with fail
  go_ret
  exact ⟨by rw [← inB_bad]; rfl, rfl⟩

abbrev lwrongV : Value := .func (.func 32) #[] #[]

set_option maxHeartbeats 1000000 in
theorem lindex_any (w : World) (v : Value) (I : Nat → Prop) (zs : List Int) (hs : SrcE intV w I v zs) (hn : zs.length ≤ 10000000) :
    Calls Tryd.prog 55 #[v, lwrongV] w fun e w' => (∃ z : Int, e = .returned (.int .i64 z) ∧ decide (0 ≤ z) = zs.any (badI 0 15)) ∧ w' = w := by
  obtain ⟨ao, cap, rfl, hx1, hx2⟩ := id hs
  clear hx1 hx2
  have HS : Hid (SrcE intV w I (.slice ao zs.length cap) zs) := hs
  clear hs
  go_enter Tryd.func55, Tryd.ntmps55
  go_wp2_with fail
  go_loopg [8] zs.length (fun k z wr => ∃ i : Nat, zs.length - i ≤ k ∧ i ≤ zs.length ∧ z = .int .i64 (i : Nat) ∧ Hid ((zs.take i).any (badI 0 15) = false) ∧ wr = w)
  case atStart => exact ⟨0, by omega, by omega, rfl, hid (by simp), rfl⟩
  case round =>
    obtain ⟨i, hk, hil, rfl, HF, hw⟩ := hrel
    subst hw
    by_cases hlt : i < zs.length
    · obtain ⟨b, o, cap2, e, _, _, hc⟩ := HS.out.get i hlt
      simp only [Value.slice.injEq] at e
      obtain ⟨rfl, hxe, rfl⟩ := e
      clear hxe
      obtain ⟨x, hx⟩ : ∃ x, x = zs[i] := ⟨_, rfl⟩
      rw [← hx] at hc
      unfold intV at hc
      have HX : Hid (x = zs[i]) := hx
      have HC := lwrong_any wr x
      clear hx
      cases hb : badI 0 15 x with
      | true =>
        rw [hb] at HC
        have HB : Hid (badI 0 15 x = true) := hb
        clear hb
        go_wp2_with fail
        refine HC.mono ?_
        rintro e w2 ⟨rfl, hw2⟩
        subst hw2
        clear HC
        go_wp2_with fail
        go_ret
        refine ⟨⟨_, rfl, ?_⟩, rfl⟩
        have h1 : zs.any (badI 0 15) = true := List.any_eq_true.2 ⟨x, by rw [HX.out]; exact List.getElem_mem _, HB.out⟩
        rw [h1]; simp
      | false =>
        rw [hb] at HC
        have HB : Hid (badI 0 15 x = false) := hb
        clear hb
        go_wp2_with fail
        refine HC.mono ?_
        rintro e w2 ⟨rfl, hw2⟩
        subst hw2
        clear HC
        go_wp2_with fail
        go_roundg (gk - 1)
        case measure => omega
        case rel =>
          refine ⟨i + 1, by omega, by omega, by go_num, hid ?_, rfl⟩
          rw [List.take_succ_eq_append_getElem hlt, List.any_append, HF.out, ← HX.out]
          simp [HB.out]
    · have : i = zs.length := by omega
      subst this
      go_wp2_with fail
      go_ret
      refine ⟨⟨_, rfl, ?_⟩, rfl⟩
      have h := HF.out
      rw [List.take_of_length_le (Nat.le_refl _)] at h
      rw [h]; simp

set_option maxHeartbeats 1000000 in
theorem lcontains_any (w : World) (v : Value) (I : Nat → Prop) (zs : List Int) (hs : SrcE intV w I v zs) (hn : zs.length ≤ 10000000) :
    Calls Tryd.prog 34 #[v, lwrongV] w fun e w' => e = .returned (.bool (!lensOk zs)) ∧ w' = w := by
  have H := lindex_any w v I zs hs hn
  clear hs
  go_enter Tryd.func34, Tryd.ntmps34
  go_wp2_with fail
  refine H.mono ?_
  rintro e w2 ⟨⟨z, rfl, hz⟩, hw⟩
  subst hw
  have HZ : Hid (decide (0 ≤ z) = zs.any (badI 0 15)) := hz
  clear hz H
  go_wp2_with fail
  go_ret
  refine ⟨?_, rfl⟩
  unfold lensOk
  rw [Bool.not_not, ← HZ.out]; rfl

set_option maxHeartbeats 1000000 in
theorem lother_any (w : World) (q b o n cap x y : Nat) (hq : w.cell? ⟨q, 0, none⟩ = some (.slice (some ⟨b, o, none⟩) n cap)) (hn : 0 < n) (hb : w.cell? ⟨b, o, none⟩ = some (.int .i64 (y : Nat))) :
    Calls Tryd.prog 56 #[.int .i64 (x : Nat), .pointer (some ⟨q, 0, none⟩)] w fun e w' => e = .returned (.bool (!decide (x = y))) ∧ w' = w := by
  go_enter Tryd.func56, Tryd.ntmps56
  by_cases h : x = y
  · subst h
    go_wp2_with fail
    go_ret
    exact ⟨by simp, rfl⟩
  · have hne : ((x : Int) == (y : Int)) = false := by simp; omega
    have HH : Hid ((!decide (x = y)) = true ∧ ¬ (x : Int) = (y : Int)) := hid ⟨by simp [h], by omega⟩
    clear h
    go_wp2_with fail
    go_ret
    exact ⟨by rw [HH.out.1]; simp [HH.out.2], rfl⟩

abbrev lotherV (q : Nat) : Value := .func (.func 56) #[] #[.pointer (some ⟨q, 0, none⟩)]

set_option maxHeartbeats 1000000 in
theorem lfirst_any (w : World) (b o cap q y : Nat) (I : Nat → Prop) (ns : List Nat) (hs : SrcE natV w I (.slice (some ⟨b, o, none⟩) ns.length cap) ns) (hn : ns.length ≤ 1000000) (h0 : 0 < ns.length) (hy : ns[0] = y)
    (hq : w.cell? ⟨q, 0, none⟩ = some (.slice (some ⟨b, o, none⟩) ns.length cap)) :
    Calls Tryd.prog 55 #[.slice (some ⟨b, o, none⟩) ns.length cap, lotherV q] w fun e w' => ((e = .returned (.int .i64 (-1)) ∧ ∀ j (_ : j < ns.length), ns[j] = y) ∨ ∃ i, e = .returned (.int .i64 (i : Nat)) ∧ ∃ h : i < ns.length, ns[i] ≠ y ∧ ∀ j (_ : j < ns.length), j < i → ns[j] = y) ∧ w' = w := by
  have c0 : w.cell? ⟨b, o, none⟩ = some (.int .i64 (y : Nat)) := by
    obtain ⟨b', o', cap', e, _, _, c⟩ := hs.get 0 h0
    simp only [Value.slice.injEq, Option.some.injEq, Addr.mk.injEq, and_true] at e
    obtain ⟨⟨rfl, rfl⟩, _, _⟩ := e
    rw [hy] at c
    exact c
  have HS : Hid (SrcE natV w I (.slice (some ⟨b, o, none⟩) ns.length cap) ns) := hs
  clear hs hy
  go_enter Tryd.func55, Tryd.ntmps55
  go_wp2_with fail
  go_loopg [8] ns.length (fun k z wr => ∃ i : Nat, ns.length - i ≤ k ∧ i ≤ ns.length ∧ z = .int .i64 (i : Nat) ∧ Hid (∀ j (_ : j < ns.length), j < i → ns[j] = y) ∧ wr = w)
  case atStart => exact ⟨0, by omega, by omega, rfl, hid (fun j _ h => by omega), rfl⟩
  case round =>
    obtain ⟨i, hk, hil, rfl, HF, hw⟩ := hrel
    subst hw
    by_cases hlt : i < ns.length
    · obtain ⟨b', o', cap2, e, _, _, hc⟩ := HS.out.get i hlt
      simp only [Value.slice.injEq, Option.some.injEq, Addr.mk.injEq, and_true] at e
      obtain ⟨⟨rfl, rfl⟩, hxe, rfl⟩ := e
      clear hxe
      obtain ⟨x, hx⟩ : ∃ x, x = ns[i] := ⟨_, rfl⟩
      rw [← hx] at hc
      unfold natV at hc
      have HX : Hid (x = ns[i]) := hx
      have HC := lother_any wr q b o ns.length cap x y hq h0 c0
      clear hx
      by_cases hb : x = y
      · have HB : Hid (x = y) := hb
        have hd : (!decide (x = y)) = false := by simp [hb]
        rw [hd] at HC
        clear hb hd
        go_wp2_with fail
        refine HC.mono ?_
        rintro e w2 ⟨rfl, hw2⟩
        subst hw2
        clear HC
        go_wp2_with fail
        go_roundg (gk - 1)
        case measure => omega
        case rel =>
          refine ⟨i + 1, by omega, by omega, by go_num, hid (fun j hj hji => ?_), rfl⟩
          by_cases e : j = i
          · subst e; rw [← HX.out, HB.out]
          · exact HF.out j hj (by omega)
      · have HB : Hid (x ≠ y) := hb
        have hd : (!decide (x = y)) = true := by simp [hb]
        rw [hd] at HC
        clear hb hd
        go_wp2_with fail
        refine HC.mono ?_
        rintro e w2 ⟨rfl, hw2⟩
        subst hw2
        clear HC
        go_wp2_with fail
        go_ret
        exact ⟨.inr ⟨i, rfl, hlt, by rw [← HX.out]; exact HB.out, HF.out⟩, rfl⟩
    · have : i = ns.length := by omega
      subst this
      go_wp2_with fail
      go_ret
      exact ⟨.inl ⟨rfl, fun j hj => HF.out j hj hj⟩, rfl⟩

theorem front_of {y : Nat} {r : List Nat} {n : Nat} (h : (n = (y :: r).length ∧ ∀ j (_ : j < (y :: r).length), (y :: r)[j] = y) ∨ ∃ h : n < (y :: r).length, (y :: r)[n] ≠ y ∧ ∀ j (_ : j < (y :: r).length), j < n → (y :: r)[j] = y) : n = 1 + frontN y r := by
  rcases h with ⟨h1, h2⟩ | ⟨h1, h2, h3⟩
  · have := frontN_is y r r.length (fun j hj _ => by have := h2 (j + 1) (by simpa using hj); rw [List.getElem_cons_succ] at this; exact this) (Nat.le_refl _) (fun h => by omega)
    rw [this, h1]
    simp; omega
  · cases n with
    | zero => simp at h2
    | succ n =>
      have := frontN_is y r n (fun j hj hjn => by have := h3 (j + 1) (by simpa using hj) (by omega); rw [List.getElem_cons_succ] at this; exact this) (by simp at h1; omega) (fun _ => by simpa using h2)
      rw [this]
      omega

set_option maxHeartbeats 1000000 in
theorem alike_any (w : World) (b o cap : Nat) (I : Nat → Prop) (y : Nat) (r : List Nat) (hs : SrcE natV w I (.slice (some ⟨b, o, none⟩) (y :: r).length cap) (y :: r)) (hn : (y :: r).length ≤ 1000000) :
    Calls Tryd.prog 35 #[.slice (some ⟨b, o, none⟩) (y :: r).length cap] w fun e w' => e = .returned (.int .i64 ((1 + frontN y r : Nat) : Int)) ∧ Same w w' := by
  obtain ⟨W, hW⟩ : ∃ W, W = w.alloc (.cells #[.slice (some ⟨b, o, none⟩) (y :: r).length cap] 22) := ⟨_, rfl⟩
  have HK : Hid (Same w W) := hid (by rw [hW]; exact (Kept.refl _ w).alloc _)
  have hq : W.cell? ⟨w.heap.size, 0, none⟩ = some (.slice (some ⟨b, o, none⟩) (y :: r).length cap) := by rw [hW]; simp
  have HC := lfirst_any W b o cap w.heap.size y I (y :: r) (hs.same HK.out) hn (by simp) rfl hq
  have HC2 : Calls Tryd.prog 55 #[.slice (some ⟨b, o, none⟩) (y :: r).length cap, lotherV w.heap.size] W fun e w' => ((e = .returned (.int .i64 (-1)) ∧ (y :: r).length = 1 + frontN y r) ∨ ∃ i : Nat, e = .returned (.int .i64 (i : Nat)) ∧ i = 1 + frontN y r) ∧ w' = W := HC.mono (by
    rintro e w' ⟨h, hw⟩
    refine ⟨?_, hw⟩
    rcases h with ⟨h1, h2⟩ | ⟨i, h1, h2, h3, h4⟩
    · exact .inl ⟨h1, front_of (.inl ⟨rfl, h2⟩)⟩
    · exact .inr ⟨i, h1, front_of (.inr ⟨h2, h3, h4⟩)⟩)
  clear HC
  obtain ⟨L, hL⟩ : ∃ L, L = (y :: r).length := ⟨_, rfl⟩
  rw [← hL] at HC2 hq hW ⊢
  obtain ⟨f, hf⟩ : ∃ f, f = 1 + frontN y r := ⟨_, rfl⟩
  rw [← hf] at HC2 ⊢
  clear hs hL hn hf
  go_enter Tryd.func35, Tryd.ntmps35
  go_wp2_with fail
  rw [← hW]
  clear hW
  go_wp2_with fail
  refine HC2.mono ?_
  rintro e w2 ⟨h, hw2⟩
  subst hw2
  clear HC2
  rcases h with ⟨rfl, hLf⟩ | ⟨i, rfl, hif⟩
  · subst hLf
    go_wp2_with fail
    go_ret
    exact ⟨rfl, HK.out⟩
  · subst hif
    go_wp2_with fail
    go_ret
    exact ⟨rfl, HK.out⟩

end Go.Proofs.YtofhlnpbflkdlaaDoor

/-
  The program's rows of like lengths in steps: the closure that lays steps of one kind.
-/
namespace Go.Proofs.YtofhlnpbflkdlaaDoor
open Go.RowKit

/-- What the closure may write. -/
abbrev ManyF (pn po B : Nat) (k : Nat) : Prop := k = pn ∨ k = po ∨ B ≤ k

theorem RowC.slice {α : Type} {B t k : Nat} {enc : α → List Value} {w : World} {v : Value} {xs : List α} (h : RowC B t k enc w v xs) : ∃ ao n cap, v = .slice ao n cap := by
  obtain ⟨ao, cap, hv, _⟩ := h.shape
  exact ⟨ao, _, cap, hv⟩

/-- The two variables that it holds, and the row. -/
structure MSt (w : World) (pn po B : Nat) (n : Nat) (vo : Value) (ss : List (Int × Int)) : Prop where
  bn : Blk w pn #[.int .i64 (n : Nat)] 3
  bo : Blk w po #[vo] 25
  row : StRow B w vo ss

set_option maxRecDepth 100000 in
set_option maxHeartbeats 2000000 in
theorem many_any (w : World) (pn po B n : Nat) (vo : Value) (ss : List (Int × Int)) (sym : Int) (lo hi : Nat) (hlo : lo = leastM sym) (hhi : hi = lo + 2 ^ widthM sym - 1) (hst : MSt w pn po B n vo ss) (hne : pn ≠ po) (hpn : pn < B) (hpo : po < B) (hB : B ≤ w.heap.size) (hss : ss.length + n ≤ 1000) :
    Calls Tryd.prog 57 #[.int .i64 sym, .pointer (some ⟨pn, 0, none⟩), .pointer (some ⟨po, 0, none⟩)] w fun e w' => (∃ v vo', e = .returned v ∧ MSt w' pn po B (manyR lo hi n) vo' (ss ++ manyL sym lo hi n)) ∧ Kept (ManyF pn po B) w w' := by
  have hw7 := widthM_le sym
  have hl1 := leastM_le sym
  have HSH := shape_any w sym
  rw [← hlo] at HSH hl1
  obtain ⟨wd, hwd⟩ : ∃ x, x = widthM sym := ⟨_, rfl⟩
  rw [← hwd] at HSH hw7 hhi
  clear hwd hlo
  have hp7 := pow_le7 wd hw7
  have hp0 : 0 < 2 ^ wd := Nat.two_pow_pos wd
  have hshl : ∃ pw : Nat, wrap64 ((2 : Int) ^ wd) = (pw : Int) ∧ hi = lo + pw - 1 ∧ 0 < pw ∧ pw ≤ 128 := by
    refine ⟨2 ^ wd, ?_, hhi, hp0, hp7⟩
    have : (2 : Int) ^ wd = ((2 ^ wd : Nat) : Int) := by simp
    rw [this]; unfold wrap64; omega
  clear hhi hp7 hp0
  obtain ⟨pw, hshl, hhi, hp0, hp7⟩ := hshl
  obtain ⟨s1, hs1⟩ : ∃ x, x = lo + pw := ⟨_, rfl⟩
  have hs1I : (lo : Int) + (pw : Int) = (s1 : Int) := by omega
  have hs1w : IntKind.i64.wrap (s1 : Int) = (s1 : Int) := by rw [IntKind.wrap_i64]; omega
  have hhiI : (s1 : Int) - 1 = (hi : Int) := by omega
  have hhiw : IntKind.i64.wrap (hi : Int) = (hi : Int) := by rw [IntKind.wrap_i64]; omega
  have hlh : lo ≤ hi := by omega
  have hhi2 : hi ≤ 200 := by omega
  have HS : Hid (MSt w pn po B n vo ss) := hst
  have hll : 1 ≤ lo := hl1.1
  clear hs1 hhi hst
  go_enter Tryd.func57, Tryd.ntmps57
  go_wp2_with fail
  refine HSH.mono ?_
  rintro e w1 ⟨rfl, hw1⟩
  subst hw1
  clear HSH
  go_wp2_with fail
  rw [hshl]
  clear hshl
  go_loopg [7] n (fun q _ wr => ∃ (k : Nat) (em : List (Int × Int)) (v : Value), k ≤ q ∧ k ≤ n ∧ Hid (manyL sym lo hi n = em ++ manyL sym lo hi k ∧ manyR lo hi n = manyR lo hi k ∧ em.length + k ≤ n) ∧ Hid (MSt wr pn po B k v (ss ++ em)) ∧ Hid (Kept (ManyF pn po B) w1 wr))
  case atStart => exact ⟨n, [], vo, by omega, by omega, hid ⟨rfl, rfl, by simp⟩, hid (by simpa using HS.out), Kept.refl _ _⟩
  case round =>
    clear HS
    obtain ⟨k, em, v, hq, hkn, HZ, HS, HK⟩ := hrel
    have hsz := HK.out.size
    have c1 := HS.out.bn.cell 0
    have c2 := HS.out.bo.cell 0
    simp only [List.getElem?_toArray, List.getElem?_cons_zero] at c1 c2
    by_cases hlk : lo ≤ k
    · by_cases hkh : k ≤ hi
      · have hmin : min k hi = k := by omega
        obtain ⟨x, hx⟩ : ∃ x, x = k - lo := ⟨_, rfl⟩
        have hxI : (k : Int) - (lo : Int) = (x : Int) := by omega
        obtain ⟨k2, hk2⟩ : ∃ x, x = k - k := ⟨_, rfl⟩
        have hk2I : (k : Int) - (k : Int) = (k2 : Int) := by omega
        have hxw : IntKind.i64.wrap (x : Int) = (x : Int) := by rw [IntKind.wrap_i64]; omega
        have hk2w : IntKind.i64.wrap (k2 : Int) = (k2 : Int) := by rw [IntKind.wrap_i64]; omega
        have hk2k : k2 < k := by omega
        have HZ2 : Hid (manyL sym lo hi n = (em ++ [(sym, (x : Int))]) ++ manyL sym lo hi k2 ∧ manyR lo hi n = manyR lo hi k2 ∧ (em ++ [(sym, (x : Int))]).length + k2 ≤ n) := hid (by
          obtain ⟨h1, h2, h3⟩ := HZ.out
          refine ⟨?_, ?_, ?_⟩
          · rw [h1, manyL_more hll hlh hlk, hmin, ← hx, ← hk2]; simp
          · rw [h2, manyR_more hll hlh hlk, hmin, ← hk2]
          · simp; omega)
        have hlen : (ss ++ em).length + 1 ≤ 1000000000 := by have := HZ.out.2.2; simp; omega
        have hlkd : decide ((lo : Int) ≤ (k : Int)) = true := by simp; omega
        clear hx hk2 hmin
        go_wp2_with (at_builtin; refine wpList_append_step _ B rfl (.tmp 24) (.tmp 30) rfl v _ rfl (World.ownsRow.alloc HS.out.row _) ⟨wr.heap.size, 0, none⟩ (sym, (x : Int)) rfl (step_new _ _ _) hlen (by simp; omega) ?_; intro v5 w5 hr5 hg5; obtain ⟨ao5, n5, cap5, hv5⟩ := RowC.slice hr5; subst hv5; have HK5 : Hid (Kept (fun j => v.ownBlock = some j) wr w5) := hid (((Kept.refl _ wr).alloc _).grown hg5 (fun j e => .inl e)); have HOW : Hid (∀ j, j < B → ¬ v.ownBlock = some j) := hid (fun j hj e => by have := HS.out.row.ge e; omega); have HBN : Hid (Blk w5 pn #[.int .i64 (k : Nat)] 3) := hid (HS.out.bn.kept HK5.out (HOW.out pn hpn)); have HBO : Hid (Blk w5 po #[v] 25) := hid (HS.out.bo.kept HK5.out (HOW.out po hpo)); have HR5 : Hid (StRow B w5 (.slice ao5 n5 cap5) (ss ++ (em ++ [(sym, (x : Int))]))) := hid (by rw [← List.append_assoc]; exact hr5); have c3 : w5.cell? ⟨pn, 0, none⟩ = some (.int .i64 (k : Nat)) := HBN.out.cell 0; have c4 : w5.cell? ⟨po, 0, none⟩ = some v := HBO.out.cell 0; have f3 : w5.frozen? ⟨pn, 0, none⟩ = false := HBN.out.frozen 0; have f4 : w5.frozen? ⟨po, 0, none⟩ = false := HBO.out.frozen 0; clear hr5 hg5)
        go_roundg (gk - 1)
        case measure => omega
        case rel =>
          refine ⟨k2, em ++ [(sym, (x : Int))], .slice ao5 n5 cap5, by omega, by omega, HZ2, hid ⟨?_, ?_, ?_⟩, hid ?_⟩
          · exact (HBN.out.kept (Kept.setCell (Kept.refl (· = po) w5) ⟨po, 0, none⟩ _ (.inl rfl)) hne).set 0 _
          · exact (HBO.out.set 0 _).kept (Kept.setCell (Kept.refl (· = pn) _) ⟨pn, 0, none⟩ _ (.inl rfl)) (fun e => hne e.symm)
          · exact RowC.kept HR5.out (((Kept.refl (fun j => j = pn ∨ j = po) w5).setCell ⟨po, 0, none⟩ _ (.inl (.inr rfl))).setCell ⟨pn, 0, none⟩ _ (.inl (.inl rfl))) (fun j e h => by have := HR5.out.ge e; omega)
          · have h15 : Kept (ManyF pn po B) w1 w5 := Kept.trans HK.out HK5.out (fun _ _ h => h) (fun j _ e => .inr (.inr (HS.out.row.ge e)))
            exact (h15.setCell ⟨po, 0, none⟩ _ (.inl (.inr (.inl rfl)))).setCell ⟨pn, 0, none⟩ _ (.inl (.inl rfl))

      · have hmin : min k hi = hi := by omega
        obtain ⟨x, hx⟩ : ∃ x, x = hi - lo := ⟨_, rfl⟩
        have hxI : (hi : Int) - (lo : Int) = (x : Int) := by omega
        obtain ⟨k2, hk2⟩ : ∃ x, x = k - hi := ⟨_, rfl⟩
        have hk2I : (k : Int) - (hi : Int) = (k2 : Int) := by omega
        have hxw : IntKind.i64.wrap (x : Int) = (x : Int) := by rw [IntKind.wrap_i64]; omega
        have hk2w : IntKind.i64.wrap (k2 : Int) = (k2 : Int) := by rw [IntKind.wrap_i64]; omega
        have hk2k : k2 < k := by omega
        have HZ2 : Hid (manyL sym lo hi n = (em ++ [(sym, (x : Int))]) ++ manyL sym lo hi k2 ∧ manyR lo hi n = manyR lo hi k2 ∧ (em ++ [(sym, (x : Int))]).length + k2 ≤ n) := hid (by
          obtain ⟨h1, h2, h3⟩ := HZ.out
          refine ⟨?_, ?_, ?_⟩
          · rw [h1, manyL_more hll hlh hlk, hmin, ← hx, ← hk2]; simp
          · rw [h2, manyR_more hll hlh hlk, hmin, ← hk2]
          · simp; omega)
        have hlen : (ss ++ em).length + 1 ≤ 1000000000 := by have := HZ.out.2.2; simp; omega
        have hlkd : decide ((lo : Int) ≤ (k : Int)) = true := by simp; omega
        clear hx hk2 hmin
        go_wp2_with (at_builtin; refine wpList_append_step _ B rfl (.tmp 24) (.tmp 30) rfl v _ rfl (World.ownsRow.alloc HS.out.row _) ⟨wr.heap.size, 0, none⟩ (sym, (x : Int)) rfl (step_new _ _ _) hlen (by simp; omega) ?_; intro v5 w5 hr5 hg5; obtain ⟨ao5, n5, cap5, hv5⟩ := RowC.slice hr5; subst hv5; have HK5 : Hid (Kept (fun j => v.ownBlock = some j) wr w5) := hid (((Kept.refl _ wr).alloc _).grown hg5 (fun j e => .inl e)); have HOW : Hid (∀ j, j < B → ¬ v.ownBlock = some j) := hid (fun j hj e => by have := HS.out.row.ge e; omega); have HBN : Hid (Blk w5 pn #[.int .i64 (k : Nat)] 3) := hid (HS.out.bn.kept HK5.out (HOW.out pn hpn)); have HBO : Hid (Blk w5 po #[v] 25) := hid (HS.out.bo.kept HK5.out (HOW.out po hpo)); have HR5 : Hid (StRow B w5 (.slice ao5 n5 cap5) (ss ++ (em ++ [(sym, (x : Int))]))) := hid (by rw [← List.append_assoc]; exact hr5); have c3 : w5.cell? ⟨pn, 0, none⟩ = some (.int .i64 (k : Nat)) := HBN.out.cell 0; have c4 : w5.cell? ⟨po, 0, none⟩ = some v := HBO.out.cell 0; have f3 : w5.frozen? ⟨pn, 0, none⟩ = false := HBN.out.frozen 0; have f4 : w5.frozen? ⟨po, 0, none⟩ = false := HBO.out.frozen 0; clear hr5 hg5)
        go_roundg (gk - 1)
        case measure => omega
        case rel =>
          refine ⟨k2, em ++ [(sym, (x : Int))], .slice ao5 n5 cap5, by omega, by omega, HZ2, hid ⟨?_, ?_, ?_⟩, hid ?_⟩
          · exact (HBN.out.kept (Kept.setCell (Kept.refl (· = po) w5) ⟨po, 0, none⟩ _ (.inl rfl)) hne).set 0 _
          · exact (HBO.out.set 0 _).kept (Kept.setCell (Kept.refl (· = pn) _) ⟨pn, 0, none⟩ _ (.inl rfl)) (fun e => hne e.symm)
          · exact RowC.kept HR5.out (((Kept.refl (fun j => j = pn ∨ j = po) w5).setCell ⟨po, 0, none⟩ _ (.inl (.inr rfl))).setCell ⟨pn, 0, none⟩ _ (.inl (.inl rfl))) (fun j e h => by have := HR5.out.ge e; omega)
          · have h15 : Kept (ManyF pn po B) w1 w5 := Kept.trans HK.out HK5.out (fun _ _ h => h) (fun j _ e => .inr (.inr (HS.out.row.ge e)))
            exact (h15.setCell ⟨po, 0, none⟩ _ (.inl (.inr (.inl rfl)))).setCell ⟨pn, 0, none⟩ _ (.inl (.inl rfl))

    · have hlkd : decide ((lo : Int) ≤ (k : Int)) = false := by simp; omega
      have HE : Hid (manyR lo hi n = k ∧ manyL sym lo hi n = em) := hid ⟨by rw [HZ.out.2.1, manyR_end (by omega)], by rw [HZ.out.1, manyL_end (by omega), List.append_nil]⟩
      go_wp2_with fail
      go_end0
      exact ⟨⟨_, v, rfl, by rw [HE.out.1, HE.out.2]; exact HS.out⟩, HK.out⟩

theorem many18 (sym : Int) (h : sym = 18) : leastM sym = 11 ∧ leastM sym + 2 ^ widthM sym - 1 = 138 := by subst h; decide
theorem many17 (sym : Int) (h : sym = 17) : leastM sym = 3 ∧ leastM sym + 2 ^ widthM sym - 1 = 10 := by subst h; decide
theorem many16 (sym : Int) (h : sym = 16) : leastM sym = 3 ∧ leastM sym + 2 ^ widthM sym - 1 = 6 := by subst h; decide

set_option maxRecDepth 100000 in
set_option maxHeartbeats 2000000 in
theorem packRow_any (w : World) (x n : Nat) (hn : n ≤ 400) (hn1 : 1 ≤ n) :
    Calls Tryd.prog 36 #[.int .i64 (x : Nat), .int .i64 (n : Nat)] w fun e w' => ∃ v', e = .returned v' ∧ StRow w.heap.size w' v' (sayM x n) ∧ Same w w' := by
  obtain ⟨W, hW⟩ : ∃ W, W = (w.alloc (.cells #[.int .i64 (n : Nat)] 3)).alloc (.cells #[.slice none 0 0] 25) := ⟨_, rfl⟩
  have hWs : W.heap.size = w.heap.size + 2 := by rw [hW]; simp
  have HK : Hid (Same w W) := hid (by rw [hW]; exact ((Kept.refl _ w).alloc _).alloc _)
  have hst : MSt W w.heap.size (w.heap.size + 1) (w.heap.size + 2) n (.slice none 0 0) [] := by
    have hb2 := Blk.new (w.alloc (.cells #[.int .i64 (n : Nat)] 3)) #[.slice none 0 0] 25
    rw [World.size_alloc, ← hW] at hb2
    exact ⟨by rw [hW]; exact (Blk.new w _ _).kept ((Kept.refl (fun _ => False) _).alloc _) (fun h => h), hb2, RowC.nil⟩
  by_cases hx : x = 0
  · subst hx
    have H18 := many_any W w.heap.size (w.heap.size + 1) (w.heap.size + 2) n (.slice none 0 0) [] 18 11 138 (by decide) (by decide) hst (by omega) (by omega) (by omega) (by omega) (by simp; omega)
    have HSAY : Hid (sayM 0 n = manyL 18 11 138 n ++ (manyL 17 3 10 (manyR 11 138 n) ++ List.replicate (manyR 3 10 (manyR 11 138 n)) (0, 0))) := hid (by unfold sayM; rw [if_pos rfl, zerosM_many])
    clear hst
    go_enter Tryd.func36, Tryd.ntmps36
    go_wp2_with fail
    rw [← hW]
    refine H18.mono ?_
    rintro e W2 ⟨⟨v2, vo2, rfl, hs2⟩, hk2⟩
    have hm := many_le 18 11 138 n (by decide) (by decide)
    have H17 := many_any W2 w.heap.size (w.heap.size + 1) (w.heap.size + 2) (manyR 11 138 n) vo2 _ 17 3 10 (by decide) (by decide) hs2 (by omega) (by omega) (by omega) (by have := hk2.size; omega) (by simp; omega)
    have HK2 : Hid (Kept (ManyF w.heap.size (w.heap.size + 1) (w.heap.size + 2)) W W2) := hk2
    clear hs2 hk2 H18 hm
    go_wp2_with fail
    refine H17.mono ?_
    rintro e W3 ⟨⟨v3, vo3, rfl, hs3⟩, hk3⟩
    obtain ⟨ao, n0, cap, rfl⟩ := RowC.slice hs3.row
    obtain ⟨k, hk⟩ : ∃ k, k = manyR 3 10 (manyR 11 138 n) := ⟨_, rfl⟩
    obtain ⟨ss, hss⟩ : ∃ ss, ss = [] ++ manyL 18 11 138 n ++ manyL 17 3 10 (manyR 11 138 n) := ⟨_, rfl⟩
    rw [← hk, ← hss] at hs3
    have HS3 : Hid (MSt W3 w.heap.size (w.heap.size + 1) (w.heap.size + 2) k (.slice ao n0 cap) ss) := hs3
    have HK3 : Hid (Kept (ManyF w.heap.size (w.heap.size + 1) (w.heap.size + 2)) W W3) := hid (Kept.trans HK2.out hk3 (fun _ _ h => h) (fun _ _ h => h))
    have HSS : Hid (ss = manyL 18 11 138 n ++ manyL 17 3 10 (manyR 11 138 n)) := hid (by rw [hss]; simp)
    have HKK : Hid (k = manyR 3 10 (manyR 11 138 n)) := hk
    have HLE : Hid (ss.length + k ≤ 400) := hid (by
      have h1 := many_le 18 11 138 n (by decide) (by decide)
      have h2 := many_le 17 3 10 (manyR 11 138 n) (by decide) (by decide)
      rw [hss, hk]
      simp
      omega)
    clear hs3 hk3 hk hss H17 HK2
    have HEND : Hid (sayM 0 n = ss ++ List.replicate k (0, 0)) := hid (by rw [HSS.out, HSAY.out, ← HKK.out, List.append_assoc])
    have hk4 : k ≤ 401 := by have := HLE.out; omega
    have hss4 : ss.length + k ≤ 401 := by have := HLE.out; omega
    have HSZ : Hid (w.heap.size + 2 ≤ W3.heap.size) := hid (by have := HK3.out.size; omega)
    have cN : W3.cell? ⟨w.heap.size, 0, none⟩ = some (.int .i64 (k : Nat)) := HS3.out.bn.cell 0
    have cO : W3.cell? ⟨w.heap.size + 1, 0, none⟩ = some (.slice ao n0 cap) := HS3.out.bo.cell 0
    have HREP : Hid (∀ W4 : World, CellsAt W4 ⟨W3.heap.size, 0, none⟩ (stC (0, 0)) → Calls Tryd.prog 59 #[.slice (some ⟨W3.heap.size, 0, none⟩) 1 1, .int .i64 (k : Nat)] W4 fun e w' => ∃ g, e = .returned (.slice (some ⟨g, 0, none⟩) k k) ∧ StRow W4.heap.size w' (.slice (some ⟨g, 0, none⟩) k k) (List.replicate k (0, 0)) ∧ Same W4 w') := hid (fun W4 h => repeatS_any W4 _ (0, 0) k h (by omega))
    have HOW : Hid (∀ j, j < w.heap.size + 2 → ¬ (Value.slice ao n0 cap).ownBlock = some j) := hid (fun j hj e => by have := HS3.out.row.ge e; omega)
    go_wp2_with fail
    go_region_held3 (fun w' => w'.cell? ⟨w.heap.size, 0, none⟩ = some (.int .i64 (k : Nat)) ∧ w'.cell? ⟨w.heap.size + 1, 0, none⟩ = some (.slice ao n0 cap))
      (first
        | (go_split_ands; exact ⟨hk5.cell (by assumption) (by unfold Over; simp), hk5.cell (by assumption) (by unfold Over; simp)⟩)
        | (go_split_ands; exact ⟨hk4.cell (by assumption) (fun f => f), hk4.cell (by assumption) (fun f => f)⟩)
        | go_keep)
      (first
        | (go_at_call 59; refine (HREP.out _ ?_).mono ?_; exact step_new _ _ _; rintro e w4 ⟨g, rfl, hr4, hk4⟩)
        | (have hw4 : Same W3 w4 := Same.trans (((Kept.refl _ W3).drew).alloc _) hk4; refine step_append_c stC 2 stC_ok (w.heap.size + 2) 25 31 (.agg #[.int .i64 0, .int .i64 0]) 16 Tryd.underlying25 Tryd.infoSt rfl (by decide) (by rfl) (.tmp 23) (.tmp 28) (by rfl) (.slice ao n0 cap) ss (by rfl) (RowC.kept HS3.out.row hw4 (fun _ _ f => f)) ⟨g, 0, none⟩ k k (List.replicate k (0, 0)) (by rfl) (by simp) (by have h := hr4.raw.at (k * 2); rw [List.take_of_length_le (by rw [flat_length stC_ok, List.length_replicate]; exact Nat.le_refl _)] at h; exact h) (by simp; omega) (by have h := hw4.size; have := HSZ.out; omega) ?_; intro v5 w5 hr5 hg5; have hk5 : Kept (Over (w.heap.size + 2)) w4 w5 := (Kept.refl _ w4).grown hg5 (fun j e => .inl (HS3.out.row.ge e)); clear hg5))
    all_goals
      go_wp2_with fail
      go_ret
      refine ⟨v5, rfl, by rw [HEND.out]; exact RowC.base hr5 (by omega), ?_⟩
      have h1 : Same w W3 := Same.then HK.out HK3.out (fun j hj e => by unfold ManyF at e; omega)
      exact Same.then (Same.trans h1 (Same.trans (((Kept.refl _ W3).drew).alloc _) hk4)) hk5 (fun j hj e => by unfold Over at e; omega)
  · obtain ⟨m, hm⟩ : ∃ m, m = n - 1 := ⟨_, rfl⟩
    have hmI : (n : Int) - 1 = (m : Int) := by omega
    have hxd : ((x : Int) == 0) = false := by simp; omega
    have HSAY : Hid (sayM x n = ((x : Int), 0) :: (manyL 16 3 6 m ++ List.replicate (manyR 3 6 m) ((x : Int), 0))) := hid (by unfold sayM; rw [if_neg hx, ← hm, againM_many])
    have HC0 : Hid (CellsAt (W.alloc (.cells #[.int .i64 (x : Nat), .int .i64 0] 31)) ⟨w.heap.size + 2, 0, none⟩ ([((x : Int), 0)].flatMap stC)) := hid (by have h := step_new W x 0; rw [hWs] at h; exact h)
    have HST : Hid (MSt W w.heap.size (w.heap.size + 1) (w.heap.size + 2) n (.slice none 0 0) []) := hst
    have HW : Hid (W = (w.alloc (.cells #[.int .i64 (n : Nat)] 3)).alloc (.cells #[.slice none 0 0] 25)) := hW
    have hm4 : m ≤ 400 := by omega
    clear hst hm hx hW
    go_enter Tryd.func36, Tryd.ntmps36
    go_wp2_with (at_builtin; refine wpList_append_step _ (w.heap.size + 2) rfl (.tmp 14) (.tmp 17) rfl (.slice none 0 0) [] rfl RowC.nil ⟨w.heap.size + 2, 0, none⟩ ((x : Int), 0) rfl (by have h := HC0.out; rw [HW.out] at h; exact h) (by simp) (by simp) ?_; intro v5 w5 hr5 hg5; rw [← HW.out] at hg5; obtain ⟨ao5, n5, cap5, hv5⟩ := RowC.slice hr5; subst hv5; have HK5 : Hid (Same W w5) := hid (((Kept.refl _ W).alloc _).grown hg5 (fun j e => by cases e)); have HBN : Hid (Blk w5 w.heap.size #[.int .i64 (n : Nat)] 3) := hid (HST.out.bn.kept HK5.out (fun f => f)); have HBO : Hid (Blk w5 (w.heap.size + 1) #[.slice none 0 0] 25) := hid (HST.out.bo.kept HK5.out (fun f => f)); have HR5 : Hid (StRow (w.heap.size + 2) w5 (.slice ao5 n5 cap5) [((x : Int), 0)]) := hr5; have c3 : w5.cell? ⟨w.heap.size, 0, none⟩ = some (.int .i64 (n : Nat)) := HBN.out.cell 0; have c4 : w5.cell? ⟨w.heap.size + 1, 0, none⟩ = some (.slice none 0 0) := HBO.out.cell 0; have f3 : w5.frozen? ⟨w.heap.size, 0, none⟩ = false := HBN.out.frozen 0; have f4 : w5.frozen? ⟨w.heap.size + 1, 0, none⟩ = false := HBO.out.frozen 0; clear hr5 hg5)
    obtain ⟨W2, hW2⟩ : ∃ W2, W2 = (w5.setCell ⟨w.heap.size + 1, 0, none⟩ (.slice ao5 n5 cap5)).setCell ⟨w.heap.size, 0, none⟩ (.int .i64 (m : Nat)) := ⟨_, rfl⟩
    rw [← hW2]
    have hst2 : MSt W2 w.heap.size (w.heap.size + 1) (w.heap.size + 2) m (.slice ao5 n5 cap5) [((x : Int), 0)] := by
      rw [hW2]
      refine ⟨?_, ?_, ?_⟩
      · exact (HBN.out.kept (Kept.setCell (Kept.refl (· = w.heap.size + 1) w5) ⟨w.heap.size + 1, 0, none⟩ _ (.inl rfl)) (by omega)).set 0 _
      · exact (HBO.out.set 0 _).kept (Kept.setCell (Kept.refl (· = w.heap.size) _) ⟨w.heap.size, 0, none⟩ _ (.inl rfl)) (by omega)
      · exact RowC.kept HR5.out (((Kept.refl (fun j => j = w.heap.size ∨ j = w.heap.size + 1) w5).setCell ⟨w.heap.size + 1, 0, none⟩ _ (.inl (.inr rfl))).setCell ⟨w.heap.size, 0, none⟩ _ (.inl (.inl rfl))) (fun j e h => by have := HR5.out.ge e; omega)
    have hk2 : Kept (ManyF w.heap.size (w.heap.size + 1) (w.heap.size + 2)) W W2 := by
      rw [hW2]
      exact ((HK5.out.mono (fun _ _ f => f.elim)).setCell ⟨w.heap.size + 1, 0, none⟩ _ (.inl (.inr (.inl rfl)))).setCell ⟨w.heap.size, 0, none⟩ _ (.inl (.inl rfl))
    have H16 := many_any W2 w.heap.size (w.heap.size + 1) (w.heap.size + 2) m (.slice ao5 n5 cap5) [((x : Int), 0)] 16 3 6 (by decide) (by decide) hst2 (by omega) (by omega) (by omega) (by have := hk2.size; omega) (by simp; omega)
    have HK2 : Hid (Kept (ManyF w.heap.size (w.heap.size + 1) (w.heap.size + 2)) W W2) := hk2
    clear hst2 hk2 hW2 HBN HBO HR5 c3 c4 f3 f4 HK5
    refine H16.mono ?_
    rintro e W3 ⟨⟨v3, vo3, rfl, hs3⟩, hk3⟩
    obtain ⟨ao, n0, cap, rfl⟩ := RowC.slice hs3.row
    obtain ⟨k, hk⟩ : ∃ k, k = manyR 3 6 m := ⟨_, rfl⟩
    obtain ⟨ss, hss⟩ : ∃ ss, ss = [((x : Int), (0 : Int))] ++ manyL 16 3 6 m := ⟨_, rfl⟩
    rw [← hk, ← hss] at hs3
    have HS3 : Hid (MSt W3 w.heap.size (w.heap.size + 1) (w.heap.size + 2) k (.slice ao n0 cap) ss) := hs3
    have HK3 : Hid (Kept (ManyF w.heap.size (w.heap.size + 1) (w.heap.size + 2)) W W3) := hid (Kept.trans HK2.out hk3 (fun _ _ h => h) (fun _ _ h => h))
    have HSS : Hid (ss = [((x : Int), (0 : Int))] ++ manyL 16 3 6 m) := hss
    have HKK : Hid (k = manyR 3 6 m) := hk
    have HLE : Hid (ss.length + k ≤ 401) := hid (by
      have h1 := many_le 16 3 6 m (by decide) (by decide)
      rw [hss, hk]
      simp
      omega)
    clear hs3 hk3 hk hss H16 HK2
    have HEND : Hid (sayM x n = ss ++ List.replicate k ((x : Int), 0)) := hid (by rw [HSS.out, HSAY.out, HKK.out]; simp)
    have hk4 : k ≤ 401 := by have := HLE.out; omega
    have hss4 : ss.length + k ≤ 401 := by have := HLE.out; omega
    have HSZ : Hid (w.heap.size + 2 ≤ W3.heap.size) := hid (by have := HK3.out.size; omega)
    have cN : W3.cell? ⟨w.heap.size, 0, none⟩ = some (.int .i64 (k : Nat)) := HS3.out.bn.cell 0
    have cO : W3.cell? ⟨w.heap.size + 1, 0, none⟩ = some (.slice ao n0 cap) := HS3.out.bo.cell 0
    have HREP : Hid (∀ W4 : World, CellsAt W4 ⟨W3.heap.size, 0, none⟩ (stC ((x : Int), 0)) → Calls Tryd.prog 59 #[.slice (some ⟨W3.heap.size, 0, none⟩) 1 1, .int .i64 (k : Nat)] W4 fun e w' => ∃ g, e = .returned (.slice (some ⟨g, 0, none⟩) k k) ∧ StRow W4.heap.size w' (.slice (some ⟨g, 0, none⟩) k k) (List.replicate k ((x : Int), 0)) ∧ Same W4 w') := hid (fun W4 h => repeatS_any W4 _ ((x : Int), 0) k h (by omega))
    have HOW : Hid (∀ j, j < w.heap.size + 2 → ¬ (Value.slice ao n0 cap).ownBlock = some j) := hid (fun j hj e => by have := HS3.out.row.ge e; omega)
    go_wp2_with fail
    go_region_held3 (fun w' => w'.cell? ⟨w.heap.size, 0, none⟩ = some (.int .i64 (k : Nat)) ∧ w'.cell? ⟨w.heap.size + 1, 0, none⟩ = some (.slice ao n0 cap))
      (first
        | (go_split_ands; exact ⟨hk5.cell (by assumption) (by unfold Over; simp), hk5.cell (by assumption) (by unfold Over; simp)⟩)
        | (go_split_ands; exact ⟨hk4.cell (by assumption) (fun f => f), hk4.cell (by assumption) (fun f => f)⟩)
        | go_keep)
      (first
        | (go_at_call 59; refine (HREP.out _ ?_).mono ?_; exact step_new _ _ _; rintro e w4 ⟨g, rfl, hr4, hk4⟩)
        | (have hw4 : Same W3 w4 := Same.trans (((Kept.refl _ W3).drew).alloc _) hk4; refine step_append_c stC 2 stC_ok (w.heap.size + 2) 25 31 (.agg #[.int .i64 0, .int .i64 0]) 16 Tryd.underlying25 Tryd.infoSt rfl (by decide) (by rfl) (.tmp 23) (.tmp 28) (by rfl) (.slice ao n0 cap) ss (by rfl) (RowC.kept HS3.out.row hw4 (fun _ _ f => f)) ⟨g, 0, none⟩ k k (List.replicate k ((x : Int), 0)) (by rfl) (by simp) (by have h := hr4.raw.at (k * 2); rw [List.take_of_length_le (by rw [flat_length stC_ok, List.length_replicate]; exact Nat.le_refl _)] at h; exact h) (by simp; omega) (by have h := hw4.size; have := HSZ.out; omega) ?_; intro v5 w5 hr5 hg5; have hk5 : Kept (Over (w.heap.size + 2)) w4 w5 := (Kept.refl _ w4).grown hg5 (fun j e => .inl (HS3.out.row.ge e)); clear hg5))
    all_goals
      go_wp2_with fail
      go_ret
      refine ⟨v5, rfl, by rw [HEND.out]; exact RowC.base hr5 (by omega), ?_⟩
      have h1 : Same w W3 := Same.then HK.out HK3.out (fun j hj e => by unfold ManyF at e; omega)
      exact Same.then (Same.trans h1 (Same.trans (((Kept.refl _ W3).drew).alloc _) hk4)) hk5 (fun j hj e => by unfold Over at e; omega)

end Go.Proofs.YtofhlnpbflkdlaaDoor
