/-
  Of the proof: parts LnPgM, LnShape, LnIdx, CopyK, LnRep, LnMany, LnPack, LnPack2, LnPk, LnCat, HDec, HDec2.
-/
import Derived.Laws.CopyOwn
import Derived.Deep.RegionLaw
import Derived.Laws.Bits64b
import Derived.Deep.RegionHeld3
import Derived.Lib.AppendZerosOnto
import Derived.Lib.Walk
import Derived.Test.YtofhlnpbflkdlaaDoorJ3
import Derived.Test.YtofhlnpbflkdlaaDoorJ2
import Derived.Test.YtofhlnpbflkdlaaDoorJ1

/-
  The program's own way of steps: shapes, what may stand, rows of like lengths.
-/
namespace Go.Proofs.YtofhlnpbflkdlaaDoor

/-- How many lengths a step says at least, and how many bits its number has. -/
def leastM (s : Int) : Nat := if s = 16 then 3 else if s = 17 then 3 else if s = 18 then 11 else 1
def widthM (s : Int) : Nat := if s = 16 then 2 else if s = 17 then 3 else if s = 18 then 7 else 0

theorem widthM_nat (s : Nat) : widthM (s : Int) = xbits s := by
  unfold widthM xbits
  by_cases h1 : s = 16
  · subst h1; rfl
  · by_cases h2 : s = 17
    · subst h2; rfl
    · by_cases h3 : s = 18
      · subst h3; rfl
      · rw [if_neg (by omega), if_neg (by omega), if_neg (by omega), if_neg h1, if_neg h2, if_neg h3]

theorem widthM_le (s : Int) : widthM s ≤ 7 := by
  unfold widthM
  split
  · omega
  · split
    · omega
    · split <;> omega

theorem leastM_le (s : Int) : 1 ≤ leastM s ∧ leastM s ≤ 11 := by
  unfold leastM
  split
  · omega
  · split
    · omega
    · split <;> omega

/-- The length that a step says. -/
def sayV (s : Int) (l : List Nat) : Nat := if s = 16 then lastN l else if s = 17 ∨ s = 18 then 0 else s.toNat

/-- Is it a step, and may it stand where so many of n lengths were said? -/
def mayB (s : Int × Int) (said n : Nat) : Prop := 0 ≤ s.1 ∧ s.1 ≤ 18 ∧ 0 ≤ s.2 ∧ s.2 < 2 ^ widthM s.1 ∧ ¬ (s.1 = 16 ∧ said = 0) ∧ (said + leastM s.1 : Nat) + s.2 ≤ n

theorem withM_may {l : List Nat} {s : Int × Int} {n : Nat} (h : mayB s l.length n) : withM l s n = some (l ++ List.replicate (leastM s.1 + s.2.toNat) (sayV s.1 l)) := by
  obtain ⟨a, b⟩ := s
  obtain ⟨h1, h2, h3, h4, h5, h6⟩ := h
  simp only at h1 h2 h3 h4 h5 h6 ⊢
  refine withM_ok ?_ (by omega)
  unfold saysM
  simp only
  by_cases e16 : a = 16
  · subst e16
    have hw : widthM 16 = 2 := rfl
    have hl : leastM 16 = 3 := rfl
    rw [hw] at h4
    rw [if_neg (by omega), if_pos ⟨rfl, h3, by omega, by omega⟩, hl]
    simp only [sayV, if_true]
    congr 2; omega
  · by_cases e17 : a = 17
    · subst e17
      have hw : widthM 17 = 3 := rfl
      have hl : leastM 17 = 3 := rfl
      rw [hw] at h4
      rw [if_neg (by omega), if_neg (by omega), if_pos ⟨rfl, h3, by omega⟩, hl]
      simp [sayV]; omega
    · by_cases e18 : a = 18
      · subst e18
        have hw : widthM 18 = 7 := rfl
        have hl : leastM 18 = 11 := rfl
        rw [hw] at h4
        rw [if_neg (by omega), if_neg (by omega), if_neg (by omega), if_pos ⟨rfl, h3, by omega⟩, hl]
        simp [sayV]; omega
      · have hw : widthM a = 0 := by unfold widthM; rw [if_neg e16, if_neg e17, if_neg e18]
        have hl : leastM a = 1 := by unfold leastM; rw [if_neg e16, if_neg e17, if_neg e18]
        rw [hw] at h4
        have hb : b = 0 := by omega
        subst hb
        rw [if_pos ⟨h1, by omega, rfl⟩, hl]
        unfold sayV
        rw [if_neg e16, if_neg (by omega)]
        rfl

theorem withM_no {l : List Nat} {s : Int × Int} {n : Nat} (h : ¬ mayB s l.length n) : withM l s n = none := by
  cases hw : withM l s n with
  | none => rfl
  | some m =>
    exfalso
    apply h
    obtain ⟨a, b⟩ := s
    unfold withM at hw
    split at hw
    · cases hw
    · rename_i v k hs
      split at hw
      · cases hw
      · rename_i hle
        unfold saysM at hs
        simp only at hs
        unfold mayB
        simp only
        split at hs
        · rename_i h1
          simp at hs
          have hw0 : widthM a = 0 := by unfold widthM; rw [if_neg (by omega), if_neg (by omega), if_neg (by omega)]
          have hl : leastM a = 1 := by unfold leastM; rw [if_neg (by omega), if_neg (by omega), if_neg (by omega)]
          rw [hw0, hl]
          omega
        · split at hs
          · rename_i h1
            simp at hs
            obtain ⟨rfl, h1⟩ := h1
            have hw0 : widthM 16 = 2 := rfl
            have hl : leastM 16 = 3 := rfl
            rw [hw0, hl]
            omega
          · split at hs
            · rename_i h1
              simp at hs
              obtain ⟨rfl, h1⟩ := h1
              have hw0 : widthM 17 = 3 := rfl
              have hl : leastM 17 = 3 := rfl
              rw [hw0, hl]
              omega
            · split at hs
              · rename_i h1
                simp at hs
                obtain ⟨rfl, h1⟩ := h1
                have hw0 : widthM 18 = 7 := rfl
                have hl : leastM 18 = 11 := rfl
                rw [hw0, hl]
                omega
              · cases hs

/-- So many steps of one kind as there are lengths for. -/
def manyL (s : Int) (lo hi n : Nat) : List (Int × Int) :=
  if 1 ≤ lo ∧ lo ≤ hi ∧ lo ≤ n then (s, ((min n hi - lo : Nat) : Int)) :: manyL s lo hi (n - min n hi) else []
termination_by n
decreasing_by omega

/-- And how many lengths are left. -/
def manyR (lo hi n : Nat) : Nat :=
  if 1 ≤ lo ∧ lo ≤ hi ∧ lo ≤ n then manyR lo hi (n - min n hi) else n
termination_by n
decreasing_by omega

theorem manyL_more {s : Int} {lo hi n : Nat} (h1 : 1 ≤ lo) (h2 : lo ≤ hi) (h3 : lo ≤ n) : manyL s lo hi n = (s, ((min n hi - lo : Nat) : Int)) :: manyL s lo hi (n - min n hi) := by
  rw [manyL, if_pos ⟨h1, h2, h3⟩]
theorem manyL_end {s : Int} {lo hi n : Nat} (h3 : n < lo) : manyL s lo hi n = [] := by rw [manyL, if_neg (by omega)]
theorem manyR_more {lo hi n : Nat} (h1 : 1 ≤ lo) (h2 : lo ≤ hi) (h3 : lo ≤ n) : manyR lo hi n = manyR lo hi (n - min n hi) := by
  rw [manyR, if_pos ⟨h1, h2, h3⟩]
theorem manyR_end {lo hi n : Nat} (h3 : n < lo) : manyR lo hi n = n := by rw [manyR, if_neg (by omega)]

theorem many_le (s : Int) (lo hi n : Nat) (h1 : 1 ≤ lo) (h2 : lo ≤ hi) : (manyL s lo hi n).length + manyR lo hi n ≤ n ∧ manyR lo hi n < lo := by
  induction n using Nat.strongRecOn with
  | ind n ih =>
    by_cases h : lo ≤ n
    · have := ih (n - min n hi) (by omega)
      rw [manyL_more h1 h2 h, manyR_more h1 h2 h, List.length_cons]
      omega
    · rw [manyL_end (by omega), manyR_end (by omega)]
      simp; omega

theorem zerosM_many (n : Nat) : zerosM n = manyL 18 11 138 n ++ (manyL 17 3 10 (manyR 11 138 n) ++ List.replicate (manyR 3 10 (manyR 11 138 n)) (0, 0)) := by
  induction n using Nat.strongRecOn with
  | ind n ih =>
    by_cases h : 11 ≤ n
    · rw [zerosM_big n h, manyL_more (by omega) (by omega) h, manyR_more (by omega) (by omega) h, ih (n - min n 138) (by omega)]
      rfl
    · rw [manyL_end (n := n) (by omega), manyR_end (n := n) (by omega)]
      by_cases h3 : 3 ≤ n
      · rw [zerosM_mid n (by omega) h3, manyL_more (by omega) (by omega) h3, manyR_more (by omega) (by omega) h3, show min n 10 = n by omega, Nat.sub_self, manyL_end (by omega), manyR_end (by omega)]
        rfl
      · rw [zerosM_few n (by omega), manyL_end (by omega), manyR_end (by omega)]
        rfl

theorem againM_many (v n : Nat) : againM v n = manyL 16 3 6 n ++ List.replicate (manyR 3 6 n) ((v : Int), 0) := by
  induction n using Nat.strongRecOn with
  | ind n ih =>
    by_cases h : 3 ≤ n
    · rw [againM_big v n h, manyL_more (by omega) (by omega) h, manyR_more (by omega) (by omega) h, ih (n - min n 6) (by omega)]
      rfl
    · rw [againM_few v n (by omega), manyL_end (by omega), manyR_end (by omega)]
      rfl

/-- How many of the codes' lengths come: noughts at the end are left out. -/
def comeN (cs : List Nat) : Nat → Nat
  | 0 => 0
  | k + 1 => if 4 < k + 1 ∧ cs.getD (ord.getD k 0) 0 = 0 then comeN cs k else k + 1

theorem comeN_ge (cs : List Nat) (k : Nat) (h : 4 ≤ k) : 4 ≤ comeN cs k ∧ comeN cs k ≤ k := by
  induction k with
  | zero => omega
  | succ k ih =>
    rw [comeN]
    split
    · have := ih (by omega); omega
    · omega

theorem comeN_rest (cs : List Nat) (k : Nat) : ∀ j, comeN cs k ≤ j → j < k → cs.getD (ord.getD j 0) 0 = 0 := by
  induction k with
  | zero => intro j _ h; omega
  | succ k ih =>
    intro j h1 h2
    rw [comeN] at h1
    split at h1
    · rename_i h
      by_cases e : j = k
      · subst e; exact h.2
      · exact ih j h1 (by omega)
    · omega

end Go.Proofs.YtofhlnpbflkdlaaDoor

/-
  The program's within, shape, mayStand, say.
-/
namespace Go.Proofs.YtofhlnpbflkdlaaDoor
open Go.RowKit

def inB (n lo hi : Int) : Bool := decide (lo ≤ n) && decide (n ≤ hi)

set_option maxHeartbeats 1000000 in
theorem within_any (w : World) (n lo hi : Int) :
    Calls Tryd.prog 33 #[.int .i64 n, .int .i64 lo, .int .i64 hi] w fun e w' => e = .returned (.bool (inB n lo hi)) ∧ w' = w := by
  go_enter Tryd.func33, Tryd.ntmps33
  by_cases h : lo ≤ n
  · go_wp2_with fail
    go_ret
    exact ⟨by simp only [inB, h, decide_true, Bool.true_and]; rfl, rfl⟩
  · go_wp2_with fail
    go_ret
    have hd : decide (lo ≤ n) = false := by simp; omega
    exact ⟨by simp only [inB, hd, Bool.false_and]; rfl, rfl⟩

set_option maxHeartbeats 1000000 in
theorem shape_any (w : World) (s : Int) :
    Calls Tryd.prog 58 #[.int .i64 s] w fun e w' => e = .returned (.tuple #[.int .i64 (leastM s : Nat), .int .i64 (widthM s : Nat)]) ∧ w' = w := by
  by_cases h16 : s = 16
  · subst h16
    go_enter Tryd.func58, Tryd.ntmps58
    go_wp2_with fail
    go_ret2
    exact ⟨rfl, rfl⟩
  · by_cases h17 : s = 17
    · subst h17
      go_enter Tryd.func58, Tryd.ntmps58
      go_wp2_with fail
      go_ret2
      exact ⟨rfl, rfl⟩
    · by_cases h18 : s = 18
      · subst h18
        go_enter Tryd.func58, Tryd.ntmps58
        go_wp2_with fail
        go_ret2
        exact ⟨rfl, rfl⟩
      · have e16 : (s == 16) = false := by simp; omega
        have e17 : (s == 17) = false := by simp; omega
        have e18 : (s == 18) = false := by simp; omega
        have HE : Hid (leastM s = 1 ∧ widthM s = 0) := hid ⟨by unfold leastM; rw [if_neg h16, if_neg h17, if_neg h18], by unfold widthM; rw [if_neg h16, if_neg h17, if_neg h18]⟩
        clear h16 h17 h18
        go_enter Tryd.func58, Tryd.ntmps58
        go_wp2_with fail
        go_ret2
        exact ⟨by rw [HE.out.1, HE.out.2]; rfl, rfl⟩

theorem pow_le7 (n : Nat) (h : n ≤ 7) : (2 : Nat) ^ n ≤ 128 := by
  have := Nat.pow_le_pow_right (show 0 < 2 by decide) h
  simpa using this

/-- mayStand's answer. -/
def MayR (e : Ending) (s : Int × Int) (said n : Nat) : Prop := ∃ r : Bool, e = .returned (.bool r) ∧ (r = true ↔ mayB s said n)

theorem MayR.no {e : Ending} {s : Int × Int} {said n : Nat} (h : MayR e s said n) (hm : ¬ mayB s said n) : e = .returned (.bool false) := by
  obtain ⟨r, rfl, hr⟩ := h
  cases r with
  | false => rfl
  | true => exact absurd (hr.1 rfl) hm

theorem MayR.yes {e : Ending} {s : Int × Int} {said n : Nat} (h : MayR e s said n) (hm : mayB s said n) : e = .returned (.bool true) := by
  obtain ⟨r, rfl, hr⟩ := h
  rw [hr.2 hm]

set_option maxRecDepth 100000 in
set_option maxHeartbeats 2000000 in
theorem mayStand_any (w : World) (a b : Int) (said n : Nat) (hs : said ≤ 1000000) :
    Calls Tryd.prog 39 #[.agg #[.int .i64 a, .int .i64 b], .int .i64 (said : Nat), .int .i64 (n : Nat)] w fun e w' => MayR e (a, b) said n ∧ Same w w' := by
  have hw7 := widthM_le a
  have hl1 := leastM_le a
  have HSH := shape_any (w.alloc (.cells #[.int .i64 a, .int .i64 b] 31)) a
  obtain ⟨wd, hwd⟩ : ∃ x, x = widthM a := ⟨_, rfl⟩
  obtain ⟨ls, hls⟩ : ∃ x, x = leastM a := ⟨_, rfl⟩
  rw [← hwd] at HSH hw7
  rw [← hls] at HSH hl1
  have HM : Hid (mayB (a, b) said n ↔ (0 ≤ a ∧ a ≤ 18 ∧ 0 ≤ b ∧ b < 2 ^ wd ∧ ¬ (a = 16 ∧ said = 0) ∧ (said + ls : Nat) + b ≤ n)) := hid (by rw [hwd, hls]; exact Iff.rfl)
  clear hwd hls
  have hp7 := pow_le7 wd hw7
  have hp0 : 0 < 2 ^ wd := Nat.two_pow_pos wd
  obtain ⟨pw, hpw⟩ : ∃ x, x = 2 ^ wd := ⟨_, rfl⟩
  obtain ⟨pm, hpm⟩ : ∃ x : Nat, x = pw - 1 := ⟨_, rfl⟩
  rw [← hpw] at hp7 hp0
  have HM2 : Hid (mayB (a, b) said n ↔ (inB a 0 18 = true ∧ inB b 0 (pm : Int) = true ∧ ¬ (a = 16 ∧ said = 0) ∧ (said + ls : Nat) + b ≤ n)) := hid (by
    rw [HM.out]
    have : (2 : Int) ^ wd = (pw : Int) := by rw [hpw]; simp
    rw [this]
    simp only [inB, Bool.and_eq_true, decide_eq_true_eq]
    omega)
  have hshl : wrap64 ((2 : Int) ^ wd) = (pw : Int) := by
    have : (2 : Int) ^ wd = (pw : Int) := by rw [hpw]; simp
    rw [this]; unfold wrap64; omega
  have hsub : (pw : Int) - 1 = (pm : Int) := by omega
  have HW1 := fun q => within_any ((w.alloc (.cells #[.int .i64 a, .int .i64 b] 31)).drewN q) a 0 18
  have HW2 := fun q => within_any ((w.alloc (.cells #[.int .i64 a, .int .i64 b] 31)).drewN q) b 0 (pm : Int)
  clear HM hpw
  have hpm' : pm ≤ 127 := by omega
  clear hpm
  go_enter Tryd.func39, Tryd.ntmps39
  go_wp2_with fail
  refine HSH.mono ?_
  rintro e w1 ⟨rfl, rfl⟩
  clear HSH
  have HK0 : Hid (Same w (w.alloc (.cells #[.int .i64 a, .int .i64 b] 31))) := hid ((Kept.refl _ w).alloc _)
  have cB : (w.alloc (.cells #[.int .i64 a, .int .i64 b] 31)).cell? ⟨w.heap.size, 1, none⟩ = some (.int .i64 b) := by simp
  have cA : (w.alloc (.cells #[.int .i64 a, .int .i64 b] 31)).cell? ⟨w.heap.size, 0, none⟩ = some (.int .i64 a) := by simp
  generalize w.alloc (.cells #[.int .i64 a, .int .i64 b] 31) = W at *
  cases h1 : inB a 0 18 with
  | false =>
    have HE : Hid (¬ mayB (a, b) said n) := hid (fun h => by have := (HM2.out.1 h).1; rw [h1] at this; cases this)
    rw [h1] at HW1
    clear h1
    go_wp2_with fail
    go_quiet ((go_at_call 33; exact Calls.quiet_of_same (HW1 _)))
    go_wp2_with fail
    go_ret
    exact ⟨⟨false, rfl, by simp [HE.out]⟩, HK0.out.drewN _⟩
  | true =>
    rw [h1] at HW1
    cases h2 : inB b 0 (pm : Int) with
    | false =>
      have HE : Hid (¬ mayB (a, b) said n) := hid (fun h => by have := (HM2.out.1 h).2.1; rw [h2] at this; cases this)
      rw [h2] at HW2
      clear h1 h2
      go_wp2_with fail
      go_quiet ((go_at_call 33; first | (with_reducible exact Calls.quiet_of_same (HW1 _)) | (with_reducible exact Calls.quiet_of_same (HW2 _))))
      go_wp2_with fail
      go_ret
      exact ⟨⟨false, rfl, by simp [HE.out]⟩, HK0.out.drewN _⟩
    | true =>
      rw [h2] at HW2
      have hb : 0 ≤ b ∧ b ≤ (pm : Int) := by simpa [inB] using h2
      have HM3 : Hid (mayB (a, b) said n ↔ (¬ (a = 16 ∧ said = 0) ∧ (said + ls : Nat) + b ≤ n)) := hid (by rw [HM2.out, h1, h2]; simp)
      obtain ⟨bn, rfl⟩ : ∃ x : Nat, b = (x : Int) := ⟨b.toNat, by omega⟩
      have hbn : bn ≤ 127 := by omega
      obtain ⟨t, ht⟩ : ∃ t, t = said + ls := ⟨_, rfl⟩
      have htI : (said : Int) + (ls : Int) = (t : Int) := by omega
      have htw : IntKind.i64.wrap (t : Int) = (t : Int) := by rw [IntKind.wrap_i64]; omega
      obtain ⟨u, hu⟩ : ∃ u, u = t + bn := ⟨_, rfl⟩
      have huI : (t : Int) + (bn : Int) = (u : Int) := by omega
      have huw : IntKind.i64.wrap (u : Int) = (u : Int) := by rw [IntKind.wrap_i64]; omega
      have HM4 : Hid (mayB (a, (bn : Int)) said n ↔ (¬ (a = 16 ∧ said = 0) ∧ u ≤ n)) := hid (by
        rw [HM3.out]
        have : ((said + ls : Nat) : Int) + (bn : Int) ≤ (n : Int) ↔ u ≤ n := by omega
        rw [this])
      clear h1 h2 hb HM3 HM2 ht hu
      go_wp2_with fail
      go_quiet ((go_at_call 33; first | (with_reducible exact Calls.quiet_of_same (HW1 _)) | (with_reducible exact Calls.quiet_of_same (HW2 _))))
      by_cases h16 : a = 16
      · subst h16
        by_cases h0 : said = 0
        · have HE : Hid (¬ mayB (16, (bn : Int)) 0 n) := hid (fun h => (HM4.out.1 (by rw [h0]; exact h)).1 ⟨rfl, h0⟩)
          have hsd : ((said : Int) == 0) = true := by simp [h0]
          go_wp2_with fail
          go_ret
          exact ⟨⟨false, rfl, by simp [HE.out]⟩, HK0.out.drewN _⟩
        · have hsd : ((said : Int) == 0) = false := by simp [h0]
          have HE : Hid (mayB (16, (bn : Int)) said n ↔ u ≤ n) := hid (by rw [HM4.out]; simp [h0])
          clear h0
          go_wp2_with fail
          go_ret
          exact ⟨⟨_, rfl, by rw [HE.out]; simp⟩, HK0.out.drewN _⟩
      · have h16' : (a == 16) = false := by simp [h16]
        have HE : Hid (mayB (a, (bn : Int)) said n ↔ u ≤ n) := hid (by rw [HM4.out]; simp [h16])
        clear h16
        go_wp2_with fail
        go_ret
        exact ⟨⟨_, rfl, by rw [HE.out]; simp⟩, HK0.out.drewN _⟩


set_option maxRecDepth 100000 in
set_option maxHeartbeats 2000000 in
/-- say, behind a row of one's own. -/
theorem say_any (w : World) (B : Nat) (v : Value) (l : List Nat) (a b : Int) (n : Nat) (hr : NRow B w v l) (hB : B ≤ w.heap.size) (hl : l.length ≤ 1000000) (hm : mayB (a, b) l.length n) :
    Calls Tryd.prog 40 #[v, .agg #[.int .i64 a, .int .i64 b]] w fun e w' => ∃ v', e = .returned v' ∧ NRow B w' v' (l ++ List.replicate (leastM a + b.toNat) (sayV a l)) ∧ Kept (Over B) w w' := by
  obtain ⟨ao, cap, rfl, hao, _⟩ := hr.shape
  obtain ⟨h1, h2, h3, h4, h5, h6⟩ := hm
  simp only at h1 h2 h3 h4 h5 h6
  have hw7 := widthM_le a
  have hl1 := leastM_le a
  have hp7 := pow_le7 _ hw7
  have hb7 : b < 128 := by
    have : ((2 ^ widthM a : Nat) : Int) = 2 ^ widthM a := by simp
    omega
  obtain ⟨bn, rfl⟩ : ∃ x : Nat, b = (x : Int) := ⟨b.toNat, by omega⟩
  obtain ⟨an, rfl⟩ : ∃ x : Nat, a = (x : Int) := ⟨a.toNat, by omega⟩
  obtain ⟨ls, hls⟩ : ∃ x, x = leastM (an : Int) := ⟨_, rfl⟩
  have HSH := shape_any (w.alloc (.cells #[.int .i64 (an : Int), .int .i64 (bn : Int)] 31)) (an : Int)
  rw [← hls] at HSH hl1 ⊢
  rw [Int.toNat_natCast]
  obtain ⟨k, hk⟩ : ∃ k, k = ls + bn := ⟨_, rfl⟩
  have hkI : (ls : Int) + (bn : Int) = (k : Int) := by omega
  have hkw : IntKind.i64.wrap (k : Int) = (k : Int) := by rw [IntKind.wrap_i64]; omega
  rw [← hk]
  have hk138 : k ≤ 138 := by omega
  obtain ⟨x, hx⟩ : ∃ x, x = sayV (an : Int) l := ⟨_, rfl⟩
  rw [← hx]
  have HR : Hid (NRow B (w.alloc (.cells #[.int .i64 (an : Int), .int .i64 (bn : Int)] 31)) (.slice ao l.length cap) l) := hid (World.ownsRow.alloc hr _)
  have HK0 : Hid (Kept (Over B) w (w.alloc (.cells #[.int .i64 (an : Int), .int .i64 (bn : Int)] 31))) := hid ((Kept.refl _ w).alloc _)
  have cB : (w.alloc (.cells #[.int .i64 (an : Int), .int .i64 (bn : Int)] 31)).cell? ⟨w.heap.size, 1, none⟩ = some (.int .i64 (bn : Int)) := by simp
  have cA : (w.alloc (.cells #[.int .i64 (an : Int), .int .i64 (bn : Int)] 31)).cell? ⟨w.heap.size, 0, none⟩ = some (.int .i64 (an : Int)) := by simp
  have hsz : B ≤ (w.alloc (.cells #[.int .i64 (an : Int), .int .i64 (bn : Int)] 31)).heap.size := by simp; omega
  have HLOOP : ∀ W : World, W = w.alloc (.cells #[.int .i64 (an : Int), .int .i64 (bn : Int)] 31) → True := fun _ _ => trivial
  clear HLOOP
  obtain ⟨L, hL⟩ : ∃ L, L = l.length := ⟨_, rfl⟩
  have HL : Hid (L = l.length) := hL
  have HAO : Hid (l ≠ [] → ∃ g, ao = some ⟨g, 0, none⟩) := hao
  have H5 : Hid (¬ ((an : Int) = 16 ∧ l.length = 0)) := h5
  have HX : Hid (x = sayV (an : Int) l) := hx
  rw [← hL] at HR hl ⊢
  clear hr hls hk hx hL h3 h4 h5 h6 hw7 hp7 hb7 hao h1
  go_enter Tryd.func40, Tryd.ntmps40
  go_wp2_with fail
  refine HSH.mono ?_
  rintro e w1 ⟨rfl, hw1⟩
  subst hw1
  clear HSH
  generalize w.alloc (.cells #[.int .i64 (an : Int), .int .i64 (bn : Int)] 31) = W at *
  by_cases h16 : an = 16
  · subst h16
    have hL0 : 0 < L := by have := HL.out; have := H5.out; omega
    have hl0 : 0 < l.length := by have := HL.out; omega
    obtain ⟨b2, o2, cap2, e2, _, _, c2⟩ := (SrcE.ofRow HR.out).get (l.length - 1) (by omega)
    simp only [Value.slice.injEq] at e2
    obtain ⟨rfl, hxe, rfl⟩ := e2
    clear hxe
    have hle : l[l.length - 1] = x := by rw [HX.out]; simp [sayV, lastN, List.getD, show l.length - 1 < l.length by omega]
    rw [hle, ← HL.out] at c2
    unfold natV at c2
    obtain ⟨m, hm⟩ : ∃ m, m = L - 1 := ⟨_, rfl⟩
    rw [← hm] at c2
    have hmI : (L : Int) - 1 = (m : Int) := by omega
    have hmL : m < L := by omega
    have hwm : IntKind.i64.wrap (m : Int) = (m : Int) := by rw [IntKind.wrap_i64]; omega
    clear hm hle hl0 hL0
    go_wp2_with fail
    go_loopg [0, 32] k (fun q zv zi wr => ∃ (i : Nat), k - i ≤ q ∧ i ≤ k ∧ zi = .int .i64 (i : Nat) ∧ Hid (NRow B wr zv (l ++ List.replicate i x)) ∧ Hid (Kept (Over B) w wr))
    case atStart => exact ⟨0, by omega, by omega, rfl, hid (by simpa using HR.out), HK0⟩
    case round =>
      clear HR HK0 cA cB
      obtain ⟨i, hq, hi, rfl, HV, HK⟩ := hrel
      by_cases hlt : i < k
      · have hsz2 := HK.out.size
        have HLN : Hid ((l ++ List.replicate i x).length + [x].length ≤ 1000000000) := hid (by have := HL.out; simp; omega)
        go_wp2_with (at_builtin; refine wpList_append_e _ natV natV_one B 22 3 (natV 0) 8 Tryd.underlying22 Tryd.infoN rfl (by decide) rfl (.tmp 34) (.tmp 36) rfl u0 (l ++ List.replicate i x) rfl (World.ownsRow.alloc HV.out _) ⟨wr.heap.size, 0, none⟩ 1 1 [x] rfl rfl (cellsAt_new _ _ _) HLN.out (by simp; omega) ?_; intro v5 w5 hr5 hg5)
        have HV5 : Hid (NRow B w5 v5 (l ++ List.replicate (i + 1) x)) := hid (by rw [List.replicate_succ', ← List.append_assoc]; exact hr5)
        have HK5 : Hid (Kept (Over B) w w5) := hid ((HK.out.alloc _).grown hg5 (fun j e => .inl (HV.out.ge e)))
        clear hr5 hg5
        go_wp2_with fail
        go_roundg (gk - 1)
        case measure => omega
        case rel => exact ⟨i + 1, by omega, by omega, by go_num, HV5, HK5⟩
      · have hik : i = k := by omega
        subst hik
        go_wp2_with fail
        go_ret
        exact ⟨_, rfl, HV.out, HK.out⟩
  · have e16 : ((an : Int) == 16) = false := by simp; omega
    by_cases h17 : an = 17
    · subst h17
      have hx0 : x = 0 := by rw [HX.out]; simp [sayV]
      subst hx0
      go_wp2_with fail
      go_loopg [0, 32] k (fun q zv zi wr => ∃ (i : Nat), k - i ≤ q ∧ i ≤ k ∧ zi = .int .i64 (i : Nat) ∧ Hid (NRow B wr zv (l ++ List.replicate i 0)) ∧ Hid (Kept (Over B) w wr))
      case atStart => exact ⟨0, by omega, by omega, rfl, hid (by simpa using HR.out), HK0⟩
      case round =>
        clear HR HK0 cA cB
        obtain ⟨i, hq, hi, rfl, HV, HK⟩ := hrel
        by_cases hlt : i < k
        · have hsz2 := HK.out.size
          have HLN : Hid ((l ++ List.replicate i 0).length + [0].length ≤ 1000000000) := hid (by have := HL.out; simp; omega)
          go_wp2_with (at_builtin; refine wpList_append_e _ natV natV_one B 22 3 (natV 0) 8 Tryd.underlying22 Tryd.infoN rfl (by decide) rfl (.tmp 34) (.tmp 36) rfl u0 (l ++ List.replicate i 0) rfl (World.ownsRow.alloc HV.out _) ⟨wr.heap.size, 0, none⟩ 1 1 [0] rfl rfl (cellsAt_new _ _ _) HLN.out (by simp; omega) ?_; intro v5 w5 hr5 hg5)
          have HV5 : Hid (NRow B w5 v5 (l ++ List.replicate (i + 1) 0)) := hid (by rw [List.replicate_succ', ← List.append_assoc]; exact hr5)
          have HK5 : Hid (Kept (Over B) w w5) := hid ((HK.out.alloc _).grown hg5 (fun j e => .inl (HV.out.ge e)))
          clear hr5 hg5
          go_wp2_with fail
          go_roundg (gk - 1)
          case measure => omega
          case rel => exact ⟨i + 1, by omega, by omega, by go_num, HV5, HK5⟩
        · have hik : i = k := by omega
          subst hik
          go_wp2_with fail
          go_ret
          exact ⟨_, rfl, HV.out, HK.out⟩
    · have e17 : ((an : Int) == 17) = false := by simp; omega
      by_cases h18 : an = 18
      · subst h18
        have hx0 : x = 0 := by rw [HX.out]; simp [sayV]
        subst hx0
        go_wp2_with fail
        go_loopg [0, 32] k (fun q zv zi wr => ∃ (i : Nat), k - i ≤ q ∧ i ≤ k ∧ zi = .int .i64 (i : Nat) ∧ Hid (NRow B wr zv (l ++ List.replicate i 0)) ∧ Hid (Kept (Over B) w wr))
        case atStart => exact ⟨0, by omega, by omega, rfl, hid (by simpa using HR.out), HK0⟩
        case round =>
          clear HR HK0 cA cB
          obtain ⟨i, hq, hi, rfl, HV, HK⟩ := hrel
          by_cases hlt : i < k
          · have hsz2 := HK.out.size
            have HLN : Hid ((l ++ List.replicate i 0).length + [0].length ≤ 1000000000) := hid (by have := HL.out; simp; omega)
            go_wp2_with (at_builtin; refine wpList_append_e _ natV natV_one B 22 3 (natV 0) 8 Tryd.underlying22 Tryd.infoN rfl (by decide) rfl (.tmp 34) (.tmp 36) rfl u0 (l ++ List.replicate i 0) rfl (World.ownsRow.alloc HV.out _) ⟨wr.heap.size, 0, none⟩ 1 1 [0] rfl rfl (cellsAt_new _ _ _) HLN.out (by simp; omega) ?_; intro v5 w5 hr5 hg5)
            have HV5 : Hid (NRow B w5 v5 (l ++ List.replicate (i + 1) 0)) := hid (by rw [List.replicate_succ', ← List.append_assoc]; exact hr5)
            have HK5 : Hid (Kept (Over B) w w5) := hid ((HK.out.alloc _).grown hg5 (fun j e => .inl (HV.out.ge e)))
            clear hr5 hg5
            go_wp2_with fail
            go_roundg (gk - 1)
            case measure => omega
            case rel => exact ⟨i + 1, by omega, by omega, by go_num, HV5, HK5⟩
          · have hik : i = k := by omega
            subst hik
            go_wp2_with fail
            go_ret
            exact ⟨_, rfl, HV.out, HK.out⟩
      · have e18 : ((an : Int) == 18) = false := by simp; omega
        have hx0 : x = an := by rw [HX.out]; unfold sayV; rw [if_neg (by omega), if_neg (by omega)]; simp
        clear h16 h17 h18
        subst hx0
        go_wp2_with fail
        go_loopg [0, 32] k (fun q zv zi wr => ∃ (i : Nat), k - i ≤ q ∧ i ≤ k ∧ zi = .int .i64 (i : Nat) ∧ Hid (NRow B wr zv (l ++ List.replicate i x)) ∧ Hid (Kept (Over B) w wr))
        case atStart => exact ⟨0, by omega, by omega, rfl, hid (by simpa using HR.out), HK0⟩
        case round =>
          clear HR HK0 cA cB
          obtain ⟨i, hq, hi, rfl, HV, HK⟩ := hrel
          by_cases hlt : i < k
          · have hsz2 := HK.out.size
            have HLN : Hid ((l ++ List.replicate i x).length + [x].length ≤ 1000000000) := hid (by have := HL.out; simp; omega)
            go_wp2_with (at_builtin; refine wpList_append_e _ natV natV_one B 22 3 (natV 0) 8 Tryd.underlying22 Tryd.infoN rfl (by decide) rfl (.tmp 34) (.tmp 36) rfl u0 (l ++ List.replicate i x) rfl (World.ownsRow.alloc HV.out _) ⟨wr.heap.size, 0, none⟩ 1 1 [x] rfl rfl (cellsAt_new _ _ _) HLN.out (by simp; omega) ?_; intro v5 w5 hr5 hg5)
            have HV5 : Hid (NRow B w5 v5 (l ++ List.replicate (i + 1) x)) := hid (by rw [List.replicate_succ', ← List.append_assoc]; exact hr5)
            have HK5 : Hid (Kept (Over B) w w5) := hid ((HK.out.alloc _).grown hg5 (fun j e => .inl (HV.out.ge e)))
            clear hr5 hg5
            go_wp2_with fail
            go_roundg (gk - 1)
            case measure => omega
            case rel => exact ⟨i + 1, by omega, by omega, by go_num, HV5, HK5⟩
          · have hik : i = k := by omega
            subst hik
            go_wp2_with fail
            go_ret
            exact ⟨_, rfl, HV.out, HK.out⟩

end Go.Proofs.YtofhlnpbflkdlaaDoor

/-
  The program's alike, and whether lengths may be.
-/
namespace Go.Proofs.YtofhlnpbflkdlaaDoor
open Go.RowKit

theorem inB_bad (z : Int) : (!inB z 0 15) = badI 0 15 z := by
  unfold inB badI
  by_cases h1 : 0 ≤ z
  · by_cases h2 : z ≤ 15
    · have h3 : ¬ z < 0 := by omega
      have h4 : ¬ 15 < z := by omega
      simp [h1, h2, h3, h4]
    · have h3 : ¬ z < 0 := by omega
      have h4 : 15 < z := by omega
      simp [h1, h2, h3, h4]
  · have h3 : z < 0 := by omega
    simp [h1, h3]

set_option maxHeartbeats 1000000 in
theorem lwrong_any (w : World) (z : Int) :
    Calls Tryd.prog 32 #[.int .i64 z] w fun e w' => e = .returned (.bool (badI 0 15 z)) ∧ w' = w := by
  have HW := within_any w z 0 15
  go_enter Tryd.func32, Tryd.ntmps32
  go_wp2_with fail
  refine HW.mono ?_
  rintro e w1 ⟨rfl, hw1⟩
  subst hw1
  clear HW
  go_wp2_with fail
  go_ret
  exact ⟨by rw [← inB_bad]; rfl, rfl⟩

abbrev lwrongV : Value := .func (.func 32) #[] #[]

set_option maxHeartbeats 1000000 in
theorem lindex_any (w : World) (v : Value) (I : Nat → Prop) (zs : List Int) (hs : SrcE intV w I v zs) (hn : zs.length ≤ 10000000) :
    Calls Tryd.prog 55 #[v, lwrongV] w fun e w' => (∃ z : Int, e = .returned (.int .i64 z) ∧ decide (0 ≤ z) = zs.any (badI 0 15)) ∧ w' = w := by
  obtain ⟨ao, cap, rfl, hx1, hx2⟩ := id hs
  clear hx1 hx2
  have HS : Hid (SrcE intV w I (.slice ao zs.length cap) zs) := hs
  clear hs
  go_enter Tryd.func55, Tryd.ntmps55
  go_wp2_with fail
  go_loopg [8] zs.length (fun k z wr => ∃ i : Nat, zs.length - i ≤ k ∧ i ≤ zs.length ∧ z = .int .i64 (i : Nat) ∧ Hid ((zs.take i).any (badI 0 15) = false) ∧ wr = w)
  case atStart => exact ⟨0, by omega, by omega, rfl, hid (by simp), rfl⟩
  case round =>
    obtain ⟨i, hk, hil, rfl, HF, hw⟩ := hrel
    subst hw
    by_cases hlt : i < zs.length
    · obtain ⟨b, o, cap2, e, _, _, hc⟩ := HS.out.get i hlt
      simp only [Value.slice.injEq] at e
      obtain ⟨rfl, hxe, rfl⟩ := e
      clear hxe
      obtain ⟨x, hx⟩ : ∃ x, x = zs[i] := ⟨_, rfl⟩
      rw [← hx] at hc
      unfold intV at hc
      have HX : Hid (x = zs[i]) := hx
      have HC := lwrong_any wr x
      clear hx
      cases hb : badI 0 15 x with
      | true =>
        rw [hb] at HC
        have HB : Hid (badI 0 15 x = true) := hb
        clear hb
        go_wp2_with fail
        refine HC.mono ?_
        rintro e w2 ⟨rfl, hw2⟩
        subst hw2
        clear HC
        go_wp2_with fail
        go_ret
        refine ⟨⟨_, rfl, ?_⟩, rfl⟩
        have h1 : zs.any (badI 0 15) = true := List.any_eq_true.2 ⟨x, by rw [HX.out]; exact List.getElem_mem _, HB.out⟩
        rw [h1]; simp
      | false =>
        rw [hb] at HC
        have HB : Hid (badI 0 15 x = false) := hb
        clear hb
        go_wp2_with fail
        refine HC.mono ?_
        rintro e w2 ⟨rfl, hw2⟩
        subst hw2
        clear HC
        go_wp2_with fail
        go_roundg (gk - 1)
        case measure => omega
        case rel =>
          refine ⟨i + 1, by omega, by omega, by go_num, hid ?_, rfl⟩
          rw [List.take_succ_eq_append_getElem hlt, List.any_append, HF.out, ← HX.out]
          simp [HB.out]
    · have : i = zs.length := by omega
      subst this
      go_wp2_with fail
      go_ret
      refine ⟨⟨_, rfl, ?_⟩, rfl⟩
      have h := HF.out
      rw [List.take_of_length_le (Nat.le_refl _)] at h
      rw [h]; simp

set_option maxHeartbeats 1000000 in
theorem lcontains_any (w : World) (v : Value) (I : Nat → Prop) (zs : List Int) (hs : SrcE intV w I v zs) (hn : zs.length ≤ 10000000) :
    Calls Tryd.prog 34 #[v, lwrongV] w fun e w' => e = .returned (.bool (!lensOk zs)) ∧ w' = w := by
  have H := lindex_any w v I zs hs hn
  clear hs
  go_enter Tryd.func34, Tryd.ntmps34
  go_wp2_with fail
  refine H.mono ?_
  rintro e w2 ⟨⟨z, rfl, hz⟩, hw⟩
  subst hw
  have HZ : Hid (decide (0 ≤ z) = zs.any (badI 0 15)) := hz
  clear hz H
  go_wp2_with fail
  go_ret
  refine ⟨?_, rfl⟩
  unfold lensOk
  rw [Bool.not_not, ← HZ.out]; rfl

set_option maxHeartbeats 1000000 in
theorem lother_any (w : World) (q b o n cap x y : Nat) (hq : w.cell? ⟨q, 0, none⟩ = some (.slice (some ⟨b, o, none⟩) n cap)) (hn : 0 < n) (hb : w.cell? ⟨b, o, none⟩ = some (.int .i64 (y : Nat))) :
    Calls Tryd.prog 56 #[.int .i64 (x : Nat), .pointer (some ⟨q, 0, none⟩)] w fun e w' => e = .returned (.bool (!decide (x = y))) ∧ w' = w := by
  go_enter Tryd.func56, Tryd.ntmps56
  by_cases h : x = y
  · subst h
    go_wp2_with fail
    go_ret
    exact ⟨by simp, rfl⟩
  · have hne : ((x : Int) == (y : Int)) = false := by simp; omega
    have HH : Hid ((!decide (x = y)) = true ∧ ¬ (x : Int) = (y : Int)) := hid ⟨by simp [h], by omega⟩
    clear h
    go_wp2_with fail
    go_ret
    exact ⟨by rw [HH.out.1]; simp [HH.out.2], rfl⟩

abbrev lotherV (q : Nat) : Value := .func (.func 56) #[] #[.pointer (some ⟨q, 0, none⟩)]

set_option maxHeartbeats 1000000 in
theorem lfirst_any (w : World) (b o cap q y : Nat) (I : Nat → Prop) (ns : List Nat) (hs : SrcE natV w I (.slice (some ⟨b, o, none⟩) ns.length cap) ns) (hn : ns.length ≤ 1000000) (h0 : 0 < ns.length) (hy : ns[0] = y)
    (hq : w.cell? ⟨q, 0, none⟩ = some (.slice (some ⟨b, o, none⟩) ns.length cap)) :
    Calls Tryd.prog 55 #[.slice (some ⟨b, o, none⟩) ns.length cap, lotherV q] w fun e w' => ((e = .returned (.int .i64 (-1)) ∧ ∀ j (_ : j < ns.length), ns[j] = y) ∨ ∃ i, e = .returned (.int .i64 (i : Nat)) ∧ ∃ h : i < ns.length, ns[i] ≠ y ∧ ∀ j (_ : j < ns.length), j < i → ns[j] = y) ∧ w' = w := by
  have c0 : w.cell? ⟨b, o, none⟩ = some (.int .i64 (y : Nat)) := by
    obtain ⟨b', o', cap', e, _, _, c⟩ := hs.get 0 h0
    simp only [Value.slice.injEq, Option.some.injEq, Addr.mk.injEq, and_true] at e
    obtain ⟨⟨rfl, rfl⟩, _, _⟩ := e
    rw [hy] at c
    exact c
  have HS : Hid (SrcE natV w I (.slice (some ⟨b, o, none⟩) ns.length cap) ns) := hs
  clear hs hy
  go_enter Tryd.func55, Tryd.ntmps55
  go_wp2_with fail
  go_loopg [8] ns.length (fun k z wr => ∃ i : Nat, ns.length - i ≤ k ∧ i ≤ ns.length ∧ z = .int .i64 (i : Nat) ∧ Hid (∀ j (_ : j < ns.length), j < i → ns[j] = y) ∧ wr = w)
  case atStart => exact ⟨0, by omega, by omega, rfl, hid (fun j _ h => by omega), rfl⟩
  case round =>
    obtain ⟨i, hk, hil, rfl, HF, hw⟩ := hrel
    subst hw
    by_cases hlt : i < ns.length
    · obtain ⟨b', o', cap2, e, _, _, hc⟩ := HS.out.get i hlt
      simp only [Value.slice.injEq, Option.some.injEq, Addr.mk.injEq, and_true] at e
      obtain ⟨⟨rfl, rfl⟩, hxe, rfl⟩ := e
      clear hxe
      obtain ⟨x, hx⟩ : ∃ x, x = ns[i] := ⟨_, rfl⟩
      rw [← hx] at hc
      unfold natV at hc
      have HX : Hid (x = ns[i]) := hx
      have HC := lother_any wr q b o ns.length cap x y hq h0 c0
      clear hx
      by_cases hb : x = y
      · have HB : Hid (x = y) := hb
        have hd : (!decide (x = y)) = false := by simp [hb]
        rw [hd] at HC
        clear hb hd
        go_wp2_with fail
        refine HC.mono ?_
        rintro e w2 ⟨rfl, hw2⟩
        subst hw2
        clear HC
        go_wp2_with fail
        go_roundg (gk - 1)
        case measure => omega
        case rel =>
          refine ⟨i + 1, by omega, by omega, by go_num, hid (fun j hj hji => ?_), rfl⟩
          by_cases e : j = i
          · subst e; rw [← HX.out, HB.out]
          · exact HF.out j hj (by omega)
      · have HB : Hid (x ≠ y) := hb
        have hd : (!decide (x = y)) = true := by simp [hb]
        rw [hd] at HC
        clear hb hd
        go_wp2_with fail
        refine HC.mono ?_
        rintro e w2 ⟨rfl, hw2⟩
        subst hw2
        clear HC
        go_wp2_with fail
        go_ret
        exact ⟨.inr ⟨i, rfl, hlt, by rw [← HX.out]; exact HB.out, HF.out⟩, rfl⟩
    · have : i = ns.length := by omega
      subst this
      go_wp2_with fail
      go_ret
      exact ⟨.inl ⟨rfl, fun j hj => HF.out j hj hj⟩, rfl⟩

theorem front_of {y : Nat} {r : List Nat} {n : Nat} (h : (n = (y :: r).length ∧ ∀ j (_ : j < (y :: r).length), (y :: r)[j] = y) ∨ ∃ h : n < (y :: r).length, (y :: r)[n] ≠ y ∧ ∀ j (_ : j < (y :: r).length), j < n → (y :: r)[j] = y) : n = 1 + frontN y r := by
  rcases h with ⟨h1, h2⟩ | ⟨h1, h2, h3⟩
  · have := frontN_is y r r.length (fun j hj _ => by have := h2 (j + 1) (by simpa using hj); rw [List.getElem_cons_succ] at this; exact this) (Nat.le_refl _) (fun h => by omega)
    rw [this, h1]
    simp; omega
  · cases n with
    | zero => simp at h2
    | succ n =>
      have := frontN_is y r n (fun j hj hjn => by have := h3 (j + 1) (by simpa using hj) (by omega); rw [List.getElem_cons_succ] at this; exact this) (by simp at h1; omega) (fun _ => by simpa using h2)
      rw [this]
      omega

set_option maxHeartbeats 1000000 in
theorem alike_any (w : World) (b o cap : Nat) (I : Nat → Prop) (y : Nat) (r : List Nat) (hs : SrcE natV w I (.slice (some ⟨b, o, none⟩) (y :: r).length cap) (y :: r)) (hn : (y :: r).length ≤ 1000000) :
    Calls Tryd.prog 35 #[.slice (some ⟨b, o, none⟩) (y :: r).length cap] w fun e w' => e = .returned (.int .i64 ((1 + frontN y r : Nat) : Int)) ∧ Same w w' := by
  obtain ⟨W, hW⟩ : ∃ W, W = w.alloc (.cells #[.slice (some ⟨b, o, none⟩) (y :: r).length cap] 22) := ⟨_, rfl⟩
  have HK : Hid (Same w W) := hid (by rw [hW]; exact (Kept.refl _ w).alloc _)
  have hq : W.cell? ⟨w.heap.size, 0, none⟩ = some (.slice (some ⟨b, o, none⟩) (y :: r).length cap) := by rw [hW]; simp
  have HC := lfirst_any W b o cap w.heap.size y I (y :: r) (hs.same HK.out) hn (by simp) rfl hq
  have HC2 : Calls Tryd.prog 55 #[.slice (some ⟨b, o, none⟩) (y :: r).length cap, lotherV w.heap.size] W fun e w' => ((e = .returned (.int .i64 (-1)) ∧ (y :: r).length = 1 + frontN y r) ∨ ∃ i : Nat, e = .returned (.int .i64 (i : Nat)) ∧ i = 1 + frontN y r) ∧ w' = W := HC.mono (by
    rintro e w' ⟨h, hw⟩
    refine ⟨?_, hw⟩
    rcases h with ⟨h1, h2⟩ | ⟨i, h1, h2, h3, h4⟩
    · exact .inl ⟨h1, front_of (.inl ⟨rfl, h2⟩)⟩
    · exact .inr ⟨i, h1, front_of (.inr ⟨h2, h3, h4⟩)⟩)
  clear HC
  obtain ⟨L, hL⟩ : ∃ L, L = (y :: r).length := ⟨_, rfl⟩
  rw [← hL] at HC2 hq hW ⊢
  obtain ⟨f, hf⟩ : ∃ f, f = 1 + frontN y r := ⟨_, rfl⟩
  rw [← hf] at HC2 ⊢
  clear hs hL hn hf
  go_enter Tryd.func35, Tryd.ntmps35
  go_wp2_with fail
  rw [← hW]
  clear hW
  go_wp2_with fail
  refine HC2.mono ?_
  rintro e w2 ⟨h, hw2⟩
  subst hw2
  clear HC2
  rcases h with ⟨rfl, hLf⟩ | ⟨i, rfl, hif⟩
  · subst hLf
    go_wp2_with fail
    go_ret
    exact ⟨rfl, HK.out⟩
  · subst hif
    go_wp2_with fail
    go_ret
    exact ⟨rfl, HK.out⟩

end Go.Proofs.YtofhlnpbflkdlaaDoor

/-
  Rows of some cells an element: made, copied into.
-/
namespace Go.Proofs.YtofhlnpbflkdlaaDoor
open Go.RowKit

theorem flat_made {α : Type} {enc : α → List Value} {k : Nat} (ok : EncOk enc k) (x0 : α) (n : Nat) : (madeCells (enc x0).toArray (n * k)).toList = (List.replicate n x0).flatMap enc := by
  have hk := ok.pos
  have hl := ok.len x0
  refine List.ext_getElem? (fun i => ?_)
  by_cases hi : i < n * k
  · have h1 : i / k < n := (Nat.div_lt_iff_lt_mul hk).2 hi
    have h2 : i % k < k := Nat.mod_lt _ hk
    have h3 := flat_get ok (List.replicate n x0) (i / k) (i % k) (by simpa using h1) h2
    rw [List.getElem_replicate, Nat.div_add_mod' i k] at h3
    rw [h3]
    simp [madeCells, hi, hl, h2]
  · rw [List.getElem?_eq_none (by simp [madeCells]; omega), List.getElem?_eq_none (by rw [flat_length ok]; simp; omega)]

/-- A whole block. -/
def Raw (w : World) (g : Nat) (t : TypeId) (L : List Value) : Prop := w.heap[g]? = some (.cells L.toArray t (0, 0))

theorem RowC.raw {α : Type} {B t k : Nat} {enc : α → List Value} {w : World} {g n : Nat} {xs : List α} (h : RowC B t k enc w (.slice (some ⟨g, 0, none⟩) n n) xs) : Raw w g t (xs.flatMap enc) := by
  have hl := h.len
  rcases h.2 with ⟨e, _⟩ | ⟨g', cap, cur, e, _, hg, _, _, hcs, htake⟩
  · simp at e
  · simp only [Value.slice.injEq, Option.some.injEq, Addr.mk.injEq, and_true] at e
    obtain ⟨rfl, rfl, rfl⟩ := e
    have : cur.toList = xs.flatMap enc := by
      rw [← htake, List.take_of_length_le]
      have h2 : cur.toList.length = cur.size := by simp
      rw [h2, hcs, hl]
      exact Nat.le_refl _
    unfold Raw
    rw [hg, ← this]

theorem Raw.row {α : Type} {B t k : Nat} {enc : α → List Value} (ok : EncOk enc k) {w : World} {g : Nat} {xs : List α} (h : Raw w g t (xs.flatMap enc)) (hB : B ≤ g) (hm : xs.length ≤ maxLen) : RowC B t k enc w (.slice (some ⟨g, 0, none⟩) xs.length xs.length) xs := by
  have hl := flat_length ok xs
  refine ⟨hl, .inr ⟨g, xs.length, _, rfl, hB, h, Nat.le_refl _, hm, ?_, ?_⟩⟩
  · simp [hl]
  · rw [List.take_of_length_le (by simp [hl])]

theorem Raw.kept {F : Nat → Prop} {w w' : World} {g : Nat} {t : TypeId} {L : List Value} (h : Raw w g t L) (hk : Kept F w w') (hF : ¬ F g) : Raw w' g t L := by
  unfold Raw
  rw [hk.block g (Array.getElem?_eq_some_iff.1 h).1 hF]
  exact h

/-- make(S, n). -/
theorem wpList_make_c {α : Type} {ops : Array Oper} {rest : List Oper} {o : Oper} {a : Act} {Q : Exit → Act → World → Prop} (w : World) (enc : α → List Value) (k : Nat) (ok : EncOk enc k) (x0 : α) (B sT eT : Nat) (z : Value) (bytes : Nat)
    (hU : Tryd.prog.underlying sT = some (.slice eT)) (hI : (Tryd.prog.info? eT).map (fun i => (i.zero, i.size, i.bytes)) = some (some z, k, bytes)) (hz : z.cells = (enc x0).toArray) (hby : bytes ≤ 1000)
    (hg : o.guard = none) (l c : Operand) (hop : o.op = Op.makeSlice sT l c) (kl kc : IntKind) (L C : Int) (n : Nat)
    (hl : a.eval l = .int kl L) (hc : a.eval c = .int kc C) (hL : L = (n : Int)) (hC : C = (n : Int)) (hn : n ≤ 1000000000) (hB : B ≤ w.heap.size)
    (hK : ∀ w', RowC B eT k enc w' (.slice (some ⟨w.heap.size, 0, none⟩) n n) (List.replicate n x0) → w.grownBy w' none → w.heap.size < w'.heap.size → wpList Tryd.prog ops Q rest (a.put o.dst (.slice (some ⟨w.heap.size, 0, none⟩) n n)) w') : wpList Tryd.prog ops Q (o :: rest) a w := by
  obtain ⟨i0, hi, hz0, hz1, hz2⟩ := info_parts hI
  have hmul : n * bytes ≤ 1000000000 * 1000 := Nat.mul_le_mul hn hby
  refine wpList_make_full w hg l c sT hop B eT i0 z k hU hi hz0 hz1 kl kc L C n hl hc hL hC (by rw [hz2]; have := Nat.mul_comm n bytes; omega) (by simp only [maxLen]; omega) hB ?_
  intro w' h1 h2
  refine hK w' ?_ h2 (World.ownsRow.lt h1 w.heap.size rfl).2
  rw [hz, flat_made ok] at h1
  unfold RowC
  rw [List.length_replicate]
  exact h1

theorem run_copy_k {P : Program} (w : World) (dT sT ty elem : TypeId) (k g off dLen dCap : Nat) (ad : Addr) (sLen sCap : Nat) (cur : List Value) (t : TypeId) (cs : List Value)
    (hu : P.underlying dT = some (.slice elem)) (hs : (P.info? elem).map (·.size) = some k) (hg : Raw w g t cur) (hn : cs.length = Nat.min sLen dLen * k)
    (hsrc : CellsAt w ad cs) (hfit : off + cs.length ≤ cur.length) (h1 : ∀ v ∈ cs, v.oneCell' = true) :
    (Builtin.copy_ #[dT, sT] ty #[.slice (some ⟨g, off, none⟩) dLen dCap, .slice (some ad) sLen sCap]).run P w =
      .ok (goInt (Nat.min sLen dLen)) (w.setRow g (splice cur off cs).toArray) := by
  have hl := run_loadCells_list (P := P) w ad cs hsrc
  have hst := run_storeCells_at P g off t cs 0 cur.toArray w hg (by simpa using hfit) h1
  rw [hn] at hl
  cases hq : P.info? elem with
  | none => simp [hq] at hs
  | some i =>
    have hi : i.size = k := by simpa [hq] using hs
    simp [Builtin.copy_, run_underlying hu, Builtin.lenOf, Builtin.firstCells, sizeOf, typeInfo, hq, hi, hl, hst, splice]

theorem run_copy_none_k {P : Program} (w : World) (dT sT ty elem : TypeId) (k : Nat) (d s : Option Addr) (dLen dCap sLen sCap : Nat)
    (hu : P.underlying dT = some (.slice elem)) (hs : (P.info? elem).map (·.size) = some k) (hn : Nat.min sLen dLen = 0) :
    (Builtin.copy_ #[dT, sT] ty #[.slice d dLen dCap, .slice s sLen sCap]).run P w = .ok (goInt 0) w := by
  cases hq : P.info? elem with
  | none => simp [hq] at hs
  | some i =>
    have hl : ∀ (x : Addr), (loadCells x 0).run P w = .ok #[] w := fun x => by simpa using run_loadCells_list (P := P) w x [] (by simp)
    cases d <;> cases s <;> simp [Builtin.copy_, run_underlying hu, Builtin.lenOf, Builtin.firstCells, sizeOf, typeInfo, hq, hn, storeCells, hl]

theorem splice_nil {α : Type} (L : List α) (off : Nat) : splice L off [] = L := by simp [splice]

theorem grown_setRow (w : World) (g : Nat) (cs : Array Value) : w.grownBy (w.setRow g cs) (some g) :=
  ⟨rfl, rfl, rfl, by simp, fun k _ hk => setRow_other w g k _ (fun e => hk (by simp [e]))⟩

/-- copy as a step of a walk. -/
theorem wpList_copy_k {ops : Array Oper} {rest : List Oper} {o : Oper} {a : Act} {Q : Exit → Act → World → Prop} (w : World) (hgd : o.guard = none) (d s : Operand) (dT sT : TypeId)
    (ho : o.op = .call { callee := .builtin .copy, args := #[d, s], argTypes := #[dT, sT] }) (elem : TypeId) (k : Nat) (hu : Tryd.prog.underlying dT = some (.slice elem)) (hsz : (Tryd.prog.info? elem).map (·.size) = some k)
    (g off dLen dCap : Nat) (sp : Option Addr) (sLen sCap : Nat) (hd : a.eval d = .slice (some ⟨g, off, none⟩) dLen dCap) (hs : a.eval s = .slice sp sLen sCap)
    (cur : List Value) (t : TypeId) (hg : Raw w g t cur) (cs : List Value) (hn : cs.length = Nat.min sLen dLen * k) (hpos : 0 < cs.length → ∃ ad, sp = some ad ∧ CellsAt w ad cs) (hk : 0 < k)
    (hfit : off + cs.length ≤ cur.length) (h1 : ∀ v ∈ cs, v.oneCell' = true) (m : Nat) (hm : Nat.min sLen dLen = m)
    (h : ∀ w', Raw w' g t (splice cur off cs) → w.grownBy w' (some g) → wpList Tryd.prog ops Q rest (a.put o.dst (.int .i64 (m : Nat))) w') : wpList Tryd.prog ops Q (o :: rest) a w := by
  refine wpList_plain hgd fun K hK => ?_
  by_cases h0 : cs = []
  · subst h0
    have hm0 : Nat.min sLen dLen = 0 := by
      rcases Nat.eq_zero_or_pos (Nat.min sLen dLen) with h | h
      · exact h
      · have := Nat.mul_pos h hk; simp at hn; omega
    have hrun := run_copy_none_k (P := Tryd.prog) w dT sT o.type elem k (some ⟨g, off, none⟩) sp dLen dCap sLen sCap hu hsz hm0
    have hmz : m = 0 := by omega
    subst hmz
    rw [splice_nil] at h
    unfold Oper.wp
    simp [execOp, ho, resolve, invoke, builtin, hd, hs, hrun, Result.andThen]
    exact hK _ _ (h w hg (World.grownBy.refl _ _))
  · obtain ⟨ad, rfl, hsrc⟩ := hpos (List.length_pos_iff.2 h0)
    have hrun := run_copy_k (P := Tryd.prog) w dT sT o.type elem k g off dLen dCap ad sLen sCap cur t cs hu hsz hg hn hsrc hfit h1
    rw [hm] at hrun
    unfold Oper.wp
    simp [execOp, ho, resolve, invoke, builtin, hd, hs, hrun, Result.andThen]
    exact hK _ _ (h _ (setRow_heap w g _ _ t _ hg) (grown_setRow w g _))

/-- copy as a step of a region that draws its order. -/
theorem step_copy_k {ops : Array Oper} {o : Oper} {a : Act} {w : World} {K : Act → World → Prop} {Q : Exit → Act → World → Prop} {E : Prop} (hgd : o.guard = none) (d s : Operand) (dT sT : TypeId)
    (ho : o.op = .call { callee := .builtin .copy, args := #[d, s], argTypes := #[dT, sT] }) (elem : TypeId) (k : Nat) (hu : Tryd.prog.underlying dT = some (.slice elem)) (hsz : (Tryd.prog.info? elem).map (·.size) = some k)
    (g off dLen dCap : Nat) (ad : Addr) (sLen sCap : Nat) (hd : a.eval d = .slice (some ⟨g, off, none⟩) dLen dCap) (hs : a.eval s = .slice (some ad) sLen sCap)
    (cur : List Value) (t : TypeId) (hg : Raw w g t cur) (cs : List Value) (hn : cs.length = Nat.min sLen dLen * k) (hsrc : CellsAt w ad cs)
    (hfit : off + cs.length ≤ cur.length) (h1 : ∀ v ∈ cs, v.oneCell' = true) (m : Nat) (hm : Nat.min sLen dLen = m)
    (h : ∀ w', Raw w' g t (splice cur off cs) → w.grownBy w' (some g) → K (a.put o.dst (.int .i64 (m : Nat))) w') :
    if Region.wanted o (yielded ops a.tmps) = true then Oper.wp Tryd.prog o a w K Q else E := by
  have hw : Region.wanted o (yielded ops a.tmps) = true := by simp [Region.wanted, hgd]
  rw [if_pos hw]
  have hrun := run_copy_k (P := Tryd.prog) w dT sT o.type elem k g off dLen dCap ad sLen sCap cur t cs hu hsz hg hn hsrc hfit h1
  rw [hm] at hrun
  unfold Oper.wp
  simp [execOp, ho, resolve, invoke, builtin, hd, hs, hrun, Result.andThen]
  exact h _ (setRow_heap w g _ _ t _ hg) (grown_setRow w g _)

/-- Cells of a block that is known whole. -/
theorem Raw.at {w : World} {g : Nat} {t : TypeId} {L : List Value} (h : Raw w g t L) (n : Nat) : CellsAt w ⟨g, 0, none⟩ (L.take n) := by
  intro j u hu
  have hj : j < (L.take n).length := (List.getElem?_eq_some_iff.1 hu).1
  rw [List.length_take] at hj
  rw [List.getElem?_take_of_lt (by omega)] at hu
  have e : (⟨g, 0, none⟩ : Addr).add j = ⟨g, j, none⟩ := by unfold Addr.add; split <;> simp_all
  rw [e]
  unfold Raw at h
  simp [World.cell?, h, hu]

/-- append as a step of a region that draws its order. -/
theorem step_append_c {α : Type} {ops : Array Oper} {o : Oper} {a : Act} {w : World} {K : Act → World → Prop} {Q : Exit → Act → World → Prop} {E : Prop} (enc : α → List Value) (k : Nat) (ok : EncOk enc k) (B sT eT : Nat) (z : Value) (bytes : Nat)
    (hU : Tryd.prog.underlying sT = some (.slice eT)) (hI : (Tryd.prog.info? eT).map (fun i => (i.zero, i.size, i.bytes)) = some (some z, k, bytes)) (hz : z.cells.size = k) (hby : bytes ≤ 1000) (hgd : o.guard = none) (s x : Operand)
    (ho : o.op = .call { callee := .builtin .append, args := #[s, x], argTypes := #[sT, sT] })
    (v : Value) (xs : List α) (hs : a.eval s = v) (hrow : RowC B eT k enc w v xs) (ad : Addr) (m c : Nat) (cs : List α) (hx : a.eval x = .slice (some ad) m c) (hm : cs.length = m) (hcs : CellsAt w ad (cs.flatMap enc)) (hlen : xs.length + cs.length ≤ 1000000000) (hB : B ≤ w.heap.size)
    (h : ∀ v' w', RowC B eT k enc w' v' (xs ++ cs) → w.grownBy w' v.ownBlock → K (a.put o.dst v') w') : if Region.wanted o (yielded ops a.tmps) = true then Oper.wp Tryd.prog o a w K Q else E := by
  have hw : Region.wanted o (yielded ops a.tmps) = true := by simp [Region.wanted, hgd]
  rw [if_pos hw]
  subst hm
  obtain ⟨i0, hi, hz0, hz1, hz2⟩ := info_parts hI
  have hmul : (xs.length + cs.length) * bytes ≤ 1000000000 * 1000 := Nat.mul_le_mul hlen hby
  refine wp_append_own w s x sT ho B eT i0 z k bytes hU hi hz0 hz1 hz2 hz ok.pos v xs.length (xs.flatMap enc) hs hrow ad cs.length c (cs.flatMap enc) hx (flat_length ok cs) hcs (flat_one ok cs) (by simp only [maxLen]; omega) (by omega) hB ?_
  intro v' w' h1 h2 _
  refine h v' w' ?_ h2
  unfold RowC
  rw [List.length_append, List.flatMap_append]
  exact h1

end Go.Proofs.YtofhlnpbflkdlaaDoor

/-
  slices.Repeat of one element.
-/
namespace Go.Proofs.YtofhlnpbflkdlaaDoor
open Go.RowKit

set_option maxHeartbeats 1000000 in
theorem mul64_one (w : World) (n : Nat) (hn : n ≤ 1000000) :
    Calls Tryd.prog 84 #[.int .u64 1, .int .u64 (n : Nat)] w fun e w' => e = .returned (.tuple #[.int .u64 0, .int .u64 (n : Nat)]) ∧ w' = w := by
  have h1 : bits .and .u64 1 4294967295 = 1 := by decide
  have h2 : bits .and .u64 (n : Int) 4294967295 = (n : Int) := by
    have h := bits_and_u64_nat n 4294967295 (by omega) (by omega)
    have e : n &&& 4294967295 = n % 4294967296 := Nat.and_two_pow_sub_one_eq_mod n 32
    rw [e, Nat.mod_eq_of_lt (by omega)] at h
    exact h
  have h3 : (n : Int) / 4294967296 = 0 := by omega
  have h4 : IntKind.u64.wrap (n : Int) = (n : Int) := by rw [IntKind.wrap_u64]; omega
  have h5 : bits .and .u64 0 4294967295 = 0 := by decide
  go_enter Tryd.func84, Tryd.ntmps84
  go_wp2_with fail
  go_ret2
  exact ⟨rfl, rfl⟩

set_option maxHeartbeats 1000000 in
theorem mul_one (w : World) (n : Nat) (hn : n ≤ 1000000) :
    Calls Tryd.prog 73 #[.int .u64 1, .int .u64 (n : Nat)] w fun e w' => e = .returned (.tuple #[.int .u64 0, .int .u64 (n : Nat)]) ∧ w' = w := by
  have HC := mul64_one w n hn
  go_enter Tryd.func73, Tryd.ntmps73
  go_wp2_with fail
  refine HC.mono ?_
  rintro e w1 ⟨rfl, hw1⟩
  subst hw1
  clear HC
  go_wp2_with fail
  go_ret2
  exact ⟨rfl, rfl⟩

theorem splice_more {α : Type} {enc : α → List Value} {k : Nat} (ok : EncOk enc k) (x y : α) (n m N : Nat) (h : n + m ≤ N) :
    splice ((List.replicate n x ++ List.replicate (N - n) y).flatMap enc) (n * k) ((List.replicate m x).flatMap enc) = (List.replicate (n + m) x ++ List.replicate (N - (n + m)) y).flatMap enc := by
  have e1 : ((List.replicate n x).flatMap enc).length = n * k := by rw [flat_length ok, List.length_replicate]
  have e2 : ((List.replicate m x).flatMap enc).length = m * k := by rw [flat_length ok, List.length_replicate]
  have e3 : List.replicate (N - n) y = List.replicate m y ++ List.replicate (N - (n + m)) y := by rw [List.replicate_append_replicate]; congr 1; omega
  have e4 : ((List.replicate m y).flatMap enc).length = m * k := by rw [flat_length ok, List.length_replicate]
  unfold splice
  rw [List.flatMap_append, e2, List.take_append_of_le_length (by omega), List.take_of_length_le (by omega), List.drop_append, List.drop_eq_nil_of_le (by omega), e1, List.nil_append, Nat.add_sub_cancel_left, e3, List.flatMap_append, ← e4, List.drop_left, ← List.append_assoc, ← List.flatMap_append, List.replicate_append_replicate, ← List.flatMap_append]

theorem flat_rep_take {α : Type} {enc : α → List Value} {k : Nat} (ok : EncOk enc k) (x y : α) (n m N : Nat) (h : m ≤ n) : ((List.replicate n x ++ List.replicate N y).flatMap enc).take (m * k) = (List.replicate m x).flatMap enc := by
  have e1 : List.replicate n x = List.replicate m x ++ List.replicate (n - m) x := by rw [List.replicate_append_replicate]; congr 1; omega
  have e2 : ((List.replicate m x).flatMap enc).length = m * k := by rw [flat_length ok, List.length_replicate]
  rw [e1, List.append_assoc, List.flatMap_append, ← e2, List.take_left]

/-- A number's cell. -/
def natL (n : Nat) : List Value := [natV n]
theorem natL_ok : EncOk natL 1 := ⟨fun _ => rfl, fun x u hu => by simp [natL] at hu; subst hu; rfl, by decide⟩
theorem natL_flat (xs : List Nat) : xs.flatMap natL = xs.map natV := by
  induction xs with
  | nil => rfl
  | cons a r ih => rw [List.flatMap_cons, ih]; rfl

theorem Tryd.infoSt1 : (Tryd.prog.info? 31).map (·.size) = some 2 := by kernel_rfl
theorem Tryd.infoN1 : (Tryd.prog.info? 3).map (·.size) = some 1 := by kernel_rfl

set_option maxRecDepth 100000 in
set_option maxHeartbeats 2000000 in
theorem repeatS_any (w : World) (ad : Addr) (y : Int × Int) (N : Nat) (hx : CellsAt w ad (stC y)) (hN : N ≤ 1000) :
    Calls Tryd.prog 59 #[.slice (some ad) 1 1, .int .i64 (N : Nat)] w fun e w' => ∃ g, e = .returned (.slice (some ⟨g, 0, none⟩) N N) ∧ RowC w.heap.size 31 2 stC w' (.slice (some ⟨g, 0, none⟩) N N) (List.replicate N y) ∧ Same w w' := by
  have HMU := mul_one w N (by omega)
  have HX : Hid (CellsAt w ad (stC y)) := hx
  have hxb : ad.block < w.heap.size := by
    have h0 := hx 0
    have hl := stC_ok.len y
    rw [List.getElem?_eq_getElem (by rw [hl]; decide)] at h0
    have := World.block_lt_of_cell? w _ (h0 _ rfl)
    unfold Addr.add at this
    split at this <;> simpa using this
  have HXB : Hid (ad.block < w.heap.size) := hxb
  have hwN : wrap64 (N : Int) = (N : Int) := by unfold wrap64; omega
  have hwU : IntKind.u64.wrap (N : Int) = (N : Int) := by rw [IntKind.wrap_u64]; omega
  clear hx hxb
  obtain ⟨m, hm⟩ : ∃ m, m = Nat.min 1 N := ⟨_, rfl⟩
  have hm1 : m ≤ 1 := by rw [hm]; exact Nat.min_le_left _ _
  have hmN : m ≤ N := by rw [hm]; exact Nat.min_le_right _ _
  have hm0 : 0 < m ∨ N = 0 := by
    rw [hm]
    rcases Nat.eq_zero_or_pos N with h | h
    · exact .inr h
    · exact .inl (Nat.lt_min.2 ⟨by decide, h⟩)
  have HM : Hid (Nat.min 1 N = m) := hid hm.symm
  clear hm
  have HE0 : Hid (((List.replicate m y).flatMap stC).length = m * 2) := hid (by rw [flat_length stC_ok, List.length_replicate])
  have HCS0 : Hid (∀ w2, Same w w2 → 0 < ((List.replicate m y).flatMap stC).length → ∃ a, some ad = some a ∧ CellsAt w2 a ((List.replicate m y).flatMap stC)) := hid (fun w2 hk h => by
    refine ⟨ad, rfl, fun j u hu => hk.cell (HX.out j u ?_) (fun f => f)⟩
    have : m = 1 := by
      rcases Nat.eq_zero_or_pos m with e | e
      · subst e; simp at h
      · omega
    subst this
    simpa using hu)
  go_enter Tryd.func59, Tryd.ntmps59
  go_wp2_with fail
  refine HMU.mono ?_
  rintro e w1 ⟨rfl, hw1⟩
  subst hw1
  clear HMU
  go_wp2_with (first | (at_make; refine wpList_make_c _ stC 2 stC_ok (0, 0) w1.heap.size 25 31 (.agg #[.int .i64 0, .int .i64 0]) 16 Tryd.underlying25 Tryd.infoSt rfl (by decide) rfl _ _ rfl _ _ _ _ N rfl rfl rfl rfl (by omega) (Nat.le_refl _) ?_; intro w2 hr2 hg2 hs2; have HR2 : Hid (Raw w2 w1.heap.size 31 ((List.replicate N (0, 0)).flatMap stC)) := hid hr2.raw; have HK2 : Hid (Same w1 w2) := hid ((Kept.refl _ w1).grown hg2 (fun j e => by cases e)); clear hr2 hg2) | (with_reducible refine atCopy ?_; refine wpList_copy_k _ rfl (.tmp 31) (.tmp 32) 25 25 rfl 31 2 Tryd.underlying25 Tryd.infoSt1 w1.heap.size 0 N N (some ad) 1 1 rfl rfl _ 31 HR2.out ((List.replicate m y).flatMap stC) (by rw [HM.out]; exact HE0.out) (HCS0.out _ HK2.out) (by decide) (by rw [HE0.out, flat_length stC_ok, List.length_replicate, Nat.zero_add]; exact Nat.mul_le_mul_right _ hmN) (flat_one stC_ok _) m HM.out ?_; intro w3 hr3 hg3; have HR3 : Hid (Raw w3 w1.heap.size 31 ((List.replicate m y ++ List.replicate (N - m) (0, 0)).flatMap stC)) := hid (by have h := splice_more stC_ok y (0, 0) 0 m N (by omega); simp only [List.replicate_zero, List.nil_append, Nat.sub_zero, Nat.zero_mul, Nat.zero_add] at h; rw [← h]; exact hr3); have HK3 : Hid (Same w1 w3) := hid (HK2.out.grown hg3 (fun j e => .inr (by injection e with e; omega))); clear hr3 hg3))
  go_loopg [8] N (fun q z wr => ∃ (n : Nat), N - n ≤ q ∧ n ≤ N ∧ (0 < n ∨ N = 0) ∧ z = .int .i64 (n : Nat) ∧ Hid (Raw wr w1.heap.size 31 ((List.replicate n y ++ List.replicate (N - n) (0, 0)).flatMap stC)) ∧ Hid (Same w1 wr))
  case atStart => exact ⟨m, by omega, by omega, hm0, rfl, HR3, HK3⟩
  case round =>
    clear HR2 HK2 HR3 HK3 hm1 hmN hm0
    obtain ⟨n, hq, hn, hn0, rfl, HR, HK⟩ := hrel
    by_cases hlt : n < N
    · obtain ⟨j, hj⟩ : ∃ j, j = Nat.min n (N - n) := ⟨_, rfl⟩
      have hjn : j ≤ n := by rw [hj]; exact Nat.min_le_left _ _
      have hjN : j ≤ N - n := by rw [hj]; exact Nat.min_le_right _ _
      have hj0 : 0 < j := by rw [hj]; exact Nat.lt_min.2 ⟨by omega, by omega⟩
      have HJ : Hid (Nat.min n (N - n) = j) := hid hj.symm
      clear hj
      obtain ⟨t, ht⟩ : ∃ t, t = n + j := ⟨_, rfl⟩
      have htI : (n : Int) + (j : Int) = (t : Int) := by omega
      have htw : IntKind.i64.wrap (t : Int) = (t : Int) := by rw [IntKind.wrap_i64]; omega
      have htN : t ≤ N := by omega
      have htn : n < t := by omega
      have HT : Hid (t = n + j) := ht
      have HE1 : Hid (((List.replicate j y).flatMap stC).length = j * 2) := hid (by rw [flat_length stC_ok, List.length_replicate])
      have HA1 : Hid (CellsAt wr ⟨w1.heap.size, 0, none⟩ ((List.replicate j y).flatMap stC)) := hid (by rw [← flat_rep_take stC_ok y (0, 0) n j (N - n) hjn]; exact HR.out.at _)
      have HF1 : Hid (n * 2 + ((List.replicate j y).flatMap stC).length ≤ ((List.replicate n y ++ List.replicate (N - n) (0, 0)).flatMap stC).length) := hid (by rw [HE1.out, flat_length stC_ok, List.length_append, List.length_replicate, List.length_replicate, ← Nat.add_mul]; exact Nat.mul_le_mul_right _ (by omega))
      have hNe : ¬ N = n := by omega
      clear ht hjN hj0
      go_wp2_with fail
      go_region_law (refine step_copy_k rfl (.tmp 41) (.tmp 44) 25 25 rfl 31 2 Tryd.underlying25 Tryd.infoSt1 w1.heap.size (n * 2) (N - n) (N - n) ⟨w1.heap.size, 0, none⟩ n N (by simp [Act.eval, Act.put]) (by simp [Act.eval, Act.put]) _ 31 HR.out ((List.replicate j y).flatMap stC) (by rw [HJ.out]; exact HE1.out) HA1.out HF1.out (flat_one stC_ok _) j HJ.out ?_; intro w4 hr4 hg4)
      all_goals
        have HR4 : Hid (Raw w4 w1.heap.size 31 ((List.replicate t y ++ List.replicate (N - t) (0, 0)).flatMap stC)) := hid (by have h := splice_more stC_ok y (0, 0) n j N (by have := HT.out; omega); rw [← HT.out] at h; rw [← h]; exact hr4)
        have HK4 : Hid (Same w1 w4) := hid (HK.out.drew.grown hg4 (fun i e => .inr (by injection e with e; omega)))
        clear hr4 hg4
        go_wp2_with fail
        go_roundg (gk - 1)
        case measure => omega
        case rel => exact ⟨t, by omega, htN, .inl (by omega), rfl, HR4, HK4⟩
    · have hnN : n = N := by omega
      have HR4 : Hid (Raw wr w1.heap.size 31 ((List.replicate N y).flatMap stC)) := hid (by have h := HR.out; rw [hnN, Nat.sub_self] at h; simpa using h)
      clear hnN HR
      go_wp2_with fail
      go_ret
      refine ⟨_, rfl, ?_, HK.out⟩
      have h := HR4.out.row (B := w1.heap.size) stC_ok (Nat.le_refl _) (by simp [maxLen]; omega)
      rw [List.length_replicate] at h
      exact h

set_option maxRecDepth 100000 in
set_option maxHeartbeats 2000000 in
theorem repeatN_any (w : World) (ad : Addr) (y : Nat) (N : Nat) (hx : CellsAt w ad (natL y)) (hN : N ≤ 1000) :
    Calls Tryd.prog 80 #[.slice (some ad) 1 1, .int .i64 (N : Nat)] w fun e w' => ∃ g, e = .returned (.slice (some ⟨g, 0, none⟩) N N) ∧ RowC w.heap.size 3 1 natL w' (.slice (some ⟨g, 0, none⟩) N N) (List.replicate N y) ∧ Same w w' := by
  have HMU := mul_one w N (by omega)
  have HX : Hid (CellsAt w ad (natL y)) := hx
  have hxb : ad.block < w.heap.size := by
    have h0 := hx 0
    have hl := natL_ok.len y
    rw [List.getElem?_eq_getElem (by rw [hl]; decide)] at h0
    have := World.block_lt_of_cell? w _ (h0 _ rfl)
    unfold Addr.add at this
    split at this <;> simpa using this
  have HXB : Hid (ad.block < w.heap.size) := hxb
  have hwN : wrap64 (N : Int) = (N : Int) := by unfold wrap64; omega
  have hwU : IntKind.u64.wrap (N : Int) = (N : Int) := by rw [IntKind.wrap_u64]; omega
  clear hx hxb
  obtain ⟨m, hm⟩ : ∃ m, m = Nat.min 1 N := ⟨_, rfl⟩
  have hm1 : m ≤ 1 := by rw [hm]; exact Nat.min_le_left _ _
  have hmN : m ≤ N := by rw [hm]; exact Nat.min_le_right _ _
  have hm0 : 0 < m ∨ N = 0 := by
    rw [hm]
    rcases Nat.eq_zero_or_pos N with h | h
    · exact .inr h
    · exact .inl (Nat.lt_min.2 ⟨by decide, h⟩)
  have HM : Hid (Nat.min 1 N = m) := hid hm.symm
  clear hm
  have HE0 : Hid (((List.replicate m y).flatMap natL).length = m * 1) := hid (by rw [flat_length natL_ok, List.length_replicate])
  have HCS0 : Hid (∀ w2, Same w w2 → 0 < ((List.replicate m y).flatMap natL).length → ∃ a, some ad = some a ∧ CellsAt w2 a ((List.replicate m y).flatMap natL)) := hid (fun w2 hk h => by
    refine ⟨ad, rfl, fun j u hu => hk.cell (HX.out j u ?_) (fun f => f)⟩
    have : m = 1 := by
      rcases Nat.eq_zero_or_pos m with e | e
      · subst e; simp at h
      · omega
    subst this
    simpa using hu)
  go_enter Tryd.func80, Tryd.ntmps80
  go_wp2_with fail
  refine HMU.mono ?_
  rintro e w1 ⟨rfl, hw1⟩
  subst hw1
  clear HMU
  go_wp2_with (first | (at_make; refine wpList_make_c _ natL 1 natL_ok 0 w1.heap.size 22 3 (.int .i64 0) 8 Tryd.underlying22 Tryd.infoN rfl (by decide) rfl _ _ rfl _ _ _ _ N rfl rfl rfl rfl (by omega) (Nat.le_refl _) ?_; intro w2 hr2 hg2 hs2; have HR2 : Hid (Raw w2 w1.heap.size 3 ((List.replicate N 0).flatMap natL)) := hid hr2.raw; have HK2 : Hid (Same w1 w2) := hid ((Kept.refl _ w1).grown hg2 (fun j e => by cases e)); clear hr2 hg2) | (with_reducible refine atCopy ?_; refine wpList_copy_k _ rfl (.tmp 31) (.tmp 32) 22 22 rfl 3 1 Tryd.underlying22 Tryd.infoN1 w1.heap.size 0 N N (some ad) 1 1 rfl rfl _ 3 HR2.out ((List.replicate m y).flatMap natL) (by rw [HM.out]; exact HE0.out) (HCS0.out _ HK2.out) (by decide) (by rw [HE0.out, flat_length natL_ok, List.length_replicate, Nat.zero_add]; exact Nat.mul_le_mul_right _ hmN) (flat_one natL_ok _) m HM.out ?_; intro w3 hr3 hg3; have HR3 : Hid (Raw w3 w1.heap.size 3 ((List.replicate m y ++ List.replicate (N - m) 0).flatMap natL)) := hid (by have h := splice_more natL_ok y 0 0 m N (by omega); simp only [List.replicate_zero, List.nil_append, Nat.sub_zero, Nat.zero_mul, Nat.zero_add] at h; rw [← h]; exact hr3); have HK3 : Hid (Same w1 w3) := hid (HK2.out.grown hg3 (fun j e => .inr (by injection e with e; omega))); clear hr3 hg3))
  go_loopg [8] N (fun q z wr => ∃ (n : Nat), N - n ≤ q ∧ n ≤ N ∧ (0 < n ∨ N = 0) ∧ z = .int .i64 (n : Nat) ∧ Hid (Raw wr w1.heap.size 3 ((List.replicate n y ++ List.replicate (N - n) 0).flatMap natL)) ∧ Hid (Same w1 wr))
  case atStart => exact ⟨m, by omega, by omega, hm0, rfl, HR3, HK3⟩
  case round =>
    clear HR2 HK2 HR3 HK3 hm1 hmN hm0
    obtain ⟨n, hq, hn, hn0, rfl, HR, HK⟩ := hrel
    by_cases hlt : n < N
    · obtain ⟨j, hj⟩ : ∃ j, j = Nat.min n (N - n) := ⟨_, rfl⟩
      have hjn : j ≤ n := by rw [hj]; exact Nat.min_le_left _ _
      have hjN : j ≤ N - n := by rw [hj]; exact Nat.min_le_right _ _
      have hj0 : 0 < j := by rw [hj]; exact Nat.lt_min.2 ⟨by omega, by omega⟩
      have HJ : Hid (Nat.min n (N - n) = j) := hid hj.symm
      clear hj
      obtain ⟨t, ht⟩ : ∃ t, t = n + j := ⟨_, rfl⟩
      have htI : (n : Int) + (j : Int) = (t : Int) := by omega
      have htw : IntKind.i64.wrap (t : Int) = (t : Int) := by rw [IntKind.wrap_i64]; omega
      have htN : t ≤ N := by omega
      have htn : n < t := by omega
      have HT : Hid (t = n + j) := ht
      have HE1 : Hid (((List.replicate j y).flatMap natL).length = j * 1) := hid (by rw [flat_length natL_ok, List.length_replicate])
      have HA1 : Hid (CellsAt wr ⟨w1.heap.size, 0, none⟩ ((List.replicate j y).flatMap natL)) := hid (by rw [← flat_rep_take natL_ok y 0 n j (N - n) hjn]; exact HR.out.at _)
      have HF1 : Hid (n * 1 + ((List.replicate j y).flatMap natL).length ≤ ((List.replicate n y ++ List.replicate (N - n) 0).flatMap natL).length) := hid (by rw [HE1.out, flat_length natL_ok, List.length_append, List.length_replicate, List.length_replicate, ← Nat.add_mul]; exact Nat.mul_le_mul_right _ (by omega))
      have hNe : ¬ N = n := by omega
      clear ht hjN hj0
      go_wp2_with fail
      go_region_law (refine step_copy_k rfl (.tmp 41) (.tmp 44) 22 22 rfl 3 1 Tryd.underlying22 Tryd.infoN1 w1.heap.size (n * 1) (N - n) (N - n) ⟨w1.heap.size, 0, none⟩ n N (by simp [Act.eval, Act.put]) (by simp [Act.eval, Act.put]) _ 3 HR.out ((List.replicate j y).flatMap natL) (by rw [HJ.out]; exact HE1.out) HA1.out HF1.out (flat_one natL_ok _) j HJ.out ?_; intro w4 hr4 hg4)
      all_goals
        have HR4 : Hid (Raw w4 w1.heap.size 3 ((List.replicate t y ++ List.replicate (N - t) 0).flatMap natL)) := hid (by have h := splice_more natL_ok y 0 n j N (by have := HT.out; omega); rw [← HT.out] at h; rw [← h]; exact hr4)
        have HK4 : Hid (Same w1 w4) := hid (HK.out.drew.grown hg4 (fun i e => .inr (by injection e with e; omega)))
        clear hr4 hg4
        go_wp2_with fail
        go_roundg (gk - 1)
        case measure => omega
        case rel => exact ⟨t, by omega, htN, .inl (by omega), rfl, HR4, HK4⟩
    · have hnN : n = N := by omega
      have HR4 : Hid (Raw wr w1.heap.size 3 ((List.replicate N y).flatMap natL)) := hid (by have h := HR.out; rw [hnN, Nat.sub_self] at h; simpa using h)
      clear hnN HR
      go_wp2_with fail
      go_ret
      refine ⟨_, rfl, ?_, HK.out⟩
      have h := HR4.out.row (B := w1.heap.size) natL_ok (Nat.le_refl _) (by simp [maxLen]; omega)
      rw [List.length_replicate] at h
      exact h

end Go.Proofs.YtofhlnpbflkdlaaDoor

/-
  The program's rows of like lengths in steps: the closure that lays steps of one kind.
-/
namespace Go.Proofs.YtofhlnpbflkdlaaDoor
open Go.RowKit

/-- What the closure may write. -/
abbrev ManyF (pn po B : Nat) (k : Nat) : Prop := k = pn ∨ k = po ∨ B ≤ k

theorem RowC.slice {α : Type} {B t k : Nat} {enc : α → List Value} {w : World} {v : Value} {xs : List α} (h : RowC B t k enc w v xs) : ∃ ao n cap, v = .slice ao n cap := by
  obtain ⟨ao, cap, hv, _⟩ := h.shape
  exact ⟨ao, _, cap, hv⟩

/-- The two variables that it holds, and the row. -/
structure MSt (w : World) (pn po B : Nat) (n : Nat) (vo : Value) (ss : List (Int × Int)) : Prop where
  bn : Blk w pn #[.int .i64 (n : Nat)] 3
  bo : Blk w po #[vo] 25
  row : StRow B w vo ss

set_option maxRecDepth 100000 in
set_option maxHeartbeats 2000000 in
theorem many_any (w : World) (pn po B n : Nat) (vo : Value) (ss : List (Int × Int)) (sym : Int) (lo hi : Nat) (hlo : lo = leastM sym) (hhi : hi = lo + 2 ^ widthM sym - 1) (hst : MSt w pn po B n vo ss) (hne : pn ≠ po) (hpn : pn < B) (hpo : po < B) (hB : B ≤ w.heap.size) (hss : ss.length + n ≤ 1000) :
    Calls Tryd.prog 57 #[.int .i64 sym, .pointer (some ⟨pn, 0, none⟩), .pointer (some ⟨po, 0, none⟩)] w fun e w' => (∃ v vo', e = .returned v ∧ MSt w' pn po B (manyR lo hi n) vo' (ss ++ manyL sym lo hi n)) ∧ Kept (ManyF pn po B) w w' := by
  have hw7 := widthM_le sym
  have hl1 := leastM_le sym
  have HSH := shape_any w sym
  rw [← hlo] at HSH hl1
  obtain ⟨wd, hwd⟩ : ∃ x, x = widthM sym := ⟨_, rfl⟩
  rw [← hwd] at HSH hw7 hhi
  clear hwd hlo
  have hp7 := pow_le7 wd hw7
  have hp0 : 0 < 2 ^ wd := Nat.two_pow_pos wd
  have hshl : ∃ pw : Nat, wrap64 ((2 : Int) ^ wd) = (pw : Int) ∧ hi = lo + pw - 1 ∧ 0 < pw ∧ pw ≤ 128 := by
    refine ⟨2 ^ wd, ?_, hhi, hp0, hp7⟩
    have : (2 : Int) ^ wd = ((2 ^ wd : Nat) : Int) := by simp
    rw [this]; unfold wrap64; omega
  clear hhi hp7 hp0
  obtain ⟨pw, hshl, hhi, hp0, hp7⟩ := hshl
  obtain ⟨s1, hs1⟩ : ∃ x, x = lo + pw := ⟨_, rfl⟩
  have hs1I : (lo : Int) + (pw : Int) = (s1 : Int) := by omega
  have hs1w : IntKind.i64.wrap (s1 : Int) = (s1 : Int) := by rw [IntKind.wrap_i64]; omega
  have hhiI : (s1 : Int) - 1 = (hi : Int) := by omega
  have hhiw : IntKind.i64.wrap (hi : Int) = (hi : Int) := by rw [IntKind.wrap_i64]; omega
  have hlh : lo ≤ hi := by omega
  have hhi2 : hi ≤ 200 := by omega
  have HS : Hid (MSt w pn po B n vo ss) := hst
  have hll : 1 ≤ lo := hl1.1
  clear hs1 hhi hst
  go_enter Tryd.func57, Tryd.ntmps57
  go_wp2_with fail
  refine HSH.mono ?_
  rintro e w1 ⟨rfl, hw1⟩
  subst hw1
  clear HSH
  go_wp2_with fail
  rw [hshl]
  clear hshl
  go_loopg [7] n (fun q _ wr => ∃ (k : Nat) (em : List (Int × Int)) (v : Value), k ≤ q ∧ k ≤ n ∧ Hid (manyL sym lo hi n = em ++ manyL sym lo hi k ∧ manyR lo hi n = manyR lo hi k ∧ em.length + k ≤ n) ∧ Hid (MSt wr pn po B k v (ss ++ em)) ∧ Hid (Kept (ManyF pn po B) w1 wr))
  case atStart => exact ⟨n, [], vo, by omega, by omega, hid ⟨rfl, rfl, by simp⟩, hid (by simpa using HS.out), Kept.refl _ _⟩
  case round =>
    clear HS
    obtain ⟨k, em, v, hq, hkn, HZ, HS, HK⟩ := hrel
    have hsz := HK.out.size
    have c1 := HS.out.bn.cell 0
    have c2 := HS.out.bo.cell 0
    simp only [List.getElem?_toArray, List.getElem?_cons_zero] at c1 c2
    by_cases hlk : lo ≤ k
    · by_cases hkh : k ≤ hi
      · have hmin : min k hi = k := by omega
        obtain ⟨x, hx⟩ : ∃ x, x = k - lo := ⟨_, rfl⟩
        have hxI : (k : Int) - (lo : Int) = (x : Int) := by omega
        obtain ⟨k2, hk2⟩ : ∃ x, x = k - k := ⟨_, rfl⟩
        have hk2I : (k : Int) - (k : Int) = (k2 : Int) := by omega
        have hxw : IntKind.i64.wrap (x : Int) = (x : Int) := by rw [IntKind.wrap_i64]; omega
        have hk2w : IntKind.i64.wrap (k2 : Int) = (k2 : Int) := by rw [IntKind.wrap_i64]; omega
        have hk2k : k2 < k := by omega
        have HZ2 : Hid (manyL sym lo hi n = (em ++ [(sym, (x : Int))]) ++ manyL sym lo hi k2 ∧ manyR lo hi n = manyR lo hi k2 ∧ (em ++ [(sym, (x : Int))]).length + k2 ≤ n) := hid (by
          obtain ⟨h1, h2, h3⟩ := HZ.out
          refine ⟨?_, ?_, ?_⟩
          · rw [h1, manyL_more hll hlh hlk, hmin, ← hx, ← hk2]; simp
          · rw [h2, manyR_more hll hlh hlk, hmin, ← hk2]
          · simp; omega)
        have hlen : (ss ++ em).length + 1 ≤ 1000000000 := by have := HZ.out.2.2; simp; omega
        have hlkd : decide ((lo : Int) ≤ (k : Int)) = true := by simp; omega
        clear hx hk2 hmin
        go_wp2_with (at_builtin; refine wpList_append_step _ B rfl (.tmp 24) (.tmp 30) rfl v _ rfl (World.ownsRow.alloc HS.out.row _) ⟨wr.heap.size, 0, none⟩ (sym, (x : Int)) rfl (step_new _ _ _) hlen (by simp; omega) ?_; intro v5 w5 hr5 hg5; obtain ⟨ao5, n5, cap5, hv5⟩ := RowC.slice hr5; subst hv5; have HK5 : Hid (Kept (fun j => v.ownBlock = some j) wr w5) := hid (((Kept.refl _ wr).alloc _).grown hg5 (fun j e => .inl e)); have HOW : Hid (∀ j, j < B → ¬ v.ownBlock = some j) := hid (fun j hj e => by have := HS.out.row.ge e; omega); have HBN : Hid (Blk w5 pn #[.int .i64 (k : Nat)] 3) := hid (HS.out.bn.kept HK5.out (HOW.out pn hpn)); have HBO : Hid (Blk w5 po #[v] 25) := hid (HS.out.bo.kept HK5.out (HOW.out po hpo)); have HR5 : Hid (StRow B w5 (.slice ao5 n5 cap5) (ss ++ (em ++ [(sym, (x : Int))]))) := hid (by rw [← List.append_assoc]; exact hr5); have c3 : w5.cell? ⟨pn, 0, none⟩ = some (.int .i64 (k : Nat)) := HBN.out.cell 0; have c4 : w5.cell? ⟨po, 0, none⟩ = some v := HBO.out.cell 0; have f3 : w5.frozen? ⟨pn, 0, none⟩ = false := HBN.out.frozen 0; have f4 : w5.frozen? ⟨po, 0, none⟩ = false := HBO.out.frozen 0; clear hr5 hg5)
        go_roundg (gk - 1)
        case measure => omega
        case rel =>
          refine ⟨k2, em ++ [(sym, (x : Int))], .slice ao5 n5 cap5, by omega, by omega, HZ2, hid ⟨?_, ?_, ?_⟩, hid ?_⟩
          · exact (HBN.out.kept (Kept.setCell (Kept.refl (· = po) w5) ⟨po, 0, none⟩ _ (.inl rfl)) hne).set 0 _
          · exact (HBO.out.set 0 _).kept (Kept.setCell (Kept.refl (· = pn) _) ⟨pn, 0, none⟩ _ (.inl rfl)) (fun e => hne e.symm)
          · exact RowC.kept HR5.out (((Kept.refl (fun j => j = pn ∨ j = po) w5).setCell ⟨po, 0, none⟩ _ (.inl (.inr rfl))).setCell ⟨pn, 0, none⟩ _ (.inl (.inl rfl))) (fun j e h => by have := HR5.out.ge e; omega)
          · have h15 : Kept (ManyF pn po B) w1 w5 := Kept.trans HK.out HK5.out (fun _ _ h => h) (fun j _ e => .inr (.inr (HS.out.row.ge e)))
            exact (h15.setCell ⟨po, 0, none⟩ _ (.inl (.inr (.inl rfl)))).setCell ⟨pn, 0, none⟩ _ (.inl (.inl rfl))

      · have hmin : min k hi = hi := by omega
        obtain ⟨x, hx⟩ : ∃ x, x = hi - lo := ⟨_, rfl⟩
        have hxI : (hi : Int) - (lo : Int) = (x : Int) := by omega
        obtain ⟨k2, hk2⟩ : ∃ x, x = k - hi := ⟨_, rfl⟩
        have hk2I : (k : Int) - (hi : Int) = (k2 : Int) := by omega
        have hxw : IntKind.i64.wrap (x : Int) = (x : Int) := by rw [IntKind.wrap_i64]; omega
        have hk2w : IntKind.i64.wrap (k2 : Int) = (k2 : Int) := by rw [IntKind.wrap_i64]; omega
        have hk2k : k2 < k := by omega
        have HZ2 : Hid (manyL sym lo hi n = (em ++ [(sym, (x : Int))]) ++ manyL sym lo hi k2 ∧ manyR lo hi n = manyR lo hi k2 ∧ (em ++ [(sym, (x : Int))]).length + k2 ≤ n) := hid (by
          obtain ⟨h1, h2, h3⟩ := HZ.out
          refine ⟨?_, ?_, ?_⟩
          · rw [h1, manyL_more hll hlh hlk, hmin, ← hx, ← hk2]; simp
          · rw [h2, manyR_more hll hlh hlk, hmin, ← hk2]
          · simp; omega)
        have hlen : (ss ++ em).length + 1 ≤ 1000000000 := by have := HZ.out.2.2; simp; omega
        have hlkd : decide ((lo : Int) ≤ (k : Int)) = true := by simp; omega
        clear hx hk2 hmin
        go_wp2_with (at_builtin; refine wpList_append_step _ B rfl (.tmp 24) (.tmp 30) rfl v _ rfl (World.ownsRow.alloc HS.out.row _) ⟨wr.heap.size, 0, none⟩ (sym, (x : Int)) rfl (step_new _ _ _) hlen (by simp; omega) ?_; intro v5 w5 hr5 hg5; obtain ⟨ao5, n5, cap5, hv5⟩ := RowC.slice hr5; subst hv5; have HK5 : Hid (Kept (fun j => v.ownBlock = some j) wr w5) := hid (((Kept.refl _ wr).alloc _).grown hg5 (fun j e => .inl e)); have HOW : Hid (∀ j, j < B → ¬ v.ownBlock = some j) := hid (fun j hj e => by have := HS.out.row.ge e; omega); have HBN : Hid (Blk w5 pn #[.int .i64 (k : Nat)] 3) := hid (HS.out.bn.kept HK5.out (HOW.out pn hpn)); have HBO : Hid (Blk w5 po #[v] 25) := hid (HS.out.bo.kept HK5.out (HOW.out po hpo)); have HR5 : Hid (StRow B w5 (.slice ao5 n5 cap5) (ss ++ (em ++ [(sym, (x : Int))]))) := hid (by rw [← List.append_assoc]; exact hr5); have c3 : w5.cell? ⟨pn, 0, none⟩ = some (.int .i64 (k : Nat)) := HBN.out.cell 0; have c4 : w5.cell? ⟨po, 0, none⟩ = some v := HBO.out.cell 0; have f3 : w5.frozen? ⟨pn, 0, none⟩ = false := HBN.out.frozen 0; have f4 : w5.frozen? ⟨po, 0, none⟩ = false := HBO.out.frozen 0; clear hr5 hg5)
        go_roundg (gk - 1)
        case measure => omega
        case rel =>
          refine ⟨k2, em ++ [(sym, (x : Int))], .slice ao5 n5 cap5, by omega, by omega, HZ2, hid ⟨?_, ?_, ?_⟩, hid ?_⟩
          · exact (HBN.out.kept (Kept.setCell (Kept.refl (· = po) w5) ⟨po, 0, none⟩ _ (.inl rfl)) hne).set 0 _
          · exact (HBO.out.set 0 _).kept (Kept.setCell (Kept.refl (· = pn) _) ⟨pn, 0, none⟩ _ (.inl rfl)) (fun e => hne e.symm)
          · exact RowC.kept HR5.out (((Kept.refl (fun j => j = pn ∨ j = po) w5).setCell ⟨po, 0, none⟩ _ (.inl (.inr rfl))).setCell ⟨pn, 0, none⟩ _ (.inl (.inl rfl))) (fun j e h => by have := HR5.out.ge e; omega)
          · have h15 : Kept (ManyF pn po B) w1 w5 := Kept.trans HK.out HK5.out (fun _ _ h => h) (fun j _ e => .inr (.inr (HS.out.row.ge e)))
            exact (h15.setCell ⟨po, 0, none⟩ _ (.inl (.inr (.inl rfl)))).setCell ⟨pn, 0, none⟩ _ (.inl (.inl rfl))

    · have hlkd : decide ((lo : Int) ≤ (k : Int)) = false := by simp; omega
      have HE : Hid (manyR lo hi n = k ∧ manyL sym lo hi n = em) := hid ⟨by rw [HZ.out.2.1, manyR_end (by omega)], by rw [HZ.out.1, manyL_end (by omega), List.append_nil]⟩
      go_wp2_with fail
      go_end0
      exact ⟨⟨_, v, rfl, by rw [HE.out.1, HE.out.2]; exact HS.out⟩, HK.out⟩

theorem many18 (sym : Int) (h : sym = 18) : leastM sym = 11 ∧ leastM sym + 2 ^ widthM sym - 1 = 138 := by subst h; decide
theorem many17 (sym : Int) (h : sym = 17) : leastM sym = 3 ∧ leastM sym + 2 ^ widthM sym - 1 = 10 := by subst h; decide
theorem many16 (sym : Int) (h : sym = 16) : leastM sym = 3 ∧ leastM sym + 2 ^ widthM sym - 1 = 6 := by subst h; decide

set_option maxRecDepth 100000 in
set_option maxHeartbeats 2000000 in
theorem packRow_any (w : World) (x n : Nat) (hn : n ≤ 400) (hn1 : 1 ≤ n) :
    Calls Tryd.prog 36 #[.int .i64 (x : Nat), .int .i64 (n : Nat)] w fun e w' => ∃ v', e = .returned v' ∧ StRow w.heap.size w' v' (sayM x n) ∧ Same w w' := by
  obtain ⟨W, hW⟩ : ∃ W, W = (w.alloc (.cells #[.int .i64 (n : Nat)] 3)).alloc (.cells #[.slice none 0 0] 25) := ⟨_, rfl⟩
  have hWs : W.heap.size = w.heap.size + 2 := by rw [hW]; simp
  have HK : Hid (Same w W) := hid (by rw [hW]; exact ((Kept.refl _ w).alloc _).alloc _)
  have hst : MSt W w.heap.size (w.heap.size + 1) (w.heap.size + 2) n (.slice none 0 0) [] := by
    have hb2 := Blk.new (w.alloc (.cells #[.int .i64 (n : Nat)] 3)) #[.slice none 0 0] 25
    rw [World.size_alloc, ← hW] at hb2
    exact ⟨by rw [hW]; exact (Blk.new w _ _).kept ((Kept.refl (fun _ => False) _).alloc _) (fun h => h), hb2, RowC.nil⟩
  by_cases hx : x = 0
  · subst hx
    have H18 := many_any W w.heap.size (w.heap.size + 1) (w.heap.size + 2) n (.slice none 0 0) [] 18 11 138 (by decide) (by decide) hst (by omega) (by omega) (by omega) (by omega) (by simp; omega)
    have HSAY : Hid (sayM 0 n = manyL 18 11 138 n ++ (manyL 17 3 10 (manyR 11 138 n) ++ List.replicate (manyR 3 10 (manyR 11 138 n)) (0, 0))) := hid (by unfold sayM; rw [if_pos rfl, zerosM_many])
    clear hst
    go_enter Tryd.func36, Tryd.ntmps36
    go_wp2_with fail
    rw [← hW]
    refine H18.mono ?_
    rintro e W2 ⟨⟨v2, vo2, rfl, hs2⟩, hk2⟩
    have hm := many_le 18 11 138 n (by decide) (by decide)
    have H17 := many_any W2 w.heap.size (w.heap.size + 1) (w.heap.size + 2) (manyR 11 138 n) vo2 _ 17 3 10 (by decide) (by decide) hs2 (by omega) (by omega) (by omega) (by have := hk2.size; omega) (by simp; omega)
    have HK2 : Hid (Kept (ManyF w.heap.size (w.heap.size + 1) (w.heap.size + 2)) W W2) := hk2
    clear hs2 hk2 H18 hm
    go_wp2_with fail
    refine H17.mono ?_
    rintro e W3 ⟨⟨v3, vo3, rfl, hs3⟩, hk3⟩
    obtain ⟨ao, n0, cap, rfl⟩ := RowC.slice hs3.row
    obtain ⟨k, hk⟩ : ∃ k, k = manyR 3 10 (manyR 11 138 n) := ⟨_, rfl⟩
    obtain ⟨ss, hss⟩ : ∃ ss, ss = [] ++ manyL 18 11 138 n ++ manyL 17 3 10 (manyR 11 138 n) := ⟨_, rfl⟩
    rw [← hk, ← hss] at hs3
    have HS3 : Hid (MSt W3 w.heap.size (w.heap.size + 1) (w.heap.size + 2) k (.slice ao n0 cap) ss) := hs3
    have HK3 : Hid (Kept (ManyF w.heap.size (w.heap.size + 1) (w.heap.size + 2)) W W3) := hid (Kept.trans HK2.out hk3 (fun _ _ h => h) (fun _ _ h => h))
    have HSS : Hid (ss = manyL 18 11 138 n ++ manyL 17 3 10 (manyR 11 138 n)) := hid (by rw [hss]; simp)
    have HKK : Hid (k = manyR 3 10 (manyR 11 138 n)) := hk
    have HLE : Hid (ss.length + k ≤ 400) := hid (by
      have h1 := many_le 18 11 138 n (by decide) (by decide)
      have h2 := many_le 17 3 10 (manyR 11 138 n) (by decide) (by decide)
      rw [hss, hk]
      simp
      omega)
    clear hs3 hk3 hk hss H17 HK2
    have HEND : Hid (sayM 0 n = ss ++ List.replicate k (0, 0)) := hid (by rw [HSS.out, HSAY.out, ← HKK.out, List.append_assoc])
    have hk4 : k ≤ 401 := by have := HLE.out; omega
    have hss4 : ss.length + k ≤ 401 := by have := HLE.out; omega
    have HSZ : Hid (w.heap.size + 2 ≤ W3.heap.size) := hid (by have := HK3.out.size; omega)
    have cN : W3.cell? ⟨w.heap.size, 0, none⟩ = some (.int .i64 (k : Nat)) := HS3.out.bn.cell 0
    have cO : W3.cell? ⟨w.heap.size + 1, 0, none⟩ = some (.slice ao n0 cap) := HS3.out.bo.cell 0
    have HREP : Hid (∀ W4 : World, CellsAt W4 ⟨W3.heap.size, 0, none⟩ (stC (0, 0)) → Calls Tryd.prog 59 #[.slice (some ⟨W3.heap.size, 0, none⟩) 1 1, .int .i64 (k : Nat)] W4 fun e w' => ∃ g, e = .returned (.slice (some ⟨g, 0, none⟩) k k) ∧ StRow W4.heap.size w' (.slice (some ⟨g, 0, none⟩) k k) (List.replicate k (0, 0)) ∧ Same W4 w') := hid (fun W4 h => repeatS_any W4 _ (0, 0) k h (by omega))
    have HOW : Hid (∀ j, j < w.heap.size + 2 → ¬ (Value.slice ao n0 cap).ownBlock = some j) := hid (fun j hj e => by have := HS3.out.row.ge e; omega)
    go_wp2_with fail
    go_region_held3 (fun w' => w'.cell? ⟨w.heap.size, 0, none⟩ = some (.int .i64 (k : Nat)) ∧ w'.cell? ⟨w.heap.size + 1, 0, none⟩ = some (.slice ao n0 cap))
      (first
        | (go_split_ands; exact ⟨hk5.cell (by assumption) (by unfold Over; simp), hk5.cell (by assumption) (by unfold Over; simp)⟩)
        | (go_split_ands; exact ⟨hk4.cell (by assumption) (fun f => f), hk4.cell (by assumption) (fun f => f)⟩)
        | go_keep)
      (first
        | (go_at_call 59; refine (HREP.out _ ?_).mono ?_; exact step_new _ _ _; rintro e w4 ⟨g, rfl, hr4, hk4⟩)
        | (have hw4 : Same W3 w4 := Same.trans (((Kept.refl _ W3).drew).alloc _) hk4; refine step_append_c stC 2 stC_ok (w.heap.size + 2) 25 31 (.agg #[.int .i64 0, .int .i64 0]) 16 Tryd.underlying25 Tryd.infoSt rfl (by decide) (by rfl) (.tmp 23) (.tmp 28) (by rfl) (.slice ao n0 cap) ss (by rfl) (RowC.kept HS3.out.row hw4 (fun _ _ f => f)) ⟨g, 0, none⟩ k k (List.replicate k (0, 0)) (by rfl) (by simp) (by have h := hr4.raw.at (k * 2); rw [List.take_of_length_le (by rw [flat_length stC_ok, List.length_replicate]; exact Nat.le_refl _)] at h; exact h) (by simp; omega) (by have h := hw4.size; have := HSZ.out; omega) ?_; intro v5 w5 hr5 hg5; have hk5 : Kept (Over (w.heap.size + 2)) w4 w5 := (Kept.refl _ w4).grown hg5 (fun j e => .inl (HS3.out.row.ge e)); clear hg5))
    all_goals
      go_wp2_with fail
      go_ret
      refine ⟨v5, rfl, by rw [HEND.out]; exact RowC.base hr5 (by omega), ?_⟩
      have h1 : Same w W3 := Same.then HK.out HK3.out (fun j hj e => by unfold ManyF at e; omega)
      exact Same.then (Same.trans h1 (Same.trans (((Kept.refl _ W3).drew).alloc _) hk4)) hk5 (fun j hj e => by unfold Over at e; omega)
  · obtain ⟨m, hm⟩ : ∃ m, m = n - 1 := ⟨_, rfl⟩
    have hmI : (n : Int) - 1 = (m : Int) := by omega
    have hxd : ((x : Int) == 0) = false := by simp; omega
    have HSAY : Hid (sayM x n = ((x : Int), 0) :: (manyL 16 3 6 m ++ List.replicate (manyR 3 6 m) ((x : Int), 0))) := hid (by unfold sayM; rw [if_neg hx, ← hm, againM_many])
    have HC0 : Hid (CellsAt (W.alloc (.cells #[.int .i64 (x : Nat), .int .i64 0] 31)) ⟨w.heap.size + 2, 0, none⟩ ([((x : Int), 0)].flatMap stC)) := hid (by have h := step_new W x 0; rw [hWs] at h; exact h)
    have HST : Hid (MSt W w.heap.size (w.heap.size + 1) (w.heap.size + 2) n (.slice none 0 0) []) := hst
    have HW : Hid (W = (w.alloc (.cells #[.int .i64 (n : Nat)] 3)).alloc (.cells #[.slice none 0 0] 25)) := hW
    have hm4 : m ≤ 400 := by omega
    clear hst hm hx hW
    go_enter Tryd.func36, Tryd.ntmps36
    go_wp2_with (at_builtin; refine wpList_append_step _ (w.heap.size + 2) rfl (.tmp 14) (.tmp 17) rfl (.slice none 0 0) [] rfl RowC.nil ⟨w.heap.size + 2, 0, none⟩ ((x : Int), 0) rfl (by have h := HC0.out; rw [HW.out] at h; exact h) (by simp) (by simp) ?_; intro v5 w5 hr5 hg5; rw [← HW.out] at hg5; obtain ⟨ao5, n5, cap5, hv5⟩ := RowC.slice hr5; subst hv5; have HK5 : Hid (Same W w5) := hid (((Kept.refl _ W).alloc _).grown hg5 (fun j e => by cases e)); have HBN : Hid (Blk w5 w.heap.size #[.int .i64 (n : Nat)] 3) := hid (HST.out.bn.kept HK5.out (fun f => f)); have HBO : Hid (Blk w5 (w.heap.size + 1) #[.slice none 0 0] 25) := hid (HST.out.bo.kept HK5.out (fun f => f)); have HR5 : Hid (StRow (w.heap.size + 2) w5 (.slice ao5 n5 cap5) [((x : Int), 0)]) := hr5; have c3 : w5.cell? ⟨w.heap.size, 0, none⟩ = some (.int .i64 (n : Nat)) := HBN.out.cell 0; have c4 : w5.cell? ⟨w.heap.size + 1, 0, none⟩ = some (.slice none 0 0) := HBO.out.cell 0; have f3 : w5.frozen? ⟨w.heap.size, 0, none⟩ = false := HBN.out.frozen 0; have f4 : w5.frozen? ⟨w.heap.size + 1, 0, none⟩ = false := HBO.out.frozen 0; clear hr5 hg5)
    obtain ⟨W2, hW2⟩ : ∃ W2, W2 = (w5.setCell ⟨w.heap.size + 1, 0, none⟩ (.slice ao5 n5 cap5)).setCell ⟨w.heap.size, 0, none⟩ (.int .i64 (m : Nat)) := ⟨_, rfl⟩
    rw [← hW2]
    have hst2 : MSt W2 w.heap.size (w.heap.size + 1) (w.heap.size + 2) m (.slice ao5 n5 cap5) [((x : Int), 0)] := by
      rw [hW2]
      refine ⟨?_, ?_, ?_⟩
      · exact (HBN.out.kept (Kept.setCell (Kept.refl (· = w.heap.size + 1) w5) ⟨w.heap.size + 1, 0, none⟩ _ (.inl rfl)) (by omega)).set 0 _
      · exact (HBO.out.set 0 _).kept (Kept.setCell (Kept.refl (· = w.heap.size) _) ⟨w.heap.size, 0, none⟩ _ (.inl rfl)) (by omega)
      · exact RowC.kept HR5.out (((Kept.refl (fun j => j = w.heap.size ∨ j = w.heap.size + 1) w5).setCell ⟨w.heap.size + 1, 0, none⟩ _ (.inl (.inr rfl))).setCell ⟨w.heap.size, 0, none⟩ _ (.inl (.inl rfl))) (fun j e h => by have := HR5.out.ge e; omega)
    have hk2 : Kept (ManyF w.heap.size (w.heap.size + 1) (w.heap.size + 2)) W W2 := by
      rw [hW2]
      exact ((HK5.out.mono (fun _ _ f => f.elim)).setCell ⟨w.heap.size + 1, 0, none⟩ _ (.inl (.inr (.inl rfl)))).setCell ⟨w.heap.size, 0, none⟩ _ (.inl (.inl rfl))
    have H16 := many_any W2 w.heap.size (w.heap.size + 1) (w.heap.size + 2) m (.slice ao5 n5 cap5) [((x : Int), 0)] 16 3 6 (by decide) (by decide) hst2 (by omega) (by omega) (by omega) (by have := hk2.size; omega) (by simp; omega)
    have HK2 : Hid (Kept (ManyF w.heap.size (w.heap.size + 1) (w.heap.size + 2)) W W2) := hk2
    clear hst2 hk2 hW2 HBN HBO HR5 c3 c4 f3 f4 HK5
    refine H16.mono ?_
    rintro e W3 ⟨⟨v3, vo3, rfl, hs3⟩, hk3⟩
    obtain ⟨ao, n0, cap, rfl⟩ := RowC.slice hs3.row
    obtain ⟨k, hk⟩ : ∃ k, k = manyR 3 6 m := ⟨_, rfl⟩
    obtain ⟨ss, hss⟩ : ∃ ss, ss = [((x : Int), (0 : Int))] ++ manyL 16 3 6 m := ⟨_, rfl⟩
    rw [← hk, ← hss] at hs3
    have HS3 : Hid (MSt W3 w.heap.size (w.heap.size + 1) (w.heap.size + 2) k (.slice ao n0 cap) ss) := hs3
    have HK3 : Hid (Kept (ManyF w.heap.size (w.heap.size + 1) (w.heap.size + 2)) W W3) := hid (Kept.trans HK2.out hk3 (fun _ _ h => h) (fun _ _ h => h))
    have HSS : Hid (ss = [((x : Int), (0 : Int))] ++ manyL 16 3 6 m) := hss
    have HKK : Hid (k = manyR 3 6 m) := hk
    have HLE : Hid (ss.length + k ≤ 401) := hid (by
      have h1 := many_le 16 3 6 m (by decide) (by decide)
      rw [hss, hk]
      simp
      omega)
    clear hs3 hk3 hk hss H16 HK2
    have HEND : Hid (sayM x n = ss ++ List.replicate k ((x : Int), 0)) := hid (by rw [HSS.out, HSAY.out, HKK.out]; simp)
    have hk4 : k ≤ 401 := by have := HLE.out; omega
    have hss4 : ss.length + k ≤ 401 := by have := HLE.out; omega
    have HSZ : Hid (w.heap.size + 2 ≤ W3.heap.size) := hid (by have := HK3.out.size; omega)
    have cN : W3.cell? ⟨w.heap.size, 0, none⟩ = some (.int .i64 (k : Nat)) := HS3.out.bn.cell 0
    have cO : W3.cell? ⟨w.heap.size + 1, 0, none⟩ = some (.slice ao n0 cap) := HS3.out.bo.cell 0
    have HREP : Hid (∀ W4 : World, CellsAt W4 ⟨W3.heap.size, 0, none⟩ (stC ((x : Int), 0)) → Calls Tryd.prog 59 #[.slice (some ⟨W3.heap.size, 0, none⟩) 1 1, .int .i64 (k : Nat)] W4 fun e w' => ∃ g, e = .returned (.slice (some ⟨g, 0, none⟩) k k) ∧ StRow W4.heap.size w' (.slice (some ⟨g, 0, none⟩) k k) (List.replicate k ((x : Int), 0)) ∧ Same W4 w') := hid (fun W4 h => repeatS_any W4 _ ((x : Int), 0) k h (by omega))
    have HOW : Hid (∀ j, j < w.heap.size + 2 → ¬ (Value.slice ao n0 cap).ownBlock = some j) := hid (fun j hj e => by have := HS3.out.row.ge e; omega)
    go_wp2_with fail
    go_region_held3 (fun w' => w'.cell? ⟨w.heap.size, 0, none⟩ = some (.int .i64 (k : Nat)) ∧ w'.cell? ⟨w.heap.size + 1, 0, none⟩ = some (.slice ao n0 cap))
      (first
        | (go_split_ands; exact ⟨hk5.cell (by assumption) (by unfold Over; simp), hk5.cell (by assumption) (by unfold Over; simp)⟩)
        | (go_split_ands; exact ⟨hk4.cell (by assumption) (fun f => f), hk4.cell (by assumption) (fun f => f)⟩)
        | go_keep)
      (first
        | (go_at_call 59; refine (HREP.out _ ?_).mono ?_; exact step_new _ _ _; rintro e w4 ⟨g, rfl, hr4, hk4⟩)
        | (have hw4 : Same W3 w4 := Same.trans (((Kept.refl _ W3).drew).alloc _) hk4; refine step_append_c stC 2 stC_ok (w.heap.size + 2) 25 31 (.agg #[.int .i64 0, .int .i64 0]) 16 Tryd.underlying25 Tryd.infoSt rfl (by decide) (by rfl) (.tmp 23) (.tmp 28) (by rfl) (.slice ao n0 cap) ss (by rfl) (RowC.kept HS3.out.row hw4 (fun _ _ f => f)) ⟨g, 0, none⟩ k k (List.replicate k ((x : Int), 0)) (by rfl) (by simp) (by have h := hr4.raw.at (k * 2); rw [List.take_of_length_le (by rw [flat_length stC_ok, List.length_replicate]; exact Nat.le_refl _)] at h; exact h) (by simp; omega) (by have h := hw4.size; have := HSZ.out; omega) ?_; intro v5 w5 hr5 hg5; have hk5 : Kept (Over (w.heap.size + 2)) w4 w5 := (Kept.refl _ w4).grown hg5 (fun j e => .inl (HS3.out.row.ge e)); clear hg5))
    all_goals
      go_wp2_with fail
      go_ret
      refine ⟨v5, rfl, by rw [HEND.out]; exact RowC.base hr5 (by omega), ?_⟩
      have h1 : Same w W3 := Same.then HK.out HK3.out (fun j hj e => by unfold ManyF at e; omega)
      exact Same.then (Same.trans h1 (Same.trans (((Kept.refl _ W3).drew).alloc _) hk4)) hk5 (fun j hj e => by unfold Over at e; omega)

end Go.Proofs.YtofhlnpbflkdlaaDoor

/-
  The reference's Pack.
-/
namespace Go.Proofs.YtofhlnpbflkdlaaDoor
open Go.RowKit

theorem packM_next (ns : List Nat) (i n : Nat) (hi : i < ns.length) (hn : n = 1 + frontN ns[i] (ns.drop (i + 1))) : packM (ns.drop i) = sayM ns[i] n ++ packM (ns.drop (i + n)) := by
  rw [List.drop_eq_getElem_cons hi, packM_cons, List.drop_drop, hn]
  congr 3
  omega

set_option maxRecDepth 100000 in
set_option maxHeartbeats 4000000 in
theorem pack_good (w : World) (v : Value) (I : Nat → Prop) (zs : List Int) (ns : List Nat) (hs : SrcE intV w I v zs) (hl : zs.length ≤ 316) (hok : lensOk zs = true) (hns : ns = zs.map Int.toNat) :
    Calls Tryd.prog 12 #[v] w fun e w' => ∃ v', e = .returned (.tuple #[v', .int .i64 0]) ∧ StRow w.heap.size w' v' (packM ns) ∧ Same w w' := by
  have hb := (lensOk_iff zs).1 hok
  have eN : ns.map natV = zs.map intV := by
    rw [hns, List.map_map]
    refine List.map_congr_left (fun z hz => ?_)
    simp only [Function.comp, natV, intV]
    rw [Int.toNat_of_nonneg (hb z hz).1]
  obtain ⟨ao, cap, rfl, hx1, hx2⟩ := id hs
  clear hx1 hx2
  have HLN := lengths_any w _ I zs hs (by omega)
  rw [hok] at HLN
  have HS : Hid (SrcE natV w I (.slice ao zs.length cap) ns) := hid (hs.recode eN)
  have hnl : zs.length = ns.length := by rw [hns]; simp
  obtain ⟨L, hL⟩ : ∃ L, L = zs.length := ⟨_, rfl⟩
  rw [← hL] at HLN HS hl ⊢
  have HL : Hid (L = ns.length) := hid (by omega)
  have H15 : Hid (∀ x ∈ ns, x ≤ 15) := hid (by
    intro x hx
    rw [hns] at hx
    obtain ⟨z, hz, rfl⟩ := List.mem_map.1 hx
    have := hb z hz
    omega)
  have b1 : decide ((316 : Int) < (L : Int)) = false := by simp; omega
  clear hs hb hok hns eN hnl hL
  go_enter Tryd.func12, Tryd.ntmps12
  go_wp2_with fail
  refine HLN.mono ?_
  rintro e w1 ⟨rfl, hw1⟩
  subst hw1
  clear HLN
  go_wp2_with fail
  clear b1
  go_loopg [4, 5] L (fun q zo zi wr => ∃ (i : Nat) (ss : List (Int × Int)), L - i ≤ q ∧ i ≤ L ∧ zi = .int .i64 (i : Nat) ∧ Hid (packM ns = ss ++ packM (ns.drop i) ∧ ss.length ≤ i) ∧ Hid (StRow w1.heap.size wr zo ss) ∧ Hid (Same w1 wr))
  case atStart => exact ⟨0, [], by omega, by omega, rfl, hid ⟨by simp, by simp⟩, RowC.nil, Kept.refl _ _⟩
  case round =>
    obtain ⟨i, ss, hq, hi, rfl, HP, HO, HK⟩ := hrel
    obtain ⟨gk0, hgk⟩ : ∃ x, x = gk := ⟨_, rfl⟩
    rw [← hgk] at hq
    have HG : Hid (gk0 = gk) := hgk
    clear hgk
    by_cases hlt : i < L
    · have hin : i < ns.length := by have := HL.out; omega
      obtain ⟨b, o, cap', e, _, _, cx⟩ := (HS.out.same HK.out).get i hin
      simp only [Value.slice.injEq] at e
      obtain ⟨rfl, hxe, rfl⟩ := e
      clear hxe
      obtain ⟨x, hx⟩ : ∃ x, x = ns[i] := ⟨_, rfl⟩
      rw [← hx] at cx
      unfold natV at cx
      have hx15 : x ≤ 15 := by rw [hx]; exact H15.out _ (List.getElem_mem _)
      have HX : Hid (x = ns[i]) := hx
      have HCX : Hid (wr.cell? ⟨b, o + i, none⟩ = some (.int .i64 (x : Nat))) := cx
      obtain ⟨w2, hw2⟩ : ∃ w2, w2 = wr := ⟨_, rfl⟩
      subst hw2
      clear hx cx
      go_wp2_with fail
      go_loopg [6] L (fun q zn wr => ∃ (n : Nat), L - (i + n) ≤ q ∧ 1 ≤ n ∧ i + n ≤ L ∧ zn = .int .i64 (n : Nat) ∧ Hid (∀ j (_ : j < ns.length), i < j → j < i + n → ns[j] = x) ∧ Hid (Same w2 wr))
      case atStart => exact ⟨1, by omega, by omega, by omega, rfl, hid (fun j _ h1 h2 => by omega), Kept.refl _ _⟩
      case round =>
        obtain ⟨n, hq2, hn1, hnL, rfl, HF, HK2⟩ := hrel
        have cx : wr.cell? ⟨b, o + i, none⟩ = some (.int .i64 (x : Nat)) := HK2.out.cell HCX.out (fun h => h)
        obtain ⟨m, hm⟩ : ∃ m, m = i + n := ⟨_, rfl⟩
        have hmI : (i : Int) + (n : Int) = (m : Int) := by omega
        have hwm : IntKind.i64.wrap (m : Int) = (m : Int) := by rw [IntKind.wrap_i64]; omega
        have HM : Hid (m = i + n) := hm
        -- the front is found: the rest, whatever ended it
        have done : (∀ h : m < ns.length, ns[m] ≠ x) → n = 1 + frontN ns[i] (ns.drop (i + 1)) := by
          intro hne
          have h := frontN_is ns[i] (ns.drop (i + 1)) (n - 1) (fun j hj hjn => by
            rw [List.getElem_drop, ← HX.out]
            exact HF.out (i + 1 + j) (by simp at hj; omega) (by omega) (by omega)) (by simp; have := HL.out; omega) (fun h => by
            rw [List.getElem_drop, ← HX.out]
            have h2 := hne (by simp at h; have := HL.out; omega)
            have e : i + 1 + (n - 1) = m := by omega
            intro h3
            exact h2 (by rw [← h3]; congr 1; omega))
          omega
        clear hm
        by_cases hml : m < L
        · have hmn : m < ns.length := by have := HL.out; omega
          obtain ⟨b', o', cap2, e, _, _, cy⟩ := (HS.out.same (Same.trans HK.out HK2.out)).get m hmn
          simp only [Value.slice.injEq, Option.some.injEq, Addr.mk.injEq, and_true] at e
          obtain ⟨⟨rfl, rfl⟩, hxe, rfl⟩ := e
          clear hxe
          obtain ⟨y, hy⟩ : ∃ y, y = ns[m] := ⟨_, rfl⟩
          rw [← hy] at cy
          unfold natV at cy
          by_cases hyx : y = x
          · have hd : ((y : Int) == (x : Int)) = true := by simp [hyx]
            have HF2 : Hid (∀ j (_ : j < ns.length), i < j → j < i + (n + 1) → ns[j] = x) := hid (fun j hj h1 h2 => by
              by_cases e : j = m
              · subst e; rw [← hy]; exact hyx
              · exact HF.out j hj h1 (by have := HM.out; omega))
            have hm2 : i + (n + 1) ≤ L ∧ L - (i + (n + 1)) + 1 ≤ L - (i + n) := by clear done; have := HM.out; omega
            clear hy hyx done
            go_wp2_with fail
            go_quiet (fail)
            go_wp2_with fail
            go_roundg (gk - 1)
            case measure => omega
            case rel => exact ⟨n + 1, by omega, by omega, hm2.1, by go_num, HF2, hid (HK2.out.drewN _)⟩
          · have hd : ((y : Int) == (x : Int)) = false := by simp; omega
            have HN : Hid (n = 1 + frontN ns[i] (ns.drop (i + 1))) := hid (done (fun _ => by rw [← hy]; exact hyx))
            have HREST : Hid (packM ns = ss ++ (sayM x n ++ packM (ns.drop m))) := hid (by rw [HP.out.1, packM_next ns i n hin HN.out, ← HX.out, HM.out])
            clear hy hyx done HN HF
            go_wp2_with fail
            go_quiet (fail)
            by_cases hx0 : x = 0
            · have hxd : ((x : Int) == 0) = true := by simp; omega
              have HZ : Hid (sayM x n = [] ++ zerosM n ∧ ([] : List (Int × Int)).length + n ≤ n) := hid ⟨by unfold sayM; rw [if_pos hx0]; rfl, by simp⟩
              have HO3 : Hid (StRow w1.heap.size (wr.drewN nq) u4 (ss ++ [])) := hid (by simpa using RowC.kept HO.out (HK2.out.drewN nq) (fun _ _ f => f))
              have HK3 : Hid (Same w1 (wr.drewN nq)) := hid (Same.trans HK.out (HK2.out.drewN nq))
              have hn316 : n ≤ 316 := by omega
              clear hx0
              go_wp2_with fail
              clear hxd
              go_loopg [4, 6] n (fun q zo zn wx => ∃ (k : Nat) (em : List (Int × Int)), k ≤ q ∧ k ≤ n ∧ zn = .int .i64 (k : Nat) ∧ Hid (sayM x n = em ++ zerosM k ∧ em.length + k ≤ n) ∧ Hid (StRow w1.heap.size wx zo (ss ++ em)) ∧ Hid (Same w1 wx))
              case atStart => exact ⟨n, [], by omega, by omega, rfl, HZ, HO3, HK3⟩
              case round =>
                clear HZ HO3 HK3 HO HK2 cx
                obtain ⟨k, em, hqk, hkn, rfl, HZ, HO, HK3⟩ := hrel
                have hsz := HK3.out.size
                have hlen : (ss ++ em).length + 1 ≤ 1000 := by have h1 := HP.out.2; have h2 := HZ.out.2; simp; omega
                by_cases h11 : 11 ≤ k
                · have b11 : decide ((11 : Int) ≤ (k : Int)) = true := by simp; omega
                  by_cases h138 : 138 < k
                  · obtain ⟨k2, hk2⟩ : ∃ k2, k2 = k - 138 := ⟨_, rfl⟩
                    have hk2I : (k : Int) - 138 = (k2 : Int) := by omega
                    have b138 : decide ((138 : Int) < (k : Int)) = true := by simp; omega
                    have HZ2 : Hid (sayM x n = (em ++ [(18, 127)]) ++ zerosM k2 ∧ (em ++ [((18 : Int), (127 : Int))]).length + k2 ≤ n) := hid ⟨by rw [HZ.out.1, zerosM_big k h11, show min k 138 = 138 by omega, ← hk2]; simp, by have := HZ.out.2; simp; omega⟩
                    have hk2k : k2 < k := by omega
                    clear hk2
                    go_wp2_with (at_builtin; refine wpList_append_step _ w1.heap.size rfl (.tmp 56) (.tmp 60) rfl u4 _ rfl (World.ownsRow.alloc HO.out _) ⟨wr.heap.size, 0, none⟩ (18, 127) rfl (step_new _ _ _) (by omega) (by simp; omega) ?_; intro v5 w5 hr5 hg5)
                    have HO5 : Hid (StRow w1.heap.size w5 v5 (ss ++ (em ++ [(18, 127)]))) := hid (by rw [← List.append_assoc]; exact hr5)
                    have HK5 : Hid (Same w1 w5) := hid ((HK3.out.alloc _).grown hg5 (fun j e => .inr (HO.out.ge e)))
                    clear hr5 hg5
                    go_wp2_with fail
                    go_roundg (gk - 1)
                    case measure => omega
                    case rel => exact ⟨k2, _, by omega, by omega, rfl, HZ2, HO5, HK5⟩
                  · obtain ⟨e2, he2⟩ : ∃ e2, e2 = k - 11 := ⟨_, rfl⟩
                    have he2I : (k : Int) - 11 = (e2 : Int) := by omega
                    have b138 : decide ((138 : Int) < (k : Int)) = false := by simp; omega
                    have hkk : (k : Int) - (k : Int) = 0 := by omega
                    have HZ2 : Hid (sayM x n = (em ++ [(18, (e2 : Int))]) ++ zerosM 0 ∧ (em ++ [((18 : Int), (e2 : Int))]).length + 0 ≤ n) := hid ⟨by rw [HZ.out.1, zerosM_big k h11, show min k 138 = k by omega, ← he2, Nat.sub_self]; simp, by have := HZ.out.2; simp; omega⟩
                    have hk0 : 0 < k := by omega
                    clear he2
                    go_wp2_with (at_builtin; refine wpList_append_step _ w1.heap.size rfl (.tmp 56) (.tmp 60) rfl u4 _ rfl (World.ownsRow.alloc HO.out _) ⟨wr.heap.size, 0, none⟩ (18, (e2 : Int)) rfl (step_new _ _ _) (by omega) (by simp; omega) ?_; intro v5 w5 hr5 hg5)
                    have HO5 : Hid (StRow w1.heap.size w5 v5 (ss ++ (em ++ [(18, (e2 : Int))]))) := hid (by rw [← List.append_assoc]; exact hr5)
                    have HK5 : Hid (Same w1 w5) := hid ((HK3.out.alloc _).grown hg5 (fun j e => .inr (HO.out.ge e)))
                    clear hr5 hg5
                    go_wp2_with fail
                    go_roundg (gk - 1)
                    case measure => omega
                    case rel => exact ⟨0, _, by omega, by omega, rfl, HZ2, HO5, HK5⟩
                · have b11 : decide ((11 : Int) ≤ (k : Int)) = false := by simp; omega
                  by_cases h3 : 3 ≤ k
                  · obtain ⟨e2, he2⟩ : ∃ e2, e2 = k - 3 := ⟨_, rfl⟩
                    have he2I : (k : Int) - 3 = (e2 : Int) := by omega
                    have b3 : decide ((3 : Int) ≤ (k : Int)) = true := by simp; omega
                    have HZ2 : Hid (sayM x n = em ++ [(17, (e2 : Int))]) := hid (by rw [HZ.out.1, zerosM_mid k (by omega) h3, ← he2])
                    have hml2 : ss.length + n ≤ m := by have := HP.out.2; have := HM.out; omega
                    clear he2
                    go_wp2_with (at_builtin; refine wpList_append_step _ w1.heap.size rfl (.tmp 67) (.tmp 71) rfl u4 _ rfl (World.ownsRow.alloc HO.out _) ⟨wr.heap.size, 0, none⟩ (17, (e2 : Int)) rfl (step_new _ _ _) (by omega) (by simp; omega) ?_; intro v5 w5 hr5 hg5; have HO5 : Hid (StRow w1.heap.size w5 v5 (ss ++ (em ++ [(17, (e2 : Int))]))) := hid (by rw [← List.append_assoc]; exact hr5); have HK5 : Hid (Same w1 w5) := hid ((HK3.out.alloc _).grown hg5 (fun j e => .inr (HO.out.ge e))); clear hr5 hg5)
                    have HT : Calls Tryd.prog 38 #[v5, .int .i64 0, .int .i64 0] w5 fun e w' => ∃ v', e = .returned v' ∧ StRow w1.heap.size w' v' (ss ++ (em ++ [(17, (e2 : Int))]) ++ List.replicate 0 (0, 0)) ∧ Kept (Over w1.heap.size) w5 w' := times_any w5 w1.heap.size v5 _ 0 0 HO5.out HK5.out.size (by simp at hlen ⊢; omega)
                    refine HT.mono ?_
                    rintro e w6 ⟨v6, rfl, hr6, hk6⟩
                    have HO6 : Hid (StRow w1.heap.size w6 v6 (ss ++ sayM x n)) := hid (by rw [HZ2.out]; simpa using hr6)
                    have HK6 : Hid (Same w1 w6) := hid (Same.then HK5.out hk6 (fun j hj e => by unfold Over at e; omega))
                    clear hr6 hk6 HT
                    have HP6 : Hid (packM ns = (ss ++ sayM x n) ++ packM (ns.drop m) ∧ (ss ++ sayM x n).length ≤ m) := hid ⟨by rw [HREST.out, List.append_assoc], by have h1 := sayM_len x n hn1; simp; omega⟩
                    go_wp2_with fail
                    go_roundg (gk0 - 1)
                    case measure => have := HG.out; omega
                    case rel => exact ⟨m, _, by have := HM.out; omega, by have := HM.out; omega, rfl, HP6, HO6, HK6⟩
                  · have b3 : decide ((3 : Int) ≤ (k : Int)) = false := by simp; omega
                    have HZ2 : Hid (sayM x n = em ++ List.replicate k (0, 0)) := hid (by rw [HZ.out.1, zerosM_few k (by omega)])
                    have hml2 : ss.length + n ≤ m := by have := HP.out.2; have := HM.out; omega
                    have HT := times_any wr w1.heap.size u4 _ k 0 HO.out hsz (by simp at hlen ⊢; omega)
                    go_wp2_with fail
                    refine HT.mono ?_
                    rintro e w6 ⟨v6, rfl, hr6, hk6⟩
                    have HO6 : Hid (StRow w1.heap.size w6 v6 (ss ++ sayM x n)) := hid (by rw [HZ2.out, ← List.append_assoc]; exact hr6)
                    have HK6 : Hid (Same w1 w6) := hid (Same.then HK3.out hk6 (fun j hj e => by unfold Over at e; omega))
                    clear hr6 hk6 HT
                    have HP6 : Hid (packM ns = (ss ++ sayM x n) ++ packM (ns.drop m) ∧ (ss ++ sayM x n).length ≤ m) := hid ⟨by rw [HREST.out, List.append_assoc], by have h1 := sayM_len x n hn1; simp; omega⟩
                    go_wp2_with fail
                    go_roundg (gk0 - 1)
                    case measure => have := HG.out; omega
                    case rel => exact ⟨m, _, by have := HM.out; omega, by have := HM.out; omega, rfl, HP6, HO6, HK6⟩
            · have hxd : ((x : Int) == 0) = false := by simp; omega
              obtain ⟨n1, hn1e⟩ : ∃ n1, n1 = n - 1 := ⟨_, rfl⟩
              have hn1I : (n : Int) - 1 = (n1 : Int) := by omega
              have HSAY : Hid (sayM x n = ((x : Int), 0) :: againM x n1) := hid (by unfold sayM; rw [if_neg hx0, hn1e])
              have HN1 : Hid (n = n1 + 1) := hid (by omega)
              have HO3 : Hid (StRow w1.heap.size (wr.drewN nq) u4 ss) := hid (RowC.kept HO.out (HK2.out.drewN nq) (fun _ _ f => f))
              have HK3 : Hid (Same w1 (wr.drewN nq)) := hid (Same.trans HK.out (HK2.out.drewN nq))
              have hlen0 : ss.length + 1 ≤ 1000 := by have h1 := HP.out.2; omega
              have hsz3 : w1.heap.size ≤ wr.heap.size := HK3.out.size
              have hml2 : ss.length + n ≤ m := by have := HP.out.2; have := HM.out; omega
              clear hx0 hn1e
              go_wp2_with (at_builtin; refine wpList_append_step _ w1.heap.size rfl (.tmp 76) (.tmp 79) rfl u4 _ rfl (World.ownsRow.alloc HO3.out _) ⟨wr.heap.size, 0, none⟩ ((x : Int), 0) rfl (step_new _ _ _) (by omega) (by simp; omega) ?_; intro v4 w4 hr4 hg4; have HO4 : Hid (StRow w1.heap.size w4 v4 (ss ++ ((x : Int), 0) :: [])) := hr4; have HK4 : Hid (Same w1 w4) := hid ((HK3.out.alloc _).grown hg4 (fun j e => .inr (HO3.out.ge e))); clear hr4 hg4)
              clear hxd
              go_loopg [4, 6] n1 (fun q zo zn wx => ∃ (k : Nat) (em : List (Int × Int)), k ≤ q ∧ k ≤ n1 ∧ zn = .int .i64 (k : Nat) ∧ Hid (againM x n1 = em ++ againM x k ∧ em.length + k ≤ n1) ∧ Hid (StRow w1.heap.size wx zo (ss ++ ((x : Int), 0) :: em)) ∧ Hid (Same w1 wx))
              case atStart => exact ⟨n1, [], by omega, by omega, rfl, hid ⟨rfl, by simp⟩, HO4, HK4⟩
              case round =>
                clear HO3 HK3 HO4 HK4 HO HK2 cx
                obtain ⟨k, em, hqk, hkn, rfl, HZ, HO, HK3⟩ := hrel
                have hsz := HK3.out.size
                have hlen : (ss ++ ((x : Int), (0 : Int)) :: em).length + 1 ≤ 1000 := by have h1 := HP.out.2; have h2 := HZ.out.2; have := HN1.out; simp; omega
                by_cases h3 : 3 ≤ k
                · have b3 : decide ((3 : Int) ≤ (k : Int)) = true := by simp; omega
                  by_cases h6 : 6 < k
                  · obtain ⟨k2, hk2⟩ : ∃ k2, k2 = k - 6 := ⟨_, rfl⟩
                    have hk2I : (k : Int) - 6 = (k2 : Int) := by omega
                    have b6 : decide ((6 : Int) < (k : Int)) = true := by simp; omega
                    have HZ2 : Hid (againM x n1 = (em ++ [(16, 3)]) ++ againM x k2 ∧ (em ++ [((16 : Int), (3 : Int))]).length + k2 ≤ n1) := hid ⟨by rw [HZ.out.1, againM_big x k h3, show min k 6 = 6 by omega, ← hk2]; simp, by have := HZ.out.2; simp; omega⟩
                    have hk2k : k2 < k := by omega
                    clear hk2
                    go_wp2_with (at_builtin; refine wpList_append_step _ w1.heap.size rfl (.tmp 87) (.tmp 91) rfl u4 _ rfl (World.ownsRow.alloc HO.out _) ⟨wr.heap.size, 0, none⟩ (16, 3) rfl (step_new _ _ _) (by omega) (by simp; omega) ?_; intro v5 w5 hr5 hg5)
                    have HO5 : Hid (StRow w1.heap.size w5 v5 (ss ++ ((x : Int), 0) :: (em ++ [(16, 3)]))) := hid (by rw [← List.cons_append, ← List.append_assoc]; exact hr5)
                    have HK5 : Hid (Same w1 w5) := hid ((HK3.out.alloc _).grown hg5 (fun j e => .inr (HO.out.ge e)))
                    clear hr5 hg5
                    go_wp2_with fail
                    go_roundg (gk - 1)
                    case measure => omega
                    case rel => exact ⟨k2, _, by omega, by omega, rfl, HZ2, HO5, HK5⟩
                  · obtain ⟨e2, he2⟩ : ∃ e2, e2 = k - 3 := ⟨_, rfl⟩
                    have he2I : (k : Int) - 3 = (e2 : Int) := by omega
                    have b6 : decide ((6 : Int) < (k : Int)) = false := by simp; omega
                    have hkk : (k : Int) - (k : Int) = 0 := by omega
                    have HZ2 : Hid (againM x n1 = (em ++ [(16, (e2 : Int))]) ++ againM x 0 ∧ (em ++ [((16 : Int), (e2 : Int))]).length + 0 ≤ n1) := hid ⟨by rw [HZ.out.1, againM_big x k h3, show min k 6 = k by omega, ← he2, Nat.sub_self]; simp, by have := HZ.out.2; simp; omega⟩
                    have hk0 : 0 < k := by omega
                    clear he2
                    go_wp2_with (at_builtin; refine wpList_append_step _ w1.heap.size rfl (.tmp 87) (.tmp 91) rfl u4 _ rfl (World.ownsRow.alloc HO.out _) ⟨wr.heap.size, 0, none⟩ (16, (e2 : Int)) rfl (step_new _ _ _) (by omega) (by simp; omega) ?_; intro v5 w5 hr5 hg5)
                    have HO5 : Hid (StRow w1.heap.size w5 v5 (ss ++ ((x : Int), 0) :: (em ++ [(16, (e2 : Int))]))) := hid (by rw [← List.cons_append, ← List.append_assoc]; exact hr5)
                    have HK5 : Hid (Same w1 w5) := hid ((HK3.out.alloc _).grown hg5 (fun j e => .inr (HO.out.ge e)))
                    clear hr5 hg5
                    go_wp2_with fail
                    go_roundg (gk - 1)
                    case measure => omega
                    case rel => exact ⟨0, _, by omega, by omega, rfl, HZ2, HO5, HK5⟩
                · have b3 : decide ((3 : Int) ≤ (k : Int)) = false := by simp; omega
                  have HZ2 : Hid (sayM x n = ((x : Int), 0) :: (em ++ List.replicate k ((x : Int), 0))) := hid (by rw [HSAY.out, HZ.out.1, againM_few x k (by omega)])
                  have HT := times_any wr w1.heap.size u4 _ k (x : Int) HO.out hsz (by simp at hlen ⊢; omega)
                  go_wp2_with fail
                  refine HT.mono ?_
                  rintro e w6 ⟨v6, rfl, hr6, hk6⟩
                  have HO6 : Hid (StRow w1.heap.size w6 v6 (ss ++ sayM x n)) := hid (by rw [HZ2.out, ← List.cons_append, ← List.append_assoc]; exact hr6)
                  have HK6 : Hid (Same w1 w6) := hid (Same.then HK3.out hk6 (fun j hj e => by unfold Over at e; omega))
                  clear hr6 hk6 HT
                  have HP6 : Hid (packM ns = (ss ++ sayM x n) ++ packM (ns.drop m) ∧ (ss ++ sayM x n).length ≤ m) := hid ⟨by rw [HREST.out, List.append_assoc], by have h1 := sayM_len x n hn1; simp; omega⟩
                  go_wp2_with fail
                  go_roundg (gk0 - 1)
                  case measure => have := HG.out; omega
                  case rel => exact ⟨m, _, by have := HM.out; omega, by have := HM.out; omega, rfl, HP6, HO6, HK6⟩
        · have hmd : decide (m < L) = false := by simp; omega
          have HN : Hid (n = 1 + frontN ns[i] (ns.drop (i + 1))) := hid (done (fun h => by exfalso; have := HL.out; omega))
          have HREST : Hid (packM ns = ss ++ (sayM x n ++ packM (ns.drop m))) := hid (by rw [HP.out.1, packM_next ns i n hin HN.out, ← HX.out, HM.out])
          clear done HN HF hml
          go_wp2_with fail
          go_quiet (fail)
          by_cases hx0 : x = 0
          · have hxd : ((x : Int) == 0) = true := by simp; omega
            have HZ : Hid (sayM x n = [] ++ zerosM n ∧ ([] : List (Int × Int)).length + n ≤ n) := hid ⟨by unfold sayM; rw [if_pos hx0]; rfl, by simp⟩
            have HO3 : Hid (StRow w1.heap.size (wr.drewN nq) u4 (ss ++ [])) := hid (by simpa using RowC.kept HO.out (HK2.out.drewN nq) (fun _ _ f => f))
            have HK3 : Hid (Same w1 (wr.drewN nq)) := hid (Same.trans HK.out (HK2.out.drewN nq))
            have hn316 : n ≤ 316 := by omega
            clear hx0
            go_wp2_with fail
            clear hxd
            go_loopg [4, 6] n (fun q zo zn wx => ∃ (k : Nat) (em : List (Int × Int)), k ≤ q ∧ k ≤ n ∧ zn = .int .i64 (k : Nat) ∧ Hid (sayM x n = em ++ zerosM k ∧ em.length + k ≤ n) ∧ Hid (StRow w1.heap.size wx zo (ss ++ em)) ∧ Hid (Same w1 wx))
            case atStart => exact ⟨n, [], by omega, by omega, rfl, HZ, HO3, HK3⟩
            case round =>
              clear HZ HO3 HK3 HO HK2 cx
              obtain ⟨k, em, hqk, hkn, rfl, HZ, HO, HK3⟩ := hrel
              have hsz := HK3.out.size
              have hlen : (ss ++ em).length + 1 ≤ 1000 := by have h1 := HP.out.2; have h2 := HZ.out.2; simp; omega
              by_cases h11 : 11 ≤ k
              · have b11 : decide ((11 : Int) ≤ (k : Int)) = true := by simp; omega
                by_cases h138 : 138 < k
                · obtain ⟨k2, hk2⟩ : ∃ k2, k2 = k - 138 := ⟨_, rfl⟩
                  have hk2I : (k : Int) - 138 = (k2 : Int) := by omega
                  have b138 : decide ((138 : Int) < (k : Int)) = true := by simp; omega
                  have HZ2 : Hid (sayM x n = (em ++ [(18, 127)]) ++ zerosM k2 ∧ (em ++ [((18 : Int), (127 : Int))]).length + k2 ≤ n) := hid ⟨by rw [HZ.out.1, zerosM_big k h11, show min k 138 = 138 by omega, ← hk2]; simp, by have := HZ.out.2; simp; omega⟩
                  have hk2k : k2 < k := by omega
                  clear hk2
                  go_wp2_with (at_builtin; refine wpList_append_step _ w1.heap.size rfl (.tmp 56) (.tmp 60) rfl u4 _ rfl (World.ownsRow.alloc HO.out _) ⟨wr.heap.size, 0, none⟩ (18, 127) rfl (step_new _ _ _) (by omega) (by simp; omega) ?_; intro v5 w5 hr5 hg5)
                  have HO5 : Hid (StRow w1.heap.size w5 v5 (ss ++ (em ++ [(18, 127)]))) := hid (by rw [← List.append_assoc]; exact hr5)
                  have HK5 : Hid (Same w1 w5) := hid ((HK3.out.alloc _).grown hg5 (fun j e => .inr (HO.out.ge e)))
                  clear hr5 hg5
                  go_wp2_with fail
                  go_roundg (gk - 1)
                  case measure => omega
                  case rel => exact ⟨k2, _, by omega, by omega, rfl, HZ2, HO5, HK5⟩
                · obtain ⟨e2, he2⟩ : ∃ e2, e2 = k - 11 := ⟨_, rfl⟩
                  have he2I : (k : Int) - 11 = (e2 : Int) := by omega
                  have b138 : decide ((138 : Int) < (k : Int)) = false := by simp; omega
                  have hkk : (k : Int) - (k : Int) = 0 := by omega
                  have HZ2 : Hid (sayM x n = (em ++ [(18, (e2 : Int))]) ++ zerosM 0 ∧ (em ++ [((18 : Int), (e2 : Int))]).length + 0 ≤ n) := hid ⟨by rw [HZ.out.1, zerosM_big k h11, show min k 138 = k by omega, ← he2, Nat.sub_self]; simp, by have := HZ.out.2; simp; omega⟩
                  have hk0 : 0 < k := by omega
                  clear he2
                  go_wp2_with (at_builtin; refine wpList_append_step _ w1.heap.size rfl (.tmp 56) (.tmp 60) rfl u4 _ rfl (World.ownsRow.alloc HO.out _) ⟨wr.heap.size, 0, none⟩ (18, (e2 : Int)) rfl (step_new _ _ _) (by omega) (by simp; omega) ?_; intro v5 w5 hr5 hg5)
                  have HO5 : Hid (StRow w1.heap.size w5 v5 (ss ++ (em ++ [(18, (e2 : Int))]))) := hid (by rw [← List.append_assoc]; exact hr5)
                  have HK5 : Hid (Same w1 w5) := hid ((HK3.out.alloc _).grown hg5 (fun j e => .inr (HO.out.ge e)))
                  clear hr5 hg5
                  go_wp2_with fail
                  go_roundg (gk - 1)
                  case measure => omega
                  case rel => exact ⟨0, _, by omega, by omega, rfl, HZ2, HO5, HK5⟩
              · have b11 : decide ((11 : Int) ≤ (k : Int)) = false := by simp; omega
                by_cases h3 : 3 ≤ k
                · obtain ⟨e2, he2⟩ : ∃ e2, e2 = k - 3 := ⟨_, rfl⟩
                  have he2I : (k : Int) - 3 = (e2 : Int) := by omega
                  have b3 : decide ((3 : Int) ≤ (k : Int)) = true := by simp; omega
                  have HZ2 : Hid (sayM x n = em ++ [(17, (e2 : Int))]) := hid (by rw [HZ.out.1, zerosM_mid k (by omega) h3, ← he2])
                  have hml2 : ss.length + n ≤ m := by have := HP.out.2; have := HM.out; omega
                  clear he2
                  go_wp2_with (at_builtin; refine wpList_append_step _ w1.heap.size rfl (.tmp 67) (.tmp 71) rfl u4 _ rfl (World.ownsRow.alloc HO.out _) ⟨wr.heap.size, 0, none⟩ (17, (e2 : Int)) rfl (step_new _ _ _) (by omega) (by simp; omega) ?_; intro v5 w5 hr5 hg5; have HO5 : Hid (StRow w1.heap.size w5 v5 (ss ++ (em ++ [(17, (e2 : Int))]))) := hid (by rw [← List.append_assoc]; exact hr5); have HK5 : Hid (Same w1 w5) := hid ((HK3.out.alloc _).grown hg5 (fun j e => .inr (HO.out.ge e))); clear hr5 hg5)
                  have HT : Calls Tryd.prog 38 #[v5, .int .i64 0, .int .i64 0] w5 fun e w' => ∃ v', e = .returned v' ∧ StRow w1.heap.size w' v' (ss ++ (em ++ [(17, (e2 : Int))]) ++ List.replicate 0 (0, 0)) ∧ Kept (Over w1.heap.size) w5 w' := times_any w5 w1.heap.size v5 _ 0 0 HO5.out HK5.out.size (by simp at hlen ⊢; omega)
                  refine HT.mono ?_
                  rintro e w6 ⟨v6, rfl, hr6, hk6⟩
                  have HO6 : Hid (StRow w1.heap.size w6 v6 (ss ++ sayM x n)) := hid (by rw [HZ2.out]; simpa using hr6)
                  have HK6 : Hid (Same w1 w6) := hid (Same.then HK5.out hk6 (fun j hj e => by unfold Over at e; omega))
                  clear hr6 hk6 HT
                  have HP6 : Hid (packM ns = (ss ++ sayM x n) ++ packM (ns.drop m) ∧ (ss ++ sayM x n).length ≤ m) := hid ⟨by rw [HREST.out, List.append_assoc], by have h1 := sayM_len x n hn1; simp; omega⟩
                  go_wp2_with fail
                  go_roundg (gk0 - 1)
                  case measure => have := HG.out; omega
                  case rel => exact ⟨m, _, by have := HM.out; omega, by have := HM.out; omega, rfl, HP6, HO6, HK6⟩
                · have b3 : decide ((3 : Int) ≤ (k : Int)) = false := by simp; omega
                  have HZ2 : Hid (sayM x n = em ++ List.replicate k (0, 0)) := hid (by rw [HZ.out.1, zerosM_few k (by omega)])
                  have hml2 : ss.length + n ≤ m := by have := HP.out.2; have := HM.out; omega
                  have HT := times_any wr w1.heap.size u4 _ k 0 HO.out hsz (by simp at hlen ⊢; omega)
                  go_wp2_with fail
                  refine HT.mono ?_
                  rintro e w6 ⟨v6, rfl, hr6, hk6⟩
                  have HO6 : Hid (StRow w1.heap.size w6 v6 (ss ++ sayM x n)) := hid (by rw [HZ2.out, ← List.append_assoc]; exact hr6)
                  have HK6 : Hid (Same w1 w6) := hid (Same.then HK3.out hk6 (fun j hj e => by unfold Over at e; omega))
                  clear hr6 hk6 HT
                  have HP6 : Hid (packM ns = (ss ++ sayM x n) ++ packM (ns.drop m) ∧ (ss ++ sayM x n).length ≤ m) := hid ⟨by rw [HREST.out, List.append_assoc], by have h1 := sayM_len x n hn1; simp; omega⟩
                  go_wp2_with fail
                  go_roundg (gk0 - 1)
                  case measure => have := HG.out; omega
                  case rel => exact ⟨m, _, by have := HM.out; omega, by have := HM.out; omega, rfl, HP6, HO6, HK6⟩
          · have hxd : ((x : Int) == 0) = false := by simp; omega
            obtain ⟨n1, hn1e⟩ : ∃ n1, n1 = n - 1 := ⟨_, rfl⟩
            have hn1I : (n : Int) - 1 = (n1 : Int) := by omega
            have HSAY : Hid (sayM x n = ((x : Int), 0) :: againM x n1) := hid (by unfold sayM; rw [if_neg hx0, hn1e])
            have HN1 : Hid (n = n1 + 1) := hid (by omega)
            have HO3 : Hid (StRow w1.heap.size (wr.drewN nq) u4 ss) := hid (RowC.kept HO.out (HK2.out.drewN nq) (fun _ _ f => f))
            have HK3 : Hid (Same w1 (wr.drewN nq)) := hid (Same.trans HK.out (HK2.out.drewN nq))
            have hlen0 : ss.length + 1 ≤ 1000 := by have h1 := HP.out.2; omega
            have hsz3 : w1.heap.size ≤ wr.heap.size := HK3.out.size
            have hml2 : ss.length + n ≤ m := by have := HP.out.2; have := HM.out; omega
            clear hx0 hn1e
            go_wp2_with (at_builtin; refine wpList_append_step _ w1.heap.size rfl (.tmp 76) (.tmp 79) rfl u4 _ rfl (World.ownsRow.alloc HO3.out _) ⟨wr.heap.size, 0, none⟩ ((x : Int), 0) rfl (step_new _ _ _) (by omega) (by simp; omega) ?_; intro v4 w4 hr4 hg4; have HO4 : Hid (StRow w1.heap.size w4 v4 (ss ++ ((x : Int), 0) :: [])) := hr4; have HK4 : Hid (Same w1 w4) := hid ((HK3.out.alloc _).grown hg4 (fun j e => .inr (HO3.out.ge e))); clear hr4 hg4)
            clear hxd
            go_loopg [4, 6] n1 (fun q zo zn wx => ∃ (k : Nat) (em : List (Int × Int)), k ≤ q ∧ k ≤ n1 ∧ zn = .int .i64 (k : Nat) ∧ Hid (againM x n1 = em ++ againM x k ∧ em.length + k ≤ n1) ∧ Hid (StRow w1.heap.size wx zo (ss ++ ((x : Int), 0) :: em)) ∧ Hid (Same w1 wx))
            case atStart => exact ⟨n1, [], by omega, by omega, rfl, hid ⟨rfl, by simp⟩, HO4, HK4⟩
            case round =>
              clear HO3 HK3 HO4 HK4 HO HK2 cx
              obtain ⟨k, em, hqk, hkn, rfl, HZ, HO, HK3⟩ := hrel
              have hsz := HK3.out.size
              have hlen : (ss ++ ((x : Int), (0 : Int)) :: em).length + 1 ≤ 1000 := by have h1 := HP.out.2; have h2 := HZ.out.2; have := HN1.out; simp; omega
              by_cases h3 : 3 ≤ k
              · have b3 : decide ((3 : Int) ≤ (k : Int)) = true := by simp; omega
                by_cases h6 : 6 < k
                · obtain ⟨k2, hk2⟩ : ∃ k2, k2 = k - 6 := ⟨_, rfl⟩
                  have hk2I : (k : Int) - 6 = (k2 : Int) := by omega
                  have b6 : decide ((6 : Int) < (k : Int)) = true := by simp; omega
                  have HZ2 : Hid (againM x n1 = (em ++ [(16, 3)]) ++ againM x k2 ∧ (em ++ [((16 : Int), (3 : Int))]).length + k2 ≤ n1) := hid ⟨by rw [HZ.out.1, againM_big x k h3, show min k 6 = 6 by omega, ← hk2]; simp, by have := HZ.out.2; simp; omega⟩
                  have hk2k : k2 < k := by omega
                  clear hk2
                  go_wp2_with (at_builtin; refine wpList_append_step _ w1.heap.size rfl (.tmp 87) (.tmp 91) rfl u4 _ rfl (World.ownsRow.alloc HO.out _) ⟨wr.heap.size, 0, none⟩ (16, 3) rfl (step_new _ _ _) (by omega) (by simp; omega) ?_; intro v5 w5 hr5 hg5)
                  have HO5 : Hid (StRow w1.heap.size w5 v5 (ss ++ ((x : Int), 0) :: (em ++ [(16, 3)]))) := hid (by rw [← List.cons_append, ← List.append_assoc]; exact hr5)
                  have HK5 : Hid (Same w1 w5) := hid ((HK3.out.alloc _).grown hg5 (fun j e => .inr (HO.out.ge e)))
                  clear hr5 hg5
                  go_wp2_with fail
                  go_roundg (gk - 1)
                  case measure => omega
                  case rel => exact ⟨k2, _, by omega, by omega, rfl, HZ2, HO5, HK5⟩
                · obtain ⟨e2, he2⟩ : ∃ e2, e2 = k - 3 := ⟨_, rfl⟩
                  have he2I : (k : Int) - 3 = (e2 : Int) := by omega
                  have b6 : decide ((6 : Int) < (k : Int)) = false := by simp; omega
                  have hkk : (k : Int) - (k : Int) = 0 := by omega
                  have HZ2 : Hid (againM x n1 = (em ++ [(16, (e2 : Int))]) ++ againM x 0 ∧ (em ++ [((16 : Int), (e2 : Int))]).length + 0 ≤ n1) := hid ⟨by rw [HZ.out.1, againM_big x k h3, show min k 6 = k by omega, ← he2, Nat.sub_self]; simp, by have := HZ.out.2; simp; omega⟩
                  have hk0 : 0 < k := by omega
                  clear he2
                  go_wp2_with (at_builtin; refine wpList_append_step _ w1.heap.size rfl (.tmp 87) (.tmp 91) rfl u4 _ rfl (World.ownsRow.alloc HO.out _) ⟨wr.heap.size, 0, none⟩ (16, (e2 : Int)) rfl (step_new _ _ _) (by omega) (by simp; omega) ?_; intro v5 w5 hr5 hg5)
                  have HO5 : Hid (StRow w1.heap.size w5 v5 (ss ++ ((x : Int), 0) :: (em ++ [(16, (e2 : Int))]))) := hid (by rw [← List.cons_append, ← List.append_assoc]; exact hr5)
                  have HK5 : Hid (Same w1 w5) := hid ((HK3.out.alloc _).grown hg5 (fun j e => .inr (HO.out.ge e)))
                  clear hr5 hg5
                  go_wp2_with fail
                  go_roundg (gk - 1)
                  case measure => omega
                  case rel => exact ⟨0, _, by omega, by omega, rfl, HZ2, HO5, HK5⟩
              · have b3 : decide ((3 : Int) ≤ (k : Int)) = false := by simp; omega
                have HZ2 : Hid (sayM x n = ((x : Int), 0) :: (em ++ List.replicate k ((x : Int), 0))) := hid (by rw [HSAY.out, HZ.out.1, againM_few x k (by omega)])
                have HT := times_any wr w1.heap.size u4 _ k (x : Int) HO.out hsz (by simp at hlen ⊢; omega)
                go_wp2_with fail
                refine HT.mono ?_
                rintro e w6 ⟨v6, rfl, hr6, hk6⟩
                have HO6 : Hid (StRow w1.heap.size w6 v6 (ss ++ sayM x n)) := hid (by rw [HZ2.out, ← List.cons_append, ← List.append_assoc]; exact hr6)
                have HK6 : Hid (Same w1 w6) := hid (Same.then HK3.out hk6 (fun j hj e => by unfold Over at e; omega))
                clear hr6 hk6 HT
                have HP6 : Hid (packM ns = (ss ++ sayM x n) ++ packM (ns.drop m) ∧ (ss ++ sayM x n).length ≤ m) := hid ⟨by rw [HREST.out, List.append_assoc], by have h1 := sayM_len x n hn1; simp; omega⟩
                go_wp2_with fail
                go_roundg (gk0 - 1)
                case measure => have := HG.out; omega
                case rel => exact ⟨m, _, by have := HM.out; omega, by have := HM.out; omega, rfl, HP6, HO6, HK6⟩
    · have hid' : decide (i < L) = false := by simp; omega
      have HE : Hid (packM ns = ss) := hid (by rw [HP.out.1, List.drop_eq_nil_of_le (by have := HL.out; omega)]; simp [packM])
      clear hlt
      go_wp2_with fail
      go_ret2
      exact ⟨_, rfl, by rw [HE.out]; exact HO.out, HK.out⟩

end Go.Proofs.YtofhlnpbflkdlaaDoor

/-
  The reference's Pack, whatever the list; May.
-/
namespace Go.Proofs.YtofhlnpbflkdlaaDoor
open Go.RowKit

set_option maxHeartbeats 1000000 in
theorem pack_bad (w : World) (v : Value) (I : Nat → Prop) (zs : List Int) (hs : SrcE intV w I v zs) (hn : zs.length ≤ 10000000) (hb : 316 < zs.length ∨ lensOk zs = false) :
    Calls Tryd.prog 12 #[v] w fun e w' => e = .returned (.tuple #[.slice none 0 0, .int .i64 1]) ∧ Same w w' := by
  obtain ⟨ao, cap, rfl, hx1, hx2⟩ := id hs
  clear hx1 hx2
  have HLN := lengths_any w _ I zs hs hn
  clear hs
  by_cases hl : 316 < zs.length
  · have b1 : decide ((316 : Int) < (zs.length : Int)) = true := by simp; omega
    clear hb hl
    go_enter Tryd.func12, Tryd.ntmps12
    go_wp2_with fail
    go_ret2
    exact ⟨rfl, Kept.refl _ _⟩
  · have b1 : decide ((316 : Int) < (zs.length : Int)) = false := by simp; omega
    have hok : lensOk zs = false := by rcases hb with h | h; omega; exact h
    rw [hok] at HLN
    clear hb hl hok
    go_enter Tryd.func12, Tryd.ntmps12
    go_wp2_with fail
    refine HLN.mono ?_
    rintro e w1 ⟨rfl, hw1⟩
    subst hw1
    clear HLN
    go_wp2_with fail
    go_ret2
    exact ⟨rfl, Kept.refl _ _⟩

/-- An answer of Pack: an error, or a new row of steps. -/
def PackA (w w' : World) (e : Ending) : Except Nat (List (Int × Int)) → Prop
  | .error c => e = .returned (.tuple #[.slice none 0 0, .int .i64 (c : Nat)]) ∧ Same w w'
  | .ok ss => ∃ v', e = .returned (.tuple #[v', .int .i64 0]) ∧ StRow w.heap.size w' v' ss ∧ Same w w'

theorem packA_good {zs : List Int} (h1 : zs.length ≤ 316) (h2 : lensOk zs = true) : packA zs = .ok (packM (zs.map Int.toNat)) := by
  unfold packA
  rw [if_pos ⟨h1, (lensOk_iff zs).1 h2⟩]

theorem packA_bad {zs : List Int} (h : 316 < zs.length ∨ lensOk zs = false) : packA zs = .error 1 := by
  unfold packA
  rw [if_neg]
  rintro ⟨h1, h2⟩
  rcases h with h | h
  · omega
  · rw [(lensOk_iff zs).2 h2] at h; cases h

theorem pack_any (w : World) (v : Value) (I : Nat → Prop) (zs : List Int) (hs : SrcE intV w I v zs) (hn : zs.length ≤ 10000000) :
    Calls Tryd.prog 12 #[v] w fun e w' => PackA w w' e (packA zs) := by
  by_cases hb : 316 < zs.length ∨ lensOk zs = false
  · rw [packA_bad hb]
    exact pack_bad w v I zs hs hn hb
  · have h2 : lensOk zs = true := by
      cases h : lensOk zs with
      | true => rfl
      | false => exact absurd (.inr h) hb
    have h1 : zs.length ≤ 316 := Nat.le_of_not_lt (fun h => hb (.inl h))
    rw [packA_good h1 h2]
    exact pack_good w v I zs _ hs h1 h2 rfl

/-- May lists be written? -/
def mayM (a b : List Int) : Bool := decide (257 ≤ a.length) && decide (a.length ≤ 286) && decide (1 ≤ b.length) && decide (b.length ≤ 30) && lensOk a && lensOk b

set_option maxHeartbeats 1000000 in
theorem may_any (w : World) (va vb : Value) (I J : Nat → Prop) (xs ys : List Int) (ha : SrcE intV w I va xs) (hb : SrcE intV w J vb ys) (hx : xs.length ≤ 10000000) (hy : ys.length ≤ 10000000) :
    Calls Tryd.prog 21 #[va, vb] w fun e w' => e = .returned (.bool (mayM xs ys)) ∧ w' = w := by
  obtain ⟨ao, ca, rfl, hxa, hsa⟩ := id ha
  obtain ⟨bo, cb, rfl, hxb, hsb⟩ := id hb
  clear hxa hxb hsa hsb
  have HA := lengths_any w _ I xs ha hx
  have HB := lengths_any w _ J ys hb hy
  clear ha hb
  obtain ⟨m, hm⟩ : ∃ m, m = xs.length := ⟨_, rfl⟩
  obtain ⟨n, hn⟩ : ∃ n, n = ys.length := ⟨_, rfl⟩
  have HM : Hid (mayM xs ys = (decide (257 ≤ m) && decide (m ≤ 286) && decide (1 ≤ n) && decide (n ≤ 30) && lensOk xs && lensOk ys)) := hid (by rw [hm, hn]; rfl)
  rw [← hm] at HA hx ⊢
  rw [← hn] at HB hy ⊢
  clear hm hn
  generalize lensOk xs = p at *
  generalize lensOk ys = q at *
  go_enter Tryd.func21, Tryd.ntmps21
  by_cases h1 : 257 ≤ m
  · have d1 : decide ((257 : Int) ≤ (m : Int)) = true := by simp; omega
    by_cases h2 : m ≤ 286
    · have d2 : decide ((m : Int) ≤ 286) = true := by simp; omega
      by_cases h3 : 1 ≤ n
      · have d3 : decide ((1 : Int) ≤ (n : Int)) = true := by simp; omega
        by_cases h4 : n ≤ 30
        · have d4 : decide ((n : Int) ≤ 30) = true := by simp; omega
          have HE : Hid (mayM xs ys = (p && q)) := hid (by rw [HM.out]; simp [h1, h2, h3, h4])
          clear h1 h2 h3 h4
          go_wp2_with fail
          refine HA.mono ?_
          rintro e w1 ⟨rfl, hw1⟩
          subst hw1
          clear HA
          cases p with
          | false =>
            go_wp2_with fail
            go_ret
            exact ⟨by rw [HE.out]; rfl, rfl⟩
          | true =>
            go_wp2_with fail
            refine HB.mono ?_
            rintro e w2 ⟨rfl, hw2⟩
            subst hw2
            clear HB
            go_wp2_with fail
            go_ret
            exact ⟨by rw [HE.out]; rfl, rfl⟩
        · have d4 : decide ((n : Int) ≤ 30) = false := by simp; omega
          have HE : Hid (mayM xs ys = false) := hid (by rw [HM.out]; simp [h4])
          go_wp2_with fail
          go_ret
          exact ⟨by rw [HE.out]; rfl, rfl⟩
      · have d3 : decide ((1 : Int) ≤ (n : Int)) = false := by simp; omega
        have HE : Hid (mayM xs ys = false) := hid (by rw [HM.out]; simp [h3])
        go_wp2_with fail
        go_ret
        exact ⟨by rw [HE.out]; rfl, rfl⟩
    · have d2 : decide ((m : Int) ≤ 286) = false := by simp; omega
      have HE : Hid (mayM xs ys = false) := hid (by rw [HM.out]; simp [h2])
      go_wp2_with fail
      go_ret
      exact ⟨by rw [HE.out]; rfl, rfl⟩
  · have d1 : decide ((257 : Int) ≤ (m : Int)) = false := by simp; omega
    have HE : Hid (mayM xs ys = false) := hid (by rw [HM.out]; simp [h1])
    go_wp2_with fail
    go_ret
    exact ⟨by rw [HE.out]; rfl, rfl⟩

end Go.Proofs.YtofhlnpbflkdlaaDoor

/-
  The program's Pack.
-/
namespace Go.Proofs.YtofhlnpbflkdlaaDoor
open Go.RowKit

theorem sayM_ne (v n : Nat) (h : 1 ≤ n) : sayM v n ≠ [] := by
  unfold sayM
  split
  · by_cases h11 : 11 ≤ n
    · rw [zerosM_big n h11]; simp
    · by_cases h3 : 3 ≤ n
      · rw [zerosM_mid n (by omega) h3]; simp
      · rw [zerosM_few n (by omega)]
        cases n with
        | zero => omega
        | succ n => simp [List.replicate_succ]
  · simp

theorem SrcE.tail2 {w : World} {I : Nat → Prop} {b o cap : Nat} {l : List Nat} (h : SrcE natV w I (.slice (some ⟨b, o, none⟩) l.length cap) l) (k : Nat) (hk : k ≤ l.length) :
    SrcE natV w I (.slice (if cap = k then some ⟨b, o, none⟩ else some ⟨b, o + k, none⟩) (l.length - k) (cap - k)) (l.drop k) := by
  obtain ⟨ao, cap', e, hc, _⟩ := id h
  simp only [Value.slice.injEq] at e
  obtain ⟨_, _, rfl⟩ := e
  split
  · exact h.tail k o hk (fun h2 => by omega)
  · exact h.tail k (o + k) hk (fun _ => rfl)

theorem RowC.at {α : Type} {B t k : Nat} {enc : α → List Value} (ok : EncOk enc k) {w : World} {g n cap : Nat} {xs : List α} (h : RowC B t k enc w (.slice (some ⟨g, 0, none⟩) n cap) xs) : CellsAt w ⟨g, 0, none⟩ (xs.flatMap enc) := by
  have hl := h.len
  subst hl
  intro j u hu
  have hj : j < (xs.flatMap enc).length := (List.getElem?_eq_some_iff.1 hu).1
  rw [flat_length ok] at hj
  have e : (⟨g, 0, none⟩ : Addr).add j = ⟨g, j, none⟩ := by unfold Addr.add; split <;> simp_all
  rw [e, h.cellAt j hj, hu]

set_option maxRecDepth 100000 in
set_option maxHeartbeats 2000000 in
theorem lpack_good (w : World) (v : Value) (I : Nat → Prop) (zs : List Int) (ns : List Nat) (hs : SrcE intV w I v zs) (hl : zs.length ≤ 316) (hok : lensOk zs = true) (hns : ns = zs.map Int.toNat) :
    Calls Tryd.prog 11 #[v] w fun e w' => ∃ v', e = .returned (.tuple #[v', .int .i64 0]) ∧ StRow w.heap.size w' v' (packM ns) ∧ Same w w' := by
  have hb := (lensOk_iff zs).1 hok
  have eN : ns.map natV = zs.map intV := by
    rw [hns, List.map_map]
    refine List.map_congr_left (fun z hz => ?_)
    simp only [Function.comp, natV, intV]
    rw [Int.toNat_of_nonneg (hb z hz).1]
  obtain ⟨ao, cap, rfl, hx1, hx2⟩ := id hs
  clear hx1 hx2
  have HCT := lcontains_any w _ I zs hs (by omega)
  rw [hok] at HCT
  have HS : Hid (SrcE natV w I (.slice ao zs.length cap) ns) := hid (hs.recode eN)
  have hnl : zs.length = ns.length := by rw [hns]; simp
  obtain ⟨L, hL⟩ : ∃ L, L = zs.length := ⟨_, rfl⟩
  rw [← hL] at HCT HS hl ⊢
  have HL : Hid (L = ns.length) := hid (by omega)
  have b1 : decide ((316 : Int) < (L : Int)) = false := by simp; omega
  clear hs hb hok hns eN hnl hL
  go_enter Tryd.func11, Tryd.ntmps11
  go_wp2_with fail
  refine HCT.mono ?_
  rintro e w1 ⟨rfl, hw1⟩
  subst hw1
  clear HCT
  go_wp2_with fail
  clear b1
  go_loopg [0, 5, 6] L (fun q zl zo _ wr => ∃ (i d : Nat) (a2 : Option Addr) (c2 : Nat) (ss : List (Int × Int)), d ≤ q ∧ i + d = L ∧ zl = .slice a2 d c2 ∧ Hid (SrcE natV w1 I (.slice a2 d c2) (ns.drop i)) ∧ Hid (packM ns = ss ++ packM (ns.drop i) ∧ ss.length ≤ i) ∧ Hid (StRow w1.heap.size wr zo ss) ∧ Hid (Same w1 wr))
  case atStart => exact ⟨0, L, ao, cap, [], by omega, by omega, rfl, hid (by simpa using HS.out), hid ⟨by simp, by simp⟩, RowC.nil, Kept.refl _ _⟩
  case round =>
    clear HS
    obtain ⟨i, d, a2, c2, ss, hq, hi, rfl, HS, HP, HO, HK⟩ := hrel
    by_cases hlt : 0 < d
    · have hin : i < ns.length := by have := HL.out; omega
      have hdr : ns.drop i = ns[i] :: ns.drop (i + 1) := List.drop_eq_getElem_cons hin
      obtain ⟨y, hy⟩ : ∃ y, y = ns[i] := ⟨_, rfl⟩
      rw [← hy] at hdr
      obtain ⟨r, hr⟩ : ∃ r, r = ns.drop (i + 1) := ⟨_, rfl⟩
      rw [← hr] at hdr
      have hlen : (y :: r).length = d := by rw [← hdr, List.length_drop]; have := HL.out; omega
      have hS2 := HS.out
      rw [hdr] at hS2
      obtain ⟨b, o, cap', e, _, _, cx⟩ := hS2.get 0 (by simp)
      simp only [Value.slice.injEq] at e
      obtain ⟨rfl, hxe, rfl⟩ := e
      clear hxe
      have cx2 : wr.cell? ⟨b, o, none⟩ = some (.int .i64 (y : Nat)) := HK.out.cell cx (fun f => f)
      rw [← hlen] at hS2
      have HAL := alike_any wr b o c2 I y r (hS2.same HK.out) (by omega)
      have hf := frontN_le y r
      obtain ⟨n, hn⟩ : ∃ n, n = 1 + frontN y r := ⟨_, rfl⟩
      have hn1 : 1 ≤ n := by omega
      have hnl : n ≤ d := by simp at hlen; omega
      have HT2 : Hid (SrcE natV w1 I (.slice (if c2 = n then some ⟨b, o, none⟩ else some ⟨b, o + n, none⟩) (d - n) (c2 - n)) (ns.drop (i + n))) := hid (by
        have h := hS2.tail2 n (by omega)
        rw [hlen, ← hdr, List.drop_drop] at h
        exact h)
      have HP2 : Hid (packM ns = ss ++ (sayM y n ++ packM (ns.drop (i + n)))) := hid (by
        rw [HP.out.1]
        have h := packM_next ns i n hin (by rw [← hy, ← hr]; exact hn)
        rw [← hy] at h
        rw [h])
      have HSL : Hid ((sayM y n).length ≤ n ∧ sayM y n ≠ []) := hid ⟨sayM_len y n hn1, sayM_ne y n hn1⟩
      rw [← hn, hlen] at HAL
      clear hlen hdr hy hr hS2 cx hn hf
      go_wp2_with fail
      refine HAL.mono ?_
      rintro e w2 ⟨rfl, hk2⟩
      have HK2 : Hid (Same wr w2) := hk2
      have cx3 : w2.cell? ⟨b, o, none⟩ = some (.int .i64 (y : Nat)) := hk2.cell cx2 (fun f => f)
      have HPR := packRow_any w2 y n (by omega) hn1
      clear hk2 HAL cx2
      go_wp2_with fail
      refine HPR.mono ?_
      rintro e w3 ⟨v3, rfl, hr3, hk3⟩
      obtain ⟨ao3, cap3, hv3, hg3, _⟩ := hr3.shape
      obtain ⟨g3, rfl⟩ := hg3 HSL.out.2
      subst hv3
      obtain ⟨m3, hm3⟩ : ∃ m, m = (sayM y n).length := ⟨_, rfl⟩
      rw [← hm3] at hr3 ⊢
      have HR3 : Hid (StRow w2.heap.size w3 (.slice (some ⟨g3, 0, none⟩) m3 cap3) (sayM y n)) := hr3
      have HK3 : Hid (Same wr w3) := hid (Same.trans HK2.out hk3)
      have HC3 : Hid (CellsAt w3 ⟨g3, 0, none⟩ ((sayM y n).flatMap stC)) := hid (RowC.at stC_ok hr3)
      have HM3 : Hid ((sayM y n).length = m3) := hid hm3.symm
      have hlen4 : ss.length + (sayM y n).length ≤ 1000 := by have h1 := HP.out.2; have h2 := HSL.out.1; omega
      have hsz3 : w1.heap.size ≤ w3.heap.size := by have h1 := HK.out.size; have h2 := HK3.out.size; omega
      clear hr3 hk3 HPR hm3 hg3 cx3
      have hn0 : (0 : Int) ≤ (n : Int) := by omega
      go_wp2_with (at_builtin; refine wpList_append_c _ stC 2 stC_ok (by decide) w1.heap.size 25 31 (.agg #[.int .i64 0, .int .i64 0]) 16 Tryd.underlying25 Tryd.infoSt rfl (by decide) rfl (.tmp 20) (.tmp 25) rfl u5 ss rfl (RowC.kept HO.out HK3.out (fun _ _ f => f)) ⟨g3, 0, none⟩ m3 cap3 (sayM y n) rfl HM3.out HC3.out (by omega) hsz3 ?_; intro v5 w5 hr5 hg5; have HR5 : Hid (StRow w1.heap.size w5 v5 (ss ++ sayM y n)) := hr5; have HK5 : Hid (Same w1 w5) := hid ((Same.trans HK.out HK3.out).grown hg5 (fun j e => .inr (HO.out.ge e))); clear hr5 hg5)
      all_goals
        go_roundg (gk - 1)
        case measure => omega
        case rel => exact ⟨i + n, d - n, _, _, ss ++ sayM y n, by omega, by omega, rfl, hid (by first | simpa using HT2.out | simpa [*] using HT2.out), hid ⟨by rw [HP2.out, List.append_assoc], by have h1 := HP.out.2; have h2 := HSL.out.1; simp; omega⟩, HR5, HK5⟩
    · have hdd : d = 0 := by omega
      have HE : Hid (packM ns = ss) := hid (by rw [HP.out.1, List.drop_eq_nil_of_le (by have := HL.out; omega)]; simp [packM])
      subst hdd
      clear hlt
      go_wp2_with fail
      go_ret2
      exact ⟨_, rfl, by rw [HE.out]; exact HO.out, HK.out⟩

set_option maxHeartbeats 1000000 in
theorem lpack_bad (w : World) (v : Value) (I : Nat → Prop) (zs : List Int) (hs : SrcE intV w I v zs) (hn : zs.length ≤ 10000000) (hb : 316 < zs.length ∨ lensOk zs = false) :
    Calls Tryd.prog 11 #[v] w fun e w' => e = .returned (.tuple #[.slice none 0 0, .int .i64 1]) ∧ Same w w' := by
  obtain ⟨ao, cap, rfl, hx1, hx2⟩ := id hs
  clear hx1 hx2
  have HCT := lcontains_any w _ I zs hs hn
  clear hs
  by_cases hl : 316 < zs.length
  · have b1 : decide ((316 : Int) < (zs.length : Int)) = true := by simp; omega
    clear hb hl
    go_enter Tryd.func11, Tryd.ntmps11
    go_wp2_with fail
    go_ret2
    exact ⟨rfl, Kept.refl _ _⟩
  · have b1 : decide ((316 : Int) < (zs.length : Int)) = false := by simp; omega
    have hok : lensOk zs = false := by rcases hb with h | h; omega; exact h
    rw [hok] at HCT
    clear hb hl hok
    go_enter Tryd.func11, Tryd.ntmps11
    go_wp2_with fail
    refine HCT.mono ?_
    rintro e w1 ⟨rfl, hw1⟩
    subst hw1
    clear HCT
    go_wp2_with fail
    go_ret2
    exact ⟨rfl, Kept.refl _ _⟩

theorem lpack_any (w : World) (v : Value) (I : Nat → Prop) (zs : List Int) (hs : SrcE intV w I v zs) (hn : zs.length ≤ 10000000) :
    Calls Tryd.prog 11 #[v] w fun e w' => PackA w w' e (packA zs) := by
  by_cases hb : 316 < zs.length ∨ lensOk zs = false
  · rw [packA_bad hb]
    exact lpack_bad w v I zs hs hn hb
  · have h2 : lensOk zs = true := by
      cases h : lensOk zs with
      | true => rfl
      | false => exact absurd (.inr h) hb
    have h1 : zs.length ≤ 316 := Nat.le_of_not_lt (fun h => hb (.inl h))
    rw [packA_good h1 h2]
    exact lpack_good w v I zs _ hs h1 h2 rfl

end Go.Proofs.YtofhlnpbflkdlaaDoor

/-
  slices.Concat of two lists; Write's first steps.
-/
namespace Go.Proofs.YtofhlnpbflkdlaaDoor
open Go.RowKit

set_option maxRecDepth 100000 in
set_option maxHeartbeats 2000000 in
theorem lgrow_any (w : World) (n : Nat) (h1 : 1 ≤ n) (hn : n ≤ 1000000) :
    Calls Tryd.prog 61 #[.slice none 0 0, .int .i64 (n : Nat)] w fun e w' => (∃ G, e = .returned (.slice (some ⟨w.heap.size, 0, none⟩) 0 G) ∧ NRow w.heap.size w' (.slice (some ⟨w.heap.size, 0, none⟩) 0 G) []) ∧ Same w w' := by
  obtain ⟨i0, hi, hz0, hz1, hz2⟩ := info_parts Tryd.infoN
  have hbig : (0 + n) * i0.bytes ≤ 140737488355328 := by rw [hz2]; omega
  have hold : (Builtin.firstCells i0.size 0 (.slice none 0 0)).run Tryd.prog w.drew = .ok ([] : List Value).toArray w.drew := run_firstCells_none w.drew i0.size 0 0 0
  have hrz : ∀ ty, (Builtin.append_ #[22, 3] ty #[.slice none 0 0, .int .i64 (n : Nat)]).run Tryd.prog w =
      .ok (.slice (some ⟨w.heap.size, 0, none⟩) (0 + n) (grownCap w (0 + n) 0 3)) (w.drew.alloc (.cells (([] : List Value).toArray ++ Builtin.zeroCells (natV 0).cells n ++ Builtin.zeroCells (natV 0).cells (grownCap w (0 + n) 0 3 - (0 + n))) 3)) := fun ty =>
    Lib.run_append_grow_zeros w 22 3 ty 3 i0 _ .i64 .i64 Tryd.underlying22 Tryd.underlying3 hi hz0 none 0 0 [] hold n (by omega) (by omega) (by omega) (by omega) (by rw [hz2]; omega) (growslice_fits (by omega) hbig)
  have hGn : 0 + n ≤ grownCap w (0 + n) 0 3 := grownCap_ge w _ _ _
  have hGm : grownCap w (0 + n) 0 3 ≤ maxLen := grownCap_le_maxLen w _ _ _ (by unfold maxLen; omega)
  obtain ⟨G, hG⟩ : ∃ G, G = grownCap w (0 + n) 0 3 := ⟨_, rfl⟩
  rw [← hG] at hrz hGn hGm
  rw [Nat.zero_add] at hrz hGn
  obtain ⟨cur, hcur⟩ : ∃ cur, cur = ([] : List Value).toArray ++ Builtin.zeroCells (natV 0).cells n ++ Builtin.zeroCells (natV 0).cells (G - n) := ⟨_, rfl⟩
  have hcs : cur.size = G := by
    rw [hcur]
    have e : (natV 0).cells.size = 1 := rfl
    simp [Builtin.zeroCells, e]
    omega
  rw [← hcur] at hrz
  have HROW : Hid (NRow w.heap.size (w.drew.alloc (.cells cur 3)) (.slice (some ⟨w.heap.size, 0, none⟩) 0 G) []) := hid ⟨rfl, .inr ⟨w.heap.size, G, cur, rfl, Nat.le_refl _, Blk.new w.drew cur 3, Nat.zero_le _, hGm, by rw [hcs, Nat.mul_one], by simp⟩⟩
  have HK : Hid (Same w (w.drew.alloc (.cells cur 3))) := hid (((Kept.refl _ w).drew).alloc _)
  clear hold hbig hi hz0 hz1 hz2 hG hcur hcs hGm
  go_enter Tryd.func61, Tryd.ntmps61
  go_wp2_with (at_builtin; refine Lib.wpList_append_run _ rfl _ _ _ _ rfl _ _ rfl rfl _ _ (hrz _) ?_)
  all_goals
    go_ret
    exact ⟨⟨G, rfl, HROW.out⟩, HK.out⟩

set_option maxRecDepth 100000 in
set_option maxHeartbeats 2000000 in
theorem lconcat_any (w : World) (h la cA lb cB : Nat) (adA adB : Addr) (I J : Nat → Prop) (xs ys : List Int) (hc1 : w.cell? ⟨h, 0, none⟩ = some (.slice (some adA) la cA)) (hc2 : w.cell? ⟨h, 1, none⟩ = some (.slice (some adB) lb cB))
    (hA : SrcE intV w I (.slice (some adA) la cA) xs) (hB : SrcE intV w J (.slice (some adB) lb cB) ys) (hla : 1 ≤ la) (hla2 : la ≤ 1000) (hlb : lb ≤ 1000) :
    Calls Tryd.prog 44 #[.slice (some ⟨h, 0, none⟩) 2 2] w fun e w' => ∃ v', e = .returned v' ∧ IRow w.heap.size w' v' (xs ++ ys) ∧ Same w w' := by
  have hxl := hA.at.1
  have hyl := hB.at.1
  have HA : Hid (SrcE intV w I (.slice (some adA) la cA) xs) := hA
  have HB : Hid (SrcE intV w J (.slice (some adB) lb cB) ys) := hB
  obtain ⟨t, ht⟩ : ∃ t, t = la + lb := ⟨_, rfl⟩
  have htI : (la : Int) + (lb : Int) = (t : Int) := by omega
  have htw : IntKind.i64.wrap (t : Int) = (t : Int) := by rw [IntKind.wrap_i64]; omega
  have HGR := lgrow_any w t (by omega) (by omega)
  have HXL : Hid (la = xs.length ∧ lb = ys.length) := hid ⟨hxl, hyl⟩
  clear hA hB ht hxl hyl
  go_enter Tryd.func44, Tryd.ntmps44
  go_wp2_with fail
  refine wp_loop_rounds 3 ?_
  rw [rounds_succ]
  go_wp2_with fail
  rw [rounds_succ]
  go_wp2_with fail
  rw [rounds_succ]
  go_wp2_with fail
  refine HGR.mono ?_
  rintro e w1 ⟨⟨G, rfl, hr1⟩, hk1⟩
  have HR1 : Hid (IRow w.heap.size w1 (.slice (some ⟨w.heap.size, 0, none⟩) 0 G) []) := hid (hr1.recode (enc' := intV) (ys := []) rfl)
  have HK1 : Hid (Same w w1) := hk1
  have c1 : w1.cell? ⟨h, 0, none⟩ = some (.slice (some adA) la cA) := hk1.cell hc1 (fun f => f)
  have c2 : w1.cell? ⟨h, 1, none⟩ = some (.slice (some adB) lb cB) := hk1.cell hc2 (fun f => f)
  have hsz1 := hk1.size
  clear hr1 hk1 HGR
  go_wp2_with fail
  refine wp_loop_rounds 3 ?_
  rw [rounds_succ]
  go_wp2_with (at_builtin; refine wpList_append_x _ intV intV_one w.heap.size 22 3 (intV 0) 8 Tryd.underlying22 Tryd.infoI rfl (by decide) rfl (.tmp 31) (.tmp 32) rfl _ [] rfl HR1.out _ (some adA) la cA xs rfl (HA.out.same HK1.out) (fun e => by cases e) (by have := HXL.out; simp; omega) hsz1 ?_; intro v3 w3 hr3 hg3; have HR3 : Hid (IRow w.heap.size w3 v3 xs) := hid (by simpa using hr3); have HK3 : Hid (Same w w3) := hid (HK1.out.grown hg3 (fun j e => .inr (HR1.out.ge e))); have d2 : w3.cell? ⟨h, 1, none⟩ = some (.slice (some adB) lb cB) := HK3.out.cell hc2 (fun f => f); clear hr3 hg3)
  have hsz3 := HK3.out.size
  rw [rounds_succ]
  go_wp2_with (at_builtin; refine wpList_append_x _ intV intV_one w.heap.size 22 3 (intV 0) 8 Tryd.underlying22 Tryd.infoI rfl (by decide) rfl (.tmp 31) (.tmp 32) rfl _ xs rfl HR3.out _ (some adB) lb cB ys rfl (HB.out.same HK3.out) (fun e => by cases e) (by have := HXL.out; omega) hsz3 ?_; intro v4 w4 hr4 hg4; have HR4 : Hid (IRow w.heap.size w4 v4 (xs ++ ys)) := hr4; have HK4 : Hid (Same w w4) := hid (HK3.out.grown hg4 (fun j e => .inr (HR3.out.ge e))); clear hr4 hg4)
  rw [rounds_succ]
  go_wp2_with fail
  go_ret
  exact ⟨_, rfl, HR4.out, HK4.out⟩

end Go.Proofs.YtofhlnpbflkdlaaDoor

/-
  The decoder's calls: Max, New, search, Next.
-/
namespace Go.Proofs.YtofhlnpbflkdlaaDoor
open Go.RowKit

set_option maxHeartbeats 1000000 in
theorem max_any (w : World) (v : Value) (I : Nat → Prop) (ns : List Nat) (hs : SrcE natV w I v ns) (hn : ns.length ≤ 1000000) (h0 : 0 < ns.length) (h15 : ∀ n ∈ ns, n ≤ 1000000000000) :
    Calls Tryd.prog 92 #[v] w fun e w' => e = .returned (.int .i64 (mxL ns : Nat)) ∧ w' = w := by
  obtain ⟨b, o, cap, rfl, _, _, c0⟩ := hs.get 0 h0
  have HS : Hid (SrcE natV w I (.slice (some ⟨b, o, none⟩) ns.length cap) ns) := hs
  have H15 : Hid (∀ n ∈ ns, n ≤ 1000000000000) := h15
  clear hs h15
  obtain ⟨x0, hx0⟩ : ∃ x, x = ns[0] := ⟨_, rfl⟩
  rw [← hx0] at c0
  unfold natV at c0
  have HX0 : Hid (x0 = ns[0]) := hx0
  clear hx0
  rw [Nat.add_zero] at c0
  have hlen : ((ns.length : Int) < 1) = False := by simp; omega
  go_enter Tryd.func92, Tryd.ntmps92
  go_wp2_with fail
  clear hlen
  go_loopg [3, 4] ns.length (fun q zm zi wr => ∃ (i m : Nat), ns.length - i ≤ q ∧ i ≤ ns.length ∧ 1 ≤ i ∧ zi = .int .i64 (i : Nat) ∧ zm = .int .i64 (m : Nat) ∧ wr = w ∧ Hid (m = (ns.take i).foldl max 0))
  case atStart => exact ⟨1, x0, by omega, by omega, by omega, rfl, rfl, rfl, hid (by
    rw [show (1 : Nat) = 0 + 1 from rfl, List.take_succ_eq_append_getElem h0, ← HX0.out]; simp)⟩
  case round =>
    obtain ⟨i, m, hq, hi, h1i, rfl, rfl, rfl, HF⟩ := hrel
    by_cases hlt : i < ns.length
    · obtain ⟨b2, o2, cap2, e, _, _, c1⟩ := HS.out.get i hlt
      simp only [Value.slice.injEq, Option.some.injEq, Addr.mk.injEq, and_true] at e
      obtain ⟨⟨rfl, rfl⟩, hxe, rfl⟩ := e
      clear hxe
      obtain ⟨x, hx⟩ : ∃ x, x = ns[i] := ⟨_, rfl⟩
      rw [← hx] at c1
      unfold natV at c1
      have HX : Hid (x = ns[i]) := hx
      clear hx
      by_cases hmx : m < x
      · go_wp2_with fail
        go_roundg (gk - 1)
        case measure => omega
        case rel => exact ⟨i + 1, x, by omega, by omega, by omega, by go_num, by first | rfl | (congr 1; omega), rfl, hid (by rw [List.take_succ_eq_append_getElem hlt, List.foldl_append, ← HF.out, ← HX.out]; simp [Nat.max_eq_right (show m ≤ x by omega)])⟩
      · go_wp2_with fail
        go_roundg (gk - 1)
        case measure => omega
        case rel => exact ⟨i + 1, m, by omega, by omega, by omega, by go_num, by first | rfl | (congr 1; omega), rfl, hid (by rw [List.take_succ_eq_append_getElem hlt, List.foldl_append, ← HF.out, ← HX.out]; simp [Nat.max_eq_left (show x ≤ m by omega)])⟩
    · have hi2 : i = ns.length := by omega
      subst hi2
      go_wp2_with fail
      go_ret
      have h := HF.out
      rw [List.take_of_length_le (Nat.le_refl _)] at h
      exact ⟨by rw [mxL, ← h]; rfl, rfl⟩

/-- A decoder at block p. -/
structure Dec (w : World) (p : Nat) (vc vs : Value) (ns : List Nat) : Prop where
  cc : w.cell? ⟨p, 0, none⟩ = some vc
  cs : w.cell? ⟨p, 1, none⟩ = some vs
  rc : NRow 0 w vc (cntL ns)
  rs : NRow 0 w vs (ris ns)

/-- The blocks of a decoder. -/
def DF (p : Nat) (vc vs : Value) (k : Nat) : Prop := k = p ∨ vc.ownBlock = some k ∨ vs.ownBlock = some k

theorem Dec.kept {F : Nat → Prop} {w w' : World} {p : Nat} {vc vs : Value} {ns : List Nat} (h : Dec w p vc vs ns) (hk : Kept F w w') (hF : ∀ k, DF p vc vs k → ¬ F k) : Dec w' p vc vs ns :=
  ⟨hk.cell h.cc (hF p (.inl rfl)), hk.cell h.cs (hF p (.inl rfl)), h.rc.kept hk (fun k e => hF k (.inr (.inl e))), h.rs.kept hk (fun k e => hF k (.inr (.inr e)))⟩

theorem Dec.lt {w : World} {p : Nat} {vc vs : Value} {ns : List Nat} (h : Dec w p vc vs ns) {k : Nat} (hk : DF p vc vs k) : k < w.heap.size := by
  rcases hk with rfl | hk | hk
  · exact World.block_lt_of_cell? w _ h.cc
  · exact h.rc.lt hk
  · exact h.rs.lt hk

theorem Dec.drewN {w : World} {p : Nat} {vc vs : Value} {ns : List Nat} (h : Dec w p vc vs ns) (k : Nat) : Dec (w.drewN k) p vc vs ns := ⟨h.cc, h.cs, h.rc, h.rs⟩

theorem new_bad (w : World) (v : Value) (I : Nat → Prop) (zs : List Int) (hs : SrcE intV w I v zs) (hn : zs.length ≤ 1000000) (hb : chk zs ≠ 0) :
    Calls Tryd.prog 81 #[v] w fun e w' => e = .returned (.tuple #[.pointer none, .int .i64 (chk zs : Nat)]) ∧ Same w w' := by
  have HC := check_any w v I zs hs hn
  generalize chk zs = c at HC hb
  have hd : ((c : Int) != 0) = true := by simp; omega
  clear hs hb
  go_enter Tryd.func81, Tryd.ntmps81
  go_wp2_with fail
  refine HC.mono ?_
  rintro e w2 ⟨rfl, hk⟩
  have HK : Hid (Same w w2) := hk
  clear hk HC
  go_wp2_with fail
  first
    | (go_ret2; exact ⟨rfl, HK.out⟩)
    | (go_quiet (fail); go_wp2_with fail; go_ret2; exact ⟨rfl, HK.out.drewN _⟩)

set_option maxHeartbeats 2000000 in
theorem search_any (w : World) (p : Nat) (vc vs : Value) (ns : List Nat) (R h : Nat) (hd : Dec w p vc vs ns) (hm : mxL ns ≤ 15) (hns : ns.length ≤ 288) (hh : h ≤ mxL ns) (hR : R < 4294967296) :
    Calls Tryd.prog 97 #[.pointer (some ⟨p, 0, none⟩), .int .u32 (R : Nat), .int .i64 (h : Nat)] w fun e w' => (∃ sym long er, e = .returned (.tuple #[.int .i64 (sym : Nat), .int .i64 (long : Nat), .int .i64 (er : Nat)]) ∧ Ans ns h R sym long er) ∧ Same w w' := by
  obtain ⟨ac, capc, rfl, shc, _⟩ := hd.rc.shape
  obtain ⟨as', caps, rfl, shs, _⟩ := hd.rs.shape
  have c1 := hd.cc
  have c2 := hd.cs
  have HD : Hid (Dec w p (.slice ac (cntL ns).length capc) (.slice as' (ris ns).length caps) ns) := hd
  have HM : Hid (mxL ns = (cntL ns).length) := hid (by simp [cntL])
  have hcl : (cntL ns).length ≤ 15 := by have := HM.out; omega
  have hhl : h ≤ (cntL ns).length := by have := HM.out; omega
  have HRL : Hid ((ris ns).length ≤ 288) := hid (Nat.le_trans (ris_length ns) hns)
  clear hd hm shc shs hh
  generalize hcn : (cntL ns).length = cn at *
  have HCN : Hid ((cntL ns).length = cn) := hcn
  clear hcn
  go_enter Tryd.func97, Tryd.ntmps97
  go_wp2_with fail
  go_step3
  go_wp2_with fail
  go_step3
  go_wp2_with fail
  go_loopg [6, 7, 8, 9, 10, 18] cn (fun q z6 z7 z8 zp za zn wr => ∃ (n place ahead : Nat), cn - n ≤ q ∧ n ≤ cn ∧ n ≤ h ∧ place ≤ 32768 ∧ ahead ≤ 288 ∧ z6 = .int .i64 0 ∧ z7 = .int .i64 0 ∧ z8 = .int .i64 32 ∧ zp = .int .i64 (place : Nat) ∧ za = .int .i64 (ahead : Nat) ∧ zn = .int .i64 (n : Nat) ∧ Hid (Seek ns R n place ahead) ∧ Hid (Same w wr))
  case atStart => exact ⟨0, 0, 0, by omega, by omega, by omega, by omega, by omega, rfl, rfl, rfl, rfl, rfl, rfl, Seek.start ns R, Kept.refl _ _⟩
  case round =>
    obtain ⟨n, place, ahead, hq, hn, hnh, hp1, hp2, rfl, rfl, rfl, rfl, rfl, rfl, HF, HK⟩ := hrel
    have d2 : wr.cell? ⟨p, 1, none⟩ = some (.slice as' (ris ns).length caps) := HK.out.cell c2 (fun h => h)
    by_cases hlt : n < cn
    · obtain ⟨b, o, cap', e, _, _, cx⟩ := (SrcE.ofRow (HD.out.rc.same HK.out)).get n (by have := HCN.out; omega)
      simp only [Value.slice.injEq] at e
      obtain ⟨rfl, hxe, rfl⟩ := e
      clear hxe
      obtain ⟨x, hx⟩ : ∃ x, x = ofN ns (n + 1) := ⟨_, rfl⟩
      have cx2 : wr.cell? ⟨b, o + n, none⟩ = some (.int .i64 (x : Int)) := by rw [cx, hx]; simp [natV, cntL]
      have HX : Hid (x = ofN ns (n + 1)) := hx
      clear cx hx
      obtain ⟨bt, hbt⟩ : ∃ bt, bt = R / 2 ^ n % 2 := ⟨_, rfl⟩
      have hbl : bt < 2 := by omega
      have hbi : bits .and .u32 ((R : Int) / 2 ^ n) 1 = (bt : Int) := by
        have e1 : (R : Int) / 2 ^ n = ((R / 2 ^ n : Nat) : Int) := by simp
        have := u32_and_nat (R / 2 ^ n) 1 (Nat.lt_of_le_of_lt (Nat.div_le_self _ _) hR) (by decide)
        rw [e1, hbt]
        rw [Nat.and_one_is_mod] at this
        exact this
      have HB : Hid (bt = R / 2 ^ n % 2) := hbt
      have hx288 : x ≤ 288 := by
        have h1 := upN_succ ns n; have h2 := upN_le ns (n + 1); have h3 := HX.out; have h4 := HRL.out; omega
      clear hbt
      by_cases hend : n = h
      · have hdn : ((n : Int) == (h : Int)) = true := by simp [hend]
        have HE : Hid (n = h) := hend
        clear hend
        go_wp2_with fail
        rw [Exit.noGoto_ret]
        go_ret3
        refine ⟨⟨0, 0, 10, rfl, .inr (.inl ⟨rfl, rfl, rfl, ?_, ?_⟩)⟩, HK.out⟩
        · have := HM.out; have := HCN.out; have := HE.out; omega
        · have h1 := HF.out.pl
          rw [HE.out] at h1
          omega
      · have hdn : ((n : Int) == (h : Int)) = false := by simp; omega
        by_cases hfd : 2 * place + bt < x
        · obtain ⟨hk, hkey, hcode⟩ := HF.out.found (by omega) (by rw [← HB.out, ← HX.out]; exact hfd)
          obtain ⟨b3, o3, cap3, e3, _, _, c3⟩ := (SrcE.ofRow (HD.out.rs.same HK.out)).get _ hk
          simp only [Value.slice.injEq] at e3
          obtain ⟨rfl, hxe, rfl⟩ := e3
          clear hxe
          obtain ⟨sy, hsy⟩ : ∃ sy, sy = (ris ns)[ahead + (2 * place + R / 2 ^ n % 2)] := ⟨_, rfl⟩
          rw [← hsy] at c3 hkey hcode
          rw [← HB.out] at c3 hk
          unfold natV at c3
          have HANS : Hid (Ans ns h R sy (n + 1) 0) := hid (.inl ⟨rfl, by rw [hsy]; exact List.getElem_mem _, hkey.symm, by omega, hcode⟩)
          clear hsy hkey hcode
          have hrl := HRL.out
          go_wp2_with fail
          rw [Exit.noGoto_ret]
          go_ret3
          exact ⟨⟨sy, n + 1, 0, rfl, HANS.out⟩, HK.out⟩
        · have HS2 : Hid (Seek ns R (n + 1) (2 * place + bt - x) (ahead + x)) := hid (by
            have := HF.out.next (by omega) (by rw [← HB.out, ← HX.out]; exact hfd)
            rw [← HB.out, ← HX.out] at this; exact this)
          have hah : ahead + x ≤ 288 := by
            have h1 := HS2.out.ah; have h2 := upN_le ns (n + 1); have h4 := HRL.out; omega
          have hpl : 2 * place + bt - x ≤ 32768 := by
            have h1 := HS2.out.pl
            have h2 := rv_lt (n + 1) R
            have h3 : rv (n + 1) R * 2 ^ (15 - (n + 1)) ≤ 2 ^ (n + 1) * 2 ^ (15 - (n + 1)) := Nat.mul_le_mul_right _ (by omega)
            rw [← Nat.pow_add, show n + 1 + (15 - (n + 1)) = 15 by omega] at h3
            have h4 : (2 * place + bt - x) * 1 ≤ (2 * place + bt - x) * 2 ^ (15 - (n + 1)) := Nat.mul_le_mul_left _ (Nat.two_pow_pos _)
            have h5 : (2 : Nat) ^ 15 = 32768 := by decide
            omega
          go_wp2_with fail
          go_roundg (gk - 1)
          case measure => omega
          case rel => exact ⟨n + 1, 2 * place + bt - x, ahead + x, by omega, by omega, by omega, hpl, hah, rfl, rfl, rfl, by congr 1; omega, by congr 1, by go_num, HS2, HK⟩
    · have hn2 : n = cn := by omega
      subst hn2
      go_wp2_with fail
      rw [Exit.noGoto_ret]
      go_ret3
      refine ⟨⟨0, 0, 32, rfl, .inr (.inr ⟨rfl, rfl, rfl, ?_, ?_⟩)⟩, HK.out⟩
      · have := HM.out; have := HCN.out; omega
      · have h1 := HF.out.pl
        have h2 : n = mxL ns := by have := HM.out; have := HCN.out; omega
        have h3 : n = h := by omega
        rw [← sumTo_all, ← upN_all ns, ← h2, ← h3]
        omega

end Go.Proofs.YtofhlnpbflkdlaaDoor

/-
  The decoder's calls: New, Next.
-/
namespace Go.Proofs.YtofhlnpbflkdlaaDoor
open Go.RowKit

theorem cntL_length (ns : List Nat) : (cntL ns).length = mxL ns := by simp [cntL]

set_option maxHeartbeats 2000000 in
theorem next_any (w : World) (d : Nat) (vc vs : Value) (ns : List Nat) (p c : Nat) (s : Value) (bs : List Nat) (hd : Dec w d vc vs ns) (hm : mxL ns ≤ 15) (hns : ns.length ≤ 288) (hs : St w p s bs c) (hc : c ≤ 8 * bs.length) (hlen : bs.length ≤ 100000000) (hdis : ∀ k, DF d vc vs k → ¬ Fp p s k) :
    Calls Tryd.prog 93 #[.pointer (some ⟨d, 0, none⟩), .pointer (some ⟨p, 0, none⟩)] w fun e w' => (∃ sym long er, e = .returned (.tuple #[.int .i64 (sym : Nat), .int .i64 (er : Nat)]) ∧
      Ans ns (min (8 * bs.length - c) (mxL ns)) (n256 bs / 2 ^ c % 2 ^ (min (8 * bs.length - c) (mxL ns))) sym long er ∧ St w' p s bs (c + long)) ∧ Kept (· = p) w w' := by
  have HL := fun q => left_any p c s bs (w.drewN q) (hs.drewN q) hc (by omega)
  obtain ⟨ac, capc, rfl, shc, _⟩ := hd.rc.shape
  have c1 := hd.cc
  have HD : Hid (Dec w d (.slice ac (cntL ns).length capc) vs ns) := hd
  have HS : Hid (St w p s bs c) := hs
  have HX : Hid (∀ k, DF d (.slice ac (cntL ns).length capc) vs k → ¬ Fp p s k) := hdis
  have hcl := cntL_length ns
  obtain ⟨left, hleft⟩ : ∃ left, left = 8 * bs.length - c := ⟨_, rfl⟩
  rw [← hleft] at HL ⊢
  obtain ⟨mx, hmx⟩ : ∃ mx, mx = mxL ns := ⟨_, rfl⟩
  rw [← hmx] at hcl hm ⊢
  have HMX : Hid (mx = mxL ns) := hmx
  have HLEFT : Hid (left = 8 * bs.length - c) := hleft
  have HCL : Hid ((cntL ns).length = mx) := hcl
  clear hd hs hdis hmx hleft shc
  rw [hcl] at c1 HD HX
  clear hcl
  go_enter Tryd.func93, Tryd.ntmps93
  by_cases hlm : mx < left
  · have HMIN : Hid (min left mx = mx) := hid (by omega)
    go_wp2_with fail
    go_quiet ((go_at_call 29; exact Calls.quiet_of (HL _)))
    have HT := take_good p c mx s bs (w.drewN nq) (HS.out.drewN nq) (by omega) (by omega) (by have := HLEFT.out; omega)
    obtain ⟨R, hR⟩ : ∃ R, R = n256 bs / 2 ^ c % 2 ^ mx := ⟨_, rfl⟩
    rw [← hR] at HT
    have HR : Hid (R = n256 bs / 2 ^ c % 2 ^ mx) := hR
    have hRl : R < 4294967296 := by
      have h1 : R < 2 ^ mx := by rw [hR]; exact Nat.mod_lt _ (Nat.two_pow_pos _)
      have h2 : 2 ^ mx ≤ 2 ^ 15 := Nat.pow_le_pow_right (by omega) (by omega)
      have h3 : (2 : Nat) ^ 15 = 32768 := by decide
      omega
    clear hR
    go_wp2_with fail
    refine HT.mono ?_
    rintro e w1 ⟨rfl, hst1, hk1⟩
    have HS1 : Hid (St w1 p s bs (c + mx)) := hst1
    have HK1 : Hid (Kept (· = p) w w1) := hid (((Kept.refl (· = p) w).drewN nq).trans hk1 (fun _ _ h => h) (fun _ _ h => h))
    have HSE := search_any w1 d _ vs ns R mx (HD.out.kept HK1.out (fun k hk e => HX.out k hk (.inl e))) (by have := HMX.out; omega) hns (by have := HMX.out; omega) hRl
    clear hst1 hk1 HT
    go_wp2_with fail
    refine HSE.mono ?_
    rintro e w2 ⟨⟨sym, long, er, rfl, hans⟩, hk2⟩
    have HANS : Hid (Ans ns mx R sym long er) := hans
    have hll : long ≤ mx := by
      rcases hans with ⟨_, _, _, h, _⟩ | ⟨_, _, h, _⟩ | ⟨_, _, h, _⟩
      · exact h
      · omega
      · omega
    have hsub : ((mx : Int) - (long : Int)) = ((mx - long : Nat) : Int) := by omega
    have HS2 : Hid (St w2 p s bs (c + mx)) := hid (HS1.out.kept hk2 (fun _ _ h => h))
    have HK2 : Hid (Kept (· = p) w w2) := hid (HK1.out.trans hk2 (fun _ _ h => h) (fun _ _ h => h.elim))
    have HBK := back_good p (c + mx) (mx - long) s bs w2 HS2.out (by omega) (by have := HLEFT.out; omega)
    clear hans hk2 HSE
    go_wp2_with fail
    refine HBK.mono ?_
    rintro e w3 ⟨rfl, hst3, hk3⟩
    have HS3 : Hid (St w3 p s bs (c + long)) := hid (by rw [show c + mx - (mx - long) = c + long by omega] at hst3; exact hst3)
    have HK3 : Hid (Kept (· = p) w w3) := hid (HK2.out.trans hk3 (fun _ _ h => h) (fun _ _ h => h))
    clear hst3 hk3 HBK
    go_wp2_with fail
    go_ret2
    exact ⟨⟨sym, long, er, rfl, by rw [HMIN.out, ← HR.out]; exact HANS.out, HS3.out⟩, HK3.out⟩
  · have HMIN : Hid (min left mx = left) := hid (by omega)
    go_wp2_with fail
    go_quiet ((go_at_call 29; exact Calls.quiet_of (HL _)))
    have HT := take_good p c left s bs (w.drewN nq) (HS.out.drewN nq) (by omega) (by omega) (by have := HLEFT.out; omega)
    obtain ⟨R, hR⟩ : ∃ R, R = n256 bs / 2 ^ c % 2 ^ left := ⟨_, rfl⟩
    rw [← hR] at HT
    have HR : Hid (R = n256 bs / 2 ^ c % 2 ^ left) := hR
    have hRl : R < 4294967296 := by
      have h1 : R < 2 ^ left := by rw [hR]; exact Nat.mod_lt _ (Nat.two_pow_pos _)
      have h2 : 2 ^ left ≤ 2 ^ 15 := Nat.pow_le_pow_right (by omega) (by omega)
      have h3 : (2 : Nat) ^ 15 = 32768 := by decide
      omega
    clear hR
    go_wp2_with fail
    refine HT.mono ?_
    rintro e w1 ⟨rfl, hst1, hk1⟩
    have HS1 : Hid (St w1 p s bs (c + left)) := hst1
    have HK1 : Hid (Kept (· = p) w w1) := hid (((Kept.refl (· = p) w).drewN nq).trans hk1 (fun _ _ h => h) (fun _ _ h => h))
    have HSE := search_any w1 d _ vs ns R left (HD.out.kept HK1.out (fun k hk e => HX.out k hk (.inl e))) (by have := HMX.out; omega) hns (by have := HMX.out; omega) hRl
    clear hst1 hk1 HT
    go_wp2_with fail
    refine HSE.mono ?_
    rintro e w2 ⟨⟨sym, long, er, rfl, hans⟩, hk2⟩
    have HANS : Hid (Ans ns left R sym long er) := hans
    have hll : long ≤ left := by
      rcases hans with ⟨_, _, _, h, _⟩ | ⟨_, _, h, _⟩ | ⟨_, _, h, _⟩
      · exact h
      · omega
      · omega
    have hsub : ((left : Int) - (long : Int)) = ((left - long : Nat) : Int) := by omega
    have HS2 : Hid (St w2 p s bs (c + left)) := hid (HS1.out.kept hk2 (fun _ _ h => h))
    have HK2 : Hid (Kept (· = p) w w2) := hid (HK1.out.trans hk2 (fun _ _ h => h) (fun _ _ h => h.elim))
    have HBK := back_good p (c + left) (left - long) s bs w2 HS2.out (by omega) (by have := HLEFT.out; omega)
    clear hans hk2 HSE
    go_wp2_with fail
    refine HBK.mono ?_
    rintro e w3 ⟨rfl, hst3, hk3⟩
    have HS3 : Hid (St w3 p s bs (c + long)) := hid (by rw [show c + left - (left - long) = c + long by omega] at hst3; exact hst3)
    have HK3 : Hid (Kept (· = p) w w3) := hid (HK2.out.trans hk3 (fun _ _ h => h) (fun _ _ h => h))
    clear hst3 hk3 HBK
    go_wp2_with fail
    go_ret2
    exact ⟨⟨sym, long, er, rfl, by rw [HMIN.out, ← HR.out]; exact HANS.out, HS3.out⟩, HK3.out⟩

theorem next_none (w : World) (rv' : Value) : Calls Tryd.prog 93 #[.pointer none, rv'] w fun e w' => e = .returned (.tuple #[.int .i64 0, .int .i64 3]) ∧ w' = w := by
  go_enter Tryd.func93, Tryd.ntmps93
  go_wp2_with fail
  go_ret2
  exact ⟨rfl, rfl⟩

theorem next_noreader (w : World) (d : Nat) : Calls Tryd.prog 93 #[.pointer (some ⟨d, 0, none⟩), .pointer none] w fun e w' => e = .returned (.tuple #[.int .i64 0, .int .i64 3]) ∧ w' = w := by
  go_enter Tryd.func93, Tryd.ntmps93
  go_wp2_with fail
  go_ret2
  exact ⟨rfl, rfl⟩

end Go.Proofs.YtofhlnpbflkdlaaDoor
