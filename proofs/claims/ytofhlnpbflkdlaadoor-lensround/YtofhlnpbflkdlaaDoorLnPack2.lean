/-
  The reference's Pack, whatever the list; May.
-/
import Derived.Test.YtofhlnpbflkdlaaDoorLnPack
namespace Go.Proofs.YtofhlnpbflkdlaaDoor
open Go.RowKit

set_option maxHeartbeats 1000000 in
theorem pack_bad (w : World) (v : Value) (I : Nat → Prop) (zs : List Int) (hs : SrcE intV w I v zs) (hn : zs.length ≤ 10000000) (hb : 316 < zs.length ∨ lensOk zs = false) :
    Calls Tryd.prog 12 #[v] w fun e w' => e = .returned (.tuple #[.slice none 0 0, .int .i64 1]) ∧ Same w w' := by
  obtain ⟨ao, cap, rfl, hx1, hx2⟩ := id hs
  clear hx1 hx2
  have HLN := lengths_any w _ I zs hs hn
  clear hs
  by_cases hl : 316 < zs.length
  · have b1 : decide ((316 : Int) < (zs.length : Int)) = true := by simp; omega
    clear hb hl
    go_enter Tryd.func12, Tryd.ntmps12
    go_wp2_with fail
    go_ret2
    exact ⟨rfl, Kept.refl _ _⟩
  · have b1 : decide ((316 : Int) < (zs.length : Int)) = false := by simp; omega
    have hok : lensOk zs = false := by rcases hb with h | h; omega; exact h
    rw [hok] at HLN
    clear hb hl hok
    go_enter Tryd.func12, Tryd.ntmps12
    go_wp2_with fail
    refine HLN.mono ?_
    rintro e w1 ⟨rfl, hw1⟩
    subst hw1
    clear HLN
    go_wp2_with fail
    go_ret2
    exact ⟨rfl, Kept.refl _ _⟩

/-- An answer of Pack: an error, or a new row of steps. -/
def PackA (w w' : World) (e : Ending) : Except Nat (List (Int × Int)) → Prop
  | .error c => e = .returned (.tuple #[.slice none 0 0, .int .i64 (c : Nat)]) ∧ Same w w'
  | .ok ss => ∃ v', e = .returned (.tuple #[v', .int .i64 0]) ∧ StRow w.heap.size w' v' ss ∧ Same w w'

theorem packA_good {zs : List Int} (h1 : zs.length ≤ 316) (h2 : lensOk zs = true) : packA zs = .ok (packM (zs.map Int.toNat)) := by
  unfold packA
  rw [if_pos ⟨h1, (lensOk_iff zs).1 h2⟩]

theorem packA_bad {zs : List Int} (h : 316 < zs.length ∨ lensOk zs = false) : packA zs = .error 1 := by
  unfold packA
  rw [if_neg]
  rintro ⟨h1, h2⟩
  rcases h with h | h
  · omega
  · rw [(lensOk_iff zs).2 h2] at h; cases h

theorem pack_any (w : World) (v : Value) (I : Nat → Prop) (zs : List Int) (hs : SrcE intV w I v zs) (hn : zs.length ≤ 10000000) :
    Calls Tryd.prog 12 #[v] w fun e w' => PackA w w' e (packA zs) := by
  by_cases hb : 316 < zs.length ∨ lensOk zs = false
  · rw [packA_bad hb]
    exact pack_bad w v I zs hs hn hb
  · have h2 : lensOk zs = true := by
      cases h : lensOk zs with
      | true => rfl
      | false => exact absurd (.inr h) hb
    have h1 : zs.length ≤ 316 := Nat.le_of_not_lt (fun h => hb (.inl h))
    rw [packA_good h1 h2]
    exact pack_good w v I zs _ hs h1 h2 rfl

/-- May lists be written? -/
def mayM (a b : List Int) : Bool := decide (257 ≤ a.length) && decide (a.length ≤ 286) && decide (1 ≤ b.length) && decide (b.length ≤ 30) && lensOk a && lensOk b

set_option maxHeartbeats 1000000 in
theorem may_any (w : World) (va vb : Value) (I J : Nat → Prop) (xs ys : List Int) (ha : SrcE intV w I va xs) (hb : SrcE intV w J vb ys) (hx : xs.length ≤ 10000000) (hy : ys.length ≤ 10000000) :
    Calls Tryd.prog 21 #[va, vb] w fun e w' => e = .returned (.bool (mayM xs ys)) ∧ w' = w := by
  obtain ⟨ao, ca, rfl, hxa, hsa⟩ := id ha
  obtain ⟨bo, cb, rfl, hxb, hsb⟩ := id hb
  clear hxa hxb hsa hsb
  have HA := lengths_any w _ I xs ha hx
  have HB := lengths_any w _ J ys hb hy
  clear ha hb
  obtain ⟨m, hm⟩ : ∃ m, m = xs.length := ⟨_, rfl⟩
  obtain ⟨n, hn⟩ : ∃ n, n = ys.length := ⟨_, rfl⟩
  have HM : Hid (mayM xs ys = (decide (257 ≤ m) && decide (m ≤ 286) && decide (1 ≤ n) && decide (n ≤ 30) && lensOk xs && lensOk ys)) := hid (by rw [hm, hn]; rfl)
  rw [← hm] at HA hx ⊢
  rw [← hn] at HB hy ⊢
  clear hm hn
  generalize lensOk xs = p at *
  generalize lensOk ys = q at *
  go_enter Tryd.func21, Tryd.ntmps21
  by_cases h1 : 257 ≤ m
  · have d1 : decide ((257 : Int) ≤ (m : Int)) = true := by simp; omega
    by_cases h2 : m ≤ 286
    · have d2 : decide ((m : Int) ≤ 286) = true := by simp; omega
      by_cases h3 : 1 ≤ n
      · have d3 : decide ((1 : Int) ≤ (n : Int)) = true := by simp; omega
        by_cases h4 : n ≤ 30
        · have d4 : decide ((n : Int) ≤ 30) = true := by simp; omega
          have HE : Hid (mayM xs ys = (p && q)) := hid (by rw [HM.out]; simp [h1, h2, h3, h4])
          clear h1 h2 h3 h4
          go_wp2_with fail
          refine HA.mono ?_
          rintro e w1 ⟨rfl, hw1⟩
          subst hw1
          clear HA
          cases p with
          | false =>
            go_wp2_with fail
            go_ret
            exact ⟨by rw [HE.out]; rfl, rfl⟩
          | true =>
            go_wp2_with fail
            refine HB.mono ?_
            rintro e w2 ⟨rfl, hw2⟩
            subst hw2
            clear HB
            go_wp2_with fail
            go_ret
            exact ⟨by rw [HE.out]; rfl, rfl⟩
        · have d4 : decide ((n : Int) ≤ 30) = false := by simp; omega
          have HE : Hid (mayM xs ys = false) := hid (by rw [HM.out]; simp [h4])
          go_wp2_with fail
          go_ret
          exact ⟨by rw [HE.out]; rfl, rfl⟩
      · have d3 : decide ((1 : Int) ≤ (n : Int)) = false := by simp; omega
        have HE : Hid (mayM xs ys = false) := hid (by rw [HM.out]; simp [h3])
        go_wp2_with fail
        go_ret
        exact ⟨by rw [HE.out]; rfl, rfl⟩
    · have d2 : decide ((m : Int) ≤ 286) = false := by simp; omega
      have HE : Hid (mayM xs ys = false) := hid (by rw [HM.out]; simp [h2])
      go_wp2_with fail
      go_ret
      exact ⟨by rw [HE.out]; rfl, rfl⟩
  · have d1 : decide ((257 : Int) ≤ (m : Int)) = false := by simp; omega
    have HE : Hid (mayM xs ys = false) := hid (by rw [HM.out]; simp [h1])
    go_wp2_with fail
    go_ret
    exact ⟨by rw [HE.out]; rfl, rfl⟩

end Go.Proofs.YtofhlnpbflkdlaaDoor
