/-
  The program's Write.
-/
import Derived.Test.YtofhlnpbflkdlaaDoorLnWr
namespace Go.Proofs.YtofhlnpbflkdlaaDoor
open Go.RowKit

theorem packM_ne (l : List Nat) (h : l ≠ []) : packM l ≠ [] := by
  cases l with
  | nil => exact absurd rfl h
  | cons v r =>
    rw [packM_cons]
    intro e
    exact sayM_ne v (1 + frontN v r) (by omega) (List.append_eq_nil_iff.1 e).1

/-- The head that Write lays. -/
theorem head_ok (xs ys : List Nat) (hx : ∀ n ∈ xs, n ≤ 15) (hy : ∀ n ∈ ys, n ≤ 15) (h1 : 257 ≤ xs.length) (h2 : xs.length ≤ 286) (h3 : 1 ≤ ys.length) (h4 : ys.length ≤ 30) :
    HeadOk xs ys (comeN (chosen (packM (xs ++ ys))) 19) (chosen (packM (xs ++ ys))) (packN (xs ++ ys)) := by
  have h15 : ∀ n ∈ xs ++ ys, n ≤ 15 := fun n hn => by
    rcases List.mem_append.1 hn with h | h
    · exact hx n h
    · exact hy n h
  have hlen : (xs ++ ys).length ≤ 316 := by rw [List.length_append]; omega
  have hne : xs ++ ys ≠ [] := fun e => by have := congrArg List.length e; rw [List.length_append, List.length_nil] at this; omega
  have his := packM_is (xs ++ ys) h15
  have hc := comeN_ge (chosen (packM (xs ++ ys))) 19 (by decide)
  obtain ⟨s0, hs0⟩ := List.exists_mem_of_ne_nil _ (packM_ne _ hne)
  refine ⟨h1, h2, h3, h4, hc.1, hc.2, chosen_length _, chosen_le _, chosen_ok _ s0 hs0 (by have := his s0 hs0; have := this.1; have := (his s0 hs0).2.1; omega), fun j hj hj2 => comeN_rest _ 19 j hj hj2, ?_, ?_⟩
  · intro s hs
    obtain ⟨t, ht, rfl⟩ := List.mem_map.1 hs
    have hi := his t ht
    have hlt : t.1.toNat < 19 := by have := hi.1; have := hi.2.1; omega
    exact ⟨by rw [chosen_length]; exact hlt, chosen_key _ t ht hlt, hi.2.2.2⟩
  · rw [packN_cast _ h15, runM_pack _ _ [] h15 (by simp)]
    simp

set_option maxHeartbeats 1000000 in
theorem lwrite_nil (w : World) (va vb : Value) :
    Calls Tryd.prog 20 #[.pointer none, va, vb] w fun e w' => e = .returned (.int .i64 3) ∧ w' = w := by
  go_enter Tryd.func20, Tryd.ntmps20
  go_wp2_with fail
  go_ret
  exact ⟨rfl, rfl⟩

theorem lensOk_append (xs ys : List Int) : lensOk (xs ++ ys) = (lensOk xs && lensOk ys) := by
  unfold lensOk
  rw [List.any_append, Bool.not_or]

set_option maxRecDepth 100000 in
set_option maxHeartbeats 4000000 in
theorem lwrite_bad (w : World) (p : Nat) (al ad : Option Addr) (L cl D cd : Nat) (I J : Nat → Prop) (zl zd : List Int) (hA : SrcE intV w I (.slice al L cl) zl) (hB : SrcE intV w J (.slice ad D cd) zd) (hL : L ≤ 10000000) (hD : D ≤ 10000000) (hm : mayM zl zd = false) :
    Calls Tryd.prog 20 #[.pointer (some ⟨p, 0, none⟩), .slice al L cl, .slice ad D cd] w fun e w' => e = .returned (.int .i64 1) ∧ Same w w' := by
  have hll := hA.at.1
  have hdl := hB.at.1
  have HW1 := fun W => within_any W (L : Int) 257 286
  have HW2 := fun W => within_any W (D : Int) 1 30
  by_cases hl : 257 ≤ L ∧ L ≤ 286
  · have e1 : inB (L : Int) 257 286 = true := by
      unfold inB
      have h1 : (257 : Int) ≤ (L : Int) := by omega
      have h2 : (L : Int) ≤ 286 := by omega
      simp [h1, h2]
    rw [e1] at HW1
    by_cases hd : 1 ≤ D ∧ D ≤ 30
    · have e2 : inB (D : Int) 1 30 = true := by
        unfold inB
        have h1 : (1 : Int) ≤ (D : Int) := by omega
        have h2 : (D : Int) ≤ 30 := by omega
        simp [h1, h2]
      rw [e2] at HW2
      have hok : lensOk (zl ++ zd) = false := by
        rw [lensOk_append]
        unfold mayM at hm
        rw [← hll, ← hdl] at hm
        have d1 : decide (257 ≤ L) = true := by simp; omega
        have d2 : decide (L ≤ 286) = true := by simp; omega
        have d3 : decide (1 ≤ D) = true := by simp; omega
        have d4 : decide (D ≤ 30) = true := by simp; omega
        rw [d1, d2, d3, d4] at hm
        simpa using hm
      obtain ⟨b1, o1, rfl⟩ : ∃ b o, al = some ⟨b, o, none⟩ := by
        obtain ⟨b1, o1, _, e3, _⟩ := hA.get 0 (by omega)
        simp only [Value.slice.injEq] at e3
        exact ⟨b1, o1, e3.1⟩
      obtain ⟨b2, o2, rfl⟩ : ∃ b o, ad = some ⟨b, o, none⟩ := by
        obtain ⟨b2, o2, _, e4, _⟩ := hB.get 0 (by omega)
        simp only [Value.slice.injEq] at e4
        exact ⟨b2, o2, e4.1⟩
      obtain ⟨W, hW⟩ : ∃ W, W = w.alloc (.cells #[.slice (some ⟨b1, o1, none⟩) L cl, .slice (some ⟨b2, o2, none⟩) D cd] 22) := ⟨_, rfl⟩
      have hk0 : Same w W := by rw [hW]; exact (Kept.refl _ w).alloc _
      have HCC := lconcat_any W w.heap.size L cl D cd ⟨b1, o1, none⟩ ⟨b2, o2, none⟩ I J zl zd (by rw [hW]; simp) (by rw [hW]; simp) (hA.same hk0) (hB.same hk0) (by omega) (by omega) (by omega)
      have HK0 : Hid (Same w W) := hk0
      have HOK : Hid (lensOk (zl ++ zd) = false) := hok
      have HLN : Hid ((zl ++ zd).length ≤ 10000000) := hid (by rw [List.length_append]; omega)
      clear hA hB hm hk0 hok hll hdl hl hd e1 e2
      go_enter Tryd.func20, Tryd.ntmps20
      go_wp2_with fail
      refine (HW1 _).mono ?_
      rintro e w1 ⟨rfl, hw1⟩
      subst hw1
      go_wp2_with fail
      refine (HW2 _).mono ?_
      rintro e w2 ⟨rfl, hw2⟩
      subst hw2
      clear HW1 HW2
      go_wp2_with fail
      rw [← hW]
      clear hW
      refine HCC.mono ?_
      rintro e w3 ⟨v3, rfl, hr3, hk3⟩
      have HK3 : Hid (Same w2 w3) := hid (Same.trans HK0.out hk3)
      have HPK := lpack_any w3 _ _ _ (SrcE.ofRow hr3) HLN.out
      rw [packA_bad (.inr HOK.out)] at HPK
      clear hr3 hk3 HCC
      go_wp2_with fail
      refine HPK.mono ?_
      rintro e w4 ⟨rfl, hk4⟩
      have HK4 : Hid (Same w2 w4) := hid (Same.trans HK3.out hk4)
      clear hk4 HPK
      go_wp2_with fail
      go_ret
      exact ⟨rfl, HK4.out⟩
    · have e2 : inB (D : Int) 1 30 = false := by
        unfold inB
        by_cases h1 : (1 : Int) ≤ (D : Int)
        · have h2 : ¬ (D : Int) ≤ 30 := by omega
          simp [h2]
        · simp [h1]
      rw [e2] at HW2
      clear hA hB hm hll hdl hl hd e1 e2
      go_enter Tryd.func20, Tryd.ntmps20
      go_wp2_with fail
      refine (HW1 _).mono ?_
      rintro e w1 ⟨rfl, hw1⟩
      subst hw1
      go_wp2_with fail
      refine (HW2 _).mono ?_
      rintro e w2 ⟨rfl, hw2⟩
      subst hw2
      clear HW1 HW2
      go_wp2_with fail
      go_ret
      exact ⟨rfl, Kept.refl _ _⟩
  · have e1 : inB (L : Int) 257 286 = false := by
      unfold inB
      by_cases h1 : (257 : Int) ≤ (L : Int)
      · have h2 : ¬ (L : Int) ≤ 286 := by omega
        simp [h2]
      · simp [h1]
    rw [e1] at HW1
    clear hA hB hm hll hdl hl e1 HW2
    go_enter Tryd.func20, Tryd.ntmps20
    go_wp2_with fail
    refine (HW1 _).mono ?_
    rintro e w1 ⟨rfl, hw1⟩
    subst hw1
    clear HW1
    go_wp2_with fail
    go_ret
    exact ⟨rfl, Kept.refl _ _⟩

end Go.Proofs.YtofhlnpbflkdlaaDoor
