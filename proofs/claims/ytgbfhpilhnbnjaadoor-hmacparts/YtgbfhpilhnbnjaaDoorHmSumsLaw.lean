/-
  HmacSums' walk.
-/
import Derived.Test.YtgbfhpilhnbnjaaDoorHmV
import Derived.Test.YtgbfhpilhnbnjaaDoorLend
namespace Go.Proofs.YtgbfhpilhnbnjaaDoor
open Go.RowKit

/-- What was lent, as a source. -/
theorem lent_src {w : World} {g : Nat} {cs : List Nat} (h : Row w (.slice (some ⟨g, 0, none⟩) (cs.length + 2) (cs.length + 2)) (cs ++ [165, 90])) : Src w (· = g) (.slice (some ⟨g, 0, none⟩) cs.length (cs.length + 2)) cs := by
  refine ⟨_, _, rfl, fun _ => ⟨g, 0, rfl, rfl, fun j hj => ?_⟩⟩
  have h2 : Row w (.slice (some ⟨g, 0, none⟩) (cs ++ [165, 90]).length (cs.length + 2)) (cs ++ [165, 90]) := by simpa using h
  rw [Nat.zero_add, Row.cell h2 j (by simp; omega), List.getElem_append_left hj]

set_option maxRecDepth 100000 in
set_option maxHeartbeats 1000000 in
theorem sums15 (w : World) (ak ab : Option Addr) (nk ck nb cb : Nat) (K B : List Nat) (hk : Arg15 w (.slice ak nk ck) K) (hb : Arg15 w (.slice ab nb cb) B) (lk : K.length = nk) (lb : B.length = nb) (mk : nk ≤ 262144) (mb : nb ≤ 262144) (hT : Tab15 w) :
    Calls Tryd.prog 3 #[.slice ak nk ck, .slice ab nb cb] w fun e w' => e = .returned (.bool true) ∧ Same w w' := by
  have HK := hid hk
  have HB := hid hb
  have HLK := hid lk
  have HLB := hid lb
  have HT := hid hT
  have d1 : decide ((262144 : Int) < (nk : Int)) = false := by simp; omega
  have d2 : decide ((262144 : Int) < (nb : Int)) = false := by simp; omega
  have HMK := hid mk
  have HMB := hid mb
  clear hk hb lk lb hT mk mb
  go_enter Tryd.func3, Tryd.ntmps3
  go_wp2_with fail
  refine (lend_any w _ _ B HB.out.src (by have := HLB.out; have := HMB.out; omega)).mono ?_
  rintro e w1 ⟨gx, rfl, hR1, hk1, hgx⟩
  have HX1 := hid hR1
  have HK1 : Hid (Same w w1) := hid hk1
  clear hR1 hk1
  rw [HLB.out]
  go_wp2_with fail
  refine (lend_any w1 _ _ K (HK.out.same HK1.out).src (by have := HLK.out; have := HMK.out; omega)).mono ?_
  rintro e w2 ⟨gy, rfl, hR2, hk2, hgy⟩
  have HY2 := hid hR2
  have HX2 := hid (HX1.out.kept hk2 (fun _ _ f => f))
  have HK2 : Hid (Same w w2) := hid (HK1.out.trans hk2)
  have hgx1 : gx < w1.heap.size := HX1.out.lt rfl
  have hgy2 : gy < w2.heap.size := HY2.out.lt rfl
  have hgxy : gx ≠ gy := by omega
  have hs12 : w1.heap.size ≤ w2.heap.size := hk2.size
  clear hR2 hk2 HX1
  rw [HLK.out]
  have HT2 := hid (HT.out.kept HK2.out (fun f => f))
  have HSX := hid (lent_src HX2.out)
  have HSY := hid (lent_src HY2.out)
  rw [HLB.out] at HSX
  rw [HLK.out] at HSY
  have HPS := psum_any w2 _ _ B HSX.out (fun k hk => by omega) (fun a n c e => by injection e; omega) HB.out.byt HT2.out (by have := HLB.out; have := HMB.out; omega)
  go_wp2_with fail
  refine HPS.mono ?_
  rintro e w3 ⟨rfl, hk3⟩
  have HK3 := hid hk3
  have hs3 := hk3.size
  clear hk3 HPS
  go_wp2_with (first
    | (with_reducible refine at_alloc 24 7 ?_; refine wpl_alloc 24 _ Tryd.zero32 ?_; intro w4 g4 hB4 hk4 hg4 hl4; have HB4 := hid hB4; have HK4 := hid hk4; clear hB4 hk4)
    | (with_reducible refine at_store 24 7 ?_; refine wpl_store 24 32 Tryd.size32 rfl (cells := (shaF B).map byteV) rfl HB4.out (by simp) (by simp [shaF_length]) (byteV_one _) ?_; intro w5 hB5 hk5 hs5; have HB5 := hid hB5; have HK5 : Hid (Same w2 w5) := hid ((HK3.out.trans HK4.out).then hk5 (fun x hx e => by omega)); have hl5 : g4 < w5.heap.size := (by omega); clear hB5 hk5 hs5 HB4 HK4))
  have HSX5 := hid (HSX.out.kept HK5.out (fun _ _ _ f => f))
  have HSY5 := hid (HSY.out.kept HK5.out (fun _ _ _ f => f))
  have hs5 := HK5.out.size
  have HPM := pmac_any w5 _ _ _ _ K B HSY5.out (fun k hk => by omega) (fun a n c e => by injection e; omega) HK.out.byt (by have := HLK.out; have := HMK.out; omega) HSX5.out (fun k hk => by omega) (fun a n c e => by injection e; omega) HB.out.byt (by have := HLB.out; have := HMB.out; omega) (HT2.out.kept HK5.out (fun f => f))
  refine HPM.mono ?_
  rintro e w6 ⟨rfl, hk6⟩
  have HK6 := hid hk6
  have hs6 := hk6.size
  have HML : Hid ((macF K B).length = 32) := hid (shaF_length _)
  clear hk6 HPM
  go_wp2_with (first
    | (with_reducible refine at_alloc 24 8 ?_; refine wpl_alloc 24 _ Tryd.zero32 ?_; intro w7 g7 hB7 hk7 hg7 hl7; have HB7 := hid hB7; have HK7 := hid hk7; clear hB7 hk7)
    | (with_reducible refine at_store 24 8 ?_; refine wpl_store 24 32 Tryd.size32 rfl (cells := (macF K B).map byteV) rfl HB7.out (by simp) (by simp [HML.out]) (byteV_one _) ?_; intro w8 hB8 hk8 hs8; have HB8 := hid hB8; have HK8 : Hid (Same w5 w8) := hid ((HK6.out.trans HK7.out).then hk8 (fun x hx e => by omega)); clear hB8 hk8 hs8 HB7 HK7))
  have HKw8 : Hid (Same w w8) := hid ((HK2.out.trans HK5.out).trans HK8.out)
  have HK28 : Hid (Same w2 w8) := hid (HK5.out.trans HK8.out)
  have HX8 := hid (HX2.out.kept HK28.out (fun _ _ f => f))
  have HY8 := hid (HY2.out.kept HK28.out (fun _ _ f => f))
  have HBK := keepBack_any w8 gx _ _ B HX8.out (HB.out.same HKw8.out).src (by have := HLB.out; have := HMB.out; omega) HB.out.byt
  rw [HLB.out] at HBK
  refine HBK.mono ?_
  rintro e w9 ⟨rfl, hk9⟩
  have HK9 := hid hk9
  clear hk9 HBK
  have hkw := HK1.out.size
  have HKw9 : Hid (Same w w9) := hid (HKw8.out.then HK9.out (fun x hx e => by omega))
  have HY9 := hid (HY8.out.kept HK9.out (fun k hk e => hgxy (by have h : gy = k := Option.some.inj hk; rw [h]; exact e.symm)))
  have HBK2 := keepBack_any w9 gy _ _ K HY9.out (HK.out.same HKw9.out).src (by have := HLK.out; have := HMK.out; omega) HK.out.byt
  rw [HLK.out] at HBK2
  go_wp2_with fail
  refine HBK2.mono ?_
  rintro e w10 ⟨rfl, hk10⟩
  have HK10 := hid hk10
  clear hk10 HBK2
  have HKwA : Hid (Same w w10) := hid (HKw9.out.then HK10.out (fun x hx e => by omega))
  have HK8A : Hid (Kept (fun k => k = gx ∨ k = gy) w8 w10) := hid (Kept.trans HK9.out HK10.out (fun _ _ e => .inl e) (fun _ _ e => .inr e))
  have n1 : ¬ (g4 = gx ∨ g4 = gy) := by omega
  have n2 : ¬ (g7 = gx ∨ g7 = gy) := by omega
  have HS1 := hid ((HB5.out.kept HK8.out (fun f => f)).kept HK8A.out n1)
  have HS2 := hid (HB8.out.kept HK8A.out n2)
  have HTA := hid (HT.out.kept HKwA.out (fun f => f))
  have HBA := hid (HB.out.same HKwA.out)
  have HKA := hid (HK.out.same HKwA.out)
  go_wp2_with fail
  have he1 := fun W => eq32 (shaF B) (shaF B) (shaF_lt _) (shaF_lt _) (shaF_length _) (shaF_length _) W
  have he2 := fun W => eq32 (macF K B) (macF K B) (shaF_lt _) (shaF_lt _) (shaF_length _) (shaF_length _) W
  rw [decide_eq_true rfl] at he1 he2
  have HAW : Hid (∀ W, Same w10 W → Calls Tryd.prog 11 #[] W (fun e w' => e = .returned (.bool true) ∧ Same W w')) := hid (fun W hW => awake15 W (HTA.out.kept hW (fun f => f)))
  have HRS : Hid (∀ W, Same w10 W → Calls Tryd.prog 12 #[.slice ab nb cb] W (fun e w' => e = .returned (.agg ((shaF B).map byteV).toArray) ∧ Same W w')) := hid (fun W hW => rsum_any W ab nb cb B (HBA.out.same hW) HLB.out (by have := HMB.out; omega))
  have HRM : Hid (∀ W, Same w10 W → Calls Tryd.prog 13 #[.slice ak nk ck, .slice ab nb cb] W (fun e w' => e = .returned (.agg ((macF K B).map byteV).toArray) ∧ Same W w')) := hid (fun W hW => rmac_any W ak nk ck ab nb cb K B (HKA.out.same hW) HLK.out (by have := HMK.out; omega) (HBA.out.same hW) HLB.out (by have := HMB.out; omega))
  have HL1 : Hid (∀ W, Same w10 W → (loadVar 24 ⟨g4, 0, none⟩).run Tryd.prog W = .ok (.agg ((shaF B).map byteV).toArray) W) := hid (fun W hW => run_load15 24 32 _ Tryd.underlying24 rfl Tryd.size32 (HS1.out.kept hW (fun f => f)) ((shaF B).map byteV) (by simp [shaF_length]) (take_all15 (by simp [shaF_length])))
  have HL2 : Hid (∀ W, Same w10 W → (loadVar 24 ⟨g7, 0, none⟩).run Tryd.prog W = .ok (.agg ((macF K B).map byteV).toArray) W) := hid (fun W hW => run_load15 24 32 _ Tryd.underlying24 rfl Tryd.size32 (HS2.out.kept hW (fun f => f)) ((macF K B).map byteV) (by simp [HML.out]) (take_all15 (by simp [HML.out])))
  refine wp_region_same (by kernel_rfl) (by kernel_rfl) ?_
  refine wpq_call rfl 11 #[] (.bool true) (fun W => by go_simp) (calls_same HAW.out) ?_
  simp only [Act.put, List.setIfInBounds_toArray, List.set_cons_zero, List.set_cons_succ]
  refine wpq_value rfl _ (fun W _ => rfl) ?_
  simp only [Act.put, List.setIfInBounds_toArray, List.set_cons_zero, List.set_cons_succ]
  refine wpq_value rfl _ (fun W _ => rfl) ?_
  simp only [Act.put, List.setIfInBounds_toArray, List.set_cons_zero, List.set_cons_succ]
  refine wpq_value rfl (.bool true) (fun W _ => rfl) ?_
  simp only [Act.put, List.setIfInBounds_toArray, List.set_cons_zero, List.set_cons_succ]
  refine wpq_value rfl _ (fun W _ => rfl) ?_
  simp only [Act.put, List.setIfInBounds_toArray, List.set_cons_zero, List.set_cons_succ]
  refine wpq_value rfl _ (fun W _ => rfl) ?_
  simp only [Act.put, List.setIfInBounds_toArray, List.set_cons_zero, List.set_cons_succ]
  refine wpq_value rfl (.bool true) (fun W _ => rfl) ?_
  simp only [Act.put, List.setIfInBounds_toArray, List.set_cons_zero, List.set_cons_succ]
  refine wpq_value rfl _ (fun W _ => rfl) ?_
  simp only [Act.put, List.setIfInBounds_toArray, List.set_cons_zero, List.set_cons_succ]
  refine wpq_value rfl _ (fun W hW => run_load_op _ rfl (HL1.out W hW)) ?_
  simp only [Act.put, List.setIfInBounds_toArray, List.set_cons_zero, List.set_cons_succ]
  refine wpq_value rfl _ (fun W _ => rfl) ?_
  simp only [Act.put, List.setIfInBounds_toArray, List.set_cons_zero, List.set_cons_succ]
  refine wpq_call rfl 12 #[.slice ab nb cb] _ (fun W => by go_simp) (calls_same HRS.out) ?_
  simp only [Act.put, List.setIfInBounds_toArray, List.set_cons_zero, List.set_cons_succ]
  refine wpq_value rfl (.bool true) (fun W hW => by go_simp) ?_
  simp only [Act.put, List.setIfInBounds_toArray, List.set_cons_zero, List.set_cons_succ]
  refine wpq_value rfl (.bool true) (fun W _ => rfl) ?_
  simp only [Act.put, List.setIfInBounds_toArray, List.set_cons_zero, List.set_cons_succ]
  refine wpq_value rfl _ (fun W _ => rfl) ?_
  simp only [Act.put, List.setIfInBounds_toArray, List.set_cons_zero, List.set_cons_succ]
  refine wpq_value rfl _ (fun W hW => run_load_op _ rfl (HL2.out W hW)) ?_
  simp only [Act.put, List.setIfInBounds_toArray, List.set_cons_zero, List.set_cons_succ]
  refine wpq_value rfl _ (fun W _ => rfl) ?_
  simp only [Act.put, List.setIfInBounds_toArray, List.set_cons_zero, List.set_cons_succ]
  refine wpq_value rfl _ (fun W _ => rfl) ?_
  simp only [Act.put, List.setIfInBounds_toArray, List.set_cons_zero, List.set_cons_succ]
  refine wpq_call rfl 13 #[.slice ak nk ck, .slice ab nb cb] _ (fun W => by go_simp) (calls_same HRM.out) ?_
  simp only [Act.put, List.setIfInBounds_toArray, List.set_cons_zero, List.set_cons_succ]
  refine wpq_value rfl (.bool true) (fun W hW => by go_simp) ?_
  simp only [Act.put, List.setIfInBounds_toArray, List.set_cons_zero, List.set_cons_succ]
  refine wpq_value rfl (.bool true) (fun W _ => rfl) ?_
  simp only [Act.put, List.setIfInBounds_toArray, List.set_cons_zero, List.set_cons_succ]
  refine wpq_value rfl (.bool true) (fun W _ => rfl) ?_
  simp only [Act.put, List.setIfInBounds_toArray, List.set_cons_zero, List.set_cons_succ]
  refine wpQuiet_nil ?_
  intro w11 hk11
  have HK11 := hid hk11
  clear hk11
  go_wp2_with fail
  go_ret
  exact ⟨rfl, HKwA.out.trans HK11.out⟩

end Go.Proofs.YtgbfhpilhnbnjaaDoor
