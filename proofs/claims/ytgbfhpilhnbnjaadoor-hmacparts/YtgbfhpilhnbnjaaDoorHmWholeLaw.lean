/-
  HmacWhole's walk.
-/
import Derived.Test.YtgbfhpilhnbnjaaDoorHmQ
namespace Go.Proofs.YtgbfhpilhnbnjaaDoor
open Go.RowKit

theorem keyB_zeros (K : List Nat) (i : Nat) (h : i = 0 ∨ K.length + i ≤ 64) : keyB (K ++ List.replicate i 0) = keyB K := by
  rcases h with rfl | h
  · simp
  · unfold keyB
    have h1 : ¬ 64 < (K ++ List.replicate i 0).length := by simp; omega
    have h2 : ¬ 64 < K.length := by omega
    simp only [if_neg h1, if_neg h2]
    rw [List.append_assoc, List.replicate_append_replicate]
    congr 2
    simp
    omega

theorem macF_zeros (K A : List Nat) (i : Nat) (h : i = 0 ∨ K.length + i ≤ 64) : macF (K ++ List.replicate i 0) A = macF K A := by
  unfold macF
  rw [keyB_zeros K i h]

theorem Fresh.arg {w w' : World} {v : Value} {bs : List Nat} (h : Fresh w w' v bs) (hb : ∀ x ∈ bs, x < 256) : Arg15 w' v bs := by
  refine ⟨(Src.ofRow h.row).mono (fun k e => h.row.lt e), h.row.cap, fun n c e => ?_, hb⟩
  rcases h.row.2 with ⟨e1, hn⟩ | ⟨g, cap, cur, e1, _⟩
  · rw [e] at e1
    injection e1 with _ e2 e3
    exact ⟨e2, e3⟩
  · rw [e] at e1
    cases e1

set_option maxRecDepth 100000 in
set_option maxHeartbeats 1000000 in
theorem whole15 (w : World) (aa ab ak : Option Addr) (na ca nb cb nk ck : Nat) (A B K : List Nat) (more : Int) (ha : Arg15 w (.slice aa na ca) A) (hb : Arg15 w (.slice ab nb cb) B) (hk : Arg15 w (.slice ak nk ck) K)
    (la : A.length = na) (lb : B.length = nb) (lk : K.length = nk) (ma : na ≤ 262144) (mb : nb ≤ 262144) (mk : nk ≤ 262144) (hmo : (Lit.int .i64 more).wf = true) (hT : Tab15 w) :
    Calls Tryd.prog 5 #[.slice aa na ca, .slice ab nb cb, .slice ak nk ck, .int .i64 more] w fun e w' => e = .returned (.bool true) ∧ Same w w' := by
  have HA := hid ha
  have HB := hid hb
  have HK := hid hk
  have HLA := hid la
  have HLB := hid lb
  have HLK := hid lk
  have HT := hid hT
  have HM := hid hmo
  have d1 : decide ((262144 : Int) < (na : Int)) = false := by simp; omega
  have d2 : decide ((262144 : Int) < (nb : Int)) = false := by simp; omega
  have d3 : decide ((262144 : Int) < (nk : Int)) = false := by simp; omega
  have HMA := hid ma
  have HMB := hid mb
  have HMK := hid mk
  clear ha hb hk la lb lk hT hmo ma mb mk
  go_enter Tryd.func5, Tryd.ntmps5
  go_wp2_with fail
  refine (hnew_any w).mono ?_
  rintro e w1 ⟨p, rfl, hH1, hk1, hp1⟩
  have HK1 := hid hk1
  have HT1 := hid (HT.out.kept hk1 (fun f => f))
  have HPN : Hid (p ≠ 0) := hid (by have := HT.out.lt; omega)
  have HW1 := hwrite_any w1 p [] _ (fun k => k < w.heap.size) A hH1 (HA.out.src.kept hk1 (fun _ _ _ f => f)) (fun k hk e => by omega) HA.out.cap HA.out.byt HT1.out HPN.out (by have := HLA.out; have := HMA.out; simp; omega)
  clear hH1 hk1
  go_wp2_with fail
  refine HW1.mono ?_
  rintro e w2 ⟨⟨u2, rfl⟩, hH2, hk2⟩
  have HK2 := hid hk2
  have HT2 := hid (HT1.out.kept hk2 (fun e => HPN.out e.symm))
  have HKw2 : Hid (Same w w2) := hid (HK1.out.then hk2 (fun x hx e => by omega))
  have HW2 := hwrite_any w2 p _ _ (fun k => k < w.heap.size) B hH2 (HB.out.src.kept HKw2.out (fun _ _ _ f => f)) (fun k hk e => by omega) HB.out.cap HB.out.byt HT2.out HPN.out (by have := HLA.out; have := HMA.out; have := HLB.out; have := HMB.out; simp; omega)
  clear hH2 hk2 HW1
  go_wp2_with fail
  refine HW2.mono ?_
  rintro e w3 ⟨⟨u3, rfl⟩, hH3, hk3⟩
  rw [List.nil_append] at hH3
  have H3 := hid hH3
  have HT3 := hid (HT2.out.kept hk3 (fun e => HPN.out e.symm))
  have HKw3 : Hid (Same w w3) := hid (HKw2.out.then hk3 (fun x hx e => by omega))
  clear hH3 hk3 HW2 HK1 HK2 HKw2 HT1 HT2
  go_wp2_with (at_builtin; (first
    | (refine wpList_append_any _ rfl (.tmp 36) (.tmp 37) rfl (.slice none 0 0) [] rfl (row_none15 _) (fun k => k < w3.heap.size) (.slice aa na ca) A rfl HA.out.nil (HA.out.same HKw3.out).src (by have := HLA.out; have := HMA.out; simp; omega) ?_; intro v4 w4 hr4 hg4 hv4; have HF4 : Hid (Fresh w3 w4 v4 A) := hid ⟨by simpa using hr4, (Kept.refl _ _).grown hg4 (fun k e => by cases e), fun k hk => by rcases hv4 with q | q; (rw [q] at hk; cases hk); (rw [q] at hk; cases hk; exact Nat.le_refl _)⟩; clear hr4 hg4 hv4)
    | (refine wpList_append_any _ rfl (.tmp 39) (.tmp 40) rfl v4 A rfl HF4.out.row (fun k => k < w4.heap.size) (.slice ab nb cb) B rfl HB.out.nil (HB.out.same (HKw3.out.trans HF4.out.kept)).src (by have := HLA.out; have := HMA.out; have := HLB.out; have := HMB.out; simp; omega) ?_; intro v5 w5 hr5 hg5 hv5; have HF5 : Hid (Fresh w3 w5 v5 (A ++ B)) := hid (HF4.out.app' hr5 hg5 hv5); clear hr5 hg5 hv5)))
  have HAB : Hid (∀ x ∈ A ++ B, x < 256) := hid (fun x hx => (List.mem_append.1 hx).elim (HA.out.byt x) (HB.out.byt x))
  have HG5 := hid (HF5.out.arg HAB.out)
  have HT5 := hid (HT3.out.kept HF5.out.kept (fun f => f))
  have HPS := psum_any w5 v5 _ (A ++ B) HG5.out.src (fun k hk => hk) HG5.out.cap HAB.out HT5.out (by have := HLA.out; have := HMA.out; have := HLB.out; have := HMB.out; simp; omega)
  refine HPS.mono ?_
  rintro e w6 ⟨rfl, hk6⟩
  obtain ⟨S, hS⟩ : ∃ S, S = shaF (A ++ B) := ⟨_, rfl⟩
  have HSL : Hid (S.length = 32) := hid (by rw [hS]; exact shaF_length _)
  have HSB : Hid (∀ x ∈ S, x < 256) := hid (by rw [hS]; exact shaF_lt _)
  rw [← hS]
  have HS := hid hS
  clear hS HPS
  have HK36 : Hid (Same w3 w6) := hid (Same.trans HF5.out.kept hk6)
  clear hk6
  go_wp2_with (first
    | (with_reducible refine at_alloc 24 11 ?_; refine wpl_alloc 24 _ Tryd.zero32 ?_; intro w7 g7 hB7 hk7 hg7 hl7; have HB7 := hid hB7; have HK7 := hid hk7; clear hB7 hk7)
    | (with_reducible refine at_store 24 11 ?_; refine wpl_store 24 32 Tryd.size32 rfl (cells := S.map byteV) rfl HB7.out (by simp) (by simp [HSL.out]) (byteV_one _) ?_; intro w8 hB8 hk8 hs8; have HB8 := hid hB8; have HK8 : Hid (Same w3 w8) := hid ((HK36.out.trans HK7.out).then hk8 (fun x hx e => by have := HK36.out.size; omega)); clear hB8 hk8 hs8 HB7 HK7))
  have H8 := hid (H3.out.kept HK8.out (fun f => f))
  have HT8 := hid (HT3.out.kept HK8.out (fun f => f))
  have HABL : Hid ((A ++ B).length ≤ 600000) := hid (by have := HLA.out; have := HMA.out; have := HLB.out; have := HMB.out; simp; omega)
  have he := fun W => eq32 S S HSB.out HSB.out HSL.out HSL.out W
  rw [decide_eq_true rfl] at he
  have HHS : Hid (∀ W, Same w8 W → Calls Tryd.prog 16 #[.pointer (some ⟨p, 0, none⟩)] W (fun e w' => e = .returned (.agg (S.map byteV).toArray) ∧ Same W w')) := hid (fun W hW => by rw [HS.out]; exact hsum_any W p (A ++ B) (H8.out.kept hW (fun f => f)) (HT8.out.kept hW (fun f => f)) (by have := HABL.out; omega))
  have HSA : Hid (∀ W, Same w8 W → Calls Tryd.prog 17 #[.agg (S.map byteV).toArray, .agg (S.map byteV).toArray] W (fun e w' => e = .returned (.bool true) ∧ Same W w')) := hid (fun W _ => by have h := psame_any W S S HSB.out HSB.out HSL.out HSL.out; rw [decide_eq_true rfl] at h; exact h)
  have HLD : Hid (∀ W, Same w8 W → (loadVar 24 ⟨g7, 0, none⟩).run Tryd.prog W = .ok (.agg (S.map byteV).toArray) W) := hid (fun W hW => run_load15 24 32 _ Tryd.underlying24 rfl Tryd.size32 (HB8.out.kept hW (fun f => f)) (S.map byteV) (by simp [HSL.out]) (take_all15 (by simp [HSL.out])))
  refine wp_region_same (by kernel_rfl) (by kernel_rfl) ?_
  refine wpq_value rfl _ (fun W _ => rfl) ?_
  simp only [Act.put, List.setIfInBounds_toArray, List.set_cons_zero, List.set_cons_succ]
  refine wpq_call rfl 16 #[.pointer (some ⟨p, 0, none⟩)] _ (fun W => by go_simp) (calls_same HHS.out) ?_
  simp only [Act.put, List.setIfInBounds_toArray, List.set_cons_zero, List.set_cons_succ]
  refine wpq_value rfl _ (fun W hW => run_load_op _ rfl (HLD.out W hW)) ?_
  simp only [Act.put, List.setIfInBounds_toArray, List.set_cons_zero, List.set_cons_succ]
  refine wpq_value rfl (.bool false) (fun W hW => by go_simp) ?_
  simp only [Act.put, List.setIfInBounds_toArray, List.set_cons_zero, List.set_cons_succ]
  refine wpq_value rfl _ (fun W _ => rfl) ?_
  simp only [Act.put, List.setIfInBounds_toArray, List.set_cons_zero, List.set_cons_succ]
  refine wpq_value rfl _ (fun W hW => run_load_op _ rfl (HLD.out W hW)) ?_
  simp only [Act.put, List.setIfInBounds_toArray, List.set_cons_zero, List.set_cons_succ]
  refine wpq_value rfl _ (fun W _ => rfl) ?_
  simp only [Act.put, List.setIfInBounds_toArray, List.set_cons_zero, List.set_cons_succ]
  refine wpq_call rfl 16 #[.pointer (some ⟨p, 0, none⟩)] _ (fun W => by go_simp) (calls_same HHS.out) ?_
  simp only [Act.put, List.setIfInBounds_toArray, List.set_cons_zero, List.set_cons_succ]
  refine wpq_call rfl 17 #[.agg (S.map byteV).toArray, .agg (S.map byteV).toArray] _ (fun W => by go_simp) (calls_same HSA.out) ?_
  simp only [Act.put, List.setIfInBounds_toArray, List.set_cons_zero, List.set_cons_succ]
  refine wpq_value rfl (.bool false) (fun W _ => rfl) ?_
  simp only [Act.put, List.setIfInBounds_toArray, List.set_cons_zero, List.set_cons_succ]
  refine wpq_value rfl (.bool false) (fun W _ => rfl) ?_
  simp only [Act.put, List.setIfInBounds_toArray, List.set_cons_zero, List.set_cons_succ]
  refine wpQuiet_nil ?_
  intro w9 hk9
  have HKw9 : Hid (Same w w9) := hid ((HKw3.out.trans HK8.out).trans hk9)
  have HT9 := hid (HT8.out.kept hk9 (fun f => f))
  clear hk9
  go_wp2_with (at_builtin; refine wpList_append_any _ rfl (.tmp 55) (.tmp 56) rfl (.slice none 0 0) [] rfl (row_none15 _) (fun k => k < w9.heap.size) (.slice ak nk ck) K rfl HK.out.nil (HK.out.same HKw9.out).src (by have := HLK.out; have := HMK.out; simp; omega) ?_; intro v10 w10 hr10 hg10 hv10; have HF10 : Hid (Fresh w9 w10 v10 (K ++ List.replicate 0 0)) := hid ⟨by simpa using hr10, (Kept.refl _ _).grown hg10 (fun k e => by cases e), fun k hk => by rcases hv10 with q | q; (rw [q] at hk; cases hk); (rw [q] at hk; cases hk; exact Nat.le_refl _)⟩; clear hr10 hg10 hv10)
  have HV10 := hid HF10.out.row.shape
  obtain ⟨a10, c10, e10, _⟩ := HV10.out
  rw [e10] at HF10 ⊢
  have hl10 : (K ++ List.replicate 0 0).length = nk := by rw [← HLK.out]; simp
  rw [hl10] at HF10 ⊢
  clear e10 hl10 HV10
  go_loopg [12, 13] 64 (fun k o z wr => ∃ (i l : Nat) (a : Option Addr) (c : Nat), i ≤ 64 ∧ 64 - i ≤ k ∧ z = .int .i64 (i : Nat) ∧ l = nk + i ∧ (i = 0 ∨ l ≤ 64) ∧ o = .slice a l c ∧ Hid (Fresh w9 wr (.slice a l c) (K ++ List.replicate i 0)))
  case atStart => exact ⟨0, nk, a10, c10, by omega, by omega, rfl, by omega, .inl rfl, rfl, HF10⟩
  case round =>
    clear HF10
    obtain ⟨i, l, a, c, hi, hik, rfl, hl, hor, rfl, HF⟩ := hrel
    have HL := hid hl
    have HOR := hid hor
    clear hor
    by_cases h12 : (i : Int) < more ∧ l < 64
    · obtain ⟨h1, h2⟩ := h12
      have q1 : decide ((i : Int) < more) = true := by simp [h1]
      have q2 : decide ((l : Int) < 64) = true := by simp; omega
      have hi63 : i < 64 := by omega
      have HL2 : Hid ((K ++ List.replicate i 0).length + [0].length ≤ 1000000000000) := hid (by have := HLK.out; simp; omega)
      clear hl
      go_wp2_with (at_builtin; refine wpList_append_row _ rfl (.tmp 68) (.tmp 69) rfl (.slice a l c) (K ++ List.replicate i 0) rfl (World.ownsRow.alloc HF.out.row _) ⟨wr.heap.size, 0, none⟩ 1 1 [0] rfl rfl (bytesAt_int _ _ _ (by omega)) HL2.out ?_; intro v' w11 hrow hgr hv'; have HF1 : Hid (Fresh w9 w11 v' (K ++ List.replicate (i + 1) 0)) := hid (by have h := HF.out.app hrow hgr hv'; rw [List.append_assoc, ← List.replicate_succ'] at h; exact h); obtain ⟨a9, c9, e9, _⟩ := HF1.out.row.shape; clear hrow hgr hv')
      go_roundg (gk - 1)
      case measure => omega
      case rel =>
        have hL := HL.out
        have hKL := HLK.out
        refine ⟨i + 1, nk + (i + 1), a9, c9, by omega, by omega, by go_num, rfl, .inr (by omega), by first | (rw [hKL]) | (rw [e9]; simp [hKL]), ?_⟩
        rw [e9] at HF1
        simp only [List.length_append, List.length_replicate, hKL] at HF1
        exact HF1
    · have hex : decide ((i : Int) < more) = false ∨ (decide ((i : Int) < more) = true ∧ decide ((l : Int) < 64) = false) := by
        by_cases h1 : (i : Int) < more
        · exact .inr ⟨by simp [h1], by simp; omega⟩
        · exact .inl (by simp; omega)
      have HKwr : Hid (Same w wr) := hid (HKw9.out.trans HF.out.kept)
      have HTr := hid (HT9.out.kept HF.out.kept (fun f => f))
      have HGR : Hid (Arg15 wr (.slice a l c) (K ++ List.replicate i 0)) := hid (HF.out.arg (fun x hx => (List.mem_append.1 hx).elim (HK.out.byt x) (fun q => by have := List.eq_of_mem_replicate q; omega)))
      have HMC : Hid (macF (K ++ List.replicate i 0) A = macF K A) := hid (macF_zeros K A i (by have h1 := HOR.out; have h2 := HL.out; have h3 := HLK.out; omega))
      have HWL : Hid ((K ++ List.replicate i 0).length ≤ 400000000) := hid (by have h2 := HL.out; have h3 := HLK.out; have h4 := HMK.out; simp; omega)
      have hem := fun W => eq32 (macF K A) (macF K A) (shaF_lt _) (shaF_lt _) (shaF_length _) (shaF_length _) W
      rw [decide_eq_true rfl] at hem
      have HEM := hid hem
      clear hl h12 hem
      rcases hex with q1 | ⟨q1, q2⟩
      all_goals
        go_wp2_with fail
        refine (awake15 wr HTr.out).mono ?_
        rintro e w12 ⟨rfl, hk12⟩
        have HK12 := hid hk12
        clear hk12
        have HG12 := hid (HGR.out.same HK12.out)
        have HA12 := hid ((HA.out.same HKwr.out).same HK12.out)
        have HT12 := hid (HTr.out.kept HK12.out (fun f => f))
        have HMA1 := pmac_any w12 (.slice a l c) (.slice aa na ca) _ _ (K ++ List.replicate i 0) A HG12.out.src (fun k hk => hk) HG12.out.cap HG12.out.byt HWL.out HA12.out.src (fun k hk => hk) HA12.out.cap HA12.out.byt (by have := HLA.out; have := HMA.out; omega) HT12.out
        rw [HMC.out] at HMA1
        go_wp2_with fail
        refine HMA1.mono ?_
        rintro e w13 ⟨rfl, hk13⟩
        have HK13 := hid hk13
        clear hk13 HMA1
        have HKK := hid (((HK.out.same HKwr.out).same HK12.out).same HK13.out)
        have HAA := hid (HA12.out.same HK13.out)
        have HMA2 := pmac_any w13 (.slice ak nk ck) (.slice aa na ca) _ _ K A HKK.out.src (fun k hk => hk) HKK.out.cap HKK.out.byt (by have := HLK.out; have := HMK.out; omega) HAA.out.src (fun k hk => hk) HAA.out.cap HAA.out.byt (by have := HLA.out; have := HMA.out; omega) (HT12.out.kept HK13.out (fun f => f))
        go_wp2_with fail
        refine HMA2.mono ?_
        rintro e w14 ⟨rfl, hk14⟩
        have HK14 := hid hk14
        clear hk14 HMA2
        have hem := HEM.out
        go_wp2_with fail
        go_ret
        exact ⟨rfl, ((HKwr.out.trans HK12.out).trans HK13.out).trans HK14.out⟩

end Go.Proofs.YtgbfhpilhnbnjaaDoor
