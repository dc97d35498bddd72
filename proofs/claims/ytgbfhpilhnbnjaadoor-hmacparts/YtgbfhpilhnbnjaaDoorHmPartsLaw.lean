/-
  HmacParts' walk.
-/
import Derived.Test.YtgbfhpilhnbnjaaDoorHmPt
import Derived.Test.YtgbfhpilhnbnjaaDoorHmSumsLaw
import Derived.Test.YtgbfhpilhnbnjaaDoorHmAll
namespace Go.Proofs.YtgbfhpilhnbnjaaDoor
open Go.RowKit

theorem allP_lt {W : World} {a : Option Addr} {len : Nat} {P : Nat → Pt15} (h : Pts15 W a len P) (i : Nat) (hi : i ≤ len) : ∀ x ∈ allP P i, x < 256 := by
  induction i with
  | zero => simp [allP]
  | succ i ih =>
    intro x hx
    rcases List.mem_append.1 hx with q | q
    · exact ih (by omega) x q
    · exact (h i (by omega)).1.1.byt x q

/-- What was written so far is one part more. -/
theorem part_step {w w3 w6 w7 : World} {p : Nat} {v v7 : Value} {a b c : List Nat} (hc : c = a ++ b) (hn : ∀ k, v.ownBlock = some k → w3.heap.size ≤ k) (hr : Row w7 v7 (a ++ b)) (hg : w6.grownBy w7 v.ownBlock) (hv : v7.ownBlock = v.ownBlock ∨ v7.ownBlock = some w6.heap.size)
    (hk : Kept (· = p) w3 w6) (hw : Same w w6) (hH : Hs w6 p c) (hp3 : p < w3.heap.size) (hw3 : w.heap.size ≤ w3.heap.size) : (Fresh w w7 v7 c ∧ ∀ k, v7.ownBlock = some k → w3.heap.size ≤ k) ∧ Kept (· = p) w3 w7 ∧ Same w w7 ∧ Hs w7 p c := by
  have h7 : ∀ k, v7.ownBlock = some k → w3.heap.size ≤ k := by
    intro k e
    rcases hv with q | q
    · exact hn k (by rw [← q]; exact e)
    · rw [q] at e; injection e with e; have := hk.size; omega
  have hw7 : Same w w7 := Kept.grown hw hg (fun k e => .inr (by have := hn k e; omega))
  refine ⟨⟨⟨by rw [hc]; exact hr, hw7, fun k e => by have := h7 k e; omega⟩, h7⟩, Kept.grown hk hg (fun k e => .inr (hn k e)), hw7, ?_⟩
  exact hH.kept (F := fun k => v.ownBlock = some k) (Kept.grown (Kept.refl _ w6) hg (fun k e => .inl e)) (fun e => by have := hn p e; omega)

set_option maxRecDepth 100000 in
set_option maxHeartbeats 2000000 in
theorem parts15 (w : World) (ap ak : Option Addr) (np cp nk ck : Nat) (P : Nat → Pt15) (B : Nat → Bool) (hp : Pts15 w ap np P) (hB : Bls15 w ak nk B) (mp : np ≤ 200) (mk : nk ≤ 1000) (hT : Tab15 w) :
    Calls Tryd.prog 4 #[.slice ap np cp, .slice ak nk ck] w fun e w' => e = .returned (.bool true) ∧ Same w w' := by
  have HP := hid hp
  have HBB := hid hB
  have HT := hid hT
  have d1 : decide ((200 : Int) < (np : Int)) = false := by simp; omega
  have d2 : decide ((1000 : Int) < (nk : Int)) = false := by simp; omega
  clear hp hB hT
  have kc := fun (w : World) (C : Array Value) (n c : Nat) => Lib.run_convert_bytes_const (P := Tryd.prog) w 22 5 C n c Tryd.underlying22 Tryd.underlying5
  go_enter Tryd.func4, Tryd.ntmps4
  go_wp2_with fail
  refine (hnew_any w).mono ?_
  rintro e w1 ⟨p, rfl, hH1, hk1, hp1⟩
  have H1 := hid hH1
  have HK1 : Hid (Same w w1) := hid hk1
  have HT1 := hid (HT.out.kept hk1 (fun f => f))
  have HPN : Hid (p ≠ 0) := hid (by have := HT.out.lt; omega)
  have hpl := hH1.lt
  clear hH1 hk1
  go_wp2_with fail
  refine (hnew_any w1).mono ?_
  rintro e w2 ⟨q, rfl, hH2, hk2, hq1⟩
  have H2p := hid (H1.out.kept hk2 (fun f => f))
  have H2q := hid hH2
  have HK2 : Hid (Same w w2) := hid (HK1.out.trans hk2)
  have HT2 := hid (HT1.out.kept hk2 (fun f => f))
  have HQN : Hid (q ≠ 0) := hid (by have := HT1.out.lt; omega)
  have hql := hH2.lt
  have hpq : p ≠ q := by omega
  have hs12 := hk2.size
  obtain ⟨wa, hwa⟩ : ∃ W, W = w2.alloc (.cells #[.int .u8 111, .int .u8 116, .int .u8 104, .int .u8 101, .int .u8 114] 5 (5, 6)) := ⟨_, rfl⟩
  have hka : Same w2 wa := by rw [hwa]; exact (Kept.refl _ w2).alloc _
  have HSa : Hid (Src wa (· = w2.heap.size) (.slice (some ⟨w2.heap.size, 0, none⟩) 5 5) [111, 116, 104, 101, 114]) := hid (by rw [hwa]; exact src_mark15 w2 [111, 116, 104, 101, 114] 5 (5, 6) rfl)
  have HW := hwrite_any wa q [] _ _ [111, 116, 104, 101, 114] (H2q.out.kept hka (fun f => f)) HSa.out (fun k hk e => by omega) (slice_same_cap _ _) (by decide) (HT2.out.kept hka (fun f => f)) HQN.out (by simp)
  have HKa := hid hka
  clear hH2 hk2 hka HSa
  go_wp2_with fail
  rw [← hwa]
  clear hwa
  refine HW.mono ?_
  rintro e w3 ⟨⟨u3, rfl⟩, hH3, hk3⟩
  have HQ3 := hid hH3
  rw [List.nil_append] at HQ3
  have HKw3 : Hid (Same w w3) := hid ((HK2.out.trans HKa.out).then hk3 (fun x hx e => by have := HK1.out.size; omega))
  have HP3 : Hid (Hs w3 p (allP P 0)) := hid ((H2p.out.kept HKa.out (fun f => f)).kept hk3 hpq)
  have HF3 : Hid (Fresh w w3 (.slice none 0 0) (allP P 0) ∧ ∀ k, (Value.slice none 0 0).ownBlock = some k → w3.heap.size ≤ k) := hid ⟨⟨row_none15 _, HKw3.out, fun k e => by cases e⟩, fun k e => by cases e⟩
  have hp3 := HP3.out.lt
  have hq3 := HQ3.out.lt
  have hwp : w.heap.size ≤ p := hp1
  have hwq : w.heap.size ≤ q := by have := HK1.out.size; omega
  clear hH3 hk3 HW HKa HK2 HT1 HT2 H1 H2p H2q hq1 hp1 hpl hql hs12
  go_wp2_with fail
  go_loopg [7, 8, 9] np (fun k y z _ wr => ∃ (i : Nat) (av : Option Addr) (nv cv : Nat), i ≤ np ∧ np - i ≤ k ∧ z = .int .i64 (i : Nat) ∧ y = .slice av nv cv ∧ Hid ((allP P i).length = nv ∧ nv ≤ 4096 * i) ∧ Hid (Fresh w wr (.slice av nv cv) (allP P i) ∧ ∀ k, (Value.slice av nv cv).ownBlock = some k → w3.heap.size ≤ k) ∧ Hid (Hs wr p (allP P i)) ∧ Hid (Kept (· = p) w3 wr))
  case atStart => exact ⟨0, none, 0, 0, by omega, by omega, rfl, rfl, hid ⟨rfl, by omega⟩, HF3, HP3, hid (Kept.refl _ _)⟩
  case round =>
    clear HF3 HP3
    obtain ⟨i, av, nv, cv, hi, hik, rfl, rfl, HNV, HFi, HPi, HKi⟩ := hrel
    have HKwi : Hid (Same w wr) := hid (HKw3.out.then HKi.out (fun x hx e => by omega))
    have HTi := hid (HT.out.kept HKwi.out (fun f => f))
    by_cases hlt : i < np
    · obtain ⟨hA, hL, b0, o0, rfl, hc⟩ := HP.out.at HKwi.out i hlt
      have HPS : Hid (allP P (i + 1) = allP P i ++ (P i).bs) := hid rfl
      have HAi := hid hA
      have HAW : Hid (∀ W, Same w W → Arg15 W (.slice (P i).a (P i).n (P i).c) (P i).bs) := hid (fun W hW => (HP.out.at hW i hlt).1)
      have HLi := hid hL
      have HCi : Hid (∀ W, Same w W → W.cell? ⟨b0, o0 + i, none⟩ = some (.slice (P i).a (P i).n (P i).c)) := hid (fun W hW => by
        obtain ⟨_, _, b1, o1, e1, h1⟩ := HP.out.at hW i hlt
        injection e1 with e1
        injection e1 with e2 e3 _
        rw [e2, e3]
        exact h1)
      obtain ⟨pa, hpa⟩ : ∃ x, x = (P i).a := ⟨_, rfl⟩
      obtain ⟨pn, hpn⟩ : ∃ x, x = (P i).n := ⟨_, rfl⟩
      obtain ⟨pc, hpc⟩ : ∃ x, x = (P i).c := ⟨_, rfl⟩
      obtain ⟨bs, hbs⟩ : ∃ x, x = (P i).bs := ⟨_, rfl⟩
      rw [← hpa, ← hpn, ← hpc] at hc HCi
      rw [← hpa, ← hpn, ← hpc, ← hbs] at HAi HAW
      rw [← hpn, ← hbs] at HLi
      rw [← hbs] at HPS
      have q1 : (0 : Int) ≤ (i : Int) := by omega
      have q2 : (i : Int) < (np : Int) := by omega
      clear hA hL hpa hpn hpc hbs
      by_cases hbig : 4096 < pn
      · have d3 : decide ((4096 : Int) < (pn : Int)) = true := by simp; omega
        go_wp2_with fail
        go_ret
        exact ⟨rfl, HKwi.out⟩
      · have d3 : decide ((4096 : Int) < (pn : Int)) = false := by simp; omega
        have HSM : Hid (pn ≤ 4096) := hid (by omega)
        clear hbig
        go_wp2_with fail
        refine (lend_any wr _ _ bs HAi.out.src (by have := HLi.out; have := HSM.out; omega)).mono ?_
        rintro e w4 ⟨gx, rfl, hR4, hk4, hgx⟩
        have HX4 := hid hR4
        have HK4 : Hid (Same wr w4) := hid hk4
        have hgx4 : gx < w4.heap.size := hR4.lt rfl
        have hs4 := hk4.size
        clear hR4 hk4 hc
        rw [HLi.out]
        have HSX := hid (lent_src HX4.out)
        rw [HLi.out] at HSX
        have hs3i := HKi.out.size
        have HWR := hwrite_any w4 p _ _ _ bs (HPi.out.kept HK4.out (fun f => f)) HSX.out (fun k hk e => by omega) (fun a n c e => by injection e; omega) HAi.out.byt (HTi.out.kept HK4.out (fun f => f)) HPN.out (by have := HNV.out; have := HLi.out; have := HSM.out; omega)
        go_wp2_with fail
        refine HWR.mono ?_
        rintro e w5 ⟨⟨u5, rfl⟩, hH5, hk5⟩
        rw [← HPS.out] at hH5
        have HP5 := hid hH5
        have HK5 : Hid (Kept (· = p) wr w5) := hid (Kept.trans HK4.out hk5 (fun _ _ f => f.elim) (fun _ _ e => e))
        have HX5 := hid (HX4.out.kept hk5 (fun k hk e => by have h : gx = k := Option.some.inj hk; omega))
        have HKw5 : Hid (Same w w5) := hid (HKwi.out.then HK5.out (fun x hx e => by omega))
        have c5 := HCi.out w5 HKw5.out
        have hs5 := hk5.size
        clear hH5 hk5 HWR
        have HBK := keepBack_any w5 gx _ _ bs HX5.out (HAW.out w5 HKw5.out).src (by have := HLi.out; have := HSM.out; omega) HAi.out.byt
        rw [HLi.out] at HBK
        go_wp2_with fail
        refine HBK.mono ?_
        rintro e w6 ⟨rfl, hk6⟩
        have HK6 : Hid (Kept (fun k => k = p ∨ k = gx) wr w6) := hid (Kept.trans HK5.out hk6 (fun _ _ e => .inl e) (fun _ _ e => .inr e))
        have HP6 := hid (HP5.out.kept hk6 (by omega))
        have HKw6 : Hid (Same w w6) := hid (HKw5.out.then hk6 (fun x hx e => by omega))
        have HF6 : Hid (Row w6 (.slice av nv cv) (allP P i)) := hid (HFi.out.1.row.kept HK6.out (fun k hk e => by have h1 := HFi.out.2 k hk; have h2 := HFi.out.1.row.lt hk; omega))
        have HK36 : Hid (Kept (· = p) w3 w6) := hid (Kept.trans HKi.out HK6.out (fun _ _ e => e) (fun x hx e => by omega))
        have c6 := HCi.out w6 HKw6.out
        have hs6 := hk6.size
        clear hk6 HBK c5
        go_upto_region 19 with (at_builtin; refine wpList_append_any _ rfl (.tmp 57) (.tmp 61) rfl (.slice av nv cv) (allP P i) rfl HF6.out _ (.slice pa pn pc) bs rfl HAi.out.nil (HAW.out w6 HKw6.out).src (by have := HNV.out; have := HLi.out; have := HSM.out; omega) ?_; intro v7 w7 hr7 hg7 hv7; have HF7 : Hid ((Fresh w w7 v7 (allP P (i + 1)) ∧ ∀ k, v7.ownBlock = some k → w3.heap.size ≤ k) ∧ Kept (· = p) w3 w7 ∧ Same w w7 ∧ Hs w7 p (allP P (i + 1))) := hid (part_step HPS.out HFi.out.2 hr7 hg7 hv7 HK36.out HKw6.out HP6.out (by omega) (by omega)); clear hr7 hg7 hv7)
        obtain ⟨a7, c7, e7, _⟩ := HF7.out.1.1.row.shape
        obtain ⟨n7, hn7⟩ : ∃ n, n = (allP P (i + 1)).length := ⟨_, rfl⟩
        have HN7 : Hid ((allP P (i + 1)).length = n7 ∧ n7 ≤ 4096 * (i + 1)) := hid ⟨hn7.symm, by rw [hn7, HPS.out, List.length_append]; have h1 := HNV.out; have h2 := HLi.out; have h3 := HSM.out; omega⟩
        rw [← hn7] at e7
        rw [e7] at HF7 ⊢
        clear e7 hn7 c6
        have HK37 := hid HF7.out.2.1
        have HKw7 := hid HF7.out.2.2.1
        have HP7 := hid HF7.out.2.2.2
        have HT7 := hid (HT.out.kept HKw7.out (fun f => f))
        have HFa := hid HF7.out.1
        have HALL : Hid (∀ x ∈ allP P (i + 1), x < 256) := hid (allP_lt HP.out (i + 1) (by omega))
        clear HF7
        by_cases hik2 : i < nk
        case' neg =>
          have e1 : decide ((i : Int) < (nk : Int)) = false := by simp; omega
          go_wp2_with fail
          go_roundg (gk - 1)
          case measure => omega
          case rel => exact ⟨i + 1, a7, n7, c7, by omega, by omega, by go_num, rfl, HN7, HFa, HP7, HK37⟩
        case' pos =>
          have e1 : decide ((i : Int) < (nk : Int)) = true := by simp; omega
          obtain ⟨b1, o1, rfl, hb1⟩ := HBB.out i hik2
          have cb := HKw7.out.cell hb1 (fun f => f)
          have q3 : (i : Int) < (nk : Int) := by omega
          clear hb1
          cases hBi : B i with
          | false =>
            rw [hBi] at cb
            go_wp2_with fail
            go_roundg (gk - 1)
            case measure => omega
            case rel => exact ⟨i + 1, a7, n7, c7, by omega, by omega, by go_num, rfl, HN7, HFa, HP7, HK37⟩
          | true =>
            rw [hBi] at cb
            have HSU := hsum_any w7 p _ HP7.out HT7.out (by have := HN7.out; omega)
            go_wp2_with fail
            refine HSU.mono ?_
            rintro e w8 ⟨rfl, hk8⟩
            have HK8 := hid hk8
            have HG8 : Hid (Arg15 w8 (.slice a7 n7 c7) (allP P (i + 1))) := hid ((HFa.out.1.arg HALL.out).same hk8)
            have HRS := rsum_any w8 a7 n7 c7 _ HG8.out HN7.out.1 (by have := HN7.out; omega)
            have he := fun W => eq32 (shaF (allP P (i + 1))) (shaF (allP P (i + 1))) (shaF_lt _) (shaF_lt _) (shaF_length _) (shaF_length _) W
            rw [decide_eq_true rfl] at he
            clear hk8 HSU cb
            go_wp2_with fail
            refine HRS.mono ?_
            rintro e w9 ⟨rfl, hk9⟩
            have HK9 : Hid (Same w7 w9) := hid (HK8.out.trans hk9)
            have HF9 : Hid (Fresh w w9 (.slice a7 n7 c7) (allP P (i + 1)) ∧ ∀ k, (Value.slice a7 n7 c7).ownBlock = some k → w3.heap.size ≤ k) := hid ⟨⟨HFa.out.1.row.kept HK9.out (fun _ _ f => f), HKw7.out.trans HK9.out, HFa.out.1.new⟩, HFa.out.2⟩
            have HP9 := hid (HP7.out.kept HK9.out (fun f => f))
            have HK39 : Hid (Kept (· = p) w3 w9) := hid (Kept.trans HK37.out HK9.out (fun _ _ e => e) (fun _ _ f => f.elim))
            clear hk9 HRS
            go_wp2_with fail
            go_roundg (gk - 1)
            case measure => omega
            case rel => exact ⟨i + 1, a7, n7, c7, by omega, by omega, by go_num, rfl, HN7, HF9, HP9, HK39⟩
    · have hin : i = np := by omega
      subst hin
      have HALL : Hid (∀ x ∈ allP P i, x < 256) := hid (allP_lt HP.out i hi)
      have HQi := hid (HQ3.out.kept HKi.out (fun e => hpq e.symm))
      go_wp2_with fail
      refine (awake15 wr HTi.out).mono ?_
      rintro e w4 ⟨rfl, hk4⟩
      have HK4 := hid hk4
      have HT4 := hid (HTi.out.kept hk4 (fun f => f))
      have HSU := hsum_any w4 p _ (HPi.out.kept hk4 (fun f => f)) HT4.out (by have := HNV.out; omega)
      clear hk4
      go_wp2_with fail
      refine HSU.mono ?_
      rintro e w5 ⟨rfl, hk5⟩
      have HK5 : Hid (Same wr w5) := hid (HK4.out.trans hk5)
      have HG5 : Hid (Arg15 w5 (.slice av nv cv) (allP P i)) := hid ((HFi.out.1.arg HALL.out).same HK5.out)
      have HRS := rsum_any w5 av nv cv _ HG5.out HNV.out.1 (by have := HNV.out; omega)
      have he := fun W => eq32 (shaF (allP P i)) (shaF (allP P i)) (shaF_lt _) (shaF_lt _) (shaF_length _) (shaF_length _) W
      rw [decide_eq_true rfl] at he
      have he2 := fun W => eq32 (shaF [111, 116, 104, 101, 114]) (shaF [111, 116, 104, 101, 114]) (shaF_lt _) (shaF_lt _) (shaF_length _) (shaF_length _) W
      rw [decide_eq_true rfl] at he2
      clear hk5 HSU
      go_wp2_with fail
      refine HRS.mono ?_
      rintro e w6 ⟨rfl, hk6⟩
      have HK6 : Hid (Same wr w6) := hid (HK5.out.trans hk6)
      have HT6 := hid (HTi.out.kept HK6.out (fun f => f))
      have HSQ := hsum_any w6 q _ (HQi.out.kept HK6.out (fun f => f)) HT6.out (by simp)
      clear hk6 HRS
      go_wp2_with fail
      refine HSQ.mono ?_
      rintro e w7 ⟨rfl, hk7⟩
      have HK7 : Hid (Same wr w7) := hid (HK6.out.trans hk7)
      have HT7 := hid (HTi.out.kept HK7.out (fun f => f))
      clear hk7 HSQ
      obtain ⟨wa7, hwa7⟩ : ∃ W, W = w7.alloc (.cells #[.int .u8 111, .int .u8 116, .int .u8 104, .int .u8 101, .int .u8 114] 5 (5, 6)) := ⟨_, rfl⟩
      have hka7 : Same w7 wa7 := by rw [hwa7]; exact (Kept.refl _ w7).alloc _
      have HSa7 : Hid (Src wa7 (· = w7.heap.size) (.slice (some ⟨w7.heap.size, 0, none⟩) 5 5) [111, 116, 104, 101, 114]) := hid (by rw [hwa7]; exact src_mark15 w7 [111, 116, 104, 101, 114] 5 (5, 6) rfl)
      have hsz7 : w7.heap.size < wa7.heap.size := by rw [hwa7]; simp
      have HPS := psum_any wa7 _ _ [111, 116, 104, 101, 114] HSa7.out (fun k hk => by omega) (slice_same_cap _ _) (by decide) (HT7.out.kept hka7 (fun f => f)) (by simp)
      have HKa7 := hid hka7
      clear hka7 HSa7 hsz7
      go_wp2_with fail
      rw [← hwa7]
      clear hwa7
      refine HPS.mono ?_
      rintro e w8 ⟨rfl, hk8⟩
      have HK8 : Hid (Same wr w8) := hid ((HK7.out.trans HKa7.out).trans hk8)
      clear hk8 HPS
      go_wp2_with fail
      go_ret
      exact ⟨rfl, HKwi.out.trans HK8.out⟩

set_option maxRecDepth 100000 in
set_option maxHeartbeats 400000 in
theorem hmacParts_all (a : Option Addr) (len cap : Nat) (P : Nat → Pt15) (a1 : Option Addr) (len1 cap1 : Nat) (B : Nat → Bool) (W : World) (h : Pts15 W a len P) (h1 : Bls15 W a1 len1 B) (hT : Tab15 W) :
    Calls Tryd.prog 4 #[.slice a len cap, .slice a1 len1 cap1] W fun e w' => e = .returned (.bool true) ∧ Below W.heap.size W w' := by
  by_cases q1 : 200 < len
  · have d1 : decide ((200 : Int) < (len : Int)) = true := by simp; omega
    clear h h1 hT q1
    go_enter Tryd.func4, Tryd.ntmps4
    go_wp2_with fail
    go_ret
    exact ⟨rfl, (Kept.refl _ W).below (F := fun _ => False) (Nat.le_refl _) (fun _ _ f => f)⟩
  by_cases q2 : 1000 < len1
  · have d1 : decide ((200 : Int) < (len : Int)) = false := by simp; omega
    have d2 : decide ((1000 : Int) < (len1 : Int)) = true := by simp; omega
    clear h h1 hT q1 q2
    go_enter Tryd.func4, Tryd.ntmps4
    go_wp2_with fail
    go_ret
    exact ⟨rfl, (Kept.refl _ W).below (F := fun _ => False) (Nat.le_refl _) (fun _ _ f => f)⟩
  exact (parts15 W a a1 len cap len1 cap1 P B h h1 (by omega) (by omega) hT).mono (fun _ _ h => ⟨h.1, h.2.bel15⟩)

end Go.Proofs.YtgbfhpilhnbnjaaDoor
