/-
  Of the proof: parts InAx, InNilLaw.
-/
import Derived.Laws.BytesArg
import Derived.Test.YtmlpnidngaelnaaDoorJ19
import Derived.Test.YtmlpnidngaelnaaDoorJ6

/-
  The law's awake, walked.
-/
namespace Go.Proofs.YtmlpnidngaelnaaDoor
open Go.RowKit

theorem str_of {w : World} {g n c : Nat} {bs : List Nat} (h : Row w (.slice (some ⟨g, 0, none⟩) n c) bs) (hn : bs.length = n) : (convert 22 9 (.slice (some ⟨g, 0, none⟩) n c)).run Tryd.prog w = .ok (.string (strOfNums (bs.map (fun b => ((b : Nat) : Int))))) w := by
  subst hn
  exact run_convert_bytes_arg (P := Tryd.prog) w 22 5 Tryd.underlying22 Tryd.underlying5 g 0 bs.length c (bs.map (fun b => ((b : Nat) : Int))) (by simp) (fun i hi => by rw [Nat.zero_add, Row.cell h i hi]; simp [List.getD, hi]) 9 Tryd.underlying9

theorem Row.addr {w : World} {a : Option Addr} {n c : Nat} {bs : List Nat} (h : Row w (.slice a n c) bs) (hb : bs ≠ []) : ∃ g, a = some ⟨g, 0, none⟩ := by
  obtain ⟨ao, cap, e, hg⟩ := h.shape
  simp only [Value.slice.injEq] at e
  rw [e.1]
  exact hg hb

set_option maxRecDepth 100000 in
set_option maxHeartbeats 4000000 in
theorem iawake_any (w : World) (hT : Tab w) : Calls Tryd.prog 8 #[] w fun x w' => x = .returned (.bool true) ∧ Same w w' := by
  have H1 := pinfl_lit w [75, 76, 74, 6, 0] 5 9 rfl (by decide) (by decide) (by decide) hT
  have HE1 : Hid (Ends (ofBytes [75, 76, 74, 6, 0]) 9 ps0 ⟨34, [97, 98, 99], some (.sym true fixL fixD)⟩ 0) := hid (by
    have := ends_abc [] (by simp)
    rwa [List.append_nil] at this)
  have HT : Hid (Tab w) := hT
  clear hT
  go_enter Tryd.func8, Tryd.ntmps8
  go_wp2_with fail
  refine H1.mono ?_
  rintro x w1 hi
  obtain ⟨v1, rfl, hr1, hv1, hk1⟩ := hi.is HE1.out
  have HK1 : Hid (Same w w1) := hid (Same.trans ((Kept.refl _ w).alloc _) hk1)
  have HR1 : Hid (Row w1 v1 [97, 98, 99]) := hr1
  obtain ⟨a1, c1, rfl, _⟩ := HR1.out.shape
  have H2 := pinfl_lit w1 [75, 132, 0, 0] 4 99 rfl (by decide) (by decide) (by decide) (HT.out.kept HK1.out (fun f => f))
  have HV1 := hid hv1
  clear hi hr1 hv1 hk1 H1
  go_wp2_with fail
  refine H2.mono ?_
  rintro x w2 hi
  obtain ⟨v2, rfl, hr2, hv2, hk2⟩ := hi.is ends_as
  have hk12 : Same w1 w2 := Same.trans ((Kept.refl _ w1).alloc _) hk2
  have HK2 : Hid (Same w w2) := hid (Same.trans HK1.out hk12)
  have HR1' : Hid (Row w2 (.slice a1 3 c1) [97, 98, 99]) := hid (HR1.out.kept hk12 (fun _ _ f => f))
  have HR2 : Hid (Row w2 v2 [97, 97, 97, 97, 97, 97, 97]) := hr2
  obtain ⟨a2, c2, rfl, _⟩ := HR2.out.shape
  have H3 := pinfl_lit w2 [7] 1 9 rfl (by decide) (by decide) (by decide) (HT.out.kept HK2.out (fun f => f))
  have HV2 := hid hv2
  clear hi hr2 hv2 hk2 H2 HR1 hk12
  go_wp2_with fail
  refine H3.mono ?_
  rintro x w3 hi
  obtain ⟨rfl, hk3⟩ := hi.not ends_kind (by decide)
  have hk23 : Same w2 w3 := Same.trans ((Kept.refl _ w2).alloc _) hk3
  have HK3 : Hid (Same w w3) := hid (Same.trans HK2.out hk23)
  have HR13 : Hid (Row w3 (.slice a1 3 c1) [97, 98, 99]) := hid (HR1'.out.kept hk23 (fun _ _ f => f))
  have HR23 : Hid (Row w3 (.slice a2 7 c2) [97, 97, 97, 97, 97, 97, 97]) := hid (HR2.out.kept hk23 (fun _ _ f => f))
  have H4 := pnewS_good w3 9 (by decide)
  clear hi hk3 H3 HR1' HR2 hk23
  go_wp2_with fail
  refine H4.mono ?_
  rintro x w4 ⟨rfl, hsm4, hk4⟩
  obtain ⟨ρ4, hsi4, hn4, ho4, hz4⟩ := SI.init w4 w3.heap.size 9 hsm4 (by decide) (HT.out.kept (Same.trans HK3.out hk4) (fun f => f)) (by have := (HT.out.kept HK3.out (fun f => f)).lt; omega)
  have H5 := pfeed_lit w4 ρ4 w3.heap.size 9 _ [] ps0 _ _ hsi4 hn4 (by decide) [75, 76] 2 rfl (by decide) (by decide) (by decide)
  have HK4 : Hid (Same w w4) := hid (Same.trans HK3.out hk4)
  have HR14 : Hid (Row w4 (.slice a1 3 c1) [97, 98, 99]) := hid (HR13.out.kept hk4 (fun _ _ f => f))
  have HR24 : Hid (Row w4 (.slice a2 7 c2) [97, 97, 97, 97, 97, 97, 97]) := hid (HR23.out.kept hk4 (fun _ _ f => f))
  have HO4 : Hid (∀ j, own4 (ρ4 j) → j = w3.heap.size) := ho4
  have HZ4 : Hid (∀ j, j ≠ w3.heap.size → j ≠ 0 → ρ4 j = 0) := hz4
  have hlt13 : ∀ k, (Value.slice a1 3 c1).ownBlock = some k → k ≠ w3.heap.size := fun k e => by have := HR13.out.lt e; omega
  have hlt23 : ∀ k, (Value.slice a2 7 c2).ownBlock = some k → k ≠ w3.heap.size := fun k e => by have := HR23.out.lt e; omega
  have HL13 : Hid (∀ k, (Value.slice a1 3 c1).ownBlock = some k → k ≠ w3.heap.size) := hlt13
  have HL23 : Hid (∀ k, (Value.slice a2 7 c2).ownBlock = some k → k ≠ w3.heap.size) := hlt23
  clear hsm4 hk4 hsi4 hn4 ho4 hz4 H4 HR13 HR23 hlt13 hlt23
  go_wp2_with fail
  refine H5.mono ?_
  rintro x w5 hf
  obtain ⟨v5, va5, ρ5, vl5, bv5, rfl, hr5, hv5, hsi5, hn5, hold5, hk5⟩ := hf.waits ends_wait
  have hk45 : Kept (fun j => j = w3.heap.size) w4 w5 := Kept.trans ((Kept.refl (fun _ => False) w4).alloc _) hk5 (fun _ _ f => f.elim) (fun j _ f => HO4.out j f)
  have HK5 : Hid (Same w w5) := hid (Kept.trans HK4.out hk45 (fun _ _ f => f) (fun j hj e => by have := HK3.out.size; omega))
  have HR15 : Hid (Row w5 (.slice a1 3 c1) [97, 98, 99]) := hid (HR14.out.kept hk45 (fun k e e2 => HL13.out k e e2))
  have HR25 : Hid (Row w5 (.slice a2 7 c2) [97, 97, 97, 97, 97, 97, 97]) := hid (HR24.out.kept hk45 (fun k e e2 => HL23.out k e e2))
  have HV5 : Hid (Row w5 v5 [97] ∧ ∀ k, v5.ownBlock = some k → ρ5 k = 0) := hid ⟨hr5, fun k e => (hv5 k e).2⟩
  obtain ⟨a5, c5, rfl, _⟩ := HV5.out.1.shape
  have hz5 : ∀ k, (Value.slice a5 1 c5).ownBlock = some k → ρ5 k = 0 := HV5.out.2
  have h15 : ∀ k, (Value.slice a1 3 c1).ownBlock = some k → ρ5 k = 0 ∨ k = w3.heap.size ∨ k = 0 := fun k e => by
    have h1 := HR14.out.lt e
    rw [hold5 k (by simp; omega)]
    refine Classical.byContradiction (fun hc => ?_)
    simp only [not_or] at hc
    exact hc.1 (HZ4.out k hc.2.1 hc.2.2)
  have h25 : ∀ k, (Value.slice a2 7 c2).ownBlock = some k → ρ5 k = 0 ∨ k = w3.heap.size ∨ k = 0 := fun k e => by
    have h1 := HR24.out.lt e
    rw [hold5 k (by simp; omega)]
    refine Classical.byContradiction (fun hc => ?_)
    simp only [not_or] at hc
    exact hc.1 (HZ4.out k hc.2.1 hc.2.2)
  have HTL : Hid (0 < w.heap.size) := hid HT.out.lt
  have n1 : ∀ k, (Value.slice a1 3 c1).ownBlock = some k → ¬ own4 (ρ5 k) := fun k e f => by
    have h1 := HV1.out k e
    have h2 := HTL.out
    rcases h15 k e with h | h | h
    · rw [h] at f; unfold own4 at f; omega
    · exact HL13.out k e h
    · simp at h1; omega
  have n2 : ∀ k, (Value.slice a2 7 c2).ownBlock = some k → ¬ own4 (ρ5 k) := fun k e f => by
    have h1 := HV2.out k e
    have h2 := HTL.out
    have h3 := HK1.out.size
    rcases h25 k e with h | h | h
    · rw [h] at f; unfold own4 at f; omega
    · exact HL23.out k e h
    · simp at h1; omega
  have n5 : ∀ k, (Value.slice a5 1 c5).ownBlock = some k → ¬ own4 (ρ5 k) := fun k e f => by rw [hz5 k e] at f; unfold own4 at f; omega
  have HN1 := hid n1
  have HN2 := hid n2
  have HN5 := hid n5
  have H6 := pfeed_lit w5 ρ5 w3.heap.size 9 va5 [76] ⟨3, [97], some (.sym true fixL fixD)⟩ vl5 bv5 hsi5 hn5 (by decide) [74, 6, 0, 255] 4 rfl (by decide) (by decide) (by decide)
  clear hf H5
  go_wp2_with fail
  refine H6.mono ?_
  rintro x w6 hf
  obtain ⟨v6, va6, rfl, hr6, hv6, hsm6, ha6, hk6⟩ := hf.dones ends_rest
  have hk56 : Kept (fun j => own4 (ρ5 j)) w5 w6 := Kept.trans ((Kept.refl (fun _ => False) w5).alloc _) hk6 (fun _ _ f => f.elim) (fun _ _ f => f)
  have HR16 := hid (HR15.out.kept hk56 HN1.out)
  have HR26 := hid (HR25.out.kept hk56 HN2.out)
  have HR56 := hid (HV5.out.1.kept hk56 HN5.out)
  have HR66 := hid hr6
  have HK6 : Hid (Same w w6) := hid (Kept.trans HK5.out hk56 (fun _ _ f => f) (fun j hj f => by
    have h1 := HK3.out.size
    have h2 := HK4.out.size
    rw [hold5 j (by simp; omega)] at f
    have := HO4.out j f
    omega))
  obtain ⟨a6, c6, rfl, _⟩ := HR66.out.shape
  obtain ⟨g1, rfl⟩ := HR16.out.addr (by decide)
  obtain ⟨g2, rfl⟩ := HR26.out.addr (by decide)
  obtain ⟨g5, rfl⟩ := HR56.out.addr (by decide)
  obtain ⟨g6, rfl⟩ := HR66.out.addr (by decide)
  have gs1 := str_of HR16.out rfl
  have gs2 := str_of HR26.out rfl
  have gs5 := str_of (n := 1) (show Row w6 (.slice (some ⟨g5, 0, none⟩) 1 c5) [97] from HR56.out) rfl
  have gs6 := str_of (n := 2) (show Row w6 (.slice (some ⟨g6, 0, none⟩) 2 c6) [98, 99] from HR66.out) rfl
  rw [show strOfNums ([97, 98, 99].map (fun b => ((b : Nat) : Int))) = ⟨#[97, 98, 99]⟩ from rfl] at gs1
  rw [show strOfNums ([97, 97, 97, 97, 97, 97, 97].map (fun b => ((b : Nat) : Int))) = ⟨#[97, 97, 97, 97, 97, 97, 97]⟩ from rfl] at gs2
  rw [show strOfNums ([97].map (fun b => ((b : Nat) : Int))) = ⟨#[97]⟩ from rfl] at gs5
  rw [show strOfNums ([98, 99].map (fun b => ((b : Nat) : Int))) = ⟨#[98, 99]⟩ from rfl] at gs6
  have H7 := pdone_any w6 w3.heap.size 0 _ _ va6 0 0 hsm6
  have HSM6 := hid hsm6
  have HRA6 : Hid (Row w6 va6 [255]) := hid ha6
  clear hf H6 hr6 hv6 hsm6 ha6 hk6 hk56 hold5 hz5 h15 h25 n1 n2 n5 HO4 HZ4 hsi5 hn5 hr5 hv5 hk5 hk45
  go_wp2_with fail
  refine H7.mono ?_
  rintro x w7 ⟨rfl, m7, hw7⟩
  have hk67 : Same w6 w7 := by rw [hw7]; exact (Kept.refl _ w6).drewN m7
  have HK7 : Hid (Same w w7) := hid (Same.trans HK6.out hk67)
  have HSM7 := hid (HSM6.out.kept hk67 (fun f => f))
  have H8 := prest_any w7 w3.heap.size 0 _ _ va6 0 [255] (HSM6.out.kept hk67 (fun f => f)) (HRA6.out.kept hk67 (fun _ _ f => f)) (by decide)
  clear hw7 hk67 H7 HSM6 HRA6 gs1 gs2 gs5 gs6
  simp only [show ((0 : Nat) == 0) = true from by decide]
  go_wp2_with fail
  refine H8.mono ?_
  rintro x w8 ⟨v8, rfl, hf8⟩
  have HK8 : Hid (Same w w8) := hid (Same.trans HK7.out hf8.kept)
  have HSM8 := hid (HSM7.out.kept hf8.kept (fun f => f))
  have HR8 : Hid (Row w8 v8 [255]) := hid hf8.row
  have hkl : Same w8 (w8.alloc (.cells ([255].map byteV).toArray 5)) := (Kept.refl _ w8).alloc _
  have H9 := keepBytes_any v8 (.slice (some ⟨w8.heap.size, 0, none⟩) 1 1) _ _ [255] [255] _ (Src.ofRow (HR8.out.kept hkl (fun _ _ f => f))) (Src.ofRow (lit_row w8 [255] 1 rfl (by decide))) (by decide) (by decide)
  obtain ⟨a8, c8, hv8, _⟩ := HR8.out.shape
  rw [hv8] at H9 ⊢
  clear hf8 hkl H8 HSM7 hv8
  go_wp2_with fail
  refine H9.mono ?_
  rintro x w9 ⟨rfl, m9, hw9⟩
  have HK9 : Hid (Same w w9) := hid (by rw [hw9]; exact (Same.trans HK8.out ((Kept.refl _ w8).alloc _)).drewN m9)
  have H10 := pclose_any w9 w3.heap.size _ _ _ _ _ _ (by rw [hw9]; exact HSM8.out.kept (((Kept.refl (fun _ => False) w8).alloc _).drewN m9) (fun f => f))
  clear hw9 H9 HSM8
  go_wp2_with fail
  refine H10.mono ?_
  rintro x w10 ⟨rfl, hw10⟩
  subst hw10
  clear H10
  go_wp2_with fail
  go_ret
  exact ⟨rfl, HK9.out⟩

end Go.Proofs.YtmlpnidngaelnaaDoor

/-
  The law InflateNil.
-/
namespace Go.Proofs.YtmlpnidngaelnaaDoor
open Go.RowKit

set_option maxRecDepth 100000 in
set_option maxHeartbeats 4000000 in
theorem inflateNil_all (a : Option Addr) (len cap : Nat) (zs : List Int) (W : World) (_h : IsRow .u8 W a len cap zs) (hT : Tab W) :
    Calls Tryd.prog 6 #[.slice a len cap] W fun e w' => e = .returned (.bool true) ∧ Below W.heap.size W w' := by
  suffices H : Calls Tryd.prog 6 #[.slice a len cap] W fun e w' => e = .returned (.bool true) ∧ Same W w' from H.mono (fun e w' h => ⟨h.1, h.2.bel⟩)
  by_cases hlong : 65536 < len
  · have b1 : decide ((65536 : Int) < (len : Int)) = true := by simp; omega
    clear hlong hT
    go_enter Tryd.func6, Tryd.ntmps6
    go_wp2_with fail
    go_ret
    exact ⟨rfl, Kept.refl _ _⟩
  · have b1 : decide ((65536 : Int) < (len : Int)) = false := by simp; omega
    have HF := pfeed_nil W (.slice a len cap)
    have HAW := iawake_any W hT
    clear hlong hT
    go_enter Tryd.func6, Tryd.ntmps6
    go_wp2_with fail
    refine HF.mono ?_
    rintro x w1 ⟨rfl, hw1⟩
    subst hw1
    clear HF
    go_wp2_with fail
    refine HAW.mono ?_
    rintro x w2 ⟨rfl, hk2⟩
    have HK2 : Hid (Same w1 w2) := hk2
    have HD := pdone_nil w2
    clear hk2 HAW
    go_wp2_with fail
    refine HD.mono ?_
    rintro x w3 ⟨rfl, hw3⟩
    subst hw3
    have HR := prest_nil w3
    clear HD
    go_wp2_with fail
    refine HR.mono ?_
    rintro x w4 ⟨rfl, hw4⟩
    subst hw4
    have HC := pclose_nil w4
    clear HR
    go_wp2_with fail
    refine HC.mono ?_
    rintro x w5 ⟨rfl, hw5⟩
    subst hw5
    clear HC
    go_wp2_with fail
    go_ret
    exact ⟨rfl, HK2.out⟩

end Go.Proofs.YtmlpnidngaelnaaDoor
