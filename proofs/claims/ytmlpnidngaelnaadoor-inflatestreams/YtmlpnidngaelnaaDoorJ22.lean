/-
  Of the proof: parts InAx, InLw, InParLaw, InSmLaw.
-/
import Derived.Laws.BytesArg
import Derived.Test.YtmlpnidngaelnaaDoorJ20
import Derived.Test.YtmlpnidngaelnaaDoorJ21
import Derived.Test.YtmlpnidngaelnaaDoorJ6
import Derived.Test.YtmlpnidngaelnaaDoorJ13
import Derived.Test.YtmlpnidngaelnaaDoorJ7

/-
  The law's awake, walked.
-/
namespace Go.Proofs.YtmlpnidngaelnaaDoor
open Go.RowKit

theorem str_of {w : World} {g n c : Nat} {bs : List Nat} (h : Row w (.slice (some ⟨g, 0, none⟩) n c) bs) (hn : bs.length = n) : (convert 22 9 (.slice (some ⟨g, 0, none⟩) n c)).run Tryd.prog w = .ok (.string (strOfNums (bs.map (fun b => ((b : Nat) : Int))))) w := by
  subst hn
  exact run_convert_bytes_arg (P := Tryd.prog) w 22 5 Tryd.underlying22 Tryd.underlying5 g 0 bs.length c (bs.map (fun b => ((b : Nat) : Int))) (by simp) (fun i hi => by rw [Nat.zero_add, Row.cell h i hi]; simp [List.getD, hi]) 9 Tryd.underlying9

theorem Row.addr {w : World} {a : Option Addr} {n c : Nat} {bs : List Nat} (h : Row w (.slice a n c) bs) (hb : bs ≠ []) : ∃ g, a = some ⟨g, 0, none⟩ := by
  obtain ⟨ao, cap, e, hg⟩ := h.shape
  simp only [Value.slice.injEq] at e
  rw [e.1]
  exact hg hb

set_option maxRecDepth 100000 in
set_option maxHeartbeats 4000000 in
theorem iawake_any (w : World) (hT : Tab w) : Calls Tryd.prog 8 #[] w fun x w' => x = .returned (.bool true) ∧ Same w w' := by
  have H1 := pinfl_lit w [75, 76, 74, 6, 0] 5 9 rfl (by decide) (by decide) (by decide) hT
  have HE1 : Hid (Ends (ofBytes [75, 76, 74, 6, 0]) 9 ps0 ⟨34, [97, 98, 99], some (.sym true fixL fixD)⟩ 0) := hid (by
    have := ends_abc [] (by simp)
    rwa [List.append_nil] at this)
  have HT : Hid (Tab w) := hT
  clear hT
  go_enter Tryd.func8, Tryd.ntmps8
  go_wp2_with fail
  refine H1.mono ?_
  rintro x w1 hi
  obtain ⟨v1, rfl, hr1, hv1, hk1⟩ := hi.is HE1.out
  have HK1 : Hid (Same w w1) := hid (Same.trans ((Kept.refl _ w).alloc _) hk1)
  have HR1 : Hid (Row w1 v1 [97, 98, 99]) := hr1
  obtain ⟨a1, c1, rfl, _⟩ := HR1.out.shape
  have H2 := pinfl_lit w1 [75, 132, 0, 0] 4 99 rfl (by decide) (by decide) (by decide) (HT.out.kept HK1.out (fun f => f))
  have HV1 := hid hv1
  clear hi hr1 hv1 hk1 H1
  go_wp2_with fail
  refine H2.mono ?_
  rintro x w2 hi
  obtain ⟨v2, rfl, hr2, hv2, hk2⟩ := hi.is ends_as
  have hk12 : Same w1 w2 := Same.trans ((Kept.refl _ w1).alloc _) hk2
  have HK2 : Hid (Same w w2) := hid (Same.trans HK1.out hk12)
  have HR1' : Hid (Row w2 (.slice a1 3 c1) [97, 98, 99]) := hid (HR1.out.kept hk12 (fun _ _ f => f))
  have HR2 : Hid (Row w2 v2 [97, 97, 97, 97, 97, 97, 97]) := hr2
  obtain ⟨a2, c2, rfl, _⟩ := HR2.out.shape
  have H3 := pinfl_lit w2 [7] 1 9 rfl (by decide) (by decide) (by decide) (HT.out.kept HK2.out (fun f => f))
  have HV2 := hid hv2
  clear hi hr2 hv2 hk2 H2 HR1 hk12
  go_wp2_with fail
  refine H3.mono ?_
  rintro x w3 hi
  obtain ⟨rfl, hk3⟩ := hi.not ends_kind (by decide)
  have hk23 : Same w2 w3 := Same.trans ((Kept.refl _ w2).alloc _) hk3
  have HK3 : Hid (Same w w3) := hid (Same.trans HK2.out hk23)
  have HR13 : Hid (Row w3 (.slice a1 3 c1) [97, 98, 99]) := hid (HR1'.out.kept hk23 (fun _ _ f => f))
  have HR23 : Hid (Row w3 (.slice a2 7 c2) [97, 97, 97, 97, 97, 97, 97]) := hid (HR2.out.kept hk23 (fun _ _ f => f))
  have H4 := pnewS_good w3 9 (by decide)
  clear hi hk3 H3 HR1' HR2 hk23
  go_wp2_with fail
  refine H4.mono ?_
  rintro x w4 ⟨rfl, hsm4, hk4⟩
  obtain ⟨ρ4, hsi4, hn4, ho4, hz4⟩ := SI.init w4 w3.heap.size 9 hsm4 (by decide) (HT.out.kept (Same.trans HK3.out hk4) (fun f => f)) (by have := (HT.out.kept HK3.out (fun f => f)).lt; omega)
  have H5 := pfeed_lit w4 ρ4 w3.heap.size 9 _ [] ps0 _ _ hsi4 hn4 (by decide) [75, 76] 2 rfl (by decide) (by decide) (by decide)
  have HK4 : Hid (Same w w4) := hid (Same.trans HK3.out hk4)
  have HR14 : Hid (Row w4 (.slice a1 3 c1) [97, 98, 99]) := hid (HR13.out.kept hk4 (fun _ _ f => f))
  have HR24 : Hid (Row w4 (.slice a2 7 c2) [97, 97, 97, 97, 97, 97, 97]) := hid (HR23.out.kept hk4 (fun _ _ f => f))
  have HO4 : Hid (∀ j, own4 (ρ4 j) → j = w3.heap.size) := ho4
  have HZ4 : Hid (∀ j, j ≠ w3.heap.size → j ≠ 0 → ρ4 j = 0) := hz4
  have hlt13 : ∀ k, (Value.slice a1 3 c1).ownBlock = some k → k ≠ w3.heap.size := fun k e => by have := HR13.out.lt e; omega
  have hlt23 : ∀ k, (Value.slice a2 7 c2).ownBlock = some k → k ≠ w3.heap.size := fun k e => by have := HR23.out.lt e; omega
  have HL13 : Hid (∀ k, (Value.slice a1 3 c1).ownBlock = some k → k ≠ w3.heap.size) := hlt13
  have HL23 : Hid (∀ k, (Value.slice a2 7 c2).ownBlock = some k → k ≠ w3.heap.size) := hlt23
  clear hsm4 hk4 hsi4 hn4 ho4 hz4 H4 HR13 HR23 hlt13 hlt23
  go_wp2_with fail
  refine H5.mono ?_
  rintro x w5 hf
  obtain ⟨v5, va5, ρ5, vl5, bv5, rfl, hr5, hv5, hsi5, hn5, hold5, hk5⟩ := hf.waits ends_wait
  have hk45 : Kept (fun j => j = w3.heap.size) w4 w5 := Kept.trans ((Kept.refl (fun _ => False) w4).alloc _) hk5 (fun _ _ f => f.elim) (fun j _ f => HO4.out j f)
  have HK5 : Hid (Same w w5) := hid (Kept.trans HK4.out hk45 (fun _ _ f => f) (fun j hj e => by have := HK3.out.size; omega))
  have HR15 : Hid (Row w5 (.slice a1 3 c1) [97, 98, 99]) := hid (HR14.out.kept hk45 (fun k e e2 => HL13.out k e e2))
  have HR25 : Hid (Row w5 (.slice a2 7 c2) [97, 97, 97, 97, 97, 97, 97]) := hid (HR24.out.kept hk45 (fun k e e2 => HL23.out k e e2))
  have HV5 : Hid (Row w5 v5 [97] ∧ ∀ k, v5.ownBlock = some k → ρ5 k = 0) := hid ⟨hr5, fun k e => (hv5 k e).2⟩
  obtain ⟨a5, c5, rfl, _⟩ := HV5.out.1.shape
  have hz5 : ∀ k, (Value.slice a5 1 c5).ownBlock = some k → ρ5 k = 0 := HV5.out.2
  have h15 : ∀ k, (Value.slice a1 3 c1).ownBlock = some k → ρ5 k = 0 ∨ k = w3.heap.size ∨ k = 0 := fun k e => by
    have h1 := HR14.out.lt e
    rw [hold5 k (by simp; omega)]
    refine Classical.byContradiction (fun hc => ?_)
    simp only [not_or] at hc
    exact hc.1 (HZ4.out k hc.2.1 hc.2.2)
  have h25 : ∀ k, (Value.slice a2 7 c2).ownBlock = some k → ρ5 k = 0 ∨ k = w3.heap.size ∨ k = 0 := fun k e => by
    have h1 := HR24.out.lt e
    rw [hold5 k (by simp; omega)]
    refine Classical.byContradiction (fun hc => ?_)
    simp only [not_or] at hc
    exact hc.1 (HZ4.out k hc.2.1 hc.2.2)
  have HTL : Hid (0 < w.heap.size) := hid HT.out.lt
  have n1 : ∀ k, (Value.slice a1 3 c1).ownBlock = some k → ¬ own4 (ρ5 k) := fun k e f => by
    have h1 := HV1.out k e
    have h2 := HTL.out
    rcases h15 k e with h | h | h
    · rw [h] at f; unfold own4 at f; omega
    · exact HL13.out k e h
    · simp at h1; omega
  have n2 : ∀ k, (Value.slice a2 7 c2).ownBlock = some k → ¬ own4 (ρ5 k) := fun k e f => by
    have h1 := HV2.out k e
    have h2 := HTL.out
    have h3 := HK1.out.size
    rcases h25 k e with h | h | h
    · rw [h] at f; unfold own4 at f; omega
    · exact HL23.out k e h
    · simp at h1; omega
  have n5 : ∀ k, (Value.slice a5 1 c5).ownBlock = some k → ¬ own4 (ρ5 k) := fun k e f => by rw [hz5 k e] at f; unfold own4 at f; omega
  have HN1 := hid n1
  have HN2 := hid n2
  have HN5 := hid n5
  have H6 := pfeed_lit w5 ρ5 w3.heap.size 9 va5 [76] ⟨3, [97], some (.sym true fixL fixD)⟩ vl5 bv5 hsi5 hn5 (by decide) [74, 6, 0, 255] 4 rfl (by decide) (by decide) (by decide)
  clear hf H5
  go_wp2_with fail
  refine H6.mono ?_
  rintro x w6 hf
  obtain ⟨v6, va6, rfl, hr6, hv6, hsm6, ha6, hk6⟩ := hf.dones ends_rest
  have hk56 : Kept (fun j => own4 (ρ5 j)) w5 w6 := Kept.trans ((Kept.refl (fun _ => False) w5).alloc _) hk6 (fun _ _ f => f.elim) (fun _ _ f => f)
  have HR16 := hid (HR15.out.kept hk56 HN1.out)
  have HR26 := hid (HR25.out.kept hk56 HN2.out)
  have HR56 := hid (HV5.out.1.kept hk56 HN5.out)
  have HR66 := hid hr6
  have HK6 : Hid (Same w w6) := hid (Kept.trans HK5.out hk56 (fun _ _ f => f) (fun j hj f => by
    have h1 := HK3.out.size
    have h2 := HK4.out.size
    rw [hold5 j (by simp; omega)] at f
    have := HO4.out j f
    omega))
  obtain ⟨a6, c6, rfl, _⟩ := HR66.out.shape
  obtain ⟨g1, rfl⟩ := HR16.out.addr (by decide)
  obtain ⟨g2, rfl⟩ := HR26.out.addr (by decide)
  obtain ⟨g5, rfl⟩ := HR56.out.addr (by decide)
  obtain ⟨g6, rfl⟩ := HR66.out.addr (by decide)
  have gs1 := str_of HR16.out rfl
  have gs2 := str_of HR26.out rfl
  have gs5 := str_of (n := 1) (show Row w6 (.slice (some ⟨g5, 0, none⟩) 1 c5) [97] from HR56.out) rfl
  have gs6 := str_of (n := 2) (show Row w6 (.slice (some ⟨g6, 0, none⟩) 2 c6) [98, 99] from HR66.out) rfl
  rw [show strOfNums ([97, 98, 99].map (fun b => ((b : Nat) : Int))) = ⟨#[97, 98, 99]⟩ from rfl] at gs1
  rw [show strOfNums ([97, 97, 97, 97, 97, 97, 97].map (fun b => ((b : Nat) : Int))) = ⟨#[97, 97, 97, 97, 97, 97, 97]⟩ from rfl] at gs2
  rw [show strOfNums ([97].map (fun b => ((b : Nat) : Int))) = ⟨#[97]⟩ from rfl] at gs5
  rw [show strOfNums ([98, 99].map (fun b => ((b : Nat) : Int))) = ⟨#[98, 99]⟩ from rfl] at gs6
  have H7 := pdone_any w6 w3.heap.size 0 _ _ va6 0 0 hsm6
  have HSM6 := hid hsm6
  have HRA6 : Hid (Row w6 va6 [255]) := hid ha6
  clear hf H6 hr6 hv6 hsm6 ha6 hk6 hk56 hold5 hz5 h15 h25 n1 n2 n5 HO4 HZ4 hsi5 hn5 hr5 hv5 hk5 hk45
  go_wp2_with fail
  refine H7.mono ?_
  rintro x w7 ⟨rfl, m7, hw7⟩
  have hk67 : Same w6 w7 := by rw [hw7]; exact (Kept.refl _ w6).drewN m7
  have HK7 : Hid (Same w w7) := hid (Same.trans HK6.out hk67)
  have HSM7 := hid (HSM6.out.kept hk67 (fun f => f))
  have H8 := prest_any w7 w3.heap.size 0 _ _ va6 0 [255] (HSM6.out.kept hk67 (fun f => f)) (HRA6.out.kept hk67 (fun _ _ f => f)) (by decide)
  clear hw7 hk67 H7 HSM6 HRA6 gs1 gs2 gs5 gs6
  simp only [show ((0 : Nat) == 0) = true from by decide]
  go_wp2_with fail
  refine H8.mono ?_
  rintro x w8 ⟨v8, rfl, hf8⟩
  have HK8 : Hid (Same w w8) := hid (Same.trans HK7.out hf8.kept)
  have HSM8 := hid (HSM7.out.kept hf8.kept (fun f => f))
  have HR8 : Hid (Row w8 v8 [255]) := hid hf8.row
  have hkl : Same w8 (w8.alloc (.cells ([255].map byteV).toArray 5)) := (Kept.refl _ w8).alloc _
  have H9 := keepBytes_any v8 (.slice (some ⟨w8.heap.size, 0, none⟩) 1 1) _ _ [255] [255] _ (Src.ofRow (HR8.out.kept hkl (fun _ _ f => f))) (Src.ofRow (lit_row w8 [255] 1 rfl (by decide))) (by decide) (by decide)
  obtain ⟨a8, c8, hv8, _⟩ := HR8.out.shape
  rw [hv8] at H9 ⊢
  clear hf8 hkl H8 HSM7 hv8
  go_wp2_with fail
  refine H9.mono ?_
  rintro x w9 ⟨rfl, m9, hw9⟩
  have HK9 : Hid (Same w w9) := hid (by rw [hw9]; exact (Same.trans HK8.out ((Kept.refl _ w8).alloc _)).drewN m9)
  have H10 := pclose_any w9 w3.heap.size _ _ _ _ _ _ (by rw [hw9]; exact HSM8.out.kept (((Kept.refl (fun _ => False) w8).alloc _).drewN m9) (fun f => f))
  clear hw9 H9 HSM8
  go_wp2_with fail
  refine H10.mono ?_
  rintro x w10 ⟨rfl, hw10⟩
  subst hw10
  clear H10
  go_wp2_with fail
  go_ret
  exact ⟨rfl, HK9.out⟩

end Go.Proofs.YtmlpnidngaelnaaDoor

/-
  What the laws of layer 5 share.
-/
namespace Go.Proofs.YtmlpnidngaelnaaDoor
open Go.RowKit

theorem IsRow.nil5 {k : IntKind} {w : World} {a : Option Addr} {len cap : Nat} {zs : List Int} (h : IsRow k w a len cap zs) : ∀ n c, Value.slice a len cap = .slice none n c → n = 0 ∧ c = 0 := by
  intro n c e
  injection e with e1 e2 e3
  rcases h with ⟨_, h2, h3, _⟩ | ⟨x, h1, _⟩
  · omega
  · rw [h1] at e1; cases e1

theorem IsRow.lenCap {k : IntKind} {w : World} {a : Option Addr} {len cap : Nat} {zs : List Int} (h : IsRow k w a len cap zs) : len ≤ cap := by
  rcases h with ⟨_, h2, h3, _⟩ | ⟨x, _, h1, _⟩
  · omega
  · exact h1

theorem Row.nil5 {w : World} {a : Option Addr} {n0 c0 : Nat} {bs : List Nat} (h : Row w (.slice a n0 c0) bs) : ∀ n c, Value.slice a n0 c0 = .slice none n c → n = 0 ∧ c = 0 := by
  intro n c e
  rcases h.2 with ⟨e9, h9⟩ | ⟨g, cp, cu, e9, _⟩
  · simp only [Value.slice.injEq] at e e9; omega
  · simp only [Value.slice.injEq] at e e9; rw [e9.1] at e; cases e.1

theorem Src.take {w : World} {I : Nat → Prop} {a : Option Addr} {n cap k : Nat} {bs : List Nat} (h : Src w I (.slice a n cap) bs) (hk : k ≤ bs.length) (c' : Nat) : Src w I (.slice a k c') (bs.take k) := by
  obtain ⟨ao, c, e, hs⟩ := h
  simp only [Value.slice.injEq] at e
  obtain ⟨rfl, hn, rfl⟩ := e
  refine ⟨a, c', by rw [List.length_take, Nat.min_eq_left hk], fun hne => ?_⟩
  obtain ⟨b, o, h1, h2, h3⟩ := hs (fun e => hne (by rw [e]; simp))
  refine ⟨b, o, h1, h2, fun j hj => ?_⟩
  rw [List.length_take] at hj
  rw [h3 j (by omega), List.getElem_take]

theorem keepBytes_same (w : World) (va vb : Value) (I J : Nat → Prop) (xs : List Nat) (ha : Src w I va xs) (hb : Src w J vb xs) (hx : xs.length ≤ 1000000) : Calls Tryd.prog 17 #[va, vb] w fun e w' => e = .returned (.bool true) ∧ Same w w' := by
  have h := keepBytes_any va vb I J xs xs w ha hb (by omega) (by omega)
  refine h.mono ?_
  rintro e w' ⟨rfl, m, rfl⟩
  exact ⟨by simp, (Kept.refl _ w).drewN m⟩

end Go.Proofs.YtmlpnidngaelnaaDoor

/-
  The law InflateParts.
-/
namespace Go.Proofs.YtmlpnidngaelnaaDoor
open Go.RowKit

set_option maxRecDepth 100000 in
set_option maxHeartbeats 2000000 in
theorem cuts_any (w : World) (at' n i : Nat) (I : Nat → Prop) (sa : Option Addr) (sl sc : Nat) (zs : List Int) (hs : SrcE intV w I (.slice sa sl sc) zs) (hl : zs.length = sl) (hat : at' ≤ n) (hn : n ≤ 1000000) :
    Calls Tryd.prog 9 #[.int .i64 (at' : Nat), .int .i64 (n : Nat), .slice sa sl sc, .int .i64 (i : Nat)] w fun x w' => ∃ e : Nat, x = .returned (.int .i64 (e : Nat)) ∧ at' ≤ e ∧ e ≤ n ∧ (sl ≤ i → e = n) ∧ Same w w' := by
  by_cases h1 : sl ≤ i
  · have b1 : decide ((sl : Int) ≤ (i : Int)) = true := by simp; omega
    have b2 : decide (sl ≤ i) = true := by simp; omega
    clear hs hl
    go_enter Tryd.func9, Tryd.ntmps9
    go_wp2_with fail
    go_ret
    exact ⟨n, rfl, hat, Nat.le_refl _, fun _ => rfl, Kept.refl _ _⟩
  · have b2 : decide (sl ≤ i) = false := by simp; omega
    obtain ⟨b, o, cap2, e2, _, _, cO⟩ := hs.get i (by omega)
    simp only [Value.slice.injEq] at e2
    obtain ⟨rfl, _, rfl⟩ := e2
    obtain ⟨z, hz⟩ : ∃ z, z = zs[i]'(by omega) := ⟨_, rfl⟩
    rw [← hz] at cO
    unfold intV at cO
    obtain ⟨d, hd⟩ : ∃ d, d = n - at' := ⟨_, rfl⟩
    have hdI : (n : Int) - (at' : Int) = (d : Int) := by omega
    have hdw : IntKind.i64.wrap (d : Int) = (d : Int) := by rw [IntKind.wrap_i64]; omega
    have hisl : i < sl := by omega
    clear hs hl hz
    by_cases h3 : z < 0
    · have b3 : decide (z < 0) = true := by simp; omega
      clear hd
      go_enter Tryd.func9, Tryd.ntmps9
      go_wp2_with fail
      go_ret
      exact ⟨n, rfl, hat, Nat.le_refl _, fun _ => rfl, Kept.refl _ _⟩
    · have b3 : decide (z < 0) = false := by simp; omega
      by_cases h4 : (d : Int) < z
      · have b4 : decide ((d : Int) < z) = true := by simp; omega
        clear hd
        go_enter Tryd.func9, Tryd.ntmps9
        go_wp2_with fail
        go_ret
        exact ⟨n, rfl, hat, Nat.le_refl _, fun _ => rfl, Kept.refl _ _⟩
      · obtain ⟨zn, rfl⟩ : ∃ k : Nat, z = (k : Int) := ⟨z.toNat, by omega⟩
        obtain ⟨e, he⟩ : ∃ e, e = at' + zn := ⟨_, rfl⟩
        have heI : (at' : Int) + (zn : Int) = (e : Int) := by omega
        have hew : IntKind.i64.wrap (e : Int) = (e : Int) := by rw [IntKind.wrap_i64]; omega
        have b4 : decide ((d : Int) < (zn : Int)) = false := by simp; omega
        have b5 : decide (d < zn) = false := by simp; omega
        have HR : Hid (at' ≤ e ∧ e ≤ n) := hid ⟨by omega, by omega⟩
        clear hd he
        go_enter Tryd.func9, Tryd.ntmps9
        go_wp2_with fail
        go_ret
        exact ⟨e, rfl, HR.out.1, HR.out.2, Kept.refl _ _⟩

/-- Of bytes a part. -/
theorem Src.part {w : World} {I : Nat → Prop} {a a' : Option Addr} {n cap k m c' : Nat} {bs : List Nat} (h : Src w I (.slice a n cap) bs) (hk : k ≤ m) (hm : m ≤ bs.length) (ha : k < m → ∃ b o, a = some ⟨b, o, none⟩ ∧ a' = some ⟨b, o + k, none⟩) : Src w I (.slice a' (m - k) c') ((bs.drop k).take (m - k)) := by
  obtain ⟨ao, c, e, hs⟩ := h
  simp only [Value.slice.injEq] at e
  obtain ⟨rfl, hn, rfl⟩ := e
  have hlen : ((bs.drop k).take (m - k)).length = m - k := by rw [List.length_take, List.length_drop]; omega
  refine ⟨a', c', by rw [hlen], fun hne => ?_⟩
  have hkm : k < m := by
    refine Classical.byContradiction (fun hc => hne ?_)
    exact List.eq_nil_of_length_eq_zero (by rw [hlen]; omega)
  obtain ⟨b, o, h1, h2, h3⟩ := hs (fun e => by rw [e] at hm; simp at hm; omega)
  obtain ⟨b', o', h4, h5⟩ := ha hkm
  rw [h1] at h4
  simp only [Option.some.injEq, Addr.mk.injEq, and_true] at h4
  obtain ⟨rfl, rfl⟩ := h4
  refine ⟨b, o + k, h5, h2, fun j hj => ?_⟩
  rw [hlen] at hj
  have := h3 (k + j) (by omega)
  rw [← Nat.add_assoc] at this
  rw [this, List.getElem_take, List.getElem_drop]

theorem take_part (bs : List Nat) (k m : Nat) (hk : k ≤ m) : bs.take k ++ (bs.drop k).take (m - k) = bs.take m := by
  obtain ⟨d, rfl⟩ : ∃ d, m = k + d := ⟨m - k, by omega⟩
  rw [Nat.add_sub_cancel_left, List.take_add]

/-- What a stream that is fed in parts has told. -/
structure Told (N : Nat) (w : World) (h most : Nat) (P all : List Nat) (va : Value) (t : Ps) (er : Nat) (F : Nat → Prop) : Prop where
  st : StI N w h most P t er F
  row : Row w va all
  tell : er = 0 ∨ er = 55 → all = t.out
  ol : all.length ≤ most
  own : ∀ k, va.ownBlock = some k → N ≤ k ∧ ¬ F k

theorem Told.fed {N : Nat} {w w1 w2 : World} {h most : Nat} {P cs all : List Nat} {va u v' : Value} {t t' : Ps} {er er' : Nat} {F F' : Nat → Prop} {x : Ending} (s : Told N w h most P all va t er F) (f : FedA N w w1 h most (P ++ cs) t F x u t' er' F') (hrow : Row w2 v' (all ++ (if er' = 0 ∨ er' = 55 then t'.out.drop t.out.length else []))) (hg : w1.grownBy w2 va.ownBlock) (ho : v'.ownBlock = va.ownBlock ∨ v'.ownBlock = some w1.heap.size) (hback : er' = 0 ∨ er' = 55 → er = 0 ∨ er = 55) (hO : 0 < N) :
    Told N w2 h most (P ++ cs) (all ++ (if er' = 0 ∨ er' = 55 then t'.out.drop t.out.length else [])) v' t' er' F' := by
  have hk : Kept (fun k => va.ownBlock = some k) w1 w2 := (Kept.refl _ w1).grown hg (fun k e => .inl e)
  have hva : ∀ k, va.ownBlock = some k → ¬ F' k := fun k e f9 => (s.own k e).2 (f.old k (s.row.lt e) f9)
  refine ⟨f.st.kept hk (fun j hj e => hva j e hj) (fun e => by have := (s.own _ e).1; omega), hrow, fun h9 => ?_, ?_, fun k e => ?_⟩
  · rw [if_pos h9, s.tell (hback h9)]
    exact f.all h9
  · by_cases h9 : er' = 0 ∨ er' = 55
    · rw [if_pos h9, s.tell (hback h9), f.all h9]
      exact (ends_in f.st.ends).2
    · rw [if_neg h9, List.append_nil]
      exact s.ol
  · rcases ho with h9 | h9
    · rw [h9] at e
      exact ⟨(s.own k e).1, hva k e⟩
    · rw [h9] at e
      injection e with e
      have hs := f.st.size
      exact ⟨by omega, fun f9 => by have := f.st.lt k f9; omega⟩

/-- What goes on from a fault stays a fault. -/
theorem FedA.back {N : Nat} {w w1 : World} {h most : Nat} {P cs : List Nat} {u : Value} {t t' : Ps} {er er' : Nat} {F F' : Nat → Prop} {x : Ending} (s : StI N w h most P t er F) (f : FedA N w w1 h most (P ++ cs) t F x u t' er' F') : er' = 0 ∨ er' = 55 → er = 0 ∨ er = 55 := by
  intro h9
  refine Classical.byContradiction (fun hc => ?_)
  have h1 := ends_behind cs s.ends (fun e => hc (.inr e))
  have h2 := (h1.det f.st.ends).2
  omega

theorem Told.kept {N : Nat} {w w' : World} {h most : Nat} {P all : List Nat} {va : Value} {t : Ps} {er : Nat} {F : Nat → Prop} (s : Told N w h most P all va t er F) (hk : Same w w') : Told N w' h most P all va t er F :=
  ⟨s.st.kept hk (fun _ _ f => f) (fun f => f), s.row.kept hk (fun _ _ f => f), s.tell, s.ol, s.own⟩

theorem StI.isDone {N : Nat} {w : World} {h most : Nat} {P : List Nat} {t : Ps} {er : Nat} {F : Nat → Prop} (s : StI N w h most P t er F) (h0 : er = 0) : ∃ va, Sm w h 0 (.slice none 0 0) (.pointer none) va 0 0 ∧ Row w va (P.drop ((t.c + 7) / 8)) := by
  cases s with
  | wait ρ va vl bv he h5 hs hn h10 hF hN hb hT => omega
  | done va he h9 hs ha hne hF hN hb hT => exact ⟨va, hs, ha⟩
  | fail he h9 h5 hs hF hN hb hT => exact absurd h0 h9

set_option maxRecDepth 100000 in
set_option maxHeartbeats 8000000 in
theorem parts_good (W : World) (a oa ta : Option Addr) (len cap ol oc tl tc M : Nat) (bs : List Nat) (zo zt : List Int) (hs : Src W (fun j => j < W.heap.size) (.slice a len cap) bs) (hl : bs.length = len) (hb : ∀ x ∈ bs, x < 256) (hn : ∀ n c, Value.slice a len cap = .slice none n c → n = 0 ∧ c = 0) (hso : SrcE intV W (fun j => j < W.heap.size) (.slice oa ol oc) zo) (hst : SrcE intV W (fun j => j < W.heap.size) (.slice ta tl tc) zt) (hlo : zo.length = ol) (hlt : zt.length = tl) (hlen : len ≤ 5000) (hol : ol ≤ 100) (htl : tl ≤ 100) (hlenc : len ≤ cap) (hM : M ≤ 16384) (hT : Tab W) :
    Calls Tryd.prog 4 #[.slice a len cap, .int .i64 (M : Nat), .slice oa ol oc, .slice ta tl tc] W fun e w' => e = .returned (.bool true) ∧ Same W w' := by
  have HI := pinfl_any W (.slice a len cap) _ bs M hs hb hn (by omega) hM hT
  have b1 : decide ((5000 : Int) < (len : Int)) = false := by simp; omega
  have b2 : decide ((100 : Int) < (ol : Int)) = false := by simp; omega
  have b3 : decide ((100 : Int) < (tl : Int)) = false := by simp; omega
  have HT : Hid (Tab W) := hT
  have HS : Hid (Src W (fun j => j < W.heap.size) (.slice a len cap) bs) := hs
  have HSO : Hid (SrcE intV W (fun j => j < W.heap.size) (.slice oa ol oc) zo) := hso
  have HST : Hid (SrcE intV W (fun j => j < W.heap.size) (.slice ta tl tc) zt) := hst
  have HL : Hid (bs.length = len ∧ zo.length = ol ∧ zt.length = tl) := hid ⟨hl, hlo, hlt⟩
  have HB : Hid (∀ x ∈ bs, x < 256) := hb
  have HN : Hid (∀ n c, Value.slice a len cap = .slice none n c → n = 0 ∧ c = 0) := hn
  clear hs hso hst hl hlo hlt hb hn hT
  go_enter Tryd.func4, Tryd.ntmps4
  go_wp2_with fail
  refine HI.mono ?_
  rintro x w1 hi
  obtain ⟨av, nv, cv, q, er, rfl, HE, hK1⟩ : ∃ (av : Option Addr) (nv cv q er : Nat), x = .returned (.tuple #[.slice av nv cv, .int .i64 (q : Nat), .int .i64 (er : Nat)]) ∧ Hid (∃ t, Ends (ofBytes bs) M ps0 t er ∧ (er = 0 → Row w1 (.slice av nv cv) t.out ∧ q = (t.c + 7) / 8)) ∧ Same W w1 := by
    cases hi with
    | fail t er he h0 hx hk => exact ⟨none, 0, 0, 0, er, hx, hid ⟨t, he, fun h9 => absurd h9 h0⟩, hk⟩
    | done t v' he hx hr hv hk =>
      obtain ⟨a1, c1, hv1, _⟩ := hr.shape
      exact ⟨a1, t.out.length, c1, (t.c + 7) / 8, 0, by rw [hx, hv1]; rfl, hid ⟨t, he, fun _ => ⟨by rw [← hv1]; exact hr, rfl⟩⟩, hk⟩
  obtain ⟨t0, he0, hr0⟩ := HE.out
  have HE0 : Hid (Ends (ofBytes bs) M ps0 t0 er) := he0
  have HR0 : Hid (er = 0 → Row w1 (.slice av nv cv) t0.out ∧ q = (t0.c + 7) / 8) := hr0
  have HK1 : Hid (Same W w1) := hK1
  clear hi HI hK1 he0 hr0 HE b1 b2 b3
  go_wp2_with fail
  go_loopg [12] 2 (fun qq zk wr => ∃ k : Nat, k ≤ 2 ∧ 2 - k ≤ qq ∧ zk = .int .i64 (k : Nat) ∧ Hid (Same w1 wr))
  case atStart => exact ⟨0, by omega, by omega, rfl, Kept.refl _ _⟩
  case round =>
    obtain ⟨k, hk2, hkq, rfl, HKr⟩ := hrel
    obtain ⟨GG, hGG⟩ : ∃ G, G = gk := ⟨_, rfl⟩
    by_cases hk : k < 2
    · go_upto_if 48 with fail
      go_cut [13] from 42 to 130 (fun s13 wx => ∃ (sa : Option Addr) (sl sc : Nat) (sz : List Int), s13 = .slice sa sl sc ∧ sl ≤ 100 ∧ Hid (SrcE intV W (fun j => j < W.heap.size) (.slice sa sl sc) sz ∧ sz.length = sl) ∧ wx = wr)
      case first =>
        by_cases hk0 : k = 0
        · subst hk0
          go_wp2_with fail
          go_meet
          exact ⟨oa, ol, oc, zo, rfl, hol, hid ⟨HSO.out, HL.out.2.1⟩, rfl⟩
        · obtain rfl : k = 1 := by omega
          go_wp2_with fail
          go_meet
          exact ⟨ta, tl, tc, zt, rfl, htl, hid ⟨HST.out, HL.out.2.2⟩, rfl⟩
      case rest =>
        obtain ⟨sa, sl, sc, sz, rfl, hsl, HSZ, hwc⟩ := hcut
        have HNW := pnewS_good wc M hM
        have HKc : Hid (Same w1 wc) := hid (by rw [hwc]; exact HKr.out)
        clear hwc HKr
        go_wp2_with fail
        refine HNW.mono ?_
        rintro x w2 ⟨rfl, hsm2, hk2'⟩
        obtain ⟨N, hNN⟩ : ∃ N, N = wc.heap.size := ⟨_, rfl⟩
        obtain ⟨F0, hst0⟩ := StI.new wc w2 M hM hsm2 (HT.out.kept (Same.trans HK1.out HKc.out) (fun f => f)) hk2'
        rw [← hNN] at hst0 ⊢
        have HON : Hid (0 < N ∧ w1.heap.size ≤ N) := hid ⟨by have := HT.out.lt; have := HK1.out.size; have := HKc.out.size; omega, by have := HKc.out.size; omega⟩
        have HT0 : Hid (Told N w2 N M (bs.take 0) [] (.slice none 0 0) ps0 55 F0) := hid ⟨by rw [List.take_zero]; exact hst0, World.ownsRow_nil w2 0 5 1, fun _ => rfl, Nat.zero_le _, fun k e => by cases e⟩
        have HK2 : Hid (Same w1 w2) := hid (Same.trans HKc.out hk2')
        clear hsm2 hk2' hst0 hNN HNW
        go_wp2_with fail
        go_loopg [16, 17, 18] (sl + 1) (fun qq z16 z17 z18 wr => ∃ (i at' : Nat) (all : List Nat) (t : Ps) (er' : Nat) (F : Nat → Prop), z17 = .int .i64 (at' : Nat) ∧ z18 = .int .i64 (i : Nat) ∧ i ≤ sl + 1 ∧ sl + 1 - i ≤ qq ∧ at' ≤ len ∧ (i = sl + 1 → at' = len) ∧ Hid (Told N wr N M (bs.take at') all z16 t er' F) ∧ Hid (Same w1 wr))
        case atStart => exact ⟨0, 0, [], ps0, 55, F0, rfl, rfl, by omega, by omega, by omega, fun h9 => by omega, HT0, HK2⟩
        case round =>
          clear HT0 HK2
          obtain ⟨i, at', all, t, er', F, rfl, rfl, hi1, hiq, hat, hend, HTO, HKi⟩ := hrel
          obtain ⟨va, hva⟩ : ∃ va, va = u16 := ⟨_, rfl⟩
          rw [← hva] at HTO ⊢
          clear hva
          by_cases hi : i ≤ sl
          · have y1 : decide ((i : Int) ≤ (sl : Int)) = true := by simp; omega
            have y2 : decide (i ≤ sl) = true := by simp; omega
            have HSZr : Hid (SrcE intV wr (fun j => j < W.heap.size) (.slice sa sl sc) sz) := hid (HSZ.out.1.same (Same.trans HK1.out HKi.out))
            have HCT := cuts_any wr at' len i _ sa sl sc sz HSZr.out HSZ.out.2 hat (by omega)
            have HIL : Hid (i ≤ sl) := hi
            clear hi hend
            go_wp2_with fail
            refine HCT.mono ?_
            rintro x w3 ⟨e1, rfl, h1e, he1, hlast, hk3⟩
            have HTO3 : Hid (Told N w3 N M (bs.take at') all va t er' F) := hid (HTO.out.kept hk3)
            have HK3 : Hid (Same w1 w3) := hid (Same.trans HKi.out hk3)
            have HLAST : Hid (i + 1 = sl + 1 → e1 = len) := hid (fun h9 => hlast (by omega))
            have HFD : Hid (∀ (a' : Option Addr) (c' : Nat), (at' < e1 → ∃ b o, a = some ⟨b, o, none⟩ ∧ a' = some ⟨b, o + at', none⟩) → (∀ n c, Value.slice a' (e1 - at') c' = .slice none n c → n = 0 ∧ c = 0) → Calls Tryd.prog 11 #[.pointer (some ⟨N, 0, none⟩), .slice a' (e1 - at') c'] w3 fun x w' => ∃ u t' er2 F', FedA N w3 w' N M (bs.take at' ++ (bs.drop at').take (e1 - at')) t F x u t' er2 F') := hid (fun a' c' ha hnil => stI_feed w3 N M (bs.take at') t er' F HTO3.out.st (.slice a' (e1 - at') c') _ _ ((HS.out.kept (Same.trans HK1.out HK3.out) (fun _ _ _ f => f)).part (c' := c') h1e (by rw [HL.out.1]; exact he1) ha) (fun b hb => HB.out b (List.mem_of_mem_drop (List.mem_of_mem_take hb))) hnil (by rw [List.length_take, List.length_take, List.length_drop, HL.out.1]; omega) HON.out.1)
            have HAD : Hid (at' < e1 → ∃ b o, a = some ⟨b, o, none⟩) := hid (fun h9 => by
              obtain ⟨ao, c9, e9, hq⟩ := HS.out
              obtain ⟨b, o, h8, _⟩ := hq (fun e => by have := HL.out.1; rw [e] at this; simp at this; omega)
              simp only [Value.slice.injEq] at e9
              exact ⟨b, o, by rw [e9.1]; exact h8⟩)
            have i1 : (0 : Int) ≤ (at' : Int) := by omega
            have i2 : (at' : Int) ≤ (e1 : Int) := by omega
            have i3 : (e1 : Int) ≤ (cap : Int) := by omega
            have i4 : (at' : Int) ≤ (cap : Int) := by omega
            have HE1 : Hid (at' ≤ e1 ∧ e1 ≤ len) := hid ⟨h1e, he1⟩
            clear hk3 HCT hlast h1e he1 y1 y2 HSZr
            go_wp2_with fail
            all_goals
              try
                have hcc := h.symm
                subst hcc
              refine (HFD.out _ _ ?_ ?_).mono ?_
              · intro h9
                first
                  | (exfalso; omega)
                  | (obtain ⟨b, o, hab⟩ := HAD.out h9; exact ⟨b, o, hab, by rw [hab]; simp [addAt]⟩)
              · intro n c e9
                first
                  | (simp only [Value.slice.injEq] at e9; omega)
                  | (cases a with
                    | none => have := HN.out len cap rfl; omega
                    | some x9 => simp at e9)
              rintro x w4 ⟨u, t4, er4, F4, hf4⟩
              obtain ⟨g4, hg4⟩ : ∃ g : Nat, (if er4 = 55 then 0 else er4) = g := ⟨_, rfl⟩
              have hx := hf4.ret
              rw [hg4] at hx
              subst hx
              obtain ⟨p4, hp4⟩ : ∃ p : List Nat, (if er4 = 0 ∨ er4 = 55 then t4.out.drop t.out.length else []) = p := ⟨_, rfl⟩
              have hr4 := hf4.row
              rw [hp4] at hr4
              obtain ⟨au, cu, hu, _⟩ := hr4.shape
              obtain ⟨nu, hnu⟩ : ∃ n, n = p4.length := ⟨_, rfl⟩
              rw [← hnu] at hu
              subst hu
              have HFA : Hid (FedA N w3 w4 N M (bs.take at' ++ (bs.drop at').take (e1 - at')) t F (.returned (.tuple #[.slice au nu cu, .int .i64 (g4 : Nat)])) (.slice au nu cu) t4 er4 F4) := hid (by rw [← hg4]; rw [← hg4] at hf4; exact hf4)
              have HRU : Hid (Row w4 (.slice au nu cu) p4) := hr4
              have HSU : Hid (Src w4 (fun k => (Value.slice au nu cu).ownBlock = some k) (.slice au nu cu) p4) := hid (Src.ofRow hr4)
              have HNU : Hid (∀ n c, Value.slice au nu cu = .slice none n c → n = 0 ∧ c = 0) := hid hr4.nil5
              have HVA4 : Hid (Row w4 va all) := hid (HTO3.out.row.kept hf4.kept (fun k e f9 => (HTO3.out.own k e).2 f9))
              have HP4 : Hid ((if er4 = 0 ∨ er4 = 55 then t4.out.drop t.out.length else []) = p4) := hp4
              have hpl : p4.length ≤ 16384 := by
                have h8 := (ends_in hf4.st.ends).2
                rw [← hp4]
                split
                · rw [List.length_drop]; omega
                · simp
              have HLA : Hid (all.length + p4.length ≤ 1000000000000) := hid (by have := HTO3.out.ol; omega)
              have HK4 : Hid (Same w1 w4) := hid (Same.then HK3.out hf4.kept (fun k hk9 f9 => by have := HTO3.out.st.from' k f9; have := HON.out.2; omega))
              clear hf4 hr4 hg4 hp4 hpl hnu
              go_wp2_with (at_builtin; refine wpList_append_any _ rfl (.tmp 92) (.tmp 93) rfl va all rfl HVA4.out _ (.slice au nu cu) p4 rfl HNU.out HSU.out HLA.out ?_)
              intro v5 w5 hr5 hg5 ho5
              have HTO5 : Hid (Told N w5 N M (bs.take e1) (all ++ p4) v5 t4 er4 F4) := hid (by
                have h9 := HTO3.out.fed HFA.out (w2 := w5) (v' := v5) (by rw [HP4.out]; exact hr5) hg5 ho5 (HFA.out.back HTO3.out.st) HON.out.1
                rw [HP4.out, take_part bs at' e1 HE1.out.1] at h9
                exact h9)
              have HK5 : Hid (Same w1 w5) := hid (Same.then HK4.out ((Kept.refl (fun k => va.ownBlock = some k) w4).grown hg5 (fun k e => .inl e)) (fun k hk9 f9 => by have := (HTO3.out.own k f9).1; have := HON.out.2; omega))
              clear hr5 hg5 ho5
              go_wp2_with fail
              go_roundg (gk - 1)
              case measure => have := HIL.out; omega
              case rel => exact ⟨i + 1, e1, all ++ p4, t4, er4, F4, rfl, by go_num, by have := HIL.out; omega, by have := HIL.out; omega, HE1.out.2, HLAST.out, HTO5, HK5⟩
          · obtain rfl : i = sl + 1 := by omega
            have hatl : at' = len := hend rfl
            subst hatl
            have y1 : decide ((((sl + 1 : Nat) : Int)) ≤ (sl : Int)) = false := by simp; omega
            have y2 : decide (sl + 1 ≤ sl) = false := by simp
            have hbt : bs.take at' = bs := List.take_of_length_le (by rw [HL.out.1]; exact Nat.le_refl _)
            rw [hbt] at HTO
            obtain ⟨ht0, hee⟩ := HTO.out.st.ends.det HE0.out
            subst ht0 hee
            obtain ⟨mo, vl, bv, vah, go, hobj⟩ := HTO.out.st.obj
            have HCL := pclose_any wr N mo vl bv vah go er' hobj
            have HDN := pdone_any wr N mo vl bv vah go er' hobj
            obtain ⟨aa, ca, hva, _⟩ := HTO.out.row.shape
            obtain ⟨na, hna⟩ : ∃ n, n = all.length := ⟨_, rfl⟩
            have hnaM : na ≤ M := by have := HTO.out.ol; omega
            rw [← hna] at hva
            subst hva
            clear hend hi hbt hobj hna
            have z3 : decide ((M : Int) < (na : Int)) = false := by simp; omega
            have z4 : decide (M < na) = false := by simp; omega
            have z5 : ((er' : Int) != (er' : Int)) = false := by simp
            by_cases he0 : er' = 0
            · subst he0
              have hall : all = t.out := HTO.out.tell (.inl rfl)
              have hR0 := HR0.out rfl
              have HQ : Hid (q = (t.c + 7) / 8) := hid hR0.2
              have HQB : Hid (q ≤ at') := hid (by rw [hR0.2]; have := (ends_in HE0.out).1; rw [HL.out.1] at this; exact this)
              have HRW0 : Hid (Row w1 (.slice av nv cv) t.out) := hid hR0.1
              clear hR0
              go_wp2_with fail
              refine HCL.mono ?_
              rintro x w3 ⟨rfl, hw3⟩
              subst hw3
              clear HCL
              simp only [show ((0 : Nat) == 0) = true from by decide] at HDN
              go_wp2_with fail
              refine HDN.mono ?_
              rintro x w4 ⟨rfl, m4, hw4⟩
              have HK4 : Hid (Same w3 w4) := hid (by rw [hw4]; exact (Kept.refl _ w3).drewN m4)
              have HKB := keepBytes_same w4 (.slice aa na ca) (.slice av nv cv) _ _ t.out (Src.ofRow (by rw [← hall]; exact HTO.out.row.kept HK4.out (fun _ _ f => f))) (Src.ofRow (HRW0.out.kept (Same.trans HKi.out HK4.out) (fun _ _ f => f))) (by have := (ends_in HE0.out).2; omega)
              clear hw4 HDN hall
              go_wp2_with fail
              refine HKB.mono ?_
              rintro x w5 ⟨rfl, hk5⟩
              have HK5 : Hid (Same w3 w5) := hid (Same.trans HK4.out hk5)
              obtain ⟨vr, hsm5, hrow5⟩ := (HTO.out.st.kept HK5.out (fun _ _ f => f) (fun f => f)).isDone rfl
              have HRS := prest_any w5 N 0 _ _ vr 0 _ hsm5 hrow5 (by rw [List.length_drop, HL.out.1]; omega)
              rw [← HQ.out] at HRS
              have hdl : (bs.drop q).length = at' - q := by rw [List.length_drop, HL.out.1]
              obtain ⟨dl, hdl2⟩ : ∃ d, d = at' - q := ⟨_, rfl⟩
              have hdI : (at' : Int) - (q : Int) = (dl : Int) := by have := HQB.out; omega
              have hdw : IntKind.i64.wrap (dl : Int) = (dl : Int) := by rw [IntKind.wrap_i64]; omega
              have HDL : Hid ((bs.drop q).length = dl) := hid (by omega)
              clear hk5 HKB hsm5 hrow5 hdl hdl2
              go_wp2_with fail
              refine HRS.mono ?_
              rintro x w6 ⟨v6, rfl, hf6⟩
              have HK6 : Hid (Same w1 w6) := hid (Same.trans HKi.out (Same.trans HK5.out hf6.kept))
              obtain ⟨a6, c6, hv6, _⟩ := hf6.row.shape
              rw [HDL.out] at hv6
              subst hv6
              have z7 : ((dl : Int) != (dl : Int)) = false := by simp
              clear hf6 HRS
              go_wp2_with fail
              go_roundg (GG - 1)
              case measure => omega
              case rel => exact ⟨k + 1, by omega, by omega, by go_num, HK6⟩
            · have hed : ((er' : Int) == 0) = false := by simp; omega
              have hed2 : (er' == 0) = false := by simp; omega
              rw [hed2] at HDN
              clear he0
              go_wp2_with fail
              refine HCL.mono ?_
              rintro x w3 ⟨rfl, hw3⟩
              subst hw3
              clear HCL
              go_wp2_with fail
              refine HDN.mono ?_
              rintro x w4 ⟨rfl, m4, hw4⟩
              have HK4 : Hid (Same w1 w4) := hid (by rw [hw4]; exact HKi.out.drewN m4)
              clear hw4 HDN
              go_wp2_with fail
              go_roundg (GG - 1)
              case measure => omega
              case rel => exact ⟨k + 1, by omega, by omega, by go_num, HK4⟩
    · have y1 : decide ((k : Int) < 2) = false := by simp; omega
      have HAW := iawake_any wr (HT.out.kept (Same.trans HK1.out HKr.out) (fun f => f))
      clear hk
      go_wp2_with fail
      refine HAW.mono ?_
      rintro x w3 ⟨rfl, hk3⟩
      have HK3 : Hid (Same W w3) := hid (Same.trans HK1.out (Same.trans HKr.out hk3))
      clear hk3 HAW
      go_wp2_with fail
      go_ret
      exact ⟨rfl, HK3.out⟩

set_option maxRecDepth 100000 in
set_option maxHeartbeats 4000000 in
theorem inflateParts_all (a : Option Addr) (len cap : Nat) (zs : List Int) (most : Int) (oa : Option Addr) (ol oc : Nat) (zo : List Int) (ta : Option Addr) (tl tc : Nat) (zt : List Int) (W : World) (h : IsRow .u8 W a len cap zs) (_hm : (Lit.int .i64 most).wf = true) (ho : IsRow .i64 W oa ol oc zo) (ht : IsRow .i64 W ta tl tc zt) (hT : Tab W) :
    Calls Tryd.prog 4 #[.slice a len cap, .int .i64 most, .slice oa ol oc, .slice ta tl tc] W fun e w' => e = .returned (.bool true) ∧ Below W.heap.size W w' := by
  obtain ⟨bs, hs, hl, hb⟩ := h.src
  suffices H : Calls Tryd.prog 4 #[.slice a len cap, .int .i64 most, .slice oa ol oc, .slice ta tl tc] W fun e w' => e = .returned (.bool true) ∧ Same W w' from H.mono (fun e w' h => ⟨h.1, h.2.bel⟩)
  by_cases hlong : 5000 < len
  · have b1 : decide ((5000 : Int) < (len : Int)) = true := by simp; omega
    clear hlong hT h ho ht hs hl hb
    go_enter Tryd.func4, Tryd.ntmps4
    go_wp2_with fail
    go_ret
    exact ⟨rfl, Kept.refl _ _⟩
  · have b1 : decide ((5000 : Int) < (len : Int)) = false := by simp; omega
    by_cases hlo : 100 < ol
    · have b2 : decide ((100 : Int) < (ol : Int)) = true := by simp; omega
      clear hlong hlo hT h ho ht hs hl hb
      go_enter Tryd.func4, Tryd.ntmps4
      go_wp2_with fail
      go_ret
      exact ⟨rfl, Kept.refl _ _⟩
    · have b2 : decide ((100 : Int) < (ol : Int)) = false := by simp; omega
      by_cases hlt : 100 < tl
      · have b3 : decide ((100 : Int) < (tl : Int)) = true := by simp; omega
        clear hlong hlo hlt hT h ho ht hs hl hb
        go_enter Tryd.func4, Tryd.ntmps4
        go_wp2_with fail
        go_ret
        exact ⟨rfl, Kept.refl _ _⟩
      · have b3 : decide ((100 : Int) < (tl : Int)) = false := by simp; omega
        by_cases hbad : most < 0 ∨ 16384 < most
        · have HI := pinfl_bad W (.slice a len cap) most hbad
          have HNW : Hid (∀ w, Calls Tryd.prog 7 #[.int .i64 most] w fun x w' => x = .returned (.tuple #[.pointer none, .int .i64 1]) ∧ ∃ k, w' = w.drewN k) := hid (fun w => pnewS_bad w most hbad)
          have HT : Hid (Tab W) := hT
          clear hlong hlo hlt hT h ho ht hs hl hb hbad
          go_enter Tryd.func4, Tryd.ntmps4
          go_wp2_with fail
          refine HI.mono ?_
          rintro x w1 ⟨rfl, hk⟩
          have HK1 : Hid (Same W w1) := hk
          clear hk HI
          go_wp2_with fail
          go_loopg [12] 2 (fun qq zk wr => zk = .int .i64 0 ∧ Hid (Same W wr))
          case atStart => exact ⟨rfl, HK1⟩
          case round =>
            obtain ⟨rfl, HKr⟩ := hrel
            go_wp2_with fail
            refine (HNW.out wr).mono ?_
            rintro x w2 ⟨rfl, m2, hw2⟩
            have HK2 : Hid (Same W w2) := hid (by rw [hw2]; exact HKr.out.drewN m2)
            have HAW := iawake_any w2 (HT.out.kept HK2.out (fun f => f))
            clear hw2
            go_wp2_with fail
            refine HAW.mono ?_
            rintro x w3 ⟨rfl, hk3⟩
            have HK3 : Hid (Same W w3) := hid (Same.trans HK2.out hk3)
            clear hk3 HAW
            go_wp2_with fail
            go_ret
            exact ⟨rfl, HK3.out⟩
        · obtain ⟨M, rfl⟩ : ∃ n : Nat, most = (n : Int) := ⟨most.toNat, by omega⟩
          exact parts_good W a oa ta len cap ol oc tl tc M bs _ _ hs hl hb h.nil5 ho.ints.1 ht.ints.1 ho.ints.2 ht.ints.2 (by omega) (by omega) (by omega) h.lenCap (by omega) hT

end Go.Proofs.YtmlpnidngaelnaaDoor

/-
  The law InflateStreams.
-/
namespace Go.Proofs.YtmlpnidngaelnaaDoor
open Go.RowKit

/-- What Read says of bytes that a stream was fed. -/
theorem read_is {P : List Nat} {most : Nat} {t : Ps} {er : Nat} (h : Ends (ofBytes P) most ps0 t er) : (infl5 (ofBytes P) most).e = er ∧ (er = 0 ∨ er = 55 → (infl5 (ofBytes P) most).out = t.out) ∧ (er = 0 → (infl5 (ofBytes P) most).c = t.c) := by
  obtain ⟨t0, h1, h2, h3⟩ := infl_says (ofBytes P) (ofBytes_lt P) most
  obtain ⟨rfl, rfl⟩ := h1.det h
  exact ⟨rfl, fun h9 => (h2 h9).symm, fun h9 => (h3 h9).symm⟩

theorem Row.lent {w : World} {g n : Nat} {cs : List Nat} (h : Row w (.slice (some ⟨g, 0, none⟩) (n + 2) (n + 2)) (cs ++ [165, 90])) (hn : cs.length = n) : Row w (.slice (some ⟨g, 0, none⟩) n (n + 2)) cs := by
  have := h.cut
  rw [hn] at this
  exact this

set_option maxRecDepth 100000 in
set_option maxHeartbeats 8000000 in
theorem streams_good (W : World) (a sa : Option Addr) (len cap sl sc M : Nat) (bs : List Nat) (sz : List Int) (hs : Src W (fun j => j < W.heap.size) (.slice a len cap) bs) (hl : bs.length = len) (hb : ∀ x ∈ bs, x < 256) (hn : ∀ n c, Value.slice a len cap = .slice none n c → n = 0 ∧ c = 0) (hso : SrcE intV W (fun j => j < W.heap.size) (.slice sa sl sc) sz) (hlo : sz.length = sl) (hlen : len ≤ 2000) (hol : sl ≤ 50) (hlenc : len ≤ cap) (hM : M ≤ 16384) (hT : Tab W) :
    Calls Tryd.prog 3 #[.slice a len cap, .int .i64 (M : Nat), .slice sa sl sc] W fun e w' => e = .returned (.bool true) ∧ Same W w' := by
  have HNW := pnewS_good W M hM
  have b1 : decide ((2000 : Int) < (len : Int)) = false := by simp; omega
  have b2 : decide ((50 : Int) < (sl : Int)) = false := by simp; omega
  have b3 : decide ((M : Int) < 0) = false := by simp
  have b4 : decide ((16384 : Int) < (M : Int)) = false := by simp; omega
  have HT : Hid (Tab W) := hT
  have HS : Hid (Src W (fun j => j < W.heap.size) (.slice a len cap) bs) := hs
  have HSZ : Hid (SrcE intV W (fun j => j < W.heap.size) (.slice sa sl sc) sz ∧ sz.length = sl) := hid ⟨hso, hlo⟩
  have HL : Hid (bs.length = len) := hl
  have HB : Hid (∀ x ∈ bs, x < 256) := hb
  have HN : Hid (∀ n c, Value.slice a len cap = .slice none n c → n = 0 ∧ c = 0) := hn
  clear hs hso hl hlo hb hn hT
  go_enter Tryd.func3, Tryd.ntmps3
  go_wp2_with fail
  refine HNW.mono ?_
  rintro x w2 ⟨rfl, hsm2, hk2'⟩
  obtain ⟨N, hNN⟩ : ∃ N, N = W.heap.size := ⟨_, rfl⟩
  obtain ⟨F0, hst0⟩ := StI.new W w2 M hM hsm2 HT.out hk2'
  rw [← hNN] at hst0 ⊢
  have HON : Hid (0 < N ∧ W.heap.size ≤ N) := hid ⟨by have := HT.out.lt; omega, by omega⟩
  have HT0 : Hid (StI N w2 N M (bs.take 0) ps0 55 F0) := hid (by rw [List.take_zero]; exact hst0)
  have HK2 : Hid (Same W w2) := hk2'
  clear hsm2 hk2' hst0 hNN HNW
  go_wp2_with fail
  go_loopg [9, 10, 11] (sl + 1) (fun qq z9 z10 z11 wr => ∃ (i at' told : Nat) (t : Ps) (er : Nat) (F : Nat → Prop), z9 = .int .i64 (told : Nat) ∧ z10 = .int .i64 (at' : Nat) ∧ z11 = .int .i64 (i : Nat) ∧ i ≤ sl + 1 ∧ sl + 1 - i ≤ qq ∧ at' ≤ len ∧ Hid (er = 0 ∨ er = 55 → told = t.out.length) ∧ Hid (StI N wr N M (bs.take at') t er F) ∧ Hid (Same W wr))
  case atStart => exact ⟨0, 0, 0, ps0, 55, F0, rfl, rfl, rfl, by omega, by omega, by omega, hid (fun _ => rfl), HT0, HK2⟩
  case round =>
    clear HT0 HK2 b1 b2 b3 b4
    obtain ⟨i, at', told, t, er, F, rfl, rfl, rfl, hi1, hiq, hat, HTD, HSI, HKi⟩ := hrel
    by_cases hi : i ≤ sl
    · have y1 : decide ((i : Int) ≤ (sl : Int)) = true := by simp; omega
      have y2 : decide (i ≤ sl) = true := by simp; omega
      have HCT := cuts_any wr at' len i _ sa sl sc sz (HSZ.out.1.same HKi.out) HSZ.out.2 hat (by omega)
      have HIL : Hid (i ≤ sl) := hi
      clear hi
      go_wp2_with fail
      refine HCT.mono ?_
      rintro x w3 ⟨e1, rfl, h1e, he1, _, hk3⟩
      have HSI3 : Hid (StI N w3 N M (bs.take at') t er F) := hid (HSI.out.kept hk3 (fun _ _ f => f) (fun f => f))
      have HK3 : Hid (Same W w3) := hid (Same.trans HKi.out hk3)
      obtain ⟨n, hnn⟩ : ∃ n, e1 - at' = n := ⟨_, rfl⟩
      obtain ⟨cs, hcs⟩ : ∃ cs, cs = (bs.drop at').take (e1 - at') := ⟨_, rfl⟩
      have HCS : Hid (cs.length = n ∧ (∀ b ∈ cs, b < 256) ∧ bs.take at' ++ cs = bs.take e1) := hid ⟨by rw [hcs, List.length_take, List.length_drop, HL.out]; omega, fun b hb => HB.out b (by rw [hcs] at hb; exact List.mem_of_mem_drop (List.mem_of_mem_take hb)), by rw [hcs]; exact take_part bs at' e1 h1e⟩
      obtain ⟨a', ha'⟩ : ∃ a', (if cap = at' then a else Option.map (fun x => x.add at') a) = a' := ⟨_, rfl⟩
      have HSR : Hid (∀ (w9 : World) (c' : Nat), Same W w9 → Src w9 (fun j => j < W.heap.size) (.slice a' n c') cs) := hid (fun w9 c' hk9 => by
        rw [hcs, ← hnn]
        refine (HS.out.kept hk9 (fun _ _ _ f => f)).part h1e (by rw [HL.out]; exact he1) (fun h9 => ?_)
        obtain ⟨ao, c9, e9, hq⟩ := HS.out
        obtain ⟨b, o, h8, _⟩ := hq (fun e => by have := HL.out; rw [e] at this; simp at this; omega)
        simp only [Value.slice.injEq] at e9
        refine ⟨b, o, by rw [e9.1]; exact h8, ?_⟩
        rw [← ha', if_neg (by omega), e9.1, h8]
        simp [addAt])
      have i1 : (0 : Int) ≤ (at' : Int) := by omega
      have i2 : (at' : Int) ≤ (e1 : Int) := by omega
      have i3 : (e1 : Int) ≤ (cap : Int) := by omega
      have i4 : (at' : Int) ≤ (cap : Int) := by omega
      have i5 : at' ≤ e1 := h1e
      have i6 : e1 ≤ cap := by omega
      have HE1 : Hid (at' ≤ e1 ∧ e1 ≤ len ∧ n = e1 - at') := hid ⟨h1e, he1, hnn.symm⟩
      have HLN := lend_any w3 (.slice a' n (cap - at')) _ cs (HSR.out w3 _ HK3.out) (by rw [HCS.out.1]; omega)
      rw [HCS.out.1] at HLN
      clear hk3 HCT he1 y1 y2 hcs
      go_wp2_with fail
      refine HLN.mono ?_
      rintro x w4 ⟨g, rfl, hr4, hk4, hg4⟩
      have HR4 : Hid (Row w4 (.slice (some ⟨g, 0, none⟩) (n + 2) (n + 2)) (cs ++ [165, 90])) := hr4
      have HSI4 : Hid (StI N w4 N M (bs.take at') t er F) := hid (HSI3.out.kept hk4 (fun _ _ f => f) (fun f => f))
      have HK4 : Hid (Same W w4) := hid (Same.trans HK3.out hk4)
      have HGF : Hid (w3.heap.size ≤ g ∧ g < w4.heap.size ∧ N ≤ w3.heap.size) := hid ⟨hg4, hr4.lt rfl, HSI3.out.size.1⟩
      have HNF : Hid (¬ F g) := hid (fun f9 => by have := HSI3.out.lt g f9; omega)
      have HFD := stI_feed w4 N M (bs.take at') t er F HSI4.out (.slice (some ⟨g, 0, none⟩) n (n + 2)) _ cs (Src.ofRow (hr4.lent HCS.out.1)) HCS.out.2.1 (fun n9 c9 e9 => by cases e9) (by rw [List.length_take, HCS.out.1, HL.out]; have := HE1.out; omega) HON.out.1
      rw [HCS.out.2.2] at HFD
      clear hr4 hk4 hg4 HLN
      go_wp2_with fail
      refine HFD.mono ?_
      rintro x w5 ⟨u, t5, er5, F5, hf5⟩
      obtain ⟨g5, hg5⟩ : ∃ g : Nat, (if er5 = 55 then 0 else er5) = g := ⟨_, rfl⟩
      have hx := hf5.ret
      rw [hg5] at hx
      subst hx
      obtain ⟨p5, hp5⟩ : ∃ p : List Nat, (if er5 = 0 ∨ er5 = 55 then t5.out.drop t.out.length else []) = p := ⟨_, rfl⟩
      have hr5 := hf5.row
      rw [hp5] at hr5
      obtain ⟨au, cu, hu, _⟩ := hr5.shape
      obtain ⟨nu, hnu⟩ : ∃ n, p5.length = n := ⟨_, rfl⟩
      rw [hnu] at hu
      subst hu
      have HNU : Hid (p5.length = nu) := hnu
      have HG5 : Hid ((if er5 = 55 then 0 else er5) = g5) := hg5
      have HP5 : Hid ((if er5 = 0 ∨ er5 = 55 then t5.out.drop t.out.length else []) = p5) := hp5
      have HBK : Hid (er5 = 0 ∨ er5 = 55 → er = 0 ∨ er = 55) := hid (by
        intro h9
        refine Classical.byContradiction (fun hc => ?_)
        have h1 := ends_behind cs HSI4.out.ends (fun e => hc (.inr e))
        rw [HCS.out.2.2] at h1
        have h2 := (h1.det hf5.st.ends).2
        omega)
      have HALL : Hid (er5 = 0 ∨ er5 = 55 → t.out ++ t5.out.drop t.out.length = t5.out) := hid hf5.all
      have HR5 : Hid (Row w5 (.slice (some ⟨g, 0, none⟩) (n + 2) (n + 2)) (cs ++ [165, 90])) := hid (HR4.out.kept hf5.kept (fun k e f9 => by simp [Value.ownBlock] at e; rw [← e] at f9; exact HNF.out f9))
      have HK5 : Hid (Same W w5) := hid (Same.then HK4.out hf5.kept (fun k hk9 f9 => by have := HSI4.out.from' k f9; have := HON.out.2; omega))
      have HU5 : Hid (Row w5 (.slice au nu cu) p5 ∧ ∀ k, (Value.slice au nu cu).ownBlock = some k → w4.heap.size ≤ k) := hid ⟨hr5, fun k e => (hf5.new k e).1⟩
      have HSI5 : Hid (StI N w5 N M (bs.take e1) t5 er5 F5 ∧ ¬ F5 g) := hid ⟨hf5.st, fun f9 => HNF.out (hf5.old g HGF.out.2.1 f9)⟩
      have HBC := keepBack_any w5 g (.slice a' n (cap - at')) _ cs (by rw [HCS.out.1]; exact HR5.out) (HSR.out w5 _ HK5.out) (by rw [HCS.out.1]; have := HE1.out; omega) HCS.out.2.1
      rw [HCS.out.1] at HBC
      clear hf5 hr5 hg5 hp5 hnu HFD HSI4 HSI3 HR4
      go_wp2_with fail
      refine HBC.mono ?_
      rintro x w6 ⟨rfl, hk6⟩
      have HK6 : Hid (Same W w6) := hid (Same.then HK5.out hk6 (fun k hk9 e => by have := HGF.out; have := HON.out.2; omega))
      have HU6 : Hid (Row w6 (.slice au nu cu) p5) := hid (HU5.out.1.kept hk6 (fun k e e2 => by have := HU5.out.2 k e; have := HGF.out; omega))
      have HSI6 : Hid (StI N w6 N M (bs.take e1) t5 er5 F5) := hid (HSI5.out.1.kept hk6 (fun j f9 e => HSI5.out.2 (by rw [← e]; exact f9)) (fun e => by have := HGF.out; have := HON.out; omega))
      have HRD := read5_any w6 (.slice a e1 cap) _ (bs.take e1) M ((HS.out.kept HK6.out (fun _ _ _ f => f)).take (by rw [HL.out]; exact HE1.out.2.1) cap) (fun b hb => HB.out b (List.mem_of_mem_take hb)) (by rw [List.length_take, HL.out]; omega) hM
      clear hk6 HBC HR5 HU5 HSI5 ha'
      go_wp2_with fail
      refine HRD.mono ?_
      rintro x w7 ⟨h7, vb7, c7, vo7, rfl, hrr⟩
      obtain ⟨hie, hio, hic⟩ := read_is HSI6.out.ends
      have HK7 : Hid (Same W w7) := hid (Same.trans HK6.out hrr.same)
      have HU7 : Hid (Row w7 (.slice au nu cu) p5) := hid (HU6.out.kept hrr.same (fun _ _ f => f))
      have HSI7 : Hid (StI N w7 N M (bs.take e1) t5 er5 F5) := hid (HSI6.out.kept hrr.same (fun _ _ f => f) (fun f => f))
      have hbl := hrr.blk
      rw [hie] at hbl
      have k1 := hbl.cell 1
      have k2 := hbl.cell 2
      have k4 := hbl.cell 4
      simp at k1 k2 k4
      have HCE : Hid (er5 = 0 → c7 = t5.c) := hid (fun h9 => by rw [hrr.pl (by rw [hie]; exact h9), hic h9])
      have HRO : Hid (er5 = 0 ∨ er5 = 55 → Row w7 vo7 t5.out) := hid (fun h9 => by rw [← hio h9]; exact hrr.row)
      obtain ⟨av, cv, hvo, _⟩ := hrr.row.shape
      obtain ⟨nv, hnv⟩ : ∃ n, (infl5 (ofBytes (bs.take e1)) M).out.length = n := ⟨_, rfl⟩
      rw [hnv] at hvo
      subst hvo
      have HNV : Hid (er5 = 0 ∨ er5 = 55 → nv = t5.out.length) := hid (fun h9 => by rw [← hnv, hio h9])
      obtain ⟨mo, vl, bv, vah, go, hobj⟩ := HSI7.out.obj
      have HOB : Hid (Sm w7 N mo vl bv vah go er5) := hobj
      clear hrr hie hio hic hbl hnv hobj HRD HU6 HSI6
      by_cases he0 : er5 = 0
      · subst he0
        have hg5 : g5 = 0 := by have := HG5.out; rw [if_neg (by decide)] at this; exact this.symm
        rw [hg5]
        have htd : told = t.out.length := HTD.out (HBK.out (.inl rfl))
        have hp5 : p5 = t5.out.drop told := by have := HP5.out; rw [if_pos (.inl rfl)] at this; rw [htd]; exact this.symm
        have hnv : nv = t5.out.length := HNV.out (.inl rfl)
        have htl : told ≤ nv := by have := congrArg List.length (HALL.out (.inl rfl)); rw [List.length_append] at this; omega
        obtain ⟨a2, ha2⟩ : ∃ a2, (if cv = told then av else Option.map (fun x => x.add told) av) = a2 := ⟨_, rfl⟩
        have hrow7 : Row w7 (.slice av nv cv) t5.out := HRO.out (.inl rfl)
        have hnc : nv ≤ cv := by
          rcases hrow7.2 with ⟨e9, h9⟩ | ⟨g9, cp, cu9, e9, _, _, h9, _⟩
          · simp only [Value.slice.injEq] at e9; omega
          · simp only [Value.slice.injEq] at e9; omega
        have HSO : Hid (∀ (w9 : World) (c' : Nat), Same w7 w9 → Src w9 (fun j => (Value.slice av t5.out.length cv).ownBlock = some j) (.slice a2 (nv - told) c') p5) := hid (fun w9 c' hk9 => by
          rw [hp5, hnv]
          rw [hnv] at hrow7
          refine (hrow7.rest told (by omega) a2 c' (fun h9 => ?_)).kept hk9 (fun _ _ _ f => f)
          obtain ⟨g9, hg9⟩ := hrow7.addr (fun e => by rw [e] at h9; simp at h9)
          refine ⟨g9, hg9, ?_⟩
          rw [← ha2, if_neg (by omega), hg9]
          simp [addAt])
        have HK1 := keepBytes_same w7 (.slice au nu cu) (.slice a2 (nv - told) (cv - told)) _ _ p5 (Src.ofRow HU7.out) (HSO.out w7 _ (Kept.refl _ _)) (by rw [hp5, List.length_drop]; have := (ends_in HSI7.out.ends).2; omega)
        obtain ⟨a3, ha3⟩ : ∃ a3, (if cap = e1 then a else Option.map (fun x => x.add e1) a) = a3 := ⟨_, rfl⟩
        have j1 : (0 : Int) ≤ (told : Int) := by omega
        have j2 : (told : Int) ≤ (nv : Int) := by omega
        have j3 : (nv : Int) ≤ (cv : Int) := by omega
        have j4 : (told : Int) ≤ (cv : Int) := by omega
        have j5 : decide ((nv : Int) < (told : Int)) = false := by simp; omega
        have j6 : decide (nv < told) = false := by simp; omega
        have HNVt : Hid (nv = t5.out.length) := hnv
        have hce : c7 = t5.c := HCE.out rfl
        obtain ⟨s7, hs7⟩ : ∃ s, s = c7 + 7 := ⟨_, rfl⟩
        obtain ⟨q, hq⟩ : ∃ q, q = s7 / 8 := ⟨_, rfl⟩
        have hqe : q ≤ e1 := by
          have := (ends_in HSI7.out.ends).1
          rw [List.length_take] at this
          omega
        have HQ : Hid (q = (t5.c + 7) / 8) := hid (by rw [hq, hs7, hce])
        have q1 : (c7 : Int) + 7 = (s7 : Int) := by omega
        have hcb : c7 ≤ 100000 := by
          have := (HSI7.out.ends.inv (ofBytes_lt _) (ps0_ok _)).1.le
          rw [ofBytes_length, List.length_take] at this
          have := HL.out; have := HE1.out
          omega
        have q2 : IntKind.i64.wrap (s7 : Int) = (s7 : Int) := by rw [IntKind.wrap_i64]; omega
        have q3 : (s7 : Int) / 8 = (q : Int) := by omega
        have q4 : Int.tdiv (s7 : Int) 8 = (q : Int) := by rw [Int.tdiv_eq_ediv_of_nonneg (by omega)]; exact q3
        have q5 : IntKind.i64.wrap (q : Int) = (q : Int) := by rw [IntKind.wrap_i64]; omega
        obtain ⟨a4, ha4⟩ : ∃ a4, (if cap = q then a else Option.map (fun x => x.add q) a) = a4 := ⟨_, rfl⟩
        have HS4 : Hid (∀ (w9 : World) (c' : Nat), Same W w9 → Src w9 (fun j => j < W.heap.size) (.slice a4 (e1 - q) c') ((bs.take e1).drop q)) := hid (fun w9 c' hk9 => by
          rw [List.drop_take]
          refine (HS.out.kept hk9 (fun _ _ _ f => f)).part hqe (by rw [HL.out]; exact HE1.out.2.1) (fun h9 => ?_)
          obtain ⟨ao, c9, e9, hz⟩ := HS.out
          obtain ⟨b, o, h8, _⟩ := hz (fun e => by have h1 := HL.out; have h2 := HE1.out; rw [e] at h1; simp at h1; omega)
          simp only [Value.slice.injEq] at e9
          refine ⟨b, o, by rw [e9.1]; exact h8, ?_⟩
          rw [← ha4, if_neg (by omega), e9.1, h8]
          simp [addAt])
        have q6 : (q : Int) ≤ (e1 : Int) := by omega
        have q7 : (0 : Int) ≤ (q : Int) := by omega
        have q8 : (q : Int) ≤ (cap : Int) := by omega
        have HDN := fun w9 (hk9 : Same w7 w9) => pdone_any w9 N mo vl bv vah go 0 (HOB.out.kept hk9 (fun f => f))
        simp only [show ((0 : Nat) == 0) = true from by decide] at HDN
        have HDN' := hid HDN
        clear hg5 htd hp5 hnv hrow7 hce hs7 hq hcb HDN
        go_wp2_with fail
        refine HK1.mono ?_
        rintro x w8 ⟨rfl, hk8⟩
        have HK8 : Hid (Same w7 w8) := hk8
        have HD8 := HDN'.out w8 hk8
        clear hk8 HK1
        go_wp2_with fail
        refine HD8.mono ?_
        rintro x w9 ⟨rfl, m9, hw9⟩
        have HK9 : Hid (Same w7 w9) := hid (by rw [hw9]; exact HK8.out.drewN m9)
        have k1' : w9.cell? ⟨h7, 1, none⟩ = some (.int .i64 (c7 : Nat)) := HK9.out.cell k1 (fun f => f)
        have k2' : w9.cell? ⟨h7, 2, none⟩ = some (.slice av nv cv) := HK9.out.cell k2 (fun f => f)
        obtain ⟨vr, hsm9, hrow9⟩ := (HSI7.out.kept HK9.out (fun _ _ f => f) (fun f => f)).isDone rfl
        have HRS := prest_any w9 N 0 _ _ vr 0 _ hsm9 hrow9 (by rw [List.length_drop, List.length_take]; have := HE1.out; omega)
        rw [← HQ.out] at HRS
        clear hw9 HD8 hsm9 hrow9 k1 k2 k4
        go_wp2_with fail
        refine HRS.mono ?_
        rintro x w10 ⟨v10, rfl, hf10⟩
        have HK10 : Hid (Same w7 w10) := hid (Same.trans HK9.out hf10.kept)
        have HKB := keepBytes_same w10 v10 (.slice a4 (e1 - q) (cap - q)) _ _ _ (Src.ofRow hf10.row) (HS4.out w10 _ (Same.trans HK7.out HK10.out)) (by rw [List.length_drop, List.length_take]; have := HE1.out; omega)
        obtain ⟨a10, c10, hv10, _⟩ := hf10.row.shape
        generalize ((bs.take e1).drop q).length = n10 at hv10
        subst hv10
        clear hf10 HRS
        go_wp2_with fail
        refine HKB.mono ?_
        rintro x w11 ⟨rfl, hk11⟩
        have HK11 : Hid (Same w7 w11) := hid (Same.trans HK10.out hk11)
        have HCL := pclose_any w11 N mo vl bv vah go 0 (HOB.out.kept HK11.out (fun f => f))
        clear hk11 HKB
        go_wp2_with fail
        refine HCL.mono ?_
        rintro x w12 ⟨rfl, hw12⟩
        subst hw12
        clear HCL
        go_wp2_with fail
        go_roundg (gk - 1)
        case measure => have := HIL.out; omega
        case rel => exact ⟨i + 1, e1, nv, t5, 0, F5, rfl, rfl, by go_num, by have := HIL.out; omega, by have := HIL.out; omega, HE1.out.2.1, hid (fun _ => HNVt.out), hid (HSI7.out.kept HK11.out (fun _ _ f => f) (fun f => f)), hid (Same.trans HK7.out HK11.out)⟩
      · by_cases he5 : er5 = 55
        · subst he5
          clear he0
          have hg5 : g5 = 0 := by have := HG5.out; rw [if_pos rfl] at this; exact this.symm
          rw [hg5]
          have htd : told = t.out.length := HTD.out (HBK.out (.inr rfl))
          have hp5 : p5 = t5.out.drop told := by have := HP5.out; rw [if_pos (.inr rfl)] at this; rw [htd]; exact this.symm
          have hnv : nv = t5.out.length := HNV.out (.inr rfl)
          have htl : told ≤ nv := by have := congrArg List.length (HALL.out (.inr rfl)); rw [List.length_append] at this; omega
          obtain ⟨a2, ha2⟩ : ∃ a2, (if cv = told then av else Option.map (fun x => x.add told) av) = a2 := ⟨_, rfl⟩
          have hrow7 : Row w7 (.slice av nv cv) t5.out := HRO.out (.inr rfl)
          have hnc : nv ≤ cv := by
            rcases hrow7.2 with ⟨e9, h9⟩ | ⟨g9, cp, cu9, e9, _, _, h9, _⟩
            · simp only [Value.slice.injEq] at e9; omega
            · simp only [Value.slice.injEq] at e9; omega
          have HSO : Hid (∀ (w9 : World) (c' : Nat), Same w7 w9 → Src w9 (fun j => (Value.slice av t5.out.length cv).ownBlock = some j) (.slice a2 (nv - told) c') p5) := hid (fun w9 c' hk9 => by
            rw [hp5, hnv]
            rw [hnv] at hrow7
            refine (hrow7.rest told (by omega) a2 c' (fun h9 => ?_)).kept hk9 (fun _ _ _ f => f)
            obtain ⟨g9, hg9⟩ := hrow7.addr (fun e => by rw [e] at h9; simp at h9)
            refine ⟨g9, hg9, ?_⟩
            rw [← ha2, if_neg (by omega), hg9]
            simp [addAt])
          have HK1 := keepBytes_same w7 (.slice au nu cu) (.slice a2 (nv - told) (cv - told)) _ _ p5 (Src.ofRow HU7.out) (HSO.out w7 _ (Kept.refl _ _)) (by rw [hp5, List.length_drop]; have := (ends_in HSI7.out.ends).2; omega)
          obtain ⟨a3, ha3⟩ : ∃ a3, (if cap = e1 then a else Option.map (fun x => x.add e1) a) = a3 := ⟨_, rfl⟩
          have j1 : (0 : Int) ≤ (told : Int) := by omega
          have j2 : (told : Int) ≤ (nv : Int) := by omega
          have j3 : (nv : Int) ≤ (cv : Int) := by omega
          have j4 : (told : Int) ≤ (cv : Int) := by omega
          have j5 : decide ((nv : Int) < (told : Int)) = false := by simp; omega
          have j6 : decide (nv < told) = false := by simp; omega
          have HNVt : Hid (nv = t5.out.length) := hnv
          have HDN := fun w9 (hk9 : Same w7 w9) => pdone_any w9 N mo vl bv vah go 55 (HOB.out.kept hk9 (fun f => f))
          simp only [show ((55 : Nat) == 0) = false from by decide] at HDN
          have HDN' := hid HDN
          have q6 : (e1 : Int) ≤ (e1 : Int) := by omega
          have q7 : (0 : Int) ≤ (e1 : Int) := by omega
          clear hg5 htd hp5 hnv hrow7 HDN
          go_wp2_with fail
          refine HK1.mono ?_
          rintro x w8 ⟨rfl, hk8⟩
          have HK8 : Hid (Same w7 w8) := hk8
          have HD8 := HDN'.out w8 hk8
          clear hk8 HK1
          go_wp2_with fail
          refine HD8.mono ?_
          rintro x w9 ⟨rfl, m9, hw9⟩
          have HK9 : Hid (Same w7 w9) := hid (by rw [hw9]; exact HK8.out.drewN m9)
          have k2' : w9.cell? ⟨h7, 2, none⟩ = some (.slice av nv cv) := HK9.out.cell k2 (fun f => f)
          have HRS := prest_not w9 N mo vl bv vah go 55 (HOB.out.kept HK9.out (fun f => f)) (by decide)
          clear hw9 HD8 k1 k2 k4
          go_wp2_with fail
          refine HRS.mono ?_
          rintro x w10 ⟨rfl, m10, hw10⟩
          have HK10 : Hid (Same w7 w10) := hid (by rw [hw10]; exact HK9.out.drewN m10)
          have HKB := keepBytes_same w10 (.slice none 0 0) (.slice a3 0 (cap - e1)) (fun _ => False) (fun _ => False) [] ⟨none, 0, rfl, fun h9 => absurd rfl h9⟩ ⟨a3, _, rfl, fun h9 => absurd rfl h9⟩ (by simp)
          clear hw10 HRS
          go_wp2_with fail
          refine HKB.mono ?_
          rintro x w11 ⟨rfl, hk11⟩
          have HK11 : Hid (Same w7 w11) := hid (Same.trans HK10.out hk11)
          have HCL := pclose_any w11 N mo vl bv vah go 55 (HOB.out.kept HK11.out (fun f => f))
          clear hk11 HKB
          go_wp2_with fail
          refine HCL.mono ?_
          rintro x w12 ⟨rfl, hw12⟩
          subst hw12
          clear HCL
          go_wp2_with fail
          go_roundg (gk - 1)
          case measure => have := HIL.out; omega
          case rel => exact ⟨i + 1, e1, nv, t5, 55, F5, rfl, rfl, by go_num, by have := HIL.out; omega, by have := HIL.out; omega, HE1.out.2.1, hid (fun _ => HNVt.out), hid (HSI7.out.kept HK11.out (fun _ _ f => f) (fun f => f)), hid (Same.trans HK7.out HK11.out)⟩
        · have hg5 : g5 = er5 := by have := HG5.out; rw [if_neg he5] at this; exact this.symm
          have hp5 : p5 = [] := by have := HP5.out; rw [if_neg (by omega)] at this; exact this.symm
          have hnu0 : nu = 0 := by have := HNU.out; rw [hp5] at this; exact this.symm
          rw [hg5, hnu0]
          clear hg5 hnu0
          have x1 : ((er5 : Int) == 0) = false := by simp; omega
          have x2 : ((er5 : Int) != 55) = true := by simp; omega
          have x3 : ((er5 : Int) != (er5 : Int)) = false := by simp
          have x4 : (er5 == 0) = false := by simp; omega
          have HD9 : ∀ m, Calls Tryd.prog 14 #[.pointer (some ⟨N, 0, none⟩)] (w7.drewN m) fun x w' => x = .returned (.bool false) ∧ ∃ k, w' = (w7.drewN m).drewN k := fun m => by
            have h9 := pdone_any (w7.drewN m) N mo vl bv vah go er5 (HOB.out.kept ((Kept.refl (fun _ => False) w7).drewN m) (fun f => f))
            rw [x4] at h9
            exact h9
          have HC9 : ∀ m, Calls Tryd.prog 15 #[.pointer (some ⟨N, 0, none⟩)] (w7.drewN m) fun x w' => x = .returned (.int .i64 (er5 : Nat)) ∧ w' = w7.drewN m := fun m => pclose_any (w7.drewN m) N mo vl bv vah go er5 (HOB.out.kept ((Kept.refl (fun _ => False) w7).drewN m) (fun f => f))
          have HR9 : ∀ m, Calls Tryd.prog 16 #[.pointer (some ⟨N, 0, none⟩)] (w7.drewN m) fun x w' => x = .returned (.slice none 0 0) ∧ ∃ k, w' = (w7.drewN m).drewN k := fun m => prest_not (w7.drewN m) N mo vl bv vah go er5 (HOB.out.kept ((Kept.refl (fun _ => False) w7).drewN m) (fun f => f)) he0
          have HER : Hid (er5 ≠ 0 ∧ er5 ≠ 55) := hid ⟨he0, he5⟩
          clear he0 he5 hp5 x4
          go_wp2_with fail
          go_quiet (first | (go_at_call 14; exact Calls.quiet_of (HD9 _)) | (go_at_call 15; exact Calls.quiet_of_same (HC9 _)) | (go_at_call 16; exact Calls.quiet_of (HR9 _)))
          go_wp2_with fail
          go_roundg (gk - 1)
          case measure => have := HIL.out; omega
          case rel => exact ⟨i + 1, e1, told, t5, er5, F5, rfl, rfl, by go_num, by have := HIL.out; omega, by have := HIL.out; omega, HE1.out.2.1, hid (fun h9 => absurd h9 (by have := HER.out; omega)), hid (HSI7.out.kept ((Kept.refl (fun _ => False) w7).drewN _) (fun _ _ f => f) (fun f => f)), hid (HK7.out.drewN _)⟩
    · have y1 : decide ((i : Int) ≤ (sl : Int)) = false := by simp; omega
      have y2 : decide (i ≤ sl) = false := by simp; omega
      have HAW := iawake_any wr (HT.out.kept HKi.out (fun f => f))
      clear hi
      go_wp2_with fail
      refine HAW.mono ?_
      rintro x w3 ⟨rfl, hk3⟩
      have HK3 : Hid (Same W w3) := hid (Same.trans HKi.out hk3)
      clear hk3 HAW
      go_wp2_with fail
      go_ret
      exact ⟨rfl, HK3.out⟩

set_option maxRecDepth 100000 in
set_option maxHeartbeats 4000000 in
theorem inflateStreams_all (a : Option Addr) (len cap : Nat) (zs : List Int) (most : Int) (sa : Option Addr) (sl sc : Nat) (zo : List Int) (W : World) (h : IsRow .u8 W a len cap zs) (_hm : (Lit.int .i64 most).wf = true) (ho : IsRow .i64 W sa sl sc zo) (hT : Tab W) :
    Calls Tryd.prog 3 #[.slice a len cap, .int .i64 most, .slice sa sl sc] W fun e w' => e = .returned (.bool true) ∧ Below W.heap.size W w' := by
  obtain ⟨bs, hs, hl, hb⟩ := h.src
  suffices H : Calls Tryd.prog 3 #[.slice a len cap, .int .i64 most, .slice sa sl sc] W fun e w' => e = .returned (.bool true) ∧ Same W w' from H.mono (fun e w' h => ⟨h.1, h.2.bel⟩)
  by_cases hlong : 2000 < len
  · have b1 : decide ((2000 : Int) < (len : Int)) = true := by simp; omega
    clear hlong hT h ho hs hl hb
    go_enter Tryd.func3, Tryd.ntmps3
    go_wp2_with fail
    go_ret
    exact ⟨rfl, Kept.refl _ _⟩
  · have b1 : decide ((2000 : Int) < (len : Int)) = false := by simp; omega
    by_cases hlo : 50 < sl
    · have b2 : decide ((50 : Int) < (sl : Int)) = true := by simp; omega
      clear hlong hlo hT h ho hs hl hb
      go_enter Tryd.func3, Tryd.ntmps3
      go_wp2_with fail
      go_ret
      exact ⟨rfl, Kept.refl _ _⟩
    · have b2 : decide ((50 : Int) < (sl : Int)) = false := by simp; omega
      by_cases hbad : most < 0 ∨ 16384 < most
      · have HNW := pnewS_bad W most hbad
        have HT : Hid (Tab W) := hT
        by_cases h0 : most < 0
        · have b3 : decide (most < 0) = true := by simp; omega
          clear hlong hlo hT h ho hs hl hb hbad h0
          go_enter Tryd.func3, Tryd.ntmps3
          go_wp2_with fail
          refine HNW.mono ?_
          rintro x w2 ⟨rfl, m2, hw2⟩
          have HK2 : Hid (Same W w2) := hid (by rw [hw2]; exact (Kept.refl _ W).drewN m2)
          have HAW := iawake_any w2 (HT.out.kept HK2.out (fun f => f))
          clear hw2 HNW
          go_wp2_with fail
          refine HAW.mono ?_
          rintro x w3 ⟨rfl, hk3⟩
          have HK3 : Hid (Same W w3) := hid (Same.trans HK2.out hk3)
          clear hk3 HAW
          go_wp2_with fail
          go_ret
          exact ⟨rfl, HK3.out⟩
        · have b3 : decide (most < 0) = false := by simp; omega
          have b4 : decide (16384 < most) = true := by simp; omega
          clear hlong hlo hT h ho hs hl hb hbad h0
          go_enter Tryd.func3, Tryd.ntmps3
          go_wp2_with fail
          refine HNW.mono ?_
          rintro x w2 ⟨rfl, m2, hw2⟩
          have HK2 : Hid (Same W w2) := hid (by rw [hw2]; exact (Kept.refl _ W).drewN m2)
          have HAW := iawake_any w2 (HT.out.kept HK2.out (fun f => f))
          clear hw2 HNW
          go_wp2_with fail
          refine HAW.mono ?_
          rintro x w3 ⟨rfl, hk3⟩
          have HK3 : Hid (Same W w3) := hid (Same.trans HK2.out hk3)
          clear hk3 HAW
          go_wp2_with fail
          go_ret
          exact ⟨rfl, HK3.out⟩
      · obtain ⟨M, rfl⟩ : ∃ n : Nat, most = (n : Int) := ⟨most.toNat, by omega⟩
        exact streams_good W a sa len cap sl sc M bs _ hs hl hb h.nil5 ho.ints.1 ho.ints.2 (by omega) (by omega) h.lenCap (by omega) hT

end Go.Proofs.YtmlpnidngaelnaaDoor
