/-
  Of the proof: parts InAx, InLw, InAllLaw.
-/
import Derived.Laws.BytesArg
import Derived.Test.YtmlpnidngaelnaaGreatDoorJ21
import Derived.Test.YtmlpnidngaelnaaGreatDoorJ22
import Derived.Test.YtmlpnidngaelnaaGreatDoorJ6
import Derived.Test.YtmlpnidngaelnaaGreatDoorJ13
import Derived.Test.YtmlpnidngaelnaaGreatDoorJ18
import Derived.Test.YtmlpnidngaelnaaGreatDoorJ7

/-
  The law's awake, walked.
-/
namespace Go.Proofs.YtmlpnidngaelnaaGreatDoor
open Go.RowKit

theorem str_of {w : World} {g n c : Nat} {bs : List Nat} (h : Row w (.slice (some ⟨g, 0, none⟩) n c) bs) (hn : bs.length = n) : (convert 22 9 (.slice (some ⟨g, 0, none⟩) n c)).run Tryz.prog w = .ok (.string (strOfNums (bs.map (fun b => ((b : Nat) : Int))))) w := by
  subst hn
  exact run_convert_bytes_arg (P := Tryz.prog) w 22 5 Tryz.underlying22 Tryz.underlying5 g 0 bs.length c (bs.map (fun b => ((b : Nat) : Int))) (by simp) (fun i hi => by rw [Nat.zero_add, Row.cell h i hi]; simp [List.getD, hi]) 9 Tryz.underlying9

theorem Row.addr {w : World} {a : Option Addr} {n c : Nat} {bs : List Nat} (h : Row w (.slice a n c) bs) (hb : bs ≠ []) : ∃ g, a = some ⟨g, 0, none⟩ := by
  obtain ⟨ao, cap, e, hg⟩ := h.shape
  simp only [Value.slice.injEq] at e
  rw [e.1]
  exact hg hb

set_option maxRecDepth 100000 in
set_option maxHeartbeats 4000000 in
theorem iawake_any (w : World) (hT : Tab w) : Calls Tryz.prog 10 #[] w fun x w' => x = .returned (.bool true) ∧ Same w w' := by
  have H1 := pinfl_lit w [75, 76, 74, 6, 0] 5 9 rfl (by decide) (by decide) (by decide) hT
  have HE1 : Hid (Ends (ofBytes [75, 76, 74, 6, 0]) 9 ps0 ⟨34, [97, 98, 99], some (.sym true fixL fixD)⟩ 0) := hid (by
    have := ends_abc [] (by simp)
    rwa [List.append_nil] at this)
  have HT : Hid (Tab w) := hT
  clear hT
  go_enter Tryz.func10, Tryz.ntmps10
  go_wp2_with fail
  refine H1.mono ?_
  rintro x w1 hi
  obtain ⟨v1, rfl, hr1, hv1, hk1⟩ := hi.is HE1.out
  have HK1 : Hid (Same w w1) := hid (Same.trans ((Kept.refl _ w).alloc _) hk1)
  have HR1 : Hid (Row w1 v1 [97, 98, 99]) := hr1
  obtain ⟨a1, c1, rfl, _⟩ := HR1.out.shape
  have H2 := pinfl_lit w1 [75, 132, 0, 0] 4 99 rfl (by decide) (by decide) (by decide) (HT.out.kept HK1.out (fun f => f))
  have HV1 := hid hv1
  clear hi hr1 hv1 hk1 H1
  go_wp2_with fail
  refine H2.mono ?_
  rintro x w2 hi
  obtain ⟨v2, rfl, hr2, hv2, hk2⟩ := hi.is ends_as
  have hk12 : Same w1 w2 := Same.trans ((Kept.refl _ w1).alloc _) hk2
  have HK2 : Hid (Same w w2) := hid (Same.trans HK1.out hk12)
  have HR1' : Hid (Row w2 (.slice a1 3 c1) [97, 98, 99]) := hid (HR1.out.kept hk12 (fun _ _ f => f))
  have HR2 : Hid (Row w2 v2 [97, 97, 97, 97, 97, 97, 97]) := hr2
  obtain ⟨a2, c2, rfl, _⟩ := HR2.out.shape
  have H3 := pinfl_lit w2 [7] 1 9 rfl (by decide) (by decide) (by decide) (HT.out.kept HK2.out (fun f => f))
  have HV2 := hid hv2
  clear hi hr2 hv2 hk2 H2 HR1 hk12
  go_wp2_with fail
  refine H3.mono ?_
  rintro x w3 hi
  obtain ⟨rfl, hk3⟩ := hi.not ends_kind (by decide)
  have hk23 : Same w2 w3 := Same.trans ((Kept.refl _ w2).alloc _) hk3
  have HK3 : Hid (Same w w3) := hid (Same.trans HK2.out hk23)
  have HR13 : Hid (Row w3 (.slice a1 3 c1) [97, 98, 99]) := hid (HR1'.out.kept hk23 (fun _ _ f => f))
  have HR23 : Hid (Row w3 (.slice a2 7 c2) [97, 97, 97, 97, 97, 97, 97]) := hid (HR2.out.kept hk23 (fun _ _ f => f))
  have H4 := pnewS_good w3 9 (by decide)
  clear hi hk3 H3 HR1' HR2 hk23
  go_wp2_with fail
  refine H4.mono ?_
  rintro x w4 ⟨rfl, hsm4, hk4⟩
  obtain ⟨ρ4, hsi4, hn4, ho4, hz4⟩ := SI.init w4 w3.heap.size 9 hsm4 (by decide) (HT.out.kept (Same.trans HK3.out hk4) (fun f => f)) (by have := (HT.out.kept HK3.out (fun f => f)).lt; omega)
  have H5 := pfeed_lit w4 ρ4 w3.heap.size 9 _ [] ps0 _ _ hsi4 hn4 (by decide) [75, 76] 2 rfl (by decide) (by decide) (by decide)
  have HK4 : Hid (Same w w4) := hid (Same.trans HK3.out hk4)
  have HR14 : Hid (Row w4 (.slice a1 3 c1) [97, 98, 99]) := hid (HR13.out.kept hk4 (fun _ _ f => f))
  have HR24 : Hid (Row w4 (.slice a2 7 c2) [97, 97, 97, 97, 97, 97, 97]) := hid (HR23.out.kept hk4 (fun _ _ f => f))
  have HO4 : Hid (∀ j, own4 (ρ4 j) → j = w3.heap.size) := ho4
  have HZ4 : Hid (∀ j, j ≠ w3.heap.size → j ≠ 0 → ρ4 j = 0) := hz4
  have hlt13 : ∀ k, (Value.slice a1 3 c1).ownBlock = some k → k ≠ w3.heap.size := fun k e => by have := HR13.out.lt e; omega
  have hlt23 : ∀ k, (Value.slice a2 7 c2).ownBlock = some k → k ≠ w3.heap.size := fun k e => by have := HR23.out.lt e; omega
  have HL13 : Hid (∀ k, (Value.slice a1 3 c1).ownBlock = some k → k ≠ w3.heap.size) := hlt13
  have HL23 : Hid (∀ k, (Value.slice a2 7 c2).ownBlock = some k → k ≠ w3.heap.size) := hlt23
  clear hsm4 hk4 hsi4 hn4 ho4 hz4 H4 HR13 HR23 hlt13 hlt23
  go_wp2_with fail
  refine H5.mono ?_
  rintro x w5 hf
  obtain ⟨v5, va5, ρ5, vl5, bv5, rfl, hr5, hv5, hsi5, hn5, hold5, hk5⟩ := hf.waits ends_wait
  have hk45 : Kept (fun j => j = w3.heap.size) w4 w5 := Kept.trans ((Kept.refl (fun _ => False) w4).alloc _) hk5 (fun _ _ f => f.elim) (fun j _ f => HO4.out j f)
  have HK5 : Hid (Same w w5) := hid (Kept.trans HK4.out hk45 (fun _ _ f => f) (fun j hj e => by have := HK3.out.size; omega))
  have HR15 : Hid (Row w5 (.slice a1 3 c1) [97, 98, 99]) := hid (HR14.out.kept hk45 (fun k e e2 => HL13.out k e e2))
  have HR25 : Hid (Row w5 (.slice a2 7 c2) [97, 97, 97, 97, 97, 97, 97]) := hid (HR24.out.kept hk45 (fun k e e2 => HL23.out k e e2))
  have HV5 : Hid (Row w5 v5 [97] ∧ ∀ k, v5.ownBlock = some k → ρ5 k = 0) := hid ⟨hr5, fun k e => (hv5 k e).2⟩
  obtain ⟨a5, c5, rfl, _⟩ := HV5.out.1.shape
  have hz5 : ∀ k, (Value.slice a5 1 c5).ownBlock = some k → ρ5 k = 0 := HV5.out.2
  have h15 : ∀ k, (Value.slice a1 3 c1).ownBlock = some k → ρ5 k = 0 ∨ k = w3.heap.size ∨ k = 0 := fun k e => by
    have h1 := HR14.out.lt e
    rw [hold5 k (by simp; omega)]
    refine Classical.byContradiction (fun hc => ?_)
    simp only [not_or] at hc
    exact hc.1 (HZ4.out k hc.2.1 hc.2.2)
  have h25 : ∀ k, (Value.slice a2 7 c2).ownBlock = some k → ρ5 k = 0 ∨ k = w3.heap.size ∨ k = 0 := fun k e => by
    have h1 := HR24.out.lt e
    rw [hold5 k (by simp; omega)]
    refine Classical.byContradiction (fun hc => ?_)
    simp only [not_or] at hc
    exact hc.1 (HZ4.out k hc.2.1 hc.2.2)
  have HTL : Hid (0 < w.heap.size) := hid HT.out.lt
  have n1 : ∀ k, (Value.slice a1 3 c1).ownBlock = some k → ¬ own4 (ρ5 k) := fun k e f => by
    have h1 := HV1.out k e
    have h2 := HTL.out
    rcases h15 k e with h | h | h
    · rw [h] at f; unfold own4 at f; omega
    · exact HL13.out k e h
    · simp at h1; omega
  have n2 : ∀ k, (Value.slice a2 7 c2).ownBlock = some k → ¬ own4 (ρ5 k) := fun k e f => by
    have h1 := HV2.out k e
    have h2 := HTL.out
    have h3 := HK1.out.size
    rcases h25 k e with h | h | h
    · rw [h] at f; unfold own4 at f; omega
    · exact HL23.out k e h
    · simp at h1; omega
  have n5 : ∀ k, (Value.slice a5 1 c5).ownBlock = some k → ¬ own4 (ρ5 k) := fun k e f => by rw [hz5 k e] at f; unfold own4 at f; omega
  have HN1 := hid n1
  have HN2 := hid n2
  have HN5 := hid n5
  have H6 := pfeed_lit w5 ρ5 w3.heap.size 9 va5 [76] ⟨3, [97], some (.sym true fixL fixD)⟩ vl5 bv5 hsi5 hn5 (by decide) [74, 6, 0, 255] 4 rfl (by decide) (by decide) (by decide)
  clear hf H5
  go_wp2_with fail
  refine H6.mono ?_
  rintro x w6 hf
  obtain ⟨v6, va6, rfl, hr6, hv6, hsm6, ha6, hk6⟩ := hf.dones ends_rest
  have hk56 : Kept (fun j => own4 (ρ5 j)) w5 w6 := Kept.trans ((Kept.refl (fun _ => False) w5).alloc _) hk6 (fun _ _ f => f.elim) (fun _ _ f => f)
  have HR16 := hid (HR15.out.kept hk56 HN1.out)
  have HR26 := hid (HR25.out.kept hk56 HN2.out)
  have HR56 := hid (HV5.out.1.kept hk56 HN5.out)
  have HR66 := hid hr6
  have HK6 : Hid (Same w w6) := hid (Kept.trans HK5.out hk56 (fun _ _ f => f) (fun j hj f => by
    have h1 := HK3.out.size
    have h2 := HK4.out.size
    rw [hold5 j (by simp; omega)] at f
    have := HO4.out j f
    omega))
  obtain ⟨a6, c6, rfl, _⟩ := HR66.out.shape
  obtain ⟨g1, rfl⟩ := HR16.out.addr (by decide)
  obtain ⟨g2, rfl⟩ := HR26.out.addr (by decide)
  obtain ⟨g5, rfl⟩ := HR56.out.addr (by decide)
  obtain ⟨g6, rfl⟩ := HR66.out.addr (by decide)
  have gs1 := str_of HR16.out rfl
  have gs2 := str_of HR26.out rfl
  have gs5 := str_of (n := 1) (show Row w6 (.slice (some ⟨g5, 0, none⟩) 1 c5) [97] from HR56.out) rfl
  have gs6 := str_of (n := 2) (show Row w6 (.slice (some ⟨g6, 0, none⟩) 2 c6) [98, 99] from HR66.out) rfl
  rw [show strOfNums ([97, 98, 99].map (fun b => ((b : Nat) : Int))) = ⟨#[97, 98, 99]⟩ from rfl] at gs1
  rw [show strOfNums ([97, 97, 97, 97, 97, 97, 97].map (fun b => ((b : Nat) : Int))) = ⟨#[97, 97, 97, 97, 97, 97, 97]⟩ from rfl] at gs2
  rw [show strOfNums ([97].map (fun b => ((b : Nat) : Int))) = ⟨#[97]⟩ from rfl] at gs5
  rw [show strOfNums ([98, 99].map (fun b => ((b : Nat) : Int))) = ⟨#[98, 99]⟩ from rfl] at gs6
  have H7 := pdone_any w6 w3.heap.size 0 _ _ va6 0 0 hsm6
  have HSM6 := hid hsm6
  have HRA6 : Hid (Row w6 va6 [255]) := hid ha6
  clear hf H6 hr6 hv6 hsm6 ha6 hk6 hk56 hold5 hz5 h15 h25 n1 n2 n5 HO4 HZ4 hsi5 hn5 hr5 hv5 hk5 hk45
  go_wp2_with fail
  refine H7.mono ?_
  rintro x w7 ⟨rfl, m7, hw7⟩
  have hk67 : Same w6 w7 := by rw [hw7]; exact (Kept.refl _ w6).drewN m7
  have HK7 : Hid (Same w w7) := hid (Same.trans HK6.out hk67)
  have HSM7 := hid (HSM6.out.kept hk67 (fun f => f))
  have H8 := prest_any w7 w3.heap.size 0 _ _ va6 0 [255] (HSM6.out.kept hk67 (fun f => f)) (HRA6.out.kept hk67 (fun _ _ f => f)) (by decide)
  clear hw7 hk67 H7 HSM6 HRA6 gs1 gs2 gs5 gs6
  simp only [show ((0 : Nat) == 0) = true from by decide]
  go_wp2_with fail
  refine H8.mono ?_
  rintro x w8 ⟨v8, rfl, hf8⟩
  have HK8 : Hid (Same w w8) := hid (Same.trans HK7.out hf8.kept)
  have HSM8 := hid (HSM7.out.kept hf8.kept (fun f => f))
  have HR8 : Hid (Row w8 v8 [255]) := hid hf8.row
  have hkl : Same w8 (w8.alloc (.cells ([255].map byteV).toArray 5)) := (Kept.refl _ w8).alloc _
  have H9 := keepBytes_any v8 (.slice (some ⟨w8.heap.size, 0, none⟩) 1 1) _ _ [255] [255] _ (Src.ofRow (HR8.out.kept hkl (fun _ _ f => f))) (Src.ofRow (lit_row w8 [255] 1 rfl (by decide))) (by decide) (by decide)
  obtain ⟨a8, c8, hv8, _⟩ := HR8.out.shape
  rw [hv8] at H9 ⊢
  clear hf8 hkl H8 HSM7 hv8
  go_wp2_with fail
  refine H9.mono ?_
  rintro x w9 ⟨rfl, m9, hw9⟩
  have HK9 : Hid (Same w w9) := hid (by rw [hw9]; exact (Same.trans HK8.out ((Kept.refl _ w8).alloc _)).drewN m9)
  have H10 := pclose_any w9 w3.heap.size _ _ _ _ _ _ (by rw [hw9]; exact HSM8.out.kept (((Kept.refl (fun _ => False) w8).alloc _).drewN m9) (fun f => f))
  clear hw9 H9 HSM8
  go_wp2_with fail
  refine H10.mono ?_
  rintro x w10 ⟨rfl, hw10⟩
  subst hw10
  clear H10
  go_wp2_with fail
  go_ret
  exact ⟨rfl, HK9.out⟩

end Go.Proofs.YtmlpnidngaelnaaGreatDoor

/-
  What the laws of layer 5 share.
-/
namespace Go.Proofs.YtmlpnidngaelnaaGreatDoor
open Go.RowKit

theorem IsRow.nil5 {k : IntKind} {w : World} {a : Option Addr} {len cap : Nat} {zs : List Int} (h : IsRow k w a len cap zs) : ∀ n c, Value.slice a len cap = .slice none n c → n = 0 ∧ c = 0 := by
  intro n c e
  injection e with e1 e2 e3
  rcases h with ⟨_, h2, h3, _⟩ | ⟨x, h1, _⟩
  · omega
  · rw [h1] at e1; cases e1

theorem IsRow.lenCap {k : IntKind} {w : World} {a : Option Addr} {len cap : Nat} {zs : List Int} (h : IsRow k w a len cap zs) : len ≤ cap := by
  rcases h with ⟨_, h2, h3, _⟩ | ⟨x, _, h1, _⟩
  · omega
  · exact h1

theorem Row.nil5 {w : World} {a : Option Addr} {n0 c0 : Nat} {bs : List Nat} (h : Row w (.slice a n0 c0) bs) : ∀ n c, Value.slice a n0 c0 = .slice none n c → n = 0 ∧ c = 0 := by
  intro n c e
  rcases h.2 with ⟨e9, h9⟩ | ⟨g, cp, cu, e9, _⟩
  · simp only [Value.slice.injEq] at e e9; omega
  · simp only [Value.slice.injEq] at e e9; rw [e9.1] at e; cases e.1

theorem Src.take {w : World} {I : Nat → Prop} {a : Option Addr} {n cap k : Nat} {bs : List Nat} (h : Src w I (.slice a n cap) bs) (hk : k ≤ bs.length) (c' : Nat) : Src w I (.slice a k c') (bs.take k) := by
  obtain ⟨ao, c, e, hs⟩ := h
  simp only [Value.slice.injEq] at e
  obtain ⟨rfl, hn, rfl⟩ := e
  refine ⟨a, c', by rw [List.length_take, Nat.min_eq_left hk], fun hne => ?_⟩
  obtain ⟨b, o, h1, h2, h3⟩ := hs (fun e => hne (by rw [e]; simp))
  refine ⟨b, o, h1, h2, fun j hj => ?_⟩
  rw [List.length_take] at hj
  rw [h3 j (by omega), List.getElem_take]

theorem keepBytes_same (w : World) (va vb : Value) (I J : Nat → Prop) (xs : List Nat) (ha : Src w I va xs) (hb : Src w J vb xs) (hx : xs.length ≤ 1000000) : Calls Tryz.prog 8 #[va, vb] w fun e w' => e = .returned (.bool true) ∧ Same w w' := by
  have h := keepBytes_any va vb I J xs xs w ha hb (by omega) (by omega)
  refine h.mono ?_
  rintro e w' ⟨rfl, m, rfl⟩
  exact ⟨by simp, (Kept.refl _ w).drewN m⟩

end Go.Proofs.YtmlpnidngaelnaaGreatDoor

/-
  The law InflateAll.
-/
namespace Go.Proofs.YtmlpnidngaelnaaGreatDoor
open Go.RowKit

theorem Row.lent' {w : World} {g n : Nat} {cs : List Nat} (h : Row w (.slice (some ⟨g, 0, none⟩) (n + 2) (n + 2)) (cs ++ [165, 90])) (hn : cs.length = n) : Row w (.slice (some ⟨g, 0, none⟩) n (n + 2)) cs := by
  have := h.cut
  rw [hn] at this
  exact this

theorem keepBytes_none (w : World) : Calls Tryz.prog 8 #[.slice none 0 0, .slice none 0 0] w fun e w' => e = .returned (.bool true) ∧ Same w w' :=
  keepBytes_same w _ _ (fun _ => False) (fun _ => False) [] ⟨none, 0, rfl, fun h => absurd rfl h⟩ ⟨none, 0, rfl, fun h => absurd rfl h⟩ (by decide)

set_option maxRecDepth 100000 in
set_option maxHeartbeats 4000000 in
theorem all_bad (W : World) (a : Option Addr) (len cap : Nat) (m : Int) (bs : List Nat) (hs : Src W (fun j => j < W.heap.size) (.slice a len cap) bs) (hl : bs.length = len) (hb : ∀ x ∈ bs, x < 256) (hlong : len ≤ 65536) (hm : m < 0 ∨ 16384 < m) (hT : Tab W) :
    Calls Tryz.prog 3 #[.slice a len cap, .int .i64 m] W fun e w' => e = .returned (.bool true) ∧ Same W w' := by
  have b1 : decide ((65536 : Int) < (len : Int)) = false := by simp; omega
  have HLN := lend_any W (.slice a len cap) _ bs hs (by omega)
  rw [hl] at HLN
  have HS : Hid (Src W (fun j => j < W.heap.size) (.slice a len cap) bs) := hs
  have HB : Hid (∀ x ∈ bs, x < 256) := hb
  have HT : Hid (Tab W) := hT
  have HL : Hid (bs.length = len) := hl
  have HM : Hid (m < 0 ∨ 16384 < m) := hm
  clear hs hl hb hm hT
  go_enter Tryz.func3, Tryz.ntmps3
  go_wp2_with fail
  refine HLN.mono ?_
  rintro x w1 ⟨g, rfl, hr1, hk1, hg1⟩
  have HK1 : Hid (Same W w1) := hk1
  have HR1 : Hid (Row w1 (.slice (some ⟨g, 0, none⟩) (len + 2) (len + 2)) (bs ++ [165, 90])) := hr1
  have HG1 : Hid (W.heap.size ≤ g) := hg1
  have HI := pinfl_bad w1 (.slice (some ⟨g, 0, none⟩) len (len + 2)) m HM.out
  clear hr1 hk1 hg1 HLN
  go_wp2_with fail
  refine HI.mono ?_
  rintro x w2 ⟨rfl, hk2⟩
  have HK2 : Hid (Same W w2) := hid (Same.trans HK1.out hk2)
  have HBC := keepBack_any w2 g (.slice a len cap) _ bs (by rw [HL.out]; exact HR1.out.kept hk2 (fun _ _ f => f)) (HS.out.kept HK2.out (fun _ _ _ f => f)) (by rw [HL.out]; omega) HB.out
  rw [HL.out] at HBC
  clear hk2 HI
  go_wp2_with fail
  refine HBC.mono ?_
  rintro x w3 ⟨rfl, hk3⟩
  have HK3 : Hid (Same W w3) := hid (Same.then HK2.out hk3 (fun k hk e => by have := HG1.out; omega))
  have HRI := rinfl_bad w3 (.slice a len cap) m HM.out
  clear hk3 HBC
  go_wp2_with fail
  refine HRI.mono ?_
  rintro x w4 ⟨rfl, hk4⟩
  have HK4 : Hid (Same W w4) := hid (Same.trans HK3.out hk4)
  have HKB := keepBytes_none w4
  clear hk4 HRI
  go_wp2_with fail
  refine HKB.mono ?_
  rintro x w5 ⟨rfl, hk5⟩
  have HK5 : Hid (Same W w5) := hid (Same.trans HK4.out hk5)
  have HSP := spoil_none w5
  clear hk5 HKB
  go_wp2_with fail
  refine HSP.mono ?_
  rintro x w6 ⟨rfl, hk6⟩
  have HK6 : Hid (Same W w6) := hid (Same.trans HK5.out hk6)
  have HI2 := pinfl_bad w6 (.slice a len cap) m HM.out
  clear hk6 HSP
  go_wp2_with fail
  refine HI2.mono ?_
  rintro x w7 ⟨rfl, hk7⟩
  have HK7 : Hid (Same W w7) := hid (Same.trans HK6.out hk7)
  have HAW := iawake_any w7 (HT.out.kept HK7.out (fun f => f))
  clear hk7 HI2
  go_wp2_with fail
  refine HAW.mono ?_
  rintro x w8 ⟨rfl, hk8⟩
  have HK8 : Hid (Same W w8) := hid (Same.trans HK7.out hk8)
  have HKB := keepBytes_none w8
  clear hk8 HAW
  go_wp2_with fail
  refine HKB.mono ?_
  rintro x w9 ⟨rfl, hk9⟩
  have HK9 : Hid (Same W w9) := hid (Same.trans HK8.out hk9)
  clear hk9 HKB
  go_wp2_with fail
  go_ret
  exact ⟨rfl, HK9.out⟩

set_option maxRecDepth 100000 in
set_option maxHeartbeats 4000000 in
theorem all_good (W : World) (a : Option Addr) (len cap M : Nat) (bs : List Nat) (hs : Src W (fun j => j < W.heap.size) (.slice a len cap) bs) (hl : bs.length = len) (hb : ∀ x ∈ bs, x < 256) (hn : ∀ n c, Value.slice a len cap = .slice none n c → n = 0 ∧ c = 0) (hlong : len ≤ 65536) (hM : M ≤ 16384) (hT : Tab W) :
    Calls Tryz.prog 3 #[.slice a len cap, .int .i64 (M : Nat)] W fun e w' => e = .returned (.bool true) ∧ Same W w' := by
  have b1 : decide ((65536 : Int) < (len : Int)) = false := by simp; omega
  have HLN := lend_any W (.slice a len cap) _ bs hs (by omega)
  rw [hl] at HLN
  have HS : Hid (Src W (fun j => j < W.heap.size) (.slice a len cap) bs) := hs
  have HB : Hid (∀ x ∈ bs, x < 256) := hb
  have HT : Hid (Tab W) := hT
  have HL : Hid (bs.length = len) := hl
  have HN : Hid (∀ n c, Value.slice a len cap = .slice none n c → n = 0 ∧ c = 0) := hn
  clear hs hl hb hT hn
  go_enter Tryz.func3, Tryz.ntmps3
  go_wp2_with fail
  refine HLN.mono ?_
  rintro x w1 ⟨g, rfl, hr1, hk1, hg1⟩
  have HK1 : Hid (Same W w1) := hk1
  have HR1 : Hid (Row w1 (.slice (some ⟨g, 0, none⟩) (len + 2) (len + 2)) (bs ++ [165, 90])) := hr1
  have HG1 : Hid (W.heap.size ≤ g ∧ g < w1.heap.size) := hid ⟨hg1, hr1.lt rfl⟩
  have HI := pinfl_any w1 (.slice (some ⟨g, 0, none⟩) len (len + 2)) _ bs M (Src.ofRow (hr1.lent' HL.out)) HB.out (fun n c e => by cases e) (by rw [HL.out]; omega) hM (HT.out.kept hk1 (fun f => f))
  clear hr1 hk1 hg1 HLN
  go_wp2_with fail
  refine HI.mono ?_
  rintro x w2 hi
  obtain ⟨av, nv, cv, q, er, t, hx, HE, HRW⟩ : ∃ (av : Option Addr) (nv cv q er : Nat) (t : Ps), x = .returned (.tuple #[.slice av nv cv, .int .i64 (q : Nat), .int .i64 (er : Nat)]) ∧ Hid (Ends (ofBytes bs) M ps0 t er) ∧ Hid ((er = 0 → q = (t.c + 7) / 8 ∧ Row w2 (.slice av nv cv) t.out) ∧ (er ≠ 0 → q = 0 ∧ av = none ∧ nv = 0 ∧ cv = 0) ∧ Whole w2 (.slice av nv cv) ∧ (∀ k, (Value.slice av nv cv).ownBlock = some k → w1.heap.size ≤ k) ∧ Same w1 w2 ∧ ∃ ds, Row w2 (.slice av nv cv) ds) := by
    cases hi with
    | fail t er he h0 hx hk => exact ⟨none, 0, 0, 0, er, t, hx, hid he, hid ⟨fun h9 => absurd h9 h0, fun _ => ⟨rfl, rfl, rfl, rfl⟩, whole_nil _, fun k e => (by cases e), hk, [], World.ownsRow_nil w2 0 5 1⟩⟩
    | done t v' he hx hr hv hk hw =>
      obtain ⟨a1, c1, hv1, _⟩ := hr.shape
      subst hv1
      exact ⟨a1, t.out.length, c1, (t.c + 7) / 8, 0, t, by rw [hx]; rfl, hid he, hid ⟨fun _ => ⟨rfl, hr⟩, fun h9 => absurd rfl h9, hw, hv, hk, t.out, hr⟩⟩
  subst hx
  have HK2 : Hid (Same W w2) := hid (Same.trans HK1.out HRW.out.2.2.2.2.1)
  have HBC := keepBack_any w2 g (.slice a len cap) _ bs (by rw [HL.out]; exact HR1.out.kept HRW.out.2.2.2.2.1 (fun _ _ f => f)) (HS.out.kept HK2.out (fun _ _ _ f => f)) (by rw [HL.out]; omega) HB.out
  rw [HL.out] at HBC
  have HNG : Hid ((Value.slice av nv cv).ownBlock ≠ some g) := hid (fun e => by have := HRW.out.2.2.2.1 g e; have := HG1.out; omega)
  clear hi HI
  go_wp2_with fail
  refine HBC.mono ?_
  rintro x w3 ⟨rfl, hk3⟩
  have HK3 : Hid (Same W w3) := hid (Same.then HK2.out hk3 (fun k hk e => by have := HG1.out; omega))
  have HW3 : Hid ((er = 0 → q = (t.c + 7) / 8 ∧ Row w3 (.slice av nv cv) t.out) ∧ (er ≠ 0 → q = 0 ∧ av = none ∧ nv = 0 ∧ cv = 0) ∧ Whole w3 (.slice av nv cv) ∧ (∀ k, (Value.slice av nv cv).ownBlock = some k → W.heap.size ≤ k ∧ k < w3.heap.size) ∧ ∃ ds, Row w3 (.slice av nv cv) ds) := hid (by
    obtain ⟨h1, h2, h3, h4, h5, ds, h6⟩ := HRW.out
    have hkr : Row w3 (.slice av nv cv) ds := h6.kept hk3 (fun k e e2 => HNG.out (by rw [← e2]; exact e))
    exact ⟨fun h9 => ⟨(h1 h9).1, (h1 h9).2.kept hk3 (fun k e e2 => HNG.out (by rw [← e2]; exact e))⟩, h2, h3.kept hk3 (fun k e e2 => HNG.out (by rw [← e2]; exact e)), fun k e => ⟨by have := h4 k e; have := HK1.out.size; omega, hkr.lt e⟩, ds, hkr⟩)
  have HRI := rinfl_any w3 (.slice a len cap) _ bs M (HS.out.kept HK3.out (fun _ _ _ f => f)) HB.out (by rw [HL.out]; omega) hM
  clear hk3 HBC HRW
  go_wp2_with fail
  refine HRI.mono ?_
  rintro x w4 hi
  obtain ⟨aw, nw, cw, hx, HW4⟩ : ∃ (aw : Option Addr) (nw cw : Nat), x = .returned (.tuple #[.slice aw nw cw, .int .i64 (q : Nat), .int .i64 (er : Nat)]) ∧ Hid (Same w3 w4 ∧ (∀ k, (Value.slice aw nw cw).ownBlock = some k → w3.heap.size ≤ k) ∧ ∃ ds, Row w4 (.slice av nv cv) ds ∧ Row w4 (.slice aw nw cw) ds ∧ ds.length ≤ 16384 ∧ (er = 0 → ds = t.out)) := by
    by_cases h0 : er = 0
    · subst h0
      obtain ⟨v', hx, hr, hv, hk⟩ := hi.is HE.out
      obtain ⟨a1, c1, hv1, _⟩ := hr.shape
      subst hv1
      have h1 := HW3.out.1 rfl
      exact ⟨a1, _, c1, by rw [hx, h1.1]; rfl, hid ⟨hk, hv, t.out, h1.2.kept hk (fun _ _ f => f), hr, by have := (ends_in HE.out).2; omega, fun _ => rfl⟩⟩
    · obtain ⟨hx, hk⟩ := hi.not HE.out h0
      obtain ⟨e1, e2, e3, e4⟩ := HW3.out.2.1 h0
      refine ⟨none, 0, 0, by rw [hx, e1]; rfl, hid ⟨hk, fun k e => (by cases e), [], ?_, World.ownsRow_nil w4 0 5 1, by simp, fun h9 => absurd h9 h0⟩⟩
      rw [e2, e3, e4]
      exact World.ownsRow_nil w4 0 5 1
  subst hx
  obtain ⟨hk4, hnw, ds, hra, hrb, hdl, hds⟩ := HW4.out
  have HK4 : Hid (Same W w4) := hid (Same.trans HK3.out hk4)
  have HSEP : Hid (∀ k, (Value.slice aw nw cw).ownBlock = some k → (Value.slice av nv cv).ownBlock ≠ some k) := hid (fun k e e2 => by have := hnw k e; have := (HW3.out.2.2.2.1 k e2).2; omega)
  have HDS : Hid (er = 0 → ds = t.out ∧ q = (t.c + 7) / 8) := hid (fun h9 => ⟨hds h9, (HW3.out.1 h9).1⟩)
  have HDL : Hid (ds.length ≤ 16384) := hdl
  have HRA : Hid (Row w4 (.slice av nv cv) ds ∧ Whole w4 (.slice av nv cv)) := hid ⟨hra, HW3.out.2.2.1.kept hk4 (fun _ _ f => f)⟩
  have HRB : Hid (Row w4 (.slice aw nw cw) ds) := hrb
  have HVN : Hid (∀ k, (Value.slice av nv cv).ownBlock = some k → W.heap.size ≤ k) := hid (fun k e => (HW3.out.2.2.2.1 k e).1)
  have HEM : Hid (er ≠ 0 → aw = none ∧ nw = 0 ∧ cw = 0 ∧ ds = [] ∧ q = 0) := hid (fun h9 => by
    obtain ⟨e1, e2, e3, e4⟩ := HW3.out.2.1 h9
    have hd0 : ds = [] := by
      have := hra.1
      rcases hra.2 with ⟨_, h8⟩ | ⟨g9, c9, u9, e9, _⟩
      · exact List.eq_nil_of_length_eq_zero h8
      · rw [e2] at e9; simp at e9
    obtain ⟨hx9, _⟩ := hi.not HE.out h9
    simp only [Ending.returned.injEq, Value.tuple.injEq, Array.mk.injEq, List.cons.injEq, Value.slice.injEq] at hx9
    exact ⟨hx9.1.1, hx9.1.2.1, hx9.1.2.2, hd0, e1⟩)
  have HKB := keepBytes_same w4 (.slice av nv cv) (.slice aw nw cw) _ _ ds (Src.ofRow hra) (Src.ofRow hrb) (by omega)
  clear hi HRI hk4 hnw hra hrb hdl hds HW4 HW3
  go_wp2_with fail
  refine HKB.mono ?_
  rintro x w5 ⟨rfl, hk5⟩
  have HK5 : Hid (Same W w5) := hid (Same.trans HK4.out hk5)
  have HSP := spoil_row w5 (.slice av nv cv) ds (HRA.out.1.kept hk5 (fun _ _ f => f)) (HRA.out.2.kept hk5 (fun _ _ f => f))
  have HRB5 : Hid (Row w5 (.slice aw nw cw) ds) := hid (HRB.out.kept hk5 (fun _ _ f => f))
  clear hk5 HKB
  go_wp2_with fail
  refine HSP.mono ?_
  rintro x w6 ⟨rfl, hk6⟩
  have HK6 : Hid (Same W w6) := hid (Same.then HK5.out hk6 (fun k hk e => by have := HVN.out k e; omega))
  have HRB6 : Hid (Row w6 (.slice aw nw cw) ds) := hid (HRB5.out.kept hk6 (fun k e e2 => HSEP.out k e e2))
  have HI2 := pinfl_any w6 (.slice a len cap) _ bs M (HS.out.kept HK6.out (fun _ _ _ f => f)) HB.out HN.out (by rw [HL.out]; omega) hM (HT.out.kept HK6.out (fun f => f))
  clear hk6 HSP
  go_wp2_with fail
  refine HI2.mono ?_
  rintro x w7 hi
  obtain ⟨ax, nx, cx, hx, hk7, hrx⟩ : ∃ (ax : Option Addr) (nx cx : Nat), x = .returned (.tuple #[.slice ax nx cx, .int .i64 (q : Nat), .int .i64 (er : Nat)]) ∧ Same w6 w7 ∧ Row w7 (.slice ax nx cx) ds := by
    by_cases h0 : er = 0
    · subst h0
      obtain ⟨v', hx, hr, hv, hk⟩ := hi.is HE.out
      obtain ⟨a1, c1, hv1, _⟩ := hr.shape
      subst hv1
      have h9 := HDS.out rfl
      exact ⟨a1, _, c1, by rw [hx, h9.2]; rfl, hk, by rw [h9.1]; exact hr⟩
    · obtain ⟨hx, hk⟩ := hi.not HE.out h0
      obtain ⟨_, _, _, e4, e5⟩ := HEM.out h0
      exact ⟨none, 0, 0, by rw [hx, e5]; rfl, hk, by rw [e4]; exact World.ownsRow_nil w7 0 5 1⟩
  subst hx
  have HK7 : Hid (Same W w7) := hid (Same.trans HK6.out hk7)
  have HRX7 : Hid (Row w7 (.slice ax nx cx) ds ∧ Row w7 (.slice aw nw cw) ds) := hid ⟨hrx, HRB6.out.kept hk7 (fun _ _ f => f)⟩
  have HAW := iawake_any w7 (HT.out.kept HK7.out (fun f => f))
  have z1 : ((q : Int) == (q : Int)) = true := by simp
  have z2 : ((er : Int) == (er : Int)) = true := by simp
  clear hi hk7 hrx HI2
  go_wp2_with fail
  refine HAW.mono ?_
  rintro x w8 ⟨rfl, hk8⟩
  have HK8 : Hid (Same W w8) := hid (Same.trans HK7.out hk8)
  have HKB := keepBytes_same w8 (.slice ax nx cx) (.slice aw nw cw) _ _ ds (Src.ofRow (HRX7.out.1.kept hk8 (fun _ _ f => f))) (Src.ofRow (HRX7.out.2.kept hk8 (fun _ _ f => f))) (by have := HDL.out; omega)
  clear hk8 HAW
  go_wp2_with fail
  refine HKB.mono ?_
  rintro x w9 ⟨rfl, hk9⟩
  have HK9 : Hid (Same W w9) := hid (Same.trans HK8.out hk9)
  clear hk9 HKB
  go_wp2_with fail
  go_ret
  exact ⟨rfl, HK9.out⟩

set_option maxRecDepth 100000 in
set_option maxHeartbeats 4000000 in
theorem inflateAll_all (a : Option Addr) (len cap : Nat) (zs : List Int) (most : Int) (W : World) (h : IsRow .u8 W a len cap zs) (_hm : (Lit.int .i64 most).wf = true) (hT : Tab W) :
    Calls Tryz.prog 3 #[.slice a len cap, .int .i64 most] W fun e w' => e = .returned (.bool true) ∧ Below W.heap.size W w' := by
  obtain ⟨bs, hs, hl, hb⟩ := h.src
  suffices H : Calls Tryz.prog 3 #[.slice a len cap, .int .i64 most] W fun e w' => e = .returned (.bool true) ∧ Same W w' from H.mono (fun e w' h => ⟨h.1, h.2.bel⟩)
  by_cases hlong : 65536 < len
  · have b1 : decide ((65536 : Int) < (len : Int)) = true := by simp; omega
    clear hlong hT h hs hl hb
    go_enter Tryz.func3, Tryz.ntmps3
    go_wp2_with fail
    go_ret
    exact ⟨rfl, Kept.refl _ _⟩
  · by_cases hbad : most < 0 ∨ 16384 < most
    · exact all_bad W a len cap most bs hs hl hb (by omega) hbad hT
    · obtain ⟨M, rfl⟩ : ∃ n : Nat, most = (n : Int) := ⟨most.toNat, by omega⟩
      exact all_good W a len cap M bs hs hl hb h.nil5 (by omega) (by omega) hT

end Go.Proofs.YtmlpnidngaelnaaGreatDoor
