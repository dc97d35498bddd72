/-
  Of the proof: parts InAx, InLw, InBehLaw.
-/
import Derived.Laws.BytesArg
import Derived.Test.YtmlpnidngaelnaaDoorJ19
import Derived.Test.YtmlpnidngaelnaaDoorJ20
import Derived.Test.YtmlpnidngaelnaaDoorJ6

/-
  The law's awake, walked.
-/
namespace Go.Proofs.YtmlpnidngaelnaaDoor
open Go.RowKit

theorem str_of {w : World} {g n c : Nat} {bs : List Nat} (h : Row w (.slice (some ⟨g, 0, none⟩) n c) bs) (hn : bs.length = n) : (convert 22 9 (.slice (some ⟨g, 0, none⟩) n c)).run Tryd.prog w = .ok (.string (strOfNums (bs.map (fun b => ((b : Nat) : Int))))) w := by
  subst hn
  exact run_convert_bytes_arg (P := Tryd.prog) w 22 5 Tryd.underlying22 Tryd.underlying5 g 0 bs.length c (bs.map (fun b => ((b : Nat) : Int))) (by simp) (fun i hi => by rw [Nat.zero_add, Row.cell h i hi]; simp [List.getD, hi]) 9 Tryd.underlying9

theorem Row.addr {w : World} {a : Option Addr} {n c : Nat} {bs : List Nat} (h : Row w (.slice a n c) bs) (hb : bs ≠ []) : ∃ g, a = some ⟨g, 0, none⟩ := by
  obtain ⟨ao, cap, e, hg⟩ := h.shape
  simp only [Value.slice.injEq] at e
  rw [e.1]
  exact hg hb

set_option maxRecDepth 100000 in
set_option maxHeartbeats 4000000 in
theorem iawake_any (w : World) (hT : Tab w) : Calls Tryd.prog 8 #[] w fun x w' => x = .returned (.bool true) ∧ Same w w' := by
  have H1 := pinfl_lit w [75, 76, 74, 6, 0] 5 9 rfl (by decide) (by decide) (by decide) hT
  have HE1 : Hid (Ends (ofBytes [75, 76, 74, 6, 0]) 9 ps0 ⟨34, [97, 98, 99], some (.sym true fixL fixD)⟩ 0) := hid (by
    have := ends_abc [] (by simp)
    rwa [List.append_nil] at this)
  have HT : Hid (Tab w) := hT
  clear hT
  go_enter Tryd.func8, Tryd.ntmps8
  go_wp2_with fail
  refine H1.mono ?_
  rintro x w1 hi
  obtain ⟨v1, rfl, hr1, hv1, hk1⟩ := hi.is HE1.out
  have HK1 : Hid (Same w w1) := hid (Same.trans ((Kept.refl _ w).alloc _) hk1)
  have HR1 : Hid (Row w1 v1 [97, 98, 99]) := hr1
  obtain ⟨a1, c1, rfl, _⟩ := HR1.out.shape
  have H2 := pinfl_lit w1 [75, 132, 0, 0] 4 99 rfl (by decide) (by decide) (by decide) (HT.out.kept HK1.out (fun f => f))
  have HV1 := hid hv1
  clear hi hr1 hv1 hk1 H1
  go_wp2_with fail
  refine H2.mono ?_
  rintro x w2 hi
  obtain ⟨v2, rfl, hr2, hv2, hk2⟩ := hi.is ends_as
  have hk12 : Same w1 w2 := Same.trans ((Kept.refl _ w1).alloc _) hk2
  have HK2 : Hid (Same w w2) := hid (Same.trans HK1.out hk12)
  have HR1' : Hid (Row w2 (.slice a1 3 c1) [97, 98, 99]) := hid (HR1.out.kept hk12 (fun _ _ f => f))
  have HR2 : Hid (Row w2 v2 [97, 97, 97, 97, 97, 97, 97]) := hr2
  obtain ⟨a2, c2, rfl, _⟩ := HR2.out.shape
  have H3 := pinfl_lit w2 [7] 1 9 rfl (by decide) (by decide) (by decide) (HT.out.kept HK2.out (fun f => f))
  have HV2 := hid hv2
  clear hi hr2 hv2 hk2 H2 HR1 hk12
  go_wp2_with fail
  refine H3.mono ?_
  rintro x w3 hi
  obtain ⟨rfl, hk3⟩ := hi.not ends_kind (by decide)
  have hk23 : Same w2 w3 := Same.trans ((Kept.refl _ w2).alloc _) hk3
  have HK3 : Hid (Same w w3) := hid (Same.trans HK2.out hk23)
  have HR13 : Hid (Row w3 (.slice a1 3 c1) [97, 98, 99]) := hid (HR1'.out.kept hk23 (fun _ _ f => f))
  have HR23 : Hid (Row w3 (.slice a2 7 c2) [97, 97, 97, 97, 97, 97, 97]) := hid (HR2.out.kept hk23 (fun _ _ f => f))
  have H4 := pnewS_good w3 9 (by decide)
  clear hi hk3 H3 HR1' HR2 hk23
  go_wp2_with fail
  refine H4.mono ?_
  rintro x w4 ⟨rfl, hsm4, hk4⟩
  obtain ⟨ρ4, hsi4, hn4, ho4, hz4⟩ := SI.init w4 w3.heap.size 9 hsm4 (by decide) (HT.out.kept (Same.trans HK3.out hk4) (fun f => f)) (by have := (HT.out.kept HK3.out (fun f => f)).lt; omega)
  have H5 := pfeed_lit w4 ρ4 w3.heap.size 9 _ [] ps0 _ _ hsi4 hn4 (by decide) [75, 76] 2 rfl (by decide) (by decide) (by decide)
  have HK4 : Hid (Same w w4) := hid (Same.trans HK3.out hk4)
  have HR14 : Hid (Row w4 (.slice a1 3 c1) [97, 98, 99]) := hid (HR13.out.kept hk4 (fun _ _ f => f))
  have HR24 : Hid (Row w4 (.slice a2 7 c2) [97, 97, 97, 97, 97, 97, 97]) := hid (HR23.out.kept hk4 (fun _ _ f => f))
  have HO4 : Hid (∀ j, own4 (ρ4 j) → j = w3.heap.size) := ho4
  have HZ4 : Hid (∀ j, j ≠ w3.heap.size → j ≠ 0 → ρ4 j = 0) := hz4
  have hlt13 : ∀ k, (Value.slice a1 3 c1).ownBlock = some k → k ≠ w3.heap.size := fun k e => by have := HR13.out.lt e; omega
  have hlt23 : ∀ k, (Value.slice a2 7 c2).ownBlock = some k → k ≠ w3.heap.size := fun k e => by have := HR23.out.lt e; omega
  have HL13 : Hid (∀ k, (Value.slice a1 3 c1).ownBlock = some k → k ≠ w3.heap.size) := hlt13
  have HL23 : Hid (∀ k, (Value.slice a2 7 c2).ownBlock = some k → k ≠ w3.heap.size) := hlt23
  clear hsm4 hk4 hsi4 hn4 ho4 hz4 H4 HR13 HR23 hlt13 hlt23
  go_wp2_with fail
  refine H5.mono ?_
  rintro x w5 hf
  obtain ⟨v5, va5, ρ5, vl5, bv5, rfl, hr5, hv5, hsi5, hn5, hold5, hk5⟩ := hf.waits ends_wait
  have hk45 : Kept (fun j => j = w3.heap.size) w4 w5 := Kept.trans ((Kept.refl (fun _ => False) w4).alloc _) hk5 (fun _ _ f => f.elim) (fun j _ f => HO4.out j f)
  have HK5 : Hid (Same w w5) := hid (Kept.trans HK4.out hk45 (fun _ _ f => f) (fun j hj e => by have := HK3.out.size; omega))
  have HR15 : Hid (Row w5 (.slice a1 3 c1) [97, 98, 99]) := hid (HR14.out.kept hk45 (fun k e e2 => HL13.out k e e2))
  have HR25 : Hid (Row w5 (.slice a2 7 c2) [97, 97, 97, 97, 97, 97, 97]) := hid (HR24.out.kept hk45 (fun k e e2 => HL23.out k e e2))
  have HV5 : Hid (Row w5 v5 [97] ∧ ∀ k, v5.ownBlock = some k → ρ5 k = 0) := hid ⟨hr5, fun k e => (hv5 k e).2⟩
  obtain ⟨a5, c5, rfl, _⟩ := HV5.out.1.shape
  have hz5 : ∀ k, (Value.slice a5 1 c5).ownBlock = some k → ρ5 k = 0 := HV5.out.2
  have h15 : ∀ k, (Value.slice a1 3 c1).ownBlock = some k → ρ5 k = 0 ∨ k = w3.heap.size ∨ k = 0 := fun k e => by
    have h1 := HR14.out.lt e
    rw [hold5 k (by simp; omega)]
    refine Classical.byContradiction (fun hc => ?_)
    simp only [not_or] at hc
    exact hc.1 (HZ4.out k hc.2.1 hc.2.2)
  have h25 : ∀ k, (Value.slice a2 7 c2).ownBlock = some k → ρ5 k = 0 ∨ k = w3.heap.size ∨ k = 0 := fun k e => by
    have h1 := HR24.out.lt e
    rw [hold5 k (by simp; omega)]
    refine Classical.byContradiction (fun hc => ?_)
    simp only [not_or] at hc
    exact hc.1 (HZ4.out k hc.2.1 hc.2.2)
  have HTL : Hid (0 < w.heap.size) := hid HT.out.lt
  have n1 : ∀ k, (Value.slice a1 3 c1).ownBlock = some k → ¬ own4 (ρ5 k) := fun k e f => by
    have h1 := HV1.out k e
    have h2 := HTL.out
    rcases h15 k e with h | h | h
    · rw [h] at f; unfold own4 at f; omega
    · exact HL13.out k e h
    · simp at h1; omega
  have n2 : ∀ k, (Value.slice a2 7 c2).ownBlock = some k → ¬ own4 (ρ5 k) := fun k e f => by
    have h1 := HV2.out k e
    have h2 := HTL.out
    have h3 := HK1.out.size
    rcases h25 k e with h | h | h
    · rw [h] at f; unfold own4 at f; omega
    · exact HL23.out k e h
    · simp at h1; omega
  have n5 : ∀ k, (Value.slice a5 1 c5).ownBlock = some k → ¬ own4 (ρ5 k) := fun k e f => by rw [hz5 k e] at f; unfold own4 at f; omega
  have HN1 := hid n1
  have HN2 := hid n2
  have HN5 := hid n5
  have H6 := pfeed_lit w5 ρ5 w3.heap.size 9 va5 [76] ⟨3, [97], some (.sym true fixL fixD)⟩ vl5 bv5 hsi5 hn5 (by decide) [74, 6, 0, 255] 4 rfl (by decide) (by decide) (by decide)
  clear hf H5
  go_wp2_with fail
  refine H6.mono ?_
  rintro x w6 hf
  obtain ⟨v6, va6, rfl, hr6, hv6, hsm6, ha6, hk6⟩ := hf.dones ends_rest
  have hk56 : Kept (fun j => own4 (ρ5 j)) w5 w6 := Kept.trans ((Kept.refl (fun _ => False) w5).alloc _) hk6 (fun _ _ f => f.elim) (fun _ _ f => f)
  have HR16 := hid (HR15.out.kept hk56 HN1.out)
  have HR26 := hid (HR25.out.kept hk56 HN2.out)
  have HR56 := hid (HV5.out.1.kept hk56 HN5.out)
  have HR66 := hid hr6
  have HK6 : Hid (Same w w6) := hid (Kept.trans HK5.out hk56 (fun _ _ f => f) (fun j hj f => by
    have h1 := HK3.out.size
    have h2 := HK4.out.size
    rw [hold5 j (by simp; omega)] at f
    have := HO4.out j f
    omega))
  obtain ⟨a6, c6, rfl, _⟩ := HR66.out.shape
  obtain ⟨g1, rfl⟩ := HR16.out.addr (by decide)
  obtain ⟨g2, rfl⟩ := HR26.out.addr (by decide)
  obtain ⟨g5, rfl⟩ := HR56.out.addr (by decide)
  obtain ⟨g6, rfl⟩ := HR66.out.addr (by decide)
  have gs1 := str_of HR16.out rfl
  have gs2 := str_of HR26.out rfl
  have gs5 := str_of (n := 1) (show Row w6 (.slice (some ⟨g5, 0, none⟩) 1 c5) [97] from HR56.out) rfl
  have gs6 := str_of (n := 2) (show Row w6 (.slice (some ⟨g6, 0, none⟩) 2 c6) [98, 99] from HR66.out) rfl
  rw [show strOfNums ([97, 98, 99].map (fun b => ((b : Nat) : Int))) = ⟨#[97, 98, 99]⟩ from rfl] at gs1
  rw [show strOfNums ([97, 97, 97, 97, 97, 97, 97].map (fun b => ((b : Nat) : Int))) = ⟨#[97, 97, 97, 97, 97, 97, 97]⟩ from rfl] at gs2
  rw [show strOfNums ([97].map (fun b => ((b : Nat) : Int))) = ⟨#[97]⟩ from rfl] at gs5
  rw [show strOfNums ([98, 99].map (fun b => ((b : Nat) : Int))) = ⟨#[98, 99]⟩ from rfl] at gs6
  have H7 := pdone_any w6 w3.heap.size 0 _ _ va6 0 0 hsm6
  have HSM6 := hid hsm6
  have HRA6 : Hid (Row w6 va6 [255]) := hid ha6
  clear hf H6 hr6 hv6 hsm6 ha6 hk6 hk56 hold5 hz5 h15 h25 n1 n2 n5 HO4 HZ4 hsi5 hn5 hr5 hv5 hk5 hk45
  go_wp2_with fail
  refine H7.mono ?_
  rintro x w7 ⟨rfl, m7, hw7⟩
  have hk67 : Same w6 w7 := by rw [hw7]; exact (Kept.refl _ w6).drewN m7
  have HK7 : Hid (Same w w7) := hid (Same.trans HK6.out hk67)
  have HSM7 := hid (HSM6.out.kept hk67 (fun f => f))
  have H8 := prest_any w7 w3.heap.size 0 _ _ va6 0 [255] (HSM6.out.kept hk67 (fun f => f)) (HRA6.out.kept hk67 (fun _ _ f => f)) (by decide)
  clear hw7 hk67 H7 HSM6 HRA6 gs1 gs2 gs5 gs6
  simp only [show ((0 : Nat) == 0) = true from by decide]
  go_wp2_with fail
  refine H8.mono ?_
  rintro x w8 ⟨v8, rfl, hf8⟩
  have HK8 : Hid (Same w w8) := hid (Same.trans HK7.out hf8.kept)
  have HSM8 := hid (HSM7.out.kept hf8.kept (fun f => f))
  have HR8 : Hid (Row w8 v8 [255]) := hid hf8.row
  have hkl : Same w8 (w8.alloc (.cells ([255].map byteV).toArray 5)) := (Kept.refl _ w8).alloc _
  have H9 := keepBytes_any v8 (.slice (some ⟨w8.heap.size, 0, none⟩) 1 1) _ _ [255] [255] _ (Src.ofRow (HR8.out.kept hkl (fun _ _ f => f))) (Src.ofRow (lit_row w8 [255] 1 rfl (by decide))) (by decide) (by decide)
  obtain ⟨a8, c8, hv8, _⟩ := HR8.out.shape
  rw [hv8] at H9 ⊢
  clear hf8 hkl H8 HSM7 hv8
  go_wp2_with fail
  refine H9.mono ?_
  rintro x w9 ⟨rfl, m9, hw9⟩
  have HK9 : Hid (Same w w9) := hid (by rw [hw9]; exact (Same.trans HK8.out ((Kept.refl _ w8).alloc _)).drewN m9)
  have H10 := pclose_any w9 w3.heap.size _ _ _ _ _ _ (by rw [hw9]; exact HSM8.out.kept (((Kept.refl (fun _ => False) w8).alloc _).drewN m9) (fun f => f))
  clear hw9 H9 HSM8
  go_wp2_with fail
  refine H10.mono ?_
  rintro x w10 ⟨rfl, hw10⟩
  subst hw10
  clear H10
  go_wp2_with fail
  go_ret
  exact ⟨rfl, HK9.out⟩

end Go.Proofs.YtmlpnidngaelnaaDoor

/-
  What the laws of layer 5 share.
-/
namespace Go.Proofs.YtmlpnidngaelnaaDoor
open Go.RowKit

theorem IsRow.nil5 {k : IntKind} {w : World} {a : Option Addr} {len cap : Nat} {zs : List Int} (h : IsRow k w a len cap zs) : ∀ n c, Value.slice a len cap = .slice none n c → n = 0 ∧ c = 0 := by
  intro n c e
  injection e with e1 e2 e3
  rcases h with ⟨_, h2, h3, _⟩ | ⟨x, h1, _⟩
  · omega
  · rw [h1] at e1; cases e1

theorem IsRow.lenCap {k : IntKind} {w : World} {a : Option Addr} {len cap : Nat} {zs : List Int} (h : IsRow k w a len cap zs) : len ≤ cap := by
  rcases h with ⟨_, h2, h3, _⟩ | ⟨x, _, h1, _⟩
  · omega
  · exact h1

theorem Row.nil5 {w : World} {a : Option Addr} {n0 c0 : Nat} {bs : List Nat} (h : Row w (.slice a n0 c0) bs) : ∀ n c, Value.slice a n0 c0 = .slice none n c → n = 0 ∧ c = 0 := by
  intro n c e
  rcases h.2 with ⟨e9, h9⟩ | ⟨g, cp, cu, e9, _⟩
  · simp only [Value.slice.injEq] at e e9; omega
  · simp only [Value.slice.injEq] at e e9; rw [e9.1] at e; cases e.1

theorem Src.take {w : World} {I : Nat → Prop} {a : Option Addr} {n cap k : Nat} {bs : List Nat} (h : Src w I (.slice a n cap) bs) (hk : k ≤ bs.length) (c' : Nat) : Src w I (.slice a k c') (bs.take k) := by
  obtain ⟨ao, c, e, hs⟩ := h
  simp only [Value.slice.injEq] at e
  obtain ⟨rfl, hn, rfl⟩ := e
  refine ⟨a, c', by rw [List.length_take, Nat.min_eq_left hk], fun hne => ?_⟩
  obtain ⟨b, o, h1, h2, h3⟩ := hs (fun e => hne (by rw [e]; simp))
  refine ⟨b, o, h1, h2, fun j hj => ?_⟩
  rw [List.length_take] at hj
  rw [h3 j (by omega), List.getElem_take]

theorem keepBytes_same (w : World) (va vb : Value) (I J : Nat → Prop) (xs : List Nat) (ha : Src w I va xs) (hb : Src w J vb xs) (hx : xs.length ≤ 1000000) : Calls Tryd.prog 17 #[va, vb] w fun e w' => e = .returned (.bool true) ∧ Same w w' := by
  have h := keepBytes_any va vb I J xs xs w ha hb (by omega) (by omega)
  refine h.mono ?_
  rintro e w' ⟨rfl, m, rfl⟩
  exact ⟨by simp, (Kept.refl _ w).drewN m⟩

end Go.Proofs.YtmlpnidngaelnaaDoor

/-
  The law InflateBehind.
-/
namespace Go.Proofs.YtmlpnidngaelnaaDoor
open Go.RowKit

set_option maxRecDepth 100000 in
set_option maxHeartbeats 4000000 in
theorem behind_good (W : World) (a b : Option Addr) (len cap len1 cap1 M : Nat) (more : Int) (bs cs : List Nat) (hs : Src W (fun j => j < W.heap.size) (.slice a len cap) bs) (hsc : Src W (fun j => j < W.heap.size) (.slice b len1 cap1) cs) (hl : bs.length = len) (hlc : cs.length = len1) (hb : ∀ x ∈ bs, x < 256) (hbc : ∀ x ∈ cs, x < 256) (hn : ∀ n c, Value.slice a len cap = .slice none n c → n = 0 ∧ c = 0) (hnc : ∀ n c, Value.slice b len1 cap1 = .slice none n c → n = 0 ∧ c = 0) (hlong : len ≤ 65536) (hlong1 : len1 ≤ 65536) (hlenc : len ≤ cap) (hM : M ≤ 16384) (hT : Tab W) :
    Calls Tryd.prog 5 #[.slice a len cap, .slice b len1 cap1, .int .i64 (M : Nat), .int .i64 more] W fun e w' => e = .returned (.bool true) ∧ Same W w' := by
  have HI := pinfl_any W (.slice a len cap) _ bs M hs hb hn (by omega) hM hT
  have b1 : decide ((65536 : Int) < (len : Int)) = false := by simp; omega
  have b2 : decide ((65536 : Int) < (len1 : Int)) = false := by simp; omega
  have HT : Hid (Tab W) := hT
  have HS : Hid (Src W (fun j => j < W.heap.size) (.slice a len cap) bs) := hs
  have HSC : Hid (Src W (fun j => j < W.heap.size) (.slice b len1 cap1) cs) := hsc
  have HL : Hid (bs.length = len ∧ cs.length = len1) := hid ⟨hl, hlc⟩
  have HB : Hid (∀ x ∈ bs, x < 256) := hb
  have HBC : Hid (∀ x ∈ cs, x < 256) := hbc
  have HN : Hid (∀ n c, Value.slice a len cap = .slice none n c → n = 0 ∧ c = 0) := hn
  have HNC : Hid (∀ n c, Value.slice b len1 cap1 = .slice none n c → n = 0 ∧ c = 0) := hnc
  clear hs hsc hl hlc hb hbc hn hnc hT
  go_enter Tryd.func5, Tryd.ntmps5
  go_wp2_with fail
  refine HI.mono ?_
  rintro x w1 hi
  clear HI
  cases hi with
  | fail t er he h0 hx hk =>
    subst hx
    have HK1 : Hid (Same W w1) := hk
    have HAW := iawake_any w1 (HT.out.kept hk (fun f => f))
    have hed : ((er : Int) != 0) = true := by simp; omega
    clear hk he h0
    go_wp2_with fail
    refine HAW.mono ?_
    rintro x w2 ⟨rfl, hk2⟩
    have HK2 : Hid (Same W w2) := hid (Same.trans HK1.out hk2)
    clear hk2 HAW
    go_wp2_with fail
    go_ret
    exact ⟨rfl, HK2.out⟩
  | done t v' he hx hr hv hk =>
    subst hx
    have HK1 : Hid (Same W w1) := hk
    have HR1 : Hid (Row w1 v' t.out) := hr
    have HE : Hid (Ends (ofBytes bs) M ps0 t 0) := he
    obtain ⟨hin, hol⟩ := ends_in he
    obtain ⟨a1, c1, hv1, _⟩ := hr.shape
    obtain ⟨L, hL⟩ : ∃ L, L = t.out.length := ⟨_, rfl⟩
    obtain ⟨q, hq⟩ : ∃ q, q = (t.c + 7) / 8 := ⟨_, rfl⟩
    rw [← hL] at hv1 hol
    rw [← hq] at hin
    subst hv1
    rw [HL.out.1] at hin
    have HQ : Hid (q = (t.c + 7) / 8 ∧ L = t.out.length) := hid ⟨hq, hL⟩
    rw [← hq]
    have HSB1 : Hid (Src w1 (fun j => j < W.heap.size) (.slice a len cap) bs) := hid (HS.out.kept hk (fun _ _ _ f => f))
    have HLB : Hid (([] : List Nat).length + bs.length ≤ 1000000000000) := hid (by rw [HL.out.1]; simp; omega)
    have hrn : Row w1 (.slice none 0 0) [] := World.ownsRow_nil w1 0 5 1
    have HRN : Hid (Row w1 (.slice none 0 0) []) := hrn
    clear hk he hr hv hrn hq hL
    go_wp2_with (at_builtin; refine wpList_append_any _ rfl (.tmp 49) (.tmp 50) rfl (.slice none 0 0) [] rfl HRN.out _ (.slice a len cap) bs rfl HN.out HSB1.out HLB.out ?_)
    intro v2 w2 hr2 hg2 ho2
    have hk2 : Same w1 w2 := (Kept.refl _ w1).grown hg2 (fun k e => by simp [Value.ownBlock] at e)
    have hr2 : Row w2 v2 bs := hr2
    have HK2 : Hid (Same W w2) := hid (Same.trans HK1.out hk2)
    have HR2 : Hid (Row w2 v2 bs) := hr2
    have HV2 : Hid (∀ k, v2.ownBlock = some k → w1.heap.size ≤ k) := hid (fun k e => by
      rcases ho2 with h | h
      · rw [h] at e; simp [Value.ownBlock] at e
      · rw [h] at e; simp at e; omega)
    have HRW2 : Hid (Row w2 (.slice a1 L c1) t.out) := hid (HR1.out.kept hk2 (fun _ _ f => f))
    have HR1L : Hid (∀ k, (Value.slice a1 L c1).ownBlock = some k → k < w1.heap.size) := hid (fun k e => HR1.out.lt e)
    have HSC2 : Hid (Src w2 (fun j => j < W.heap.size) (.slice b len1 cap1) cs) := hid (HSC.out.kept HK2.out (fun _ _ _ f => f))
    have HLC : Hid (bs.length + cs.length ≤ 1000000000000) := hid (by rw [HL.out.1, HL.out.2]; omega)
    clear hr2 hg2 ho2 hk2
    obtain ⟨a2, c2, hv2, _⟩ := HR2.out.shape
    rw [HL.out.1] at hv2
    subst hv2
    go_wp2_with (at_builtin; refine wpList_append_any _ rfl (.tmp 52) (.tmp 53) rfl (.slice a2 len c2) bs rfl HR2.out _ (.slice b len1 cap1) cs rfl HNC.out HSC2.out HLC.out ?_)
    intro v3 w3 hr3 hg3 ho3
    have hk23 : Kept (fun k => (Value.slice a2 len c2).ownBlock = some k) w2 w3 := (Kept.refl _ w2).grown hg3 (fun k e => .inl e)
    have HK3 : Hid (Same W w3) := hid (Same.then HK2.out hk23 (fun k hk e => by have := HV2.out k e; have := HK1.out.size; omega))
    have HRW3 : Hid (Row w3 (.slice a1 L c1) t.out) := hid (HRW2.out.kept hk23 (fun k e e2 => by have := HV2.out k e2; have := HR1L.out k e; omega))
    have HR3 : Hid (Row w3 v3 (bs ++ cs)) := hr3
    obtain ⟨a3, c3, hv3, _⟩ := hr3.shape
    have hl3 : (bs ++ cs).length = len + len1 := by rw [List.length_append, HL.out.1, HL.out.2]
    rw [hl3] at hv3
    obtain ⟨n3, hn3⟩ : ∃ n, n = len + len1 := ⟨_, rfl⟩
    rw [← hn3] at hv3 hl3
    subst hv3
    have HI2 := pinfl_any w3 (.slice a3 n3 c3) _ (bs ++ cs) M (Src.ofRow hr3) (fun x hx => by
      rcases List.mem_append.1 hx with h | h
      · exact HB.out x h
      · exact HBC.out x h) (fun n c e => by
        rcases hr3.2 with ⟨e9, h9⟩ | ⟨g, cp, cu, e9, _⟩
        · simp only [Value.slice.injEq] at e e9; omega
        · simp only [Value.slice.injEq] at e e9; rw [e9.1] at e; cases e.1) (by omega) hM (HT.out.kept HK3.out (fun f => f))
    clear hr3 hg3 ho3 hk23 hl3 hn3
    go_wp2_with fail
    refine HI2.mono ?_
    rintro x w4 hi
    obtain ⟨v4, rfl, hr4, _, hk4⟩ := hi.is (ends_behind cs HE.out (by decide))
    rw [← HQ.out.1]
    have HK4 : Hid (Same W w4) := hid (Same.trans HK3.out hk4)
    have HRW4 : Hid (Row w4 (.slice a1 L c1) t.out) := hid (HRW3.out.kept hk4 (fun _ _ f => f))
    obtain ⟨a4, c4, hv4, _⟩ := hr4.shape
    rw [← HQ.out.2] at hv4
    subst hv4
    have HKB := keepBytes_same w4 (.slice a4 L c4) (.slice a1 L c1) _ _ t.out (Src.ofRow hr4) (Src.ofRow HRW4.out) (by rw [← HQ.out.2]; omega)
    have z1 : decide ((q : Int) < 0) = false := by simp
    have z2 : decide ((len : Int) < (q : Int)) = false := by simp; omega
    have z3 : decide ((M : Int) < (L : Int)) = false := by simp; omega
    have z4 : decide (len < q) = false := by simp; omega
    have z5 : decide (M < L) = false := by simp; omega
    have z6 : ((q : Int) != (q : Int)) = false := by simp
    clear hi hr4 hk4 HI2
    go_wp2_with fail
    refine HKB.mono ?_
    rintro x w5 ⟨rfl, hk5⟩
    have HK5 : Hid (Same W w5) := hid (Same.trans HK4.out hk5)
    have HRW5 : Hid (Row w5 (.slice a1 L c1) t.out) := hid (HRW4.out.kept hk5 (fun _ _ f => f))
    have HS5 : Hid (Src w5 (fun j => j < W.heap.size) (.slice a len cap) bs) := hid (HS.out.kept HK5.out (fun _ _ _ f => f))
    have HI3 := pinfl_any w5 (.slice a q cap) _ (bs.take q) L (HS5.out.take (by rw [HL.out.1]; exact hin) cap) (fun x hx => HB.out x (List.mem_of_mem_take hx)) (fun n c e => by
      have := HN.out len cap (by simp only [Value.slice.injEq] at e; rw [e.1])
      simp only [Value.slice.injEq] at e
      omega) (by rw [List.length_take]; omega) (by omega) (HT.out.kept HK5.out (fun f => f))
    have i1 : (0 : Int) ≤ (q : Int) := by omega
    have i2 : (q : Int) ≤ (cap : Int) := by omega
    clear hk5 HKB z1 z2 z3 z4 z5 z6
    go_wp2_with fail
    refine HI3.mono ?_
    rintro x w6 hi
    obtain ⟨v6, rfl, hr6, _, hk6⟩ := hi.is (by rw [HQ.out.1, HQ.out.2]; exact ends_head HE.out)
    rw [← HQ.out.1]
    have HK6 : Hid (Same W w6) := hid (Same.trans HK5.out hk6)
    have HRW6 : Hid (Row w6 (.slice a1 L c1) t.out) := hid (HRW5.out.kept hk6 (fun _ _ f => f))
    obtain ⟨a6, c6, hv6, _⟩ := hr6.shape
    rw [← HQ.out.2] at hv6
    subst hv6
    have HKB := keepBytes_same w6 (.slice a6 L c6) (.slice a1 L c1) _ _ t.out (Src.ofRow hr6) (Src.ofRow HRW6.out) (by rw [← HQ.out.2]; omega)
    have z6 : ((q : Int) != (q : Int)) = false := by simp
    clear hi hr6 hk6 HI3
    go_wp2_with fail
    refine HKB.mono ?_
    rintro x w7 ⟨rfl, hk7⟩
    have HK7 : Hid (Same W w7) := hid (Same.trans HK6.out hk7)
    have HRW7 : Hid (Row w7 (.slice a1 L c1) t.out) := hid (HRW6.out.kept hk7 (fun _ _ f => f))
    clear hk7 HKB z6
    by_cases hc : more < (M : Int) ∨ 16384 < more
    · have HAW := iawake_any w7 (HT.out.kept HK7.out (fun f => f))
      by_cases c1 : more < (M : Int)
      · have y1 : decide (more < (M : Int)) = true := by simp; omega
        clear hc c1
        go_wp2_with fail
        refine HAW.mono ?_
        rintro x w8 ⟨rfl, hk8⟩
        have HK8 : Hid (Same W w8) := hid (Same.trans HK7.out hk8)
        clear hk8 HAW
        go_wp2_with fail
        go_ret
        exact ⟨rfl, HK8.out⟩
      · have y1 : decide (more < (M : Int)) = false := by simp; omega
        have y2 : decide (16384 < more) = true := by simp; omega
        clear hc c1
        go_wp2_with fail
        refine HAW.mono ?_
        rintro x w8 ⟨rfl, hk8⟩
        have HK8 : Hid (Same W w8) := hid (Same.trans HK7.out hk8)
        clear hk8 HAW
        go_wp2_with fail
        go_ret
        exact ⟨rfl, HK8.out⟩
    · obtain ⟨m2, rfl⟩ : ∃ n : Nat, more = (n : Int) := ⟨more.toNat, by omega⟩
      have y1 : decide ((m2 : Int) < (M : Int)) = false := by simp; omega
      have y2 : decide ((16384 : Int) < (m2 : Int)) = false := by simp; omega
      have HI4 := pinfl_any w7 (.slice a len cap) _ bs m2 (HS.out.kept HK7.out (fun _ _ _ f => f)) HB.out HN.out (by rw [HL.out.1]; omega) (by omega) (HT.out.kept HK7.out (fun f => f))
      have HM2 : Hid (M ≤ m2) := hid (by omega)
      clear hc
      go_wp2_with fail
      refine HI4.mono ?_
      rintro x w8 hi
      obtain ⟨v8, rfl, hr8, _, hk8⟩ := hi.is (ends_limit HE.out HM2.out)
      rw [← HQ.out.1]
      have HK8 : Hid (Same W w8) := hid (Same.trans HK7.out hk8)
      have HRW8 : Hid (Row w8 (.slice a1 L c1) t.out) := hid (HRW7.out.kept hk8 (fun _ _ f => f))
      obtain ⟨a8, c8, hv8, _⟩ := hr8.shape
      rw [← HQ.out.2] at hv8
      subst hv8
      have HR8 := hid hr8
      have HAW := iawake_any w8 (HT.out.kept HK8.out (fun f => f))
      clear hi hr8 hk8 HI4 y1 y2
      go_wp2_with fail
      refine HAW.mono ?_
      rintro x w9 ⟨rfl, hk9⟩
      have HK9 : Hid (Same W w9) := hid (Same.trans HK8.out hk9)
      have HKB := keepBytes_same w9 (.slice a8 L c8) (.slice a1 L c1) _ _ t.out (Src.ofRow (HR8.out.kept hk9 (fun _ _ f => f))) (Src.ofRow (HRW8.out.kept hk9 (fun _ _ f => f))) (by rw [← HQ.out.2]; omega)
      have z6 : ((q : Int) == (q : Int)) = true := by simp
      clear hk9 HAW
      go_wp2_with fail
      refine HKB.mono ?_
      rintro x w10 ⟨rfl, hk10⟩
      have HK10 : Hid (Same W w10) := hid (Same.trans HK9.out hk10)
      clear hk10 HKB
      go_wp2_with fail
      go_ret
      exact ⟨rfl, HK10.out⟩

set_option maxRecDepth 100000 in
set_option maxHeartbeats 4000000 in
theorem inflateBehind_all (a : Option Addr) (len cap : Nat) (zs : List Int) (b : Option Addr) (len1 cap1 : Nat) (zs1 : List Int) (most more : Int) (W : World) (h : IsRow .u8 W a len cap zs) (h1 : IsRow .u8 W b len1 cap1 zs1) (_hm : (Lit.int .i64 most).wf = true) (_hn : (Lit.int .i64 more).wf = true) (hT : Tab W) :
    Calls Tryd.prog 5 #[.slice a len cap, .slice b len1 cap1, .int .i64 most, .int .i64 more] W fun e w' => e = .returned (.bool true) ∧ Below W.heap.size W w' := by
  obtain ⟨bs, hs, hl, hb⟩ := h.src
  obtain ⟨cs, hsc, hlc, hbc⟩ := h1.src
  suffices H : Calls Tryd.prog 5 #[.slice a len cap, .slice b len1 cap1, .int .i64 most, .int .i64 more] W fun e w' => e = .returned (.bool true) ∧ Same W w' from H.mono (fun e w' h => ⟨h.1, h.2.bel⟩)
  by_cases hlong : 65536 < len
  · have b1 : decide ((65536 : Int) < (len : Int)) = true := by simp; omega
    clear hlong hT h h1 hs hl hb hsc hlc hbc
    go_enter Tryd.func5, Tryd.ntmps5
    go_wp2_with fail
    go_ret
    exact ⟨rfl, Kept.refl _ _⟩
  · have b1 : decide ((65536 : Int) < (len : Int)) = false := by simp; omega
    by_cases hlong1 : 65536 < len1
    · have b2 : decide ((65536 : Int) < (len1 : Int)) = true := by simp; omega
      clear hlong hlong1 hT h h1 hs hl hb hsc hlc hbc
      go_enter Tryd.func5, Tryd.ntmps5
      go_wp2_with fail
      go_ret
      exact ⟨rfl, Kept.refl _ _⟩
    · have b2 : decide ((65536 : Int) < (len1 : Int)) = false := by simp; omega
      by_cases hbad : most < 0 ∨ 16384 < most
      · have HI := pinfl_bad W (.slice a len cap) most hbad
        have HT : Hid (Tab W) := hT
        clear hlong hlong1 hT h h1 hs hl hb hsc hlc hbc hbad
        go_enter Tryd.func5, Tryd.ntmps5
        go_wp2_with fail
        refine HI.mono ?_
        rintro x w1 ⟨rfl, hk⟩
        have HK1 : Hid (Same W w1) := hk
        have HAW := iawake_any w1 (HT.out.kept hk (fun f => f))
        clear hk HI
        go_wp2_with fail
        refine HAW.mono ?_
        rintro x w2 ⟨rfl, hk2⟩
        have HK2 : Hid (Same W w2) := hid (Same.trans HK1.out hk2)
        clear hk2 HAW
        go_wp2_with fail
        go_ret
        exact ⟨rfl, HK2.out⟩
      · obtain ⟨M, rfl⟩ : ∃ n : Nat, most = (n : Int) := ⟨most.toNat, by omega⟩
        exact behind_good W a b len cap len1 cap1 M more bs cs hs hsc hl hlc hb hbc h.nil5 h1.nil5 (by omega) (by omega) h.lenCap (by omega) hT

end Go.Proofs.YtmlpnidngaelnaaDoor
