/-
  The law MatchExpands.
-/
import Derived.Test.YtjebfekkaohimaaMtK
import Derived.Test.YtjebfekkaohimaaMtS
import Derived.Test.YtjebfekkaohimaaMtT
import Derived.Test.YtjebfekkaohimaaRSam
namespace Go.Proofs.Ytjebfekkaohimaa
open Go.RowKit

theorem Same.bel6 {w w' : World} (h : Same w w') : Below w.heap.size w w' := Kept.below h (Nat.le_refl _) (fun _ _ f => f)

theorem Row.len6 {w : World} {g n cap : Nat} {ds : List Nat} (h : Row w (.slice (some ⟨g, 0, none⟩) n cap) ds) : ds.length = n := by
  rcases h.2 with ⟨e, _⟩ | ⟨_, _, _, e, _⟩
  · simp at e
  · injection e with _ e _; exact e.symm

theorem Row.lay6 {w : World} {g n cap : Nat} {ds : List Nat} (h : Row w (.slice (some ⟨g, 0, none⟩) n cap) ds) (j x : Nat) : Row (w.setCell ⟨g, j, none⟩ (.int .u8 x)) (.slice (some ⟨g, 0, none⟩) n cap) (ds.set j x) := by
  have hl := h.len6
  subst hl
  have := (World.ownsRow.stored h j (.int .u8 x)).1
  rw [show (Value.int .u8 x) = byteV x from rfl, ← List.map_set] at this
  unfold Row
  rw [List.length_set]
  exact this

theorem Row.cell6 {w : World} {g n cap : Nat} {bs : List Nat} (h : Row w (.slice (some ⟨g, 0, none⟩) n cap) bs) (j : Nat) (hj : j < bs.length) : w.cell? ⟨g, j, none⟩ = some (.int .u8 (bs[j] : Nat)) := by
  have hl := h.len6
  subst hl
  exact Row.cell h j hj

theorem Row.frozen6 {w : World} {g n cap : Nat} {bs : List Nat} (h : Row w (.slice (some ⟨g, 0, none⟩) n cap) bs) (j : Nat) : w.frozen? ⟨g, j, none⟩ = false := by
  have hl := h.len6
  subst hl
  exact World.ownsRow.frozenAt h j

/-- What Expand answers: its number, and its bytes. -/
def expC (ts : List TK) (m : Int) : Nat := if m < 0 ∨ 16384 < m then 1 else errT (measT m.toNat ts 0)
def expD (ts : List TK) (m : Int) : List Nat := if m < 0 ∨ 16384 < m then [] else match measT m.toNat ts 0 with
  | .ok _ => expT ts []
  | .error _ => []

theorem expD_le (ts : List TK) (m : Int) : (expD ts m).length ≤ 16384 := by
  unfold expD
  split
  · simp
  · split
    · rename_i h1 n h2
      have h3 := expT_length (ts := ts) [] h2
      have := (measT_le h2 (Nat.zero_le _)).2
      omega
    · simp

def ExpU (w w' : World) (e : Ending) (c : Nat) (bs : List Nat) : Prop := ∃ v', e = .returned (.tuple #[v', .int .i64 (c : Nat)]) ∧ Fresh w w' v' bs

theorem fresh_none {w w' : World} (h : Same w w') : Fresh w w' (.slice none 0 0) [] := ⟨World.ownsRow_nil w' 0 5 1, h, fun k e => by cases e⟩

theorem expU_of {w w' : World} {e : Ending} {ts : List TK} {m : Int} (hm : ¬ (m < 0 ∨ 16384 < m)) (h : ExpA w w' e ts (measT m.toNat ts 0)) : ExpU w w' e (expC ts m) (expD ts m) := by
  unfold expC expD
  rw [if_neg hm, if_neg hm]
  cases hc : measT m.toNat ts 0 with
  | error c =>
    rw [hc] at h
    obtain ⟨rfl, hk⟩ := h
    exact ⟨_, rfl, fresh_none hk⟩
  | ok n =>
    rw [hc] at h
    obtain ⟨v, rfl, hf⟩ := h
    exact ⟨_, rfl, hf⟩

theorem expU_bad {w w' : World} {e : Ending} {ts : List TK} {m : Int} (hm : m < 0 ∨ 16384 < m) (h : e = .returned (.tuple #[.slice none 0 0, .int .i64 1]) ∧ Same w w') : ExpU w w' e (expC ts m) (expD ts m) := by
  unfold expC expD
  rw [if_pos hm, if_pos hm]
  exact ⟨_, h.1, fresh_none h.2⟩

theorem mexp_un (w : World) (v : Value) (I : Nat → Prop) (ts : List TK) (m : Int) (hs : TkSrc w I v ts) (hlen : ts.length ≤ 10000000) :
    Calls Try.prog 11 #[v, .int .i64 m] w fun e w' => ExpU w w' e (expC ts m) (expD ts m) := by
  by_cases hm : m < 0 ∨ 16384 < m
  · exact (mexp_bad w v m hm).mono (fun e w' h => expU_bad hm h)
  · have h := mexp_any w v I ts m.toNat hs hlen (by omega)
    rw [show ((m.toNat : Nat) : Int) = m by omega] at h
    exact h.mono (fun e w' h => expU_of hm h)

theorem rexp_un (w : World) (v : Value) (I : Nat → Prop) (ts : List TK) (m : Int) (hs : TkSrc w I v ts) (hlen : ts.length ≤ 10000000) :
    Calls Try.prog 14 #[v, .int .i64 m] w fun e w' => ExpU w w' e (expC ts m) (expD ts m) := by
  by_cases hm : m < 0 ∨ 16384 < m
  · exact (rexp_bad w v m hm).mono (fun e w' h => expU_bad hm h)
  · have h := rexp_any w v I ts m.toNat hs hlen (by omega)
    rw [show ((m.toNat : Nat) : Int) = m by omega] at h
    exact h.mono (fun e w' h => expU_of hm h)

set_option maxHeartbeats 1000000 in
theorem rcheck_any (w : World) (v : Value) (I : Nat → Prop) (ts : List TK) (hs : TkSrc w I v ts) (hlen : ts.length ≤ 10000000) :
    Calls Try.prog 16 #[v] w fun e w' => e = .returned (.int .i64 (errT (measT 16384 ts 0) : Nat)) ∧ Same w w' := by
  have H := rexp_un w v I ts 16384 hs hlen
  have HE : Hid (expC ts 16384 = errT (measT 16384 ts 0)) := hid (by unfold expC; rw [if_neg (by omega)]; rfl)
  generalize expC ts 16384 = c at H HE
  clear hs
  go_enter Try.func16, Try.ntmps16
  go_wp2_with fail
  refine H.mono ?_
  rintro e w1 ⟨v1, rfl, hf1⟩
  have HF := hid hf1
  clear hf1 H
  go_wp2_with fail
  go_ret
  exact ⟨by rw [HE.out]; rfl, HF.out.kept⟩

set_option maxRecDepth 100000 in
set_option maxHeartbeats 4000000 in
theorem mexpands_good (W : World) (a : Option Addr) (L cap : Nat) (ts : List TK) (m : Int) (hs : TkSrc W (fun k => k < W.heap.size) (.slice a L cap) ts) (hl : ts.length = L) (hlong : L ≤ 1048576) :
    Calls Try.prog 3 #[.slice a L cap, .int .i64 m] W fun e w' => e = .returned (.bool true) ∧ Same W w' := by
  have HS : Hid (TkSrc W (fun k => k < W.heap.size) (.slice a L cap) ts) := hs
  have HL : Hid (ts.length = L) := hl
  have b1 : decide ((1048576 : Int) < (L : Int)) = false := by simp; omega
  have H1 := tlent_any W _ a L cap ts hs hl (by omega)
  obtain ⟨L1, hL1⟩ : ∃ x, x = L + 1 := ⟨_, rfl⟩
  have HL1 := hid hL1
  rw [← hL1] at H1
  have hLb : L ≤ 1048576 := hlong
  obtain ⟨c, hc⟩ : ∃ c, c = expC ts m := ⟨_, rfl⟩
  obtain ⟨bs, hbs⟩ : ∃ bs, bs = expD ts m := ⟨_, rfl⟩
  obtain ⟨k, hk⟩ : ∃ k, k = errT (measT 16384 ts 0) := ⟨_, rfl⟩
  have HC : Hid (expC ts m = c ∧ expD ts m = bs ∧ errT (measT 16384 ts 0) = k ∧ bs.length ≤ 16384) := hid ⟨hc.symm, hbs.symm, hk.symm, by rw [hbs]; exact expD_le ts m⟩
  obtain ⟨g1, hg1⟩ : ∃ g, g = W.heap.size := ⟨_, rfl⟩
  have HG1 := hid hg1
  rw [← hg1] at H1
  clear hs hL1 hl hlong hc hbs hk hg1
  go_enter Try.func3, Try.ntmps3
  go_wp2_with fail
  refine H1.mono ?_
  rintro e w1 ⟨rfl, hr1, hk1⟩
  have HK1 := hid hk1
  have HR1 := hid hr1
  have hlt1 : g1 < w1.heap.size := (Array.getElem?_eq_some_iff.1 hr1).1
  have hsrc : TkSrc w1 (fun k => k = g1) (.slice (some ⟨g1, 0, none⟩) L L1) ts := by have h := hr1.toks L1 (by have := HL1.out; have := HL.out; omega); rw [HL.out] at h; exact h
  have HS1 := hid hsrc
  have H2 := mexp_un w1 _ _ ts m hsrc (by rw [HL.out]; omega)
  rw [HC.out.1, HC.out.2.1] at H2
  clear hr1 hk1 hsrc H1
  go_wp2_with fail
  refine H2.mono ?_
  rintro e w2 ⟨v2, rfl, hf2⟩
  have HF2 := hid hf2
  have H3 := mcheck_any w2 _ _ ts (SrcC.kept tkC_ok HS1.out hf2.kept (fun _ _ _ f => f)) (by rw [HL.out]; omega)
  rw [HC.out.2.2.1] at H3
  clear hf2 H2
  go_wp2_with fail
  refine H3.mono ?_
  rintro e w3 ⟨rfl, hk3⟩
  have hk13 : Same w1 w3 := Same.trans HF2.out.kept hk3
  have HK3 := hid (Same.trans HK1.out hk13)
  have HF3 := hid (HF2.out.later hk3 (fun _ f => f.elim))
  have H4 := tback_any w3 g1 _ a L cap ts (HR1.out.kept hk13 (fun f => f)) (SrcC.kept tkC_ok HS.out HK3.out (fun _ _ _ f => f)) HL.out (by omega)
  rw [← HL1.out] at H4
  clear hk13 hk3 H3 HF2
  go_wp2_with fail
  refine H4.mono ?_
  rintro e w4 ⟨rfl, hk4⟩
  have HK4 : Hid (Same W w4) := hid (Same.then HK3.out hk4 (fun x hx e => by have := HG1.out; omega))
  have HB4 : Hid (Row w4 v2 bs) := hid (HF3.out.row.kept hk4 (fun k hk e => by have := HF3.out.new k hk; omega))
  have HN4 : Hid (∀ k, v2.ownBlock = some k → g1 < k ∧ k < w4.heap.size) := hid (fun k hk => ⟨by have := HF3.out.new k hk; omega, HB4.out.lt hk⟩)
  have H5 := rexp_un w4 _ _ ts m (SrcC.kept tkC_ok HS.out HK4.out (fun _ _ _ f => f)) (by rw [HL.out]; omega)
  rw [HC.out.1, HC.out.2.1] at H5
  clear hk4 H4 HF3 HR1 HS1 HK1 HK3 hlt1
  go_wp2_with fail
  refine H5.mono ?_
  rintro e w5 ⟨v5, rfl, hf5⟩
  have HK5 := hid (Same.trans HK4.out hf5.kept)
  have HB5 := hid (HB4.out.kept hf5.kept (fun _ _ f => f))
  have HV5 := hid hf5.row
  have HN5 : Hid (∀ k, v5.ownBlock = some k → w4.heap.size ≤ k) := hid hf5.new
  have H6 := bsame_any v2 v5 _ _ bs bs w5 (Src.ofRow HB5.out) (Src.ofRow HV5.out) (by have := HC.out.2.2.2; omega) (by have := HC.out.2.2.2; omega)
  rw [show decide (bs = bs) = true by simp] at H6
  clear hf5 H5 HB4 HK4
  go_wp2_with fail
  refine H6.mono ?_
  rintro e w6 ⟨rfl, m6, hw6⟩
  have hk6 : Same w5 w6 := by rw [hw6]; exact (Kept.refl _ w5).drewN m6
  have HK6 := hid (Same.trans HK5.out hk6)
  have HB6 := hid (HB5.out.kept hk6 (fun _ _ f => f))
  have HV6 := hid (HV5.out.kept hk6 (fun _ _ f => f))
  clear hk6 hw6 H6 HK5 HB5 HV5
  obtain ⟨a2, c2, hv2, hsh2⟩ := HB6.out.shape
  obtain ⟨M, hM⟩ : ∃ M, M = bs.length := ⟨_, rfl⟩
  rw [← hM] at hv2
  subst hv2
  have HSH := hid hsh2
  have HM := hid hM
  have hMb : M ≤ 16384 := by have := HC.out.2.2.2; omega
  clear hsh2 hM
  go_wp2_with fail
  go_loopg [13] M (fun q zi wr => ∃ (i : Nat) (ds : List Nat), zi = .int .i64 (i : Nat) ∧ M - i ≤ q ∧ i ≤ M ∧ Hid (ds.length = M ∧ Row wr (.slice a2 M c2) ds) ∧ Hid (Same W wr) ∧ Hid (Row wr v5 bs))
  case atStart => exact ⟨0, bs, rfl, by omega, by omega, hid ⟨HM.out.symm, HB6.out⟩, HK6, HV6⟩
  case round =>
    clear HK6 HB6 HV6
    obtain ⟨i, ds, rfl, hq, hi, HD, HK, HV⟩ := hrel
    by_cases hlt : i < M
    · obtain ⟨g2, hg2⟩ := HSH.out (fun e => by have h := HM.out; rw [e] at h; simp at h; omega)
      subst hg2
      have x1 := HD.out.2.cell6 i (by rw [HD.out.1]; exact hlt)
      have x2 := HD.out.2.frozen6 i
      obtain ⟨u, hu⟩ : ∃ u, u = ds[i]'(by rw [HD.out.1]; exact hlt) := ⟨_, rfl⟩
      rw [← hu] at x1
      have HG2 : Hid (g1 < g2 ∧ g2 < w4.heap.size) := hid (HN4.out g2 rfl)
      clear hu
      go_wp2_with fail
      go_roundg (gk - 1)
      case measure => omega
      case rel => exact ⟨i + 1, _, by go_num, by omega, by omega, hid ⟨by rw [List.length_set]; exact HD.out.1, HD.out.2.lay6 i 7⟩, hid (HK.out.setCell _ _ (.inr (by have := HG1.out; have := HG2.out; simp only; omega))), hid (HV.out.kept (F := fun j => j = g2) ((Kept.refl _ _).setCell _ _ (.inl rfl)) (fun j hj e => by have := HN5.out j hj; have := HG2.out; omega))⟩
    · have H8 := mexp_un wr _ _ ts m (SrcC.kept tkC_ok HS.out HK.out (fun _ _ _ f => f)) (by rw [HL.out]; omega)
      rw [HC.out.1, HC.out.2.1] at H8
      go_wp2_with fail
      refine H8.mono ?_
      rintro e w8 ⟨v8, rfl, hf8⟩
      have HK8 := hid (Same.trans HK.out hf8.kept)
      have HB8 := hid hf8.row
      have HV8 := hid (HV.out.kept hf8.kept (fun _ _ f => f))
      have H9 := mawake_any w8
      clear hf8 H8 HK HV HD
      go_wp2_with fail
      refine H9.mono ?_
      rintro e w9 ⟨rfl, hk9⟩
      have HK9 := hid (Same.trans HK8.out hk9)
      have HB9 := hid (HB8.out.kept hk9 (fun _ _ f => f))
      have HV9 := hid (HV8.out.kept hk9 (fun _ _ f => f))
      have H10 := bsame_any v8 v5 _ _ bs bs w9 (Src.ofRow HB9.out) (Src.ofRow HV9.out) (by have := HC.out.2.2.2; omega) (by have := HC.out.2.2.2; omega)
      rw [show decide (bs = bs) = true by simp] at H10
      clear hk9 H9 HK8 HB8 HV8
      go_wp2_with fail
      refine H10.mono ?_
      rintro e w10 ⟨rfl, m10, hw10⟩
      have hk10 : Same w9 w10 := by rw [hw10]; exact (Kept.refl _ w9).drewN m10
      have HK10 := hid (Same.trans HK9.out hk10)
      have H11 := rcheck_any w10 _ _ ts (SrcC.kept tkC_ok HS.out HK10.out (fun _ _ _ f => f)) (by rw [HL.out]; omega)
      rw [HC.out.2.2.1] at H11
      clear hk10 hw10 H10 HB9 HV9 HK9
      go_wp2_with fail
      refine H11.mono ?_
      rintro e w11 ⟨rfl, hk11⟩
      have HK11 := hid (Same.trans HK10.out hk11)
      clear hk11 H11
      go_wp2_with fail
      go_ret
      exact ⟨by simp, HK11.out⟩

set_option maxHeartbeats 1000000 in
theorem matchExpands_all (a : Option Addr) (len cap : Nat) (ts : List TK) (m : Int) (W : World) (hs : TkSrc W (fun k => k < W.heap.size) (.slice a len cap) ts) (hl : ts.length = len) (_ : a = none → cap = 0) :
    Calls Try.prog 3 #[.slice a len cap, .int .i64 m] W fun e w' => e = .returned (.bool true) ∧ Below W.heap.size W w' := by
  suffices H : Calls Try.prog 3 #[.slice a len cap, .int .i64 m] W fun e w' => e = .returned (.bool true) ∧ Same W w' from H.mono (fun e w' h => ⟨h.1, h.2.bel6⟩)
  have HAW := mawake_any W
  by_cases hlong : 1048576 < len
  · have b1 : decide ((1048576 : Int) < (len : Int)) = true := by simp; omega
    clear hlong hl hs
    go_enter Try.func3, Try.ntmps3
    go_wp2_with fail
    refine HAW.mono ?_
    rintro e w5 ⟨rfl, hk5⟩
    have HK5 : Hid (Same W w5) := hk5
    clear hk5 HAW
    go_wp2_with fail
    go_ret
    exact ⟨rfl, HK5.out⟩
  · exact mexpands_good W a len cap ts m hs hl (by omega)

end Go.Proofs.Ytjebfekkaohimaa
