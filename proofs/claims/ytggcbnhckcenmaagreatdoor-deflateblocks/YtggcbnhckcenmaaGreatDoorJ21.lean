/-
  Of the proof: parts MtK, MtV, MtY.
-/
import Derived.Laws.BytesArg
import Derived.Laws.StructEq
import Derived.Lib.SlBytesConst
import Derived.BigQuiet
import Derived.Test.YtggcbnhckcenmaaGreatDoorJ12
import Derived.Test.YtggcbnhckcenmaaGreatDoorJ19
import Derived.Test.YtggcbnhckcenmaaGreatDoorJ13
import Derived.Test.YtggcbnhckcenmaaGreatDoorJ20
import Derived.Test.YtggcbnhckcenmaaGreatDoorJ3

/-
  The law's awake: the document's examples hold.
-/
namespace Go.Proofs.YtggcbnhckcenmaaGreatDoor
open Go.RowKit

theorem mcell_mark (w : World) (C : Array Value) (t : TypeId) (fr : Nat × Nat) (j : Nat) : (w.alloc (.cells C t fr)).cell? ⟨w.heap.size, j, none⟩ = C[j]? := by
  have : (w.alloc (.cells C t fr)).heap[w.heap.size]? = some (.cells C t fr) := by
    show (w.heap.push _)[w.heap.size]? = _
    simp
  simp only [World.cell?, this]
  simp

/-- A constant text's bytes. -/
theorem msrc_mark (w : World) (cs : List Nat) (n : Nat) (fr : Nat × Nat) (hn : cs.length = n) : Src (w.alloc (.cells (cs.map byteV).toArray 5 fr)) (fun k => k = w.heap.size) (.slice (some ⟨w.heap.size, 0, none⟩) n n) cs := by
  subst hn
  refine ⟨_, _, rfl, fun _ => ⟨_, _, rfl, rfl, fun j hj => ?_⟩⟩
  rw [Nat.zero_add, mcell_mark]
  simp [byteV, hj]

/-- A literal row of tokens. -/
theorem tlit_src (w : World) (ts : List TK) (n : Nat) (hn : ts.length = n) : TkSrc (w.alloc (.cells (ts.flatMap tkC).toArray 33)) (fun j => j = w.heap.size) (.slice (some ⟨w.heap.size, 0, none⟩) n n) ts := by
  refine ⟨_, n, by rw [hn], by omega, fun _ => ⟨w.heap.size, 0, rfl, rfl, fun j hj i hi => ?_⟩⟩
  rw [Nat.zero_add, (Blk.new w (ts.flatMap tkC).toArray 33).cell (j * 3 + i)]
  rw [List.getElem?_toArray, flat_get tkC_ok ts j i hj hi]

end Go.Proofs.YtggcbnhckcenmaaGreatDoor

/-
  The law MatchExpands.
-/
namespace Go.Proofs.YtggcbnhckcenmaaGreatDoor
open Go.RowKit
theorem Row.len6 {w : World} {g n cap : Nat} {ds : List Nat} (h : Row w (.slice (some ⟨g, 0, none⟩) n cap) ds) : ds.length = n := by
  rcases h.2 with ⟨e, _⟩ | ⟨_, _, _, e, _⟩
  · simp at e
  · injection e with _ e _; exact e.symm

theorem Row.cell6 {w : World} {g n cap : Nat} {bs : List Nat} (h : Row w (.slice (some ⟨g, 0, none⟩) n cap) bs) (j : Nat) (hj : j < bs.length) : w.cell? ⟨g, j, none⟩ = some (.int .u8 (bs[j] : Nat)) := by
  have hl := h.len6
  subst hl
  exact Row.cell h j hj

/-- What Expand answers: its number, and its bytes. -/
def expC (ts : List TK) (m : Int) : Nat := if m < 0 ∨ 16384 < m then 1 else errT (measT m.toNat ts 0)
def expD (ts : List TK) (m : Int) : List Nat := if m < 0 ∨ 16384 < m then [] else match measT m.toNat ts 0 with
  | .ok _ => expT ts []
  | .error _ => []

theorem expD_le (ts : List TK) (m : Int) : (expD ts m).length ≤ 16384 := by
  unfold expD
  split
  · simp
  · split
    · rename_i h1 n h2
      have h3 := expT_length (ts := ts) [] h2
      have := (measT_le h2 (Nat.zero_le _)).2
      omega
    · simp

def ExpU (w w' : World) (e : Ending) (c : Nat) (bs : List Nat) : Prop := ∃ v', e = .returned (.tuple #[v', .int .i64 (c : Nat)]) ∧ Fresh w w' v' bs

theorem fresh_none {w w' : World} (h : Same w w') : Fresh w w' (.slice none 0 0) [] := ⟨World.ownsRow_nil w' 0 5 1, h, fun k e => by cases e⟩

theorem expU_of {w w' : World} {e : Ending} {ts : List TK} {m : Int} (hm : ¬ (m < 0 ∨ 16384 < m)) (h : ExpA w w' e ts (measT m.toNat ts 0)) : ExpU w w' e (expC ts m) (expD ts m) := by
  unfold expC expD
  rw [if_neg hm, if_neg hm]
  cases hc : measT m.toNat ts 0 with
  | error c =>
    rw [hc] at h
    obtain ⟨rfl, hk⟩ := h
    exact ⟨_, rfl, fresh_none hk⟩
  | ok n =>
    rw [hc] at h
    obtain ⟨v, rfl, hf⟩ := h
    exact ⟨_, rfl, hf⟩

theorem expU_bad {w w' : World} {e : Ending} {ts : List TK} {m : Int} (hm : m < 0 ∨ 16384 < m) (h : e = .returned (.tuple #[.slice none 0 0, .int .i64 1]) ∧ Same w w') : ExpU w w' e (expC ts m) (expD ts m) := by
  unfold expC expD
  rw [if_pos hm, if_pos hm]
  exact ⟨_, h.1, fresh_none h.2⟩

theorem rexp_un (w : World) (v : Value) (I : Nat → Prop) (ts : List TK) (m : Int) (hs : TkSrc w I v ts) (hlen : ts.length ≤ 10000000) :
    Calls Tryz.prog 21 #[v, .int .i64 m] w fun e w' => ExpU w w' e (expC ts m) (expD ts m) := by
  by_cases hm : m < 0 ∨ 16384 < m
  · exact (rexp_bad w v m hm).mono (fun e w' h => expU_bad hm h)
  · have h := rexp_any w v I ts m.toNat hs hlen (by omega)
    rw [show ((m.toNat : Nat) : Int) = m by omega] at h
    exact h.mono (fun e w' h => expU_of hm h)

set_option maxHeartbeats 1000000 in
theorem rcheck6_any (w : World) (v : Value) (I : Nat → Prop) (ts : List TK) (hs : TkSrc w I v ts) (hlen : ts.length ≤ 10000000) :
    Calls Tryz.prog 20 #[v] w fun e w' => e = .returned (.int .i64 (errT (measT 16384 ts 0) : Nat)) ∧ Same w w' := by
  have H := rexp_un w v I ts 16384 hs hlen
  have HE : Hid (expC ts 16384 = errT (measT 16384 ts 0)) := hid (by unfold expC; rw [if_neg (by omega)]; rfl)
  generalize expC ts 16384 = c at H HE
  clear hs
  go_enter Tryz.func20, Tryz.ntmps20
  go_wp2_with fail
  refine H.mono ?_
  rintro e w1 ⟨v1, rfl, hf1⟩
  have HF := hid hf1
  clear hf1 H
  go_wp2_with fail
  go_ret
  exact ⟨by rw [HE.out]; rfl, HF.out.kept⟩

end Go.Proofs.YtggcbnhckcenmaaGreatDoor

/-
  The reference's Match and Find.
-/
namespace Go.Proofs.YtggcbnhckcenmaaGreatDoor
open Go.RowKit

set_option maxRecDepth 100000 in
set_option maxHeartbeats 4000000 in
theorem rmatch_any (w : World) (v : Value) (I : Nat → Prop) (data : List Nat) (i : Nat) (hs : Src w I v data) (hlen : data.length ≤ 16384) (hi : i ≤ data.length) :
    Calls Tryz.prog 65 #[v, .int .i64 (i : Nat)] w fun e w' => e = .returned (.tuple #[.int .i64 ((matM data i).1 : Nat), .int .i64 ((matM data i).2 : Nat)]) ∧ ∃ m, w' = w.drewN m := by
  obtain ⟨ao, cap, rfl, hsa⟩ := id hs
  obtain ⟨L, hL⟩ : ∃ L, L = data.length := ⟨_, rfl⟩
  rw [← hL] at hlen hi ⊢
  have HL := hid hL
  have HSA : Hid (data ≠ [] → ∃ b o, ao = some ⟨b, o, none⟩ ∧ ∀ j, (hj : j < data.length) → w.cell? ⟨b, o + j, none⟩ = some (.int .u8 (data[j] : Nat))) := hid (fun hne => by obtain ⟨b, o, e, _, h⟩ := hsa hne; exact ⟨b, o, e, h⟩)
  clear hs hsa hL
  go_enter Tryz.func65, Tryz.ntmps65
  go_wp2
  go_loopg [6, 7, 8] i (fun q zl zd zk wr => (∃ m, wr = w.drewN m) ∧ ∃ (l d D : Nat), zl = .int .i64 (l : Nat) ∧ zd = .int .i64 (d : Nat) ∧ zk = .int .i64 (D : Nat) ∧ i + 1 - D ≤ q ∧ D ≤ i + 1 ∧ 1 ≤ D ∧ l ≤ 258 ∧ Hid (bestM data i (D - 1) = (l, d)))
  case atStart => exact ⟨⟨0, rfl⟩, 0, 0, 1, rfl, rfl, rfl, by omega, by omega, by omega, by omega, hid rfl⟩
  case round =>
    obtain ⟨⟨m, rfl⟩, l, d, D, rfl, rfl, rfl, hq, hk, hD1, hl, HB⟩ := hrel
    obtain ⟨G, hG⟩ : ∃ G, G = gk := ⟨_, rfl⟩
    rw [← hG] at hq
    by_cases hgo : D ≤ i ∧ l < 258
    · obtain ⟨hki, hl2⟩ := hgo
      have hbs : ∀ M, mlM data i D = M → (3 ≤ M ∧ l < M → bestM data i D = (M, D)) ∧ (¬ (3 ≤ M ∧ l < M) → bestM data i D = (l, d)) := by
        intro M hM
        obtain ⟨k, rfl⟩ : ∃ k, D = k + 1 := ⟨D - 1, by omega⟩
        have hb := HB.out
        rw [Nat.add_sub_cancel] at hb
        refine ⟨fun h => ?_, fun h => ?_⟩
        · rw [bestM_take (by rw [hM]; exact h.1) (by rw [hM, hb]; exact h.2), hM]
        · rw [bestM_skip (by rw [hM, hb]; simp only; omega), hb]
      have HBS := hid hbs
      clear hbs
      go_wp2
      go_loopg [9] 258 (fun q zn wq => (∃ m, wq = w.drewN m) ∧ ∃ n : Nat, zn = .int .i64 (n : Nat) ∧ 258 - n ≤ q ∧ n ≤ 258 ∧ Hid (mlM data i D = extM data i D (258 - n) n))
      case atStart => exact ⟨⟨m, rfl⟩, 0, rfl, by omega, by omega, hid rfl⟩
      case round =>
        obtain ⟨⟨m2, rfl⟩, n, rfl, hnq, hn, HN⟩ := hrel
        by_cases hc : n < 258 ∧ i + n < L ∧ data.getD (i + n) 0 = data.getD (i + n - D) 0
        · obtain ⟨hc1, hc2, hc3⟩ := hc
          have hiD : i + n < data.length := by rw [← HL.out]; exact hc2
          obtain ⟨b, o, hao, hcell⟩ := HSA.out (fun e => by rw [e] at hiD; simp at hiD)
          subst hao
          obtain ⟨p, hp⟩ : ∃ p, p = i + n := ⟨_, rfl⟩
          obtain ⟨r, hr⟩ : ∃ r, r = i + n - D := ⟨_, rfl⟩
          have x1 := hcell p (by omega)
          have x2 := hcell r (by omega)
          have hx1 : data[p]'(by omega) = data.getD (i + n) 0 := by simp [List.getD, hp, hiD]
          have hx2 : data[r]'(by omega) = data.getD (i + n - D) 0 := by
            have h9 : i + n - D < data.length := by omega
            simp [List.getD, hr, h9]
          have HN2 : Hid (mlM data i D = extM data i D (258 - (n + 1)) (n + 1)) := hid (by
            rw [HN.out, show 258 - n = (258 - (n + 1)) + 1 by omega, extM_step hiD hc3])
          rw [hc3] at hx1
          obtain ⟨x, hx⟩ : ∃ x, x = data.getD (i + n - D) 0 := ⟨_, rfl⟩
          rw [hx1, ← hx] at x1
          rw [hx2, ← hx] at x2
          have hpI : (i : Int) + (n : Int) = (p : Int) := by omega
          have hrI : (p : Int) - (D : Int) = (r : Int) := by omega
          have hpL : p < L := by omega
          have hrL : r < L := by omega
          have d1 : decide ((n : Int) < 258) = true := by simp; omega
          have d2 : decide ((p : Int) < (L : Int)) = true := by simp; omega
          have d2' : decide (p < L) = true := by simp; omega
          clear hcell hx1 hx2 hx hp hr hiD hc2 hc3
          go_wp2
          go_quiet (fail)
          go_wp2
          go_roundg (gk - 1)
          case measure => omega
          case rel => exact ⟨⟨_, rfl⟩, n + 1, by go_num, by omega, by omega, HN2⟩
        · have HM : Hid (mlM data i D = n) := hid (by
            rw [HN.out]
            by_cases h9 : n < 258
            · exact extM_stop (fun h8 => hc ⟨h9, by rw [HL.out]; exact h8.1, h8.2⟩)
            · have : n = 258 := by omega
              subst this
              rfl)
          have hb := HBS.out n HM.out
          have HT : Hid ((3 ≤ n ∧ l < n → bestM data i (D + 1 - 1) = (n, D)) ∧ (¬ (3 ≤ n ∧ l < n) → bestM data i (D + 1 - 1) = (l, d))) := hid (by rw [Nat.add_sub_cancel]; exact hb)
          have htl : (3 ≤ n ∧ l < n) ∨ n < 3 ∨ (3 ≤ n ∧ n ≤ l) := by omega
          clear hb
          by_cases hc1 : n < 258
          · have d1 : decide ((n : Int) < 258) = true := by simp; omega
            by_cases hc2 : i + n < L
            · have hiD : i + n < data.length := by rw [← HL.out]; exact hc2
              obtain ⟨b, o, hao, hcell⟩ := HSA.out (fun e => by rw [e] at hiD; simp at hiD)
              subst hao
              obtain ⟨p, hp⟩ : ∃ p, p = i + n := ⟨_, rfl⟩
              obtain ⟨r, hr⟩ : ∃ r, r = i + n - D := ⟨_, rfl⟩
              have x1 := hcell p (by omega)
              have x2 := hcell r (by omega)
              have hx1 : data[p]'(by omega) = data.getD (i + n) 0 := by simp [List.getD, hp, hiD]
              have hx2 : data[r]'(by omega) = data.getD (i + n - D) 0 := by
                have h9 : i + n - D < data.length := by omega
                simp [List.getD, hr, h9]
              obtain ⟨x, hx⟩ : ∃ x, x = data.getD (i + n) 0 := ⟨_, rfl⟩
              obtain ⟨y, hy⟩ : ∃ y, y = data.getD (i + n - D) 0 := ⟨_, rfl⟩
              have hne : ¬ x = y := fun e => hc ⟨hc1, hc2, by rw [← hx, ← hy, e]⟩
              have hxy : ((x : Int) == (y : Int)) = false := by simp; omega
              rw [hx1, ← hx] at x1
              rw [hx2, ← hy] at x2
              have hpI : (i : Int) + (n : Int) = (p : Int) := by omega
              have hrI : (p : Int) - (D : Int) = (r : Int) := by omega
              have hpL : p < L := by omega
              have hrL : r < L := by omega
              have d2 : decide ((p : Int) < (L : Int)) = true := by simp; omega
              have d2' : decide (p < L) = true := by simp; omega
              clear hcell hx1 hx2 hx hy hp hr hiD hc2 hc hne
              rcases htl with ⟨t1, t2⟩ | t1 | ⟨t1, t2⟩
              · have HB2 := hid (HT.out.1 ⟨t1, t2⟩)
                go_wp2
                go_quiet (fail)
                go_wp2
                go_roundg (G - 1)
                case measure => omega
                case rel => exact ⟨⟨_, rfl⟩, n, D, D + 1, rfl, rfl, by go_num, by omega, by omega, by omega, by omega, HB2⟩
              · have HB2 := hid (HT.out.2 (by omega))
                go_wp2
                go_quiet (fail)
                go_wp2
                go_roundg (G - 1)
                case measure => omega
                case rel => exact ⟨⟨_, rfl⟩, l, d, D + 1, rfl, rfl, by go_num, by omega, by omega, by omega, by omega, HB2⟩
              · have HB2 := hid (HT.out.2 (by omega))
                go_wp2
                go_quiet (fail)
                go_wp2
                go_roundg (G - 1)
                case measure => omega
                case rel => exact ⟨⟨_, rfl⟩, l, d, D + 1, rfl, rfl, by go_num, by omega, by omega, by omega, by omega, HB2⟩
            · obtain ⟨p, hp⟩ : ∃ p, p = i + n := ⟨_, rfl⟩
              have hpI : (i : Int) + (n : Int) = (p : Int) := by omega
              have d2 : decide ((p : Int) < (L : Int)) = false := by simp; omega
              have d2' : decide (p < L) = false := by simp; omega
              have hp5 : p ≤ 20000 := by omega
              clear hc2 hc hp
              rcases htl with ⟨t1, t2⟩ | t1 | ⟨t1, t2⟩
              · have HB2 := hid (HT.out.1 ⟨t1, t2⟩)
                go_wp2
                go_quiet (fail)
                go_wp2
                go_roundg (G - 1)
                case measure => omega
                case rel => exact ⟨⟨_, rfl⟩, n, D, D + 1, rfl, rfl, by go_num, by omega, by omega, by omega, by omega, HB2⟩
              · have HB2 := hid (HT.out.2 (by omega))
                go_wp2
                go_quiet (fail)
                go_wp2
                go_roundg (G - 1)
                case measure => omega
                case rel => exact ⟨⟨_, rfl⟩, l, d, D + 1, rfl, rfl, by go_num, by omega, by omega, by omega, by omega, HB2⟩
              · have HB2 := hid (HT.out.2 (by omega))
                go_wp2
                go_quiet (fail)
                go_wp2
                go_roundg (G - 1)
                case measure => omega
                case rel => exact ⟨⟨_, rfl⟩, l, d, D + 1, rfl, rfl, by go_num, by omega, by omega, by omega, by omega, HB2⟩
          · have d1 : decide ((n : Int) < 258) = false := by simp; omega
            have HB2 := hid (HT.out.1 (by omega))
            have t1 : 3 ≤ n := by omega
            have t2 : l < n := by omega
            clear hc htl
            go_wp2
            go_quiet (fail)
            go_wp2
            go_roundg (G - 1)
            case measure => omega
            case rel => exact ⟨⟨_, rfl⟩, n, D, D + 1, rfl, rfl, by go_num, by omega, by omega, by omega, by omega, HB2⟩
    · have HE : Hid (matM data i = (l, d)) := hid (by
        unfold matM
        by_cases h9 : D ≤ i
        · have hl258 : l = 258 := by omega
          have hb := bestM_full (data := data) (i := i) (k := D - 1) 258 (mlM_le data i) (by rw [HB.out, hl258]; exact Nat.le_refl _) (i - (D - 1))
          rw [show D - 1 + (i - (D - 1)) = i by omega] at hb
          rw [hb, HB.out]
        · have h8 := HB.out
          rw [show D - 1 = i by omega] at h8
          exact h8)
      by_cases h9 : D ≤ i
      · have hl258 : l = 258 := by omega
        subst hl258
        clear hgo
        go_wp2
        go_ret2
        exact ⟨by rw [HE.out]; rfl, _, rfl⟩
      · clear hgo
        go_wp2
        go_ret2
        exact ⟨by rw [HE.out]; rfl, _, rfl⟩

set_option maxRecDepth 100000 in
set_option maxHeartbeats 4000000 in
theorem rfind_any (w : World) (v : Value) (I : Nat → Prop) (data : List Nat) (hs : Src w I v data) (hlen : data.length ≤ 10000000) :
    Calls Tryz.prog 40 #[v] w fun e w' => ∃ v', e = .returned v' ∧ TkRow w.heap.size w' v' (findM data) ∧ Same w w' := by
  obtain ⟨ao, cap, rfl, _⟩ := id hs
  by_cases hbig : 16384 < data.length
  · have HE : Hid (findM data = []) := hid (by unfold findM; rw [if_pos hbig])
    obtain ⟨L, hL⟩ : ∃ L, L = data.length := ⟨_, rfl⟩
    rw [← hL] at hbig hlen ⊢
    clear hs hL
    go_enter Tryz.func40, Tryz.ntmps40
    go_wp2_with fail
    go_ret
    exact ⟨_, rfl, by rw [HE.out]; exact RowC.nil, Kept.refl _ _⟩
  · have HE : Hid (findM data = tokM data data.length 0) := hid (by unfold findM; rw [if_neg hbig])
    have HTL : Hid ((tokM data data.length 0).length ≤ 16384) := hid (by have := tokM_length data data.length 0; omega)
    obtain ⟨L, hL⟩ : ∃ L, L = data.length := ⟨_, rfl⟩
    rw [← hL] at hbig hlen hs HE HTL ⊢
    have HL := hid hL
    have HS := hid hs
    have hL16 : L ≤ 16384 := by omega
    clear hs hL hbig hlen
    go_enter Tryz.func40, Tryz.ntmps40
    go_wp2_with fail
    go_loopg [3, 4] L (fun q zo zi wr => ∃ (i k : Nat), zi = .int .i64 (i : Nat) ∧ L - i ≤ q ∧ i ≤ L ∧ Hid (k ≤ (tokM data L 0).length ∧ (tokM data L 0).drop k = tokM data (L - i) i) ∧ Hid (TkRow w.heap.size wr zo ((tokM data L 0).take k)) ∧ Hid (Same w wr))
    case atStart => exact ⟨0, 0, rfl, by omega, by omega, hid ⟨by omega, by simp⟩, hid (by simpa using RowC.nil), hid (Kept.refl _ _)⟩
    case round =>
      obtain ⟨i, k, rfl, hq, hi, HTK, HR, HK⟩ := hrel
      by_cases hlt : i < L
      · have H1 := rmatch_any wr _ _ data i (HS.out.kept HK.out (fun _ _ _ f => f)) (by have := HL.out; omega) (by have := HL.out; omega)
        obtain ⟨n0, d0, hm0⟩ : ∃ n0 d0, matM data i = (n0, d0) := ⟨_, _, rfl⟩
        obtain ⟨n1, d1, hm1⟩ : ∃ n1 d1, matM data (i + 1) = (n1, d1) := ⟨_, _, rfl⟩
        have HM0 := hid hm0
        have HM1 := hid hm1
        rw [hm0] at H1
        have hiD : i < data.length := by rw [← HL.out]; exact hlt
        obtain ⟨fu, hfu⟩ : ∃ f, L - i = f + 1 := ⟨L - i - 1, by omega⟩
        have hkN : k < (tokM data L 0).length := by
          refine Nat.lt_of_not_le (fun h9 => ?_)
          have h8 := HTK.out.2
          rw [List.drop_eq_nil_of_le h9, hfu] at h8
          by_cases hcc : (matM data i).1 = 0 ∨ (matM data i).1 < (matM data (i + 1)).1
          · rw [tokM_lit hiD hcc] at h8; cases h8
          · rw [tokM_copy hiD hcc] at h8; cases h8
        have hdrop := List.drop_eq_getElem_cons hkN
        obtain ⟨av, cv, hv, hsh, _⟩ := HR.out.shape
        obtain ⟨nv, hnv⟩ : ∃ n, n = ((tokM data L 0).take k).length := ⟨_, rfl⟩
        rw [← hnv] at hv
        subst hv
        have HNV : Hid (((tokM data L 0).take k).length + 1 ≤ 1000000000) := hid (by rw [List.length_take]; have := HTL.out; omega)
        have HKN := hid hkN
        clear hm0 hm1 hsh hnv
        by_cases hc : n0 = 0 ∨ n0 < n1
        · have htok : (tokM data L 0)[k] = ⟨data.getD i 0, 0, 0⟩ ∧ (tokM data L 0).drop (k + 1) = tokM data (L - (i + 1)) (i + 1) := by
            have h8 := HTK.out.2
            rw [hdrop, hfu, tokM_lit hiD (by rw [HM0.out, HM1.out]; exact hc), List.cons.injEq] at h8
            exact ⟨h8.1, by rw [h8.2, show fu = L - (i + 1) by omega]⟩
          have hcell : ∀ W, Same w W → ∃ b o, ao = some ⟨b, o, none⟩ ∧ W.cell? ⟨b, o + i, none⟩ = some (.int .u8 (data.getD i 0 : Nat)) := by
            intro W hk
            obtain ⟨ao', cap', e9, e2⟩ := HS.out.kept hk (fun _ _ _ f => f)
            injection e9 with e3 _ _
            subst e3
            obtain ⟨b, o, e4, _, e5⟩ := e2 (by intro e; rw [e] at hiD; simp at hiD)
            exact ⟨b, o, e4, by rw [e5 i hiD]; simp [List.getD, hiD]⟩
          have HCE := hid hcell
          obtain ⟨b, o, hao, _⟩ := hcell w (Kept.refl _ _)
          subst hao
          obtain ⟨x, hx⟩ : ∃ x, x = data.getD i 0 := ⟨_, rfl⟩
          rw [← hx] at htok HCE
          have HTA : Hid ((tokM data L 0).take (k + 1) = (tokM data L 0).take k ++ [⟨x, 0, 0⟩]) := hid (by rw [List.take_succ_eq_append_getElem hkN]; exact congrArg (fun t => (tokM data L 0).take k ++ [t]) htok.1)
          have HDR := hid htok.2
          have hcond : ((n0 : Int) == 0) = true ∨ (((n0 : Int) == 0) = false ∧ decide (n0 < n1) = true ∧ n0 < n1) := by
            by_cases h9 : n0 = 0
            · exact .inl (by simp [h9])
            · exact .inr ⟨by simp; omega, by simp; omega, by omega⟩
          clear htok hcell hx hdrop hfu hiD hc hkN
          go_wp2_with fail
          refine H1.mono ?_
          rintro e w1 ⟨rfl, m1, hw1⟩
          have hk1 : Same w w1 := by rw [hw1]; exact HK.out.drewN m1
          have H2 := rmatch_any w1 _ _ data (i + 1) (HS.out.kept hk1 (fun _ _ _ f => f)) (by have := HL.out; omega) (by have := HL.out; omega)
          rw [HM1.out, show ((i + 1 : Nat) : Int) = (i : Int) + 1 from by omega] at H2
          have HR1 : Hid (TkRow w.heap.size w1 (.slice av nv cv) ((tokM data L 0).take k)) := hid (RowC.kept HR.out (F := fun _ => False) (by rw [hw1]; exact (Kept.refl _ wr).drewN m1) (fun _ _ f => f))
          have HK1 := hid hk1
          clear hk1 hw1 H1
          go_wp2_with fail
          refine H2.mono ?_
          rintro e w2 ⟨rfl, m2, hw2⟩
          have hk2 : Same w w2 := by rw [hw2]; exact HK1.out.drewN m2
          have HR2 : Hid (TkRow w.heap.size w2 (.slice av nv cv) ((tokM data L 0).take k)) := hid (RowC.kept HR1.out (F := fun _ => False) (by rw [hw2]; exact (Kept.refl _ w1).drewN m2) (fun _ _ f => f))
          have HK2 := hid hk2
          obtain ⟨b', o', he', hcl⟩ := HCE.out w2 hk2
          simp only [Option.some.injEq, Addr.mk.injEq, and_true] at he'
          obtain ⟨rfl, rfl⟩ := he'
          clear hk2 hw2 H2 HR1 HK1 HR
          rcases hcond with hc1 | ⟨hc1, hc2, hc3⟩
          all_goals
            go_wp2_with (at_builtin; refine wpList_append_c _ tkC 3 tkC_ok (by decide) w.heap.size 31 33 (.agg #[.int .u8 0, .int .i64 0, .int .i64 0]) 24 Tryz.underlying31 Tryz.infoTk rfl (by decide) rfl (.tmp 37) (.tmp 43) rfl (.slice av nv cv) _ rfl (RowC.kept HR2.out ((Kept.refl (fun _ => False) w2).alloc _) (fun _ _ f => f)) ⟨w2.heap.size, 0, none⟩ 1 1 [⟨x, 0, 0⟩] rfl rfl (tk_new w2 ⟨x, 0, 0⟩) HNV.out (by have := HK2.out.size; simp; omega) ?_)
            intro v3 w3 hr3 hg3
            have HK3 : Hid (Same w w3) := hid ((HK2.out.alloc _).grown hg3 (fun j e => .inr (HR2.out.ge e)))
            have HR3 : Hid (TkRow w.heap.size w3 v3 ((tokM data L 0).take (k + 1))) := hid (by rw [HTA.out]; exact hr3)
            clear hr3 hg3 hcl
            go_wp2_with fail
            go_roundg (gk - 1)
            case measure => omega
            case rel => exact ⟨i + 1, k + 1, by go_num, by omega, by omega, hid ⟨HKN.out, HDR.out⟩, HR3, HK3⟩
        · have htok : (tokM data L 0)[k] = ⟨0, (n0 : Int), (d0 : Int)⟩ ∧ (tokM data L 0).drop (k + 1) = tokM data (L - (i + n0)) (i + n0) := by
            have h8 := HTK.out.2
            rw [hdrop, hfu, tokM_copy hiD (by rw [HM0.out, HM1.out]; exact hc), List.cons.injEq, HM0.out] at h8
            exact ⟨h8.1, by rw [h8.2]; exact tokM_fuel (by rw [← HL.out]; omega) (by rw [← HL.out]; omega)⟩
          have hin : i + n0 ≤ L := by
            rcases matM_cases data i with h9 | ⟨n, d, h9, _, _, _, _, h10, _⟩
            · rw [HM0.out] at h9; simp at h9; omega
            · rw [HM0.out] at h9; simp only [Prod.mk.injEq] at h9; rw [← HL.out] at h10; omega
          have HTA : Hid ((tokM data L 0).take (k + 1) = (tokM data L 0).take k ++ [⟨0, (n0 : Int), (d0 : Int)⟩]) := hid (by rw [List.take_succ_eq_append_getElem hkN]; exact congrArg (fun t => (tokM data L 0).take k ++ [t]) htok.1)
          have HDR := hid htok.2
          have hc1 : ((n0 : Int) == 0) = false := by simp; omega
          have hc2 : decide (n0 < n1) = false := by simp; omega
          have hc3 : ¬ n0 < n1 := by omega
          have hn1 : 1 ≤ n0 := by omega
          clear htok hdrop hfu hiD hc hkN
          go_wp2_with fail
          refine H1.mono ?_
          rintro e w1 ⟨rfl, m1, hw1⟩
          have hk1 : Same w w1 := by rw [hw1]; exact HK.out.drewN m1
          have H2 := rmatch_any w1 _ _ data (i + 1) (HS.out.kept hk1 (fun _ _ _ f => f)) (by have := HL.out; omega) (by have := HL.out; omega)
          rw [HM1.out, show ((i + 1 : Nat) : Int) = (i : Int) + 1 from by omega] at H2
          have HR1 : Hid (TkRow w.heap.size w1 (.slice av nv cv) ((tokM data L 0).take k)) := hid (RowC.kept HR.out (F := fun _ => False) (by rw [hw1]; exact (Kept.refl _ wr).drewN m1) (fun _ _ f => f))
          have HK1 := hid hk1
          clear hk1 hw1 H1
          go_wp2_with fail
          refine H2.mono ?_
          rintro e w2 ⟨rfl, m2, hw2⟩
          have hk2 : Same w w2 := by rw [hw2]; exact HK1.out.drewN m2
          have HR2 : Hid (TkRow w.heap.size w2 (.slice av nv cv) ((tokM data L 0).take k)) := hid (RowC.kept HR1.out (F := fun _ => False) (by rw [hw2]; exact (Kept.refl _ w1).drewN m2) (fun _ _ f => f))
          have HK2 := hid hk2
          clear hk2 hw2 H2 HR1 HK1 HR
          go_wp2_with (at_builtin; refine wpList_append_c _ tkC 3 tkC_ok (by decide) w.heap.size 31 33 (.agg #[.int .u8 0, .int .i64 0, .int .i64 0]) 24 Tryz.underlying31 Tryz.infoTk rfl (by decide) rfl (.tmp 47) (.tmp 51) rfl (.slice av nv cv) _ rfl (RowC.kept HR2.out ((Kept.refl (fun _ => False) w2).alloc _) (fun _ _ f => f)) ⟨w2.heap.size, 0, none⟩ 1 1 [⟨0, (n0 : Int), (d0 : Int)⟩] rfl rfl (tk_new w2 ⟨0, (n0 : Int), (d0 : Int)⟩) HNV.out (by have := HK2.out.size; simp; omega) ?_)
          intro v3 w3 hr3 hg3
          have HK3 : Hid (Same w w3) := hid ((HK2.out.alloc _).grown hg3 (fun j e => .inr (HR2.out.ge e)))
          have HR3 : Hid (TkRow w.heap.size w3 v3 ((tokM data L 0).take (k + 1))) := hid (by rw [HTA.out]; exact hr3)
          clear hr3 hg3
          go_wp2_with fail
          go_roundg (gk - n0)
          case measure => omega
          case rel => exact ⟨i + n0, k + 1, by go_num, by omega, by omega, hid ⟨HKN.out, HDR.out⟩, HR3, HK3⟩
      · have hiL : i = L := by omega
        have hkN : k = (tokM data L 0).length := by
          have h9 := congrArg List.length HTK.out.2
          rw [List.length_drop, tokM_end (Nat.le_of_eq (HL.out.symm.trans hiL.symm))] at h9
          rw [List.length_nil] at h9
          have := HTK.out.1
          omega
        have HF : Hid (TkRow w.heap.size wr u3 (tokM data L 0)) := hid (by have h9 := HR.out; rwa [hkN, List.take_length] at h9)
        clear hiL hkN
        go_wp2_with fail
        go_ret
        exact ⟨_, rfl, by rw [HE.out]; exact HF.out, HK.out⟩

end Go.Proofs.YtggcbnhckcenmaaGreatDoor
