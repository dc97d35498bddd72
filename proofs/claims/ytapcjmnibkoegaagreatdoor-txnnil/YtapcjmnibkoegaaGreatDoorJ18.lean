/-
  Of the proof: parts ChH.
-/
import Derived.Test.YtapcjmnibkoegaaGreatDoorJ17

/-
  Layer 12: an entry's chain, a new one if there was none.
-/
namespace Go.Proofs.YtapcjmnibkoegaaGreatDoor
open Go.RowKit Go.Maps Go.Sort

/-- What made tells. -/
def MdA (K N : Nat) (w : World) (p : Nat) (s : Cs) (ρ : Nat → Nat) (mb : Nat) (b : Bx) (n : Nm) (e : Ending) (w' : World) : Prop :=
  ∃ c s' ρ', e = .returned (.pointer (some ⟨c, 0, none⟩)) ∧ Ck K N w' p s' ρ' mb ∧ fndC s' b n = some c ∧ (∀ b' n', vers s' b' n' = vers s b' n') ∧ s'.now = s.now ∧ s'.floor = s.floor ∧ ExtC w ρ ρ' ∧ Kept (fun k => ρ k ≠ 0) w w'

section
variable {K N : Nat} {w : World} {p : Nat} {s : Cs} {ρ : Nat → Nat} {mb : Nat}

theorem Ck.mapB (h : Ck K N w p s ρ mb) (b : Bx) (m : Nat) : ∃ w', (Instr.mapUpdate 140 (.map (some mb)) (.agg #[.string b.tn, .string b.ar]) (.map (some m))).run Tryz.prog w = .ok () w' ∧ MpK 128 mpC kB w' mb (putK kB b m s.bx) ∧ Kept (· = mb) w w' :=
  h.bm.put klB rdM boxKey 140 176 Tryz.underlying140 b (bxV b) (keyB b) (by have := h.lens; have := h.big; omega) m

theorem Ck.mapN (h : Ck K N w p s ρ mb) {a : Nat} (ha : ρ a = 3) (n : Nm) (c : Nat) : ∃ w', (Instr.mapUpdate 176 (.map (some a)) (.string n.s) (.pointer (some ⟨c, 0, none⟩))).run Tryz.prog w = .ok () w' ∧ MpK 9 ptC kN w' a (putK kN n c (s.ar a)) ∧ Kept (· = a) w w' :=
  (h.am a ha).put klN rdP nameKey 176 143 Tryz.underlying176 n (nmV n) (keyN n) (by have := h.lens.2.1 a ha; have := h.big; omega) c

end

theorem eqMn (w : World) : (binOp .eql 176 (.map none) (.map none)).run Tryz.prog w = .ok (.bool true) w := by kernel_rfl
theorem eqMs (w : World) (a : Nat) : (binOp .eql 176 (.map (some a)) (.map none)).run Tryz.prog w = .ok (.bool false) w := by kernel_rfl

set_option maxRecDepth 100000 in
set_option maxHeartbeats 2000000 in
theorem made_any {K N : Nat} {w : World} {p : Nat} {s : Cs} {ρ : Nat → Nat} {mb : Nat} (h : Ck K N w p s ρ mb) (hN : N ≤ w.heap.size) (hK : K + 2 ≤ 100000) (b : Bx) (n : Nm) :
    Calls Tryz.prog 77 #[.pointer (some ⟨p, 0, none⟩), .agg #[.string b.tn, .string b.ar, .string n.s]] w fun e w' => MdA (K + 2) N w p s ρ mb b n e w' := by
  obtain ⟨wA, hwA⟩ : ∃ W, W = w.alloc (.cells #[.string b.tn, .string b.ar, .string n.s] 63) := ⟨_, rfl⟩
  have hka : Same w wA := by rw [hwA]; exact (Kept.refl _ w).alloc _
  obtain ⟨xb, hxb⟩ : ∃ x, x = w.heap.size := ⟨_, rfl⟩
  have BA : Hid (Blk wA xb #[.string b.tn, .string b.ar, .string n.s] 63) := hid (by rw [hwA, hxb]; exact Blk.new w _ _)
  have HKA : Hid (Same w wA) := hka
  have HC : Hid (Ck K N w p s ρ mb) := h
  have HB := boxOf_any wA b.tn b.ar n.s
  have HQ : Hid (N ≤ w.heap.size ∧ K + 1 ≤ 100000 ∧ xb = w.heap.size ∧ K + 2 ≤ 100000) := hid ⟨hN, by omega, hxb, hK⟩
  have hmm := @run_makeMap Tryz.prog
  have em0 := eqMn
  have em1 := eqMs
  clear h hka hN hK
  go_enter Tryz.func77, Tryz.ntmps77
  go_wp2_with fail
  rw [← hwA, ← hxb]
  clear hwA hxb
  refine HB.mono ?_
  rintro e w1 ⟨rfl, hk1⟩
  clear HB
  obtain ⟨w2, hw2⟩ : ∃ W, W = w1.alloc (.cells #[.string b.tn, .string b.ar] 128) := ⟨_, rfl⟩
  have hk2 : Same w w2 := by rw [hw2]; exact (HKA.out.trans hk1).alloc _
  obtain ⟨yb, hyb⟩ : ∃ x, x = w1.heap.size := ⟨_, rfl⟩
  have HK2 : Hid (Same w w2) := hk2
  have HC2 : Hid (Ck K N w2 p s ρ mb) := hid (HC.out.same hk2)
  have B2 : Hid (Blk w2 xb #[.string b.tn, .string b.ar, .string n.s] 63) := hid (by rw [hw2]; exact (BA.out.kept hk1 (fun f => f)).kept (F := fun _ => False) ((Kept.refl _ _).alloc _) (fun f => f))
  have B3 : Hid (Blk w2 yb #[.string b.tn, .string b.ar] 128) := hid (by rw [hw2, hyb]; exact Blk.new w1 _ _)
  have HLT : Hid (xb < w2.heap.size ∧ yb < w2.heap.size ∧ w.heap.size ≤ xb ∧ w.heap.size ≤ yb ∧ p < w.heap.size) := hid ⟨B2.out.lt, B3.out.lt, by rw [HQ.out.2.2.1]; exact Nat.le_refl _, by rw [hyb]; exact (HKA.out.trans hk1).size, HC.out.blk.lt⟩
  go_upto_region 2 with fail
  rw [← hw2, ← hyb]
  clear hw2 hyb hk1 hk2
  have p2 : w2.cell? ⟨p, 2, none⟩ = some (.map (some mb)) := HC2.out.blk.cell 2
  have y0 := B3.out.cell 0
  have y1 := B3.out.cell 1
  have x2 := B2.out.cell 2
  simp at y0 y1 x2
  have l1 := (HC2.out.same (w' := w2.drew) (Kept.refl _ w2).drew).look1 b
  have l2 := (HC2.out.same (w' := w2.drew) (Kept.refl _ w2).drew).look2 b n
  obtain ⟨oa, hoa⟩ : ∃ o, o = getK b s.bx := ⟨_, rfl⟩
  rw [← hoa] at l1 l2
  have HOA : Hid (oa = getK b s.bx) := hoa
  clear hoa
  have HG : Hid (getK b s.bx = oa) := hid HOA.out.symm
  clear HOA
  have HMain : Hid (oa = none ∨ ∃ a, oa = some a) := hid (by cases oa; exact .inl rfl; exact .inr ⟨_, rfl⟩)
  by_cases hfull : ∃ c, fndC s b n = some c
  · -- the chain is there
    obtain ⟨c, hc⟩ := hfull
    obtain ⟨a, rfl⟩ : ∃ a, oa = some a := by
      rcases HMain.out with e | e
      · unfold fndC at hc; rw [HG.out, e] at hc; cases hc
      · exact e
    rw [hc] at l2
    unfold ptO at l2
    simp only [Option.map_some] at l2
    have l1b := (HC2.out.same (w' := w2.drew.drew) (Kept.refl _ w2).drew.drew).look1 b
    have l2b := (HC2.out.same (w' := w2.drew.drew) (Kept.refl _ w2).drew.drew).look2 b n
    have l1c := (HC2.out.same (w' := w2.drew.drew.drew) (Kept.refl _ w2).drew.drew.drew).look1 b
    have l2c := (HC2.out.same (w' := w2.drew.drew.drew) (Kept.refl _ w2).drew.drew.drew).look2 b n
    rw [HG.out] at l1b l2b l1c l2c
    rw [hc] at l2b l2c
    unfold ptO at l2b l2c
    simp only [Option.map_some] at l2b l2c
    have HFC : Hid (fndC s b n = some c) := hc
    clear hc
    go_region
    go_upto_region 4 with fail
    go_region
    go_upto_region 6 with fail
    go_region
    go_wp2_with fail
    go_ret
    exact ⟨c, s, ρ, rfl, (HC2.out.same (Kept.refl _ w2).drew.drew.drew).more (by omega) (by have := HQ.out; omega), HFC.out, fun _ _ => rfl, rfl, rfl, ExtC.refl _ _, (HK2.out.mono (fun _ _ f => f.elim)).drew.drew.drew⟩
  have HNF : Hid (fndC s b n = none) := hid (by cases hf : fndC s b n with | none => rfl | some c => exact absurd ⟨c, hf⟩ hfull)
  clear hfull
  have HAFT : Hid (oa = none ∨ ∃ a, oa = some a) := HMain
  rcases HMain.out with e | ⟨a, e⟩
  · -- no archive yet
    subst e
    go_region
    go_upto_region 3 with fail
    obtain ⟨w3, hw3⟩ : ∃ W, W = w2.drew := ⟨_, rfl⟩
    have HS3 : Hid (Same w w3) := hid (by rw [hw3]; exact HK2.out.drew)
    have HC3 : Hid (Ck K N w3 p s ρ mb) := hid (by rw [hw3]; exact HC2.out.same (Kept.refl _ w2).drew)
    have B23 : Hid (Blk w3 xb #[.string b.tn, .string b.ar, .string n.s] 63) := hid (by rw [hw3]; exact B2.out)
    have B33 : Hid (Blk w3 yb #[.string b.tn, .string b.ar] 128) := hid (by rw [hw3]; exact B3.out)
    rw [← hw3]
    clear hw3 p2 y0 y1 x2 l1 l2
    obtain ⟨m, hm⟩ : ∃ m, m = w3.heap.size := ⟨_, rfl⟩
    obtain ⟨w4, hup, hmb, hk4⟩ := (HC3.out.same (w' := (w3.alloc (.map #[] 0)).drew) ((Kept.refl _ w3).alloc _).drew).mapB b m
    have p2 : w3.cell? ⟨p, 2, none⟩ = some (.map (some mb)) := HC3.out.blk.cell 2
    have y0 := B33.out.cell 0
    have y1 := B33.out.cell 1
    simp at y0 y1
    have hsA : Same w3 (w3.alloc (.map #[] 0)) := (Kept.refl _ _).alloc _
    have p2a := hsA.cell p2 (fun f => f)
    have y0a := hsA.cell y0 (fun f => f)
    have y1a := hsA.cell y1 (fun f => f)
    rw [hm] at hup
    have HM : Hid (m = w3.heap.size) := hm
    have HUP := hid (And.intro hmb hk4)
    clear hsA hm hmb hk4
    go_region
    go_upto_region 4 with fail
    obtain ⟨s1, hs1⟩ : ∃ x, x = addA s b m := ⟨_, rfl⟩
    obtain ⟨ρ1, hρ1⟩ : ∃ x : Nat → Nat, x = fun k => if k = m then 3 else ρ k := ⟨_, rfl⟩
    have hk34 : Kept (· = mb) w3 w4 := Kept.trans (F := fun _ => False) ((Kept.refl _ w3).alloc _).drew HUP.out.2 (fun _ _ f => False.elim f) (fun _ _ e => e)
    have hN3 : N ≤ w3.heap.size := Nat.le_trans HQ.out.1 HS3.out.size
    have hmp : MpK 9 ptC kN w4 m [] := by
      have h1 : MpK 9 ptC kN (w3.alloc (.map #[] 0)).drew w3.heap.size [] := MpK.new w3
      rw [HM.out]
      exact h1.kept HUP.out.2 (fun e => by have := HC3.out.bm.lt; omega)
    have HCk : Hid (Ck (K + 1) N w4 p s1 ρ1 mb) := hid (by rw [hs1, hρ1]; exact HC3.out.addArc HG.out hN3 (by rw [HM.out]; exact Nat.le_refl _) hmp HUP.out.1 hk34 HQ.out.2.1)
    have HGk : Hid (getK b s1.bx = some m ∧ ∀ b' n', fndC s1 b' n' = fndC s b' n') := hid ⟨by rw [hs1]; show getK b (putK kB b m s.bx) = some m; rw [getK_put HC3.out.apb, if_pos rfl], fun b' n' => by rw [hs1]; exact addA_fnd HC3.out HG.out (by rw [HM.out]; exact Nat.le_refl _) b' n'⟩
    have HVk : Hid ((∀ b' n', vers s1 b' n' = vers s b' n') ∧ s1.now = s.now ∧ s1.floor = s.floor) := hid ⟨fun b' n' => by unfold vers; rw [HGk.out.2, hs1]; rfl, by rw [hs1]; rfl, by rw [hs1]; rfl⟩
    have HEk : Hid (ExtC w ρ ρ1) := hid (by
      rw [hρ1]
      intro k
      by_cases e : k = m
      · refine .inr ⟨by rw [e, HM.out]; exact HS3.out.size, ?_⟩
        cases hz : ρ k with
        | zero => rfl
        | succ q => have := (HC.out.new k (by omega)).2; have := HM.out; have := HS3.out.size; omega
      · exact .inl (if_neg e))
    have HKk : Hid (Kept (fun k => ρ k ≠ 0) w w4) := hid (Kept.trans HS3.out hk34 (fun _ _ f => False.elim f) (fun k _ e => by rw [e, HC.out.rm]; decide))
    have Bxk : Hid (Blk w4 xb #[.string b.tn, .string b.ar, .string n.s] 63) := hid (B23.out.kept hk34 (fun e => by have := HLT.out; have := HC.out.bm.lt; omega))
    have Byk : Hid (Blk w4 yb #[.string b.tn, .string b.ar] 128) := hid (B33.out.kept hk34 (fun e => by have := HLT.out; have := HC.out.bm.lt; omega))
    obtain ⟨a, ha⟩ : ∃ a, a = m := ⟨_, rfl⟩
    rw [← ha] at HGk
    clear hs1 hρ1 hk34 hN3 hmp p2 p2a y0 y0a y1 y1a hup ha HUP HM HC3 B23 B33 HS3
    as_aux_lemma =>
      have HNk : Hid (fndC s1 b n = none) := hid (by rw [HGk.out.2]; exact HNF.out)
      have hg2 : getK n (s1.ar a) = none := by have h1 := HNk.out; unfold fndC at h1; rw [HGk.out.1] at h1; exact h1
      have ha3 : ρ1 a = 3 := HCk.out.ba _ (getK_mem HGk.out.1)
      have p2 : w4.cell? ⟨p, 2, none⟩ = some (.map (some mb)) := HCk.out.blk.cell 2
      have y0 := Byk.out.cell 0
      have y1 := Byk.out.cell 1
      have x2 := Bxk.out.cell 2
      simp at y0 y1 x2
      have l1 := (HCk.out.same (w' := w4.drew) (Kept.refl _ w4).drew).look1 b
      have l2 := (HCk.out.same (w' := w4.drew) (Kept.refl _ w4).drew).look2 b n
      rw [HGk.out.1] at l1 l2
      rw [HNk.out] at l2
      unfold ptO at l2
      simp only [Option.map_none] at l2
      have HG2 := hid hg2
      have HA3 := hid ha3
      clear hg2 ha3
      go_region
      go_upto_region 5 with fail
      as_aux_lemma =>
        obtain ⟨w5, hw5⟩ : ∃ W, W = w4.drew := ⟨_, rfl⟩
        have HC5 : Hid (Ck (K + 1) N w5 p s1 ρ1 mb) := hid (by rw [hw5]; exact HCk.out.same (Kept.refl _ w4).drew)
        have HK5 : Hid (Kept (fun k => ρ k ≠ 0) w w5) := hid (by rw [hw5]; exact HKk.out.drew)
        have Bx5 : Hid (Blk w5 xb #[.string b.tn, .string b.ar, .string n.s] 63) := hid (by rw [hw5]; exact Bxk.out)
        have By5 : Hid (Blk w5 yb #[.string b.tn, .string b.ar] 128) := hid (by rw [hw5]; exact Byk.out)
        rw [← hw5]
        clear hw5 p2 y0 y1 x2 l1 l2
        obtain ⟨c, hc⟩ : ∃ m, m = w5.heap.size := ⟨_, rfl⟩
        obtain ⟨w6, hup, hmb, hk6⟩ := (HC5.out.same (w' := (w5.alloc (.cells #[.slice none 0 0] 202)).drew) ((Kept.refl _ w5).alloc _).drew).mapN HA3.out n c
        have p2 : w5.cell? ⟨p, 2, none⟩ = some (.map (some mb)) := HC5.out.blk.cell 2
        have y0 := By5.out.cell 0
        have y1 := By5.out.cell 1
        have x2 := Bx5.out.cell 2
        simp at y0 y1 x2
        have hsA : Same w5 (w5.alloc (.cells #[.slice none 0 0] 202)) := (Kept.refl _ _).alloc _
        have p2a := hsA.cell p2 (fun f => f)
        have y0a := hsA.cell y0 (fun f => f)
        have y1a := hsA.cell y1 (fun f => f)
        have x2a := hsA.cell x2 (fun f => f)
        have l1 := (HC5.out.same (w' := w5.drew) (Kept.refl _ w5).drew).look1 b
        have l1a := (HC5.out.same (w' := (w5.alloc (.cells #[.slice none 0 0] 202)).drew) ((Kept.refl _ w5).alloc _).drew).look1 b
        rw [HGk.out.1] at l1 l1a
        rw [hc] at hup
        have HM : Hid (c = w5.heap.size) := hc
        have HUP := hid (And.intro hmb hk6)
        clear hsA hc hmb hk6
        go_region
        go_upto_region 6 with fail
        as_aux_lemma =>
          have hk56 : Kept (· = a) w5 w6 := Kept.trans (F := fun _ => False) ((Kept.refl _ w5).alloc _).drew HUP.out.2 (fun _ _ f => False.elim f) (fun _ _ e => e)
          have hN5 : N ≤ w5.heap.size := Nat.le_trans HQ.out.1 HK5.out.size
          have hal : a < w5.heap.size := (HC5.out.new a (by rw [HA3.out]; decide)).2
          have hbc : Blk w6 c #[.slice none 0 0] 202 := by
            rw [HM.out]
            exact Blk.kept (Blk.new w5 #[.slice none 0 0] 202) (F := (· = a)) HUP.out.2.undrewC (fun e => by omega)
          have HC6 : Hid (Ck (K + 2) N w6 p (addC s1 a n c) (fun k => if k = c then 4 else ρ1 k) mb) := hid (HC5.out.addCh HA3.out hN5 (by rw [HM.out]; exact Nat.le_refl _) hbc HUP.out.1 hk56 HQ.out.2.2.2)
          have HF6 : Hid (fndC (addC s1 a n c) b n = some c) := hid (by rw [addC_fnd HC5.out HGk.out.1, if_pos ⟨rfl, rfl⟩])
          have HGc : Hid (getK b (addC s1 a n c).bx = some a) := hid HGk.out.1
          have Bx6 : Hid (Blk w6 xb #[.string b.tn, .string b.ar, .string n.s] 63) := hid (Bx5.out.kept hk56 (fun e => by
            rcases HEk.out a with h1 | h1
            · have := (HC.out.new a (by rw [← h1, HA3.out]; decide)).2; have := HLT.out; omega
            · have h3 := HCk.out.new a (by rw [HA3.out]; decide)
              have e2 := HCk.out.am a HA3.out
              rw [← e] at e2
              obtain ⟨es, cl, e4, _⟩ := e2
              have e5 := Bxk.out
              unfold Blk at e5
              rw [e4] at e5
              cases e5))
          have By6 : Hid (Blk w6 yb #[.string b.tn, .string b.ar] 128) := hid (By5.out.kept hk56 (fun e => by
            rcases HEk.out a with h1 | h1
            · have := (HC.out.new a (by rw [← h1, HA3.out]; decide)).2; have := HLT.out; omega
            · have e2 := HCk.out.am a HA3.out
              rw [← e] at e2
              obtain ⟨es, cl, e4, _⟩ := e2
              have e5 := Byk.out
              unfold Blk at e5
              rw [e4] at e5
              cases e5))
          have HFin : Hid ((∀ b' n', vers (addC s1 a n c) b' n' = vers s b' n') ∧ (addC s1 a n c).now = s.now ∧ (addC s1 a n c).floor = s.floor ∧ ExtC w ρ (fun k => if k = c then 4 else ρ1 k) ∧ Kept (fun k => ρ k ≠ 0) w w6) := hid ⟨fun b' n' => (addC_vers HC5.out HGk.out.1 HG2.out (by rw [HM.out]; exact Nat.le_refl _) b' n').trans (HVk.out.1 b' n'), HVk.out.2.1, HVk.out.2.2, (fun k => by
              by_cases e : k = c
              · refine .inr ⟨by rw [e, HM.out]; exact HK5.out.size, ?_⟩
                cases hz : ρ k with
                | zero => rfl
                | succ q => have := (HC.out.new k (by omega)).2; have := HM.out; have := HK5.out.size; omega
              · show (if k = c then 4 else ρ1 k) = ρ k ∨ _
                rw [if_neg e]
                exact HEk.out k), Kept.trans HK5.out hk56 (fun _ _ e => e) (fun k hlt e => by
              rcases HEk.out a with h1 | h1
              · rw [e, ← h1, HA3.out]; decide
              · rw [e] at hlt; omega)⟩
          obtain ⟨s6, ρ6, HC6', HF6', HGc', HFin'⟩ : ∃ s6 ρ6, Hid (Ck (K + 2) N w6 p s6 ρ6 mb) ∧ Hid (fndC s6 b n = some c) ∧ Hid (getK b s6.bx = some a) ∧ Hid ((∀ b' n', vers s6 b' n' = vers s b' n') ∧ s6.now = s.now ∧ s6.floor = s.floor ∧ ExtC w ρ ρ6 ∧ Kept (fun k => ρ k ≠ 0) w w6) := ⟨_, _, HC6, HF6, HGc, HFin⟩
          clear HC6 HF6 HGc HFin
          clear p2 p2a y0 y0a y1 y1a x2 x2a l1 l1a hup hk56 hN5 hal hbc HC5 HK5 Bx5 By5 HUP HM HCk HGk HVk HEk HKk Bxk Byk HNk HG2 HA3
          have p2 : w6.cell? ⟨p, 2, none⟩ = some (.map (some mb)) := HC6'.out.blk.cell 2
          have y0 := By6.out.cell 0
          have y1 := By6.out.cell 1
          have x2 := Bx6.out.cell 2
          simp at y0 y1 x2
          have l1 := (HC6'.out.same (w' := w6.drew) (Kept.refl _ w6).drew).look1 b
          have l2 := (HC6'.out.same (w' := w6.drew) (Kept.refl _ w6).drew).look2 b n
          rw [HGc'.out] at l1 l2
          rw [HF6'.out] at l2
          unfold ptO at l2
          simp only [Option.map_some] at l2
          go_region
          go_wp2_with fail
          go_ret
          exact ⟨c, s6, ρ6, rfl, HC6'.out.same (Kept.refl _ w6).drew, HF6'.out, HFin'.out.1, HFin'.out.2.1, HFin'.out.2.2.1, HFin'.out.2.2.2.1, HFin'.out.2.2.2.2.drew⟩
  · subst e
    go_region
    go_upto_region 4 with fail
    obtain ⟨w4, hw4⟩ : ∃ W, W = w2.drew := ⟨_, rfl⟩
    have HCk : Hid (Ck (K + 1) N w4 p s ρ mb) := hid (by rw [hw4]; exact (HC2.out.same (Kept.refl _ w2).drew).more (by omega) HQ.out.2.1)
    have HGk : Hid (getK b s.bx = some a ∧ ∀ b' n', fndC s b' n' = fndC s b' n') := hid ⟨HG.out, fun _ _ => rfl⟩
    have HVk : Hid ((∀ b' n', vers s b' n' = vers s b' n') ∧ s.now = s.now ∧ s.floor = s.floor) := hid ⟨fun _ _ => rfl, rfl, rfl⟩
    have HEk : Hid (ExtC w ρ ρ) := hid (ExtC.refl _ _)
    have HKk : Hid (Kept (fun k => ρ k ≠ 0) w w4) := hid (by rw [hw4]; exact (HK2.out.mono (fun _ _ f => f.elim)).drew)
    have Bxk : Hid (Blk w4 xb #[.string b.tn, .string b.ar, .string n.s] 63) := hid (by rw [hw4]; exact B2.out)
    have Byk : Hid (Blk w4 yb #[.string b.tn, .string b.ar] 128) := hid (by rw [hw4]; exact B3.out)
    rw [← hw4]
    clear hw4 p2 y0 y1 x2 l1 l2
    as_aux_lemma =>
      have HNk : Hid (fndC s b n = none) := hid (by rw [HGk.out.2]; exact HNF.out)
      have hg2 : getK n (s.ar a) = none := by have h1 := HNk.out; unfold fndC at h1; rw [HGk.out.1] at h1; exact h1
      have ha3 : ρ a = 3 := HCk.out.ba _ (getK_mem HGk.out.1)
      have p2 : w4.cell? ⟨p, 2, none⟩ = some (.map (some mb)) := HCk.out.blk.cell 2
      have y0 := Byk.out.cell 0
      have y1 := Byk.out.cell 1
      have x2 := Bxk.out.cell 2
      simp at y0 y1 x2
      have l1 := (HCk.out.same (w' := w4.drew) (Kept.refl _ w4).drew).look1 b
      have l2 := (HCk.out.same (w' := w4.drew) (Kept.refl _ w4).drew).look2 b n
      rw [HGk.out.1] at l1 l2
      rw [HNk.out] at l2
      unfold ptO at l2
      simp only [Option.map_none] at l2
      have HG2 := hid hg2
      have HA3 := hid ha3
      clear hg2 ha3
      go_region
      go_upto_region 5 with fail
      as_aux_lemma =>
        obtain ⟨w5, hw5⟩ : ∃ W, W = w4.drew := ⟨_, rfl⟩
        have HC5 : Hid (Ck (K + 1) N w5 p s ρ mb) := hid (by rw [hw5]; exact HCk.out.same (Kept.refl _ w4).drew)
        have HK5 : Hid (Kept (fun k => ρ k ≠ 0) w w5) := hid (by rw [hw5]; exact HKk.out.drew)
        have Bx5 : Hid (Blk w5 xb #[.string b.tn, .string b.ar, .string n.s] 63) := hid (by rw [hw5]; exact Bxk.out)
        have By5 : Hid (Blk w5 yb #[.string b.tn, .string b.ar] 128) := hid (by rw [hw5]; exact Byk.out)
        rw [← hw5]
        clear hw5 p2 y0 y1 x2 l1 l2
        obtain ⟨c, hc⟩ : ∃ m, m = w5.heap.size := ⟨_, rfl⟩
        obtain ⟨w6, hup, hmb, hk6⟩ := (HC5.out.same (w' := (w5.alloc (.cells #[.slice none 0 0] 202)).drew) ((Kept.refl _ w5).alloc _).drew).mapN HA3.out n c
        have p2 : w5.cell? ⟨p, 2, none⟩ = some (.map (some mb)) := HC5.out.blk.cell 2
        have y0 := By5.out.cell 0
        have y1 := By5.out.cell 1
        have x2 := Bx5.out.cell 2
        simp at y0 y1 x2
        have hsA : Same w5 (w5.alloc (.cells #[.slice none 0 0] 202)) := (Kept.refl _ _).alloc _
        have p2a := hsA.cell p2 (fun f => f)
        have y0a := hsA.cell y0 (fun f => f)
        have y1a := hsA.cell y1 (fun f => f)
        have x2a := hsA.cell x2 (fun f => f)
        have l1 := (HC5.out.same (w' := w5.drew) (Kept.refl _ w5).drew).look1 b
        have l1a := (HC5.out.same (w' := (w5.alloc (.cells #[.slice none 0 0] 202)).drew) ((Kept.refl _ w5).alloc _).drew).look1 b
        rw [HGk.out.1] at l1 l1a
        rw [hc] at hup
        have HM : Hid (c = w5.heap.size) := hc
        have HUP := hid (And.intro hmb hk6)
        clear hsA hc hmb hk6
        go_region
        go_upto_region 6 with fail
        as_aux_lemma =>
          have hk56 : Kept (· = a) w5 w6 := Kept.trans (F := fun _ => False) ((Kept.refl _ w5).alloc _).drew HUP.out.2 (fun _ _ f => False.elim f) (fun _ _ e => e)
          have hN5 : N ≤ w5.heap.size := Nat.le_trans HQ.out.1 HK5.out.size
          have hal : a < w5.heap.size := (HC5.out.new a (by rw [HA3.out]; decide)).2
          have hbc : Blk w6 c #[.slice none 0 0] 202 := by
            rw [HM.out]
            exact Blk.kept (Blk.new w5 #[.slice none 0 0] 202) (F := (· = a)) HUP.out.2.undrewC (fun e => by omega)
          have HC6 : Hid (Ck (K + 2) N w6 p (addC s a n c) (fun k => if k = c then 4 else ρ k) mb) := hid (HC5.out.addCh HA3.out hN5 (by rw [HM.out]; exact Nat.le_refl _) hbc HUP.out.1 hk56 HQ.out.2.2.2)
          have HF6 : Hid (fndC (addC s a n c) b n = some c) := hid (by rw [addC_fnd HC5.out HGk.out.1, if_pos ⟨rfl, rfl⟩])
          have HGc : Hid (getK b (addC s a n c).bx = some a) := hid HGk.out.1
          have Bx6 : Hid (Blk w6 xb #[.string b.tn, .string b.ar, .string n.s] 63) := hid (Bx5.out.kept hk56 (fun e => by
            rcases HEk.out a with h1 | h1
            · have := (HC.out.new a (by rw [← h1, HA3.out]; decide)).2; have := HLT.out; omega
            · have h3 := HCk.out.new a (by rw [HA3.out]; decide)
              have e2 := HCk.out.am a HA3.out
              rw [← e] at e2
              obtain ⟨es, cl, e4, _⟩ := e2
              have e5 := Bxk.out
              unfold Blk at e5
              rw [e4] at e5
              cases e5))
          have By6 : Hid (Blk w6 yb #[.string b.tn, .string b.ar] 128) := hid (By5.out.kept hk56 (fun e => by
            rcases HEk.out a with h1 | h1
            · have := (HC.out.new a (by rw [← h1, HA3.out]; decide)).2; have := HLT.out; omega
            · have e2 := HCk.out.am a HA3.out
              rw [← e] at e2
              obtain ⟨es, cl, e4, _⟩ := e2
              have e5 := Byk.out
              unfold Blk at e5
              rw [e4] at e5
              cases e5))
          have HFin : Hid ((∀ b' n', vers (addC s a n c) b' n' = vers s b' n') ∧ (addC s a n c).now = s.now ∧ (addC s a n c).floor = s.floor ∧ ExtC w ρ (fun k => if k = c then 4 else ρ k) ∧ Kept (fun k => ρ k ≠ 0) w w6) := hid ⟨fun b' n' => (addC_vers HC5.out HGk.out.1 HG2.out (by rw [HM.out]; exact Nat.le_refl _) b' n').trans (HVk.out.1 b' n'), HVk.out.2.1, HVk.out.2.2, (fun k => by
              by_cases e : k = c
              · refine .inr ⟨by rw [e, HM.out]; exact HK5.out.size, ?_⟩
                cases hz : ρ k with
                | zero => rfl
                | succ q => have := (HC.out.new k (by omega)).2; have := HM.out; have := HK5.out.size; omega
              · show (if k = c then 4 else ρ k) = ρ k ∨ _
                rw [if_neg e]
                exact HEk.out k), Kept.trans HK5.out hk56 (fun _ _ e => e) (fun k hlt e => by
              rcases HEk.out a with h1 | h1
              · rw [e, ← h1, HA3.out]; decide
              · rw [e] at hlt; omega)⟩
          obtain ⟨s6, ρ6, HC6', HF6', HGc', HFin'⟩ : ∃ s6 ρ6, Hid (Ck (K + 2) N w6 p s6 ρ6 mb) ∧ Hid (fndC s6 b n = some c) ∧ Hid (getK b s6.bx = some a) ∧ Hid ((∀ b' n', vers s6 b' n' = vers s b' n') ∧ s6.now = s.now ∧ s6.floor = s.floor ∧ ExtC w ρ ρ6 ∧ Kept (fun k => ρ k ≠ 0) w w6) := ⟨_, _, HC6, HF6, HGc, HFin⟩
          clear HC6 HF6 HGc HFin
          clear p2 p2a y0 y0a y1 y1a x2 x2a l1 l1a hup hk56 hN5 hal hbc HC5 HK5 Bx5 By5 HUP HM HCk HGk HVk HEk HKk Bxk Byk HNk HG2 HA3
          have p2 : w6.cell? ⟨p, 2, none⟩ = some (.map (some mb)) := HC6'.out.blk.cell 2
          have y0 := By6.out.cell 0
          have y1 := By6.out.cell 1
          have x2 := Bx6.out.cell 2
          simp at y0 y1 x2
          have l1 := (HC6'.out.same (w' := w6.drew) (Kept.refl _ w6).drew).look1 b
          have l2 := (HC6'.out.same (w' := w6.drew) (Kept.refl _ w6).drew).look2 b n
          rw [HGc'.out] at l1 l2
          rw [HF6'.out] at l2
          unfold ptO at l2
          simp only [Option.map_some] at l2
          go_region
          go_wp2_with fail
          go_ret
          exact ⟨c, s6, ρ6, rfl, HC6'.out.same (Kept.refl _ w6).drew, HF6'.out, HFin'.out.1, HFin'.out.2.1, HFin'.out.2.2.1, HFin'.out.2.2.2.1, HFin'.out.2.2.2.2.drew⟩

end Go.Proofs.YtapcjmnibkoegaaGreatDoor
