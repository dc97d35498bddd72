/-
  Of the proof: parts LnStep, LnRead, LnWrM, LnStepsM, LnPgM, LnShape, LnIdx, LnReadW.
-/
import Derived.Deep.RegionLaw
import Derived.Test.YtofhlnpbflkdlaaDoorJ9
import Derived.Test.YtofhlnpbflkdlaaDoorJ4

/-
  The reference's head: step.
-/
namespace Go.Proofs.YtofhlnpbflkdlaaDoor
open Go.RowKit

theorem RW.kept {F : Nat → Prop} {w0 w' w2 : World} {go n : Nat} {ns : List Nat} {p : Nat → Prop} {rs : List (Option Addr × Nat × Nat)} (h : RW w0 w' go n ns p rs) (hk : Kept F w' w2) (h1 : ∀ k, k < w0.heap.size → ¬ F k) (h2 : ¬ F go) (h3 : ∀ s (hs : s < rs.length), p s → ∀ k, (slV rs[s]).ownBlock = some k → ¬ F k) : RW w0 w2 go n ns p rs :=
  ⟨h.row.kept hk (fun k e => by simp [Value.ownBlock] at e; subst e; exact h2), fun s hs hp => ⟨(h.have' s hs hp).1.kept hk (fun k e => h3 s hs hp k e), (h.have' s hs hp).2⟩, h.none', Same.then h.same hk h1⟩

/-- The blocks of the rows lie apart from one. -/
def RowsOff (w0 : World) (go : Nat) (ns : List Nat) (rs : List (Option Addr × Nat × Nat)) (h : Nat) : Prop := w0.heap.size ≤ h ∧ go ≠ h ∧ ∀ s (hs : s < rs.length), key ns s ≠ 0 → (slV rs[s]).ownBlock ≠ some h

theorem RW.off {w0 w' w2 : World} {go n h : Nat} {ns : List Nat} {rs : List (Option Addr × Nat × Nat)} (hr : RW w0 w' go n ns (fun s => key ns s ≠ 0) rs) (ho : RowsOff w0 go ns rs h) (hk : Kept (· = h) w' w2) : RW w0 w2 go n ns (fun s => key ns s ≠ 0) rs :=
  hr.kept hk (fun k hk e => by have := ho.1; omega) ho.2.1 (fun s hs hp k e e2 => by subst e2; exact ho.2.2 s hs hp e)

/-- A step's answer. -/
def StepA (h : Nat) (v : Value) (w' : World) (r : Ending) : Except Nat ((Nat × Nat) × Nat) → Prop
  | .error er => ∃ (a b : Int) (c : Nat), r = .returned (.agg #[.int .i64 a, .int .i64 b]) ∧ HdB w' h v c er ∧ er ≠ 0
  | .ok ((s, x), c) => r = .returned (.agg #[.int .i64 (s : Nat), .int .i64 (x : Nat)]) ∧ HdB w' h v c 0

theorem stepA_of {h : Nat} {v : Value} {wF : World} {r : Ending} {ns ls : List Nat} {c is k x c2 e2 : Nat} (hnf : nextF ns (ls.drop c) = (is, k, 0)) (ht : hTake ls (c + k) 0 (xbits is) = (x, c2, e2)) (hr : r = .returned (.agg #[.int .i64 (is : Nat), .int .i64 (x : Nat)])) (hh : HdB wF h v c2 e2) : StepA h v wF r (stepF ns ls c) := by
  unfold stepF
  rw [hnf]
  simp only
  unfold hTake at ht
  rw [if_neg (by simp)] at ht
  rw [if_neg (by simp)]
  by_cases hl : ls.length < c + k + xbits is
  · rw [if_pos hl] at ht ⊢
    simp only [Prod.mk.injEq] at ht
    obtain ⟨rfl, rfl, rfl⟩ := ht
    exact ⟨_, _, _, hr, hh, by decide⟩
  · rw [if_neg hl] at ht ⊢
    simp only [Prod.mk.injEq] at ht
    obtain ⟨rfl, rfl, rfl⟩ := ht
    exact ⟨hr, hh⟩

theorem stepA_err {h : Nat} {v : Value} {wF : World} {r : Ending} {ns ls : List Nat} {c is k g c2 : Nat} (hnf : nextF ns (ls.drop c) = (is, k, g)) (hg : g ≠ 0) (a b : Int) (hr : r = .returned (.agg #[.int .i64 a, .int .i64 b])) (hh : HdB wF h v c2 g) : StepA h v wF r (stepF ns ls c) := by
  unfold stepF
  rw [hnf]
  simp only
  rw [if_pos hg]
  exact ⟨a, b, c2, hr, hh, hg⟩

set_option maxRecDepth 100000 in
set_option maxHeartbeats 4000000 in
theorem hstep_any (w w0 : World) (h : Nat) (v : Value) (I : Nat → Prop) (ls : List Nat) (c go L : Nat) (ns : List Nat) (rs : List (Option Addr × Nat × Nat)) (hH : HdB w h v c 0) (hs : Src w I v ls) (hI : ∀ k, I k → k ≠ h) (hb : ∀ b ∈ ls, b < 2) (hc : c ≤ ls.length) (hlen : ls.length ≤ 100000000)
    (hR : RW w0 w go L ns (fun s => key ns s ≠ 0) rs) (hL : L = ns.length) (hl288 : L ≤ 288) (h15 : ∀ s, key ns s ≤ 15) (ho : RowsOff w0 go ns rs h) :
    Calls Tryd.prog 51 #[.pointer (some ⟨h, 0, none⟩), .slice (some ⟨go, 0, none⟩) L L] w fun r w' => StepA h v w' r (stepF ns ls c) ∧ Kept (· = h) w w' := by
  obtain ⟨ao, cap, rfl, hsa⟩ := id hs
  clear hsa
  have HH : Hid (HdB w h (.slice ao ls.length cap) c 0) := hH
  have HS : Hid (Src w I (.slice ao ls.length cap) ls) := hs
  have HI : Hid (∀ k, I k → k ≠ h) := hI
  have HB : Hid (∀ b ∈ ls, b < 2) := hb
  have HR : Hid (RW w0 w go L ns (fun s => key ns s ≠ 0) rs) := hR
  have HO : Hid (RowsOff w0 go ns rs h) := ho
  have HA : Hid (L = ns.length ∧ ∀ s, key ns s ≤ 15) := ⟨hL, h15⟩
  obtain ⟨M, hM⟩ : ∃ M, M = ls.length := ⟨_, rfl⟩
  rw [← hM] at HH HS hc hlen ⊢
  have HM : Hid (M = ls.length) := hM
  obtain ⟨is, k, g, hnf⟩ : ∃ is k g, nextF ns (ls.drop c) = (is, k, g) := ⟨_, _, _, rfl⟩
  have HNF : Hid (nextF ns (ls.drop c) = (is, k, g)) := hnf
  have hrn := nextF_is ns (ls.drop c)
  rw [hnf] at hrn
  simp only at hrn
  have HRN : Hid (RNext ns (ls.drop c) is k g) := hrn
  have hkle : c + k ≤ M := by
    rcases hrn with ⟨_, _, hf, hk, _⟩ | ⟨_, _, hk, _⟩ | ⟨_, _, hk, _⟩
    · have h1 := hf.2.length_le
      rw [rowOf_length, List.length_drop] at h1
      omega
    · omega
    · omega
  clear hH hs hI hb hR ho hL h15 hM hnf hrn
  have hsz := HH.out.lt
  -- the world behind the result's place
  have HK0 : Hid (Same w (w.alloc (.cells #[.int .i64 0, .int .i64 0] 31))) := (Kept.refl _ w).alloc _
  have HRB : Hid (Blk (w.alloc (.cells #[.int .i64 0, .int .i64 0] 31)) w.heap.size #[.int .i64 0, .int .i64 0] 31) := Blk.new w _ _
  go_enter Tryd.func51, Tryd.ntmps51
  go_upto_region 1 with fail
  generalize w.alloc (.cells #[.int .i64 0, .int .i64 0] 31) = wA at *
  have HHA : Hid (HdB wA h (.slice ao M cap) c 0) := hid (HH.out.kept HK0.out (fun f => f))
  have c0 := HHA.out.cell 0
  have c1 := HHA.out.cell 1
  simp at c0 c1
  have HNX := rnext_any wA.drew w0 go L ns rs (.slice ao M cap) I ls c (HR.out.kept (F := fun _ => False) (HK0.out.drew) (fun _ _ f => f) (fun f => f) (fun _ _ _ _ _ f => f)) HA.out.1 hl288 HA.out.2 (HS.out.kept HK0.out.drew (fun _ _ _ f => f)) (by have := HM.out; omega) (by have := HM.out; omega)
  have HHX : Hid (Calls Tryd.prog 68 #[.slice (some ⟨go, 0, none⟩) L L, .slice ao M cap, .int .i64 (c : Nat)] wA.drew fun e w' => e = .returned (.tuple #[.int .i64 (is : Nat), .int .i64 (k : Nat), .int .i64 (g : Nat)]) ∧ Same wA w') := hid (HNX.mono (by
    rintro e w' ⟨⟨is2, k2, g2, rfl, hr2⟩, hk⟩
    obtain ⟨rfl, rfl, rfl⟩ := hr2.one HRN.out
    exact ⟨rfl, ⟨hk.os, hk.tape, hk.output, hk.size, hk.block⟩⟩))
  clear HNX
  go_region_with (go_at_call 68; refine HHX.out.mono ?_; rintro e w4 ⟨rfl, hk4⟩)
  all_goals
    have HK4 : Hid (Same wA w4) := hk4
    have HH4 : Hid (HdB w4 h (.slice ao M cap) c 0) := hid (HHA.out.kept hk4 (fun f => f))
    have HB4 : Hid (Blk w4 w.heap.size #[.int .i64 0, .int .i64 0] 31) := hid (HRB.out.kept hk4 (fun f => f))
    have HS4 : Hid (Src w4 I (.slice ao M cap) ls) := hid (HS.out.kept (Same.trans HK0.out hk4) (fun _ _ _ f => f))
    have HKW : Hid (Kept (· = h) w w4) := hid (Kept.mono (Same.trans HK0.out hk4) (fun _ _ f => f.elim))
    have d1 := HH4.out.cell 1
    have d2 := HH4.out.cell 2
    have g1 := HH4.out.frozen 1
    have g2 := HH4.out.frozen 2
    have r0 := HB4.out.cell 0
    have r1 := HB4.out.cell 1
    have q0 := HB4.out.frozen 0
    have q1 := HB4.out.frozen 1
    simp at d1 d2 r0 r1
    have hne : h ≠ w.heap.size := by omega
    have hne2 : w.heap.size ≠ h := by omega
    clear hk4 c0 c1
    by_cases hg0 : g = 0
    · subst hg0
      obtain ⟨ck, hck⟩ : ∃ ck, ck = c + k := ⟨_, rfl⟩
      have hckI : (c : Int) + (k : Int) = (ck : Int) := by omega
      have HCK : Hid (ck = c + k) := hck
      have hckM : ck ≤ M := by omega
      clear hck
      have HH5 : Hid (HdB (w4.setCell ⟨h, 1, none⟩ (.int .i64 (ck : Nat))) h (.slice ao M cap) ck 0) := hid (by have hb := HH4.out.set 1 (.int .i64 (ck : Nat)); simp at hb; exact hb)
      have HK5 : Hid (Kept (· = h) w4 (w4.setCell ⟨h, 1, none⟩ (.int .i64 (ck : Nat)))) := hid ((Kept.refl (· = h) w4).setCell ⟨h, 1, none⟩ _ (.inl rfl))
      have HTK := fun n (hn : n ≤ 32) => htake_any (w4.setCell ⟨h, 1, none⟩ (.int .i64 (ck : Nat))) h (.slice ao M cap) I ls ck 0 n HH5.out (HS4.out.kept HK5.out (fun k hk _ e => HI.out k hk e)) HB.out hn (by have := HM.out; omega) (by have := HM.out; omega)
      by_cases h16 : is = 16
      · subst h16
        obtain ⟨x, c2, e2, ht⟩ : ∃ x c2 e2, hTake ls ck 0 2 = (x, c2, e2) := ⟨_, _, _, rfl⟩
        have HT := HTK 2 (by decide)
        rw [ht] at HT
        have HTT : Hid (hTake ls (c + k) 0 (xbits 16) = (x, c2, e2)) := hid (by rw [← HCK.out]; exact ht)
        clear ht HTK
        go_wp2_with fail
        refine HT.mono ?_
        rintro e w6 ⟨rfl, hh6, hk6⟩
        have HH6 : Hid (HdB w6 h (.slice ao M cap) c2 e2) := hh6
        have HK6 : Hid (Kept (· = h) w w6) := hid (HKW.out.trans (Kept.trans HK5.out hk6 (H := (· = h)) (fun _ _ f => f) (fun _ _ f => f)) (fun _ _ f => f) (fun _ _ f => f))
        have HB6 : Hid (Blk w6 w.heap.size #[.int .i64 0, .int .i64 0] 31) := hid ((HB4.out.kept HK5.out (fun e => hne2 e)).kept hk6 (fun e => hne2 e))
        have r0 := HB6.out.cell 0
        have r1 := HB6.out.cell 1
        have q0 := HB6.out.frozen 0
        have q1 := HB6.out.frozen 1
        simp at r0 r1
        clear hh6 hk6 HT
        go_wp2_with fail
        refine bodyPost_ret (v := .agg #[.int .i64 (16), .int .i64 (x : Nat)]) (by simp [results, Tryd.results51, go_sem, r0, r1]) rfl ⟨stepA_of HNF.out HTT.out rfl ?_, ?_⟩
        · skip
          exact HH6.out.kept (((Kept.refl (· = w.heap.size) w6).setCell ⟨w.heap.size, 0, none⟩ _ (.inl rfl)).setCell ⟨w.heap.size, 1, none⟩ _ (.inl rfl)) hne
        · exact (HK6.out.setCell ⟨w.heap.size, 0, none⟩ _ (.inr (Nat.le_refl _))).setCell ⟨w.heap.size, 1, none⟩ _ (.inr (Nat.le_refl _))
      · have e16 : ((is : Int) == 16) = false := by simp; omega
        by_cases h17 : is = 17
        · subst h17
          obtain ⟨x, c2, e2, ht⟩ : ∃ x c2 e2, hTake ls ck 0 3 = (x, c2, e2) := ⟨_, _, _, rfl⟩
          have HT := HTK 3 (by decide)
          rw [ht] at HT
          have HTT : Hid (hTake ls (c + k) 0 (xbits 17) = (x, c2, e2)) := hid (by rw [← HCK.out]; exact ht)
          clear ht HTK
          go_wp2_with fail
          refine HT.mono ?_
          rintro e w6 ⟨rfl, hh6, hk6⟩
          have HH6 : Hid (HdB w6 h (.slice ao M cap) c2 e2) := hh6
          have HK6 : Hid (Kept (· = h) w w6) := hid (HKW.out.trans (Kept.trans HK5.out hk6 (H := (· = h)) (fun _ _ f => f) (fun _ _ f => f)) (fun _ _ f => f) (fun _ _ f => f))
          have HB6 : Hid (Blk w6 w.heap.size #[.int .i64 0, .int .i64 0] 31) := hid ((HB4.out.kept HK5.out (fun e => hne2 e)).kept hk6 (fun e => hne2 e))
          have r0 := HB6.out.cell 0
          have r1 := HB6.out.cell 1
          have q0 := HB6.out.frozen 0
          have q1 := HB6.out.frozen 1
          simp at r0 r1
          clear hh6 hk6 HT
          go_wp2_with fail
          refine bodyPost_ret (v := .agg #[.int .i64 (17), .int .i64 (x : Nat)]) (by simp [results, Tryd.results51, go_sem, r0, r1]) rfl ⟨stepA_of HNF.out HTT.out rfl ?_, ?_⟩
          · skip
            exact HH6.out.kept (((Kept.refl (· = w.heap.size) w6).setCell ⟨w.heap.size, 0, none⟩ _ (.inl rfl)).setCell ⟨w.heap.size, 1, none⟩ _ (.inl rfl)) hne
          · exact (HK6.out.setCell ⟨w.heap.size, 0, none⟩ _ (.inr (Nat.le_refl _))).setCell ⟨w.heap.size, 1, none⟩ _ (.inr (Nat.le_refl _))
        · have e17 : ((is : Int) == 17) = false := by simp; omega
          by_cases h18 : is = 18
          · subst h18
            obtain ⟨x, c2, e2, ht⟩ : ∃ x c2 e2, hTake ls ck 0 7 = (x, c2, e2) := ⟨_, _, _, rfl⟩
            have HT := HTK 7 (by decide)
            rw [ht] at HT
            have HTT : Hid (hTake ls (c + k) 0 (xbits 18) = (x, c2, e2)) := hid (by rw [← HCK.out]; exact ht)
            clear ht HTK
            go_wp2_with fail
            refine HT.mono ?_
            rintro e w6 ⟨rfl, hh6, hk6⟩
            have HH6 : Hid (HdB w6 h (.slice ao M cap) c2 e2) := hh6
            have HK6 : Hid (Kept (· = h) w w6) := hid (HKW.out.trans (Kept.trans HK5.out hk6 (H := (· = h)) (fun _ _ f => f) (fun _ _ f => f)) (fun _ _ f => f) (fun _ _ f => f))
            have HB6 : Hid (Blk w6 w.heap.size #[.int .i64 0, .int .i64 0] 31) := hid ((HB4.out.kept HK5.out (fun e => hne2 e)).kept hk6 (fun e => hne2 e))
            have r0 := HB6.out.cell 0
            have r1 := HB6.out.cell 1
            have q0 := HB6.out.frozen 0
            have q1 := HB6.out.frozen 1
            simp at r0 r1
            clear hh6 hk6 HT
            go_wp2_with fail
            refine bodyPost_ret (v := .agg #[.int .i64 (18), .int .i64 (x : Nat)]) (by simp [results, Tryd.results51, go_sem, r0, r1]) rfl ⟨stepA_of HNF.out HTT.out rfl ?_, ?_⟩
            · skip
              exact HH6.out.kept (((Kept.refl (· = w.heap.size) w6).setCell ⟨w.heap.size, 0, none⟩ _ (.inl rfl)).setCell ⟨w.heap.size, 1, none⟩ _ (.inl rfl)) hne
            · exact (HK6.out.setCell ⟨w.heap.size, 0, none⟩ _ (.inr (Nat.le_refl _))).setCell ⟨w.heap.size, 1, none⟩ _ (.inr (Nat.le_refl _))
          · have e18 : ((is : Int) == 18) = false := by simp; omega
            have HTT : Hid (hTake ls (c + k) 0 (xbits is) = (0, ck, 0)) := hid (by
              unfold hTake xbits
              rw [if_neg h16, if_neg h17, if_neg h18, if_neg (by simp), if_neg (by have := HM.out; have := HCK.out; omega), HCK.out]
              simp [numAt, n2])
            clear HTK h16 h17 h18
            go_wp2_with fail
            refine bodyPost_ret (v := .agg #[.int .i64 (is : Nat), .int .i64 0]) (by simp [results, Tryd.results51, go_sem, r0, r1]) rfl ⟨stepA_of HNF.out HTT.out rfl ?_, ?_⟩
            · skip
              exact HH5.out.kept (((Kept.refl (· = w.heap.size) _).setCell ⟨w.heap.size, 0, none⟩ _ (.inl rfl)).setCell ⟨w.heap.size, 1, none⟩ _ (.inl rfl)) hne
            · exact ((HKW.out.trans HK5.out (fun _ _ f => f) (fun _ _ f => f)).setCell ⟨w.heap.size, 0, none⟩ _ (.inr (Nat.le_refl _))).setCell ⟨w.heap.size, 1, none⟩ _ (.inr (Nat.le_refl _))
    · have hgd : ((g : Int) != 0) = true := by simp; omega
      have HG0 : Hid (g ≠ 0) := hg0
      clear hg0
      go_wp2_with fail
      refine bodyPost_ret (v := .agg #[.int .i64 0, .int .i64 0]) (by simp [results, Tryd.results51, go_sem, r0, r1]) rfl ⟨stepA_err (c2 := c) HNF.out HG0.out 0 0 rfl ?_, ?_⟩
      · skip
        have hb := HH4.out.set 2 (.int .i64 (g : Nat))
        simp at hb
        exact Blk.kept hb (((Kept.refl (· = w.heap.size) _).setCell ⟨w.heap.size, 0, none⟩ _ (.inl rfl)).setCell ⟨w.heap.size, 1, none⟩ _ (.inl rfl)) hne
      · exact ((HKW.out.setCell ⟨h, 2, none⟩ _ (.inl rfl)).setCell ⟨w.heap.size, 0, none⟩ _ (.inr (Nat.le_refl _))).setCell ⟨w.heap.size, 1, none⟩ _ (.inr (Nat.le_refl _))

end Go.Proofs.YtofhlnpbflkdlaaDoor

/-
  The reference's Read.
-/
namespace Go.Proofs.YtofhlnpbflkdlaaDoor
open Go.RowKit

/-- A literal row of numbers. -/
theorem src_nats (w : World) (zs : List Nat) (n : Nat) (hn : zs.length = n) : SrcE natV (w.alloc (.cells (zs.map natV).toArray 3)) (fun k => k = w.heap.size) (.slice (some ⟨w.heap.size, 0, none⟩) n n) zs := by
  subst hn
  refine ⟨_, _, rfl, Nat.le_refl _, fun _ => ⟨_, _, rfl, rfl, fun j hj => ?_⟩⟩
  simp [hj]

theorem RW.down {w w0 w' : World} {go n : Nat} {ns : List Nat} {p : Nat → Prop} {rs : List (Option Addr × Nat × Nat)} (h : RW w0 w' go n ns p rs) (hk : Same w w0) : RW w w' go n ns p rs :=
  ⟨RowE.base h.row hk.size, fun s hs hp => ⟨(h.have' s hs hp).1, fun k e => Nat.le_trans hk.size ((h.have' s hs hp).2 k e)⟩, h.none', Same.trans hk h.same⟩

theorem chk_codes (l : List Nat) (hl : l.length = 19) (h7 : ∀ x ∈ l, x ≤ 7) : chk (l.map (fun (n : Nat) => (n : Int))) = chkN l := by
  have hok : okAll (l.map (fun (n : Nat) => (n : Int))) 0 15 = true := by
    simp only [okAll, List.length_map, Bool.and_eq_true, decide_eq_true_eq, Bool.not_eq_true', List.any_eq_false]
    refine ⟨⟨by omega, by omega⟩, fun z hz => ?_⟩
    obtain ⟨n, hn, rfl⟩ := List.mem_map.1 hz
    have := h7 n hn
    simp [badI]; omega
  unfold chk
  rw [if_pos hok, List.map_map]
  have e : l.map (Int.toNat ∘ fun (n : Nat) => (n : Int)) = l := by
    conv => rhs; rw [← List.map_id l]
    exact List.map_congr_left (fun n _ => by simp)
  rw [e]

theorem stepF_le {ns ls : List Nat} {c s x c' : Nat} (h : stepF ns ls c = .ok ((s, x), c')) : c' ≤ ls.length := by
  unfold stepF at h
  split at h
  · cases h
  · split at h
    · cases h
    · simp only [Except.ok.injEq, Prod.mk.injEq] at h
      omega

theorem bodyF_step {ns ls : List Nat} {N f c s x c' : Nat} {l : List Nat} (hl : l.length < N) (hs : stepF ns ls c = .ok ((s, x), c')) : bodyF ns ls N (f + 1) l c = match withM l ((s : Int), (x : Int)) N with | none => .error 41 | some m => bodyF ns ls N f m c' := by
  simp only [bodyF]
  rw [if_neg (by omega), hs]
  rfl

theorem bodyF_err {ns ls : List Nat} {N f c e : Nat} {l : List Nat} (hl : l.length < N) (hs : stepF ns ls c = .error e) : bodyF ns ls N (f + 1) l c = .error e := by
  simp only [bodyF]
  rw [if_neg (by omega), hs]

theorem bodyF_end {ns ls : List Nat} {N f c : Nat} {l : List Nat} (hl : N ≤ l.length) : bodyF ns ls N f l c = .ok (l, c) := by
  cases f with
  | zero => rfl
  | succ f => simp only [bodyF]; rw [if_pos hl]

/-- An answer of Read. -/
def ReadA (w w' : World) (r : Ending) : Except Nat ((List Nat × List Nat) × Nat) → Prop
  | .error e => r = .returned (.tuple #[.slice none 0 0, .slice none 0 0, .int .i64 0, .int .i64 (e : Nat)]) ∧ Same w w'
  | .ok ((a, b), n) => (∃ va vb, r = .returned (.tuple #[va, vb, .int .i64 (n : Nat), .int .i64 0]) ∧ SrcE natV w' (fun k => w.heap.size ≤ k) va a ∧ SrcE natV w' (fun k => w.heap.size ≤ k) vb b) ∧ Same w w'

theorem hTake_ok {ls : List Nat} {c n : Nat} (h : c + n ≤ ls.length) : hTake ls c 0 n = (numAt ls c n, c + n, 0) := by
  unfold hTake
  rw [if_neg (by simp), if_neg (by omega)]
theorem hTake_le (ls : List Nat) (c e n : Nat) (hc : c ≤ ls.length) : (hTake ls c e n).2.1 ≤ ls.length := by
  unfold hTake
  split
  · exact hc
  · split
    · exact hc
    · simp only; omega
theorem hTake_stuck {ls : List Nat} {c e n : Nat} (h : e ≠ 0) : hTake ls c e n = (0, c, e) := by unfold hTake; rw [if_pos h]
theorem hTake_end {ls : List Nat} {c n : Nat} (h : ls.length < c + n) : hTake ls c 0 n = (0, c, 10) := by
  unfold hTake
  rw [if_neg (by simp), if_pos h]

/-- Three numbers that are not there. -/
theorem hTake_three (ls : List Nat) (a : Nat) (h : ls.length < a + 14) (t1 t2 t3 : Nat × Nat × Nat) (h1 : hTake ls a 0 5 = t1) (h2 : hTake ls t1.2.1 t1.2.2 5 = t2) (h3 : hTake ls t2.2.1 t2.2.2 4 = t3) : t3.2.2 = 10 := by
  by_cases k1 : ls.length < a + 5
  · rw [hTake_end k1] at h1
    subst h1
    rw [hTake_stuck (by simp)] at h2
    subst h2
    rw [hTake_stuck (by simp)] at h3
    subst h3
    rfl
  · rw [hTake_ok (by omega)] at h1
    subst h1
    simp only at h2
    by_cases k2 : ls.length < a + 5 + 5
    · rw [hTake_end k2] at h2
      subst h2
      rw [hTake_stuck (by simp)] at h3
      subst h3
      rfl
    · rw [hTake_ok (by omega)] at h2
      subst h2
      simp only at h3
      rw [hTake_end (by omega)] at h3
      subst h3
      rfl

theorem stepF_ge {ns ls : List Nat} {c s x c' : Nat} (h : stepF ns ls c = .ok ((s, x), c')) : c ≤ c' := by
  unfold stepF at h
  split at h
  · cases h
  · split at h
    · cases h
    · simp only [Except.ok.injEq, Prod.mk.injEq] at h
      omega

/-- The lengths of the steps' codes, as they are read: all is well, or the bits have ended. -/
def CodesAt (ls : List Nat) (a i c e : Nat) (xs : List Nat) : Prop := (a + 14 + 3 * i ≤ ls.length ∧ c = a + 14 + 3 * i ∧ e = 0 ∧ xs = codesF ls (a + 14) i) ∨ (ls.length < a + 14 + 3 * i ∧ e = 10)

theorem CodesAt.next {ls : List Nat} {a i c e : Nat} {xs : List Nat} (h : CodesAt ls a i c e xs) {x c' e' : Nat} (ht : hTake ls c e 3 = (x, c', e')) : CodesAt ls a (i + 1) c' e' (xs.set (ord.getD i 0) x) := by
  rcases h with ⟨h1, rfl, rfl, rfl⟩ | ⟨h1, rfl⟩
  · by_cases hf : a + 14 + 3 * i + 3 ≤ ls.length
    · rw [hTake_ok hf] at ht
      simp only [Prod.mk.injEq] at ht
      obtain ⟨rfl, rfl, rfl⟩ := ht
      exact .inl ⟨by omega, by omega, rfl, rfl⟩
    · rw [hTake_end (by omega)] at ht
      simp only [Prod.mk.injEq] at ht
      obtain ⟨rfl, rfl, rfl⟩ := ht
      exact .inr ⟨by omega, rfl⟩
  · rw [hTake_stuck (by decide)] at ht
    simp only [Prod.mk.injEq] at ht
    obtain ⟨rfl, rfl, rfl⟩ := ht
    exact .inr ⟨by omega, rfl⟩

theorem ord_le : ∀ i, i < 19 → ord.getD i 0 ≤ 18 := by decide

theorem numAt3 (ls : List Nat) (h : ∀ b ∈ ls, b < 2) (c e : Nat) : (hTake ls c e 3).1 ≤ 7 := by
  have := numAt_lt ls h c 3
  unfold hTake
  split
  · simp
  · split
    · simp
    · simp only; omega

end Go.Proofs.YtofhlnpbflkdlaaDoor

/-
  A head that is laid is read as what was laid.
-/
namespace Go.Proofs.YtofhlnpbflkdlaaDoor

theorem fitL_iff {ns : List Nat} {s : Nat} (hm : measure ns ≤ 32768) (hs : s ∈ ris ns) (h15 : key ns s ≤ 15) (t : List Nat) (ht : ∀ b ∈ t, b < 2) : Fit ns t s ↔ key ns s ≤ t.length ∧ rv (key ns s) (n2 t) = codeOf ns s := by
  have hcl := code_lt2 hm hs h15
  have hpart : ∀ n, n ≤ t.length → n2 (t.take n) = n2 t % 2 ^ n := fun n hn => by
    have := n2_part t ht 0 n (by omega)
    simpa using this
  unfold Fit
  rw [List.prefix_iff_eq_take, rowOf_length]
  constructor
  · rintro ⟨_, h⟩
    have hl := congrArg List.length h
    rw [rowOf_length, List.length_take] at hl
    have hk : key ns s ≤ t.length := by omega
    refine ⟨hk, ?_⟩
    have h2 := congrArg n2 h
    rw [rowOf_n2, hpart _ hk] at h2
    rw [← rv_mod (key ns s) (key ns s) _ (Nat.le_refl _), ← h2, rv_rv, Nat.mod_eq_of_lt hcl]
  · rintro ⟨hk, h⟩
    refine ⟨(mem_ris.1 hs).2, ?_⟩
    refine n2_inj _ _ (by rw [rowOf_length, List.length_take]; omega) (rowOf_bit ns s) (fun x hx => ht x (List.mem_of_mem_take hx)) ?_
    rw [rowOf_n2, hpart _ hk, ← h, rv_rv]

/-- The row of a symbol that comes is read as it. -/
theorem nextF_row {ns : List Nat} {s : Nat} (hm : measure ns ≤ 32768) (h15 : ∀ x, key ns x ≤ 15) (hs : s < ns.length) (h0 : key ns s ≠ 0) (rest : List Nat) (hr : ∀ b ∈ rest, b < 2) : nextF ns (rowOf ns s ++ rest) = (s, key ns s, 0) := by
  have hb : ∀ b ∈ rowOf ns s ++ rest, b < 2 := fun b hb => by
    rcases List.mem_append.1 hb with h | h
    · exact rowOf_bit ns s b h
    · exact hr b h
  have hsr : s ∈ ris ns := mem_ris.2 ⟨hs, h0⟩
  have hf : Fit ns (rowOf ns s ++ rest) s := ⟨h0, List.prefix_append _ _⟩
  refine nextF_of (.inl ⟨rfl, hs, hf, rfl, fun j hj hfj => ?_⟩)
  have hjr : j ∈ ris ns := mem_ris.2 ⟨by omega, hfj.1⟩
  have h1 := ((fitL_iff hm hsr (h15 s) _ hb).1 hf).2
  have h2 := ((fitL_iff hm hjr (h15 j) _ hb).1 hfj).2
  have := fits_one hjr hsr h15 h2 h1
  omega

theorem numAt_laid (A B : List Nat) (v n : Nat) (h : v < 2 ^ n) : numAt (A ++ (bitsOf v n ++ B)) A.length n = v := by
  unfold numAt
  rw [List.drop_left, List.take_append_of_le_length (by rw [bitsOf_length]; exact Nat.le_refl _), List.take_of_length_le (by rw [bitsOf_length]; exact Nat.le_refl _), bitsOf_n2, Nat.mod_eq_of_lt h]

/-- A step's bits. -/
def stepBits (cs : List Nat) (s : Nat × Nat) : List Nat := rowOf cs s.1 ++ bitsOf s.2 (xbits s.1)

theorem stepBits_length (cs : List Nat) (s : Nat × Nat) : (stepBits cs s).length = key cs s.1 + xbits s.1 := by rw [stepBits, List.length_append, rowOf_length, bitsOf_length]

theorem stepBits_bit (cs : List Nat) (s : Nat × Nat) : ∀ b ∈ stepBits cs s, b < 2 := by
  intro b hb
  rcases List.mem_append.1 hb with h | h
  · exact rowOf_bit _ _ b h
  · exact bitsOf_lt _ _ b h

/-- Steps that may be laid by these codes. -/
def StepsOk (cs : List Nat) (ss : List (Nat × Nat)) : Prop := ∀ s ∈ ss, s.1 < cs.length ∧ key cs s.1 ≠ 0 ∧ s.2 < 2 ^ xbits s.1

theorem stepF_laid {cs : List Nat} (hm : measure cs ≤ 32768) (h15 : ∀ x, key cs x ≤ 15) (A B : List Nat) (hB : ∀ b ∈ B, b < 2) (s : Nat × Nat) (h1 : s.1 < cs.length) (h2 : key cs s.1 ≠ 0) (h3 : s.2 < 2 ^ xbits s.1) :
    stepF cs (A ++ (stepBits cs s ++ B)) A.length = .ok (s, A.length + (stepBits cs s).length) := by
  have hn : nextF cs ((A ++ (stepBits cs s ++ B)).drop A.length) = (s.1, key cs s.1, 0) := by
    rw [List.drop_left, stepBits, List.append_assoc]
    refine nextF_row hm h15 h1 h2 _ (fun b hb => ?_)
    rcases List.mem_append.1 hb with h | h
    · exact bitsOf_lt _ _ b h
    · exact hB b h
  have hx : numAt (A ++ (stepBits cs s ++ B)) (A.length + key cs s.1) (xbits s.1) = s.2 := by
    have := numAt_laid (A ++ rowOf cs s.1) B s.2 (xbits s.1) h3
    rw [List.length_append, rowOf_length] at this
    rw [stepBits, List.append_assoc, ← List.append_assoc A]
    exact this
  unfold stepF
  rw [hn]
  simp only
  rw [if_neg (by simp), if_neg (by rw [List.length_append, List.length_append, stepBits_length]; omega), hx, stepBits_length, Nat.add_assoc]

theorem bodyF_laid {cs : List Nat} (hm : measure cs ≤ 32768) (h15 : ∀ x, key cs x ≤ 15) (N : Nat) (B : List Nat) (hB : ∀ b ∈ B, b < 2) (ss : List (Nat × Nat)) (hs : StepsOk cs ss) (A l m : List Nat) (f : Nat) (hl : ∀ x ∈ l, x ≤ 15) (hf : N - l.length ≤ f)
    (hr : runM N l (ss.map (fun s => ((s.1 : Int), (s.2 : Int)))) = some m) (hN : m.length = N) : bodyF cs (A ++ (ss.flatMap (stepBits cs) ++ B)) N f l A.length = .ok (m, A.length + (ss.flatMap (stepBits cs)).length) := by
  induction ss generalizing A l f with
  | nil =>
    simp only [List.map_nil, runM, Option.some.injEq] at hr
    subst hr
    rw [bodyF_end (by omega)]
    simp
  | cons s r ih =>
    have h1 := hs s (by simp)
    simp only [List.map_cons, runM] at hr
    cases hw : withM l ((s.1 : Int), (s.2 : Int)) N with
    | none => rw [hw] at hr; cases hr
    | some l2 =>
      rw [hw] at hr
      simp only at hr
      have hg := withM_grows hw hl
      obtain ⟨f, rfl⟩ : ∃ g, f = g + 1 := ⟨f - 1, by omega⟩
      have hB2 : ∀ b ∈ r.flatMap (stepBits cs) ++ B, b < 2 := fun b hb => by
        rcases List.mem_append.1 hb with h | h
        · obtain ⟨t, _, ht⟩ := List.mem_flatMap.1 h
          exact stepBits_bit cs t b ht
        · exact hB b h
      have hst := stepF_laid hm h15 A (r.flatMap (stepBits cs) ++ B) hB2 s h1.1 h1.2.1 h1.2.2
      rw [List.flatMap_cons, List.append_assoc, bodyF_step (by omega) hst, hw]
      simp only
      have := ih (fun t ht => hs t (List.mem_cons_of_mem _ ht)) (A ++ stepBits cs s) l2 f hg.2.2 (by omega) hr
      rw [List.append_assoc, List.length_append] at this
      rw [this, List.length_append, Nat.add_assoc]

/-- The lengths of the steps' codes, as bits. -/
def codeBits (cs : List Nat) : Nat → List Nat
  | 0 => []
  | i + 1 => codeBits cs i ++ bitsOf (cs.getD (ord.getD i 0) 0) 3

theorem codeBits_length (cs : List Nat) (i : Nat) : (codeBits cs i).length = 3 * i := by
  induction i with
  | zero => rfl
  | succ i ih => rw [codeBits, List.length_append, ih, bitsOf_length]; omega

theorem codeBits_bit (cs : List Nat) (i : Nat) : ∀ b ∈ codeBits cs i, b < 2 := by
  induction i with
  | zero => simp [codeBits]
  | succ i ih =>
    intro b hb
    rcases List.mem_append.1 hb with h | h
    · exact ih b h
    · exact bitsOf_lt _ _ b h

theorem codeBits_split (cs : List Nat) (i n : Nat) (h : i < n) : ∃ r, codeBits cs n = codeBits cs i ++ (bitsOf (cs.getD (ord.getD i 0) 0) 3 ++ r) := by
  induction n with
  | zero => omega
  | succ n ih =>
    by_cases e : i = n
    · subst e; exact ⟨[], by simp [codeBits]⟩
    · obtain ⟨r, hr⟩ := ih (by omega)
      exact ⟨r ++ bitsOf (cs.getD (ord.getD n 0) 0) 3, by rw [codeBits, hr]; simp⟩

theorem ord_all : ∀ p, p < 19 → ∃ j, j < 19 ∧ ord.getD j 0 = p := by decide

theorem codesF_laid (cs : List Nat) (h7 : ∀ x ∈ cs, x ≤ 7) (hl : cs.length = 19) (A B : List Nat) (n : Nat) (hn : n ≤ 19) (i : Nat) (hi : i ≤ n) : ∀ p, p < 19 → (codesF (A ++ (codeBits cs n ++ B)) A.length i).getD p 0 = if (∃ j, j < i ∧ ord.getD j 0 = p) then cs.getD p 0 else 0 := by
  induction i with
  | zero =>
    intro p hp
    rw [if_neg (by rintro ⟨j, hj, _⟩; omega)]
    rw [codesF, List.getD_eq_getElem?_getD, List.getElem?_replicate, if_pos hp]
    rfl
  | succ i ih =>
    intro p hp
    have ih := ih (by omega) p hp
    obtain ⟨r, hr⟩ := codeBits_split cs i n (by omega)
    have ho := ord_le i (by omega)
    have hv : cs.getD (ord.getD i 0) 0 < 2 ^ 3 := by
      have hlt : ord.getD i 0 < cs.length := by omega
      have e : cs.getD (ord.getD i 0) 0 = cs[ord.getD i 0] := by rw [List.getD_eq_getElem?_getD, List.getElem?_eq_getElem hlt]; rfl
      rw [e]
      have := h7 _ (List.getElem_mem hlt)
      omega
    have hnum : numAt (A ++ (codeBits cs n ++ B)) (A.length + 3 * i) 3 = cs.getD (ord.getD i 0) 0 := by
      have := numAt_laid (A ++ codeBits cs i) (r ++ B) _ 3 hv
      rw [List.length_append, codeBits_length] at this
      rw [hr]
      simp only [List.append_assoc] at this ⊢
      exact this
    rw [codesF, hnum]
    have hlen := codesF_length (A ++ (codeBits cs n ++ B)) A.length i
    by_cases e : ord.getD i 0 = p
    · rw [if_pos ⟨i, by omega, e⟩, e]
      rw [List.getD_eq_getElem?_getD, List.getElem?_set_self (by omega)]
      rfl
    · rw [List.getD_eq_getElem?_getD, List.getElem?_set_ne e, ← List.getD_eq_getElem?_getD, ih]
      by_cases h : ∃ j, j < i ∧ ord.getD j 0 = p
      · obtain ⟨j, hj, hp⟩ := h
        rw [if_pos ⟨j, hj, hp⟩, if_pos ⟨j, by omega, hp⟩]
      · rw [if_neg h, if_neg]
        rintro ⟨j, hj, hp⟩
        by_cases e2 : j = i
        · subst e2; exact e hp
        · exact h ⟨j, by omega, hp⟩

/-- What is laid for two lists. -/
structure HeadOk (lit dist : List Nat) (many : Nat) (cs : List Nat) (ss : List (Nat × Nat)) : Prop where
  l1 : 257 ≤ lit.length
  l2 : lit.length ≤ 286
  d1 : 1 ≤ dist.length
  d2 : dist.length ≤ 30
  m1 : 4 ≤ many
  m2 : many ≤ 19
  c19 : cs.length = 19
  c7 : ∀ x ∈ cs, x ≤ 7
  ok : chkN cs = 0
  rest : ∀ j, many ≤ j → j < 19 → cs.getD (ord.getD j 0) 0 = 0
  st : StepsOk cs ss
  run : runM (lit.length + dist.length) [] (ss.map (fun s => ((s.1 : Int), (s.2 : Int)))) = some (lit ++ dist)

def headBits (nl nd many : Nat) (cs : List Nat) (ss : List (Nat × Nat)) : List Nat :=
  bitsOf (nl - 257) 5 ++ (bitsOf (nd - 1) 5 ++ (bitsOf (many - 4) 4 ++ (codeBits cs many ++ ss.flatMap (stepBits cs))))

theorem headBits_bit (nl nd many : Nat) (cs : List Nat) (ss : List (Nat × Nat)) : ∀ b ∈ headBits nl nd many cs ss, b < 2 := by
  intro b hb
  unfold headBits at hb
  rcases List.mem_append.1 hb with h | h
  · exact bitsOf_lt _ _ b h
  · rcases List.mem_append.1 h with h | h
    · exact bitsOf_lt _ _ b h
    · rcases List.mem_append.1 h with h | h
      · exact bitsOf_lt _ _ b h
      · rcases List.mem_append.1 h with h | h
        · exact codeBits_bit _ _ b h
        · obtain ⟨t, _, ht⟩ := List.mem_flatMap.1 h
          exact stepBits_bit cs t b ht

theorem headBits_length (nl nd many : Nat) (cs : List Nat) (ss : List (Nat × Nat)) : (headBits nl nd many cs ss).length = 14 + 3 * many + (ss.flatMap (stepBits cs)).length := by
  unfold headBits
  simp only [List.length_append, bitsOf_length, codeBits_length]
  omega

theorem readF_laid {lit dist : List Nat} {many : Nat} {cs : List Nat} {ss : List (Nat × Nat)} (h : HeadOk lit dist many cs ss) (A B : List Nat) (hB : ∀ b ∈ B, b < 2) :
    readF (A ++ (headBits lit.length dist.length many cs ss ++ B)) A.length = .ok ((lit, dist), (headBits lit.length dist.length many cs ss).length) := by
  have hm : measure cs ≤ 32768 := by
    have := h.ok
    unfold chkN at this
    split at this
    · omega
    · omega
  have h15 : ∀ x, key cs x ≤ 15 := fun x => by
    by_cases e : x < cs.length
    · rw [key_get e]; have := h.c7 _ (List.getElem_mem e); omega
    · simp [key, e]
  have hl1 := h.l1; have hl2 := h.l2; have hd1 := h.d1; have hd2 := h.d2; have hm1 := h.m1; have hm2 := h.m2
  have hlen := headBits_length lit.length dist.length many cs ss
  obtain ⟨T, hT⟩ : ∃ T, T = A ++ (headBits lit.length dist.length many cs ss ++ B) := ⟨_, rfl⟩
  have hTl : T.length = A.length + (14 + 3 * many + (ss.flatMap (stepBits cs)).length) + B.length := by rw [hT, List.length_append, List.length_append, hlen]; omega
  have n1 : numAt T A.length 5 = lit.length - 257 := by
    have := numAt_laid A (bitsOf (dist.length - 1) 5 ++ (bitsOf (many - 4) 4 ++ (codeBits cs many ++ ss.flatMap (stepBits cs))) ++ B) (lit.length - 257) 5 (by omega)
    rw [hT]
    unfold headBits
    simp only [List.append_assoc] at this ⊢
    exact this
  have n2' : numAt T (A.length + 5) 5 = dist.length - 1 := by
    have := numAt_laid (A ++ bitsOf (lit.length - 257) 5) (bitsOf (many - 4) 4 ++ (codeBits cs many ++ ss.flatMap (stepBits cs)) ++ B) (dist.length - 1) 5 (by omega)
    rw [List.length_append, bitsOf_length] at this
    rw [hT]
    unfold headBits
    simp only [List.append_assoc] at this ⊢
    exact this
  have n3 : numAt T (A.length + 10) 4 = many - 4 := by
    have := numAt_laid (A ++ (bitsOf (lit.length - 257) 5 ++ bitsOf (dist.length - 1) 5)) (codeBits cs many ++ ss.flatMap (stepBits cs) ++ B) (many - 4) 4 (by omega)
    rw [List.length_append, List.length_append, bitsOf_length, bitsOf_length] at this
    rw [hT]
    unfold headBits
    simp only [List.append_assoc] at this ⊢
    exact this
  have hcs : codesF T (A.length + 14) many = cs := by
    have hA : (A ++ (bitsOf (lit.length - 257) 5 ++ (bitsOf (dist.length - 1) 5 ++ bitsOf (many - 4) 4))).length = A.length + 14 := by simp [bitsOf_length]
    have := codesF_laid cs h.c7 h.c19 (A ++ (bitsOf (lit.length - 257) 5 ++ (bitsOf (dist.length - 1) 5 ++ bitsOf (many - 4) 4))) (ss.flatMap (stepBits cs) ++ B) many hm2 many (Nat.le_refl _)
    rw [hA] at this
    have eT : A ++ (bitsOf (lit.length - 257) 5 ++ (bitsOf (dist.length - 1) 5 ++ bitsOf (many - 4) 4)) ++ (codeBits cs many ++ (ss.flatMap (stepBits cs) ++ B)) = T := by rw [hT]; unfold headBits; simp only [List.append_assoc]
    rw [eT] at this
    refine List.ext_getElem (by rw [codesF_length, h.c19]) (fun p h1 h2 => ?_)
    rw [codesF_length] at h1
    have hp := this p h1
    have e1 : (codesF T (A.length + 14) many).getD p 0 = (codesF T (A.length + 14) many)[p] := by rw [List.getD_eq_getElem?_getD, List.getElem?_eq_getElem]; rfl
    have e2 : cs.getD p 0 = cs[p] := by rw [List.getD_eq_getElem?_getD, List.getElem?_eq_getElem]; rfl
    rw [e1] at hp
    rw [hp]
    obtain ⟨j, hj, hjp⟩ := ord_all p h1
    by_cases hjm : j < many
    · rw [if_pos ⟨j, hjm, hjp⟩, e2]
    · have hz := h.rest j (by omega) hj
      rw [hjp, e2] at hz
      split
      · exact e2
      · exact hz.symm
  have hbody : bodyF cs T (lit.length + dist.length) (lit.length + dist.length) [] (A.length + 14 + 3 * many) = .ok (lit ++ dist, A.length + 14 + 3 * many + (ss.flatMap (stepBits cs)).length) := by
    have hA : (A ++ (bitsOf (lit.length - 257) 5 ++ (bitsOf (dist.length - 1) 5 ++ (bitsOf (many - 4) 4 ++ codeBits cs many)))).length = A.length + 14 + 3 * many := by simp [bitsOf_length, codeBits_length]; omega
    have := bodyF_laid hm h15 (lit.length + dist.length) B hB ss h.st (A ++ (bitsOf (lit.length - 257) 5 ++ (bitsOf (dist.length - 1) 5 ++ (bitsOf (many - 4) 4 ++ codeBits cs many)))) [] (lit ++ dist) (lit.length + dist.length) (by simp) (by simp) h.run (by simp)
    rw [hA] at this
    have eT : A ++ (bitsOf (lit.length - 257) 5 ++ (bitsOf (dist.length - 1) 5 ++ (bitsOf (many - 4) 4 ++ codeBits cs many))) ++ (ss.flatMap (stepBits cs) ++ B) = T := by rw [hT]; unfold headBits; simp only [List.append_assoc]
    rw [eT] at this
    exact this
  rw [← hT]
  unfold readF
  rw [n1, n2', n3, show many - 4 + 4 = many by omega, show lit.length - 257 + 257 = lit.length by omega, show dist.length - 1 + 1 = dist.length by omega, hcs, hbody, if_neg (by omega), if_neg (by omega), if_neg (by omega), if_neg (by rw [h.ok]; simp)]
  simp only
  rw [List.take_left, List.drop_left, hlen]
  congr 2
  omega

end Go.Proofs.YtofhlnpbflkdlaaDoor

/-
  Unpack of Pack; how long a head is.
-/
namespace Go.Proofs.YtofhlnpbflkdlaaDoor

theorem withM_mono {l m : List Nat} {s : Int × Int} {n n' : Nat} (h : n' ≤ n) (hw : withM l s n' = some m) : withM l s n = some m := by
  unfold withM at hw ⊢
  split at hw
  · cases hw
  · split at hw
    · cases hw
    · rename_i v k hs _
      rw [if_neg (by omega)]
      exact hw

theorem runM_mono {l m : List Nat} {ss : List (Int × Int)} {n n' : Nat} (h : n' ≤ n) (hr : runM n' l ss = some m) : runM n l ss = some m := by
  induction ss generalizing l with
  | nil => exact hr
  | cons a r ih =>
    simp only [runM] at hr ⊢
    cases hw : withM l a n' with
    | none => rw [hw] at hr; cases hr
    | some k =>
      rw [hw] at hr
      rw [withM_mono h hw]
      exact ih hr

theorem unp_same (l : List Nat) (h15 : ∀ x ∈ l, x ≤ 15) (hn : l.length ≤ 316) : unpM (packM l) (l.length : Int) = .ok l := by
  unfold unpM
  rw [if_neg (by omega), Int.toNat_natCast, runM_pack l.length l [] h15 (by simp)]
  simp

theorem unp_less (l : List Nat) (h15 : ∀ x ∈ l, x ≤ 15) (hn : l.length ≤ 316) (h0 : 0 < l.length) : unpM (packM l) ((l.length : Int) - 1) = .error 41 := by
  unfold unpM
  rw [if_neg (by omega)]
  have e : ((l.length : Int) - 1).toNat = l.length - 1 := by omega
  rw [e]
  cases hr : runM (l.length - 1) [] (packM l) with
  | none => rfl
  | some m =>
    exfalso
    have h1 := runM_mono (n := l.length) (by omega) hr
    rw [runM_pack l.length l [] h15 (by simp)] at h1
    simp only [List.nil_append, Option.some.injEq] at h1
    have h2 := runM_le hr (by simp) (by simp)
    rw [← h1] at h2
    omega

theorem unp_more (l : List Nat) (h15 : ∀ x ∈ l, x ≤ 15) (hn : l.length < 316) : unpM (packM l) ((l.length : Int) + 1) = .error 41 := by
  unfold unpM
  rw [if_neg (by omega)]
  have e : ((l.length : Int) + 1).toNat = l.length + 1 := by omega
  rw [e, runM_pack (l.length + 1) l [] h15 (by simp)]
  simp

theorem unp_far (ss : List (Int × Int)) (n : Int) (h : n < 0 ∨ 316 < n) : unpM ss n = .error 1 := by
  unfold unpM
  rw [if_pos h]

theorem xbits_le (s : Nat) : xbits s ≤ 7 := by
  unfold xbits
  split
  · omega
  · split
    · omega
    · split <;> omega

theorem steps_len (cs : List Nat) (h7 : ∀ x ∈ cs, x ≤ 7) (ss : List (Nat × Nat)) : (ss.flatMap (stepBits cs)).length ≤ 14 * ss.length := by
  induction ss with
  | nil => simp
  | cons s r ih =>
    rw [List.flatMap_cons, List.length_append, stepBits_length, List.length_cons]
    have h1 := xbits_le s.1
    have h2 : key cs s.1 ≤ 7 := by
      by_cases e : s.1 < cs.length
      · rw [key_get e]; exact h7 _ (List.getElem_mem e)
      · simp [key, e]
    omega

theorem head_len {lit dist : List Nat} {many : Nat} {cs : List Nat} {ss : List (Nat × Nat)} (h : HeadOk lit dist many cs ss) (hs : ss.length ≤ lit.length + dist.length) : (headBits lit.length dist.length many cs ss).length ≤ 71 + 14 * (lit.length + dist.length) := by
  rw [headBits_length]
  have h1 := steps_len cs h.c7 ss
  have h2 := h.m2
  omega

/-- Pack's steps in numbers from 0 on, and what they are. -/
def packN (l : List Nat) : List (Nat × Nat) := (packM l).map (fun s => (s.1.toNat, s.2.toNat))

/-- A step that may be. -/
def StepIs (s : Int × Int) : Prop := 0 ≤ s.1 ∧ s.1 ≤ 18 ∧ 0 ≤ s.2 ∧ s.2.toNat < 2 ^ xbits s.1.toNat

theorem zerosM_is (n : Nat) : ∀ s ∈ zerosM n, StepIs s := by
  induction n using Nat.strongRecOn with
  | ind n ih =>
    intro s hs
    by_cases h : 11 ≤ n
    · rw [zerosM_big n h] at hs
      rcases List.mem_cons.1 hs with rfl | hs
      · refine ⟨by simp, by simp, by simp only; omega, ?_⟩
        show (((min n 138 - 11 : Nat) : Int)).toNat < 2 ^ 7
        omega
      · exact ih _ (by omega) s hs
    · by_cases h3 : 3 ≤ n
      · rw [zerosM_mid n (by omega) h3] at hs
        have : s = (17, ((n - 3 : Nat) : Int)) := by simpa using hs
        subst this
        refine ⟨by simp, by simp, by simp only; omega, ?_⟩
        show (((n - 3 : Nat) : Int)).toNat < 2 ^ 3
        omega
      · rw [zerosM_few n (by omega)] at hs
        have := List.eq_of_mem_replicate hs
        subst this
        exact ⟨by simp, by simp, by simp, by decide⟩

theorem againM_is (v n : Nat) (hv : v ≤ 15) : ∀ s ∈ againM v n, StepIs s := by
  induction n using Nat.strongRecOn with
  | ind n ih =>
    intro s hs
    by_cases h : 3 ≤ n
    · rw [againM_big v n h] at hs
      rcases List.mem_cons.1 hs with rfl | hs
      · refine ⟨by simp, by simp, by simp only; omega, ?_⟩
        show (((min n 6 - 3 : Nat) : Int)).toNat < 2 ^ 2
        omega
      · exact ih _ (by omega) s hs
    · rw [againM_few v n (by omega)] at hs
      have := List.eq_of_mem_replicate hs
      subst this
      refine ⟨by simp, by simp only; omega, by simp, ?_⟩
      show (0 : Int).toNat < 2 ^ xbits _
      exact Nat.two_pow_pos _

theorem sayM_is (v n : Nat) (hv : v ≤ 15) : ∀ s ∈ sayM v n, StepIs s := by
  intro s hs
  unfold sayM at hs
  split at hs
  · exact zerosM_is n s hs
  · rcases List.mem_cons.1 hs with rfl | hs
    · refine ⟨by simp, by simp only; omega, by simp, ?_⟩
      show (0 : Int).toNat < 2 ^ xbits _
      exact Nat.two_pow_pos _
    · exact againM_is v _ hv s hs

theorem packM_is (l : List Nat) (h15 : ∀ x ∈ l, x ≤ 15) : ∀ s ∈ packM l, StepIs s := by
  induction hn : l.length using Nat.strongRecOn generalizing l with
  | ind n ih =>
    cases l with
    | nil => intro s hs; simp [packM] at hs
    | cons v r =>
      intro s hs
      rw [packM_cons] at hs
      rcases List.mem_append.1 hs with hs | hs
      · exact sayM_is v _ (h15 v (by simp)) s hs
      · exact ih (r.drop (frontN v r)).length (by simp at hn ⊢; omega) _ (fun x hx => h15 x (List.mem_cons_of_mem _ (List.mem_of_mem_drop hx))) rfl s hs

theorem packN_cast (l : List Nat) (h15 : ∀ x ∈ l, x ≤ 15) : (packN l).map (fun s => ((s.1 : Int), (s.2 : Int))) = packM l := by
  unfold packN
  rw [List.map_map]
  conv => rhs; rw [← List.map_id (packM l)]
  refine List.map_congr_left (fun s hs => ?_)
  have h := packM_is l h15 s hs
  simp only [Function.comp, id]
  rw [Int.toNat_of_nonneg h.1, Int.toNat_of_nonneg h.2.2.1]

theorem packN_length (l : List Nat) : (packN l).length ≤ l.length := by
  unfold packN
  rw [List.length_map]
  exact packM_len l

end Go.Proofs.YtofhlnpbflkdlaaDoor

/-
  The program's own way of steps: shapes, what may stand, rows of like lengths.
-/
namespace Go.Proofs.YtofhlnpbflkdlaaDoor

/-- How many lengths a step says at least, and how many bits its number has. -/
def leastM (s : Int) : Nat := if s = 16 then 3 else if s = 17 then 3 else if s = 18 then 11 else 1
def widthM (s : Int) : Nat := if s = 16 then 2 else if s = 17 then 3 else if s = 18 then 7 else 0

theorem widthM_nat (s : Nat) : widthM (s : Int) = xbits s := by
  unfold widthM xbits
  by_cases h1 : s = 16
  · subst h1; rfl
  · by_cases h2 : s = 17
    · subst h2; rfl
    · by_cases h3 : s = 18
      · subst h3; rfl
      · rw [if_neg (by omega), if_neg (by omega), if_neg (by omega), if_neg h1, if_neg h2, if_neg h3]

theorem widthM_le (s : Int) : widthM s ≤ 7 := by
  unfold widthM
  split
  · omega
  · split
    · omega
    · split <;> omega

theorem leastM_le (s : Int) : 1 ≤ leastM s ∧ leastM s ≤ 11 := by
  unfold leastM
  split
  · omega
  · split
    · omega
    · split <;> omega

/-- The length that a step says. -/
def sayV (s : Int) (l : List Nat) : Nat := if s = 16 then lastN l else if s = 17 ∨ s = 18 then 0 else s.toNat

/-- Is it a step, and may it stand where so many of n lengths were said? -/
def mayB (s : Int × Int) (said n : Nat) : Prop := 0 ≤ s.1 ∧ s.1 ≤ 18 ∧ 0 ≤ s.2 ∧ s.2 < 2 ^ widthM s.1 ∧ ¬ (s.1 = 16 ∧ said = 0) ∧ (said + leastM s.1 : Nat) + s.2 ≤ n

theorem withM_may {l : List Nat} {s : Int × Int} {n : Nat} (h : mayB s l.length n) : withM l s n = some (l ++ List.replicate (leastM s.1 + s.2.toNat) (sayV s.1 l)) := by
  obtain ⟨a, b⟩ := s
  obtain ⟨h1, h2, h3, h4, h5, h6⟩ := h
  simp only at h1 h2 h3 h4 h5 h6 ⊢
  refine withM_ok ?_ (by omega)
  unfold saysM
  simp only
  by_cases e16 : a = 16
  · subst e16
    have hw : widthM 16 = 2 := rfl
    have hl : leastM 16 = 3 := rfl
    rw [hw] at h4
    rw [if_neg (by omega), if_pos ⟨rfl, h3, by omega, by omega⟩, hl]
    simp only [sayV, if_true]
    congr 2; omega
  · by_cases e17 : a = 17
    · subst e17
      have hw : widthM 17 = 3 := rfl
      have hl : leastM 17 = 3 := rfl
      rw [hw] at h4
      rw [if_neg (by omega), if_neg (by omega), if_pos ⟨rfl, h3, by omega⟩, hl]
      simp [sayV]; omega
    · by_cases e18 : a = 18
      · subst e18
        have hw : widthM 18 = 7 := rfl
        have hl : leastM 18 = 11 := rfl
        rw [hw] at h4
        rw [if_neg (by omega), if_neg (by omega), if_neg (by omega), if_pos ⟨rfl, h3, by omega⟩, hl]
        simp [sayV]; omega
      · have hw : widthM a = 0 := by unfold widthM; rw [if_neg e16, if_neg e17, if_neg e18]
        have hl : leastM a = 1 := by unfold leastM; rw [if_neg e16, if_neg e17, if_neg e18]
        rw [hw] at h4
        have hb : b = 0 := by omega
        subst hb
        rw [if_pos ⟨h1, by omega, rfl⟩, hl]
        unfold sayV
        rw [if_neg e16, if_neg (by omega)]
        rfl

theorem withM_no {l : List Nat} {s : Int × Int} {n : Nat} (h : ¬ mayB s l.length n) : withM l s n = none := by
  cases hw : withM l s n with
  | none => rfl
  | some m =>
    exfalso
    apply h
    obtain ⟨a, b⟩ := s
    unfold withM at hw
    split at hw
    · cases hw
    · rename_i v k hs
      split at hw
      · cases hw
      · rename_i hle
        unfold saysM at hs
        simp only at hs
        unfold mayB
        simp only
        split at hs
        · rename_i h1
          simp at hs
          have hw0 : widthM a = 0 := by unfold widthM; rw [if_neg (by omega), if_neg (by omega), if_neg (by omega)]
          have hl : leastM a = 1 := by unfold leastM; rw [if_neg (by omega), if_neg (by omega), if_neg (by omega)]
          rw [hw0, hl]
          omega
        · split at hs
          · rename_i h1
            simp at hs
            obtain ⟨rfl, h1⟩ := h1
            have hw0 : widthM 16 = 2 := rfl
            have hl : leastM 16 = 3 := rfl
            rw [hw0, hl]
            omega
          · split at hs
            · rename_i h1
              simp at hs
              obtain ⟨rfl, h1⟩ := h1
              have hw0 : widthM 17 = 3 := rfl
              have hl : leastM 17 = 3 := rfl
              rw [hw0, hl]
              omega
            · split at hs
              · rename_i h1
                simp at hs
                obtain ⟨rfl, h1⟩ := h1
                have hw0 : widthM 18 = 7 := rfl
                have hl : leastM 18 = 11 := rfl
                rw [hw0, hl]
                omega
              · cases hs

/-- So many steps of one kind as there are lengths for. -/
def manyL (s : Int) (lo hi n : Nat) : List (Int × Int) :=
  if 1 ≤ lo ∧ lo ≤ hi ∧ lo ≤ n then (s, ((min n hi - lo : Nat) : Int)) :: manyL s lo hi (n - min n hi) else []
termination_by n
decreasing_by omega

/-- And how many lengths are left. -/
def manyR (lo hi n : Nat) : Nat :=
  if 1 ≤ lo ∧ lo ≤ hi ∧ lo ≤ n then manyR lo hi (n - min n hi) else n
termination_by n
decreasing_by omega

theorem manyL_more {s : Int} {lo hi n : Nat} (h1 : 1 ≤ lo) (h2 : lo ≤ hi) (h3 : lo ≤ n) : manyL s lo hi n = (s, ((min n hi - lo : Nat) : Int)) :: manyL s lo hi (n - min n hi) := by
  rw [manyL, if_pos ⟨h1, h2, h3⟩]
theorem manyL_end {s : Int} {lo hi n : Nat} (h3 : n < lo) : manyL s lo hi n = [] := by rw [manyL, if_neg (by omega)]
theorem manyR_more {lo hi n : Nat} (h1 : 1 ≤ lo) (h2 : lo ≤ hi) (h3 : lo ≤ n) : manyR lo hi n = manyR lo hi (n - min n hi) := by
  rw [manyR, if_pos ⟨h1, h2, h3⟩]
theorem manyR_end {lo hi n : Nat} (h3 : n < lo) : manyR lo hi n = n := by rw [manyR, if_neg (by omega)]

theorem many_le (s : Int) (lo hi n : Nat) (h1 : 1 ≤ lo) (h2 : lo ≤ hi) : (manyL s lo hi n).length + manyR lo hi n ≤ n ∧ manyR lo hi n < lo := by
  induction n using Nat.strongRecOn with
  | ind n ih =>
    by_cases h : lo ≤ n
    · have := ih (n - min n hi) (by omega)
      rw [manyL_more h1 h2 h, manyR_more h1 h2 h, List.length_cons]
      omega
    · rw [manyL_end (by omega), manyR_end (by omega)]
      simp; omega

theorem zerosM_many (n : Nat) : zerosM n = manyL 18 11 138 n ++ (manyL 17 3 10 (manyR 11 138 n) ++ List.replicate (manyR 3 10 (manyR 11 138 n)) (0, 0)) := by
  induction n using Nat.strongRecOn with
  | ind n ih =>
    by_cases h : 11 ≤ n
    · rw [zerosM_big n h, manyL_more (by omega) (by omega) h, manyR_more (by omega) (by omega) h, ih (n - min n 138) (by omega)]
      rfl
    · rw [manyL_end (n := n) (by omega), manyR_end (n := n) (by omega)]
      by_cases h3 : 3 ≤ n
      · rw [zerosM_mid n (by omega) h3, manyL_more (by omega) (by omega) h3, manyR_more (by omega) (by omega) h3, show min n 10 = n by omega, Nat.sub_self, manyL_end (by omega), manyR_end (by omega)]
        rfl
      · rw [zerosM_few n (by omega), manyL_end (by omega), manyR_end (by omega)]
        rfl

theorem againM_many (v n : Nat) : againM v n = manyL 16 3 6 n ++ List.replicate (manyR 3 6 n) ((v : Int), 0) := by
  induction n using Nat.strongRecOn with
  | ind n ih =>
    by_cases h : 3 ≤ n
    · rw [againM_big v n h, manyL_more (by omega) (by omega) h, manyR_more (by omega) (by omega) h, ih (n - min n 6) (by omega)]
      rfl
    · rw [againM_few v n (by omega), manyL_end (by omega), manyR_end (by omega)]
      rfl

/-- How many of the codes' lengths come: noughts at the end are left out. -/
def comeN (cs : List Nat) : Nat → Nat
  | 0 => 0
  | k + 1 => if 4 < k + 1 ∧ cs.getD (ord.getD k 0) 0 = 0 then comeN cs k else k + 1

theorem comeN_ge (cs : List Nat) (k : Nat) (h : 4 ≤ k) : 4 ≤ comeN cs k ∧ comeN cs k ≤ k := by
  induction k with
  | zero => omega
  | succ k ih =>
    rw [comeN]
    split
    · have := ih (by omega); omega
    · omega

theorem comeN_rest (cs : List Nat) (k : Nat) : ∀ j, comeN cs k ≤ j → j < k → cs.getD (ord.getD j 0) 0 = 0 := by
  induction k with
  | zero => intro j _ h; omega
  | succ k ih =>
    intro j h1 h2
    rw [comeN] at h1
    split at h1
    · rename_i h
      by_cases e : j = k
      · subst e; exact h.2
      · exact ih j h1 (by omega)
    · omega

end Go.Proofs.YtofhlnpbflkdlaaDoor

/-
  The program's within, shape, mayStand, say.
-/
namespace Go.Proofs.YtofhlnpbflkdlaaDoor
open Go.RowKit

def inB (n lo hi : Int) : Bool := decide (lo ≤ n) && decide (n ≤ hi)

set_option maxHeartbeats 1000000 in
theorem within_any (w : World) (n lo hi : Int) :
    Calls Tryd.prog 33 #[.int .i64 n, .int .i64 lo, .int .i64 hi] w fun e w' => e = .returned (.bool (inB n lo hi)) ∧ w' = w := by
  go_enter Tryd.func33, Tryd.ntmps33
  by_cases h : lo ≤ n
  · go_wp2_with fail
    go_ret
    exact ⟨by simp only [inB, h, decide_true, Bool.true_and]; rfl, rfl⟩
  · go_wp2_with fail
    go_ret
    have hd : decide (lo ≤ n) = false := by simp; omega
    exact ⟨by simp only [inB, hd, Bool.false_and]; rfl, rfl⟩

set_option maxHeartbeats 1000000 in
theorem shape_any (w : World) (s : Int) :
    Calls Tryd.prog 58 #[.int .i64 s] w fun e w' => e = .returned (.tuple #[.int .i64 (leastM s : Nat), .int .i64 (widthM s : Nat)]) ∧ w' = w := by
  by_cases h16 : s = 16
  · subst h16
    go_enter Tryd.func58, Tryd.ntmps58
    go_wp2_with fail
    go_ret2
    exact ⟨rfl, rfl⟩
  · by_cases h17 : s = 17
    · subst h17
      go_enter Tryd.func58, Tryd.ntmps58
      go_wp2_with fail
      go_ret2
      exact ⟨rfl, rfl⟩
    · by_cases h18 : s = 18
      · subst h18
        go_enter Tryd.func58, Tryd.ntmps58
        go_wp2_with fail
        go_ret2
        exact ⟨rfl, rfl⟩
      · have e16 : (s == 16) = false := by simp; omega
        have e17 : (s == 17) = false := by simp; omega
        have e18 : (s == 18) = false := by simp; omega
        have HE : Hid (leastM s = 1 ∧ widthM s = 0) := hid ⟨by unfold leastM; rw [if_neg h16, if_neg h17, if_neg h18], by unfold widthM; rw [if_neg h16, if_neg h17, if_neg h18]⟩
        clear h16 h17 h18
        go_enter Tryd.func58, Tryd.ntmps58
        go_wp2_with fail
        go_ret2
        exact ⟨by rw [HE.out.1, HE.out.2]; rfl, rfl⟩

theorem pow_le7 (n : Nat) (h : n ≤ 7) : (2 : Nat) ^ n ≤ 128 := by
  have := Nat.pow_le_pow_right (show 0 < 2 by decide) h
  simpa using this

/-- mayStand's answer. -/
def MayR (e : Ending) (s : Int × Int) (said n : Nat) : Prop := ∃ r : Bool, e = .returned (.bool r) ∧ (r = true ↔ mayB s said n)

theorem MayR.no {e : Ending} {s : Int × Int} {said n : Nat} (h : MayR e s said n) (hm : ¬ mayB s said n) : e = .returned (.bool false) := by
  obtain ⟨r, rfl, hr⟩ := h
  cases r with
  | false => rfl
  | true => exact absurd (hr.1 rfl) hm

theorem MayR.yes {e : Ending} {s : Int × Int} {said n : Nat} (h : MayR e s said n) (hm : mayB s said n) : e = .returned (.bool true) := by
  obtain ⟨r, rfl, hr⟩ := h
  rw [hr.2 hm]

set_option maxRecDepth 100000 in
set_option maxHeartbeats 2000000 in
theorem mayStand_any (w : World) (a b : Int) (said n : Nat) (hs : said ≤ 1000000) :
    Calls Tryd.prog 39 #[.agg #[.int .i64 a, .int .i64 b], .int .i64 (said : Nat), .int .i64 (n : Nat)] w fun e w' => MayR e (a, b) said n ∧ Same w w' := by
  have hw7 := widthM_le a
  have hl1 := leastM_le a
  have HSH := shape_any (w.alloc (.cells #[.int .i64 a, .int .i64 b] 31)) a
  obtain ⟨wd, hwd⟩ : ∃ x, x = widthM a := ⟨_, rfl⟩
  obtain ⟨ls, hls⟩ : ∃ x, x = leastM a := ⟨_, rfl⟩
  rw [← hwd] at HSH hw7
  rw [← hls] at HSH hl1
  have HM : Hid (mayB (a, b) said n ↔ (0 ≤ a ∧ a ≤ 18 ∧ 0 ≤ b ∧ b < 2 ^ wd ∧ ¬ (a = 16 ∧ said = 0) ∧ (said + ls : Nat) + b ≤ n)) := hid (by rw [hwd, hls]; exact Iff.rfl)
  clear hwd hls
  have hp7 := pow_le7 wd hw7
  have hp0 : 0 < 2 ^ wd := Nat.two_pow_pos wd
  obtain ⟨pw, hpw⟩ : ∃ x, x = 2 ^ wd := ⟨_, rfl⟩
  obtain ⟨pm, hpm⟩ : ∃ x : Nat, x = pw - 1 := ⟨_, rfl⟩
  rw [← hpw] at hp7 hp0
  have HM2 : Hid (mayB (a, b) said n ↔ (inB a 0 18 = true ∧ inB b 0 (pm : Int) = true ∧ ¬ (a = 16 ∧ said = 0) ∧ (said + ls : Nat) + b ≤ n)) := hid (by
    rw [HM.out]
    have : (2 : Int) ^ wd = (pw : Int) := by rw [hpw]; simp
    rw [this]
    simp only [inB, Bool.and_eq_true, decide_eq_true_eq]
    omega)
  have hshl : wrap64 ((2 : Int) ^ wd) = (pw : Int) := by
    have : (2 : Int) ^ wd = (pw : Int) := by rw [hpw]; simp
    rw [this]; unfold wrap64; omega
  have hsub : (pw : Int) - 1 = (pm : Int) := by omega
  have HW1 := fun q => within_any ((w.alloc (.cells #[.int .i64 a, .int .i64 b] 31)).drewN q) a 0 18
  have HW2 := fun q => within_any ((w.alloc (.cells #[.int .i64 a, .int .i64 b] 31)).drewN q) b 0 (pm : Int)
  clear HM hpw
  have hpm' : pm ≤ 127 := by omega
  clear hpm
  go_enter Tryd.func39, Tryd.ntmps39
  go_wp2_with fail
  refine HSH.mono ?_
  rintro e w1 ⟨rfl, rfl⟩
  clear HSH
  have HK0 : Hid (Same w (w.alloc (.cells #[.int .i64 a, .int .i64 b] 31))) := hid ((Kept.refl _ w).alloc _)
  have cB : (w.alloc (.cells #[.int .i64 a, .int .i64 b] 31)).cell? ⟨w.heap.size, 1, none⟩ = some (.int .i64 b) := by simp
  have cA : (w.alloc (.cells #[.int .i64 a, .int .i64 b] 31)).cell? ⟨w.heap.size, 0, none⟩ = some (.int .i64 a) := by simp
  generalize w.alloc (.cells #[.int .i64 a, .int .i64 b] 31) = W at *
  cases h1 : inB a 0 18 with
  | false =>
    have HE : Hid (¬ mayB (a, b) said n) := hid (fun h => by have := (HM2.out.1 h).1; rw [h1] at this; cases this)
    rw [h1] at HW1
    clear h1
    go_wp2_with fail
    go_quiet ((go_at_call 33; exact Calls.quiet_of_same (HW1 _)))
    go_wp2_with fail
    go_ret
    exact ⟨⟨false, rfl, by simp [HE.out]⟩, HK0.out.drewN _⟩
  | true =>
    rw [h1] at HW1
    cases h2 : inB b 0 (pm : Int) with
    | false =>
      have HE : Hid (¬ mayB (a, b) said n) := hid (fun h => by have := (HM2.out.1 h).2.1; rw [h2] at this; cases this)
      rw [h2] at HW2
      clear h1 h2
      go_wp2_with fail
      go_quiet ((go_at_call 33; first | (with_reducible exact Calls.quiet_of_same (HW1 _)) | (with_reducible exact Calls.quiet_of_same (HW2 _))))
      go_wp2_with fail
      go_ret
      exact ⟨⟨false, rfl, by simp [HE.out]⟩, HK0.out.drewN _⟩
    | true =>
      rw [h2] at HW2
      have hb : 0 ≤ b ∧ b ≤ (pm : Int) := by simpa [inB] using h2
      have HM3 : Hid (mayB (a, b) said n ↔ (¬ (a = 16 ∧ said = 0) ∧ (said + ls : Nat) + b ≤ n)) := hid (by rw [HM2.out, h1, h2]; simp)
      obtain ⟨bn, rfl⟩ : ∃ x : Nat, b = (x : Int) := ⟨b.toNat, by omega⟩
      have hbn : bn ≤ 127 := by omega
      obtain ⟨t, ht⟩ : ∃ t, t = said + ls := ⟨_, rfl⟩
      have htI : (said : Int) + (ls : Int) = (t : Int) := by omega
      have htw : IntKind.i64.wrap (t : Int) = (t : Int) := by rw [IntKind.wrap_i64]; omega
      obtain ⟨u, hu⟩ : ∃ u, u = t + bn := ⟨_, rfl⟩
      have huI : (t : Int) + (bn : Int) = (u : Int) := by omega
      have huw : IntKind.i64.wrap (u : Int) = (u : Int) := by rw [IntKind.wrap_i64]; omega
      have HM4 : Hid (mayB (a, (bn : Int)) said n ↔ (¬ (a = 16 ∧ said = 0) ∧ u ≤ n)) := hid (by
        rw [HM3.out]
        have : ((said + ls : Nat) : Int) + (bn : Int) ≤ (n : Int) ↔ u ≤ n := by omega
        rw [this])
      clear h1 h2 hb HM3 HM2 ht hu
      go_wp2_with fail
      go_quiet ((go_at_call 33; first | (with_reducible exact Calls.quiet_of_same (HW1 _)) | (with_reducible exact Calls.quiet_of_same (HW2 _))))
      by_cases h16 : a = 16
      · subst h16
        by_cases h0 : said = 0
        · have HE : Hid (¬ mayB (16, (bn : Int)) 0 n) := hid (fun h => (HM4.out.1 (by rw [h0]; exact h)).1 ⟨rfl, h0⟩)
          have hsd : ((said : Int) == 0) = true := by simp [h0]
          go_wp2_with fail
          go_ret
          exact ⟨⟨false, rfl, by simp [HE.out]⟩, HK0.out.drewN _⟩
        · have hsd : ((said : Int) == 0) = false := by simp [h0]
          have HE : Hid (mayB (16, (bn : Int)) said n ↔ u ≤ n) := hid (by rw [HM4.out]; simp [h0])
          clear h0
          go_wp2_with fail
          go_ret
          exact ⟨⟨_, rfl, by rw [HE.out]; simp⟩, HK0.out.drewN _⟩
      · have h16' : (a == 16) = false := by simp [h16]
        have HE : Hid (mayB (a, (bn : Int)) said n ↔ u ≤ n) := hid (by rw [HM4.out]; simp [h16])
        clear h16
        go_wp2_with fail
        go_ret
        exact ⟨⟨_, rfl, by rw [HE.out]; simp⟩, HK0.out.drewN _⟩


set_option maxRecDepth 100000 in
set_option maxHeartbeats 2000000 in
/-- say, behind a row of one's own. -/
theorem say_any (w : World) (B : Nat) (v : Value) (l : List Nat) (a b : Int) (n : Nat) (hr : NRow B w v l) (hB : B ≤ w.heap.size) (hl : l.length ≤ 1000000) (hm : mayB (a, b) l.length n) :
    Calls Tryd.prog 40 #[v, .agg #[.int .i64 a, .int .i64 b]] w fun e w' => ∃ v', e = .returned v' ∧ NRow B w' v' (l ++ List.replicate (leastM a + b.toNat) (sayV a l)) ∧ Kept (Over B) w w' := by
  obtain ⟨ao, cap, rfl, hao, _⟩ := hr.shape
  obtain ⟨h1, h2, h3, h4, h5, h6⟩ := hm
  simp only at h1 h2 h3 h4 h5 h6
  have hw7 := widthM_le a
  have hl1 := leastM_le a
  have hp7 := pow_le7 _ hw7
  have hb7 : b < 128 := by
    have : ((2 ^ widthM a : Nat) : Int) = 2 ^ widthM a := by simp
    omega
  obtain ⟨bn, rfl⟩ : ∃ x : Nat, b = (x : Int) := ⟨b.toNat, by omega⟩
  obtain ⟨an, rfl⟩ : ∃ x : Nat, a = (x : Int) := ⟨a.toNat, by omega⟩
  obtain ⟨ls, hls⟩ : ∃ x, x = leastM (an : Int) := ⟨_, rfl⟩
  have HSH := shape_any (w.alloc (.cells #[.int .i64 (an : Int), .int .i64 (bn : Int)] 31)) (an : Int)
  rw [← hls] at HSH hl1 ⊢
  rw [Int.toNat_natCast]
  obtain ⟨k, hk⟩ : ∃ k, k = ls + bn := ⟨_, rfl⟩
  have hkI : (ls : Int) + (bn : Int) = (k : Int) := by omega
  have hkw : IntKind.i64.wrap (k : Int) = (k : Int) := by rw [IntKind.wrap_i64]; omega
  rw [← hk]
  have hk138 : k ≤ 138 := by omega
  obtain ⟨x, hx⟩ : ∃ x, x = sayV (an : Int) l := ⟨_, rfl⟩
  rw [← hx]
  have HR : Hid (NRow B (w.alloc (.cells #[.int .i64 (an : Int), .int .i64 (bn : Int)] 31)) (.slice ao l.length cap) l) := hid (World.ownsRow.alloc hr _)
  have HK0 : Hid (Kept (Over B) w (w.alloc (.cells #[.int .i64 (an : Int), .int .i64 (bn : Int)] 31))) := hid ((Kept.refl _ w).alloc _)
  have cB : (w.alloc (.cells #[.int .i64 (an : Int), .int .i64 (bn : Int)] 31)).cell? ⟨w.heap.size, 1, none⟩ = some (.int .i64 (bn : Int)) := by simp
  have cA : (w.alloc (.cells #[.int .i64 (an : Int), .int .i64 (bn : Int)] 31)).cell? ⟨w.heap.size, 0, none⟩ = some (.int .i64 (an : Int)) := by simp
  have hsz : B ≤ (w.alloc (.cells #[.int .i64 (an : Int), .int .i64 (bn : Int)] 31)).heap.size := by simp; omega
  have HLOOP : ∀ W : World, W = w.alloc (.cells #[.int .i64 (an : Int), .int .i64 (bn : Int)] 31) → True := fun _ _ => trivial
  clear HLOOP
  obtain ⟨L, hL⟩ : ∃ L, L = l.length := ⟨_, rfl⟩
  have HL : Hid (L = l.length) := hL
  have HAO : Hid (l ≠ [] → ∃ g, ao = some ⟨g, 0, none⟩) := hao
  have H5 : Hid (¬ ((an : Int) = 16 ∧ l.length = 0)) := h5
  have HX : Hid (x = sayV (an : Int) l) := hx
  rw [← hL] at HR hl ⊢
  clear hr hls hk hx hL h3 h4 h5 h6 hw7 hp7 hb7 hao h1
  go_enter Tryd.func40, Tryd.ntmps40
  go_wp2_with fail
  refine HSH.mono ?_
  rintro e w1 ⟨rfl, hw1⟩
  subst hw1
  clear HSH
  generalize w.alloc (.cells #[.int .i64 (an : Int), .int .i64 (bn : Int)] 31) = W at *
  by_cases h16 : an = 16
  · subst h16
    have hL0 : 0 < L := by have := HL.out; have := H5.out; omega
    have hl0 : 0 < l.length := by have := HL.out; omega
    obtain ⟨b2, o2, cap2, e2, _, _, c2⟩ := (SrcE.ofRow HR.out).get (l.length - 1) (by omega)
    simp only [Value.slice.injEq] at e2
    obtain ⟨rfl, hxe, rfl⟩ := e2
    clear hxe
    have hle : l[l.length - 1] = x := by rw [HX.out]; simp [sayV, lastN, List.getD, show l.length - 1 < l.length by omega]
    rw [hle, ← HL.out] at c2
    unfold natV at c2
    obtain ⟨m, hm⟩ : ∃ m, m = L - 1 := ⟨_, rfl⟩
    rw [← hm] at c2
    have hmI : (L : Int) - 1 = (m : Int) := by omega
    have hmL : m < L := by omega
    have hwm : IntKind.i64.wrap (m : Int) = (m : Int) := by rw [IntKind.wrap_i64]; omega
    clear hm hle hl0 hL0
    go_wp2_with fail
    go_loopg [0, 32] k (fun q zv zi wr => ∃ (i : Nat), k - i ≤ q ∧ i ≤ k ∧ zi = .int .i64 (i : Nat) ∧ Hid (NRow B wr zv (l ++ List.replicate i x)) ∧ Hid (Kept (Over B) w wr))
    case atStart => exact ⟨0, by omega, by omega, rfl, hid (by simpa using HR.out), HK0⟩
    case round =>
      clear HR HK0 cA cB
      obtain ⟨i, hq, hi, rfl, HV, HK⟩ := hrel
      by_cases hlt : i < k
      · have hsz2 := HK.out.size
        have HLN : Hid ((l ++ List.replicate i x).length + [x].length ≤ 1000000000) := hid (by have := HL.out; simp; omega)
        go_wp2_with (at_builtin; refine wpList_append_e _ natV natV_one B 22 3 (natV 0) 8 Tryd.underlying22 Tryd.infoN rfl (by decide) rfl (.tmp 34) (.tmp 36) rfl u0 (l ++ List.replicate i x) rfl (World.ownsRow.alloc HV.out _) ⟨wr.heap.size, 0, none⟩ 1 1 [x] rfl rfl (cellsAt_new _ _ _) HLN.out (by simp; omega) ?_; intro v5 w5 hr5 hg5)
        have HV5 : Hid (NRow B w5 v5 (l ++ List.replicate (i + 1) x)) := hid (by rw [List.replicate_succ', ← List.append_assoc]; exact hr5)
        have HK5 : Hid (Kept (Over B) w w5) := hid ((HK.out.alloc _).grown hg5 (fun j e => .inl (HV.out.ge e)))
        clear hr5 hg5
        go_wp2_with fail
        go_roundg (gk - 1)
        case measure => omega
        case rel => exact ⟨i + 1, by omega, by omega, by go_num, HV5, HK5⟩
      · have hik : i = k := by omega
        subst hik
        go_wp2_with fail
        go_ret
        exact ⟨_, rfl, HV.out, HK.out⟩
  · have e16 : ((an : Int) == 16) = false := by simp; omega
    by_cases h17 : an = 17
    · subst h17
      have hx0 : x = 0 := by rw [HX.out]; simp [sayV]
      subst hx0
      go_wp2_with fail
      go_loopg [0, 32] k (fun q zv zi wr => ∃ (i : Nat), k - i ≤ q ∧ i ≤ k ∧ zi = .int .i64 (i : Nat) ∧ Hid (NRow B wr zv (l ++ List.replicate i 0)) ∧ Hid (Kept (Over B) w wr))
      case atStart => exact ⟨0, by omega, by omega, rfl, hid (by simpa using HR.out), HK0⟩
      case round =>
        clear HR HK0 cA cB
        obtain ⟨i, hq, hi, rfl, HV, HK⟩ := hrel
        by_cases hlt : i < k
        · have hsz2 := HK.out.size
          have HLN : Hid ((l ++ List.replicate i 0).length + [0].length ≤ 1000000000) := hid (by have := HL.out; simp; omega)
          go_wp2_with (at_builtin; refine wpList_append_e _ natV natV_one B 22 3 (natV 0) 8 Tryd.underlying22 Tryd.infoN rfl (by decide) rfl (.tmp 34) (.tmp 36) rfl u0 (l ++ List.replicate i 0) rfl (World.ownsRow.alloc HV.out _) ⟨wr.heap.size, 0, none⟩ 1 1 [0] rfl rfl (cellsAt_new _ _ _) HLN.out (by simp; omega) ?_; intro v5 w5 hr5 hg5)
          have HV5 : Hid (NRow B w5 v5 (l ++ List.replicate (i + 1) 0)) := hid (by rw [List.replicate_succ', ← List.append_assoc]; exact hr5)
          have HK5 : Hid (Kept (Over B) w w5) := hid ((HK.out.alloc _).grown hg5 (fun j e => .inl (HV.out.ge e)))
          clear hr5 hg5
          go_wp2_with fail
          go_roundg (gk - 1)
          case measure => omega
          case rel => exact ⟨i + 1, by omega, by omega, by go_num, HV5, HK5⟩
        · have hik : i = k := by omega
          subst hik
          go_wp2_with fail
          go_ret
          exact ⟨_, rfl, HV.out, HK.out⟩
    · have e17 : ((an : Int) == 17) = false := by simp; omega
      by_cases h18 : an = 18
      · subst h18
        have hx0 : x = 0 := by rw [HX.out]; simp [sayV]
        subst hx0
        go_wp2_with fail
        go_loopg [0, 32] k (fun q zv zi wr => ∃ (i : Nat), k - i ≤ q ∧ i ≤ k ∧ zi = .int .i64 (i : Nat) ∧ Hid (NRow B wr zv (l ++ List.replicate i 0)) ∧ Hid (Kept (Over B) w wr))
        case atStart => exact ⟨0, by omega, by omega, rfl, hid (by simpa using HR.out), HK0⟩
        case round =>
          clear HR HK0 cA cB
          obtain ⟨i, hq, hi, rfl, HV, HK⟩ := hrel
          by_cases hlt : i < k
          · have hsz2 := HK.out.size
            have HLN : Hid ((l ++ List.replicate i 0).length + [0].length ≤ 1000000000) := hid (by have := HL.out; simp; omega)
            go_wp2_with (at_builtin; refine wpList_append_e _ natV natV_one B 22 3 (natV 0) 8 Tryd.underlying22 Tryd.infoN rfl (by decide) rfl (.tmp 34) (.tmp 36) rfl u0 (l ++ List.replicate i 0) rfl (World.ownsRow.alloc HV.out _) ⟨wr.heap.size, 0, none⟩ 1 1 [0] rfl rfl (cellsAt_new _ _ _) HLN.out (by simp; omega) ?_; intro v5 w5 hr5 hg5)
            have HV5 : Hid (NRow B w5 v5 (l ++ List.replicate (i + 1) 0)) := hid (by rw [List.replicate_succ', ← List.append_assoc]; exact hr5)
            have HK5 : Hid (Kept (Over B) w w5) := hid ((HK.out.alloc _).grown hg5 (fun j e => .inl (HV.out.ge e)))
            clear hr5 hg5
            go_wp2_with fail
            go_roundg (gk - 1)
            case measure => omega
            case rel => exact ⟨i + 1, by omega, by omega, by go_num, HV5, HK5⟩
          · have hik : i = k := by omega
            subst hik
            go_wp2_with fail
            go_ret
            exact ⟨_, rfl, HV.out, HK.out⟩
      · have e18 : ((an : Int) == 18) = false := by simp; omega
        have hx0 : x = an := by rw [HX.out]; unfold sayV; rw [if_neg (by omega), if_neg (by omega)]; simp
        clear h16 h17 h18
        subst hx0
        go_wp2_with fail
        go_loopg [0, 32] k (fun q zv zi wr => ∃ (i : Nat), k - i ≤ q ∧ i ≤ k ∧ zi = .int .i64 (i : Nat) ∧ Hid (NRow B wr zv (l ++ List.replicate i x)) ∧ Hid (Kept (Over B) w wr))
        case atStart => exact ⟨0, by omega, by omega, rfl, hid (by simpa using HR.out), HK0⟩
        case round =>
          clear HR HK0 cA cB
          obtain ⟨i, hq, hi, rfl, HV, HK⟩ := hrel
          by_cases hlt : i < k
          · have hsz2 := HK.out.size
            have HLN : Hid ((l ++ List.replicate i x).length + [x].length ≤ 1000000000) := hid (by have := HL.out; simp; omega)
            go_wp2_with (at_builtin; refine wpList_append_e _ natV natV_one B 22 3 (natV 0) 8 Tryd.underlying22 Tryd.infoN rfl (by decide) rfl (.tmp 34) (.tmp 36) rfl u0 (l ++ List.replicate i x) rfl (World.ownsRow.alloc HV.out _) ⟨wr.heap.size, 0, none⟩ 1 1 [x] rfl rfl (cellsAt_new _ _ _) HLN.out (by simp; omega) ?_; intro v5 w5 hr5 hg5)
            have HV5 : Hid (NRow B w5 v5 (l ++ List.replicate (i + 1) x)) := hid (by rw [List.replicate_succ', ← List.append_assoc]; exact hr5)
            have HK5 : Hid (Kept (Over B) w w5) := hid ((HK.out.alloc _).grown hg5 (fun j e => .inl (HV.out.ge e)))
            clear hr5 hg5
            go_wp2_with fail
            go_roundg (gk - 1)
            case measure => omega
            case rel => exact ⟨i + 1, by omega, by omega, by go_num, HV5, HK5⟩
          · have hik : i = k := by omega
            subst hik
            go_wp2_with fail
            go_ret
            exact ⟨_, rfl, HV.out, HK.out⟩

end Go.Proofs.YtofhlnpbflkdlaaDoor

/-
  The program's alike, and whether lengths may be.
-/
namespace Go.Proofs.YtofhlnpbflkdlaaDoor
open Go.RowKit

theorem inB_bad (z : Int) : (!inB z 0 15) = badI 0 15 z := by
  unfold inB badI
  by_cases h1 : 0 ≤ z
  · by_cases h2 : z ≤ 15
    · have h3 : ¬ z < 0 := by omega
      have h4 : ¬ 15 < z := by omega
      simp [h1, h2, h3, h4]
    · have h3 : ¬ z < 0 := by omega
      have h4 : 15 < z := by omega
      simp [h1, h2, h3, h4]
  · have h3 : z < 0 := by omega
    simp [h1, h3]

set_option maxHeartbeats 1000000 in
theorem lwrong_any (w : World) (z : Int) :
    Calls Tryd.prog 32 #[.int .i64 z] w fun e w' => e = .returned (.bool (badI 0 15 z)) ∧ w' = w := by
  have HW := within_any w z 0 15
  go_enter Tryd.func32, Tryd.ntmps32
  go_wp2_with fail
  refine HW.mono ?_
  rintro e w1 ⟨rfl, hw1⟩
  subst hw1
  clear HW
  go_wp2_with fail
  go_ret
  exact ⟨by rw [← inB_bad]; rfl, rfl⟩

abbrev lwrongV : Value := .func (.func 32) #[] #[]

set_option maxHeartbeats 1000000 in
theorem lindex_any (w : World) (v : Value) (I : Nat → Prop) (zs : List Int) (hs : SrcE intV w I v zs) (hn : zs.length ≤ 10000000) :
    Calls Tryd.prog 55 #[v, lwrongV] w fun e w' => (∃ z : Int, e = .returned (.int .i64 z) ∧ decide (0 ≤ z) = zs.any (badI 0 15)) ∧ w' = w := by
  obtain ⟨ao, cap, rfl, hx1, hx2⟩ := id hs
  clear hx1 hx2
  have HS : Hid (SrcE intV w I (.slice ao zs.length cap) zs) := hs
  clear hs
  go_enter Tryd.func55, Tryd.ntmps55
  go_wp2_with fail
  go_loopg [8] zs.length (fun k z wr => ∃ i : Nat, zs.length - i ≤ k ∧ i ≤ zs.length ∧ z = .int .i64 (i : Nat) ∧ Hid ((zs.take i).any (badI 0 15) = false) ∧ wr = w)
  case atStart => exact ⟨0, by omega, by omega, rfl, hid (by simp), rfl⟩
  case round =>
    obtain ⟨i, hk, hil, rfl, HF, hw⟩ := hrel
    subst hw
    by_cases hlt : i < zs.length
    · obtain ⟨b, o, cap2, e, _, _, hc⟩ := HS.out.get i hlt
      simp only [Value.slice.injEq] at e
      obtain ⟨rfl, hxe, rfl⟩ := e
      clear hxe
      obtain ⟨x, hx⟩ : ∃ x, x = zs[i] := ⟨_, rfl⟩
      rw [← hx] at hc
      unfold intV at hc
      have HX : Hid (x = zs[i]) := hx
      have HC := lwrong_any wr x
      clear hx
      cases hb : badI 0 15 x with
      | true =>
        rw [hb] at HC
        have HB : Hid (badI 0 15 x = true) := hb
        clear hb
        go_wp2_with fail
        refine HC.mono ?_
        rintro e w2 ⟨rfl, hw2⟩
        subst hw2
        clear HC
        go_wp2_with fail
        go_ret
        refine ⟨⟨_, rfl, ?_⟩, rfl⟩
        have h1 : zs.any (badI 0 15) = true := List.any_eq_true.2 ⟨x, by rw [HX.out]; exact List.getElem_mem _, HB.out⟩
        rw [h1]; simp
      | false =>
        rw [hb] at HC
        have HB : Hid (badI 0 15 x = false) := hb
        clear hb
        go_wp2_with fail
        refine HC.mono ?_
        rintro e w2 ⟨rfl, hw2⟩
        subst hw2
        clear HC
        go_wp2_with fail
        go_roundg (gk - 1)
        case measure => omega
        case rel =>
          refine ⟨i + 1, by omega, by omega, by go_num, hid ?_, rfl⟩
          rw [List.take_succ_eq_append_getElem hlt, List.any_append, HF.out, ← HX.out]
          simp [HB.out]
    · have : i = zs.length := by omega
      subst this
      go_wp2_with fail
      go_ret
      refine ⟨⟨_, rfl, ?_⟩, rfl⟩
      have h := HF.out
      rw [List.take_of_length_le (Nat.le_refl _)] at h
      rw [h]; simp

set_option maxHeartbeats 1000000 in
theorem lcontains_any (w : World) (v : Value) (I : Nat → Prop) (zs : List Int) (hs : SrcE intV w I v zs) (hn : zs.length ≤ 10000000) :
    Calls Tryd.prog 34 #[v, lwrongV] w fun e w' => e = .returned (.bool (!lensOk zs)) ∧ w' = w := by
  have H := lindex_any w v I zs hs hn
  clear hs
  go_enter Tryd.func34, Tryd.ntmps34
  go_wp2_with fail
  refine H.mono ?_
  rintro e w2 ⟨⟨z, rfl, hz⟩, hw⟩
  subst hw
  have HZ : Hid (decide (0 ≤ z) = zs.any (badI 0 15)) := hz
  clear hz H
  go_wp2_with fail
  go_ret
  refine ⟨?_, rfl⟩
  unfold lensOk
  rw [Bool.not_not, ← HZ.out]; rfl

set_option maxHeartbeats 1000000 in
theorem lother_any (w : World) (q b o n cap x y : Nat) (hq : w.cell? ⟨q, 0, none⟩ = some (.slice (some ⟨b, o, none⟩) n cap)) (hn : 0 < n) (hb : w.cell? ⟨b, o, none⟩ = some (.int .i64 (y : Nat))) :
    Calls Tryd.prog 56 #[.int .i64 (x : Nat), .pointer (some ⟨q, 0, none⟩)] w fun e w' => e = .returned (.bool (!decide (x = y))) ∧ w' = w := by
  go_enter Tryd.func56, Tryd.ntmps56
  by_cases h : x = y
  · subst h
    go_wp2_with fail
    go_ret
    exact ⟨by simp, rfl⟩
  · have hne : ((x : Int) == (y : Int)) = false := by simp; omega
    have HH : Hid ((!decide (x = y)) = true ∧ ¬ (x : Int) = (y : Int)) := hid ⟨by simp [h], by omega⟩
    clear h
    go_wp2_with fail
    go_ret
    exact ⟨by rw [HH.out.1]; simp [HH.out.2], rfl⟩

abbrev lotherV (q : Nat) : Value := .func (.func 56) #[] #[.pointer (some ⟨q, 0, none⟩)]

set_option maxHeartbeats 1000000 in
theorem lfirst_any (w : World) (b o cap q y : Nat) (I : Nat → Prop) (ns : List Nat) (hs : SrcE natV w I (.slice (some ⟨b, o, none⟩) ns.length cap) ns) (hn : ns.length ≤ 1000000) (h0 : 0 < ns.length) (hy : ns[0] = y)
    (hq : w.cell? ⟨q, 0, none⟩ = some (.slice (some ⟨b, o, none⟩) ns.length cap)) :
    Calls Tryd.prog 55 #[.slice (some ⟨b, o, none⟩) ns.length cap, lotherV q] w fun e w' => ((e = .returned (.int .i64 (-1)) ∧ ∀ j (_ : j < ns.length), ns[j] = y) ∨ ∃ i, e = .returned (.int .i64 (i : Nat)) ∧ ∃ h : i < ns.length, ns[i] ≠ y ∧ ∀ j (_ : j < ns.length), j < i → ns[j] = y) ∧ w' = w := by
  have c0 : w.cell? ⟨b, o, none⟩ = some (.int .i64 (y : Nat)) := by
    obtain ⟨b', o', cap', e, _, _, c⟩ := hs.get 0 h0
    simp only [Value.slice.injEq, Option.some.injEq, Addr.mk.injEq, and_true] at e
    obtain ⟨⟨rfl, rfl⟩, _, _⟩ := e
    rw [hy] at c
    exact c
  have HS : Hid (SrcE natV w I (.slice (some ⟨b, o, none⟩) ns.length cap) ns) := hs
  clear hs hy
  go_enter Tryd.func55, Tryd.ntmps55
  go_wp2_with fail
  go_loopg [8] ns.length (fun k z wr => ∃ i : Nat, ns.length - i ≤ k ∧ i ≤ ns.length ∧ z = .int .i64 (i : Nat) ∧ Hid (∀ j (_ : j < ns.length), j < i → ns[j] = y) ∧ wr = w)
  case atStart => exact ⟨0, by omega, by omega, rfl, hid (fun j _ h => by omega), rfl⟩
  case round =>
    obtain ⟨i, hk, hil, rfl, HF, hw⟩ := hrel
    subst hw
    by_cases hlt : i < ns.length
    · obtain ⟨b', o', cap2, e, _, _, hc⟩ := HS.out.get i hlt
      simp only [Value.slice.injEq, Option.some.injEq, Addr.mk.injEq, and_true] at e
      obtain ⟨⟨rfl, rfl⟩, hxe, rfl⟩ := e
      clear hxe
      obtain ⟨x, hx⟩ : ∃ x, x = ns[i] := ⟨_, rfl⟩
      rw [← hx] at hc
      unfold natV at hc
      have HX : Hid (x = ns[i]) := hx
      have HC := lother_any wr q b o ns.length cap x y hq h0 c0
      clear hx
      by_cases hb : x = y
      · have HB : Hid (x = y) := hb
        have hd : (!decide (x = y)) = false := by simp [hb]
        rw [hd] at HC
        clear hb hd
        go_wp2_with fail
        refine HC.mono ?_
        rintro e w2 ⟨rfl, hw2⟩
        subst hw2
        clear HC
        go_wp2_with fail
        go_roundg (gk - 1)
        case measure => omega
        case rel =>
          refine ⟨i + 1, by omega, by omega, by go_num, hid (fun j hj hji => ?_), rfl⟩
          by_cases e : j = i
          · subst e; rw [← HX.out, HB.out]
          · exact HF.out j hj (by omega)
      · have HB : Hid (x ≠ y) := hb
        have hd : (!decide (x = y)) = true := by simp [hb]
        rw [hd] at HC
        clear hb hd
        go_wp2_with fail
        refine HC.mono ?_
        rintro e w2 ⟨rfl, hw2⟩
        subst hw2
        clear HC
        go_wp2_with fail
        go_ret
        exact ⟨.inr ⟨i, rfl, hlt, by rw [← HX.out]; exact HB.out, HF.out⟩, rfl⟩
    · have : i = ns.length := by omega
      subst this
      go_wp2_with fail
      go_ret
      exact ⟨.inl ⟨rfl, fun j hj => HF.out j hj hj⟩, rfl⟩

theorem front_of {y : Nat} {r : List Nat} {n : Nat} (h : (n = (y :: r).length ∧ ∀ j (_ : j < (y :: r).length), (y :: r)[j] = y) ∨ ∃ h : n < (y :: r).length, (y :: r)[n] ≠ y ∧ ∀ j (_ : j < (y :: r).length), j < n → (y :: r)[j] = y) : n = 1 + frontN y r := by
  rcases h with ⟨h1, h2⟩ | ⟨h1, h2, h3⟩
  · have := frontN_is y r r.length (fun j hj _ => by have := h2 (j + 1) (by simpa using hj); rw [List.getElem_cons_succ] at this; exact this) (Nat.le_refl _) (fun h => by omega)
    rw [this, h1]
    simp; omega
  · cases n with
    | zero => simp at h2
    | succ n =>
      have := frontN_is y r n (fun j hj hjn => by have := h3 (j + 1) (by simpa using hj) (by omega); rw [List.getElem_cons_succ] at this; exact this) (by simp at h1; omega) (fun _ => by simpa using h2)
      rw [this]
      omega

set_option maxHeartbeats 1000000 in
theorem alike_any (w : World) (b o cap : Nat) (I : Nat → Prop) (y : Nat) (r : List Nat) (hs : SrcE natV w I (.slice (some ⟨b, o, none⟩) (y :: r).length cap) (y :: r)) (hn : (y :: r).length ≤ 1000000) :
    Calls Tryd.prog 35 #[.slice (some ⟨b, o, none⟩) (y :: r).length cap] w fun e w' => e = .returned (.int .i64 ((1 + frontN y r : Nat) : Int)) ∧ Same w w' := by
  obtain ⟨W, hW⟩ : ∃ W, W = w.alloc (.cells #[.slice (some ⟨b, o, none⟩) (y :: r).length cap] 22) := ⟨_, rfl⟩
  have HK : Hid (Same w W) := hid (by rw [hW]; exact (Kept.refl _ w).alloc _)
  have hq : W.cell? ⟨w.heap.size, 0, none⟩ = some (.slice (some ⟨b, o, none⟩) (y :: r).length cap) := by rw [hW]; simp
  have HC := lfirst_any W b o cap w.heap.size y I (y :: r) (hs.same HK.out) hn (by simp) rfl hq
  have HC2 : Calls Tryd.prog 55 #[.slice (some ⟨b, o, none⟩) (y :: r).length cap, lotherV w.heap.size] W fun e w' => ((e = .returned (.int .i64 (-1)) ∧ (y :: r).length = 1 + frontN y r) ∨ ∃ i : Nat, e = .returned (.int .i64 (i : Nat)) ∧ i = 1 + frontN y r) ∧ w' = W := HC.mono (by
    rintro e w' ⟨h, hw⟩
    refine ⟨?_, hw⟩
    rcases h with ⟨h1, h2⟩ | ⟨i, h1, h2, h3, h4⟩
    · exact .inl ⟨h1, front_of (.inl ⟨rfl, h2⟩)⟩
    · exact .inr ⟨i, h1, front_of (.inr ⟨h2, h3, h4⟩)⟩)
  clear HC
  obtain ⟨L, hL⟩ : ∃ L, L = (y :: r).length := ⟨_, rfl⟩
  rw [← hL] at HC2 hq hW ⊢
  obtain ⟨f, hf⟩ : ∃ f, f = 1 + frontN y r := ⟨_, rfl⟩
  rw [← hf] at HC2 ⊢
  clear hs hL hn hf
  go_enter Tryd.func35, Tryd.ntmps35
  go_wp2_with fail
  rw [← hW]
  clear hW
  go_wp2_with fail
  refine HC2.mono ?_
  rintro e w2 ⟨h, hw2⟩
  subst hw2
  clear HC2
  rcases h with ⟨rfl, hLf⟩ | ⟨i, rfl, hif⟩
  · subst hLf
    go_wp2_with fail
    go_ret
    exact ⟨rfl, HK.out⟩
  · subst hif
    go_wp2_with fail
    go_ret
    exact ⟨rfl, HK.out⟩

end Go.Proofs.YtofhlnpbflkdlaaDoor

/-
  The reference's Read, walked.
-/
namespace Go.Proofs.YtofhlnpbflkdlaaDoor
open Go.RowKit

set_option maxRecDepth 100000 in
set_option maxHeartbeats 8000000 in
theorem rread_any (w : World) (v : Value) (I : Nat → Prop) (ls : List Nat) (a : Nat) (hs : Src w I v ls) (hIb : ∀ k, I k → k < w.heap.size) (hb : ∀ b ∈ ls, b < 2) (ha : a ≤ ls.length) (hlen : ls.length ≤ 100000000) :
    Calls Tryd.prog 25 #[v, .int .i64 (a : Nat)] w fun r w' => ReadA w w' r (readF ls a) := by
  obtain ⟨ao, cap, rfl, hsa⟩ := id hs
  clear hsa
  have HS : Hid (Src w I (.slice ao ls.length cap) ls) := hs
  have HI : Hid (∀ k, I k → k < w.heap.size) := hIb
  have HB : Hid (∀ b ∈ ls, b < 2) := hb
  obtain ⟨M, hM⟩ : ∃ M, M = ls.length := ⟨_, rfl⟩
  rw [← hM] at HS ha hlen ⊢
  have HM : Hid (M = ls.length) := hM
  clear hs hIb hb hM
  have HOR : Hid (SrcE natV (w.alloc (.cells #[.int .i64 16, .int .i64 17, .int .i64 18, .int .i64 0, .int .i64 8, .int .i64 7, .int .i64 9, .int .i64 6, .int .i64 10, .int .i64 5, .int .i64 11, .int .i64 4, .int .i64 12, .int .i64 3, .int .i64 13, .int .i64 2, .int .i64 14, .int .i64 1, .int .i64 15] 3)) (fun k => k = w.heap.size) (.slice (some ⟨w.heap.size, 0, none⟩) 19 19) ord) := src_nats w ord 19 rfl
  have HK0 : Hid (Same w (w.alloc (.cells #[.int .i64 16, .int .i64 17, .int .i64 18, .int .i64 0, .int .i64 8, .int .i64 7, .int .i64 9, .int .i64 6, .int .i64 10, .int .i64 5, .int .i64 11, .int .i64 4, .int .i64 12, .int .i64 3, .int .i64 13, .int .i64 2, .int .i64 14, .int .i64 1, .int .i64 15] 3))) := (Kept.refl _ w).alloc _
  have hz0 : (w.alloc (.cells #[.int .i64 16, .int .i64 17, .int .i64 18, .int .i64 0, .int .i64 8, .int .i64 7, .int .i64 9, .int .i64 6, .int .i64 10, .int .i64 5, .int .i64 11, .int .i64 4, .int .i64 12, .int .i64 3, .int .i64 13, .int .i64 2, .int .i64 14, .int .i64 1, .int .i64 15] 3)).heap.size = w.heap.size + 1 := by simp
  go_enter Tryd.func25, Tryd.ntmps25
  go_upto_region 2 with fail
  generalize w.alloc (.cells #[.int .i64 16, .int .i64 17, .int .i64 18, .int .i64 0, .int .i64 8, .int .i64 7, .int .i64 9, .int .i64 6, .int .i64 10, .int .i64 5, .int .i64 11, .int .i64 4, .int .i64 12, .int .i64 3, .int .i64 13, .int .i64 2, .int .i64 14, .int .i64 1, .int .i64 15] 3) = wO at *
  have HHA : Hid (HdB (wO.alloc (.cells #[.slice ao M cap, .int .i64 (a : Nat), .int .i64 0] 76)) wO.heap.size (.slice ao M cap) a 0) := Blk.new wO _ _
  have HKA : Hid (Same w (wO.alloc (.cells #[.slice ao M cap, .int .i64 (a : Nat), .int .i64 0] 76))) := hid (HK0.out.alloc _)
  have HOA : Hid (SrcE natV (wO.alloc (.cells #[.slice ao M cap, .int .i64 (a : Nat), .int .i64 0] 76)) (fun k => k = w.heap.size) (.slice (some ⟨w.heap.size, 0, none⟩) 19 19) ord) := hid (HOR.out.same ((Kept.refl _ wO).alloc _))
  go_upto_region 3 with fail
  generalize wO.alloc (.cells #[.slice ao M cap, .int .i64 (a : Nat), .int .i64 0] 76) = wA at *
  obtain ⟨h, hh⟩ : ∃ h, h = w.heap.size + 1 := ⟨_, rfl⟩
  rw [hz0, ← hh] at HHA
  rw [← hh]
  have HHW : Hid (h = w.heap.size + 1) := hh
  clear hh hz0 HOR HK0
  have HTK := fun (wx : World) (c e n : Nat) (hk : Same w wx) (hH : HdB wx h (.slice ao M cap) c e) (hn : n ≤ 32) (hc : c ≤ M) => htake_any wx h (.slice ao M cap) I ls c e n hH (HS.out.kept hk (fun _ _ _ f => f)) HB.out hn (by have := HM.out; omega) (by have := HM.out; omega)
  have HT : Hid (∀ (wx : World) (c e n : Nat), Same w wx → HdB wx h (.slice ao M cap) c e → n ≤ 32 → c ≤ M → Calls Tryd.prog 48 #[.pointer (some ⟨h, 0, none⟩), .int .i64 (n : Nat)] wx fun r w' => r = .returned (.int .i64 ((hTake ls c e n).1 : Nat)) ∧ HdB w' h (.slice ao M cap) (hTake ls c e n).2.1 (hTake ls c e n).2.2 ∧ Kept (· = h) wx w') := HTK
  clear HTK
  -- three numbers
  have T1 := HT.out wA a 0 5 HKA.out HHA.out (by decide) ha
  obtain ⟨x1, c1, e1, ht1⟩ : ∃ x c e, hTake ls a 0 5 = (x, c, e) := ⟨_, _, _, rfl⟩
  have hc1 : c1 ≤ M := by have := hTake_le ls a 0 5 (by have := HM.out; omega); rw [ht1] at this; have := HM.out; simp only at *; omega
  rw [ht1] at T1
  have HT1 : Hid (hTake ls a 0 5 = (x1, c1, e1)) := ht1
  have hx1 : x1 ≤ 31 := by
    have := numAt_lt ls HB.out a 5
    unfold hTake at ht1
    split at ht1
    · simp at ht1; omega
    · split at ht1
      · simp at ht1; omega
      · simp at ht1; omega
  clear ht1
  go_wp2_with fail
  refine T1.mono ?_
  rintro r w1 ⟨rfl, hh1, hk1⟩
  have HK1 : Hid (Same w w1) := hid (Same.then HKA.out hk1 (fun x hx e => by have := HHW.out; omega))
  have HH1 : Hid (HdB w1 h (.slice ao M cap) c1 e1) := hh1
  have HO1 : Hid (SrcE natV w1 (fun k => k = w.heap.size) (.slice (some ⟨w.heap.size, 0, none⟩) 19 19) ord) := hid (HOA.out.kept hk1 (fun k hk _ e => by have := HHW.out; omega))
  clear hh1 hk1 T1 HHA HOA HKA
  have T2 := HT.out w1 c1 e1 5 HK1.out HH1.out (by decide) hc1
  obtain ⟨x2, c2, e2, ht2⟩ : ∃ x c e, hTake ls c1 e1 5 = (x, c, e) := ⟨_, _, _, rfl⟩
  have hc2 : c2 ≤ M := by have := hTake_le ls c1 e1 5 (by have := HM.out; omega); rw [ht2] at this; have := HM.out; simp only at *; omega
  rw [ht2] at T2
  have HT2 : Hid (hTake ls c1 e1 5 = (x2, c2, e2)) := ht2
  have hx2 : x2 ≤ 31 := by
    have := numAt_lt ls HB.out c1 5
    unfold hTake at ht2
    split at ht2
    · simp at ht2; omega
    · split at ht2
      · simp at ht2; omega
      · simp at ht2; omega
  clear ht2
  go_wp2_with fail
  refine T2.mono ?_
  rintro r w2 ⟨rfl, hh2, hk2⟩
  have HK2 : Hid (Same w w2) := hid (Same.then HK1.out hk2 (fun x hx e => by have := HHW.out; omega))
  have HH2 : Hid (HdB w2 h (.slice ao M cap) c2 e2) := hh2
  have HO2 : Hid (SrcE natV w2 (fun k => k = w.heap.size) (.slice (some ⟨w.heap.size, 0, none⟩) 19 19) ord) := hid (HO1.out.kept hk2 (fun k hk _ e => by have := HHW.out; omega))
  clear hh2 hk2 T2 HH1 HO1
  have T3 := HT.out w2 c2 e2 4 HK2.out HH2.out (by decide) hc2
  obtain ⟨x3, c3, e3, ht3⟩ : ∃ x c e, hTake ls c2 e2 4 = (x, c, e) := ⟨_, _, _, rfl⟩
  have hc3 : c3 ≤ M := by have := hTake_le ls c2 e2 4 (by have := HM.out; omega); rw [ht3] at this; have := HM.out; simp only at *; omega
  rw [ht3] at T3
  have HT3 : Hid (hTake ls c2 e2 4 = (x3, c3, e3)) := ht3
  have hx3 : x3 ≤ 15 := by
    have := numAt_lt ls HB.out c2 4
    unfold hTake at ht3
    split at ht3
    · simp at ht3; omega
    · split at ht3
      · simp at ht3; omega
      · simp at ht3; omega
  clear ht3
  go_wp2_with fail
  refine T3.mono ?_
  rintro r w3 ⟨rfl, hh3, hk3⟩
  have HK3 : Hid (Same w w3) := hid (Same.then HK2.out hk3 (fun x hx e => by have := HHW.out; omega))
  have HH3 : Hid (HdB w3 h (.slice ao M cap) c3 e3) := hh3
  have HO3 : Hid (SrcE natV w3 (fun k => k = w.heap.size) (.slice (some ⟨w.heap.size, 0, none⟩) 19 19) ord) := hid (HO2.out.kept hk3 (fun k hk _ e => by have := HHW.out; omega))
  clear hh3 hk3 T3 HH2 HO2
  have k2 := HH3.out.cell 2
  simp at k2
  by_cases hfit : M < a + 14
  · have he3 : e3 = 10 := hTake_three ls a (by have := HM.out; omega) (x1, c1, e1) (x2, c2, e2) (x3, c3, e3) HT1.out HT2.out HT3.out
    have HE : Hid (readF ls a = .error 10) := hid (by unfold readF; rw [if_pos (by have := HM.out; omega)])
    subst he3
    clear hfit
    go_wp2_with fail
    go_quiet (fail)
    go_wp2_with fail
    refine bodyPost_ret (v := .tuple #[.slice none 0 0, .slice none 0 0, .int .i64 0, .int .i64 10]) (by simp [results, Tryd.results25, go_sem]) rfl ?_
    rw [HE.out]
    exact ⟨rfl, HK3.out.drewN _⟩
  · have hV : x1 = numAt ls a 5 ∧ x2 = numAt ls (a + 5) 5 ∧ x3 = numAt ls (a + 10) 4 ∧ c3 = a + 14 ∧ e3 = 0 := by
      have h1 := HT1.out
      rw [hTake_ok (by have := HM.out; omega)] at h1
      simp only [Prod.mk.injEq] at h1
      obtain ⟨rfl, rfl, rfl⟩ := h1
      have h2 := HT2.out
      rw [hTake_ok (by have := HM.out; omega)] at h2
      simp only [Prod.mk.injEq] at h2
      obtain ⟨rfl, rfl, rfl⟩ := h2
      have h3 := HT3.out
      rw [hTake_ok (by have := HM.out; omega)] at h3
      simp only [Prod.mk.injEq] at h3
      obtain ⟨rfl, rfl, rfl⟩ := h3
      exact ⟨rfl, rfl, rfl, rfl, rfl⟩
    have HV : Hid (x1 = numAt ls a 5 ∧ x2 = numAt ls (a + 5) 5 ∧ x3 = numAt ls (a + 10) 4) := hid ⟨hV.1, hV.2.1, hV.2.2.1⟩
    have hc3' : c3 = a + 14 := hV.2.2.2.1
    have he3 : e3 = 0 := hV.2.2.2.2
    have HC3 : Hid (c3 = a + 14) := hc3'
    subst he3
    clear hV hc3' HT1 HT2 HT3
    obtain ⟨lit, hlit⟩ : ∃ lit, lit = x1 + 257 := ⟨_, rfl⟩
    obtain ⟨dist, hdist⟩ : ∃ dist, dist = x2 + 1 := ⟨_, rfl⟩
    obtain ⟨many, hmany⟩ : ∃ many, many = x3 + 4 := ⟨_, rfl⟩
    have hlI : (x1 : Int) + 257 = (lit : Int) := by omega
    have hdI : (x2 : Int) + 1 = (dist : Int) := by omega
    have hmI : (x3 : Int) + 4 = (many : Int) := by omega
    have HRF : Hid (readF ls a = (if 286 < lit ∨ 30 < dist then .error 40
      else if M < a + 14 + 3 * many then .error 10
      else if chkN (codesF ls (a + 14) many) ≠ 0 then .error (chkN (codesF ls (a + 14) many))
      else match bodyF (codesF ls (a + 14) many) ls (lit + dist) (lit + dist) [] (a + 14 + 3 * many) with
        | .error e => .error e
        | .ok (l, c) => .ok ((l.take lit, l.drop lit), c - a))) := hid (by
      unfold readF
      rw [if_neg (by have := HM.out; omega), hlit, hdist, hmany, HV.out.1, HV.out.2.1, HV.out.2.2, HM.out]
      rfl)
    have hml : many ≤ 19 ∧ lit ≤ 288 ∧ dist ≤ 32 := by omega
    clear hlit hdist hmany HV hfit
    by_cases hbig : 286 < lit
    · have HE : Hid (readF ls a = .error 40) := hid (by rw [HRF.out, if_pos (.inl hbig)])
      have b1 : decide ((286 : Int) < (lit : Int)) = true := by simp; omega
      go_wp2_with fail
      refine bodyPost_ret (v := .tuple #[.slice none 0 0, .slice none 0 0, .int .i64 0, .int .i64 40]) (by simp [results, Tryd.results25, go_sem]) rfl ?_
      rw [HE.out]
      exact ⟨rfl, HK3.out⟩
    · have b1 : decide ((286 : Int) < (lit : Int)) = false := by simp; omega
      by_cases hbig2 : 30 < dist
      · have HE : Hid (readF ls a = .error 40) := hid (by rw [HRF.out, if_pos (.inr hbig2)])
        have b2 : decide ((30 : Int) < (dist : Int)) = true := by simp; omega
        go_wp2_with fail
        refine bodyPost_ret (v := .tuple #[.slice none 0 0, .slice none 0 0, .int .i64 0, .int .i64 40]) (by simp [results, Tryd.results25, go_sem]) rfl ?_
        rw [HE.out]
        exact ⟨rfl, HK3.out⟩
      · have b2 : decide ((30 : Int) < (dist : Int)) = false := by simp; omega
        have HRG : Hid (readF ls a = (if M < a + 14 + 3 * many then .error 10
          else if chkN (codesF ls (a + 14) many) ≠ 0 then .error (chkN (codesF ls (a + 14) many))
          else match bodyF (codesF ls (a + 14) many) ls (lit + dist) (lit + dist) [] (a + 14 + 3 * many) with
            | .error e => .error e
            | .ok (l, c) => .ok ((l.take lit, l.drop lit), c - a))) := hid (by rw [HRF.out, if_neg (by omega)])
        have hld : lit ≤ 286 ∧ dist ≤ 30 := by omega
        have hhz : h < w3.heap.size := HH3.out.lt
        clear hbig hbig2 HRF
        go_wp2_with (at_make; refine wpList_make_e _ natV 0 w3.heap.size 22 3 8 Tryd.underlying22 Tryd.infoN rfl (by decide) rfl _ _ rfl _ _ _ _ 19 rfl rfl rfl rfl (by omega) (Nat.le_refl _) ?_; intro w4 hr4 hg4 hs4; have HR4 : Hid (NRow w3.heap.size w4 (.slice (some ⟨w3.heap.size, 0, none⟩) 19 19) (codesF ls (a + 14) 0)) := hr4; have HKN : Hid (Same w3 w4) := hid ((Kept.refl _ w3).grown hg4 (by simp)); clear hr4 hg4)
        obtain ⟨gC, hgC⟩ : ∃ g, g = w3.heap.size := ⟨_, rfl⟩
        rw [← hgC] at HR4 hhz ⊢
        have hwh : w.heap.size < gC := by have := HHW.out; omega
        have hwh1 : w.heap.size < h := by have := HHW.out; omega
        have HK4 : Hid (Same w w4) := hid (Same.trans HK3.out HKN.out)
        have HH4 : Hid (HdB w4 h (.slice ao M cap) c3 0) := hid (HH3.out.kept HKN.out (fun f => f))
        have HO4 : Hid (SrcE natV w4 (fun k => k = w.heap.size) (.slice (some ⟨w.heap.size, 0, none⟩) 19 19) ord) := hid (HO3.out.same HKN.out)
        clear hgC HH3 HO3 k2 b1 b2 HKN
        go_loopg [14] many (fun q zi wr => ∃ (i c e : Nat) (xs : List Nat), many - i ≤ q ∧ i ≤ many ∧ zi = .int .i64 (i : Nat) ∧ c ≤ M ∧ Hid (HdB wr h (.slice ao M cap) c e) ∧ Hid (NRow gC wr (.slice (some ⟨gC, 0, none⟩) 19 19) xs) ∧ Hid (CodesAt ls a i c e xs) ∧ Hid (SrcE natV wr (fun k => k = w.heap.size) (.slice (some ⟨w.heap.size, 0, none⟩) 19 19) ord) ∧ Hid (Same w wr))
        case atStart => exact ⟨0, c3, 0, _, by omega, by omega, rfl, hc3, HH4, HR4, hid (.inl ⟨by have := HM.out; have := HC3.out; omega, by have := HC3.out; omega, rfl, rfl⟩), HO4, HK4⟩
        case round =>
          clear HR4 HH4 HO4 HK4
          obtain ⟨i, c, e, xs, hq, hi, rfl, hcM, HHr, HRr, HCr, HOr, HKr⟩ := hrel
          by_cases hlt : i < many
          · obtain ⟨b, o, cap2, e2, _, _, cO⟩ := HOr.out.get i (by show i < 19; omega)
            simp only [Value.slice.injEq, Option.some.injEq, Addr.mk.injEq, and_true] at e2
            obtain ⟨⟨rfl, rfl⟩, hxe, rfl⟩ := e2
            clear hxe
            obtain ⟨oi, hoi⟩ : ∃ oi, oi = ord.getD i 0 := ⟨_, rfl⟩
            have hio : i < ord.length := by show i < 19; omega
            have hog : ord[i] = oi := by rw [hoi]; simp [List.getD, hio]
            rw [hog, Nat.zero_add] at cO
            unfold natV at cO
            have ho18 : oi ≤ 18 := by rw [hoi]; exact ord_le i (by omega)
            obtain ⟨x, c', e', ht⟩ : ∃ x c' e', hTake ls c e 3 = (x, c', e') := ⟨_, _, _, rfl⟩
            have HTX0 := HT.out wr.drew c e 3 HKr.out.drew HHr.out (by decide) hcM
            rw [ht] at HTX0
            have HTX : Hid (Calls Tryd.prog 48 #[.pointer (some ⟨h, 0, none⟩), .int .i64 3] wr.drew fun r w' => r = .returned (.int .i64 (x : Nat)) ∧ HdB w' h (.slice ao M cap) c' e' ∧ Kept (· = h) wr.drew w') := HTX0
            have hc'M : c' ≤ M := by have := hTake_le ls c e 3 (by have := HM.out; omega); rw [ht] at this; have := HM.out; simp only at *; omega
            have HCN : Hid (CodesAt ls a (i + 1) c' e' (xs.set oi x)) := hid (by rw [hoi]; exact HCr.out.next ht)
            have hxl : xs.length = 19 := HRr.out.len
            have HXL : Hid (xs.length = 19) := hxl
            have hgh : ¬ gC = h := by omega
            have hwh2 : ¬ w.heap.size = h := by omega
            have hi19 : i < 19 := by omega
            have ho19 : oi < 19 := by omega
            have HCO : Hid (wr.cell? ⟨w.heap.size, i, none⟩ = some (.int .i64 (oi : Nat))) := cO
            clear hoi hio hog HTX0 ht hxl ho18
            go_wp2_with fail
            go_region_with (go_at_call 48; refine HTX.out.mono ?_; rintro r w5 ⟨rfl, hh5, hk5⟩; have cO5 : w5.cell? ⟨w.heap.size, i, none⟩ = some (.int .i64 (oi : Nat)) := hk5.cell HCO.out hwh2; have hr5 : NRow gC w5 (.slice (some ⟨gC, 0, none⟩) 19 19) xs := RowE.kept (show NRow gC wr.drew (.slice (some ⟨gC, 0, none⟩) 19 19) xs from HRr.out) hk5 (fun k hk e => by simp [Value.ownBlock] at hk; omega); have cS5 := hr5.cell oi (by have := HXL.out; omega); have fS5 := hr5.frozen oi; have HR5 : Hid (NRow gC w5 (.slice (some ⟨gC, 0, none⟩) 19 19) xs) := hr5; have HH5 : Hid (HdB w5 h (.slice ao M cap) c' e') := hh5; have HK5 : Hid (Kept (· = h) wr w5) := hid ⟨hk5.os, hk5.tape, hk5.output, hk5.size, hk5.block⟩; clear hr5 hh5 hk5)
            all_goals
              have HR6 : Hid (NRow gC (w5.setCell ⟨gC, oi, none⟩ (.int .i64 (x : Nat))) (.slice (some ⟨gC, 0, none⟩) 19 19) (xs.set oi x)) := hid (HR5.out.lay oi x)
              have HKS : Hid (Kept (· = gC) w5 (w5.setCell ⟨gC, oi, none⟩ (.int .i64 (x : Nat)))) := hid ((Kept.refl (· = gC) w5).setCell ⟨gC, oi, none⟩ _ (.inl rfl))
              have HH6 : Hid (HdB (w5.setCell ⟨gC, oi, none⟩ (.int .i64 (x : Nat))) h (.slice ao M cap) c' e') := hid (HH5.out.kept HKS.out (fun e => by omega))
              have HO6 : Hid (SrcE natV (w5.setCell ⟨gC, oi, none⟩ (.int .i64 (x : Nat))) (fun k => k = w.heap.size) (.slice (some ⟨w.heap.size, 0, none⟩) 19 19) ord) := hid ((HOr.out.kept HK5.out (fun k hk _ e => by omega)).kept HKS.out (fun k hk _ e => by omega))
              have HK6 : Hid (Same w (w5.setCell ⟨gC, oi, none⟩ (.int .i64 (x : Nat)))) := hid (Same.then (Same.then HKr.out HK5.out (fun x hx e => by omega)) HKS.out (fun x hx e => by omega))
              go_wp2_with fail
              go_roundg (gk - 1)
              case measure => omega
              case rel => exact ⟨i + 1, c', e', _, by omega, by omega, by go_num, hc'M, HH6, HR6, HCN, HO6, HK6⟩
          · have him : i = many := by omega
            subst him
            have hlt' : decide (i < i) = false := by simp
            clear hlt hq hi
            obtain ⟨w4, hw4⟩ : ∃ w4, w4 = wr := ⟨_, rfl⟩
            subst hw4
            have k2 := HHr.out.cell 2
            simp at k2
            by_cases hfit : M < a + 14 + 3 * i
            · have he : e = 10 := by
                rcases HCr.out with ⟨h1, _⟩ | ⟨_, h2⟩
                · have := HM.out; omega
                · exact h2
              have HE : Hid (readF ls a = .error 10) := hid (by rw [HRG.out, if_pos hfit])
              subst he
              clear hfit
              go_wp2_with fail
              go_quiet (fail)
              go_wp2_with fail
              refine bodyPost_ret (v := .tuple #[.slice none 0 0, .slice none 0 0, .int .i64 0, .int .i64 10]) (by simp [results, Tryd.results25, go_sem]) rfl ?_
              rw [HE.out]
              exact ⟨rfl, HKr.out.drewN _⟩
            · have hce : c = a + 14 + 3 * i ∧ e = 0 ∧ xs = codesF ls (a + 14) i := by
                rcases HCr.out with ⟨_, h1, h2, h3⟩ | ⟨h1, _⟩
                · exact ⟨h1, h2, h3⟩
                · have := HM.out; omega
              obtain ⟨hce1, rfl, hxs⟩ := hce
              have HCC : Hid (c = a + 14 + 3 * i) := hce1
              have h7 := codesF_le ls HB.out (a + 14) i
              have hl19 := codesF_length ls (a + 14) i
              rw [← hxs] at h7 hl19
              have HRH : Hid (readF ls a = (if chkN xs ≠ 0 then .error (chkN xs)
                else match bodyF xs ls (lit + dist) (lit + dist) [] c with
                  | .error e => .error e
                  | .ok (l, c) => .ok ((l.take lit, l.drop lit), c - a))) := hid (by rw [HRG.out, if_neg hfit, hxs, hce1])
              have HCK := rcheck_any w4 (.slice (some ⟨gC, 0, none⟩) 19 19) _ (xs.map (fun (n : Nat) => (n : Int))) (SrcE.recode (enc' := intV) (SrcE.ofRow HRr.out) (by rw [List.map_map]; rfl)) (by rw [List.length_map]; omega)
              rw [chk_codes xs hl19 h7] at HCK
              have HX7 : Hid ((∀ x ∈ xs, x ≤ 7) ∧ xs.length = 19) := ⟨h7, hl19⟩
              obtain ⟨ck, hck⟩ : ∃ ck, ck = chkN xs := ⟨_, rfl⟩
              rw [← hck] at HCK
              have hac : a ≤ c := by omega
              clear hce1 hxs hfit HRG HCr h7 hl19
              go_wp2_with fail
              clear hlt'
              refine HCK.mono ?_
              rintro r w5 ⟨rfl, hw5⟩
              subst hw5
              clear HCK
              by_cases hck0 : ck = 0
              · have hm : measure xs ≤ 32768 := by
                  rw [hck] at hck0
                  unfold chkN at hck0
                  split at hck0
                  · omega
                  · omega
                have HRO := rows_any w5 (.slice (some ⟨gC, 0, none⟩) 19 19) _ xs (SrcE.ofRow HRr.out) (by have := HX7.out.2; omega) (fun n hn => by have := HX7.out.1 n hn; omega) hm
                rw [HX7.out.2] at HRO
                have HRI : Hid (readF ls a = (match bodyF xs ls (lit + dist) (lit + dist) [] c with
                  | .error e => .error e
                  | .ok (l, c) => .ok ((l.take lit, l.drop lit), c - a))) := hid (by rw [HRH.out, if_neg (by omega)])
                rw [hck0]
                clear hck hck0 hm HRH
                go_wp2_with fail
                refine HRO.mono ?_
                rintro r w6 ⟨go, rs, rfl, hrw⟩
                have hgoR : w5.heap.size ≤ go := hrw.row.ge rfl
                have hh5 : h < w5.heap.size := HHr.out.lt
                have HRW6 : Hid (RW w w6 go 19 xs (fun s => key xs s ≠ 0) rs) := hid (hrw.down HKr.out)
                have HOFF : Hid (RowsOff w go xs rs h) := hid ⟨by omega, by omega, fun s hs hp e => by have := (hrw.have' s hs hp).2 h e; omega⟩
                have HH6 : Hid (HdB w6 h (.slice ao M cap) c 0) := hid (HHr.out.kept hrw.same (fun f => f))
                have HK6 : Hid (Same w w6) := hid (Same.trans HKr.out hrw.same)
                clear hrw HRO HRr HOr HHr HKr k2
                obtain ⟨N, hN⟩ : ∃ N, N = lit + dist := ⟨_, rfl⟩
                have hNI : (lit : Int) + (dist : Int) = (N : Int) := by omega
                have hN316 : N ≤ 316 := by omega
                have hlN : lit < N ∨ dist = 0 := by omega
                rw [← hN] at HRI
                have HN : Hid (N = lit + dist) := hN
                clear hN
                go_wp2_with fail
                go_loopg [17] N (fun q zl wr => ∃ (f c2 : Nat) (l : List Nat), f ≤ q ∧ N - l.length ≤ f ∧ l.length ≤ N ∧ c2 ≤ M ∧ a ≤ c2 ∧ Hid (bodyF xs ls N N [] c = bodyF xs ls N f l c2) ∧ Hid (∀ x ∈ l, x ≤ 15) ∧ Hid (NRow w.heap.size wr zl l) ∧ Hid (zl.ownBlock ≠ some h ∧ True) ∧ Hid (HdB wr h (.slice ao M cap) c2 0) ∧ Hid (RW w wr go 19 xs (fun s => key xs s ≠ 0) rs) ∧ Hid (Same w wr))
                case atStart => exact ⟨N, c, [], by omega, by simp, by simp, hcM, hac, hid rfl, hid (by simp), RowE.nil, hid ⟨by simp [Value.ownBlock], trivial⟩, HH6, HRW6, HK6⟩
                case round =>
                  clear HH6 HRW6 HK6
                  obtain ⟨f, c2, l, hfq, hfN, hlle, hc2M, hac2, HBD, H15, HL, HOL, HHr, HRW, HKr⟩ := hrel
                  obtain ⟨al, capl, hvl, hal, hal0, hlc, _⟩ := HL.out.shape
                  subst hvl
                  obtain ⟨Ln, hLn⟩ : ∃ Ln, Ln = l.length := ⟨_, rfl⟩
                  rw [← hLn] at HL hfN hlle hlc HOL ⊢
                  have HLn : Hid (Ln = l.length) := hLn
                  by_cases hlt : Ln < N
                  · obtain ⟨f', rfl⟩ : ∃ f', f = f' + 1 := ⟨f - 1, by omega⟩
                    have HST := hstep_any wr w h (.slice ao M cap) I ls c2 go 19 xs rs HHr.out (HS.out.kept HKr.out (fun _ _ _ g => g)) (fun k hk e => by have := HI.out k hk; have := HHW.out; omega) HB.out (by have := HM.out; omega) (by have := HM.out; omega) HRW.out HX7.out.2.symm (by decide) (fun s => by
                      by_cases e : s < xs.length
                      · rw [key_get e]; have := HX7.out.1 _ (List.getElem_mem e); omega
                      · simp [key, e]) HOFF.out
                    cases hsf : stepF xs ls c2 with
                    | error er =>
                      rw [hsf] at HST
                      have HE : Hid (readF ls a = .error er) := hid (by rw [HRI.out, HBD.out, bodyF_err (by omega) hsf])
                      clear hLn hsf
                      go_wp2_with fail
                      refine HST.mono ?_
                      rintro r w7 ⟨⟨ea, eb, ec, rfl, hh7, hne⟩, hk7⟩
                      have k2 := hh7.cell 2
                      simp at k2
                      have hh7l := hh7.lt
                      have HK7 : Hid (Same w w7) := hid (Same.then HKr.out hk7 (fun x hx e => by omega))
                      have hed : ((er : Int) != 0) = true := by simp; omega
                      have hnh : h ≠ w7.heap.size := by omega
                      have hnh2 : w7.heap.size ≠ h := by omega
                      clear hh7 hk7 hne HST
                      go_wp2_with fail
                      go_quiet (fail)
                      go_wp2_with fail
                      refine bodyPost_ret (v := .tuple #[.slice none 0 0, .slice none 0 0, .int .i64 0, .int .i64 (er : Nat)]) (by simp [results, Tryd.results25, go_sem]) rfl ?_
                      rw [HE.out]
                      exact ⟨rfl, (HK7.out.alloc _).drewN _⟩
                    | ok p =>
                      obtain ⟨⟨sy, ex⟩, c4⟩ := p
                      rw [hsf] at HST
                      have h4M := stepF_le hsf
                      have h4a := stepF_ge hsf
                      have HBS : Hid (bodyF xs ls N N [] c = match withM l ((sy : Int), (ex : Int)) N with | none => .error 41 | some m => bodyF xs ls N f' m c4) := hid (by rw [HBD.out, bodyF_step (by omega) hsf]; all_goals rfl)
                      clear hLn hsf
                      go_wp2_with fail
                      refine HST.mono ?_
                      rintro r w7 ⟨⟨rfl, hh7⟩, hk7⟩
                      have k2 := hh7.cell 2
                      simp at k2
                      have hh7l := hh7.lt
                      have HH7 : Hid (HdB w7 h (.slice ao M cap) c4 0) := hh7
                      have HK7 : Hid (Same w w7) := hid (Same.then HKr.out hk7 (fun x hx e => by omega))
                      have hlk : ∀ k, (Value.slice al Ln capl).ownBlock = some k → k ≠ h := fun k hk e => HOL.out.1 (by rw [hk, e])
                      have HL7 : Hid (NRow w.heap.size w7 (.slice al Ln capl) l) := hid (HL.out.kept hk7 hlk)
                      have HRW7 : Hid (RW w w7 go 19 xs (fun s => key xs s ≠ 0) rs) := hid (HRW.out.off HOFF.out hk7)
                      have hnh : h ≠ w7.heap.size := by omega
                      have hnh2 : w7.heap.size ≠ h := by omega
                      have HK8 : Hid (Same w7 (w7.alloc (.cells #[.int .i64 (sy : Nat), .int .i64 (ex : Nat)] 31))) := (Kept.refl _ w7).alloc _
                      have hs8 : (w7.alloc (.cells #[.int .i64 (sy : Nat), .int .i64 (ex : Nat)] 31)).heap.size = w7.heap.size + 1 := by simp
                      have HS8 : Hid ((w7.alloc (.cells #[.int .i64 (sy : Nat), .int .i64 (ex : Nat)] 31)).heap.size = w7.heap.size + 1) := hs8
                      clear hh7 hk7 HST hlk hs8
                      cases hwm : withM l ((sy : Int), (ex : Int)) N with
                      | none =>
                        have HE : Hid (readF ls a = .error 41) := hid (by rw [HRI.out, HBS.out, hwm])
                        have HW := with_no (w7.alloc (.cells #[.int .i64 (sy : Nat), .int .i64 (ex : Nat)] 31)) w.heap.size (.slice al Ln capl) l (sy : Int) (ex : Int) N (HL7.out.same HK8.out) (by have := HLn.out; omega) H15.out (by omega) hwm
                        clear hwm
                        go_wp2_with fail
                        refine HW.mono ?_
                        rintro r w9 ⟨rfl, hk9⟩
                        have HK9 : Hid (Same w w9) := hid (Same.trans HK7.out (Same.trans HK8.out hk9))
                        clear hk9 HW
                        go_wp2_with fail
                        refine bodyPost_ret (v := .tuple #[.slice none 0 0, .slice none 0 0, .int .i64 0, .int .i64 41]) (by simp [results, Tryd.results25, go_sem]) rfl ?_
                        rw [HE.out]
                        exact ⟨rfl, HK9.out⟩
                      | some m =>
                        have hgr := withM_grows hwm H15.out
                        have HBM : Hid (bodyF xs ls N N [] c = bodyF xs ls N f' m c4) := hid (by rw [HBS.out, hwm])
                        have H15m : Hid (∀ x ∈ m, x ≤ 15) := hid hgr.2.2
                        have hml : Ln < m.length ∧ m.length ≤ N := by have := HLn.out; omega
                        have HW := with_yes (w7.alloc (.cells #[.int .i64 (sy : Nat), .int .i64 (ex : Nat)] 31)) w.heap.size (.slice al Ln capl) l m (sy : Int) (ex : Int) N (HL7.out.same HK8.out) (by have := HLn.out; omega) H15.out (by omega) hwm
                        have h4M2 : c4 ≤ M := by have := HM.out; omega
                        clear hwm hgr h4M
                        go_wp2_with fail
                        refine HW.mono ?_
                        rintro r w9 ⟨v9, rfl, hn9⟩
                        have HK9 : Hid (Same w w9) := hid (Same.trans HK7.out (Same.trans HK8.out hn9.same))
                        have HL9 : Hid (NRow w.heap.size w9 v9 m) := hid (RowE.base hn9.row (by have h1 := HS8.out; have h2 := HK7.out.size; omega))
                        have HOL9 : Hid (v9.ownBlock ≠ some h ∧ True) := hid ⟨fun e => by have h1 := hn9.row.ge e; have h2 := HS8.out; omega, trivial⟩
                        have HH9 : Hid (HdB w9 h (.slice ao M cap) c4 0) := hid (HH7.out.kept (Same.trans HK8.out hn9.same) (fun f => f))
                        have HRW9 : Hid (RW w w9 go 19 xs (fun s => key xs s ≠ 0) rs) := hid (HRW7.out.later (Same.trans HK8.out hn9.same))
                        clear hn9 HW
                        go_wp2_with fail
                        go_roundg (gk - 1)
                        case measure => omega
                        case rel => exact ⟨f', c4, m, by omega, by omega, by omega, by omega, by omega, HBM, H15m, HL9, HOL9, HH9, HRW9, HK9⟩
                  · have hlN2 : Ln = N := by omega
                    have hlt' : decide (Ln < N) = false := by simp; omega
                    have HEND : Hid (readF ls a = .ok ((l.take lit, l.drop lit), c2 - a)) := hid (by rw [HRI.out, HBD.out, bodyF_end (by omega)])
                    obtain ⟨gl, hgl⟩ := hal (by intro e; rw [e] at hLn; simp at hLn; omega)
                    subst hgl
                    have hglb : w.heap.size ≤ gl := HL.out.ge rfl
                    have k1 := HHr.out.cell 1
                    simp at k1
                    obtain ⟨n, hn⟩ : ∃ n, n = c2 - a := ⟨_, rfl⟩
                    have hnI : (c2 : Int) - (a : Int) = (n : Int) := by omega
                    have hwn : IntKind.i64.wrap (n : Int) = (n : Int) := by rw [IntKind.wrap_i64]; omega
                    have hlitc : lit ≤ capl := by omega
                    have hlitL : lit ≤ Ln := by omega
                    have hlitc2 : lit < capl := by omega
                    have HSA : Hid (SrcE natV wr (fun k => w.heap.size ≤ k) (.slice (some ⟨gl, 0, none⟩) lit capl) (l.take lit)) := hid (by
                      have h0 := (SrcE.ofRow HL.out).mono (J := fun k => w.heap.size ≤ k) (fun k hk => by simp [Value.ownBlock] at hk; omega)
                      rw [hLn] at h0
                      exact h0.part lit (by omega))
                    have HSB : Hid (SrcE natV wr (fun k => w.heap.size ≤ k) (.slice (some ⟨gl, lit, none⟩) (Ln - lit) (capl - lit)) (l.drop lit)) := hid (by
                      have h0 := (SrcE.ofRow HL.out).mono (J := fun k => w.heap.size ≤ k) (fun k hk => by simp [Value.ownBlock] at hk; omega)
                      rw [hLn] at h0 ⊢
                      exact h0.tail lit lit (by omega) (fun _ => by omega))
                    rw [← hn] at HEND
                    clear hn hlt hLn hlN2
                    go_wp2_with fail
                    go_quiet (fail)
                    go_wp2_with fail
                    refine bodyPost_ret (v := .tuple #[.slice (some ⟨gl, 0, none⟩) lit capl, .slice (some ⟨gl, lit, none⟩) (Ln - lit) (capl - lit), .int .i64 (n : Nat), .int .i64 0]) (by simp [results, Tryd.results25, go_sem]) rfl ?_
                    rw [HEND.out]
                    exact ⟨⟨_, _, rfl, HSA.out.kept ((Kept.refl (fun _ => False) wr).drewN _) (fun _ _ _ f => f), HSB.out.kept ((Kept.refl (fun _ => False) wr).drewN _) (fun _ _ _ f => f)⟩, HKr.out.drewN _⟩
              · have hckd : ((ck : Int) != 0) = true := by simp; omega
                have HE : Hid (readF ls a = .error ck) := hid (by rw [HRH.out, if_pos (by omega), hck])
                clear hck hck0
                go_wp2_with fail
                refine bodyPost_ret (v := .tuple #[.slice none 0 0, .slice none 0 0, .int .i64 0, .int .i64 (ck : Nat)]) (by simp [results, Tryd.results25, go_sem]) rfl ?_
                rw [HE.out]
                exact ⟨rfl, HKr.out⟩

end Go.Proofs.YtofhlnpbflkdlaaDoor
