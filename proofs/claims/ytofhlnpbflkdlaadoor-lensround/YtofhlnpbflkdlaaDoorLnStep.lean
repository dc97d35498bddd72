/-
  The reference's head: step.
-/
import Derived.Test.YtofhlnpbflkdlaaDoorLnHead
import Derived.Deep.RegionLaw
namespace Go.Proofs.YtofhlnpbflkdlaaDoor
open Go.RowKit

theorem RW.kept {F : Nat → Prop} {w0 w' w2 : World} {go n : Nat} {ns : List Nat} {p : Nat → Prop} {rs : List (Option Addr × Nat × Nat)} (h : RW w0 w' go n ns p rs) (hk : Kept F w' w2) (h1 : ∀ k, k < w0.heap.size → ¬ F k) (h2 : ¬ F go) (h3 : ∀ s (hs : s < rs.length), p s → ∀ k, (slV rs[s]).ownBlock = some k → ¬ F k) : RW w0 w2 go n ns p rs :=
  ⟨h.row.kept hk (fun k e => by simp [Value.ownBlock] at e; subst e; exact h2), fun s hs hp => ⟨(h.have' s hs hp).1.kept hk (fun k e => h3 s hs hp k e), (h.have' s hs hp).2⟩, h.none', Same.then h.same hk h1⟩

/-- The blocks of the rows lie apart from one. -/
def RowsOff (w0 : World) (go : Nat) (ns : List Nat) (rs : List (Option Addr × Nat × Nat)) (h : Nat) : Prop := w0.heap.size ≤ h ∧ go ≠ h ∧ ∀ s (hs : s < rs.length), key ns s ≠ 0 → (slV rs[s]).ownBlock ≠ some h

theorem RW.off {w0 w' w2 : World} {go n h : Nat} {ns : List Nat} {rs : List (Option Addr × Nat × Nat)} (hr : RW w0 w' go n ns (fun s => key ns s ≠ 0) rs) (ho : RowsOff w0 go ns rs h) (hk : Kept (· = h) w' w2) : RW w0 w2 go n ns (fun s => key ns s ≠ 0) rs :=
  hr.kept hk (fun k hk e => by have := ho.1; omega) ho.2.1 (fun s hs hp k e e2 => by subst e2; exact ho.2.2 s hs hp e)

/-- A step's answer. -/
def StepA (h : Nat) (v : Value) (w' : World) (r : Ending) : Except Nat ((Nat × Nat) × Nat) → Prop
  | .error er => ∃ (a b : Int) (c : Nat), r = .returned (.agg #[.int .i64 a, .int .i64 b]) ∧ HdB w' h v c er ∧ er ≠ 0
  | .ok ((s, x), c) => r = .returned (.agg #[.int .i64 (s : Nat), .int .i64 (x : Nat)]) ∧ HdB w' h v c 0

theorem stepA_of {h : Nat} {v : Value} {wF : World} {r : Ending} {ns ls : List Nat} {c is k x c2 e2 : Nat} (hnf : nextF ns (ls.drop c) = (is, k, 0)) (ht : hTake ls (c + k) 0 (xbits is) = (x, c2, e2)) (hr : r = .returned (.agg #[.int .i64 (is : Nat), .int .i64 (x : Nat)])) (hh : HdB wF h v c2 e2) : StepA h v wF r (stepF ns ls c) := by
  unfold stepF
  rw [hnf]
  simp only
  unfold hTake at ht
  rw [if_neg (by simp)] at ht
  rw [if_neg (by simp)]
  by_cases hl : ls.length < c + k + xbits is
  · rw [if_pos hl] at ht ⊢
    simp only [Prod.mk.injEq] at ht
    obtain ⟨rfl, rfl, rfl⟩ := ht
    exact ⟨_, _, _, hr, hh, by decide⟩
  · rw [if_neg hl] at ht ⊢
    simp only [Prod.mk.injEq] at ht
    obtain ⟨rfl, rfl, rfl⟩ := ht
    exact ⟨hr, hh⟩

theorem stepA_err {h : Nat} {v : Value} {wF : World} {r : Ending} {ns ls : List Nat} {c is k g c2 : Nat} (hnf : nextF ns (ls.drop c) = (is, k, g)) (hg : g ≠ 0) (a b : Int) (hr : r = .returned (.agg #[.int .i64 a, .int .i64 b])) (hh : HdB wF h v c2 g) : StepA h v wF r (stepF ns ls c) := by
  unfold stepF
  rw [hnf]
  simp only
  rw [if_pos hg]
  exact ⟨a, b, c2, hr, hh, hg⟩

set_option maxRecDepth 100000 in
set_option maxHeartbeats 4000000 in
theorem hstep_any (w w0 : World) (h : Nat) (v : Value) (I : Nat → Prop) (ls : List Nat) (c go L : Nat) (ns : List Nat) (rs : List (Option Addr × Nat × Nat)) (hH : HdB w h v c 0) (hs : Src w I v ls) (hI : ∀ k, I k → k ≠ h) (hb : ∀ b ∈ ls, b < 2) (hc : c ≤ ls.length) (hlen : ls.length ≤ 100000000)
    (hR : RW w0 w go L ns (fun s => key ns s ≠ 0) rs) (hL : L = ns.length) (hl288 : L ≤ 288) (h15 : ∀ s, key ns s ≤ 15) (ho : RowsOff w0 go ns rs h) :
    Calls Tryd.prog 51 #[.pointer (some ⟨h, 0, none⟩), .slice (some ⟨go, 0, none⟩) L L] w fun r w' => StepA h v w' r (stepF ns ls c) ∧ Kept (· = h) w w' := by
  obtain ⟨ao, cap, rfl, hsa⟩ := id hs
  clear hsa
  have HH : Hid (HdB w h (.slice ao ls.length cap) c 0) := hH
  have HS : Hid (Src w I (.slice ao ls.length cap) ls) := hs
  have HI : Hid (∀ k, I k → k ≠ h) := hI
  have HB : Hid (∀ b ∈ ls, b < 2) := hb
  have HR : Hid (RW w0 w go L ns (fun s => key ns s ≠ 0) rs) := hR
  have HO : Hid (RowsOff w0 go ns rs h) := ho
  have HA : Hid (L = ns.length ∧ ∀ s, key ns s ≤ 15) := ⟨hL, h15⟩
  obtain ⟨M, hM⟩ : ∃ M, M = ls.length := ⟨_, rfl⟩
  rw [← hM] at HH HS hc hlen ⊢
  have HM : Hid (M = ls.length) := hM
  obtain ⟨is, k, g, hnf⟩ : ∃ is k g, nextF ns (ls.drop c) = (is, k, g) := ⟨_, _, _, rfl⟩
  have HNF : Hid (nextF ns (ls.drop c) = (is, k, g)) := hnf
  have hrn := nextF_is ns (ls.drop c)
  rw [hnf] at hrn
  simp only at hrn
  have HRN : Hid (RNext ns (ls.drop c) is k g) := hrn
  have hkle : c + k ≤ M := by
    rcases hrn with ⟨_, _, hf, hk, _⟩ | ⟨_, _, hk, _⟩ | ⟨_, _, hk, _⟩
    · have h1 := hf.2.length_le
      rw [rowOf_length, List.length_drop] at h1
      omega
    · omega
    · omega
  clear hH hs hI hb hR ho hL h15 hM hnf hrn
  have hsz := HH.out.lt
  -- the world behind the result's place
  have HK0 : Hid (Same w (w.alloc (.cells #[.int .i64 0, .int .i64 0] 31))) := (Kept.refl _ w).alloc _
  have HRB : Hid (Blk (w.alloc (.cells #[.int .i64 0, .int .i64 0] 31)) w.heap.size #[.int .i64 0, .int .i64 0] 31) := Blk.new w _ _
  go_enter Tryd.func51, Tryd.ntmps51
  go_upto_region 1 with fail
  generalize w.alloc (.cells #[.int .i64 0, .int .i64 0] 31) = wA at *
  have HHA : Hid (HdB wA h (.slice ao M cap) c 0) := hid (HH.out.kept HK0.out (fun f => f))
  have c0 := HHA.out.cell 0
  have c1 := HHA.out.cell 1
  simp at c0 c1
  have HNX := rnext_any wA.drew w0 go L ns rs (.slice ao M cap) I ls c (HR.out.kept (F := fun _ => False) (HK0.out.drew) (fun _ _ f => f) (fun f => f) (fun _ _ _ _ _ f => f)) HA.out.1 hl288 HA.out.2 (HS.out.kept HK0.out.drew (fun _ _ _ f => f)) (by have := HM.out; omega) (by have := HM.out; omega)
  have HHX : Hid (Calls Tryd.prog 68 #[.slice (some ⟨go, 0, none⟩) L L, .slice ao M cap, .int .i64 (c : Nat)] wA.drew fun e w' => e = .returned (.tuple #[.int .i64 (is : Nat), .int .i64 (k : Nat), .int .i64 (g : Nat)]) ∧ Same wA w') := hid (HNX.mono (by
    rintro e w' ⟨⟨is2, k2, g2, rfl, hr2⟩, hk⟩
    obtain ⟨rfl, rfl, rfl⟩ := hr2.one HRN.out
    exact ⟨rfl, ⟨hk.os, hk.tape, hk.output, hk.size, hk.block⟩⟩))
  clear HNX
  go_region_with (go_at_call 68; refine HHX.out.mono ?_; rintro e w4 ⟨rfl, hk4⟩)
  all_goals
    have HK4 : Hid (Same wA w4) := hk4
    have HH4 : Hid (HdB w4 h (.slice ao M cap) c 0) := hid (HHA.out.kept hk4 (fun f => f))
    have HB4 : Hid (Blk w4 w.heap.size #[.int .i64 0, .int .i64 0] 31) := hid (HRB.out.kept hk4 (fun f => f))
    have HS4 : Hid (Src w4 I (.slice ao M cap) ls) := hid (HS.out.kept (Same.trans HK0.out hk4) (fun _ _ _ f => f))
    have HKW : Hid (Kept (· = h) w w4) := hid (Kept.mono (Same.trans HK0.out hk4) (fun _ _ f => f.elim))
    have d1 := HH4.out.cell 1
    have d2 := HH4.out.cell 2
    have g1 := HH4.out.frozen 1
    have g2 := HH4.out.frozen 2
    have r0 := HB4.out.cell 0
    have r1 := HB4.out.cell 1
    have q0 := HB4.out.frozen 0
    have q1 := HB4.out.frozen 1
    simp at d1 d2 r0 r1
    have hne : h ≠ w.heap.size := by omega
    have hne2 : w.heap.size ≠ h := by omega
    clear hk4 c0 c1
    by_cases hg0 : g = 0
    · subst hg0
      obtain ⟨ck, hck⟩ : ∃ ck, ck = c + k := ⟨_, rfl⟩
      have hckI : (c : Int) + (k : Int) = (ck : Int) := by omega
      have HCK : Hid (ck = c + k) := hck
      have hckM : ck ≤ M := by omega
      clear hck
      have HH5 : Hid (HdB (w4.setCell ⟨h, 1, none⟩ (.int .i64 (ck : Nat))) h (.slice ao M cap) ck 0) := hid (by have hb := HH4.out.set 1 (.int .i64 (ck : Nat)); simp at hb; exact hb)
      have HK5 : Hid (Kept (· = h) w4 (w4.setCell ⟨h, 1, none⟩ (.int .i64 (ck : Nat)))) := hid ((Kept.refl (· = h) w4).setCell ⟨h, 1, none⟩ _ (.inl rfl))
      have HTK := fun n (hn : n ≤ 32) => htake_any (w4.setCell ⟨h, 1, none⟩ (.int .i64 (ck : Nat))) h (.slice ao M cap) I ls ck 0 n HH5.out (HS4.out.kept HK5.out (fun k hk _ e => HI.out k hk e)) HB.out hn (by have := HM.out; omega) (by have := HM.out; omega)
      by_cases h16 : is = 16
      · subst h16
        obtain ⟨x, c2, e2, ht⟩ : ∃ x c2 e2, hTake ls ck 0 2 = (x, c2, e2) := ⟨_, _, _, rfl⟩
        have HT := HTK 2 (by decide)
        rw [ht] at HT
        have HTT : Hid (hTake ls (c + k) 0 (xbits 16) = (x, c2, e2)) := hid (by rw [← HCK.out]; exact ht)
        clear ht HTK
        go_wp2_with fail
        refine HT.mono ?_
        rintro e w6 ⟨rfl, hh6, hk6⟩
        have HH6 : Hid (HdB w6 h (.slice ao M cap) c2 e2) := hh6
        have HK6 : Hid (Kept (· = h) w w6) := hid (HKW.out.trans (Kept.trans HK5.out hk6 (H := (· = h)) (fun _ _ f => f) (fun _ _ f => f)) (fun _ _ f => f) (fun _ _ f => f))
        have HB6 : Hid (Blk w6 w.heap.size #[.int .i64 0, .int .i64 0] 31) := hid ((HB4.out.kept HK5.out (fun e => hne2 e)).kept hk6 (fun e => hne2 e))
        have r0 := HB6.out.cell 0
        have r1 := HB6.out.cell 1
        have q0 := HB6.out.frozen 0
        have q1 := HB6.out.frozen 1
        simp at r0 r1
        clear hh6 hk6 HT
        go_wp2_with fail
        refine bodyPost_ret (v := .agg #[.int .i64 (16), .int .i64 (x : Nat)]) (by simp [results, Tryd.results51, go_sem, r0, r1]) rfl ⟨stepA_of HNF.out HTT.out rfl ?_, ?_⟩
        · skip
          exact HH6.out.kept (((Kept.refl (· = w.heap.size) w6).setCell ⟨w.heap.size, 0, none⟩ _ (.inl rfl)).setCell ⟨w.heap.size, 1, none⟩ _ (.inl rfl)) hne
        · exact (HK6.out.setCell ⟨w.heap.size, 0, none⟩ _ (.inr (Nat.le_refl _))).setCell ⟨w.heap.size, 1, none⟩ _ (.inr (Nat.le_refl _))
      · have e16 : ((is : Int) == 16) = false := by simp; omega
        by_cases h17 : is = 17
        · subst h17
          obtain ⟨x, c2, e2, ht⟩ : ∃ x c2 e2, hTake ls ck 0 3 = (x, c2, e2) := ⟨_, _, _, rfl⟩
          have HT := HTK 3 (by decide)
          rw [ht] at HT
          have HTT : Hid (hTake ls (c + k) 0 (xbits 17) = (x, c2, e2)) := hid (by rw [← HCK.out]; exact ht)
          clear ht HTK
          go_wp2_with fail
          refine HT.mono ?_
          rintro e w6 ⟨rfl, hh6, hk6⟩
          have HH6 : Hid (HdB w6 h (.slice ao M cap) c2 e2) := hh6
          have HK6 : Hid (Kept (· = h) w w6) := hid (HKW.out.trans (Kept.trans HK5.out hk6 (H := (· = h)) (fun _ _ f => f) (fun _ _ f => f)) (fun _ _ f => f) (fun _ _ f => f))
          have HB6 : Hid (Blk w6 w.heap.size #[.int .i64 0, .int .i64 0] 31) := hid ((HB4.out.kept HK5.out (fun e => hne2 e)).kept hk6 (fun e => hne2 e))
          have r0 := HB6.out.cell 0
          have r1 := HB6.out.cell 1
          have q0 := HB6.out.frozen 0
          have q1 := HB6.out.frozen 1
          simp at r0 r1
          clear hh6 hk6 HT
          go_wp2_with fail
          refine bodyPost_ret (v := .agg #[.int .i64 (17), .int .i64 (x : Nat)]) (by simp [results, Tryd.results51, go_sem, r0, r1]) rfl ⟨stepA_of HNF.out HTT.out rfl ?_, ?_⟩
          · skip
            exact HH6.out.kept (((Kept.refl (· = w.heap.size) w6).setCell ⟨w.heap.size, 0, none⟩ _ (.inl rfl)).setCell ⟨w.heap.size, 1, none⟩ _ (.inl rfl)) hne
          · exact (HK6.out.setCell ⟨w.heap.size, 0, none⟩ _ (.inr (Nat.le_refl _))).setCell ⟨w.heap.size, 1, none⟩ _ (.inr (Nat.le_refl _))
        · have e17 : ((is : Int) == 17) = false := by simp; omega
          by_cases h18 : is = 18
          · subst h18
            obtain ⟨x, c2, e2, ht⟩ : ∃ x c2 e2, hTake ls ck 0 7 = (x, c2, e2) := ⟨_, _, _, rfl⟩
            have HT := HTK 7 (by decide)
            rw [ht] at HT
            have HTT : Hid (hTake ls (c + k) 0 (xbits 18) = (x, c2, e2)) := hid (by rw [← HCK.out]; exact ht)
            clear ht HTK
            go_wp2_with fail
            refine HT.mono ?_
            rintro e w6 ⟨rfl, hh6, hk6⟩
            have HH6 : Hid (HdB w6 h (.slice ao M cap) c2 e2) := hh6
            have HK6 : Hid (Kept (· = h) w w6) := hid (HKW.out.trans (Kept.trans HK5.out hk6 (H := (· = h)) (fun _ _ f => f) (fun _ _ f => f)) (fun _ _ f => f) (fun _ _ f => f))
            have HB6 : Hid (Blk w6 w.heap.size #[.int .i64 0, .int .i64 0] 31) := hid ((HB4.out.kept HK5.out (fun e => hne2 e)).kept hk6 (fun e => hne2 e))
            have r0 := HB6.out.cell 0
            have r1 := HB6.out.cell 1
            have q0 := HB6.out.frozen 0
            have q1 := HB6.out.frozen 1
            simp at r0 r1
            clear hh6 hk6 HT
            go_wp2_with fail
            refine bodyPost_ret (v := .agg #[.int .i64 (18), .int .i64 (x : Nat)]) (by simp [results, Tryd.results51, go_sem, r0, r1]) rfl ⟨stepA_of HNF.out HTT.out rfl ?_, ?_⟩
            · skip
              exact HH6.out.kept (((Kept.refl (· = w.heap.size) w6).setCell ⟨w.heap.size, 0, none⟩ _ (.inl rfl)).setCell ⟨w.heap.size, 1, none⟩ _ (.inl rfl)) hne
            · exact (HK6.out.setCell ⟨w.heap.size, 0, none⟩ _ (.inr (Nat.le_refl _))).setCell ⟨w.heap.size, 1, none⟩ _ (.inr (Nat.le_refl _))
          · have e18 : ((is : Int) == 18) = false := by simp; omega
            have HTT : Hid (hTake ls (c + k) 0 (xbits is) = (0, ck, 0)) := hid (by
              unfold hTake xbits
              rw [if_neg h16, if_neg h17, if_neg h18, if_neg (by simp), if_neg (by have := HM.out; have := HCK.out; omega), HCK.out]
              simp [numAt, n2])
            clear HTK h16 h17 h18
            go_wp2_with fail
            refine bodyPost_ret (v := .agg #[.int .i64 (is : Nat), .int .i64 0]) (by simp [results, Tryd.results51, go_sem, r0, r1]) rfl ⟨stepA_of HNF.out HTT.out rfl ?_, ?_⟩
            · skip
              exact HH5.out.kept (((Kept.refl (· = w.heap.size) _).setCell ⟨w.heap.size, 0, none⟩ _ (.inl rfl)).setCell ⟨w.heap.size, 1, none⟩ _ (.inl rfl)) hne
            · exact ((HKW.out.trans HK5.out (fun _ _ f => f) (fun _ _ f => f)).setCell ⟨w.heap.size, 0, none⟩ _ (.inr (Nat.le_refl _))).setCell ⟨w.heap.size, 1, none⟩ _ (.inr (Nat.le_refl _))
    · have hgd : ((g : Int) != 0) = true := by simp; omega
      have HG0 : Hid (g ≠ 0) := hg0
      clear hg0
      go_wp2_with fail
      refine bodyPost_ret (v := .agg #[.int .i64 0, .int .i64 0]) (by simp [results, Tryd.results51, go_sem, r0, r1]) rfl ⟨stepA_err (c2 := c) HNF.out HG0.out 0 0 rfl ?_, ?_⟩
      · skip
        have hb := HH4.out.set 2 (.int .i64 (g : Nat))
        simp at hb
        exact Blk.kept hb (((Kept.refl (· = w.heap.size) _).setCell ⟨w.heap.size, 0, none⟩ _ (.inl rfl)).setCell ⟨w.heap.size, 1, none⟩ _ (.inl rfl)) hne
      · exact ((HKW.out.setCell ⟨h, 2, none⟩ _ (.inl rfl)).setCell ⟨w.heap.size, 0, none⟩ _ (.inr (Nat.le_refl _))).setCell ⟨w.heap.size, 1, none⟩ _ (.inr (Nat.le_refl _))

end Go.Proofs.YtofhlnpbflkdlaaDoor
