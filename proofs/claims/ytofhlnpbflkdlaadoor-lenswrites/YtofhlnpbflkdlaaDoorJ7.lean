/-
  Of the proof: parts LnStep, HRowsW, LnRead, LnWrM, LnStepsM, LnPgM, LnShape, LnIdx, CopyK.
-/
import Derived.Deep.RegionLaw
import Derived.Laws.CopyOwn
import Derived.Test.YtofhlnpbflkdlaaDoorJ6
import Derived.Test.YtofhlnpbflkdlaaDoorJ5
import Derived.Test.YtofhlnpbflkdlaaDoorJ1
import Derived.Test.YtofhlnpbflkdlaaDoorJ2
import Derived.Test.YtofhlnpbflkdlaaDoorJ3
import Derived.Test.YtofhlnpbflkdlaaDoorJ4

/-
  The reference's head: step.
-/
namespace Go.Proofs.YtofhlnpbflkdlaaDoor
open Go.RowKit

theorem RW.kept {F : Nat → Prop} {w0 w' w2 : World} {go n : Nat} {ns : List Nat} {p : Nat → Prop} {rs : List (Option Addr × Nat × Nat)} (h : RW w0 w' go n ns p rs) (hk : Kept F w' w2) (h1 : ∀ k, k < w0.heap.size → ¬ F k) (h2 : ¬ F go) (h3 : ∀ s (hs : s < rs.length), p s → ∀ k, (slV rs[s]).ownBlock = some k → ¬ F k) : RW w0 w2 go n ns p rs :=
  ⟨h.row.kept hk (fun k e => by simp [Value.ownBlock] at e; subst e; exact h2), fun s hs hp => ⟨(h.have' s hs hp).1.kept hk (fun k e => h3 s hs hp k e), (h.have' s hs hp).2⟩, h.none', Same.then h.same hk h1⟩

/-- The blocks of the rows lie apart from one. -/
def RowsOff (w0 : World) (go : Nat) (ns : List Nat) (rs : List (Option Addr × Nat × Nat)) (h : Nat) : Prop := w0.heap.size ≤ h ∧ go ≠ h ∧ ∀ s (hs : s < rs.length), key ns s ≠ 0 → (slV rs[s]).ownBlock ≠ some h

theorem RW.off {w0 w' w2 : World} {go n h : Nat} {ns : List Nat} {rs : List (Option Addr × Nat × Nat)} (hr : RW w0 w' go n ns (fun s => key ns s ≠ 0) rs) (ho : RowsOff w0 go ns rs h) (hk : Kept (· = h) w' w2) : RW w0 w2 go n ns (fun s => key ns s ≠ 0) rs :=
  hr.kept hk (fun k hk e => by have := ho.1; omega) ho.2.1 (fun s hs hp k e e2 => by subst e2; exact ho.2.2 s hs hp e)

/-- A step's answer. -/
def StepA (h : Nat) (v : Value) (w' : World) (r : Ending) : Except Nat ((Nat × Nat) × Nat) → Prop
  | .error er => ∃ (a b : Int) (c : Nat), r = .returned (.agg #[.int .i64 a, .int .i64 b]) ∧ HdB w' h v c er ∧ er ≠ 0
  | .ok ((s, x), c) => r = .returned (.agg #[.int .i64 (s : Nat), .int .i64 (x : Nat)]) ∧ HdB w' h v c 0

theorem stepA_of {h : Nat} {v : Value} {wF : World} {r : Ending} {ns ls : List Nat} {c is k x c2 e2 : Nat} (hnf : nextF ns (ls.drop c) = (is, k, 0)) (ht : hTake ls (c + k) 0 (xbits is) = (x, c2, e2)) (hr : r = .returned (.agg #[.int .i64 (is : Nat), .int .i64 (x : Nat)])) (hh : HdB wF h v c2 e2) : StepA h v wF r (stepF ns ls c) := by
  unfold stepF
  rw [hnf]
  simp only
  unfold hTake at ht
  rw [if_neg (by simp)] at ht
  rw [if_neg (by simp)]
  by_cases hl : ls.length < c + k + xbits is
  · rw [if_pos hl] at ht ⊢
    simp only [Prod.mk.injEq] at ht
    obtain ⟨rfl, rfl, rfl⟩ := ht
    exact ⟨_, _, _, hr, hh, by decide⟩
  · rw [if_neg hl] at ht ⊢
    simp only [Prod.mk.injEq] at ht
    obtain ⟨rfl, rfl, rfl⟩ := ht
    exact ⟨hr, hh⟩

theorem stepA_err {h : Nat} {v : Value} {wF : World} {r : Ending} {ns ls : List Nat} {c is k g c2 : Nat} (hnf : nextF ns (ls.drop c) = (is, k, g)) (hg : g ≠ 0) (a b : Int) (hr : r = .returned (.agg #[.int .i64 a, .int .i64 b])) (hh : HdB wF h v c2 g) : StepA h v wF r (stepF ns ls c) := by
  unfold stepF
  rw [hnf]
  simp only
  rw [if_pos hg]
  exact ⟨a, b, c2, hr, hh, hg⟩

set_option maxRecDepth 100000 in
set_option maxHeartbeats 4000000 in
theorem hstep_any (w w0 : World) (h : Nat) (v : Value) (I : Nat → Prop) (ls : List Nat) (c go L : Nat) (ns : List Nat) (rs : List (Option Addr × Nat × Nat)) (hH : HdB w h v c 0) (hs : Src w I v ls) (hI : ∀ k, I k → k ≠ h) (hb : ∀ b ∈ ls, b < 2) (hc : c ≤ ls.length) (hlen : ls.length ≤ 100000000)
    (hR : RW w0 w go L ns (fun s => key ns s ≠ 0) rs) (hL : L = ns.length) (hl288 : L ≤ 288) (h15 : ∀ s, key ns s ≤ 15) (ho : RowsOff w0 go ns rs h) :
    Calls Tryd.prog 51 #[.pointer (some ⟨h, 0, none⟩), .slice (some ⟨go, 0, none⟩) L L] w fun r w' => StepA h v w' r (stepF ns ls c) ∧ Kept (· = h) w w' := by
  obtain ⟨ao, cap, rfl, hsa⟩ := id hs
  clear hsa
  have HH : Hid (HdB w h (.slice ao ls.length cap) c 0) := hH
  have HS : Hid (Src w I (.slice ao ls.length cap) ls) := hs
  have HI : Hid (∀ k, I k → k ≠ h) := hI
  have HB : Hid (∀ b ∈ ls, b < 2) := hb
  have HR : Hid (RW w0 w go L ns (fun s => key ns s ≠ 0) rs) := hR
  have HO : Hid (RowsOff w0 go ns rs h) := ho
  have HA : Hid (L = ns.length ∧ ∀ s, key ns s ≤ 15) := ⟨hL, h15⟩
  obtain ⟨M, hM⟩ : ∃ M, M = ls.length := ⟨_, rfl⟩
  rw [← hM] at HH HS hc hlen ⊢
  have HM : Hid (M = ls.length) := hM
  obtain ⟨is, k, g, hnf⟩ : ∃ is k g, nextF ns (ls.drop c) = (is, k, g) := ⟨_, _, _, rfl⟩
  have HNF : Hid (nextF ns (ls.drop c) = (is, k, g)) := hnf
  have hrn := nextF_is ns (ls.drop c)
  rw [hnf] at hrn
  simp only at hrn
  have HRN : Hid (RNext ns (ls.drop c) is k g) := hrn
  have hkle : c + k ≤ M := by
    rcases hrn with ⟨_, _, hf, hk, _⟩ | ⟨_, _, hk, _⟩ | ⟨_, _, hk, _⟩
    · have h1 := hf.2.length_le
      rw [rowOf_length, List.length_drop] at h1
      omega
    · omega
    · omega
  clear hH hs hI hb hR ho hL h15 hM hnf hrn
  have hsz := HH.out.lt
  -- the world behind the result's place
  have HK0 : Hid (Same w (w.alloc (.cells #[.int .i64 0, .int .i64 0] 31))) := (Kept.refl _ w).alloc _
  have HRB : Hid (Blk (w.alloc (.cells #[.int .i64 0, .int .i64 0] 31)) w.heap.size #[.int .i64 0, .int .i64 0] 31) := Blk.new w _ _
  go_enter Tryd.func51, Tryd.ntmps51
  go_upto_region 1 with fail
  generalize w.alloc (.cells #[.int .i64 0, .int .i64 0] 31) = wA at *
  have HHA : Hid (HdB wA h (.slice ao M cap) c 0) := hid (HH.out.kept HK0.out (fun f => f))
  have c0 := HHA.out.cell 0
  have c1 := HHA.out.cell 1
  simp at c0 c1
  have HNX := rnext_any wA.drew w0 go L ns rs (.slice ao M cap) I ls c (HR.out.kept (F := fun _ => False) (HK0.out.drew) (fun _ _ f => f) (fun f => f) (fun _ _ _ _ _ f => f)) HA.out.1 hl288 HA.out.2 (HS.out.kept HK0.out.drew (fun _ _ _ f => f)) (by have := HM.out; omega) (by have := HM.out; omega)
  have HHX : Hid (Calls Tryd.prog 68 #[.slice (some ⟨go, 0, none⟩) L L, .slice ao M cap, .int .i64 (c : Nat)] wA.drew fun e w' => e = .returned (.tuple #[.int .i64 (is : Nat), .int .i64 (k : Nat), .int .i64 (g : Nat)]) ∧ Same wA w') := hid (HNX.mono (by
    rintro e w' ⟨⟨is2, k2, g2, rfl, hr2⟩, hk⟩
    obtain ⟨rfl, rfl, rfl⟩ := hr2.one HRN.out
    exact ⟨rfl, ⟨hk.os, hk.tape, hk.output, hk.size, hk.block⟩⟩))
  clear HNX
  go_region_with (go_at_call 68; refine HHX.out.mono ?_; rintro e w4 ⟨rfl, hk4⟩)
  all_goals
    have HK4 : Hid (Same wA w4) := hk4
    have HH4 : Hid (HdB w4 h (.slice ao M cap) c 0) := hid (HHA.out.kept hk4 (fun f => f))
    have HB4 : Hid (Blk w4 w.heap.size #[.int .i64 0, .int .i64 0] 31) := hid (HRB.out.kept hk4 (fun f => f))
    have HS4 : Hid (Src w4 I (.slice ao M cap) ls) := hid (HS.out.kept (Same.trans HK0.out hk4) (fun _ _ _ f => f))
    have HKW : Hid (Kept (· = h) w w4) := hid (Kept.mono (Same.trans HK0.out hk4) (fun _ _ f => f.elim))
    have d1 := HH4.out.cell 1
    have d2 := HH4.out.cell 2
    have g1 := HH4.out.frozen 1
    have g2 := HH4.out.frozen 2
    have r0 := HB4.out.cell 0
    have r1 := HB4.out.cell 1
    have q0 := HB4.out.frozen 0
    have q1 := HB4.out.frozen 1
    simp at d1 d2 r0 r1
    have hne : h ≠ w.heap.size := by omega
    have hne2 : w.heap.size ≠ h := by omega
    clear hk4 c0 c1
    by_cases hg0 : g = 0
    · subst hg0
      obtain ⟨ck, hck⟩ : ∃ ck, ck = c + k := ⟨_, rfl⟩
      have hckI : (c : Int) + (k : Int) = (ck : Int) := by omega
      have HCK : Hid (ck = c + k) := hck
      have hckM : ck ≤ M := by omega
      clear hck
      have HH5 : Hid (HdB (w4.setCell ⟨h, 1, none⟩ (.int .i64 (ck : Nat))) h (.slice ao M cap) ck 0) := hid (by have hb := HH4.out.set 1 (.int .i64 (ck : Nat)); simp at hb; exact hb)
      have HK5 : Hid (Kept (· = h) w4 (w4.setCell ⟨h, 1, none⟩ (.int .i64 (ck : Nat)))) := hid ((Kept.refl (· = h) w4).setCell ⟨h, 1, none⟩ _ (.inl rfl))
      have HTK := fun n (hn : n ≤ 32) => htake_any (w4.setCell ⟨h, 1, none⟩ (.int .i64 (ck : Nat))) h (.slice ao M cap) I ls ck 0 n HH5.out (HS4.out.kept HK5.out (fun k hk _ e => HI.out k hk e)) HB.out hn (by have := HM.out; omega) (by have := HM.out; omega)
      by_cases h16 : is = 16
      · subst h16
        obtain ⟨x, c2, e2, ht⟩ : ∃ x c2 e2, hTake ls ck 0 2 = (x, c2, e2) := ⟨_, _, _, rfl⟩
        have HT := HTK 2 (by decide)
        rw [ht] at HT
        have HTT : Hid (hTake ls (c + k) 0 (xbits 16) = (x, c2, e2)) := hid (by rw [← HCK.out]; exact ht)
        clear ht HTK
        go_wp2_with fail
        refine HT.mono ?_
        rintro e w6 ⟨rfl, hh6, hk6⟩
        have HH6 : Hid (HdB w6 h (.slice ao M cap) c2 e2) := hh6
        have HK6 : Hid (Kept (· = h) w w6) := hid (HKW.out.trans (Kept.trans HK5.out hk6 (H := (· = h)) (fun _ _ f => f) (fun _ _ f => f)) (fun _ _ f => f) (fun _ _ f => f))
        have HB6 : Hid (Blk w6 w.heap.size #[.int .i64 0, .int .i64 0] 31) := hid ((HB4.out.kept HK5.out (fun e => hne2 e)).kept hk6 (fun e => hne2 e))
        have r0 := HB6.out.cell 0
        have r1 := HB6.out.cell 1
        have q0 := HB6.out.frozen 0
        have q1 := HB6.out.frozen 1
        simp at r0 r1
        clear hh6 hk6 HT
        go_wp2_with fail
        refine bodyPost_ret (v := .agg #[.int .i64 (16), .int .i64 (x : Nat)]) (by simp [results, Tryd.results51, go_sem, r0, r1]) rfl ⟨stepA_of HNF.out HTT.out rfl ?_, ?_⟩
        · skip
          exact HH6.out.kept (((Kept.refl (· = w.heap.size) w6).setCell ⟨w.heap.size, 0, none⟩ _ (.inl rfl)).setCell ⟨w.heap.size, 1, none⟩ _ (.inl rfl)) hne
        · exact (HK6.out.setCell ⟨w.heap.size, 0, none⟩ _ (.inr (Nat.le_refl _))).setCell ⟨w.heap.size, 1, none⟩ _ (.inr (Nat.le_refl _))
      · have e16 : ((is : Int) == 16) = false := by simp; omega
        by_cases h17 : is = 17
        · subst h17
          obtain ⟨x, c2, e2, ht⟩ : ∃ x c2 e2, hTake ls ck 0 3 = (x, c2, e2) := ⟨_, _, _, rfl⟩
          have HT := HTK 3 (by decide)
          rw [ht] at HT
          have HTT : Hid (hTake ls (c + k) 0 (xbits 17) = (x, c2, e2)) := hid (by rw [← HCK.out]; exact ht)
          clear ht HTK
          go_wp2_with fail
          refine HT.mono ?_
          rintro e w6 ⟨rfl, hh6, hk6⟩
          have HH6 : Hid (HdB w6 h (.slice ao M cap) c2 e2) := hh6
          have HK6 : Hid (Kept (· = h) w w6) := hid (HKW.out.trans (Kept.trans HK5.out hk6 (H := (· = h)) (fun _ _ f => f) (fun _ _ f => f)) (fun _ _ f => f) (fun _ _ f => f))
          have HB6 : Hid (Blk w6 w.heap.size #[.int .i64 0, .int .i64 0] 31) := hid ((HB4.out.kept HK5.out (fun e => hne2 e)).kept hk6 (fun e => hne2 e))
          have r0 := HB6.out.cell 0
          have r1 := HB6.out.cell 1
          have q0 := HB6.out.frozen 0
          have q1 := HB6.out.frozen 1
          simp at r0 r1
          clear hh6 hk6 HT
          go_wp2_with fail
          refine bodyPost_ret (v := .agg #[.int .i64 (17), .int .i64 (x : Nat)]) (by simp [results, Tryd.results51, go_sem, r0, r1]) rfl ⟨stepA_of HNF.out HTT.out rfl ?_, ?_⟩
          · skip
            exact HH6.out.kept (((Kept.refl (· = w.heap.size) w6).setCell ⟨w.heap.size, 0, none⟩ _ (.inl rfl)).setCell ⟨w.heap.size, 1, none⟩ _ (.inl rfl)) hne
          · exact (HK6.out.setCell ⟨w.heap.size, 0, none⟩ _ (.inr (Nat.le_refl _))).setCell ⟨w.heap.size, 1, none⟩ _ (.inr (Nat.le_refl _))
        · have e17 : ((is : Int) == 17) = false := by simp; omega
          by_cases h18 : is = 18
          · subst h18
            obtain ⟨x, c2, e2, ht⟩ : ∃ x c2 e2, hTake ls ck 0 7 = (x, c2, e2) := ⟨_, _, _, rfl⟩
            have HT := HTK 7 (by decide)
            rw [ht] at HT
            have HTT : Hid (hTake ls (c + k) 0 (xbits 18) = (x, c2, e2)) := hid (by rw [← HCK.out]; exact ht)
            clear ht HTK
            go_wp2_with fail
            refine HT.mono ?_
            rintro e w6 ⟨rfl, hh6, hk6⟩
            have HH6 : Hid (HdB w6 h (.slice ao M cap) c2 e2) := hh6
            have HK6 : Hid (Kept (· = h) w w6) := hid (HKW.out.trans (Kept.trans HK5.out hk6 (H := (· = h)) (fun _ _ f => f) (fun _ _ f => f)) (fun _ _ f => f) (fun _ _ f => f))
            have HB6 : Hid (Blk w6 w.heap.size #[.int .i64 0, .int .i64 0] 31) := hid ((HB4.out.kept HK5.out (fun e => hne2 e)).kept hk6 (fun e => hne2 e))
            have r0 := HB6.out.cell 0
            have r1 := HB6.out.cell 1
            have q0 := HB6.out.frozen 0
            have q1 := HB6.out.frozen 1
            simp at r0 r1
            clear hh6 hk6 HT
            go_wp2_with fail
            refine bodyPost_ret (v := .agg #[.int .i64 (18), .int .i64 (x : Nat)]) (by simp [results, Tryd.results51, go_sem, r0, r1]) rfl ⟨stepA_of HNF.out HTT.out rfl ?_, ?_⟩
            · skip
              exact HH6.out.kept (((Kept.refl (· = w.heap.size) w6).setCell ⟨w.heap.size, 0, none⟩ _ (.inl rfl)).setCell ⟨w.heap.size, 1, none⟩ _ (.inl rfl)) hne
            · exact (HK6.out.setCell ⟨w.heap.size, 0, none⟩ _ (.inr (Nat.le_refl _))).setCell ⟨w.heap.size, 1, none⟩ _ (.inr (Nat.le_refl _))
          · have e18 : ((is : Int) == 18) = false := by simp; omega
            have HTT : Hid (hTake ls (c + k) 0 (xbits is) = (0, ck, 0)) := hid (by
              unfold hTake xbits
              rw [if_neg h16, if_neg h17, if_neg h18, if_neg (by simp), if_neg (by have := HM.out; have := HCK.out; omega), HCK.out]
              simp [numAt, n2])
            clear HTK h16 h17 h18
            go_wp2_with fail
            refine bodyPost_ret (v := .agg #[.int .i64 (is : Nat), .int .i64 0]) (by simp [results, Tryd.results51, go_sem, r0, r1]) rfl ⟨stepA_of HNF.out HTT.out rfl ?_, ?_⟩
            · skip
              exact HH5.out.kept (((Kept.refl (· = w.heap.size) _).setCell ⟨w.heap.size, 0, none⟩ _ (.inl rfl)).setCell ⟨w.heap.size, 1, none⟩ _ (.inl rfl)) hne
            · exact ((HKW.out.trans HK5.out (fun _ _ f => f) (fun _ _ f => f)).setCell ⟨w.heap.size, 0, none⟩ _ (.inr (Nat.le_refl _))).setCell ⟨w.heap.size, 1, none⟩ _ (.inr (Nat.le_refl _))
    · have hgd : ((g : Int) != 0) = true := by simp; omega
      have HG0 : Hid (g ≠ 0) := hg0
      clear hg0
      go_wp2_with fail
      refine bodyPost_ret (v := .agg #[.int .i64 0, .int .i64 0]) (by simp [results, Tryd.results51, go_sem, r0, r1]) rfl ⟨stepA_err (c2 := c) HNF.out HG0.out 0 0 rfl ?_, ?_⟩
      · skip
        have hb := HH4.out.set 2 (.int .i64 (g : Nat))
        simp at hb
        exact Blk.kept hb (((Kept.refl (· = w.heap.size) _).setCell ⟨w.heap.size, 0, none⟩ _ (.inl rfl)).setCell ⟨w.heap.size, 1, none⟩ _ (.inl rfl)) hne
      · exact ((HKW.out.setCell ⟨h, 2, none⟩ _ (.inl rfl)).setCell ⟨w.heap.size, 0, none⟩ _ (.inr (Nat.le_refl _))).setCell ⟨w.heap.size, 1, none⟩ _ (.inr (Nat.le_refl _))

end Go.Proofs.YtofhlnpbflkdlaaDoor

/-
  The reference's Rows, walked.
-/
namespace Go.Proofs.YtofhlnpbflkdlaaDoor
open Go.RowKit

/-- The counters of Rows: the last code, the last length. -/
def Cnt (ns : List Nat) (n i code last : Nat) : Prop := (last = 0 ∧ code = 0 ∧ sumP ns n i = 0) ∨ (0 < last ∧ last ≤ n ∧ (code + 1) * 2 ^ (15 - last) = sumP ns n i)

theorem sumP_le (ns : List Nat) (n i : Nat) : sumP ns n i ≤ measure ns := by
  unfold sumP
  rw [← sumTo_all]
  unfold sumTo
  rw [List.take_of_length_le (Nat.le_refl _)]
  generalize ris ns = l
  induction l with
  | nil => simp
  | cons a r ih =>
    rw [List.filter_cons]
    split
    · simp only [List.map_cons, List.sum_cons]; omega
    · simp only [List.map_cons, List.sum_cons]; omega

theorem Cnt.code_le {ns : List Nat} {n i code last : Nat} (h : Cnt ns n i code last) (hm : measure ns ≤ 32768) : code ≤ 32768 := by
  rcases h with ⟨_, h, _⟩ | ⟨_, _, h⟩
  · omega
  · have h1 := sumP_le ns n i
    have h2 : (code + 1) * 1 ≤ (code + 1) * 2 ^ (15 - last) := Nat.mul_le_mul_left _ (Nat.two_pow_pos _)
    omega

/-- The code of a symbol that comes. -/
theorem Cnt.hit {ns : List Nat} {n i code last : Nat} (h : Cnt ns n i code last) (hk : key ns i = n) (hn : n ≤ 15) : codeOf ns i = (if 0 < last then (code + 1) * 2 ^ (n - last) else code) := by
  have h1 := code_start ns i
  have h2 := sumP_hit ns i
  rw [hk] at h1 h2
  rw [← h2] at h1
  rcases h with ⟨e1, e2, e3⟩ | ⟨e1, e2, e3⟩
  · rw [if_neg (by omega), e2]
    rw [e3] at h1
    rcases Nat.mul_eq_zero.1 h1 with h | h
    · exact h
    · have := Nat.two_pow_pos (15 - n); omega
  · rw [if_pos e1]
    have e4 : (code + 1) * 2 ^ (n - last) * 2 ^ (15 - n) = codeOf ns i * 2 ^ (15 - n) := by
      rw [Nat.mul_assoc, ← Nat.pow_add, show n - last + (15 - n) = 15 - last by omega, e3, h1]
    exact (Nat.eq_of_mul_eq_mul_right (Nat.two_pow_pos _) e4).symm

theorem Cnt.next {ns : List Nat} {i : Nat} (hi : i ∈ ris ns) : Cnt ns (key ns i) (i + 1) (codeOf ns i) (key ns i) := by
  refine .inr ⟨by have := (mem_ris.1 hi).2; omega, Nat.le_refl _, ?_⟩
  rw [sumP_next ns i hi, Nat.add_mul, code_start, Nat.one_mul]

theorem Cnt.miss {ns : List Nat} {n i code last : Nat} (h : Cnt ns n i code last) (hk : key ns i ≠ n) : Cnt ns n (i + 1) code last := by
  unfold Cnt
  rw [sumP_miss ns n i hk]
  exact h

theorem Cnt.round {ns : List Nat} {n code last : Nat} (h : Cnt ns n ns.length code last) : Cnt ns (n + 1) 0 code last := by
  unfold Cnt
  rw [← sumP_round]
  rcases h with h | ⟨h1, h2, h3⟩
  · exact .inl h
  · exact .inr ⟨h1, by omega, h3⟩

/-- The symbols whose rows are laid. -/
def laidR (ns : List Nat) (n i s : Nat) : Prop := key ns s ≠ 0 ∧ pre ns n i s

set_option maxRecDepth 100000 in
set_option maxHeartbeats 4000000 in
theorem rows_any (w : World) (v : Value) (I : Nat → Prop) (ns : List Nat) (hs : SrcE natV w I v ns) (hn : ns.length ≤ 288) (h15 : ∀ n ∈ ns, n ≤ 15) (hm : measure ns ≤ 32768) :
    Calls Tryd.prog 50 #[v] w fun e w' => ∃ go rs, e = .returned (.slice (some ⟨go, 0, none⟩) ns.length ns.length) ∧ RW w w' go ns.length ns (fun s => key ns s ≠ 0) rs := by
  obtain ⟨ao, cap, rfl, hx1, hx2⟩ := id hs
  clear hx1 hx2
  have HS : Hid (SrcE natV w I (.slice ao ns.length cap) ns) := hs
  have H15 : Hid (∀ n ∈ ns, n ≤ 15) := h15
  have HM : Hid (measure ns ≤ 32768) := hm
  clear hs h15 hm
  obtain ⟨L, hL⟩ : ∃ L, L = ns.length := ⟨_, rfl⟩
  rw [← hL] at HS hn ⊢
  have HL : Hid (L = ns.length) := hL
  clear hL
  go_enter Tryd.func50, Tryd.ntmps50
  go_wp2_with (at_make; refine wpList_make_e _ slV (none, 0, 0) w.heap.size 79 43 24 Tryd.underlying79 Tryd.infoB rfl (by decide) rfl _ _ rfl _ _ _ _ L rfl rfl rfl rfl (by omega) (Nat.le_refl _) ?_; intro w1 hr1 hg1 hs1; have HRW0 : Hid (RW w w1 w.heap.size L ns (laidR ns 1 0) (List.replicate L (none, 0, 0))) := hid ⟨hr1, fun s hs hp => absurd hp (by rintro ⟨h1, h2 | h2⟩ <;> omega), fun s hs _ => by simp, (Kept.refl _ w).grown hg1 (by simp)⟩; clear hr1 hg1)
  go_loopg [4, 5, 6] 15 (fun q zc zl zn wr => ∃ (n code last : Nat) (rs : List (Option Addr × Nat × Nat)), 16 - n ≤ q ∧ 1 ≤ n ∧ n ≤ 16 ∧ code ≤ 32768 ∧ last ≤ 15 ∧ zn = .int .i64 (n : Nat) ∧ zc = .int .i64 (code : Nat) ∧ zl = .int .i64 (last : Nat) ∧ Hid (Cnt ns n 0 code last) ∧ Hid (RW w wr w.heap.size L ns (laidR ns n 0) rs ∧ rs.length = L))
  case atStart => exact ⟨1, 0, 0, _, by omega, by omega, by omega, by omega, by omega, rfl, rfl, rfl, hid (.inl ⟨rfl, rfl, sumP_start ns⟩), hid ⟨HRW0.out, by simp⟩⟩
  case round =>
    obtain ⟨n, code, last, rs, hq, hn1, hn16, hcode, hlast, rfl, rfl, rfl, HC, HR⟩ := hrel
    clear HRW0
    obtain ⟨gk0, hgk⟩ : ∃ x, x = gk := ⟨_, rfl⟩
    rw [← hgk] at hq
    have HG : Hid (gk0 = gk) := hgk
    clear hgk
    by_cases hn15 : n ≤ 15
    · have bn : decide ((n : Int) ≤ 15) = true := by simp; omega
      go_wp2_with fail
      go_loopg [4, 5, 7] L (fun q zc zl zi wr => ∃ (i code last : Nat) (rs : List (Option Addr × Nat × Nat)), L - i ≤ q ∧ i ≤ L ∧ code ≤ 32768 ∧ last ≤ n ∧ zi = .int .i64 (i : Nat) ∧ zc = .int .i64 (code : Nat) ∧ zl = .int .i64 (last : Nat) ∧ Hid (Cnt ns n i code last) ∧ Hid (RW w wr w.heap.size L ns (laidR ns n i) rs ∧ rs.length = L))
      case atStart => exact ⟨0, code, last, rs, by omega, by omega, by omega, by rcases HC.out with ⟨h, _⟩ | ⟨_, h, _⟩ <;> omega, rfl, rfl, rfl, HC, HR⟩
      case round =>
        clear HC HR hcode hlast
        obtain ⟨i, code, last, rs, hq2, hi, hcode, hlast, rfl, rfl, rfl, HC, HR⟩ := hrel
        obtain ⟨gk1, hgk1⟩ : ∃ x, x = gk := ⟨_, rfl⟩
        rw [← hgk1] at hq2
        have HG1 : Hid (gk1 = gk) := hgk1
        clear hgk1
        by_cases hlt : i < L
        · have hin : i < ns.length := by have := HL.out; omega
          obtain ⟨b, o, cap', e, _, _, cx⟩ := (HS.out.same HR.out.1.same).get i hin
          simp only [Value.slice.injEq] at e
          obtain ⟨rfl, hxe, rfl⟩ := e
          clear hxe
          rw [← key_get hin] at cx
          unfold natV at cx
          obtain ⟨k, hk⟩ : ∃ k, k = key ns i := ⟨_, rfl⟩
          rw [← hk] at cx
          by_cases hkn : k = n
          · have hkn' : key ns i = n := by omega
            have hmem : i ∈ ris ns := mem_ris.2 ⟨hin, by omega⟩
            have hbd : ((k : Int) != (n : Int)) = false := by simp [hkn]
            obtain ⟨co, hco⟩ : ∃ co, co = codeOf ns i := ⟨_, rfl⟩
            have hcol : co ≤ 32768 := by rw [hco]; exact Cnt.code_le (Cnt.next hmem) HM.out
            have hhit := HC.out.hit hkn' hn15
            rw [← hco] at hhit
            have HCN : Hid (Cnt ns n (i + 1) co n) := hid (by have h := Cnt.next hmem; rw [hkn', ← hco] at h; exact h)
            have HFIN : Hid (∀ (w5 : World) (a : Option Addr) (l c : Nat), RW w w5 w.heap.size L ns (laidR ns n i) rs → Row w5 (.slice a l c) (rowB n co) → (∀ k, (Value.slice a l c).ownBlock = some k → w.heap.size ≤ k) → RW w (w5.setCell ⟨w.heap.size, i, none⟩ (.slice a l c)) w.heap.size L ns (laidR ns n (i + 1)) (rs.set i (a, l, c))) := hid (by
              intro w5 a l c h1 h2 h3
              refine (h1.put i a l c (by have := HR.out.2; omega) (by rw [hkn', ← hco]; exact h2) h3).mono (fun s hs => ?_)
              unfold laidR pre
              constructor
              · rintro (rfl | ⟨h4, h5⟩)
                · exact ⟨by omega, .inr ⟨hkn', by omega⟩⟩
                · exact ⟨h4, by rcases h5 with h5 | h5; exact .inl h5; exact .inr ⟨h5.1, by omega⟩⟩
              · rintro ⟨h4, h5⟩
                by_cases e : s = i
                · exact .inl e
                · exact .inr ⟨h4, by rcases h5 with h5 | h5; exact .inl h5; exact .inr ⟨h5.1, by omega⟩⟩)
            have cgo : ∀ w5, RW w w5 w.heap.size L ns (laidR ns n i) rs → (∃ u, w5.cell? ⟨w.heap.size, i, none⟩ = some u) ∧ w5.frozen? ⟨w.heap.size, i, none⟩ = false := fun w5 h => ⟨⟨_, h.row.cell i (by have := HR.out.2; omega)⟩, h.row.frozen i⟩
            have HGO : Hid (∀ w5, RW w w5 w.heap.size L ns (laidR ns n i) rs → (∃ u, w5.cell? ⟨w.heap.size, i, none⟩ = some u) ∧ w5.frozen? ⟨w.heap.size, i, none⟩ = false) := cgo
            clear cgo hk hkn hmem hco
            by_cases hl0 : 0 < last
            · rw [if_pos hl0] at hhit
              have HPW := power_any wr (n - last) (by omega)
              obtain ⟨pw, hpw⟩ : ∃ pw, pw = 2 ^ (n - last) := ⟨_, rfl⟩
              rw [← hpw] at HPW hhit
              have hsub : ((n : Int) - (last : Int)) = ((n - last : Nat) : Int) := by omega
              have hcoI : ((code : Int) + 1) * (pw : Int) = (co : Int) := by rw [hhit]; simp
              have bl : decide (0 < last) = true := by simp [hl0]
              clear hpw hhit
              go_wp2_with fail
              refine HPW.mono ?_
              rintro e w2 ⟨rfl, rfl⟩
              clear HPW
              have hWs : w.heap.size < w2.heap.size := HR.out.1.row.lt rfl
              go_wp2_with (at_make; refine wpList_make_bytes _ rfl _ _ rfl _ _ _ _ n rfl rfl rfl rfl (by omega) ?_; intro w5 hr5 hg5 hs5; have HROW0 : Hid (Row w5 (.slice (some ⟨w2.heap.size, 0, none⟩) n n) (List.replicate n 0)) := hr5; have HSM0 : Hid (Same w2 w5) := hid ((Kept.refl _ w2).grown hg5 (by simp)); clear hr5 hg5 hs5)
              go_loopg [9, 10] n (fun q zc zk wx => ∃ (m cc : Nat) (tl : List Nat), m ≤ q ∧ m ≤ n ∧ cc ≤ 32768 ∧ zc = .int .i64 (cc : Nat) ∧ zk = .int .i64 ((m : Int) - 1) ∧ Hid (rowB n co = rowB m cc ++ tl) ∧ Hid (RowE 0 5 byteV wx (.slice (some ⟨w2.heap.size, 0, none⟩) n n) (List.replicate m 0 ++ tl)) ∧ Hid (Same w2 wx))
              case atStart => exact ⟨n, co, [], by omega, by omega, by omega, rfl, by first | rfl | (congr 1; omega), hid (by simp), hid (by simpa using HROW0.out), HSM0⟩
              case round =>
                clear HROW0 HSM0
                obtain ⟨m, cc, tl, hq3, hmn, hcc, rfl, rfl, HB, HROW, HSM⟩ := hrel
                cases m with
                | zero =>
                  obtain ⟨⟨u5, cu5⟩, fu5⟩ := HGO.out wr (HR.out.1.later HSM.out)
                  have HRNEW : Hid (RW w (wr.setCell ⟨w.heap.size, i, none⟩ (.slice (some ⟨w2.heap.size, 0, none⟩) n n)) w.heap.size L ns (laidR ns n (i + 1)) (rs.set i (some ⟨w2.heap.size, 0, none⟩, n, n))) := hid (HFIN.out wr _ n n (HR.out.1.later HSM.out) (by
                    have h := HROW.out
                    have e : rowB n co = List.replicate 0 0 ++ tl := by rw [HB.out]; rfl
                    rw [← e] at h
                    exact h) (fun j hj => by simp [Value.ownBlock] at hj; omega))
                  have bk : decide ((0 : Int) ≤ ((0 : Nat) : Int) - 1) = false := by decide
                  go_wp2_with fail
                  go_roundg (gk1 - 1)
                  case measure => have := HG1.out; omega
                  case rel => exact ⟨i + 1, co, n, rs.set i (some ⟨w2.heap.size, 0, none⟩, n, n), by omega, by omega, by omega, by omega, by go_num, rfl, rfl, HCN, hid ⟨HRNEW.out, by rw [List.length_set]; exact HR.out.2⟩⟩
                | succ m =>
                  have hkm : (((m + 1 : Nat) : Int) - 1) = (m : Int) := by omega
                  have hml : m < (List.replicate (m + 1) 0 ++ tl).length := by simp; omega
                  obtain ⟨y, cy⟩ : ∃ y : Nat, wr.cell? ⟨w2.heap.size, m, none⟩ = some (.int .u8 (y : Nat)) := ⟨_, HROW.out.cell m hml⟩
                  have fy := HROW.out.frozen m
                  obtain ⟨bt, hbt⟩ : ∃ bt, bt = cc % 2 := ⟨_, rfl⟩
                  obtain ⟨c2, hc2⟩ : ∃ c2, c2 = cc / 2 := ⟨_, rfl⟩
                  have hbI : ((cc : Int) % 2) = (bt : Int) := by omega
                  have hcI : ((cc : Int) / 2) = (c2 : Int) := by omega
                  have hb2 : bt < 2 := by omega
                  have hc2l : c2 ≤ 32768 := by omega
                  have HB2 : Hid (rowB n co = rowB m c2 ++ bt :: tl) := hid (by rw [HB.out, hbt, hc2]; simp [rowB])
                  have HROW2 : Hid (RowE 0 5 byteV (wr.setCell ⟨w2.heap.size, m, none⟩ (.int .u8 (bt : Nat))) (.slice (some ⟨w2.heap.size, 0, none⟩) n n) (List.replicate m 0 ++ bt :: tl)) := hid (by
                    have h := HROW.out.lay m bt
                    have e : (List.replicate (m + 1) 0 ++ tl).set m bt = List.replicate m 0 ++ bt :: tl := by
                      rw [List.replicate_succ', List.append_assoc, List.set_append_right _ _ (by simp)]
                      simp
                    rw [e] at h
                    exact h)
                  have HSM2 : Hid (Same w2 (wr.setCell ⟨w2.heap.size, m, none⟩ (.int .u8 (bt : Nat)))) := hid (HSM.out.setCell _ _ (.inr (Nat.le_refl _)))
                  clear hbt hc2
                  go_wp2_with fail
                  go_roundg (gk - 1)
                  case measure => omega
                  case rel => exact ⟨m, c2, bt :: tl, by omega, by omega, hc2l, by first | rfl | (congr 1; omega), by first | rfl | (congr 1; omega), HB2, HROW2, HSM2⟩
            · rw [if_neg hl0] at hhit
              have bl : decide (0 < last) = false := by simp; omega
              have hcoI : (code : Int) = (co : Int) := by rw [hhit]
              rw [← hhit] at *
              obtain ⟨w2, hw2⟩ : ∃ w2, w2 = wr := ⟨_, rfl⟩
              subst hw2
              have hWs : w.heap.size < w2.heap.size := HR.out.1.row.lt rfl
              go_wp2_with (at_make; refine wpList_make_bytes _ rfl _ _ rfl _ _ _ _ n rfl rfl rfl rfl (by omega) ?_; intro w5 hr5 hg5 hs5; have HROW0 : Hid (Row w5 (.slice (some ⟨w2.heap.size, 0, none⟩) n n) (List.replicate n 0)) := hr5; have HSM0 : Hid (Same w2 w5) := hid ((Kept.refl _ w2).grown hg5 (by simp)); clear hr5 hg5 hs5)
              go_loopg [9, 10] n (fun q zc zk wx => ∃ (m cc : Nat) (tl : List Nat), m ≤ q ∧ m ≤ n ∧ cc ≤ 32768 ∧ zc = .int .i64 (cc : Nat) ∧ zk = .int .i64 ((m : Int) - 1) ∧ Hid (rowB n co = rowB m cc ++ tl) ∧ Hid (RowE 0 5 byteV wx (.slice (some ⟨w2.heap.size, 0, none⟩) n n) (List.replicate m 0 ++ tl)) ∧ Hid (Same w2 wx))
              case atStart => exact ⟨n, co, [], by omega, by omega, by omega, rfl, by first | rfl | (congr 1; omega), hid (by simp), hid (by simpa using HROW0.out), HSM0⟩
              case round =>
                clear HROW0 HSM0
                obtain ⟨m, cc, tl, hq3, hmn, hcc, rfl, rfl, HB, HROW, HSM⟩ := hrel
                cases m with
                | zero =>
                  obtain ⟨⟨u5, cu5⟩, fu5⟩ := HGO.out wr (HR.out.1.later HSM.out)
                  have HRNEW : Hid (RW w (wr.setCell ⟨w.heap.size, i, none⟩ (.slice (some ⟨w2.heap.size, 0, none⟩) n n)) w.heap.size L ns (laidR ns n (i + 1)) (rs.set i (some ⟨w2.heap.size, 0, none⟩, n, n))) := hid (HFIN.out wr _ n n (HR.out.1.later HSM.out) (by
                    have h := HROW.out
                    have e : rowB n co = List.replicate 0 0 ++ tl := by rw [HB.out]; rfl
                    rw [← e] at h
                    exact h) (fun j hj => by simp [Value.ownBlock] at hj; omega))
                  have bk : decide ((0 : Int) ≤ ((0 : Nat) : Int) - 1) = false := by decide
                  go_wp2_with fail
                  go_roundg (gk1 - 1)
                  case measure => have := HG1.out; omega
                  case rel => exact ⟨i + 1, co, n, rs.set i (some ⟨w2.heap.size, 0, none⟩, n, n), by omega, by omega, by omega, by omega, by go_num, rfl, rfl, HCN, hid ⟨HRNEW.out, by rw [List.length_set]; exact HR.out.2⟩⟩
                | succ m =>
                  have hkm : (((m + 1 : Nat) : Int) - 1) = (m : Int) := by omega
                  have hml : m < (List.replicate (m + 1) 0 ++ tl).length := by simp; omega
                  obtain ⟨y, cy⟩ : ∃ y : Nat, wr.cell? ⟨w2.heap.size, m, none⟩ = some (.int .u8 (y : Nat)) := ⟨_, HROW.out.cell m hml⟩
                  have fy := HROW.out.frozen m
                  obtain ⟨bt, hbt⟩ : ∃ bt, bt = cc % 2 := ⟨_, rfl⟩
                  obtain ⟨c2, hc2⟩ : ∃ c2, c2 = cc / 2 := ⟨_, rfl⟩
                  have hbI : ((cc : Int) % 2) = (bt : Int) := by omega
                  have hcI : ((cc : Int) / 2) = (c2 : Int) := by omega
                  have hb2 : bt < 2 := by omega
                  have hc2l : c2 ≤ 32768 := by omega
                  have HB2 : Hid (rowB n co = rowB m c2 ++ bt :: tl) := hid (by rw [HB.out, hbt, hc2]; simp [rowB])
                  have HROW2 : Hid (RowE 0 5 byteV (wr.setCell ⟨w2.heap.size, m, none⟩ (.int .u8 (bt : Nat))) (.slice (some ⟨w2.heap.size, 0, none⟩) n n) (List.replicate m 0 ++ bt :: tl)) := hid (by
                    have h := HROW.out.lay m bt
                    have e : (List.replicate (m + 1) 0 ++ tl).set m bt = List.replicate m 0 ++ bt :: tl := by
                      rw [List.replicate_succ', List.append_assoc, List.set_append_right _ _ (by simp)]
                      simp
                    rw [e] at h
                    exact h)
                  have HSM2 : Hid (Same w2 (wr.setCell ⟨w2.heap.size, m, none⟩ (.int .u8 (bt : Nat)))) := hid (HSM.out.setCell _ _ (.inr (Nat.le_refl _)))
                  clear hbt hc2
                  go_wp2_with fail
                  go_roundg (gk - 1)
                  case measure => omega
                  case rel => exact ⟨m, c2, bt :: tl, by omega, by omega, hc2l, by first | rfl | (congr 1; omega), by first | rfl | (congr 1; omega), HB2, HROW2, HSM2⟩
          · have hbd : ((k : Int) != (n : Int)) = true := by simp; omega
            have HCM : Hid (Cnt ns n (i + 1) code last) := hid (HC.out.miss (by omega))
            have HRM : Hid (RW w wr w.heap.size L ns (laidR ns n (i + 1)) rs ∧ rs.length = L) := hid ⟨HR.out.1.mono (fun s hs => by
              unfold laidR pre
              constructor
              · rintro ⟨h4, h5⟩
                exact ⟨h4, by rcases h5 with h5 | h5; exact .inl h5; exact .inr ⟨h5.1, by omega⟩⟩
              · rintro ⟨h4, h5⟩
                refine ⟨h4, ?_⟩
                rcases h5 with h5 | h5
                · exact .inl h5
                · refine .inr ⟨h5.1, ?_⟩
                  by_cases e : s = i
                  · subst e; omega
                  · omega), HR.out.2⟩
            clear hk hkn
            go_wp2_with fail
            go_roundg (gk1 - 1)
            case measure => have := HG1.out; omega
            case rel => exact ⟨i + 1, code, last, rs, by omega, by omega, by omega, by omega, by go_num, rfl, rfl, HCM, HRM⟩
        · have hiL : i = L := by omega
          have HCR : Hid (Cnt ns (n + 1) 0 code last) := hid (Cnt.round (by have h := HC.out; rw [hiL, HL.out] at h; exact h))
          have HRR : Hid (RW w wr w.heap.size L ns (laidR ns (n + 1) 0) rs ∧ rs.length = L) := hid ⟨HR.out.1.mono (fun s hs => by
            have := HR.out.2
            unfold laidR pre
            constructor
            · rintro ⟨h4, h5⟩
              exact ⟨h4, .inl (by omega)⟩
            · rintro ⟨h4, h5⟩
              refine ⟨h4, ?_⟩
              rcases h5 with h5 | h5
              · by_cases e : key ns s < n
                · exact .inl e
                · exact .inr ⟨by omega, by omega⟩
              · omega), HR.out.2⟩
          clear hiL
          go_wp2_with fail
          go_roundg (gk0 - 1)
          case measure => have := HG.out; omega
          case rel => exact ⟨n + 1, code, last, rs, by omega, by omega, by omega, by omega, by omega, by go_num, rfl, rfl, HCR, HRR⟩
    · have bn : decide ((n : Int) ≤ 15) = false := by simp; omega
      go_wp2_with fail
      go_ret
      refine ⟨w.heap.size, rs, rfl, HR.out.1.mono (fun s hs => ?_)⟩
      have h15 : key ns s ≤ 15 := by
        by_cases e : s < ns.length
        · rw [key_get e]; exact H15.out _ (List.getElem_mem _)
        · simp [key, e]
      unfold laidR pre
      constructor
      · exact fun h => h.1
      · exact fun h => ⟨h, .inl (by omega)⟩

end Go.Proofs.YtofhlnpbflkdlaaDoor

/-
  The reference's Read.
-/
namespace Go.Proofs.YtofhlnpbflkdlaaDoor
open Go.RowKit

/-- A literal row of numbers. -/
theorem src_nats (w : World) (zs : List Nat) (n : Nat) (hn : zs.length = n) : SrcE natV (w.alloc (.cells (zs.map natV).toArray 3)) (fun k => k = w.heap.size) (.slice (some ⟨w.heap.size, 0, none⟩) n n) zs := by
  subst hn
  refine ⟨_, _, rfl, Nat.le_refl _, fun _ => ⟨_, _, rfl, rfl, fun j hj => ?_⟩⟩
  simp [hj]

theorem RW.down {w w0 w' : World} {go n : Nat} {ns : List Nat} {p : Nat → Prop} {rs : List (Option Addr × Nat × Nat)} (h : RW w0 w' go n ns p rs) (hk : Same w w0) : RW w w' go n ns p rs :=
  ⟨RowE.base h.row hk.size, fun s hs hp => ⟨(h.have' s hs hp).1, fun k e => Nat.le_trans hk.size ((h.have' s hs hp).2 k e)⟩, h.none', Same.trans hk h.same⟩

theorem chk_codes (l : List Nat) (hl : l.length = 19) (h7 : ∀ x ∈ l, x ≤ 7) : chk (l.map (fun (n : Nat) => (n : Int))) = chkN l := by
  have hok : okAll (l.map (fun (n : Nat) => (n : Int))) 0 15 = true := by
    simp only [okAll, List.length_map, Bool.and_eq_true, decide_eq_true_eq, Bool.not_eq_true', List.any_eq_false]
    refine ⟨⟨by omega, by omega⟩, fun z hz => ?_⟩
    obtain ⟨n, hn, rfl⟩ := List.mem_map.1 hz
    have := h7 n hn
    simp [badI]; omega
  unfold chk
  rw [if_pos hok, List.map_map]
  have e : l.map (Int.toNat ∘ fun (n : Nat) => (n : Int)) = l := by
    conv => rhs; rw [← List.map_id l]
    exact List.map_congr_left (fun n _ => by simp)
  rw [e]

theorem stepF_le {ns ls : List Nat} {c s x c' : Nat} (h : stepF ns ls c = .ok ((s, x), c')) : c' ≤ ls.length := by
  unfold stepF at h
  split at h
  · cases h
  · split at h
    · cases h
    · simp only [Except.ok.injEq, Prod.mk.injEq] at h
      omega

theorem bodyF_step {ns ls : List Nat} {N f c s x c' : Nat} {l : List Nat} (hl : l.length < N) (hs : stepF ns ls c = .ok ((s, x), c')) : bodyF ns ls N (f + 1) l c = match withM l ((s : Int), (x : Int)) N with | none => .error 41 | some m => bodyF ns ls N f m c' := by
  simp only [bodyF]
  rw [if_neg (by omega), hs]
  rfl

theorem bodyF_err {ns ls : List Nat} {N f c e : Nat} {l : List Nat} (hl : l.length < N) (hs : stepF ns ls c = .error e) : bodyF ns ls N (f + 1) l c = .error e := by
  simp only [bodyF]
  rw [if_neg (by omega), hs]

theorem bodyF_end {ns ls : List Nat} {N f c : Nat} {l : List Nat} (hl : N ≤ l.length) : bodyF ns ls N f l c = .ok (l, c) := by
  cases f with
  | zero => rfl
  | succ f => simp only [bodyF]; rw [if_pos hl]

/-- An answer of Read. -/
def ReadA (w w' : World) (r : Ending) : Except Nat ((List Nat × List Nat) × Nat) → Prop
  | .error e => r = .returned (.tuple #[.slice none 0 0, .slice none 0 0, .int .i64 0, .int .i64 (e : Nat)]) ∧ Same w w'
  | .ok ((a, b), n) => (∃ va vb, r = .returned (.tuple #[va, vb, .int .i64 (n : Nat), .int .i64 0]) ∧ SrcE natV w' (fun k => w.heap.size ≤ k) va a ∧ SrcE natV w' (fun k => w.heap.size ≤ k) vb b) ∧ Same w w'

theorem hTake_ok {ls : List Nat} {c n : Nat} (h : c + n ≤ ls.length) : hTake ls c 0 n = (numAt ls c n, c + n, 0) := by
  unfold hTake
  rw [if_neg (by simp), if_neg (by omega)]
theorem hTake_le (ls : List Nat) (c e n : Nat) (hc : c ≤ ls.length) : (hTake ls c e n).2.1 ≤ ls.length := by
  unfold hTake
  split
  · exact hc
  · split
    · exact hc
    · simp only; omega
theorem hTake_stuck {ls : List Nat} {c e n : Nat} (h : e ≠ 0) : hTake ls c e n = (0, c, e) := by unfold hTake; rw [if_pos h]
theorem hTake_end {ls : List Nat} {c n : Nat} (h : ls.length < c + n) : hTake ls c 0 n = (0, c, 10) := by
  unfold hTake
  rw [if_neg (by simp), if_pos h]

/-- Three numbers that are not there. -/
theorem hTake_three (ls : List Nat) (a : Nat) (h : ls.length < a + 14) (t1 t2 t3 : Nat × Nat × Nat) (h1 : hTake ls a 0 5 = t1) (h2 : hTake ls t1.2.1 t1.2.2 5 = t2) (h3 : hTake ls t2.2.1 t2.2.2 4 = t3) : t3.2.2 = 10 := by
  by_cases k1 : ls.length < a + 5
  · rw [hTake_end k1] at h1
    subst h1
    rw [hTake_stuck (by simp)] at h2
    subst h2
    rw [hTake_stuck (by simp)] at h3
    subst h3
    rfl
  · rw [hTake_ok (by omega)] at h1
    subst h1
    simp only at h2
    by_cases k2 : ls.length < a + 5 + 5
    · rw [hTake_end k2] at h2
      subst h2
      rw [hTake_stuck (by simp)] at h3
      subst h3
      rfl
    · rw [hTake_ok (by omega)] at h2
      subst h2
      simp only at h3
      rw [hTake_end (by omega)] at h3
      subst h3
      rfl

theorem stepF_ge {ns ls : List Nat} {c s x c' : Nat} (h : stepF ns ls c = .ok ((s, x), c')) : c ≤ c' := by
  unfold stepF at h
  split at h
  · cases h
  · split at h
    · cases h
    · simp only [Except.ok.injEq, Prod.mk.injEq] at h
      omega

/-- The lengths of the steps' codes, as they are read: all is well, or the bits have ended. -/
def CodesAt (ls : List Nat) (a i c e : Nat) (xs : List Nat) : Prop := (a + 14 + 3 * i ≤ ls.length ∧ c = a + 14 + 3 * i ∧ e = 0 ∧ xs = codesF ls (a + 14) i) ∨ (ls.length < a + 14 + 3 * i ∧ e = 10)

theorem CodesAt.next {ls : List Nat} {a i c e : Nat} {xs : List Nat} (h : CodesAt ls a i c e xs) {x c' e' : Nat} (ht : hTake ls c e 3 = (x, c', e')) : CodesAt ls a (i + 1) c' e' (xs.set (ord.getD i 0) x) := by
  rcases h with ⟨h1, rfl, rfl, rfl⟩ | ⟨h1, rfl⟩
  · by_cases hf : a + 14 + 3 * i + 3 ≤ ls.length
    · rw [hTake_ok hf] at ht
      simp only [Prod.mk.injEq] at ht
      obtain ⟨rfl, rfl, rfl⟩ := ht
      exact .inl ⟨by omega, by omega, rfl, rfl⟩
    · rw [hTake_end (by omega)] at ht
      simp only [Prod.mk.injEq] at ht
      obtain ⟨rfl, rfl, rfl⟩ := ht
      exact .inr ⟨by omega, rfl⟩
  · rw [hTake_stuck (by decide)] at ht
    simp only [Prod.mk.injEq] at ht
    obtain ⟨rfl, rfl, rfl⟩ := ht
    exact .inr ⟨by omega, rfl⟩

theorem ord_le : ∀ i, i < 19 → ord.getD i 0 ≤ 18 := by decide

theorem numAt3 (ls : List Nat) (h : ∀ b ∈ ls, b < 2) (c e : Nat) : (hTake ls c e 3).1 ≤ 7 := by
  have := numAt_lt ls h c 3
  unfold hTake
  split
  · simp
  · split
    · simp
    · simp only; omega

end Go.Proofs.YtofhlnpbflkdlaaDoor

/-
  A head that is laid is read as what was laid.
-/
namespace Go.Proofs.YtofhlnpbflkdlaaDoor

theorem fitL_iff {ns : List Nat} {s : Nat} (hm : measure ns ≤ 32768) (hs : s ∈ ris ns) (h15 : key ns s ≤ 15) (t : List Nat) (ht : ∀ b ∈ t, b < 2) : Fit ns t s ↔ key ns s ≤ t.length ∧ rv (key ns s) (n2 t) = codeOf ns s := by
  have hcl := code_lt2 hm hs h15
  have hpart : ∀ n, n ≤ t.length → n2 (t.take n) = n2 t % 2 ^ n := fun n hn => by
    have := n2_part t ht 0 n (by omega)
    simpa using this
  unfold Fit
  rw [List.prefix_iff_eq_take, rowOf_length]
  constructor
  · rintro ⟨_, h⟩
    have hl := congrArg List.length h
    rw [rowOf_length, List.length_take] at hl
    have hk : key ns s ≤ t.length := by omega
    refine ⟨hk, ?_⟩
    have h2 := congrArg n2 h
    rw [rowOf_n2, hpart _ hk] at h2
    rw [← rv_mod (key ns s) (key ns s) _ (Nat.le_refl _), ← h2, rv_rv, Nat.mod_eq_of_lt hcl]
  · rintro ⟨hk, h⟩
    refine ⟨(mem_ris.1 hs).2, ?_⟩
    refine n2_inj _ _ (by rw [rowOf_length, List.length_take]; omega) (rowOf_bit ns s) (fun x hx => ht x (List.mem_of_mem_take hx)) ?_
    rw [rowOf_n2, hpart _ hk, ← h, rv_rv]

/-- The row of a symbol that comes is read as it. -/
theorem nextF_row {ns : List Nat} {s : Nat} (hm : measure ns ≤ 32768) (h15 : ∀ x, key ns x ≤ 15) (hs : s < ns.length) (h0 : key ns s ≠ 0) (rest : List Nat) (hr : ∀ b ∈ rest, b < 2) : nextF ns (rowOf ns s ++ rest) = (s, key ns s, 0) := by
  have hb : ∀ b ∈ rowOf ns s ++ rest, b < 2 := fun b hb => by
    rcases List.mem_append.1 hb with h | h
    · exact rowOf_bit ns s b h
    · exact hr b h
  have hsr : s ∈ ris ns := mem_ris.2 ⟨hs, h0⟩
  have hf : Fit ns (rowOf ns s ++ rest) s := ⟨h0, List.prefix_append _ _⟩
  refine nextF_of (.inl ⟨rfl, hs, hf, rfl, fun j hj hfj => ?_⟩)
  have hjr : j ∈ ris ns := mem_ris.2 ⟨by omega, hfj.1⟩
  have h1 := ((fitL_iff hm hsr (h15 s) _ hb).1 hf).2
  have h2 := ((fitL_iff hm hjr (h15 j) _ hb).1 hfj).2
  have := fits_one hjr hsr h15 h2 h1
  omega

theorem numAt_laid (A B : List Nat) (v n : Nat) (h : v < 2 ^ n) : numAt (A ++ (bitsOf v n ++ B)) A.length n = v := by
  unfold numAt
  rw [List.drop_left, List.take_append_of_le_length (by rw [bitsOf_length]; exact Nat.le_refl _), List.take_of_length_le (by rw [bitsOf_length]; exact Nat.le_refl _), bitsOf_n2, Nat.mod_eq_of_lt h]

/-- A step's bits. -/
def stepBits (cs : List Nat) (s : Nat × Nat) : List Nat := rowOf cs s.1 ++ bitsOf s.2 (xbits s.1)

theorem stepBits_length (cs : List Nat) (s : Nat × Nat) : (stepBits cs s).length = key cs s.1 + xbits s.1 := by rw [stepBits, List.length_append, rowOf_length, bitsOf_length]

theorem stepBits_bit (cs : List Nat) (s : Nat × Nat) : ∀ b ∈ stepBits cs s, b < 2 := by
  intro b hb
  rcases List.mem_append.1 hb with h | h
  · exact rowOf_bit _ _ b h
  · exact bitsOf_lt _ _ b h

/-- Steps that may be laid by these codes. -/
def StepsOk (cs : List Nat) (ss : List (Nat × Nat)) : Prop := ∀ s ∈ ss, s.1 < cs.length ∧ key cs s.1 ≠ 0 ∧ s.2 < 2 ^ xbits s.1

theorem stepF_laid {cs : List Nat} (hm : measure cs ≤ 32768) (h15 : ∀ x, key cs x ≤ 15) (A B : List Nat) (hB : ∀ b ∈ B, b < 2) (s : Nat × Nat) (h1 : s.1 < cs.length) (h2 : key cs s.1 ≠ 0) (h3 : s.2 < 2 ^ xbits s.1) :
    stepF cs (A ++ (stepBits cs s ++ B)) A.length = .ok (s, A.length + (stepBits cs s).length) := by
  have hn : nextF cs ((A ++ (stepBits cs s ++ B)).drop A.length) = (s.1, key cs s.1, 0) := by
    rw [List.drop_left, stepBits, List.append_assoc]
    refine nextF_row hm h15 h1 h2 _ (fun b hb => ?_)
    rcases List.mem_append.1 hb with h | h
    · exact bitsOf_lt _ _ b h
    · exact hB b h
  have hx : numAt (A ++ (stepBits cs s ++ B)) (A.length + key cs s.1) (xbits s.1) = s.2 := by
    have := numAt_laid (A ++ rowOf cs s.1) B s.2 (xbits s.1) h3
    rw [List.length_append, rowOf_length] at this
    rw [stepBits, List.append_assoc, ← List.append_assoc A]
    exact this
  unfold stepF
  rw [hn]
  simp only
  rw [if_neg (by simp), if_neg (by rw [List.length_append, List.length_append, stepBits_length]; omega), hx, stepBits_length, Nat.add_assoc]

theorem bodyF_laid {cs : List Nat} (hm : measure cs ≤ 32768) (h15 : ∀ x, key cs x ≤ 15) (N : Nat) (B : List Nat) (hB : ∀ b ∈ B, b < 2) (ss : List (Nat × Nat)) (hs : StepsOk cs ss) (A l m : List Nat) (f : Nat) (hl : ∀ x ∈ l, x ≤ 15) (hf : N - l.length ≤ f)
    (hr : runM N l (ss.map (fun s => ((s.1 : Int), (s.2 : Int)))) = some m) (hN : m.length = N) : bodyF cs (A ++ (ss.flatMap (stepBits cs) ++ B)) N f l A.length = .ok (m, A.length + (ss.flatMap (stepBits cs)).length) := by
  induction ss generalizing A l f with
  | nil =>
    simp only [List.map_nil, runM, Option.some.injEq] at hr
    subst hr
    rw [bodyF_end (by omega)]
    simp
  | cons s r ih =>
    have h1 := hs s (by simp)
    simp only [List.map_cons, runM] at hr
    cases hw : withM l ((s.1 : Int), (s.2 : Int)) N with
    | none => rw [hw] at hr; cases hr
    | some l2 =>
      rw [hw] at hr
      simp only at hr
      have hg := withM_grows hw hl
      obtain ⟨f, rfl⟩ : ∃ g, f = g + 1 := ⟨f - 1, by omega⟩
      have hB2 : ∀ b ∈ r.flatMap (stepBits cs) ++ B, b < 2 := fun b hb => by
        rcases List.mem_append.1 hb with h | h
        · obtain ⟨t, _, ht⟩ := List.mem_flatMap.1 h
          exact stepBits_bit cs t b ht
        · exact hB b h
      have hst := stepF_laid hm h15 A (r.flatMap (stepBits cs) ++ B) hB2 s h1.1 h1.2.1 h1.2.2
      rw [List.flatMap_cons, List.append_assoc, bodyF_step (by omega) hst, hw]
      simp only
      have := ih (fun t ht => hs t (List.mem_cons_of_mem _ ht)) (A ++ stepBits cs s) l2 f hg.2.2 (by omega) hr
      rw [List.append_assoc, List.length_append] at this
      rw [this, List.length_append, Nat.add_assoc]

/-- The lengths of the steps' codes, as bits. -/
def codeBits (cs : List Nat) : Nat → List Nat
  | 0 => []
  | i + 1 => codeBits cs i ++ bitsOf (cs.getD (ord.getD i 0) 0) 3

theorem codeBits_length (cs : List Nat) (i : Nat) : (codeBits cs i).length = 3 * i := by
  induction i with
  | zero => rfl
  | succ i ih => rw [codeBits, List.length_append, ih, bitsOf_length]; omega

theorem codeBits_bit (cs : List Nat) (i : Nat) : ∀ b ∈ codeBits cs i, b < 2 := by
  induction i with
  | zero => simp [codeBits]
  | succ i ih =>
    intro b hb
    rcases List.mem_append.1 hb with h | h
    · exact ih b h
    · exact bitsOf_lt _ _ b h

theorem codeBits_split (cs : List Nat) (i n : Nat) (h : i < n) : ∃ r, codeBits cs n = codeBits cs i ++ (bitsOf (cs.getD (ord.getD i 0) 0) 3 ++ r) := by
  induction n with
  | zero => omega
  | succ n ih =>
    by_cases e : i = n
    · subst e; exact ⟨[], by simp [codeBits]⟩
    · obtain ⟨r, hr⟩ := ih (by omega)
      exact ⟨r ++ bitsOf (cs.getD (ord.getD n 0) 0) 3, by rw [codeBits, hr]; simp⟩

theorem ord_all : ∀ p, p < 19 → ∃ j, j < 19 ∧ ord.getD j 0 = p := by decide

theorem codesF_laid (cs : List Nat) (h7 : ∀ x ∈ cs, x ≤ 7) (hl : cs.length = 19) (A B : List Nat) (n : Nat) (hn : n ≤ 19) (i : Nat) (hi : i ≤ n) : ∀ p, p < 19 → (codesF (A ++ (codeBits cs n ++ B)) A.length i).getD p 0 = if (∃ j, j < i ∧ ord.getD j 0 = p) then cs.getD p 0 else 0 := by
  induction i with
  | zero =>
    intro p hp
    rw [if_neg (by rintro ⟨j, hj, _⟩; omega)]
    rw [codesF, List.getD_eq_getElem?_getD, List.getElem?_replicate, if_pos hp]
    rfl
  | succ i ih =>
    intro p hp
    have ih := ih (by omega) p hp
    obtain ⟨r, hr⟩ := codeBits_split cs i n (by omega)
    have ho := ord_le i (by omega)
    have hv : cs.getD (ord.getD i 0) 0 < 2 ^ 3 := by
      have hlt : ord.getD i 0 < cs.length := by omega
      have e : cs.getD (ord.getD i 0) 0 = cs[ord.getD i 0] := by rw [List.getD_eq_getElem?_getD, List.getElem?_eq_getElem hlt]; rfl
      rw [e]
      have := h7 _ (List.getElem_mem hlt)
      omega
    have hnum : numAt (A ++ (codeBits cs n ++ B)) (A.length + 3 * i) 3 = cs.getD (ord.getD i 0) 0 := by
      have := numAt_laid (A ++ codeBits cs i) (r ++ B) _ 3 hv
      rw [List.length_append, codeBits_length] at this
      rw [hr]
      simp only [List.append_assoc] at this ⊢
      exact this
    rw [codesF, hnum]
    have hlen := codesF_length (A ++ (codeBits cs n ++ B)) A.length i
    by_cases e : ord.getD i 0 = p
    · rw [if_pos ⟨i, by omega, e⟩, e]
      rw [List.getD_eq_getElem?_getD, List.getElem?_set_self (by omega)]
      rfl
    · rw [List.getD_eq_getElem?_getD, List.getElem?_set_ne e, ← List.getD_eq_getElem?_getD, ih]
      by_cases h : ∃ j, j < i ∧ ord.getD j 0 = p
      · obtain ⟨j, hj, hp⟩ := h
        rw [if_pos ⟨j, hj, hp⟩, if_pos ⟨j, by omega, hp⟩]
      · rw [if_neg h, if_neg]
        rintro ⟨j, hj, hp⟩
        by_cases e2 : j = i
        · subst e2; exact e hp
        · exact h ⟨j, by omega, hp⟩

/-- What is laid for two lists. -/
structure HeadOk (lit dist : List Nat) (many : Nat) (cs : List Nat) (ss : List (Nat × Nat)) : Prop where
  l1 : 257 ≤ lit.length
  l2 : lit.length ≤ 286
  d1 : 1 ≤ dist.length
  d2 : dist.length ≤ 30
  m1 : 4 ≤ many
  m2 : many ≤ 19
  c19 : cs.length = 19
  c7 : ∀ x ∈ cs, x ≤ 7
  ok : chkN cs = 0
  rest : ∀ j, many ≤ j → j < 19 → cs.getD (ord.getD j 0) 0 = 0
  st : StepsOk cs ss
  run : runM (lit.length + dist.length) [] (ss.map (fun s => ((s.1 : Int), (s.2 : Int)))) = some (lit ++ dist)

def headBits (nl nd many : Nat) (cs : List Nat) (ss : List (Nat × Nat)) : List Nat :=
  bitsOf (nl - 257) 5 ++ (bitsOf (nd - 1) 5 ++ (bitsOf (many - 4) 4 ++ (codeBits cs many ++ ss.flatMap (stepBits cs))))

theorem headBits_bit (nl nd many : Nat) (cs : List Nat) (ss : List (Nat × Nat)) : ∀ b ∈ headBits nl nd many cs ss, b < 2 := by
  intro b hb
  unfold headBits at hb
  rcases List.mem_append.1 hb with h | h
  · exact bitsOf_lt _ _ b h
  · rcases List.mem_append.1 h with h | h
    · exact bitsOf_lt _ _ b h
    · rcases List.mem_append.1 h with h | h
      · exact bitsOf_lt _ _ b h
      · rcases List.mem_append.1 h with h | h
        · exact codeBits_bit _ _ b h
        · obtain ⟨t, _, ht⟩ := List.mem_flatMap.1 h
          exact stepBits_bit cs t b ht

theorem headBits_length (nl nd many : Nat) (cs : List Nat) (ss : List (Nat × Nat)) : (headBits nl nd many cs ss).length = 14 + 3 * many + (ss.flatMap (stepBits cs)).length := by
  unfold headBits
  simp only [List.length_append, bitsOf_length, codeBits_length]
  omega

theorem readF_laid {lit dist : List Nat} {many : Nat} {cs : List Nat} {ss : List (Nat × Nat)} (h : HeadOk lit dist many cs ss) (A B : List Nat) (hB : ∀ b ∈ B, b < 2) :
    readF (A ++ (headBits lit.length dist.length many cs ss ++ B)) A.length = .ok ((lit, dist), (headBits lit.length dist.length many cs ss).length) := by
  have hm : measure cs ≤ 32768 := by
    have := h.ok
    unfold chkN at this
    split at this
    · omega
    · omega
  have h15 : ∀ x, key cs x ≤ 15 := fun x => by
    by_cases e : x < cs.length
    · rw [key_get e]; have := h.c7 _ (List.getElem_mem e); omega
    · simp [key, e]
  have hl1 := h.l1; have hl2 := h.l2; have hd1 := h.d1; have hd2 := h.d2; have hm1 := h.m1; have hm2 := h.m2
  have hlen := headBits_length lit.length dist.length many cs ss
  obtain ⟨T, hT⟩ : ∃ T, T = A ++ (headBits lit.length dist.length many cs ss ++ B) := ⟨_, rfl⟩
  have hTl : T.length = A.length + (14 + 3 * many + (ss.flatMap (stepBits cs)).length) + B.length := by rw [hT, List.length_append, List.length_append, hlen]; omega
  have n1 : numAt T A.length 5 = lit.length - 257 := by
    have := numAt_laid A (bitsOf (dist.length - 1) 5 ++ (bitsOf (many - 4) 4 ++ (codeBits cs many ++ ss.flatMap (stepBits cs))) ++ B) (lit.length - 257) 5 (by omega)
    rw [hT]
    unfold headBits
    simp only [List.append_assoc] at this ⊢
    exact this
  have n2' : numAt T (A.length + 5) 5 = dist.length - 1 := by
    have := numAt_laid (A ++ bitsOf (lit.length - 257) 5) (bitsOf (many - 4) 4 ++ (codeBits cs many ++ ss.flatMap (stepBits cs)) ++ B) (dist.length - 1) 5 (by omega)
    rw [List.length_append, bitsOf_length] at this
    rw [hT]
    unfold headBits
    simp only [List.append_assoc] at this ⊢
    exact this
  have n3 : numAt T (A.length + 10) 4 = many - 4 := by
    have := numAt_laid (A ++ (bitsOf (lit.length - 257) 5 ++ bitsOf (dist.length - 1) 5)) (codeBits cs many ++ ss.flatMap (stepBits cs) ++ B) (many - 4) 4 (by omega)
    rw [List.length_append, List.length_append, bitsOf_length, bitsOf_length] at this
    rw [hT]
    unfold headBits
    simp only [List.append_assoc] at this ⊢
    exact this
  have hcs : codesF T (A.length + 14) many = cs := by
    have hA : (A ++ (bitsOf (lit.length - 257) 5 ++ (bitsOf (dist.length - 1) 5 ++ bitsOf (many - 4) 4))).length = A.length + 14 := by simp [bitsOf_length]
    have := codesF_laid cs h.c7 h.c19 (A ++ (bitsOf (lit.length - 257) 5 ++ (bitsOf (dist.length - 1) 5 ++ bitsOf (many - 4) 4))) (ss.flatMap (stepBits cs) ++ B) many hm2 many (Nat.le_refl _)
    rw [hA] at this
    have eT : A ++ (bitsOf (lit.length - 257) 5 ++ (bitsOf (dist.length - 1) 5 ++ bitsOf (many - 4) 4)) ++ (codeBits cs many ++ (ss.flatMap (stepBits cs) ++ B)) = T := by rw [hT]; unfold headBits; simp only [List.append_assoc]
    rw [eT] at this
    refine List.ext_getElem (by rw [codesF_length, h.c19]) (fun p h1 h2 => ?_)
    rw [codesF_length] at h1
    have hp := this p h1
    have e1 : (codesF T (A.length + 14) many).getD p 0 = (codesF T (A.length + 14) many)[p] := by rw [List.getD_eq_getElem?_getD, List.getElem?_eq_getElem]; rfl
    have e2 : cs.getD p 0 = cs[p] := by rw [List.getD_eq_getElem?_getD, List.getElem?_eq_getElem]; rfl
    rw [e1] at hp
    rw [hp]
    obtain ⟨j, hj, hjp⟩ := ord_all p h1
    by_cases hjm : j < many
    · rw [if_pos ⟨j, hjm, hjp⟩, e2]
    · have hz := h.rest j (by omega) hj
      rw [hjp, e2] at hz
      split
      · exact e2
      · exact hz.symm
  have hbody : bodyF cs T (lit.length + dist.length) (lit.length + dist.length) [] (A.length + 14 + 3 * many) = .ok (lit ++ dist, A.length + 14 + 3 * many + (ss.flatMap (stepBits cs)).length) := by
    have hA : (A ++ (bitsOf (lit.length - 257) 5 ++ (bitsOf (dist.length - 1) 5 ++ (bitsOf (many - 4) 4 ++ codeBits cs many)))).length = A.length + 14 + 3 * many := by simp [bitsOf_length, codeBits_length]; omega
    have := bodyF_laid hm h15 (lit.length + dist.length) B hB ss h.st (A ++ (bitsOf (lit.length - 257) 5 ++ (bitsOf (dist.length - 1) 5 ++ (bitsOf (many - 4) 4 ++ codeBits cs many)))) [] (lit ++ dist) (lit.length + dist.length) (by simp) (by simp) h.run (by simp)
    rw [hA] at this
    have eT : A ++ (bitsOf (lit.length - 257) 5 ++ (bitsOf (dist.length - 1) 5 ++ (bitsOf (many - 4) 4 ++ codeBits cs many))) ++ (ss.flatMap (stepBits cs) ++ B) = T := by rw [hT]; unfold headBits; simp only [List.append_assoc]
    rw [eT] at this
    exact this
  rw [← hT]
  unfold readF
  rw [n1, n2', n3, show many - 4 + 4 = many by omega, show lit.length - 257 + 257 = lit.length by omega, show dist.length - 1 + 1 = dist.length by omega, hcs, hbody, if_neg (by omega), if_neg (by omega), if_neg (by omega), if_neg (by rw [h.ok]; simp)]
  simp only
  rw [List.take_left, List.drop_left, hlen]
  congr 2
  omega

end Go.Proofs.YtofhlnpbflkdlaaDoor

/-
  Unpack of Pack; how long a head is.
-/
namespace Go.Proofs.YtofhlnpbflkdlaaDoor

theorem withM_mono {l m : List Nat} {s : Int × Int} {n n' : Nat} (h : n' ≤ n) (hw : withM l s n' = some m) : withM l s n = some m := by
  unfold withM at hw ⊢
  split at hw
  · cases hw
  · split at hw
    · cases hw
    · rename_i v k hs _
      rw [if_neg (by omega)]
      exact hw

theorem runM_mono {l m : List Nat} {ss : List (Int × Int)} {n n' : Nat} (h : n' ≤ n) (hr : runM n' l ss = some m) : runM n l ss = some m := by
  induction ss generalizing l with
  | nil => exact hr
  | cons a r ih =>
    simp only [runM] at hr ⊢
    cases hw : withM l a n' with
    | none => rw [hw] at hr; cases hr
    | some k =>
      rw [hw] at hr
      rw [withM_mono h hw]
      exact ih hr

theorem unp_same (l : List Nat) (h15 : ∀ x ∈ l, x ≤ 15) (hn : l.length ≤ 316) : unpM (packM l) (l.length : Int) = .ok l := by
  unfold unpM
  rw [if_neg (by omega), Int.toNat_natCast, runM_pack l.length l [] h15 (by simp)]
  simp

theorem unp_less (l : List Nat) (h15 : ∀ x ∈ l, x ≤ 15) (hn : l.length ≤ 316) (h0 : 0 < l.length) : unpM (packM l) ((l.length : Int) - 1) = .error 41 := by
  unfold unpM
  rw [if_neg (by omega)]
  have e : ((l.length : Int) - 1).toNat = l.length - 1 := by omega
  rw [e]
  cases hr : runM (l.length - 1) [] (packM l) with
  | none => rfl
  | some m =>
    exfalso
    have h1 := runM_mono (n := l.length) (by omega) hr
    rw [runM_pack l.length l [] h15 (by simp)] at h1
    simp only [List.nil_append, Option.some.injEq] at h1
    have h2 := runM_le hr (by simp) (by simp)
    rw [← h1] at h2
    omega

theorem unp_more (l : List Nat) (h15 : ∀ x ∈ l, x ≤ 15) (hn : l.length < 316) : unpM (packM l) ((l.length : Int) + 1) = .error 41 := by
  unfold unpM
  rw [if_neg (by omega)]
  have e : ((l.length : Int) + 1).toNat = l.length + 1 := by omega
  rw [e, runM_pack (l.length + 1) l [] h15 (by simp)]
  simp

theorem unp_far (ss : List (Int × Int)) (n : Int) (h : n < 0 ∨ 316 < n) : unpM ss n = .error 1 := by
  unfold unpM
  rw [if_pos h]

theorem xbits_le (s : Nat) : xbits s ≤ 7 := by
  unfold xbits
  split
  · omega
  · split
    · omega
    · split <;> omega

theorem steps_len (cs : List Nat) (h7 : ∀ x ∈ cs, x ≤ 7) (ss : List (Nat × Nat)) : (ss.flatMap (stepBits cs)).length ≤ 14 * ss.length := by
  induction ss with
  | nil => simp
  | cons s r ih =>
    rw [List.flatMap_cons, List.length_append, stepBits_length, List.length_cons]
    have h1 := xbits_le s.1
    have h2 : key cs s.1 ≤ 7 := by
      by_cases e : s.1 < cs.length
      · rw [key_get e]; exact h7 _ (List.getElem_mem e)
      · simp [key, e]
    omega

theorem head_len {lit dist : List Nat} {many : Nat} {cs : List Nat} {ss : List (Nat × Nat)} (h : HeadOk lit dist many cs ss) (hs : ss.length ≤ lit.length + dist.length) : (headBits lit.length dist.length many cs ss).length ≤ 71 + 14 * (lit.length + dist.length) := by
  rw [headBits_length]
  have h1 := steps_len cs h.c7 ss
  have h2 := h.m2
  omega

/-- Pack's steps in numbers from 0 on, and what they are. -/
def packN (l : List Nat) : List (Nat × Nat) := (packM l).map (fun s => (s.1.toNat, s.2.toNat))

/-- A step that may be. -/
def StepIs (s : Int × Int) : Prop := 0 ≤ s.1 ∧ s.1 ≤ 18 ∧ 0 ≤ s.2 ∧ s.2.toNat < 2 ^ xbits s.1.toNat

theorem zerosM_is (n : Nat) : ∀ s ∈ zerosM n, StepIs s := by
  induction n using Nat.strongRecOn with
  | ind n ih =>
    intro s hs
    by_cases h : 11 ≤ n
    · rw [zerosM_big n h] at hs
      rcases List.mem_cons.1 hs with rfl | hs
      · refine ⟨by simp, by simp, by simp only; omega, ?_⟩
        show (((min n 138 - 11 : Nat) : Int)).toNat < 2 ^ 7
        omega
      · exact ih _ (by omega) s hs
    · by_cases h3 : 3 ≤ n
      · rw [zerosM_mid n (by omega) h3] at hs
        have : s = (17, ((n - 3 : Nat) : Int)) := by simpa using hs
        subst this
        refine ⟨by simp, by simp, by simp only; omega, ?_⟩
        show (((n - 3 : Nat) : Int)).toNat < 2 ^ 3
        omega
      · rw [zerosM_few n (by omega)] at hs
        have := List.eq_of_mem_replicate hs
        subst this
        exact ⟨by simp, by simp, by simp, by decide⟩

theorem againM_is (v n : Nat) (hv : v ≤ 15) : ∀ s ∈ againM v n, StepIs s := by
  induction n using Nat.strongRecOn with
  | ind n ih =>
    intro s hs
    by_cases h : 3 ≤ n
    · rw [againM_big v n h] at hs
      rcases List.mem_cons.1 hs with rfl | hs
      · refine ⟨by simp, by simp, by simp only; omega, ?_⟩
        show (((min n 6 - 3 : Nat) : Int)).toNat < 2 ^ 2
        omega
      · exact ih _ (by omega) s hs
    · rw [againM_few v n (by omega)] at hs
      have := List.eq_of_mem_replicate hs
      subst this
      refine ⟨by simp, by simp only; omega, by simp, ?_⟩
      show (0 : Int).toNat < 2 ^ xbits _
      exact Nat.two_pow_pos _

theorem sayM_is (v n : Nat) (hv : v ≤ 15) : ∀ s ∈ sayM v n, StepIs s := by
  intro s hs
  unfold sayM at hs
  split at hs
  · exact zerosM_is n s hs
  · rcases List.mem_cons.1 hs with rfl | hs
    · refine ⟨by simp, by simp only; omega, by simp, ?_⟩
      show (0 : Int).toNat < 2 ^ xbits _
      exact Nat.two_pow_pos _
    · exact againM_is v _ hv s hs

theorem packM_is (l : List Nat) (h15 : ∀ x ∈ l, x ≤ 15) : ∀ s ∈ packM l, StepIs s := by
  induction hn : l.length using Nat.strongRecOn generalizing l with
  | ind n ih =>
    cases l with
    | nil => intro s hs; simp [packM] at hs
    | cons v r =>
      intro s hs
      rw [packM_cons] at hs
      rcases List.mem_append.1 hs with hs | hs
      · exact sayM_is v _ (h15 v (by simp)) s hs
      · exact ih (r.drop (frontN v r)).length (by simp at hn ⊢; omega) _ (fun x hx => h15 x (List.mem_cons_of_mem _ (List.mem_of_mem_drop hx))) rfl s hs

theorem packN_cast (l : List Nat) (h15 : ∀ x ∈ l, x ≤ 15) : (packN l).map (fun s => ((s.1 : Int), (s.2 : Int))) = packM l := by
  unfold packN
  rw [List.map_map]
  conv => rhs; rw [← List.map_id (packM l)]
  refine List.map_congr_left (fun s hs => ?_)
  have h := packM_is l h15 s hs
  simp only [Function.comp, id]
  rw [Int.toNat_of_nonneg h.1, Int.toNat_of_nonneg h.2.2.1]

theorem packN_length (l : List Nat) : (packN l).length ≤ l.length := by
  unfold packN
  rw [List.length_map]
  exact packM_len l

end Go.Proofs.YtofhlnpbflkdlaaDoor

/-
  The program's own way of steps: shapes, what may stand, rows of like lengths.
-/
namespace Go.Proofs.YtofhlnpbflkdlaaDoor

/-- How many lengths a step says at least, and how many bits its number has. -/
def leastM (s : Int) : Nat := if s = 16 then 3 else if s = 17 then 3 else if s = 18 then 11 else 1
def widthM (s : Int) : Nat := if s = 16 then 2 else if s = 17 then 3 else if s = 18 then 7 else 0

theorem widthM_nat (s : Nat) : widthM (s : Int) = xbits s := by
  unfold widthM xbits
  by_cases h1 : s = 16
  · subst h1; rfl
  · by_cases h2 : s = 17
    · subst h2; rfl
    · by_cases h3 : s = 18
      · subst h3; rfl
      · rw [if_neg (by omega), if_neg (by omega), if_neg (by omega), if_neg h1, if_neg h2, if_neg h3]

theorem widthM_le (s : Int) : widthM s ≤ 7 := by
  unfold widthM
  split
  · omega
  · split
    · omega
    · split <;> omega

theorem leastM_le (s : Int) : 1 ≤ leastM s ∧ leastM s ≤ 11 := by
  unfold leastM
  split
  · omega
  · split
    · omega
    · split <;> omega

/-- The length that a step says. -/
def sayV (s : Int) (l : List Nat) : Nat := if s = 16 then lastN l else if s = 17 ∨ s = 18 then 0 else s.toNat

/-- Is it a step, and may it stand where so many of n lengths were said? -/
def mayB (s : Int × Int) (said n : Nat) : Prop := 0 ≤ s.1 ∧ s.1 ≤ 18 ∧ 0 ≤ s.2 ∧ s.2 < 2 ^ widthM s.1 ∧ ¬ (s.1 = 16 ∧ said = 0) ∧ (said + leastM s.1 : Nat) + s.2 ≤ n

theorem withM_may {l : List Nat} {s : Int × Int} {n : Nat} (h : mayB s l.length n) : withM l s n = some (l ++ List.replicate (leastM s.1 + s.2.toNat) (sayV s.1 l)) := by
  obtain ⟨a, b⟩ := s
  obtain ⟨h1, h2, h3, h4, h5, h6⟩ := h
  simp only at h1 h2 h3 h4 h5 h6 ⊢
  refine withM_ok ?_ (by omega)
  unfold saysM
  simp only
  by_cases e16 : a = 16
  · subst e16
    have hw : widthM 16 = 2 := rfl
    have hl : leastM 16 = 3 := rfl
    rw [hw] at h4
    rw [if_neg (by omega), if_pos ⟨rfl, h3, by omega, by omega⟩, hl]
    simp only [sayV, if_true]
    congr 2; omega
  · by_cases e17 : a = 17
    · subst e17
      have hw : widthM 17 = 3 := rfl
      have hl : leastM 17 = 3 := rfl
      rw [hw] at h4
      rw [if_neg (by omega), if_neg (by omega), if_pos ⟨rfl, h3, by omega⟩, hl]
      simp [sayV]; omega
    · by_cases e18 : a = 18
      · subst e18
        have hw : widthM 18 = 7 := rfl
        have hl : leastM 18 = 11 := rfl
        rw [hw] at h4
        rw [if_neg (by omega), if_neg (by omega), if_neg (by omega), if_pos ⟨rfl, h3, by omega⟩, hl]
        simp [sayV]; omega
      · have hw : widthM a = 0 := by unfold widthM; rw [if_neg e16, if_neg e17, if_neg e18]
        have hl : leastM a = 1 := by unfold leastM; rw [if_neg e16, if_neg e17, if_neg e18]
        rw [hw] at h4
        have hb : b = 0 := by omega
        subst hb
        rw [if_pos ⟨h1, by omega, rfl⟩, hl]
        unfold sayV
        rw [if_neg e16, if_neg (by omega)]
        rfl

theorem withM_no {l : List Nat} {s : Int × Int} {n : Nat} (h : ¬ mayB s l.length n) : withM l s n = none := by
  cases hw : withM l s n with
  | none => rfl
  | some m =>
    exfalso
    apply h
    obtain ⟨a, b⟩ := s
    unfold withM at hw
    split at hw
    · cases hw
    · rename_i v k hs
      split at hw
      · cases hw
      · rename_i hle
        unfold saysM at hs
        simp only at hs
        unfold mayB
        simp only
        split at hs
        · rename_i h1
          simp at hs
          have hw0 : widthM a = 0 := by unfold widthM; rw [if_neg (by omega), if_neg (by omega), if_neg (by omega)]
          have hl : leastM a = 1 := by unfold leastM; rw [if_neg (by omega), if_neg (by omega), if_neg (by omega)]
          rw [hw0, hl]
          omega
        · split at hs
          · rename_i h1
            simp at hs
            obtain ⟨rfl, h1⟩ := h1
            have hw0 : widthM 16 = 2 := rfl
            have hl : leastM 16 = 3 := rfl
            rw [hw0, hl]
            omega
          · split at hs
            · rename_i h1
              simp at hs
              obtain ⟨rfl, h1⟩ := h1
              have hw0 : widthM 17 = 3 := rfl
              have hl : leastM 17 = 3 := rfl
              rw [hw0, hl]
              omega
            · split at hs
              · rename_i h1
                simp at hs
                obtain ⟨rfl, h1⟩ := h1
                have hw0 : widthM 18 = 7 := rfl
                have hl : leastM 18 = 11 := rfl
                rw [hw0, hl]
                omega
              · cases hs

/-- So many steps of one kind as there are lengths for. -/
def manyL (s : Int) (lo hi n : Nat) : List (Int × Int) :=
  if 1 ≤ lo ∧ lo ≤ hi ∧ lo ≤ n then (s, ((min n hi - lo : Nat) : Int)) :: manyL s lo hi (n - min n hi) else []
termination_by n
decreasing_by omega

/-- And how many lengths are left. -/
def manyR (lo hi n : Nat) : Nat :=
  if 1 ≤ lo ∧ lo ≤ hi ∧ lo ≤ n then manyR lo hi (n - min n hi) else n
termination_by n
decreasing_by omega

theorem manyL_more {s : Int} {lo hi n : Nat} (h1 : 1 ≤ lo) (h2 : lo ≤ hi) (h3 : lo ≤ n) : manyL s lo hi n = (s, ((min n hi - lo : Nat) : Int)) :: manyL s lo hi (n - min n hi) := by
  rw [manyL, if_pos ⟨h1, h2, h3⟩]
theorem manyL_end {s : Int} {lo hi n : Nat} (h3 : n < lo) : manyL s lo hi n = [] := by rw [manyL, if_neg (by omega)]
theorem manyR_more {lo hi n : Nat} (h1 : 1 ≤ lo) (h2 : lo ≤ hi) (h3 : lo ≤ n) : manyR lo hi n = manyR lo hi (n - min n hi) := by
  rw [manyR, if_pos ⟨h1, h2, h3⟩]
theorem manyR_end {lo hi n : Nat} (h3 : n < lo) : manyR lo hi n = n := by rw [manyR, if_neg (by omega)]

theorem many_le (s : Int) (lo hi n : Nat) (h1 : 1 ≤ lo) (h2 : lo ≤ hi) : (manyL s lo hi n).length + manyR lo hi n ≤ n ∧ manyR lo hi n < lo := by
  induction n using Nat.strongRecOn with
  | ind n ih =>
    by_cases h : lo ≤ n
    · have := ih (n - min n hi) (by omega)
      rw [manyL_more h1 h2 h, manyR_more h1 h2 h, List.length_cons]
      omega
    · rw [manyL_end (by omega), manyR_end (by omega)]
      simp; omega

theorem zerosM_many (n : Nat) : zerosM n = manyL 18 11 138 n ++ (manyL 17 3 10 (manyR 11 138 n) ++ List.replicate (manyR 3 10 (manyR 11 138 n)) (0, 0)) := by
  induction n using Nat.strongRecOn with
  | ind n ih =>
    by_cases h : 11 ≤ n
    · rw [zerosM_big n h, manyL_more (by omega) (by omega) h, manyR_more (by omega) (by omega) h, ih (n - min n 138) (by omega)]
      rfl
    · rw [manyL_end (n := n) (by omega), manyR_end (n := n) (by omega)]
      by_cases h3 : 3 ≤ n
      · rw [zerosM_mid n (by omega) h3, manyL_more (by omega) (by omega) h3, manyR_more (by omega) (by omega) h3, show min n 10 = n by omega, Nat.sub_self, manyL_end (by omega), manyR_end (by omega)]
        rfl
      · rw [zerosM_few n (by omega), manyL_end (by omega), manyR_end (by omega)]
        rfl

theorem againM_many (v n : Nat) : againM v n = manyL 16 3 6 n ++ List.replicate (manyR 3 6 n) ((v : Int), 0) := by
  induction n using Nat.strongRecOn with
  | ind n ih =>
    by_cases h : 3 ≤ n
    · rw [againM_big v n h, manyL_more (by omega) (by omega) h, manyR_more (by omega) (by omega) h, ih (n - min n 6) (by omega)]
      rfl
    · rw [againM_few v n (by omega), manyL_end (by omega), manyR_end (by omega)]
      rfl

/-- How many of the codes' lengths come: noughts at the end are left out. -/
def comeN (cs : List Nat) : Nat → Nat
  | 0 => 0
  | k + 1 => if 4 < k + 1 ∧ cs.getD (ord.getD k 0) 0 = 0 then comeN cs k else k + 1

theorem comeN_ge (cs : List Nat) (k : Nat) (h : 4 ≤ k) : 4 ≤ comeN cs k ∧ comeN cs k ≤ k := by
  induction k with
  | zero => omega
  | succ k ih =>
    rw [comeN]
    split
    · have := ih (by omega); omega
    · omega

theorem comeN_rest (cs : List Nat) (k : Nat) : ∀ j, comeN cs k ≤ j → j < k → cs.getD (ord.getD j 0) 0 = 0 := by
  induction k with
  | zero => intro j _ h; omega
  | succ k ih =>
    intro j h1 h2
    rw [comeN] at h1
    split at h1
    · rename_i h
      by_cases e : j = k
      · subst e; exact h.2
      · exact ih j h1 (by omega)
    · omega

end Go.Proofs.YtofhlnpbflkdlaaDoor

/-
  The program's within, shape, mayStand, say.
-/
namespace Go.Proofs.YtofhlnpbflkdlaaDoor
open Go.RowKit

def inB (n lo hi : Int) : Bool := decide (lo ≤ n) && decide (n ≤ hi)

set_option maxHeartbeats 1000000 in
theorem within_any (w : World) (n lo hi : Int) :
    Calls Tryd.prog 33 #[.int .i64 n, .int .i64 lo, .int .i64 hi] w fun e w' => e = .returned (.bool (inB n lo hi)) ∧ w' = w := by
  go_enter Tryd.func33, Tryd.ntmps33
  by_cases h : lo ≤ n
  · go_wp2_with fail
    go_ret
    exact ⟨by simp only [inB, h, decide_true, Bool.true_and]; rfl, rfl⟩
  · go_wp2_with fail
    go_ret
    have hd : decide (lo ≤ n) = false := by simp; omega
    exact ⟨by simp only [inB, hd, Bool.false_and]; rfl, rfl⟩

set_option maxHeartbeats 1000000 in
theorem shape_any (w : World) (s : Int) :
    Calls Tryd.prog 58 #[.int .i64 s] w fun e w' => e = .returned (.tuple #[.int .i64 (leastM s : Nat), .int .i64 (widthM s : Nat)]) ∧ w' = w := by
  by_cases h16 : s = 16
  · subst h16
    go_enter Tryd.func58, Tryd.ntmps58
    go_wp2_with fail
    go_ret2
    exact ⟨rfl, rfl⟩
  · by_cases h17 : s = 17
    · subst h17
      go_enter Tryd.func58, Tryd.ntmps58
      go_wp2_with fail
      go_ret2
      exact ⟨rfl, rfl⟩
    · by_cases h18 : s = 18
      · subst h18
        go_enter Tryd.func58, Tryd.ntmps58
        go_wp2_with fail
        go_ret2
        exact ⟨rfl, rfl⟩
      · have e16 : (s == 16) = false := by simp; omega
        have e17 : (s == 17) = false := by simp; omega
        have e18 : (s == 18) = false := by simp; omega
        have HE : Hid (leastM s = 1 ∧ widthM s = 0) := hid ⟨by unfold leastM; rw [if_neg h16, if_neg h17, if_neg h18], by unfold widthM; rw [if_neg h16, if_neg h17, if_neg h18]⟩
        clear h16 h17 h18
        go_enter Tryd.func58, Tryd.ntmps58
        go_wp2_with fail
        go_ret2
        exact ⟨by rw [HE.out.1, HE.out.2]; rfl, rfl⟩

theorem pow_le7 (n : Nat) (h : n ≤ 7) : (2 : Nat) ^ n ≤ 128 := by
  have := Nat.pow_le_pow_right (show 0 < 2 by decide) h
  simpa using this

/-- mayStand's answer. -/
def MayR (e : Ending) (s : Int × Int) (said n : Nat) : Prop := ∃ r : Bool, e = .returned (.bool r) ∧ (r = true ↔ mayB s said n)

theorem MayR.no {e : Ending} {s : Int × Int} {said n : Nat} (h : MayR e s said n) (hm : ¬ mayB s said n) : e = .returned (.bool false) := by
  obtain ⟨r, rfl, hr⟩ := h
  cases r with
  | false => rfl
  | true => exact absurd (hr.1 rfl) hm

theorem MayR.yes {e : Ending} {s : Int × Int} {said n : Nat} (h : MayR e s said n) (hm : mayB s said n) : e = .returned (.bool true) := by
  obtain ⟨r, rfl, hr⟩ := h
  rw [hr.2 hm]

set_option maxRecDepth 100000 in
set_option maxHeartbeats 2000000 in
theorem mayStand_any (w : World) (a b : Int) (said n : Nat) (hs : said ≤ 1000000) :
    Calls Tryd.prog 39 #[.agg #[.int .i64 a, .int .i64 b], .int .i64 (said : Nat), .int .i64 (n : Nat)] w fun e w' => MayR e (a, b) said n ∧ Same w w' := by
  have hw7 := widthM_le a
  have hl1 := leastM_le a
  have HSH := shape_any (w.alloc (.cells #[.int .i64 a, .int .i64 b] 31)) a
  obtain ⟨wd, hwd⟩ : ∃ x, x = widthM a := ⟨_, rfl⟩
  obtain ⟨ls, hls⟩ : ∃ x, x = leastM a := ⟨_, rfl⟩
  rw [← hwd] at HSH hw7
  rw [← hls] at HSH hl1
  have HM : Hid (mayB (a, b) said n ↔ (0 ≤ a ∧ a ≤ 18 ∧ 0 ≤ b ∧ b < 2 ^ wd ∧ ¬ (a = 16 ∧ said = 0) ∧ (said + ls : Nat) + b ≤ n)) := hid (by rw [hwd, hls]; exact Iff.rfl)
  clear hwd hls
  have hp7 := pow_le7 wd hw7
  have hp0 : 0 < 2 ^ wd := Nat.two_pow_pos wd
  obtain ⟨pw, hpw⟩ : ∃ x, x = 2 ^ wd := ⟨_, rfl⟩
  obtain ⟨pm, hpm⟩ : ∃ x : Nat, x = pw - 1 := ⟨_, rfl⟩
  rw [← hpw] at hp7 hp0
  have HM2 : Hid (mayB (a, b) said n ↔ (inB a 0 18 = true ∧ inB b 0 (pm : Int) = true ∧ ¬ (a = 16 ∧ said = 0) ∧ (said + ls : Nat) + b ≤ n)) := hid (by
    rw [HM.out]
    have : (2 : Int) ^ wd = (pw : Int) := by rw [hpw]; simp
    rw [this]
    simp only [inB, Bool.and_eq_true, decide_eq_true_eq]
    omega)
  have hshl : wrap64 ((2 : Int) ^ wd) = (pw : Int) := by
    have : (2 : Int) ^ wd = (pw : Int) := by rw [hpw]; simp
    rw [this]; unfold wrap64; omega
  have hsub : (pw : Int) - 1 = (pm : Int) := by omega
  have HW1 := fun q => within_any ((w.alloc (.cells #[.int .i64 a, .int .i64 b] 31)).drewN q) a 0 18
  have HW2 := fun q => within_any ((w.alloc (.cells #[.int .i64 a, .int .i64 b] 31)).drewN q) b 0 (pm : Int)
  clear HM hpw
  have hpm' : pm ≤ 127 := by omega
  clear hpm
  go_enter Tryd.func39, Tryd.ntmps39
  go_wp2_with fail
  refine HSH.mono ?_
  rintro e w1 ⟨rfl, rfl⟩
  clear HSH
  have HK0 : Hid (Same w (w.alloc (.cells #[.int .i64 a, .int .i64 b] 31))) := hid ((Kept.refl _ w).alloc _)
  have cB : (w.alloc (.cells #[.int .i64 a, .int .i64 b] 31)).cell? ⟨w.heap.size, 1, none⟩ = some (.int .i64 b) := by simp
  have cA : (w.alloc (.cells #[.int .i64 a, .int .i64 b] 31)).cell? ⟨w.heap.size, 0, none⟩ = some (.int .i64 a) := by simp
  generalize w.alloc (.cells #[.int .i64 a, .int .i64 b] 31) = W at *
  cases h1 : inB a 0 18 with
  | false =>
    have HE : Hid (¬ mayB (a, b) said n) := hid (fun h => by have := (HM2.out.1 h).1; rw [h1] at this; cases this)
    rw [h1] at HW1
    clear h1
    go_wp2_with fail
    go_quiet ((go_at_call 33; exact Calls.quiet_of_same (HW1 _)))
    go_wp2_with fail
    go_ret
    exact ⟨⟨false, rfl, by simp [HE.out]⟩, HK0.out.drewN _⟩
  | true =>
    rw [h1] at HW1
    cases h2 : inB b 0 (pm : Int) with
    | false =>
      have HE : Hid (¬ mayB (a, b) said n) := hid (fun h => by have := (HM2.out.1 h).2.1; rw [h2] at this; cases this)
      rw [h2] at HW2
      clear h1 h2
      go_wp2_with fail
      go_quiet ((go_at_call 33; first | (with_reducible exact Calls.quiet_of_same (HW1 _)) | (with_reducible exact Calls.quiet_of_same (HW2 _))))
      go_wp2_with fail
      go_ret
      exact ⟨⟨false, rfl, by simp [HE.out]⟩, HK0.out.drewN _⟩
    | true =>
      rw [h2] at HW2
      have hb : 0 ≤ b ∧ b ≤ (pm : Int) := by simpa [inB] using h2
      have HM3 : Hid (mayB (a, b) said n ↔ (¬ (a = 16 ∧ said = 0) ∧ (said + ls : Nat) + b ≤ n)) := hid (by rw [HM2.out, h1, h2]; simp)
      obtain ⟨bn, rfl⟩ : ∃ x : Nat, b = (x : Int) := ⟨b.toNat, by omega⟩
      have hbn : bn ≤ 127 := by omega
      obtain ⟨t, ht⟩ : ∃ t, t = said + ls := ⟨_, rfl⟩
      have htI : (said : Int) + (ls : Int) = (t : Int) := by omega
      have htw : IntKind.i64.wrap (t : Int) = (t : Int) := by rw [IntKind.wrap_i64]; omega
      obtain ⟨u, hu⟩ : ∃ u, u = t + bn := ⟨_, rfl⟩
      have huI : (t : Int) + (bn : Int) = (u : Int) := by omega
      have huw : IntKind.i64.wrap (u : Int) = (u : Int) := by rw [IntKind.wrap_i64]; omega
      have HM4 : Hid (mayB (a, (bn : Int)) said n ↔ (¬ (a = 16 ∧ said = 0) ∧ u ≤ n)) := hid (by
        rw [HM3.out]
        have : ((said + ls : Nat) : Int) + (bn : Int) ≤ (n : Int) ↔ u ≤ n := by omega
        rw [this])
      clear h1 h2 hb HM3 HM2 ht hu
      go_wp2_with fail
      go_quiet ((go_at_call 33; first | (with_reducible exact Calls.quiet_of_same (HW1 _)) | (with_reducible exact Calls.quiet_of_same (HW2 _))))
      by_cases h16 : a = 16
      · subst h16
        by_cases h0 : said = 0
        · have HE : Hid (¬ mayB (16, (bn : Int)) 0 n) := hid (fun h => (HM4.out.1 (by rw [h0]; exact h)).1 ⟨rfl, h0⟩)
          have hsd : ((said : Int) == 0) = true := by simp [h0]
          go_wp2_with fail
          go_ret
          exact ⟨⟨false, rfl, by simp [HE.out]⟩, HK0.out.drewN _⟩
        · have hsd : ((said : Int) == 0) = false := by simp [h0]
          have HE : Hid (mayB (16, (bn : Int)) said n ↔ u ≤ n) := hid (by rw [HM4.out]; simp [h0])
          clear h0
          go_wp2_with fail
          go_ret
          exact ⟨⟨_, rfl, by rw [HE.out]; simp⟩, HK0.out.drewN _⟩
      · have h16' : (a == 16) = false := by simp [h16]
        have HE : Hid (mayB (a, (bn : Int)) said n ↔ u ≤ n) := hid (by rw [HM4.out]; simp [h16])
        clear h16
        go_wp2_with fail
        go_ret
        exact ⟨⟨_, rfl, by rw [HE.out]; simp⟩, HK0.out.drewN _⟩


set_option maxRecDepth 100000 in
set_option maxHeartbeats 2000000 in
/-- say, behind a row of one's own. -/
theorem say_any (w : World) (B : Nat) (v : Value) (l : List Nat) (a b : Int) (n : Nat) (hr : NRow B w v l) (hB : B ≤ w.heap.size) (hl : l.length ≤ 1000000) (hm : mayB (a, b) l.length n) :
    Calls Tryd.prog 40 #[v, .agg #[.int .i64 a, .int .i64 b]] w fun e w' => ∃ v', e = .returned v' ∧ NRow B w' v' (l ++ List.replicate (leastM a + b.toNat) (sayV a l)) ∧ Kept (Over B) w w' := by
  obtain ⟨ao, cap, rfl, hao, _⟩ := hr.shape
  obtain ⟨h1, h2, h3, h4, h5, h6⟩ := hm
  simp only at h1 h2 h3 h4 h5 h6
  have hw7 := widthM_le a
  have hl1 := leastM_le a
  have hp7 := pow_le7 _ hw7
  have hb7 : b < 128 := by
    have : ((2 ^ widthM a : Nat) : Int) = 2 ^ widthM a := by simp
    omega
  obtain ⟨bn, rfl⟩ : ∃ x : Nat, b = (x : Int) := ⟨b.toNat, by omega⟩
  obtain ⟨an, rfl⟩ : ∃ x : Nat, a = (x : Int) := ⟨a.toNat, by omega⟩
  obtain ⟨ls, hls⟩ : ∃ x, x = leastM (an : Int) := ⟨_, rfl⟩
  have HSH := shape_any (w.alloc (.cells #[.int .i64 (an : Int), .int .i64 (bn : Int)] 31)) (an : Int)
  rw [← hls] at HSH hl1 ⊢
  rw [Int.toNat_natCast]
  obtain ⟨k, hk⟩ : ∃ k, k = ls + bn := ⟨_, rfl⟩
  have hkI : (ls : Int) + (bn : Int) = (k : Int) := by omega
  have hkw : IntKind.i64.wrap (k : Int) = (k : Int) := by rw [IntKind.wrap_i64]; omega
  rw [← hk]
  have hk138 : k ≤ 138 := by omega
  obtain ⟨x, hx⟩ : ∃ x, x = sayV (an : Int) l := ⟨_, rfl⟩
  rw [← hx]
  have HR : Hid (NRow B (w.alloc (.cells #[.int .i64 (an : Int), .int .i64 (bn : Int)] 31)) (.slice ao l.length cap) l) := hid (World.ownsRow.alloc hr _)
  have HK0 : Hid (Kept (Over B) w (w.alloc (.cells #[.int .i64 (an : Int), .int .i64 (bn : Int)] 31))) := hid ((Kept.refl _ w).alloc _)
  have cB : (w.alloc (.cells #[.int .i64 (an : Int), .int .i64 (bn : Int)] 31)).cell? ⟨w.heap.size, 1, none⟩ = some (.int .i64 (bn : Int)) := by simp
  have cA : (w.alloc (.cells #[.int .i64 (an : Int), .int .i64 (bn : Int)] 31)).cell? ⟨w.heap.size, 0, none⟩ = some (.int .i64 (an : Int)) := by simp
  have hsz : B ≤ (w.alloc (.cells #[.int .i64 (an : Int), .int .i64 (bn : Int)] 31)).heap.size := by simp; omega
  have HLOOP : ∀ W : World, W = w.alloc (.cells #[.int .i64 (an : Int), .int .i64 (bn : Int)] 31) → True := fun _ _ => trivial
  clear HLOOP
  obtain ⟨L, hL⟩ : ∃ L, L = l.length := ⟨_, rfl⟩
  have HL : Hid (L = l.length) := hL
  have HAO : Hid (l ≠ [] → ∃ g, ao = some ⟨g, 0, none⟩) := hao
  have H5 : Hid (¬ ((an : Int) = 16 ∧ l.length = 0)) := h5
  have HX : Hid (x = sayV (an : Int) l) := hx
  rw [← hL] at HR hl ⊢
  clear hr hls hk hx hL h3 h4 h5 h6 hw7 hp7 hb7 hao h1
  go_enter Tryd.func40, Tryd.ntmps40
  go_wp2_with fail
  refine HSH.mono ?_
  rintro e w1 ⟨rfl, hw1⟩
  subst hw1
  clear HSH
  generalize w.alloc (.cells #[.int .i64 (an : Int), .int .i64 (bn : Int)] 31) = W at *
  by_cases h16 : an = 16
  · subst h16
    have hL0 : 0 < L := by have := HL.out; have := H5.out; omega
    have hl0 : 0 < l.length := by have := HL.out; omega
    obtain ⟨b2, o2, cap2, e2, _, _, c2⟩ := (SrcE.ofRow HR.out).get (l.length - 1) (by omega)
    simp only [Value.slice.injEq] at e2
    obtain ⟨rfl, hxe, rfl⟩ := e2
    clear hxe
    have hle : l[l.length - 1] = x := by rw [HX.out]; simp [sayV, lastN, List.getD, show l.length - 1 < l.length by omega]
    rw [hle, ← HL.out] at c2
    unfold natV at c2
    obtain ⟨m, hm⟩ : ∃ m, m = L - 1 := ⟨_, rfl⟩
    rw [← hm] at c2
    have hmI : (L : Int) - 1 = (m : Int) := by omega
    have hmL : m < L := by omega
    have hwm : IntKind.i64.wrap (m : Int) = (m : Int) := by rw [IntKind.wrap_i64]; omega
    clear hm hle hl0 hL0
    go_wp2_with fail
    go_loopg [0, 32] k (fun q zv zi wr => ∃ (i : Nat), k - i ≤ q ∧ i ≤ k ∧ zi = .int .i64 (i : Nat) ∧ Hid (NRow B wr zv (l ++ List.replicate i x)) ∧ Hid (Kept (Over B) w wr))
    case atStart => exact ⟨0, by omega, by omega, rfl, hid (by simpa using HR.out), HK0⟩
    case round =>
      clear HR HK0 cA cB
      obtain ⟨i, hq, hi, rfl, HV, HK⟩ := hrel
      by_cases hlt : i < k
      · have hsz2 := HK.out.size
        have HLN : Hid ((l ++ List.replicate i x).length + [x].length ≤ 1000000000) := hid (by have := HL.out; simp; omega)
        go_wp2_with (at_builtin; refine wpList_append_e _ natV natV_one B 22 3 (natV 0) 8 Tryd.underlying22 Tryd.infoN rfl (by decide) rfl (.tmp 34) (.tmp 36) rfl u0 (l ++ List.replicate i x) rfl (World.ownsRow.alloc HV.out _) ⟨wr.heap.size, 0, none⟩ 1 1 [x] rfl rfl (cellsAt_new _ _ _) HLN.out (by simp; omega) ?_; intro v5 w5 hr5 hg5)
        have HV5 : Hid (NRow B w5 v5 (l ++ List.replicate (i + 1) x)) := hid (by rw [List.replicate_succ', ← List.append_assoc]; exact hr5)
        have HK5 : Hid (Kept (Over B) w w5) := hid ((HK.out.alloc _).grown hg5 (fun j e => .inl (HV.out.ge e)))
        clear hr5 hg5
        go_wp2_with fail
        go_roundg (gk - 1)
        case measure => omega
        case rel => exact ⟨i + 1, by omega, by omega, by go_num, HV5, HK5⟩
      · have hik : i = k := by omega
        subst hik
        go_wp2_with fail
        go_ret
        exact ⟨_, rfl, HV.out, HK.out⟩
  · have e16 : ((an : Int) == 16) = false := by simp; omega
    by_cases h17 : an = 17
    · subst h17
      have hx0 : x = 0 := by rw [HX.out]; simp [sayV]
      subst hx0
      go_wp2_with fail
      go_loopg [0, 32] k (fun q zv zi wr => ∃ (i : Nat), k - i ≤ q ∧ i ≤ k ∧ zi = .int .i64 (i : Nat) ∧ Hid (NRow B wr zv (l ++ List.replicate i 0)) ∧ Hid (Kept (Over B) w wr))
      case atStart => exact ⟨0, by omega, by omega, rfl, hid (by simpa using HR.out), HK0⟩
      case round =>
        clear HR HK0 cA cB
        obtain ⟨i, hq, hi, rfl, HV, HK⟩ := hrel
        by_cases hlt : i < k
        · have hsz2 := HK.out.size
          have HLN : Hid ((l ++ List.replicate i 0).length + [0].length ≤ 1000000000) := hid (by have := HL.out; simp; omega)
          go_wp2_with (at_builtin; refine wpList_append_e _ natV natV_one B 22 3 (natV 0) 8 Tryd.underlying22 Tryd.infoN rfl (by decide) rfl (.tmp 34) (.tmp 36) rfl u0 (l ++ List.replicate i 0) rfl (World.ownsRow.alloc HV.out _) ⟨wr.heap.size, 0, none⟩ 1 1 [0] rfl rfl (cellsAt_new _ _ _) HLN.out (by simp; omega) ?_; intro v5 w5 hr5 hg5)
          have HV5 : Hid (NRow B w5 v5 (l ++ List.replicate (i + 1) 0)) := hid (by rw [List.replicate_succ', ← List.append_assoc]; exact hr5)
          have HK5 : Hid (Kept (Over B) w w5) := hid ((HK.out.alloc _).grown hg5 (fun j e => .inl (HV.out.ge e)))
          clear hr5 hg5
          go_wp2_with fail
          go_roundg (gk - 1)
          case measure => omega
          case rel => exact ⟨i + 1, by omega, by omega, by go_num, HV5, HK5⟩
        · have hik : i = k := by omega
          subst hik
          go_wp2_with fail
          go_ret
          exact ⟨_, rfl, HV.out, HK.out⟩
    · have e17 : ((an : Int) == 17) = false := by simp; omega
      by_cases h18 : an = 18
      · subst h18
        have hx0 : x = 0 := by rw [HX.out]; simp [sayV]
        subst hx0
        go_wp2_with fail
        go_loopg [0, 32] k (fun q zv zi wr => ∃ (i : Nat), k - i ≤ q ∧ i ≤ k ∧ zi = .int .i64 (i : Nat) ∧ Hid (NRow B wr zv (l ++ List.replicate i 0)) ∧ Hid (Kept (Over B) w wr))
        case atStart => exact ⟨0, by omega, by omega, rfl, hid (by simpa using HR.out), HK0⟩
        case round =>
          clear HR HK0 cA cB
          obtain ⟨i, hq, hi, rfl, HV, HK⟩ := hrel
          by_cases hlt : i < k
          · have hsz2 := HK.out.size
            have HLN : Hid ((l ++ List.replicate i 0).length + [0].length ≤ 1000000000) := hid (by have := HL.out; simp; omega)
            go_wp2_with (at_builtin; refine wpList_append_e _ natV natV_one B 22 3 (natV 0) 8 Tryd.underlying22 Tryd.infoN rfl (by decide) rfl (.tmp 34) (.tmp 36) rfl u0 (l ++ List.replicate i 0) rfl (World.ownsRow.alloc HV.out _) ⟨wr.heap.size, 0, none⟩ 1 1 [0] rfl rfl (cellsAt_new _ _ _) HLN.out (by simp; omega) ?_; intro v5 w5 hr5 hg5)
            have HV5 : Hid (NRow B w5 v5 (l ++ List.replicate (i + 1) 0)) := hid (by rw [List.replicate_succ', ← List.append_assoc]; exact hr5)
            have HK5 : Hid (Kept (Over B) w w5) := hid ((HK.out.alloc _).grown hg5 (fun j e => .inl (HV.out.ge e)))
            clear hr5 hg5
            go_wp2_with fail
            go_roundg (gk - 1)
            case measure => omega
            case rel => exact ⟨i + 1, by omega, by omega, by go_num, HV5, HK5⟩
          · have hik : i = k := by omega
            subst hik
            go_wp2_with fail
            go_ret
            exact ⟨_, rfl, HV.out, HK.out⟩
      · have e18 : ((an : Int) == 18) = false := by simp; omega
        have hx0 : x = an := by rw [HX.out]; unfold sayV; rw [if_neg (by omega), if_neg (by omega)]; simp
        clear h16 h17 h18
        subst hx0
        go_wp2_with fail
        go_loopg [0, 32] k (fun q zv zi wr => ∃ (i : Nat), k - i ≤ q ∧ i ≤ k ∧ zi = .int .i64 (i : Nat) ∧ Hid (NRow B wr zv (l ++ List.replicate i x)) ∧ Hid (Kept (Over B) w wr))
        case atStart => exact ⟨0, by omega, by omega, rfl, hid (by simpa using HR.out), HK0⟩
        case round =>
          clear HR HK0 cA cB
          obtain ⟨i, hq, hi, rfl, HV, HK⟩ := hrel
          by_cases hlt : i < k
          · have hsz2 := HK.out.size
            have HLN : Hid ((l ++ List.replicate i x).length + [x].length ≤ 1000000000) := hid (by have := HL.out; simp; omega)
            go_wp2_with (at_builtin; refine wpList_append_e _ natV natV_one B 22 3 (natV 0) 8 Tryd.underlying22 Tryd.infoN rfl (by decide) rfl (.tmp 34) (.tmp 36) rfl u0 (l ++ List.replicate i x) rfl (World.ownsRow.alloc HV.out _) ⟨wr.heap.size, 0, none⟩ 1 1 [x] rfl rfl (cellsAt_new _ _ _) HLN.out (by simp; omega) ?_; intro v5 w5 hr5 hg5)
            have HV5 : Hid (NRow B w5 v5 (l ++ List.replicate (i + 1) x)) := hid (by rw [List.replicate_succ', ← List.append_assoc]; exact hr5)
            have HK5 : Hid (Kept (Over B) w w5) := hid ((HK.out.alloc _).grown hg5 (fun j e => .inl (HV.out.ge e)))
            clear hr5 hg5
            go_wp2_with fail
            go_roundg (gk - 1)
            case measure => omega
            case rel => exact ⟨i + 1, by omega, by omega, by go_num, HV5, HK5⟩
          · have hik : i = k := by omega
            subst hik
            go_wp2_with fail
            go_ret
            exact ⟨_, rfl, HV.out, HK.out⟩

end Go.Proofs.YtofhlnpbflkdlaaDoor

/-
  The program's alike, and whether lengths may be.
-/
namespace Go.Proofs.YtofhlnpbflkdlaaDoor
open Go.RowKit

theorem inB_bad (z : Int) : (!inB z 0 15) = badI 0 15 z := by
  unfold inB badI
  by_cases h1 : 0 ≤ z
  · by_cases h2 : z ≤ 15
    · have h3 : ¬ z < 0 := by omega
      have h4 : ¬ 15 < z := by omega
      simp [h1, h2, h3, h4]
    · have h3 : ¬ z < 0 := by omega
      have h4 : 15 < z := by omega
      simp [h1, h2, h3, h4]
  · have h3 : z < 0 := by omega
    simp [h1, h3]

set_option maxHeartbeats 1000000 in
theorem lwrong_any (w : World) (z : Int) :
    Calls Tryd.prog 32 #[.int .i64 z] w fun e w' => e = .returned (.bool (badI 0 15 z)) ∧ w' = w := by
  have HW := within_any w z 0 15
  go_enter Tryd.func32, Tryd.ntmps32
  go_wp2_with fail
  refine HW.mono ?_
  rintro e w1 ⟨rfl, hw1⟩
  subst hw1
  clear HW
  go_wp2_with fail
  go_ret
  exact ⟨by rw [← inB_bad]; rfl, rfl⟩

abbrev lwrongV : Value := .func (.func 32) #[] #[]

set_option maxHeartbeats 1000000 in
theorem lindex_any (w : World) (v : Value) (I : Nat → Prop) (zs : List Int) (hs : SrcE intV w I v zs) (hn : zs.length ≤ 10000000) :
    Calls Tryd.prog 55 #[v, lwrongV] w fun e w' => (∃ z : Int, e = .returned (.int .i64 z) ∧ decide (0 ≤ z) = zs.any (badI 0 15)) ∧ w' = w := by
  obtain ⟨ao, cap, rfl, hx1, hx2⟩ := id hs
  clear hx1 hx2
  have HS : Hid (SrcE intV w I (.slice ao zs.length cap) zs) := hs
  clear hs
  go_enter Tryd.func55, Tryd.ntmps55
  go_wp2_with fail
  go_loopg [8] zs.length (fun k z wr => ∃ i : Nat, zs.length - i ≤ k ∧ i ≤ zs.length ∧ z = .int .i64 (i : Nat) ∧ Hid ((zs.take i).any (badI 0 15) = false) ∧ wr = w)
  case atStart => exact ⟨0, by omega, by omega, rfl, hid (by simp), rfl⟩
  case round =>
    obtain ⟨i, hk, hil, rfl, HF, hw⟩ := hrel
    subst hw
    by_cases hlt : i < zs.length
    · obtain ⟨b, o, cap2, e, _, _, hc⟩ := HS.out.get i hlt
      simp only [Value.slice.injEq] at e
      obtain ⟨rfl, hxe, rfl⟩ := e
      clear hxe
      obtain ⟨x, hx⟩ : ∃ x, x = zs[i] := ⟨_, rfl⟩
      rw [← hx] at hc
      unfold intV at hc
      have HX : Hid (x = zs[i]) := hx
      have HC := lwrong_any wr x
      clear hx
      cases hb : badI 0 15 x with
      | true =>
        rw [hb] at HC
        have HB : Hid (badI 0 15 x = true) := hb
        clear hb
        go_wp2_with fail
        refine HC.mono ?_
        rintro e w2 ⟨rfl, hw2⟩
        subst hw2
        clear HC
        go_wp2_with fail
        go_ret
        refine ⟨⟨_, rfl, ?_⟩, rfl⟩
        have h1 : zs.any (badI 0 15) = true := List.any_eq_true.2 ⟨x, by rw [HX.out]; exact List.getElem_mem _, HB.out⟩
        rw [h1]; simp
      | false =>
        rw [hb] at HC
        have HB : Hid (badI 0 15 x = false) := hb
        clear hb
        go_wp2_with fail
        refine HC.mono ?_
        rintro e w2 ⟨rfl, hw2⟩
        subst hw2
        clear HC
        go_wp2_with fail
        go_roundg (gk - 1)
        case measure => omega
        case rel =>
          refine ⟨i + 1, by omega, by omega, by go_num, hid ?_, rfl⟩
          rw [List.take_succ_eq_append_getElem hlt, List.any_append, HF.out, ← HX.out]
          simp [HB.out]
    · have : i = zs.length := by omega
      subst this
      go_wp2_with fail
      go_ret
      refine ⟨⟨_, rfl, ?_⟩, rfl⟩
      have h := HF.out
      rw [List.take_of_length_le (Nat.le_refl _)] at h
      rw [h]; simp

set_option maxHeartbeats 1000000 in
theorem lcontains_any (w : World) (v : Value) (I : Nat → Prop) (zs : List Int) (hs : SrcE intV w I v zs) (hn : zs.length ≤ 10000000) :
    Calls Tryd.prog 34 #[v, lwrongV] w fun e w' => e = .returned (.bool (!lensOk zs)) ∧ w' = w := by
  have H := lindex_any w v I zs hs hn
  clear hs
  go_enter Tryd.func34, Tryd.ntmps34
  go_wp2_with fail
  refine H.mono ?_
  rintro e w2 ⟨⟨z, rfl, hz⟩, hw⟩
  subst hw
  have HZ : Hid (decide (0 ≤ z) = zs.any (badI 0 15)) := hz
  clear hz H
  go_wp2_with fail
  go_ret
  refine ⟨?_, rfl⟩
  unfold lensOk
  rw [Bool.not_not, ← HZ.out]; rfl

set_option maxHeartbeats 1000000 in
theorem lother_any (w : World) (q b o n cap x y : Nat) (hq : w.cell? ⟨q, 0, none⟩ = some (.slice (some ⟨b, o, none⟩) n cap)) (hn : 0 < n) (hb : w.cell? ⟨b, o, none⟩ = some (.int .i64 (y : Nat))) :
    Calls Tryd.prog 56 #[.int .i64 (x : Nat), .pointer (some ⟨q, 0, none⟩)] w fun e w' => e = .returned (.bool (!decide (x = y))) ∧ w' = w := by
  go_enter Tryd.func56, Tryd.ntmps56
  by_cases h : x = y
  · subst h
    go_wp2_with fail
    go_ret
    exact ⟨by simp, rfl⟩
  · have hne : ((x : Int) == (y : Int)) = false := by simp; omega
    have HH : Hid ((!decide (x = y)) = true ∧ ¬ (x : Int) = (y : Int)) := hid ⟨by simp [h], by omega⟩
    clear h
    go_wp2_with fail
    go_ret
    exact ⟨by rw [HH.out.1]; simp [HH.out.2], rfl⟩

abbrev lotherV (q : Nat) : Value := .func (.func 56) #[] #[.pointer (some ⟨q, 0, none⟩)]

set_option maxHeartbeats 1000000 in
theorem lfirst_any (w : World) (b o cap q y : Nat) (I : Nat → Prop) (ns : List Nat) (hs : SrcE natV w I (.slice (some ⟨b, o, none⟩) ns.length cap) ns) (hn : ns.length ≤ 1000000) (h0 : 0 < ns.length) (hy : ns[0] = y)
    (hq : w.cell? ⟨q, 0, none⟩ = some (.slice (some ⟨b, o, none⟩) ns.length cap)) :
    Calls Tryd.prog 55 #[.slice (some ⟨b, o, none⟩) ns.length cap, lotherV q] w fun e w' => ((e = .returned (.int .i64 (-1)) ∧ ∀ j (_ : j < ns.length), ns[j] = y) ∨ ∃ i, e = .returned (.int .i64 (i : Nat)) ∧ ∃ h : i < ns.length, ns[i] ≠ y ∧ ∀ j (_ : j < ns.length), j < i → ns[j] = y) ∧ w' = w := by
  have c0 : w.cell? ⟨b, o, none⟩ = some (.int .i64 (y : Nat)) := by
    obtain ⟨b', o', cap', e, _, _, c⟩ := hs.get 0 h0
    simp only [Value.slice.injEq, Option.some.injEq, Addr.mk.injEq, and_true] at e
    obtain ⟨⟨rfl, rfl⟩, _, _⟩ := e
    rw [hy] at c
    exact c
  have HS : Hid (SrcE natV w I (.slice (some ⟨b, o, none⟩) ns.length cap) ns) := hs
  clear hs hy
  go_enter Tryd.func55, Tryd.ntmps55
  go_wp2_with fail
  go_loopg [8] ns.length (fun k z wr => ∃ i : Nat, ns.length - i ≤ k ∧ i ≤ ns.length ∧ z = .int .i64 (i : Nat) ∧ Hid (∀ j (_ : j < ns.length), j < i → ns[j] = y) ∧ wr = w)
  case atStart => exact ⟨0, by omega, by omega, rfl, hid (fun j _ h => by omega), rfl⟩
  case round =>
    obtain ⟨i, hk, hil, rfl, HF, hw⟩ := hrel
    subst hw
    by_cases hlt : i < ns.length
    · obtain ⟨b', o', cap2, e, _, _, hc⟩ := HS.out.get i hlt
      simp only [Value.slice.injEq, Option.some.injEq, Addr.mk.injEq, and_true] at e
      obtain ⟨⟨rfl, rfl⟩, hxe, rfl⟩ := e
      clear hxe
      obtain ⟨x, hx⟩ : ∃ x, x = ns[i] := ⟨_, rfl⟩
      rw [← hx] at hc
      unfold natV at hc
      have HX : Hid (x = ns[i]) := hx
      have HC := lother_any wr q b o ns.length cap x y hq h0 c0
      clear hx
      by_cases hb : x = y
      · have HB : Hid (x = y) := hb
        have hd : (!decide (x = y)) = false := by simp [hb]
        rw [hd] at HC
        clear hb hd
        go_wp2_with fail
        refine HC.mono ?_
        rintro e w2 ⟨rfl, hw2⟩
        subst hw2
        clear HC
        go_wp2_with fail
        go_roundg (gk - 1)
        case measure => omega
        case rel =>
          refine ⟨i + 1, by omega, by omega, by go_num, hid (fun j hj hji => ?_), rfl⟩
          by_cases e : j = i
          · subst e; rw [← HX.out, HB.out]
          · exact HF.out j hj (by omega)
      · have HB : Hid (x ≠ y) := hb
        have hd : (!decide (x = y)) = true := by simp [hb]
        rw [hd] at HC
        clear hb hd
        go_wp2_with fail
        refine HC.mono ?_
        rintro e w2 ⟨rfl, hw2⟩
        subst hw2
        clear HC
        go_wp2_with fail
        go_ret
        exact ⟨.inr ⟨i, rfl, hlt, by rw [← HX.out]; exact HB.out, HF.out⟩, rfl⟩
    · have : i = ns.length := by omega
      subst this
      go_wp2_with fail
      go_ret
      exact ⟨.inl ⟨rfl, fun j hj => HF.out j hj hj⟩, rfl⟩

theorem front_of {y : Nat} {r : List Nat} {n : Nat} (h : (n = (y :: r).length ∧ ∀ j (_ : j < (y :: r).length), (y :: r)[j] = y) ∨ ∃ h : n < (y :: r).length, (y :: r)[n] ≠ y ∧ ∀ j (_ : j < (y :: r).length), j < n → (y :: r)[j] = y) : n = 1 + frontN y r := by
  rcases h with ⟨h1, h2⟩ | ⟨h1, h2, h3⟩
  · have := frontN_is y r r.length (fun j hj _ => by have := h2 (j + 1) (by simpa using hj); rw [List.getElem_cons_succ] at this; exact this) (Nat.le_refl _) (fun h => by omega)
    rw [this, h1]
    simp; omega
  · cases n with
    | zero => simp at h2
    | succ n =>
      have := frontN_is y r n (fun j hj hjn => by have := h3 (j + 1) (by simpa using hj) (by omega); rw [List.getElem_cons_succ] at this; exact this) (by simp at h1; omega) (fun _ => by simpa using h2)
      rw [this]
      omega

set_option maxHeartbeats 1000000 in
theorem alike_any (w : World) (b o cap : Nat) (I : Nat → Prop) (y : Nat) (r : List Nat) (hs : SrcE natV w I (.slice (some ⟨b, o, none⟩) (y :: r).length cap) (y :: r)) (hn : (y :: r).length ≤ 1000000) :
    Calls Tryd.prog 35 #[.slice (some ⟨b, o, none⟩) (y :: r).length cap] w fun e w' => e = .returned (.int .i64 ((1 + frontN y r : Nat) : Int)) ∧ Same w w' := by
  obtain ⟨W, hW⟩ : ∃ W, W = w.alloc (.cells #[.slice (some ⟨b, o, none⟩) (y :: r).length cap] 22) := ⟨_, rfl⟩
  have HK : Hid (Same w W) := hid (by rw [hW]; exact (Kept.refl _ w).alloc _)
  have hq : W.cell? ⟨w.heap.size, 0, none⟩ = some (.slice (some ⟨b, o, none⟩) (y :: r).length cap) := by rw [hW]; simp
  have HC := lfirst_any W b o cap w.heap.size y I (y :: r) (hs.same HK.out) hn (by simp) rfl hq
  have HC2 : Calls Tryd.prog 55 #[.slice (some ⟨b, o, none⟩) (y :: r).length cap, lotherV w.heap.size] W fun e w' => ((e = .returned (.int .i64 (-1)) ∧ (y :: r).length = 1 + frontN y r) ∨ ∃ i : Nat, e = .returned (.int .i64 (i : Nat)) ∧ i = 1 + frontN y r) ∧ w' = W := HC.mono (by
    rintro e w' ⟨h, hw⟩
    refine ⟨?_, hw⟩
    rcases h with ⟨h1, h2⟩ | ⟨i, h1, h2, h3, h4⟩
    · exact .inl ⟨h1, front_of (.inl ⟨rfl, h2⟩)⟩
    · exact .inr ⟨i, h1, front_of (.inr ⟨h2, h3, h4⟩)⟩)
  clear HC
  obtain ⟨L, hL⟩ : ∃ L, L = (y :: r).length := ⟨_, rfl⟩
  rw [← hL] at HC2 hq hW ⊢
  obtain ⟨f, hf⟩ : ∃ f, f = 1 + frontN y r := ⟨_, rfl⟩
  rw [← hf] at HC2 ⊢
  clear hs hL hn hf
  go_enter Tryd.func35, Tryd.ntmps35
  go_wp2_with fail
  rw [← hW]
  clear hW
  go_wp2_with fail
  refine HC2.mono ?_
  rintro e w2 ⟨h, hw2⟩
  subst hw2
  clear HC2
  rcases h with ⟨rfl, hLf⟩ | ⟨i, rfl, hif⟩
  · subst hLf
    go_wp2_with fail
    go_ret
    exact ⟨rfl, HK.out⟩
  · subst hif
    go_wp2_with fail
    go_ret
    exact ⟨rfl, HK.out⟩

end Go.Proofs.YtofhlnpbflkdlaaDoor

/-
  Rows of some cells an element: made, copied into.
-/
namespace Go.Proofs.YtofhlnpbflkdlaaDoor
open Go.RowKit

theorem flat_made {α : Type} {enc : α → List Value} {k : Nat} (ok : EncOk enc k) (x0 : α) (n : Nat) : (madeCells (enc x0).toArray (n * k)).toList = (List.replicate n x0).flatMap enc := by
  have hk := ok.pos
  have hl := ok.len x0
  refine List.ext_getElem? (fun i => ?_)
  by_cases hi : i < n * k
  · have h1 : i / k < n := (Nat.div_lt_iff_lt_mul hk).2 hi
    have h2 : i % k < k := Nat.mod_lt _ hk
    have h3 := flat_get ok (List.replicate n x0) (i / k) (i % k) (by simpa using h1) h2
    rw [List.getElem_replicate, Nat.div_add_mod' i k] at h3
    rw [h3]
    simp [madeCells, hi, hl, h2]
  · rw [List.getElem?_eq_none (by simp [madeCells]; omega), List.getElem?_eq_none (by rw [flat_length ok]; simp; omega)]

/-- A whole block. -/
def Raw (w : World) (g : Nat) (t : TypeId) (L : List Value) : Prop := w.heap[g]? = some (.cells L.toArray t (0, 0))

theorem RowC.raw {α : Type} {B t k : Nat} {enc : α → List Value} {w : World} {g n : Nat} {xs : List α} (h : RowC B t k enc w (.slice (some ⟨g, 0, none⟩) n n) xs) : Raw w g t (xs.flatMap enc) := by
  have hl := h.len
  rcases h.2 with ⟨e, _⟩ | ⟨g', cap, cur, e, _, hg, _, _, hcs, htake⟩
  · simp at e
  · simp only [Value.slice.injEq, Option.some.injEq, Addr.mk.injEq, and_true] at e
    obtain ⟨rfl, rfl, rfl⟩ := e
    have : cur.toList = xs.flatMap enc := by
      rw [← htake, List.take_of_length_le]
      have h2 : cur.toList.length = cur.size := by simp
      rw [h2, hcs, hl]
      exact Nat.le_refl _
    unfold Raw
    rw [hg, ← this]

theorem Raw.row {α : Type} {B t k : Nat} {enc : α → List Value} (ok : EncOk enc k) {w : World} {g : Nat} {xs : List α} (h : Raw w g t (xs.flatMap enc)) (hB : B ≤ g) (hm : xs.length ≤ maxLen) : RowC B t k enc w (.slice (some ⟨g, 0, none⟩) xs.length xs.length) xs := by
  have hl := flat_length ok xs
  refine ⟨hl, .inr ⟨g, xs.length, _, rfl, hB, h, Nat.le_refl _, hm, ?_, ?_⟩⟩
  · simp [hl]
  · rw [List.take_of_length_le (by simp [hl])]

theorem Raw.kept {F : Nat → Prop} {w w' : World} {g : Nat} {t : TypeId} {L : List Value} (h : Raw w g t L) (hk : Kept F w w') (hF : ¬ F g) : Raw w' g t L := by
  unfold Raw
  rw [hk.block g (Array.getElem?_eq_some_iff.1 h).1 hF]
  exact h

/-- make(S, n). -/
theorem wpList_make_c {α : Type} {ops : Array Oper} {rest : List Oper} {o : Oper} {a : Act} {Q : Exit → Act → World → Prop} (w : World) (enc : α → List Value) (k : Nat) (ok : EncOk enc k) (x0 : α) (B sT eT : Nat) (z : Value) (bytes : Nat)
    (hU : Tryd.prog.underlying sT = some (.slice eT)) (hI : (Tryd.prog.info? eT).map (fun i => (i.zero, i.size, i.bytes)) = some (some z, k, bytes)) (hz : z.cells = (enc x0).toArray) (hby : bytes ≤ 1000)
    (hg : o.guard = none) (l c : Operand) (hop : o.op = Op.makeSlice sT l c) (kl kc : IntKind) (L C : Int) (n : Nat)
    (hl : a.eval l = .int kl L) (hc : a.eval c = .int kc C) (hL : L = (n : Int)) (hC : C = (n : Int)) (hn : n ≤ 1000000000) (hB : B ≤ w.heap.size)
    (hK : ∀ w', RowC B eT k enc w' (.slice (some ⟨w.heap.size, 0, none⟩) n n) (List.replicate n x0) → w.grownBy w' none → w.heap.size < w'.heap.size → wpList Tryd.prog ops Q rest (a.put o.dst (.slice (some ⟨w.heap.size, 0, none⟩) n n)) w') : wpList Tryd.prog ops Q (o :: rest) a w := by
  obtain ⟨i0, hi, hz0, hz1, hz2⟩ := info_parts hI
  have hmul : n * bytes ≤ 1000000000 * 1000 := Nat.mul_le_mul hn hby
  refine wpList_make_full w hg l c sT hop B eT i0 z k hU hi hz0 hz1 kl kc L C n hl hc hL hC (by rw [hz2]; have := Nat.mul_comm n bytes; omega) (by simp only [maxLen]; omega) hB ?_
  intro w' h1 h2
  refine hK w' ?_ h2 (World.ownsRow.lt h1 w.heap.size rfl).2
  rw [hz, flat_made ok] at h1
  unfold RowC
  rw [List.length_replicate]
  exact h1

theorem run_copy_k {P : Program} (w : World) (dT sT ty elem : TypeId) (k g off dLen dCap : Nat) (ad : Addr) (sLen sCap : Nat) (cur : List Value) (t : TypeId) (cs : List Value)
    (hu : P.underlying dT = some (.slice elem)) (hs : (P.info? elem).map (·.size) = some k) (hg : Raw w g t cur) (hn : cs.length = Nat.min sLen dLen * k)
    (hsrc : CellsAt w ad cs) (hfit : off + cs.length ≤ cur.length) (h1 : ∀ v ∈ cs, v.oneCell' = true) :
    (Builtin.copy_ #[dT, sT] ty #[.slice (some ⟨g, off, none⟩) dLen dCap, .slice (some ad) sLen sCap]).run P w =
      .ok (goInt (Nat.min sLen dLen)) (w.setRow g (splice cur off cs).toArray) := by
  have hl := run_loadCells_list (P := P) w ad cs hsrc
  have hst := run_storeCells_at P g off t cs 0 cur.toArray w hg (by simpa using hfit) h1
  rw [hn] at hl
  cases hq : P.info? elem with
  | none => simp [hq] at hs
  | some i =>
    have hi : i.size = k := by simpa [hq] using hs
    simp [Builtin.copy_, run_underlying hu, Builtin.lenOf, Builtin.firstCells, sizeOf, typeInfo, hq, hi, hl, hst, splice]

theorem run_copy_none_k {P : Program} (w : World) (dT sT ty elem : TypeId) (k : Nat) (d s : Option Addr) (dLen dCap sLen sCap : Nat)
    (hu : P.underlying dT = some (.slice elem)) (hs : (P.info? elem).map (·.size) = some k) (hn : Nat.min sLen dLen = 0) :
    (Builtin.copy_ #[dT, sT] ty #[.slice d dLen dCap, .slice s sLen sCap]).run P w = .ok (goInt 0) w := by
  cases hq : P.info? elem with
  | none => simp [hq] at hs
  | some i =>
    have hl : ∀ (x : Addr), (loadCells x 0).run P w = .ok #[] w := fun x => by simpa using run_loadCells_list (P := P) w x [] (by simp)
    cases d <;> cases s <;> simp [Builtin.copy_, run_underlying hu, Builtin.lenOf, Builtin.firstCells, sizeOf, typeInfo, hq, hn, storeCells, hl]

theorem splice_nil {α : Type} (L : List α) (off : Nat) : splice L off [] = L := by simp [splice]

theorem grown_setRow (w : World) (g : Nat) (cs : Array Value) : w.grownBy (w.setRow g cs) (some g) :=
  ⟨rfl, rfl, rfl, by simp, fun k _ hk => setRow_other w g k _ (fun e => hk (by simp [e]))⟩

/-- copy as a step of a walk. -/
theorem wpList_copy_k {ops : Array Oper} {rest : List Oper} {o : Oper} {a : Act} {Q : Exit → Act → World → Prop} (w : World) (hgd : o.guard = none) (d s : Operand) (dT sT : TypeId)
    (ho : o.op = .call { callee := .builtin .copy, args := #[d, s], argTypes := #[dT, sT] }) (elem : TypeId) (k : Nat) (hu : Tryd.prog.underlying dT = some (.slice elem)) (hsz : (Tryd.prog.info? elem).map (·.size) = some k)
    (g off dLen dCap : Nat) (sp : Option Addr) (sLen sCap : Nat) (hd : a.eval d = .slice (some ⟨g, off, none⟩) dLen dCap) (hs : a.eval s = .slice sp sLen sCap)
    (cur : List Value) (t : TypeId) (hg : Raw w g t cur) (cs : List Value) (hn : cs.length = Nat.min sLen dLen * k) (hpos : 0 < cs.length → ∃ ad, sp = some ad ∧ CellsAt w ad cs) (hk : 0 < k)
    (hfit : off + cs.length ≤ cur.length) (h1 : ∀ v ∈ cs, v.oneCell' = true) (m : Nat) (hm : Nat.min sLen dLen = m)
    (h : ∀ w', Raw w' g t (splice cur off cs) → w.grownBy w' (some g) → wpList Tryd.prog ops Q rest (a.put o.dst (.int .i64 (m : Nat))) w') : wpList Tryd.prog ops Q (o :: rest) a w := by
  refine wpList_plain hgd fun K hK => ?_
  by_cases h0 : cs = []
  · subst h0
    have hm0 : Nat.min sLen dLen = 0 := by
      rcases Nat.eq_zero_or_pos (Nat.min sLen dLen) with h | h
      · exact h
      · have := Nat.mul_pos h hk; simp at hn; omega
    have hrun := run_copy_none_k (P := Tryd.prog) w dT sT o.type elem k (some ⟨g, off, none⟩) sp dLen dCap sLen sCap hu hsz hm0
    have hmz : m = 0 := by omega
    subst hmz
    rw [splice_nil] at h
    unfold Oper.wp
    simp [execOp, ho, resolve, invoke, builtin, hd, hs, hrun, Result.andThen]
    exact hK _ _ (h w hg (World.grownBy.refl _ _))
  · obtain ⟨ad, rfl, hsrc⟩ := hpos (List.length_pos_iff.2 h0)
    have hrun := run_copy_k (P := Tryd.prog) w dT sT o.type elem k g off dLen dCap ad sLen sCap cur t cs hu hsz hg hn hsrc hfit h1
    rw [hm] at hrun
    unfold Oper.wp
    simp [execOp, ho, resolve, invoke, builtin, hd, hs, hrun, Result.andThen]
    exact hK _ _ (h _ (setRow_heap w g _ _ t _ hg) (grown_setRow w g _))

/-- copy as a step of a region that draws its order. -/
theorem step_copy_k {ops : Array Oper} {o : Oper} {a : Act} {w : World} {K : Act → World → Prop} {Q : Exit → Act → World → Prop} {E : Prop} (hgd : o.guard = none) (d s : Operand) (dT sT : TypeId)
    (ho : o.op = .call { callee := .builtin .copy, args := #[d, s], argTypes := #[dT, sT] }) (elem : TypeId) (k : Nat) (hu : Tryd.prog.underlying dT = some (.slice elem)) (hsz : (Tryd.prog.info? elem).map (·.size) = some k)
    (g off dLen dCap : Nat) (ad : Addr) (sLen sCap : Nat) (hd : a.eval d = .slice (some ⟨g, off, none⟩) dLen dCap) (hs : a.eval s = .slice (some ad) sLen sCap)
    (cur : List Value) (t : TypeId) (hg : Raw w g t cur) (cs : List Value) (hn : cs.length = Nat.min sLen dLen * k) (hsrc : CellsAt w ad cs)
    (hfit : off + cs.length ≤ cur.length) (h1 : ∀ v ∈ cs, v.oneCell' = true) (m : Nat) (hm : Nat.min sLen dLen = m)
    (h : ∀ w', Raw w' g t (splice cur off cs) → w.grownBy w' (some g) → K (a.put o.dst (.int .i64 (m : Nat))) w') :
    if Region.wanted o (yielded ops a.tmps) = true then Oper.wp Tryd.prog o a w K Q else E := by
  have hw : Region.wanted o (yielded ops a.tmps) = true := by simp [Region.wanted, hgd]
  rw [if_pos hw]
  have hrun := run_copy_k (P := Tryd.prog) w dT sT o.type elem k g off dLen dCap ad sLen sCap cur t cs hu hsz hg hn hsrc hfit h1
  rw [hm] at hrun
  unfold Oper.wp
  simp [execOp, ho, resolve, invoke, builtin, hd, hs, hrun, Result.andThen]
  exact h _ (setRow_heap w g _ _ t _ hg) (grown_setRow w g _)

/-- Cells of a block that is known whole. -/
theorem Raw.at {w : World} {g : Nat} {t : TypeId} {L : List Value} (h : Raw w g t L) (n : Nat) : CellsAt w ⟨g, 0, none⟩ (L.take n) := by
  intro j u hu
  have hj : j < (L.take n).length := (List.getElem?_eq_some_iff.1 hu).1
  rw [List.length_take] at hj
  rw [List.getElem?_take_of_lt (by omega)] at hu
  have e : (⟨g, 0, none⟩ : Addr).add j = ⟨g, j, none⟩ := by unfold Addr.add; split <;> simp_all
  rw [e]
  unfold Raw at h
  simp [World.cell?, h, hu]

/-- append as a step of a region that draws its order. -/
theorem step_append_c {α : Type} {ops : Array Oper} {o : Oper} {a : Act} {w : World} {K : Act → World → Prop} {Q : Exit → Act → World → Prop} {E : Prop} (enc : α → List Value) (k : Nat) (ok : EncOk enc k) (B sT eT : Nat) (z : Value) (bytes : Nat)
    (hU : Tryd.prog.underlying sT = some (.slice eT)) (hI : (Tryd.prog.info? eT).map (fun i => (i.zero, i.size, i.bytes)) = some (some z, k, bytes)) (hz : z.cells.size = k) (hby : bytes ≤ 1000) (hgd : o.guard = none) (s x : Operand)
    (ho : o.op = .call { callee := .builtin .append, args := #[s, x], argTypes := #[sT, sT] })
    (v : Value) (xs : List α) (hs : a.eval s = v) (hrow : RowC B eT k enc w v xs) (ad : Addr) (m c : Nat) (cs : List α) (hx : a.eval x = .slice (some ad) m c) (hm : cs.length = m) (hcs : CellsAt w ad (cs.flatMap enc)) (hlen : xs.length + cs.length ≤ 1000000000) (hB : B ≤ w.heap.size)
    (h : ∀ v' w', RowC B eT k enc w' v' (xs ++ cs) → w.grownBy w' v.ownBlock → K (a.put o.dst v') w') : if Region.wanted o (yielded ops a.tmps) = true then Oper.wp Tryd.prog o a w K Q else E := by
  have hw : Region.wanted o (yielded ops a.tmps) = true := by simp [Region.wanted, hgd]
  rw [if_pos hw]
  subst hm
  obtain ⟨i0, hi, hz0, hz1, hz2⟩ := info_parts hI
  have hmul : (xs.length + cs.length) * bytes ≤ 1000000000 * 1000 := Nat.mul_le_mul hlen hby
  refine wp_append_own w s x sT ho B eT i0 z k bytes hU hi hz0 hz1 hz2 hz ok.pos v xs.length (xs.flatMap enc) hs hrow ad cs.length c (cs.flatMap enc) hx (flat_length ok cs) hcs (flat_one ok cs) (by simp only [maxLen]; omega) (by omega) hB ?_
  intro v' w' h1 h2 _
  refine h v' w' ?_ h2
  unfold RowC
  rw [List.length_append, List.flatMap_append]
  exact h1

end Go.Proofs.YtofhlnpbflkdlaaDoor
