/-
  The reference's head: take, step.
-/
import Derived.Test.YtofhlnpbflkdlaaDoorLnUnp
import Derived.Test.YtofhlnpbflkdlaaDoorBlk
import Derived.Test.YtofhlnpbflkdlaaDoorHNextW
import Derived.Test.YtofhlnpbflkdlaaDoorOf
namespace Go.Proofs.YtofhlnpbflkdlaaDoor
open Go.RowKit

abbrev HdB (w : World) (h : Nat) (v : Value) (c e : Nat) : Prop := Blk w h #[v, .int .i64 (c : Nat), .int .i64 (e : Nat)] 76

/-- A number is taken: what is told, the place, the error. -/
def hTake (ls : List Nat) (c e n : Nat) : Nat × Nat × Nat :=
  if e ≠ 0 then (0, c, e) else if ls.length < c + n then (0, c, 10) else (numAt ls c n, c + n, 0)

set_option maxRecDepth 100000 in
set_option maxHeartbeats 2000000 in
theorem htake_any (w : World) (h : Nat) (v : Value) (I : Nat → Prop) (ls : List Nat) (c e n : Nat) (hH : HdB w h v c e) (hs : Src w I v ls) (hb : ∀ b ∈ ls, b < 2) (hn : n ≤ 32) (hc : c ≤ ls.length) (hlen : ls.length ≤ 1000000000) :
    Calls Tryd.prog 48 #[.pointer (some ⟨h, 0, none⟩), .int .i64 (n : Nat)] w fun r w' => r = .returned (.int .i64 ((hTake ls c e n).1 : Nat)) ∧ HdB w' h v (hTake ls c e n).2.1 (hTake ls c e n).2.2 ∧ Kept (· = h) w w' := by
  obtain ⟨ao, cap, rfl, hsa⟩ := id hs
  have c0 := hH.cell 0
  have c1 := hH.cell 1
  have c2 := hH.cell 2
  have f1 := hH.frozen 1
  have f2 := hH.frozen 2
  simp at c0 c1 c2
  have HH : Hid (HdB w h (.slice ao ls.length cap) c e) := hH
  have HS : Hid (Src w I (.slice ao ls.length cap) ls) := hs
  have HB : Hid (∀ b ∈ ls, b < 2) := hb
  obtain ⟨M, hM⟩ : ∃ M, M = ls.length := ⟨_, rfl⟩
  rw [← hM] at c0 HH HS hc hlen
  have HM : Hid (M = ls.length) := hM
  clear hs hsa hb hH
  by_cases he : e = 0
  · subst he
    obtain ⟨d, hd⟩ : ∃ d, d = M - c := ⟨_, rfl⟩
    have hdI : (M : Int) - (c : Int) = (d : Int) := by omega
    have hwd : IntKind.i64.wrap (d : Int) = (d : Int) := by rw [IntKind.wrap_i64]; omega
    by_cases hdn : d < n
    · have HE : Hid (hTake ls c 0 n = (0, c, 10)) := hid (by unfold hTake; rw [if_neg (by simp), if_pos (by omega)])
      clear hd hM
      go_enter Tryd.func48, Tryd.ntmps48
      go_wp2_with fail
      go_quiet (fail)
      go_wp2_with fail
      go_ret
      rw [HE.out]
      refine ⟨rfl, ?_, ((Kept.refl (· = h) w).drewN _).setCell ⟨h, 2, none⟩ _ (.inl rfl)⟩
      have hb := (HH.out.drewN nq).set 2 (.int .i64 10)
      rw [HM.out] at hb
      simp at hb
      exact hb
    · have hdd : decide (d < n) = false := by simp; omega
      have hfit : c + n ≤ M := by omega
      obtain ⟨x, hx⟩ : ∃ x, x = numAt ls c n := ⟨_, rfl⟩
      have HE : Hid (hTake ls c 0 n = (x, c + n, 0)) := hid (by unfold hTake; rw [if_neg (by simp), if_neg (by omega), hx])
      have HNB : ∀ wx : World, Src wx I (.slice ao M cap) ls → Calls Tryd.prog 64 #[.slice ao M cap, .int .i64 (c : Nat), .int .i64 (n : Nat)] wx fun e w' => e = .returned (.int .u32 (x : Nat)) ∧ w' = wx := by
        intro wx hsx
        have h1 := refNumber_any wx _ I ls hsx HB.out c n hn (by omega) (by omega)
        rw [← n2_part ls HB.out c n (by omega)] at h1
        have e1 : n2 ((ls.drop c).take n) = x := hx.symm
        rw [e1] at h1
        exact h1
      have hx32 : x < 4294967296 := by
        rw [hx]
        exact Nat.lt_of_lt_of_le (numAt_lt ls HB.out c n) (Nat.le_trans (Nat.pow_le_pow_right (by omega) hn) (by decide))
      obtain ⟨cn, hcn⟩ : ∃ cn, cn = c + n := ⟨_, rfl⟩
      have hcnI : (c : Int) + (n : Int) = (cn : Int) := by omega
      have HCN : Hid (cn = c + n) := hcn
      have hcnle : cn ≤ 1000000000 := by omega
      clear hd hM hx hcn hdn hfit
      go_enter Tryd.func48, Tryd.ntmps48
      go_wp2_with fail
      go_quiet (fail)
      go_wp2_with fail
      have HS1 : Hid (Src (w.drewN nq) I (.slice ao M cap) ls) := hid (HS.out.kept ((Kept.refl (fun _ => False) w).drewN nq) (fun _ _ _ f => f))
      have HH1 : Hid (HdB (w.drewN nq) h (.slice ao M cap) c 0) := hid (HH.out.drewN nq)
      have HK1 : Hid (Kept (· = h) w (w.drewN nq)) := hid ((Kept.refl (· = h) w).drewN nq)
      generalize w.drewN nq = w1 at *
      have c0 := HH1.out.cell 0
      have c1 := HH1.out.cell 1
      have f1 := HH1.out.frozen 1
      simp at c0 c1
      have HN1 := fun q => HNB (w1.drewN q) (HS1.out.kept ((Kept.refl (fun _ => False) w1).drewN q) (fun _ _ _ f => f))
      go_quiet ((go_at_call 64; exact Calls.quiet_of_same (HN1 _)))
      go_wp2_with fail
      go_ret
      rw [HE.out, ← HCN.out]
      refine ⟨rfl, ?_, (HK1.out.drewN _).setCell ⟨h, 1, none⟩ _ (.inl rfl)⟩
      have hb := (HH1.out.drewN nq).set 1 (.int .i64 (cn : Nat))
      rw [HM.out] at hb
      simp at hb
      exact hb
  · have HE : Hid (hTake ls c e n = (0, c, e)) := hid (by unfold hTake; rw [if_pos he])
    have hed : ((e : Int) != 0) = true := by simp; omega
    have hed2 : ((e : Int) == 0) = false := by simp; omega
    clear he hM
    go_enter Tryd.func48, Tryd.ntmps48
    go_wp2_with fail
    go_quiet (fail)
    go_wp2_with fail
    go_ret
    rw [HE.out]
    refine ⟨rfl, ?_, (Kept.refl (· = h) w).drewN _⟩
    have hb := HH.out.drewN nq
    rw [HM.out] at hb
    exact hb

end Go.Proofs.YtofhlnpbflkdlaaDoor
