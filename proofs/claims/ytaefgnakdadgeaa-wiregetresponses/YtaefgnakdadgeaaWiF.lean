/-
  Layer 19: fields laid, one behind the other.
-/
import Derived.Test.YtaefgnakdadgeaaWiE
namespace Go.Proofs.Ytaefgnakdadgeaa
open Go.RowKit

def layL (cs : List Cel) (l : List Fd) : List Nat := l.flatMap (layF cs)

theorem layL_take (cs : List Cel) (l : List Fd) (i : Nat) (h : i < l.length) : layL cs (l.take (i + 1)) = layL cs (l.take i) ++ layF cs l[i] := by
  unfold layL
  rw [List.take_succ_eq_append_getElem h, List.flatMap_append]
  simp

theorem layF_len {cs : List Cel} {f : Fd} (h : f.fits cs) (hw : wrongF cs f = 0) : (layF cs f).length ≤ 20000 := by
  cases f with
  | num i =>
    obtain ⟨x, hx⟩ := h
    simp [layF, hx, leOf_length]
  | txt i m =>
    obtain ⟨⟨T, hx⟩, hm⟩ := h
    simp only [wrongF, hx] at hw
    simp only [layF, hx, List.length_append, leOf_length, sb_size]
    split at hw
    · cases hw
    · omega

theorem layL_len {cs : List Cel} (l : List Fd) (h : ∀ f ∈ l, f.fits cs ∧ wrongF cs f = 0) : (layL cs l).length ≤ l.length * 20000 := by
  induction l with
  | nil => simp [layL]
  | cons f t ih =>
    have h1 := layF_len (h f (List.mem_cons_self ..)).1 (h f (List.mem_cons_self ..)).2
    have h2 := ih (fun g hg => h g (List.mem_cons_of_mem _ hg))
    unfold layL at h2 ⊢
    rw [List.flatMap_cons, List.length_append, List.length_cons]
    omega

set_option maxRecDepth 100000 in
set_option maxHeartbeats 400000 in
theorem wlay_any (w0 w : World) (v : Value) (bs : List Nat) (hv : Fresh w0 w v bs) (p t : Nat) (cs : List Cel) (hO : Ob w p t cs) (ao : Option Addr) (n c : Nat) (I : Nat → Prop) (l : List Fd) (hl : SrcC 1 (fdE p) w I (.slice ao n c) l) (hf : ∀ f ∈ l, f.fits cs ∧ wrongF cs f = 0) (hb : bs.length ≤ 100000) (hn : l.length ≤ 10) :
    Calls Try.prog 28 #[v, .slice ao n c] w fun e w' => ∃ v', e = .returned v' ∧ Fresh w0 w' v' (bs ++ layL cs l) ∧ Same w w' := by
  obtain ⟨ao2, cap2, he, hcap, hcells⟩ := id hl
  simp only [Value.slice.injEq] at he
  obtain ⟨rfl, hnl, rfl⟩ := he
  have HO := hid hO
  have HL := hid hl
  have HF := hid hf
  have HN : Hid (n = l.length ∧ n ≤ 10 ∧ bs.length ≤ 100000) := hid ⟨hnl, by omega, hb⟩
  have HV := hid hv
  have hm1 := Try.mnlay
  have hm2 := Try.mtlay
  clear hO hl hf hv hcells hnl hn hcap hb
  go_enter Try.func28, Try.ntmps28
  go_wp2_with fail
  go_loopg [0, 9] n (fun k o z wr => ∃ i : Nat, i ≤ n ∧ n - i ≤ k ∧ z = .int .i64 (i : Nat) ∧ Hid (Fresh w0 wr o (bs ++ layL cs (l.take i)) ∧ Same w wr))
  case atStart => exact ⟨0, by omega, by omega, rfl, hid ⟨by simpa [layL] using HV.out, Kept.refl _ _⟩⟩
  case round =>
    obtain ⟨i, hi, hk, rfl, HX⟩ := hrel
    obtain ⟨vo, hvo⟩ : ∃ x, x = u0 := ⟨_, rfl⟩
    rw [← hvo] at HX ⊢
    clear hvo
    by_cases hlt : i < n
    · obtain ⟨ao2, cap2, he, hcap, hcells⟩ := (HL.out.kept (fdE_ok p) HX.out.2 (fun _ _ _ f => f))
      simp only [Value.slice.injEq] at he
      obtain ⟨rfl, hnl, rfl⟩ := he
      obtain ⟨b, o, rfl, hIb, hce⟩ := hcells (fun e => by rw [e] at hnl; simp at hnl; omega)
      have c0 := hce i (by omega) 0 (by decide)
      rw [Nat.mul_one, Nat.add_zero] at c0
      obtain ⟨f, hfe⟩ : ∃ f, f = l[i]'(by omega) := ⟨_, rfl⟩
      rw [← hfe] at c0
      have HFE : Hid (layL cs (l.take (i + 1)) = layL cs (l.take i) ++ layF cs f ∧ f.fits cs ∧ wrongF cs f = 0) := hid (by
        rw [hfe]
        exact ⟨layL_take cs l i (by omega), HF.out _ (List.getElem_mem _)⟩)
      obtain ⟨av, nv, cv, hvs⟩ : ∃ a n c, vo = .slice a n c := by
        obtain ⟨a, c, e, _⟩ := HX.out.1.row.shape
        exact ⟨a, _, c, e⟩
      have hlen : (bs ++ layL cs (l.take i)).length ≤ 1000000 := by
        have h8 := layL_len (cs := cs) (l.take i) (fun f hf => HF.out f (List.mem_of_mem_take hf))
        have h9 := HN.out
        rw [List.length_take] at h8
        rw [List.length_append]
        have : min i l.length ≤ 10 := by omega
        omega
      have hiw : IntKind.i64.wrap ((i : Int) + 1) = ((i + 1 : Nat) : Int) := by have := HN.out; rw [IntKind.wrap_i64]; omega
      clear hce hcells hfe hnl hcap
      cases f with
      | num q =>
        simp only [fdE, fdV, List.getElem?_cons_zero] at c0
        obtain ⟨x, hx⟩ := HFE.out.2.1
        have hxa : numA x = 0 := by have h9 := HFE.out.2.2; simpa [wrongF, hx] using h9
        obtain ⟨xn, rfl, hxn⟩ : ∃ xn : Nat, x = (xn : Int) ∧ xn ≤ 1000000000 := by
          unfold numA at hxa
          split at hxa
          · cases hxa
          · exact ⟨x.toNat, by omega, by omega⟩
        have HLF : Hid (layF cs (.num q) = leOf xn 4) := hid (by simp [layF, hx])
        have HC := nlay_any wr p q xn ((HO.out.kept HX.out.2 (fun f => f)).cell hx) (by omega) vo _ _ (Src.ofRow HX.out.1.row) hlen
        subst hvs
        clear hx hxa hxn hlen
        go_wp2_with fail
        refine HC.mono ?_
        rintro e w2 ⟨v2, rfl, hf2⟩
        have HX2 : Hid (Fresh w0 w2 v2 (bs ++ layL cs (l.take (i + 1))) ∧ Same w w2) := hid ⟨by
          rw [HFE.out.1, ← List.append_assoc, HLF.out]
          exact ⟨hf2.row, Same.trans HX.out.1.kept hf2.kept, fun k e => Nat.le_trans HX.out.1.kept.size (hf2.new k e)⟩, Same.trans HX.out.2 hf2.kept⟩
        clear hf2 HC
        go_wp2_with fail
        go_roundg (gk - 1)
        case measure => omega
        case rel => exact ⟨i + 1, by omega, by omega, by go_num, HX2⟩
      | txt q m =>
        simp only [fdE, fdV, List.getElem?_cons_zero] at c0
        obtain ⟨⟨T, hx⟩, hm⟩ := HFE.out.2.1
        have hsz : T.size ≤ m := by
          have h9 := HFE.out.2.2
          simp only [wrongF, hx] at h9
          split at h9
          · cases h9
          · omega
        have HLF : Hid (layF cs (.txt q m) = leOf T.size 2 ++ sb T) := hid (by simp [layF, hx])
        have HC := tlay_any wr p q m T ((HO.out.kept HX.out.2 (fun f => f)).cell hx) (by omega) vo _ _ (Src.ofRow HX.out.1.row) hlen
        subst hvs
        clear hx hsz hm hlen
        go_wp2_with fail
        refine HC.mono ?_
        rintro e w2 ⟨v2, rfl, hf2⟩
        have HX2 : Hid (Fresh w0 w2 v2 (bs ++ layL cs (l.take (i + 1))) ∧ Same w w2) := hid ⟨by
          rw [HFE.out.1, ← List.append_assoc, HLF.out]
          exact ⟨hf2.row, Same.trans HX.out.1.kept hf2.kept, fun k e => Nat.le_trans HX.out.1.kept.size (hf2.new k e)⟩, Same.trans HX.out.2 hf2.kept⟩
        clear hf2 HC
        go_wp2_with fail
        go_roundg (gk - 1)
        case measure => omega
        case rel => exact ⟨i + 1, by omega, by omega, by go_num, HX2⟩
    · obtain rfl : i = n := by omega
      have hli : decide (i < i) = false := by simp
      go_wp2_with fail
      go_ret
      refine ⟨_, rfl, ?_, HX.out.2⟩
      have h9 := HX.out.1
      rw [List.take_of_length_le (by have := HN.out.1; omega)] at h9
      exact h9

end Go.Proofs.Ytaefgnakdadgeaa
