/-
  Layer 19: fields read, one behind the other.
-/
import Derived.Test.YtaefgnakdadgeaaWiF
namespace Go.Proofs.Ytaefgnakdadgeaa
open Go.RowKit

/-- What fields are read as. -/
def readL : List Fd → List Cel → List Nat → Option (List Cel × List Nat)
  | [], cs, r => some (cs, r)
  | f :: l, cs, r => bnd8 (readF cs f r) fun q => readL l q.1 q.2

/-- Cells of the same make. -/
def Alike (a b : List Cel) : Prop := a.length = b.length ∧ ∀ i : Nat, (∀ x, a[i]? = some (Cel.n x) → ∃ y, b[i]? = some (Cel.n y)) ∧ (∀ x, a[i]? = some (Cel.s x) → ∃ y, b[i]? = some (Cel.s y))

theorem Fd.fits.alike {a b : List Cel} {f : Fd} (h : f.fits a) (hab : Alike a b) : f.fits b := by
  cases f with
  | num i => obtain ⟨x, hx⟩ := h; exact (hab.2 i).1 x hx
  | txt i m => obtain ⟨⟨x, hx⟩, hm⟩ := h; exact ⟨(hab.2 i).2 x hx, hm⟩

theorem alike_setn {a : List Cel} {i : Nat} {x y : Int} (h : a[i]? = some (.n x)) : Alike a (a.set i (.n y)) := by
  refine ⟨by simp, fun j => ?_⟩
  by_cases hj : i = j
  · subst hj
    have hlt : i < a.length := by rcases Nat.lt_or_ge i a.length with h1 | h1; exact h1; rw [List.getElem?_eq_none h1] at h; cases h
    rw [List.getElem?_set_self hlt, h]
    exact ⟨fun _ _ => ⟨y, rfl⟩, fun x hx => (by cases hx)⟩
  · rw [List.getElem?_set_ne hj]
    exact ⟨fun x hx => ⟨x, hx⟩, fun x hx => ⟨x, hx⟩⟩

theorem alike_sets {a : List Cel} {i : Nat} {x y : ByteArray} (h : a[i]? = some (.s x)) : Alike a (a.set i (.s y)) := by
  refine ⟨by simp, fun j => ?_⟩
  by_cases hj : i = j
  · subst hj
    have hlt : i < a.length := by rcases Nat.lt_or_ge i a.length with h1 | h1; exact h1; rw [List.getElem?_eq_none h1] at h; cases h
    rw [List.getElem?_set_self hlt, h]
    exact ⟨fun x hx => (by cases hx), fun _ _ => ⟨y, rfl⟩⟩
  · rw [List.getElem?_set_ne hj]
    exact ⟨fun x hx => ⟨x, hx⟩, fun x hx => ⟨x, hx⟩⟩

theorem readF_alike {cs cs' : List Cel} {f : Fd} {r y : List Nat} (hf : f.fits cs) (h : readF cs f r = some (cs', y)) : Alike cs cs' := by
  cases f with
  | num i =>
    obtain ⟨x, hx⟩ := hf
    simp only [readF] at h
    cases h1 : nm8 4 r with
    | none => rw [h1] at h; cases h
    | some q =>
      rw [h1] at h
      simp only [bnd8] at h
      split at h
      · simp only [Option.some.injEq, Prod.mk.injEq] at h; rw [← h.1]; exact alike_setn hx
      · cases h
  | txt i m =>
    obtain ⟨⟨x, hx⟩, _⟩ := hf
    simp only [readF] at h
    cases h1 : nm8 2 r with
    | none => rw [h1] at h; cases h
    | some q =>
      rw [h1] at h
      simp only [bnd8] at h
      split at h
      · cases h2 : tk8 q.1 q.2 with
        | none => rw [h2] at h; cases h
        | some s => rw [h2] at h; simp only [Option.some.injEq, Prod.mk.injEq] at h; rw [← h.1]; exact alike_sets hx
      · cases h

set_option maxRecDepth 100000 in
set_option maxHeartbeats 400000 in
theorem wfill_any (N : Nat) (w : World) (cb : Nat) (r : List Nat) (a : Option Addr) (cap : Nat) (h : Cu19 N w cb r a cap) (p t : Nat) (cs : List Cel) (hO : Ob w p t cs) (hpc : p ≠ cb) (hpN : N ≤ p) (ao : Option Addr) (n c : Nat) (l : List Fd) (hl : SrcC 1 (fdE p) w (fun k => k ≠ cb ∧ k ≠ p) (.slice ao n c) l) (hf : ∀ f ∈ l, f.fits cs) (hn : l.length ≤ 10) :
    Calls Try.prog 50 #[.pointer (some ⟨cb, 0, none⟩), .slice ao n c] w fun e w' => RdA N w w' cb p t (readL l cs r) e := by
  obtain ⟨ao2, cap2, he, hcap, hcells⟩ := id hl
  simp only [Value.slice.injEq] at he
  obtain ⟨rfl, hnl, rfl⟩ := he
  have HO : Hid (Ob w p t cs ∧ p ≠ cb ∧ N ≤ p) := hid ⟨hO, hpc, hpN⟩
  have HL := hid hl
  have HF := hid hf
  have HN : Hid (n = l.length ∧ n ≤ 10) := hid ⟨hnl, by omega⟩
  have HC := hid h
  have hm1 := Try.mnread
  have hm2 := Try.mtread
  clear hO hl hf hcells hnl hn hcap h hpc hpN
  go_enter Try.func50, Try.ntmps50
  go_wp2_with fail
  go_loopg [8] n (fun k z wr => ∃ i : Nat, i ≤ n ∧ n - i ≤ k ∧ z = .int .i64 (i : Nat) ∧ Hid (∃ cs' y a' cap', Alike cs cs' ∧ Ob wr p t cs' ∧ Cu19 N wr cb y a' cap' ∧ readL l cs r = readL (l.drop i) cs' y ∧ Kept (fun k => k = cb ∨ k = p) w wr))
  case atStart => exact ⟨0, by omega, by omega, rfl, hid ⟨cs, r, a, cap, ⟨rfl, fun i => ⟨fun x h => ⟨x, h⟩, fun x h => ⟨x, h⟩⟩⟩, HO.out.1, HC.out, rfl, Kept.refl _ _⟩⟩
  case round =>
    obtain ⟨i, hi, hk, rfl, HX⟩ := hrel
    obtain ⟨cs', y, a', cap', hal, ho, hcu, hrd, hkw⟩ := HX.out
    have HX2 := hid hal
    have HO2 := hid ho
    have HCU := hid hcu
    have HRD := hid hrd
    have HKW := hid hkw
    clear hal ho hcu hrd hkw HX
    by_cases hlt : i < n
    · obtain ⟨ao2, cap2, he, hcap, hcells⟩ := (HL.out.kept (fdE_ok p) HKW.out (fun j hj _ f => by rcases f with e | e; exact hj.1 e; exact hj.2 e))
      simp only [Value.slice.injEq] at he
      obtain ⟨rfl, hnl, rfl⟩ := he
      obtain ⟨b, o, rfl, hIb, hce⟩ := hcells (fun e => by rw [e] at hnl; simp at hnl; omega)
      have c0 := hce i (by omega) 0 (by decide)
      rw [Nat.mul_one, Nat.add_zero] at c0
      obtain ⟨f, hfe⟩ : ∃ f, f = l[i]'(by omega) := ⟨_, rfl⟩
      rw [← hfe] at c0
      have HFE : Hid (l.drop i = f :: l.drop (i + 1) ∧ f.fits cs') := hid (by
        refine ⟨by rw [hfe]; exact List.drop_eq_getElem_cons (by omega), ?_⟩
        have := HF.out f (by rw [hfe]; exact List.getElem_mem _)
        exact this.alike HX2.out)
      have hiw : IntKind.i64.wrap ((i : Int) + 1) = ((i + 1 : Nat) : Int) := by have := HN.out; rw [IntKind.wrap_i64]; omega
      have HCL : Hid (∀ v, v = fdV p f → ∀ e W, RdA N wr W cb p t (readF cs' f y) e → (∀ q, readF cs' f y = some q → e = .returned (.tuple #[]) ∧ ∃ cs9 y9 a9 cap9, Alike cs cs9 ∧ Ob W p t cs9 ∧ Cu19 N W cb y9 a9 cap9 ∧ readL l cs r = readL (l.drop (i + 1)) cs9 y9 ∧ Kept (fun k => k = cb ∨ k = p) w W) ∧ (readF cs' f y = none → e = pan19 190 ∧ readL l cs r = none ∧ Kept (fun k => k = cb ∨ k = p) w W)) := hid (by
        intro v _ e W hR
        constructor
        · rintro ⟨cs9, y9⟩ hq
          obtain ⟨he, a9, cap9, h1, h2, h3⟩ := hR.1 cs9 y9 hq
          have hA := readF_alike HFE.out.2 hq
          refine ⟨he, cs9, y9, a9, cap9, ⟨HX2.out.1.trans hA.1, fun j => ⟨fun x hx => ?_, fun x hx => ?_⟩⟩, h2, h1, ?_, Kept.trans HKW.out h3 (fun _ _ f => f) (fun _ _ f => f)⟩
          · obtain ⟨z, hz⟩ := (HX2.out.2 j).1 x hx; exact (hA.2 j).1 z hz
          · obtain ⟨z, hz⟩ := (HX2.out.2 j).2 x hx; exact (hA.2 j).2 z hz
          · rw [HRD.out, HFE.out.1]
            show bnd8 (readF cs' f y) _ = _
            rw [hq]
            rfl
        · intro hq
          obtain ⟨he, h3⟩ := hR.2 hq
          refine ⟨he, ?_, Kept.trans HKW.out h3 (fun _ _ f => f) (fun _ _ f => f)⟩
          rw [HRD.out, HFE.out.1]
          show bnd8 (readF cs' f y) _ = _
          rw [hq]
          rfl)
      clear hce hcells hfe hnl hcap
      cases f with
      | num q =>
        simp only [fdE, fdV, List.getElem?_cons_zero] at c0
        have HC := nread_any N wr cb y a' cap' HCU.out p t q cs' HO2.out HFE.out.2 HO.out.2.1 HO.out.2.2
        cases hq : readF cs' (.num q) y with
        | none =>
          have HQ := hid hq
          clear hq
          go_wp2_with fail
          refine HC.mono ?_
          intro e w2 hR
          obtain ⟨rfl, hrn, hk2⟩ := (HCL.out _ rfl e w2 hR).2 HQ.out
          have HE := hid (RdA.bad (N := N) (t := t) hrn hk2)
          clear hR hrn hk2 HC
          unfold pan19
          go_wp2_with fail
          exact ⟨rfl, HE.out⟩
        | some g =>
          have HQ := hid hq
          clear hq
          go_wp2_with fail
          refine HC.mono ?_
          intro e w2 hR
          obtain ⟨rfl, hX⟩ := (HCL.out _ rfl e w2 hR).1 g HQ.out
          have HX3 := hid hX
          clear hR hX HC
          go_wp2_with fail
          go_roundg (gk - 1)
          case measure => omega
          case rel => exact ⟨i + 1, by omega, by omega, by go_num, HX3⟩
      | txt q m =>
        simp only [fdE, fdV, List.getElem?_cons_zero] at c0
        have HC := tread_any N wr cb y a' cap' HCU.out p t q m cs' HO2.out HFE.out.2 HO.out.2.1 HO.out.2.2
        cases hq : readF cs' (.txt q m) y with
        | none =>
          have HQ := hid hq
          clear hq
          go_wp2_with fail
          refine HC.mono ?_
          intro e w2 hR
          obtain ⟨rfl, hrn, hk2⟩ := (HCL.out _ rfl e w2 hR).2 HQ.out
          have HE := hid (RdA.bad (N := N) (t := t) hrn hk2)
          clear hR hrn hk2 HC
          unfold pan19
          go_wp2_with fail
          exact ⟨rfl, HE.out⟩
        | some g =>
          have HQ := hid hq
          clear hq
          go_wp2_with fail
          refine HC.mono ?_
          intro e w2 hR
          obtain ⟨rfl, hX⟩ := (HCL.out _ rfl e w2 hR).1 g HQ.out
          have HX3 := hid hX
          clear hR hX HC
          go_wp2_with fail
          go_roundg (gk - 1)
          case measure => omega
          case rel => exact ⟨i + 1, by omega, by omega, by go_num, HX3⟩
    · obtain rfl : i = n := by omega
      have hli : decide (i < i) = false := by simp
      go_wp2_with fail
      go_end0
      have h9 := HRD.out
      rw [List.drop_eq_nil_of_le (by have := HN.out.1; omega)] at h9
      exact RdA.good h9 HCU.out HO2.out HKW.out

end Go.Proofs.Ytaefgnakdadgeaa
