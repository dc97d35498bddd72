/-
  Layer 12: Versions, New.
-/
import Derived.Test.YthignkloecfcbaaChP
namespace Go.Proofs.Ythignkloecfcbaa
open Go.RowKit Go.Maps Go.Sort

set_option maxHeartbeats 400000 in
theorem versions_nil (w : World) : Calls Try.prog 18 #[.pointer none] w fun e w' => e = .returned (.int .i64 0) ∧ w' = w := by
  go_enter Try.func18, Try.ntmps18
  go_wp2_with fail
  go_ret
  exact ⟨rfl, rfl⟩

set_option maxHeartbeats 400000 in
theorem cnew_any (w : World) : Calls Try.prog 10 #[] w fun e w' => ∃ p s ρ mb, e = .returned (.pointer (some ⟨p, 0, none⟩)) ∧ Ck 0 w.heap.size w' p s ρ mb ∧ s.now = 0 ∧ s.floor = 0 ∧ (∀ b n, vers s b n = []) ∧ (∀ k, k < w.heap.size → ρ k = 0) ∧ Same w w' := by
  have hmm := @run_makeMap Try.prog
  go_enter Try.func10, Try.ntmps10
  go_wp2_with fail
  go_ret
  have hkk : Same w ((w.alloc (.map #[] 0)).alloc (.cells #[.int .i64 0, .int .i64 0, .map (some w.heap.size)] 70)) := ((Kept.refl _ w).alloc _).alloc _
  have hb := Blk.new (w.alloc (.map #[] 0)) #[.int .i64 0, .int .i64 0, .map (some w.heap.size)] 70
  have hm : MpK 62 mpC kB ((w.alloc (.map #[] 0)).alloc (.cells #[.int .i64 0, .int .i64 0, .map (some w.heap.size)] 70)) w.heap.size [] := (MpK.new w).kept (F := fun _ => False) ((Kept.refl _ _).alloc _) (fun f => f)
  rw [World.size_alloc] at hb
  have hr : ∀ k q, q ≠ 0 → (if k = w.heap.size + 1 then 1 else if k = w.heap.size then 2 else 0) = q → (k = w.heap.size + 1 ∧ q = 1) ∨ (k = w.heap.size ∧ q = 2) := fun k q hq e => by
    by_cases e1 : k = w.heap.size + 1
    · rw [if_pos e1] at e; exact .inl ⟨e1, e.symm⟩
    · rw [if_neg e1] at e
      by_cases e2 : k = w.heap.size
      · rw [if_pos e2] at e; exact .inr ⟨e2, e.symm⟩
      · rw [if_neg e2] at e; exact absurd e.symm hq
  refine ⟨w.heap.size + 1, ⟨0, 0, [], fun _ => [], fun _ => []⟩, fun k => if k = w.heap.size + 1 then 1 else if k = w.heap.size then 2 else 0, w.heap.size, rfl, ?_, rfl, rfl, fun b n => rfl, fun k hk => ?_, hkk⟩
  · refine { blk := hb, bm := hm, am := fun a ha => ?_, cm := fun c hc => ?_, okv := fun c hc => ?_, ba := fun x hx => (by cases hx), ac := fun a ha x hx => (by cases hx), inja := fun x hx => (by cases hx), injc := fun a ha a' ha' x hx => (by cases hx), rp := if_pos rfl, rm := ?_, new := fun k e => ?_, lens := ⟨Nat.le_refl _, fun a ha => Nat.le_refl _, fun c hc => Nat.le_refl _⟩, big := by decide, nums := ⟨by decide, by decide, by decide⟩ }
    · rcases hr a 3 (by decide) ha with e | e <;> exact absurd e.2 (by decide)
    · rcases hr c 4 (by decide) hc with e | e <;> exact absurd e.2 (by decide)
    · rcases hr c 4 (by decide) hc with e | e <;> exact absurd e.2 (by decide)
    · show (if w.heap.size = w.heap.size + 1 then 1 else if w.heap.size = w.heap.size then 2 else 0) = 2
      rw [if_neg (by omega), if_pos rfl]
    · rcases hr k _ e rfl with e2 | e2
      · rw [e2.1]; simp
      · rw [e2.1]; simp; omega
  · show (if k = w.heap.size + 1 then 1 else if k = w.heap.size then 2 else 0) = 0
    rw [if_neg (by omega), if_neg (by omega)]

set_option maxRecDepth 100000 in
set_option maxHeartbeats 2000000 in
theorem versions_any {K N : Nat} {w : World} {p : Nat} {s : Cs} {ρ : Nat → Nat} {mb : Nat} (h : Ck K N w p s ρ mb) :
    Calls Try.prog 18 #[.pointer (some ⟨p, 0, none⟩)] w fun e w' => ∃ m, e = .returned (.int .i64 ((m : Nat) : Int)) ∧ TotIs (vers s) m ∧ Same w w' := by
  have p2 : w.cell? ⟨p, 2, none⟩ = some (.map (some mb)) := h.blk.cell 2
  obtain ⟨m, hm⟩ : ∃ m, m = (s.bx.map (fun x => sizA s x.2)).sum := ⟨_, rfl⟩
  have hml : m ≤ 1000000000000000 := by rw [hm]; exact tot_le h
  have HC : Hid (Ck K N w p s ρ mb) := h
  have HM : Hid (MpK 62 mpC kB w mb s.bx) := hid h.bm
  have HT : Hid (m = (s.bx.map (fun x => sizA s x.2)).sum ∧ TotIs (vers s) m) := hid ⟨hm, by rw [hm]; exact h.tot⟩
  clear h hm
  go_enter Try.func18, Try.ntmps18
  go_wp2_with (at_range; refine wpList_range_own _ rfl _ 68 rfl 62 83 boxKey Try.underlying68 mpC mb s.bx.length (mpD kB s.bx) rfl HM.out ?_; intro w0 hrg0 hg0 hs0)
  obtain ⟨r, hr⟩ : ∃ r, r = w.heap.size := ⟨_, rfl⟩
  rw [← hr] at hrg0 ⊢
  have HK0 : Hid (Same w w0) := hid ((Kept.refl _ w).grown hg0 (fun k e => by cases e))
  have HRR : Hid (r = w.heap.size ∧ r < w0.heap.size) := hid ⟨hr, hrg0.lt⟩
  have HRG : Hid (w0.ranges Try.prog 62 mpC mb r s.bx.length (mpD kB s.bx) (Maps.has (mpD kB s.bx)) (Maps.size (mpD kB s.bx))) := hrg0
  obtain ⟨K0, hK0⟩ : ∃ k, k = Maps.size (mpD kB s.bx) := ⟨_, rfl⟩
  have HKZ : Hid (K0 = Maps.size (mpD kB s.bx)) := hK0
  clear hrg0 hg0 hs0 hr hK0 p2
  go_frame
  go_loopg [3] K0 (fun q z3 wr => ∃ (U : Nat) (left : Lit → Bool) (cnt : Nat), z3 = .int .i64 (U : Nat) ∧ cnt ≤ q ∧ U ≤ m ∧ Hid (wr.ranges Try.prog 62 mpC mb r s.bx.length (mpD kB s.bx) left cnt ∧ Same w wr ∧ U + sumK kB (sizA s) left s.bx = m))
  case atStart =>
    refine ⟨0, _, _, rfl, Nat.le_of_eq HKZ.out.symm, Nat.zero_le _, hid ⟨HRG.out, HK0.out, ?_⟩⟩
    rw [sumK_all _ (has_mp klB s.bx), HT.out.1, Nat.zero_add]
  case round =>
    obtain ⟨U, left, cnt, rfl, hcnt, hUm, HI⟩ := hrel
    go_wp2_with (at_next; refine wpList_next_ranges _ rfl (.tmp 14) rfl 62 boxKey mpC (fun x : Value => x) (fun x : Value => x) (fun key kl _ => ⟨key, rfl⟩) (fun v y _ => ⟨v, rfl⟩) mb r s.bx.length (mpD kB s.bx) left cnt rfl HI.out.1 ?_ ?_)
    · intro hc0 hl0
      have HE : Hid (U = m) := hid (by
        have h9 := HI.out.2.2
        rw [sumK_none (sizA s) (fun q _ => hl0 (kB q.1))] at h9
        omega)
      clear hc0 hl0
      go_wp2_with fail
      go_ret
      exact ⟨U, rfl, by rw [HE.out]; exact HT.out.2, HI.out.2.1⟩
    · intro x c kl y1 y2 w2 cnt2 hkey hlx hv hat hrg2 hlt hg2 hs2 hen
      obtain ⟨b0, rfl, rfl⟩ := keyB_inv hkey
      obtain ⟨a, hgn, hy⟩ := mpD_has klB hat
      obtain rfl : c = .map (some a) := rdM.inv _ a y2 (by rw [hv, ← hy])
      have hk2 : Same w w2 := HI.out.2.1.grown hg2 (fun k e => .inr (by simp only [Option.some.injEq] at e; rw [← e, HRR.out.1]; exact Nat.le_refl _))
      have ha3 := HC.out.ba _ (getK_mem hgn)
      have HA : Hid (MpK 9 ptC kN w2 a (s.ar a)) := hid ((HC.out.am a ha3).kept hk2 (fun f => f))
      have hst := sumK_step klB (sizA s) HC.out.apb (getK_mem hgn) hlx
      have HQ : Hid (ρ a = 3 ∧ cnt2 < cnt ∧ w2.ranges Try.prog 62 mpC mb r s.bx.length (mpD kB s.bx) (fun z => left z && !z.sameKey (kB b0)) cnt2 ∧ Same w w2 ∧ U + sizA s a + sumK kB (sizA s) (fun z => left z && !z.sameKey (kB b0)) s.bx = m) := hid ⟨ha3, hlt, hrg2, hk2, by have := HI.out.2.2; omega⟩
      clear hkey hlx hv hat hrg2 hlt hg2 hs2 hy hgn hk2 ha3 hst
      obtain ⟨gk0, hgk0⟩ : ∃ g, g = gk := ⟨_, rfl⟩
      rw [← hgk0] at hcnt
      go_wp2_with (at_range; refine wpList_range_own _ rfl _ 83 rfl 9 72 nameKey Try.underlying83 ptC a (s.ar a).length (mpD kN (s.ar a)) rfl HA.out ?_; intro w3 hrg3 hg3 hs3)
      obtain ⟨r2, hr2⟩ : ∃ r, r = w2.heap.size := ⟨_, rfl⟩
      rw [← hr2] at hrg3 ⊢
      have hk3 : Same w2 w3 := (Kept.refl _ w2).grown hg3 (fun k e => by cases e)
      obtain ⟨K1, hK1⟩ : ∃ k, k = Maps.size (mpD kN (s.ar a)) := ⟨_, rfl⟩
      have HI3 : Hid (w3.ranges Try.prog 9 ptC a r2 (s.ar a).length (mpD kN (s.ar a)) (Maps.has (mpD kN (s.ar a))) K1 ∧ w3.ranges Try.prog 62 mpC mb r s.bx.length (mpD kB s.bx) (fun z => left z && !z.sameKey (kB b0)) cnt2 ∧ Same w w3 ∧ U + sumK kN (fun c => (s.vr c).length) (Maps.has (mpD kN (s.ar a))) (s.ar a) = U + sizA s a) := hid ⟨by rw [hK1]; exact hrg3, rangesK HQ.out.2.2.1 hk3 (fun f => f) (fun f => f), HQ.out.2.2.2.1.trans hk3, by rw [sumK_all _ (has_mp klN (s.ar a))]; rfl⟩
      have HR2 : Hid (r2 = w2.heap.size ∧ ¬ r2 = mb ∧ ¬ r2 = r) := hid ⟨hr2, fun e => by have := HQ.out.2.2.1.owns.lt; omega, fun e => by have := HQ.out.2.2.1.lt; omega⟩
      clear hrg3 hg3 hs3 hr2 hk3 hK1
      go_frame
      go_loopg [3] K1 (fun q z3 wi => ∃ (U2 : Nat) (left2 : Lit → Bool) (cnt3 : Nat), z3 = .int .i64 (U2 : Nat) ∧ cnt3 ≤ q ∧ U2 ≤ m ∧ Hid (wi.ranges Try.prog 9 ptC a r2 (s.ar a).length (mpD kN (s.ar a)) left2 cnt3 ∧ wi.ranges Try.prog 62 mpC mb r s.bx.length (mpD kB s.bx) (fun z => left z && !z.sameKey (kB b0)) cnt2 ∧ Same w wi ∧ U2 + sumK kN (fun c => (s.vr c).length) left2 (s.ar a) = U + sizA s a))
      case atStart => exact ⟨U, _, _, rfl, Nat.le_refl _, hUm, HI3⟩
      case round =>
        obtain ⟨U2, left2, cnt3, rfl, hcnt3, hU2m, HJ⟩ := hrel
        go_wp2_with (at_next; refine wpList_next_ranges _ rfl (.tmp 20) rfl 9 nameKey ptC (fun x : Value => x) (fun x : Value => x) (fun key kl _ => ⟨key, rfl⟩) (fun v y _ => ⟨v, rfl⟩) a r2 (s.ar a).length (mpD kN (s.ar a)) left2 cnt3 rfl HJ.out.1 ?_ ?_)
        · intro hc0 hl0
          have HE : Hid (U2 = U + sizA s a) := hid (by
            have h9 := HJ.out.2.2.2
            rw [sumK_none _ (fun q _ => hl0 (kN q.1))] at h9
            omega)
          clear hc0 hl0
          go_wp2_with fail
          go_roundg (gk0 - 1)
          case measure => have := HQ.out.2.1; omega
          case rel => exact ⟨U2, _, cnt2, by go_num, by have := HQ.out.2.1; omega, hU2m, hid ⟨HJ.out.2.1, HJ.out.2.2.1, by rw [HE.out]; exact HQ.out.2.2.2.2⟩⟩
        · intro x c kl y1 y2 w4 cnt4 hkey hlx hv hat hrg4 hlt hg4 hs4 hen4
          obtain ⟨n, rfl, rfl⟩ := keyN_inv hkey
          obtain ⟨c0, hgn, hy⟩ := mpD_has klN hat
          obtain rfl : c = .pointer (some ⟨c0, 0, none⟩) := rdP.inv _ c0 y2 (by rw [hv, ← hy])
          have hk4 : Same w w4 := HJ.out.2.2.1.grown hg4 (fun k e => .inr (by simp only [Option.some.injEq] at e; rw [← e, HR2.out.1]; exact HQ.out.2.2.2.1.size))
          have hkr : Kept (· = r2) wr w4 := (Kept.refl _ _).grown hg4 (fun k e => .inl (by simpa using e.symm))
          have hc4 := HC.out.ac a HQ.out.1 _ (getK_mem hgn)
          obtain ⟨v, hb, hrow, _⟩ := (HC.out.same hk4).cm c0 hc4
          obtain ⟨ao, cap, hvv, _⟩ := hrow.shape
          obtain ⟨l, hl⟩ : ∃ l, l = (s.vr c0).length := ⟨_, rfl⟩
          rw [← hl] at hvv
          subst hvv
          have d0 : w4.cell? ⟨c0, 0, none⟩ = some (.slice ao l cap) := hb.cell 0
          have hst := sumK_step klN (fun c => (s.vr c).length) (HC.out.apa HQ.out.1) (getK_mem hgn) hlx
          have hsum := HJ.out.2.2.2
          rw [hst] at hsum
          simp only [← hl] at hsum
          have hbnd : U2 + l ≤ m := by have := HQ.out.2.2.2.2; omega
          obtain ⟨U3, hU3⟩ : ∃ u, u = U2 + l := ⟨_, rfl⟩
          have q1 : (U2 : Int) + (l : Int) = (U3 : Int) := by omega
          have q1w : IntKind.i64.wrap (U3 : Int) = (U3 : Int) := by rw [IntKind.wrap_i64]; omega
          have HF : Hid (cnt4 < cnt3 ∧ U3 ≤ m ∧ w4.ranges Try.prog 9 ptC a r2 (s.ar a).length (mpD kN (s.ar a)) (fun z => left2 z && !z.sameKey (kN n)) cnt4 ∧ w4.ranges Try.prog 62 mpC mb r s.bx.length (mpD kB s.bx) (fun z => left z && !z.sameKey (kB b0)) cnt2 ∧ Same w w4 ∧ U3 + sumK kN (fun c => (s.vr c).length) (fun z => left2 z && !z.sameKey (kN n)) (s.ar a) = U + sizA s a) := hid ⟨hlt, by omega, hrg4, rangesK HJ.out.2.1 hkr (fun e => HR2.out.2.1 e.symm) (fun e => HR2.out.2.2 e.symm), hk4, by omega⟩
          clear hkey hlx hv hat hrg4 hlt hg4 hs4 hy hgn hk4 hkr hc4 hb hrow hl hst hsum hbnd hU3
          go_wp2_with fail
          go_roundg (gk - 1)
          case measure => have := HF.out.1; omega
          case rel => exact ⟨U3, _, cnt4, by go_num, by have := HF.out.1; omega, HF.out.2.1, hid HF.out.2.2⟩

end Go.Proofs.Ythignkloecfcbaa
