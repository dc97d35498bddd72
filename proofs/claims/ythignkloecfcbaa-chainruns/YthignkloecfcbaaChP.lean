/-
  Layer 12: Prune.
-/
import Derived.Test.YthignkloecfcbaaChO
namespace Go.Proofs.Ythignkloecfcbaa
open Go.RowKit Go.Maps Go.Sort

/-- A key of archives is one. -/
theorem keyB_inv {x : Value} {kl : Lit} (h : keyOf Try.prog 62 x = some kl) : ∃ b : Bx, x = .agg #[.string b.tn, .string b.ar] ∧ kl = kB b := by
  have h0 := h
  have hs0 : 0 < Try.prog.types.size := by decide +kernel
  have hsz : ∃ m, Try.prog.types.size = m + 1 := ⟨Try.prog.types.size - 1, by omega⟩
  have hkt : Try.prog.keyType 62 = true := by kernel_rfl
  have hc : Try.prog.cellsOf 62 = 2 := by kernel_rfl
  have hc1 : Try.prog.cellsOf 9 = 1 := by kernel_rfl
  obtain ⟨m, hm⟩ := hsz
  unfold keyOf at h
  simp only [Try.underlying62] at h
  split at h
  · rename_i hf
    obtain ⟨ls, h1, _⟩ := Option.map_eq_some_iff.1 h
    rw [hkt, Bool.true_and] at hf
    cases x with
    | agg cs =>
      rw [hm] at h1
      unfold Program.keyLits at h1
      simp only [Try.underlying62, Value.cells] at h1
      split at h1
      · rename_i hl
        rw [hc] at hl
        obtain ⟨a, b, e⟩ : ∃ a b, cs.toList = [a, b] := by
          have h2 := hl.1
          generalize cs.toList = l at h2
          rcases l with _ | ⟨a, _ | ⟨b, _ | ⟨c, r⟩⟩⟩
          · simp at h2
          · simp at h2
          · exact ⟨a, b, rfl⟩
          · simp at h2
        obtain rfl : cs = #[a, b] := Array.toList_inj.1 e
        obtain ⟨lls, h2, _⟩ := Option.map_eq_some_iff.1 h1
        simp only [List.mapM_cons, List.mapM_nil, bind, Option.bind_eq_some_iff, hc1] at h2
        obtain ⟨l1, g1, _, ⟨l2, g2, _⟩, _⟩ := h2
        obtain ⟨s1, e1, _⟩ := keyLits_string' Try.underlying9 g1
        obtain ⟨s2, e2, _⟩ := keyLits_string' Try.underlying9 g2
        have e3 : a = .string s1 := by simpa using e1
        have e4 : b = .string s2 := by simpa using e2
        subst e3 e4
        have q1 : s1.size ≤ maxLen := by
          by_cases e : s1.size ≤ maxLen
          · exact e
          · simp [Program.keyLits, Try.underlying9, e] at g1
        have q2 : s2.size ≤ maxLen := by
          by_cases e : s2.size ≤ maxLen
          · exact e
          · simp [Program.keyLits, Try.underlying9, e] at g2
        refine ⟨⟨s1, s2, q1, q2⟩, rfl, ?_⟩
        have h3 := keyB ⟨s1, s2, q1, q2⟩
        unfold bxV at h3
        simp only at h3
        rw [h0] at h3
        exact Option.some.inj h3
      · cases h1
    | _ => simp [Value.formed, Try.underlying62] at hf
  · cases h

section
variable {K N : Nat} {w : World} {p : Nat} {s : Cs} {ρ : Nat → Nat} {mb : Nat}

/-- The floor set. -/
theorem Ck.setFloor (h : Ck K N w p s ρ mb) {t : Int} (h0 : 0 ≤ t) (ht : t ≤ s.now) {w' : World} (hb : Blk w' p #[.int .i64 s.now, .int .i64 t, .map (some mb)] 70) (hk : Kept (· = p) w w') : Ck K N w' p { s with floor := t } ρ mb := by
  have hne : ∀ k, ρ k ≠ 1 → ¬ k = p := fun k e e2 => e (by rw [e2]; exact h.rp)
  refine { h with blk := hb, bm := h.bm.kept hk (hne mb (by rw [h.rm]; decide)), am := fun a ha => (h.am a ha).kept hk (hne a (by rw [ha]; decide)), cm := fun c hc => ?_, new := fun k hk2 => ⟨(h.new k hk2).1, Nat.lt_of_lt_of_le (h.new k hk2).2 hk.size⟩, nums := ⟨h0, ht, h.nums.2.2⟩ }
  obtain ⟨v, h1, h2, h3⟩ := h.cm c hc
  exact ⟨v, h1.kept hk (hne c (by rw [hc]; decide)), h2.kept hk (fun k e => hne k (by rw [h3 k e]; omega)), h3⟩

/-- An archive taken away. -/
theorem Ck.setBx (h : Ck K N w p s ρ mb) {L' : List (Bx × Nat)} (hsub : ∀ x ∈ L', x ∈ s.bx) (hlen : L'.length ≤ s.bx.length) {w' : World} (hm : MpK 62 mpC kB w' mb L') (hk : Kept (· = mb) w w') : Ck K N w' p { s with bx := L' } ρ mb := by
  have hne : ∀ k, ρ k ≠ 2 → ¬ k = mb := fun k e e2 => e (by rw [e2]; exact h.rm)
  refine { h with blk := h.blk.kept hk (hne p (by rw [h.rp]; decide)), bm := hm, am := fun a ha => (h.am a ha).kept hk (hne a (by rw [ha]; decide)), cm := fun c hc => ?_, ba := fun x hx => h.ba x (hsub x hx), inja := fun x hx y hy => h.inja x (hsub x hx) y (hsub y hy), new := fun k hk2 => ⟨(h.new k hk2).1, Nat.lt_of_lt_of_le (h.new k hk2).2 hk.size⟩, lens := ⟨Nat.le_trans hlen h.lens.1, h.lens.2⟩ }
  obtain ⟨v, h1, h2, h3⟩ := h.cm c hc
  exact ⟨v, h1.kept hk (hne c (by rw [hc]; decide)), h2.kept hk (fun k e => hne k (by rw [h3 k e]; omega)), h3⟩

theorem vers_delB (h : Ck K N w p s ρ mb) {b : Bx} {a : Nat} (hg : getK b s.bx = some a) (hn : s.ar a = []) (b' : Bx) (n' : Nm) : vers { s with bx := delK b s.bx } b' n' = vers s b' n' := by
  unfold vers fndC
  simp only
  rw [getK_del h.apb]
  by_cases e : b = b'
  · rw [if_pos e, ← e, hg]
    show _ = ((getK n' (s.ar a)).map s.vr).getD []
    rw [hn]
    rfl
  · rw [if_neg e]

end

/-- What Prune tells. -/
def PrA (K N : Nat) (w : World) (p : Nat) (s : Cs) (ρ : Nat → Nat) (mb : Nat) (f : Int) (e : Ending) (w' : World) : Prop :=
  ∃ k s' ρ', e = .returned (.int .i64 ((k : Nat) : Int)) ∧ Ck K N w' p s' ρ' mb ∧ s'.now = s.now ∧ s'.floor = f ∧ (∀ b n, vers s' b n = pruV (vers s b n) f) ∧ (∀ m, TotIs (vers s) m → ∃ m', TotIs (vers s') m' ∧ m' + k = m) ∧ ExtC w ρ ρ' ∧ Kept (fun k => ρ k ≠ 0) w w'

/-- What the loop over all archives keeps. -/
structure PrI (K N : Nat) (w w0 : World) (p : Nat) (s : Cs) (ρ : Nat → Nat) (mb r n0 : Nat) (f : Int) (m : Nat) (wr : World) (U : Nat) (left : Lit → Bool) (cnt : Nat) (si : Cs) (ρi : Nat → Nat) : Prop where
  rg : wr.ranges Try.prog 62 mpC mb r n0 (mpD kB si.bx) left cnt
  ck : Ck K N wr p si ρi mb
  now : si.now = s.now
  floor : si.floor = f
  vs : ∀ b n, vers si b n = if left (kB b) = false then pruV (vers s b n) f else vers s b n
  tot : ∃ mi, TotIs (vers si) mi ∧ mi + U = m
  siz : w0.heap.size ≤ wr.heap.size
  ext : ExtC w0 ρ ρi
  kept : Kept (fun k => ρ k ≠ 0) w wr

set_option maxHeartbeats 400000 in
theorem prune_nil (w : World) (t : Int) : Calls Try.prog 19 #[.pointer none, .int .i64 t] w fun e w' => e = .returned (.int .i64 0) ∧ w' = w := by
  go_enter Try.func19, Try.ntmps19
  go_wp2_with fail
  go_ret
  exact ⟨rfl, rfl⟩

set_option maxHeartbeats 400000 in
theorem prune_old {K N : Nat} {w : World} {p : Nat} {s : Cs} {ρ : Nat → Nat} {mb : Nat} (h : Ck K N w p s ρ mb) (t : Int) (ht : t ≤ s.floor) : Calls Try.prog 19 #[.pointer (some ⟨p, 0, none⟩), .int .i64 t] w fun e w' => e = .returned (.int .i64 0) ∧ Same w w' := by
  have p1 : w.cell? ⟨p, 1, none⟩ = some (.int .i64 s.floor) := h.blk.cell 1
  have b1 : decide (t ≤ s.floor) = true := by simpa using ht
  clear h ht
  go_enter Try.func19, Try.ntmps19
  go_wp2_with fail
  go_ret
  exact ⟨rfl, Kept.refl _ _⟩

/-- One archive more. -/
theorem PrI.next {K N : Nat} {w w0 : World} {p : Nat} {s : Cs} {ρ : Nat → Nat} {mb r n0 : Nat} {f : Int} {m : Nat} {wr : World} {U : Nat} {left : Lit → Bool} {cnt : Nat} {si : Cs} {ρi : Nat → Nat} (hi : PrI K N w w0 p s ρ mb r n0 f m wr U left cnt si ρi)
    {b0 : Bx} {a : Nat} (hg0 : getK b0 si.bx = some a) (hl : left (kB b0) = true) {s2 : Cs} (hv : ∀ b n, vers s2 b n = if getK b si.bx = some a then pruV (vers si b n) f else vers si b n) :
    ∀ b n, vers s2 b n = if (left (kB b) && !(kB b).sameKey (kB b0)) = false then pruV (vers s b n) f else vers s b n := by
  intro b n
  rw [hv, hi.vs]
  by_cases e : b = b0
  · rw [e, if_pos hg0, if_pos ((left_step klB left b0 b0).2 (.inr rfl)), if_neg (by rw [hl]; decide)]
  · have hne : ¬ getK b si.bx = some a := fun e2 => e (hi.ck.inja (b, a) (getK_mem e2) (b0, a) (getK_mem hg0) rfl)
    rw [if_neg hne]
    by_cases el : left (kB b) = false
    · rw [if_pos el, if_pos ((left_step klB left b0 b).2 (.inl el))]
    · rw [if_neg el, if_neg (fun e2 => ((left_step klB left b0 b).1 e2).elim el e)]

set_option maxRecDepth 100000 in
set_option maxHeartbeats 2000000 in
theorem prune_new {K N : Nat} {w : World} {p : Nat} {s : Cs} {ρ : Nat → Nat} {mb : Nat} (h : Ck K N w p s ρ mb) (t : Int) (ht : s.floor < t) :
    Calls Try.prog 19 #[.pointer (some ⟨p, 0, none⟩), .int .i64 t] w fun e w' => PrA K N w p s ρ mb (min t s.now) e w' := by
  have p0 : w.cell? ⟨p, 0, none⟩ = some (.int .i64 s.now) := h.blk.cell 0
  have p1 : w.cell? ⟨p, 1, none⟩ = some (.int .i64 s.floor) := h.blk.cell 1
  have p2 : w.cell? ⟨p, 2, none⟩ = some (.map (some mb)) := h.blk.cell 2
  have z1 := h.blk.frozen 1
  have b1 : decide (t ≤ s.floor) = false := by simp; omega
  obtain ⟨nw, hnw⟩ : ∃ x, x = s.now := ⟨_, rfl⟩
  obtain ⟨f, hf⟩ : ∃ x, x = min t nw := ⟨_, rfl⟩
  obtain ⟨wA, hwA⟩ : ∃ W, W = w.setCell ⟨p, 1, none⟩ (.int .i64 (min t nw)) := ⟨_, rfl⟩
  have hkA : Kept (· = p) w wA := by rw [hwA]; exact (Kept.refl (· = p) w).setCell _ _ (.inl rfl)
  have hbA : Blk wA p #[.int .i64 s.now, .int .i64 f, .map (some mb)] 70 := by
    rw [hwA, hf]
    have h9 := h.blk.set 1 (.int .i64 (min t nw))
    simpa using h9
  have hCA : Ck K N wA p { s with floor := f } ρ mb := h.setFloor (by have := h.nums; omega) (by omega) hbA hkA
  obtain ⟨m, hm⟩ : ∃ m, m = (s.bx.map (fun x => sizA s x.2)).sum := ⟨_, rfl⟩
  have hmt : TotIs (vers s) m := by rw [hm]; exact h.tot
  have hml : m ≤ 1000000000000000 := by rw [hm]; exact tot_le h
  have HCA : Hid (Ck K N wA p { s with floor := f } ρ mb) := hCA
  have HC : Hid (Ck K N w p s ρ mb) := h
  have HKA : Hid (Kept (· = p) w wA) := hkA
  have HM : Hid (MpK 62 mpC kB wA mb s.bx) := hid hCA.bm
  have HT : Hid (TotIs (vers s) m) := hmt
  have p2A : (w.setCell ⟨p, 1, none⟩ (.int .i64 (min t nw))).cell? ⟨p, 2, none⟩ = some (.map (some mb)) := by rw [← hwA]; exact hCA.blk.cell 2
  rw [← hnw] at p0 ⊢
  rw [← hf]
  have HF : Hid (f = min t nw) := hf
  clear h hm hmt hkA hbA hCA hnw ht hf
  go_enter Try.func19, Try.ntmps19
  go_wp2_with (at_range; rw [← hwA]; refine wpList_range_own _ rfl _ 68 rfl 62 83 boxKey Try.underlying68 mpC mb s.bx.length (mpD kB s.bx) rfl HM.out ?_; intro w0 hrg0 hg0 hs0)
  obtain ⟨r, hr⟩ : ∃ r, r = wA.heap.size := ⟨_, rfl⟩
  rw [← hr] at hrg0 ⊢
  have HK0 : Hid (Same wA w0) := hid ((Kept.refl _ wA).grown hg0 (fun k e => by cases e))
  have HRR : Hid (r = wA.heap.size ∧ r < w0.heap.size ∧ ρ r = 0 ∧ w.heap.size ≤ wA.heap.size) := hid ⟨hr, hrg0.lt, HCA.out.zero (by omega), HKA.out.size⟩
  obtain ⟨K0, hK0⟩ : ∃ k, k = Maps.size (mpD kB s.bx) := ⟨_, rfl⟩
  have HI0 : Hid (PrI K N w w0 p s ρ mb r s.bx.length f m w0 0 (Maps.has (mpD kB s.bx)) K0 { s with floor := f } ρ) := hid
    { rg := by rw [hK0]; exact hrg0
      ck := HCA.out.same HK0.out
      now := rfl, floor := rfl
      vs := fun b n => by
        split
        · rename_i e
          have : vers s b n = [] := by
            unfold vers fndC
            cases hn : getK b s.bx with
            | none => rfl
            | some c => have := has_mp klB s.bx _ (getK_mem hn); rw [this] at e; cases e
          show vers s b n = _
          rw [this]; rfl
        · rfl
      tot := ⟨m, HT.out, by omega⟩
      siz := Nat.le_refl _
      ext := ExtC.refl _ _
      kept := Kept.trans HKA.out HK0.out (fun k _ e => by rw [e, HC.out.rp]; decide) (fun _ _ f => f.elim) }
  clear hrg0 hg0 hs0 hr hK0 p0 p1 p2 p2A z1 hwA
  go_frame
  go_loopg [5] K0 (fun q z5 wr => ∃ (U : Nat) (left : Lit → Bool) (cnt : Nat) (si : Cs) (ρi : Nat → Nat), z5 = .int .i64 (U : Nat) ∧ cnt ≤ q ∧ U ≤ m ∧ Hid (PrI K N w w0 p s ρ mb r s.bx.length f m wr U left cnt si ρi))
  case atStart => exact ⟨0, _, _, { s with floor := f }, ρ, rfl, Nat.le_refl _, Nat.zero_le _, HI0⟩
  case round =>
    obtain ⟨U, left, cnt, si, ρi, rfl, hcnt, hUm, HI⟩ := hrel
    go_wp2_with (at_next; refine wpList_next_ranges _ rfl (.tmp 31) rfl 62 boxKey mpC (fun x : Value => x) (fun x : Value => x) (fun key kl _ => ⟨key, rfl⟩) (fun v y _ => ⟨v, rfl⟩) mb r s.bx.length (mpD kB si.bx) left cnt rfl HI.out.rg ?_ ?_)
    · intro hc0 hl0
      have HE : Hid (PrA K N w p s ρ mb f (.returned (.int .i64 (U : Nat))) wr) := hid (by
        have hi := HI.out
        refine ⟨U, si, ρi, rfl, hi.ck, hi.now, hi.floor, fun b n => ?_, fun m' hm' => ?_, hi.ext.low (Nat.le_trans HRR.out.2.2.2 HK0.out.size), hi.kept⟩
        · rw [hi.vs b n, if_pos (hl0 _)]
        · obtain ⟨mi, h1, h2⟩ := hi.tot
          exact ⟨mi, h1, by rw [h2]; exact HT.out.det hm'⟩)
      clear hc0 hl0
      go_wp2_with fail
      go_ret
      exact HE.out
    · intro x c kl y1 y2 w2 cnt2 hkey hlx hv hat hrg2 hlt hg2 hs2 hen
      obtain ⟨b0, rfl, rfl⟩ := keyB_inv hkey
      obtain ⟨a, hgn, hy⟩ := mpD_has klB hat
      obtain rfl : c = .map (some a) := rdM.inv _ a y2 (by rw [hv, ← hy])
      have hi := HI.out
      have hrz : ρi r = 0 := hi.ext.zero HRR.out.2.1 HRR.out.2.2.1
      have hk2 : Kept (· = r) wr w2 := (Kept.refl _ wr).grown hg2 (fun k e => .inl (by simpa using e.symm))
      -- the key's box
      obtain ⟨w3, hw3⟩ : ∃ W, W = w2.alloc (.cells #[.string b0.tn, .string b0.ar] 62) := ⟨_, rfl⟩
      have hk3 : Same w2 w3 := by rw [hw3]; exact (Kept.refl _ _).alloc _
      obtain ⟨xb, hxb⟩ : ∃ x, x = w2.heap.size := ⟨_, rfl⟩
      have hbx : Blk w3 xb #[.string b0.tn, .string b0.ar] 62 := by rw [hw3, hxb]; exact Blk.new w2 _ _
      have hck3 : Ck K N w3 p si ρi mb := (hi.ck.kept hk2 (fun k e => by rw [e]; exact hrz)).same hk3
      have hrg3 := rangesK hrg2 hk3 (fun f => f) (fun f => f)
      have HAP := aprune_any hck3 hgn f
      have p1 : w3.cell? ⟨p, 1, none⟩ = some (.int .i64 f) := by rw [← hi.floor]; exact hck3.blk.cell 1
      have p1' : (w2.alloc (.cells #[.string b0.tn, .string b0.ar] 62)).cell? ⟨p, 1, none⟩ = some (.int .i64 f) := by rw [← hw3]; exact p1
      have HQ : Hid (ρi r = 0 ∧ Kept (· = r) wr w2 ∧ Same w2 w3 ∧ Ck K N w3 p si ρi mb ∧ getK b0 si.bx = some a ∧ left (kB b0) = true ∧ cnt2 < cnt ∧ w3.ranges Try.prog 62 mpC mb r s.bx.length (mpD kB si.bx) (fun z => left z && !z.sameKey (kB b0)) cnt2 ∧ Blk w3 xb #[.string b0.tn, .string b0.ar] 62 ∧ xb = w2.heap.size) := hid ⟨hrz, hk2, hk3, hck3, hgn, hlx, hlt, hrg3, hbx, hxb⟩
      clear hkey hlx hv hat hrg2 hlt hg2 hs2 hy hgn hi hrz hk2 hk3 hbx hck3 hrg3
      go_wp2_with fail
      rw [← hw3, ← hxb]
      clear p1' p1 hw3 hxb
      refine HAP.mono ?_
      rintro e w4 ⟨g, s2, ρ2, rfl, hck4, hbx4, hnow4, hfl4, hvs4, htot4, hext4, hkp4⟩
      clear HAP
      have hq := HQ.out
      have hi := HI.out
      have hmid : ∃ mi, TotIs (vers s2) mi ∧ mi + (U + g) = m := by
        obtain ⟨mi, h1, h2⟩ := hi.tot
        obtain ⟨m', h3, h4⟩ := htot4 mi h1
        exact ⟨m', h3, by omega⟩
      obtain ⟨U2, hU2⟩ : ∃ u, u = U + g := ⟨_, rfl⟩
      have hU2m : U2 ≤ m := by obtain ⟨mi, _, h2⟩ := hmid; omega
      have q1 : (U : Int) + (g : Int) = (U2 : Int) := by omega
      have q1w : IntKind.i64.wrap (U2 : Int) = (U2 : Int) := by rw [IntKind.wrap_i64]; omega
      have s23 : w2.heap.size ≤ w3.heap.size := hq.2.2.1.size
      have sr2 : wr.heap.size ≤ w2.heap.size := hq.2.1.size
      have hxl : xb < w3.heap.size := hq.2.2.2.2.2.2.2.2.1.lt
      have hxz : ρi xb = 0 := (hi.ck.kept hq.2.1 (fun k e => by rw [e]; exact hq.1)).zero (by rw [hq.2.2.2.2.2.2.2.2.2]; exact Nat.le_refl _)
      have hrg4 : w4.ranges Try.prog 62 mpC mb r s.bx.length (mpD kB s2.bx) (fun z => left z && !z.sameKey (kB b0)) cnt2 := by
        rw [hbx4]
        exact rangesK hq.2.2.2.2.2.2.2.1 hkp4 (fun e => by rw [hq.2.2.2.1.rm] at e; omega) (fun e => by rw [hq.1] at e; omega)
      have hx4 : Blk w4 xb #[.string b0.tn, .string b0.ar] 62 := hq.2.2.2.2.2.2.2.2.1.kept hkp4 (fun e => by rw [hxz] at e; omega)
      have hr3 : wr.heap.size ≤ w3.heap.size := Nat.le_trans sr2 s23
      have HI4 : Hid (PrI K N w w0 p s ρ mb r s.bx.length f m w4 U2 (fun z => left z && !z.sameKey (kB b0)) cnt2 s2 ρ2) := hid
        { rg := hrg4
          ck := hck4
          now := by rw [hnow4]; exact hi.now
          floor := by rw [hfl4]; exact hi.floor
          vs := hi.next hq.2.2.2.2.1 hq.2.2.2.2.2.1 hvs4
          tot := by rw [hU2]; exact hmid
          siz := Nat.le_trans hi.siz (Nat.le_trans hr3 hkp4.size)
          ext := hi.ext.trans hext4 (Nat.le_trans hi.siz hr3)
          kept := by
            have hk3 : Kept (fun k => ρ k ≠ 0) w w3 := Kept.trans (Kept.trans hi.kept hq.2.1 (fun _ _ e => e) (fun k hlt e => by have := HRR.out; omega)) hq.2.2.1 (fun _ _ e => e) (fun _ _ f => f.elim)
            exact (hi.ext.low (Nat.le_trans HRR.out.2.2.2 HK0.out.size)).kept hk3 (hkp4.mono (fun k _ e => by omega)) }
      have hg4 : getK b0 s2.bx = some a := by rw [hbx4]; exact hq.2.2.2.2.1
      have ha3 : ρ2 a = 3 := hck4.ba _ (getK_mem hg4)
      have hln := (hck4.am a ha3).len 83 72 Try.underlying83
      have p2 : w4.cell? ⟨p, 2, none⟩ = some (.map (some mb)) := hck4.blk.cell 2
      have y0 := hx4.cell 0
      have y1 := hx4.cell 1
      simp at y0 y1
      obtain ⟨Ln, hLn⟩ : ∃ x, x = (s2.ar a).length := ⟨_, rfl⟩
      rw [← hLn] at hln
      have HL : Hid (Ln = (s2.ar a).length ∧ getK b0 s2.bx = some a ∧ U2 ≤ m ∧ cnt2 < cnt ∧ Ck K N w4 p s2 ρ2 mb) := hid ⟨hLn, hg4, hU2m, hq.2.2.2.2.2.2.1, hck4⟩
      clear hck4 hbx4 hnow4 hfl4 hvs4 htot4 hext4 hkp4 hq hi hmid hU2 hU2m s23 sr2 hxl hxz hrg4 hx4 hr3 hg4 ha3 hLn
      by_cases hz : Ln = 0
      · subst hz
        obtain ⟨w5, cnt5, hdel, hrg5, hle5, hturn⟩ := (rangesK HI4.out.rg (w' := w4.drew) (F := fun _ => False) (Kept.refl _ w4).drew (fun f => f) (fun f => f)).drop boxKey Try.underlying68 (keyB b0) 0
        rw [Maps.strike_twice, mpD_del klB] at hrg5
        have HI5 : Hid (PrI K N w w0 p s ρ mb r s.bx.length f m w5 U2 (fun z => left z && !z.sameKey (kB b0)) cnt5 { s2 with bx := delK b0 s2.bx } ρ2 ∧ cnt5 ≤ cnt2) := hid (by
          have h4 := HI4.out
          have hk5 : Kept (· = mb) w4 w5 := (turnedK hturn).undrewC
          have he : s2.ar a = [] := List.eq_nil_of_length_eq_zero HL.out.1.symm
          refine ⟨{ rg := hrg5, ck := h4.ck.setBx (fun x hx => (delK_mem.1 hx).1) (delK_len _ _) (MpK.tight hrg5.owns) hk5, now := h4.now, floor := h4.floor, vs := fun b n => ?_, tot := ?_, siz := Nat.le_trans h4.siz hk5.size, ext := h4.ext, kept := ?_ }, hle5⟩
          · rw [vers_delB h4.ck HL.out.2.1 he]; exact h4.vs b n
          · obtain ⟨mi, h1, h2⟩ := h4.tot
            exact ⟨mi, h1.same (fun b n => vers_delB h4.ck HL.out.2.1 he b n), h2⟩
          · exact Kept.trans h4.kept hk5 (fun _ _ e => e) (fun k hlt e => by rw [e, HC.out.rm]; decide))
        have hdel2 : (Builtin.delete_ #[68, 62] 0 #[.map (some mb), .agg #[.string b0.tn, .string b0.ar]]).run Try.prog w4.drew = .ok (.tuple #[]) w5 := hdel
        clear hdel hrg5 hle5 hturn
        go_upto_region 10 with fail
        go_region
        go_wp2_with fail
        go_roundg (gk - 1)
        case measure => have := HL.out.2.2.2.1; omega
        case rel => exact ⟨U2, _, cnt5, _, ρ2, by go_num, by have := HL.out.2.2.2.1; have := HI5.out.2; omega, HL.out.2.2.1, hid HI5.out.1⟩
      · have bz : ((Ln : Int) == 0) = false := by simp; omega
        go_wp2_with fail
        go_roundg (gk - 1)
        case measure => have := HL.out.2.2.2.1; omega
        case rel => exact ⟨U2, _, cnt2, s2, ρ2, by go_num, by have := HL.out.2.2.2.1; omega, HL.out.2.2.1, HI4⟩

end Go.Proofs.Ythignkloecfcbaa
