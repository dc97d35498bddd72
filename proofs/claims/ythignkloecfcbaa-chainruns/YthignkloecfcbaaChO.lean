/-
  Layer 12: an archive pruned.
-/
import Derived.Test.YthignkloecfcbaaChN
import Derived.Test.YthignkloecfcbaaChJ
import Derived.Maps.RangeWalk
namespace Go.Proofs.Ythignkloecfcbaa
open Go.RowKit Go.Maps Go.Sort

theorem rangesK {P : Program} {k : TypeId} {R : Value → Option (DataW Unit × List MemPlace)} {w w' : World} {b r n : Nat} {D : DataW Unit} {left : Lit → Bool} {cnt : Nat} (h : w.ranges P k R b r n D left cnt) {F : Nat → Prop} (hk : Kept F w w') (hb : ¬ F b) (hr : ¬ F r) : w'.ranges P k R b r n D left cnt := by
  obtain ⟨es, clock, since, seen, c0, h1, h2, h3, h4, h5, h6⟩ := h
  exact ⟨es, clock, since, seen, c0, by rw [hk.block b (Array.getElem?_eq_some_iff.1 h1).1 hb]; exact h1, h2, h3, h4, by rw [hk.block r (Array.getElem?_eq_some_iff.1 h5).1 hr]; exact h5, h6⟩

/-- A key of names is one. -/
theorem keyN_inv {x : Value} {kl : Lit} (h : keyOf Try.prog 9 x = some kl) : ∃ n : Nm, x = .string n.s ∧ kl = kN n := by
  cases x <;> simp [keyOf, Try.underlying9, mapKey] at h
  rename_i s
  exact ⟨⟨s, by first | exact h.1 | omega⟩, rfl, by unfold kN; first | exact h.2.symm | exact h.symm⟩

section
variable {κ : Type} [DecidableEq κ] {kl : κ → Lit}

/-- What stands at a key that is there. -/
theorem mpD_has (hK : KL kl) {L : List (κ × Nat)} {s : κ} {y : DataW Unit} (h : ∀ z, (mpD kl L).atKey (kl s) z = y) : ∃ f, getK s L = some f ∧ y = .lit (.int .i64 (f : Nat)) := by
  cases hg : getK s L with
  | none =>
    have h1 := h .nil
    have h2 := h (.lit (.int .i64 0))
    rw [mpD_at hK, hg] at h1 h2
    rw [← h1] at h2
    cases h2
  | some f =>
    have h1 := h .nil
    rw [mpD_at hK, hg] at h1
    exact ⟨f, rfl, h1.symm⟩

/-- Whether a key is still to come, behind a round. -/
theorem left_step (hK : KL kl) (left : Lit → Bool) (s t : κ) : (left (kl t) && !(kl t).sameKey (kl s)) = false ↔ left (kl t) = false ∨ t = s := by
  rw [hK.same]
  by_cases e : t = s
  · simp [e]
  · simp [e]

end

section
variable {K N : Nat} {w : World} {p : Nat} {s : Cs} {ρ : Nat → Nat} {mb : Nat}

theorem Ck.setArc (h : Ck K N w p s ρ mb) {a : Nat} (ha : ρ a = 3) {L' : List (Nm × Nat)} (hsub : ∀ x ∈ L', x ∈ s.ar a) (hlen : L'.length ≤ (s.ar a).length) {w' : World} (hm : MpK 9 ptC kN w' a L') (hk : Kept (· = a) w w') :
    Ck K N w' p { s with ar := fun x => if x = a then L' else s.ar x } ρ mb := by
  have hne : ∀ k, ρ k ≠ 3 → ¬ k = a := fun k e e2 => e (by rw [e2]; exact ha)
  have hmem : ∀ a' x, x ∈ (if a' = a then L' else s.ar a') → x ∈ s.ar a' := fun a' x hx => by
    by_cases e : a' = a
    · rw [if_pos e] at hx; rw [e]; exact hsub x hx
    · rwa [if_neg e] at hx
  refine { h with blk := h.blk.kept hk (hne p (by rw [h.rp]; decide)), bm := h.bm.kept hk (hne mb (by rw [h.rm]; decide)), am := fun a' h' => ?_, cm := fun c hc => ?_, ac := fun a' h' x hx => h.ac a' h' x (hmem a' x hx), injc := fun a' h1 a'' h2 x hx y hy => h.injc a' h1 a'' h2 x (hmem a' x hx) y (hmem a'' y hy), new := fun k hk2 => ⟨(h.new k hk2).1, Nat.lt_of_lt_of_le (h.new k hk2).2 hk.size⟩, lens := ⟨h.lens.1, fun a' h' => ?_, h.lens.2.2⟩ }
  · show MpK _ _ _ w' a' (if a' = a then L' else s.ar a')
    by_cases e : a' = a
    · rw [if_pos e, e]; exact hm
    · rw [if_neg e]; exact (h.am a' h').kept hk e
  · obtain ⟨v, h1, h2, h3⟩ := h.cm c hc
    exact ⟨v, h1.kept hk (hne c (by rw [hc]; decide)), h2.kept hk (fun k e => hne k (by rw [h3 k e]; omega)), h3⟩
  · show (if a' = a then L' else s.ar a').length ≤ K
    have := h.lens.2.1 a' h'
    by_cases e : a' = a
    · rw [if_pos e]; rw [e] at this; omega
    · rw [if_neg e]; exact this

/-- An entry without versions taken away changes none. -/
theorem vers_del (h : Ck K N w p s ρ mb) {b : Bx} {a : Nat} (hg : getK b s.bx = some a) {n : Nm} (hn : vers s b n = []) (b' : Bx) (n' : Nm) :
    vers { s with ar := fun x => if x = a then delK n (s.ar a) else s.ar x } b' n' = vers s b' n' := by
  unfold vers fndC at hn ⊢
  rw [hg] at hn
  change ((getK n (s.ar a)).map s.vr).getD [] = [] at hn
  cases hg' : getK b' s.bx with
  | none => rfl
  | some a' =>
    show ((getK n' (if a' = a then delK n (s.ar a) else s.ar a')).map s.vr).getD [] = ((getK n' (s.ar a')).map s.vr).getD []
    by_cases e : a' = a
    · rw [if_pos e, getK_del (h.apa (h.ba _ (getK_mem hg))), e]
      by_cases en : n = n'
      · rw [if_pos en, ← en, hn]; rfl
      · rw [if_neg en]
    · rw [if_neg e]

end

theorem ExtC.keptP {w w' w'' : World} {ρ ρ' : Nat → Nat} (h : ExtC w ρ ρ') (hk : Kept (fun k => 3 ≤ ρ k) w w') (hk' : Kept (fun k => 3 ≤ ρ' k) w' w'') : Kept (fun k => 3 ≤ ρ k) w w'' :=
  Kept.trans hk hk' (fun _ _ e => e) (fun k hlt e => by
    rcases h k with h1 | h1
    · rw [← h1]; exact e
    · omega)

/-- What pruning of an archive tells. -/
def ApA (K N : Nat) (w : World) (p : Nat) (s : Cs) (ρ : Nat → Nat) (mb a : Nat) (f : Int) (e : Ending) (w' : World) : Prop :=
  ∃ k s' ρ', e = .returned (.int .i64 ((k : Nat) : Int)) ∧ Ck K N w' p s' ρ' mb ∧ s'.bx = s.bx ∧ s'.now = s.now ∧ s'.floor = s.floor ∧ (∀ b n, vers s' b n = if getK b s.bx = some a then pruV (vers s b n) f else vers s b n) ∧ (∀ m, TotIs (vers s) m → ∃ m', TotIs (vers s') m' ∧ m' + k = m) ∧ ExtC w ρ ρ' ∧ Kept (fun k => 3 ≤ ρ k) w w'

theorem pruV_nil (f : Int) : pruV [] f = [] := rfl

theorem VerOk.prune {now : Int} {l : List Ver} (h : VerOk now l) (f : Int) : VerOk now (pruV l f) :=
  ⟨pruV_ris h.ris f, fun v hv => h.low v (pruV_mem hv), fun v hv => h.gone v (pruV_mem hv), fun v hv => h.big v (pruV_mem hv)⟩

/-- What the loop over an archive keeps. -/
structure ApI (K N : Nat) (w w0 : World) (p : Nat) (s : Cs) (ρ : Nat → Nat) (mb a r n0 : Nat) (f : Int) (m : Nat) (wr : World) (U : Nat) (left : Lit → Bool) (cnt : Nat) (si : Cs) (ρi : Nat → Nat) : Prop where
  rg : wr.ranges Try.prog 9 ptC a r n0 (mpD kN (si.ar a)) left cnt
  ck : Ck K N wr p si ρi mb
  bx : si.bx = s.bx
  now : si.now = s.now
  floor : si.floor = s.floor
  vs : ∀ b n, vers si b n = if getK b s.bx = some a ∧ left (kN n) = false then pruV (vers s b n) f else vers s b n
  tot : ∃ mi, TotIs (vers si) mi ∧ mi + U = m
  siz : w0.heap.size ≤ wr.heap.size
  ext : ExtC w0 ρ ρi
  kept : Kept (fun k => 3 ≤ ρ k) w wr

/-- One entry more. -/
theorem ApI.next {K N : Nat} {w w0 : World} {p : Nat} {s : Cs} {ρ : Nat → Nat} {mb a r n0 : Nat} {f : Int} {m : Nat} {wr : World} {U : Nat} {left : Lit → Bool} {cnt : Nat} {si : Cs} {ρi : Nat → Nat} (hi : ApI K N w w0 p s ρ mb a r n0 f m wr U left cnt si ρi)
    {b0 : Bx} (hg0 : getK b0 s.bx = some a) {n : Nm} (hl : left (kN n) = true) {s2 : Cs} (hv : ∀ b' n', vers s2 b' n' = if b' = b0 ∧ n' = n then pruV (vers si b0 n) f else vers si b' n') :
    (∀ b n', vers s2 b n' = if getK b s.bx = some a ∧ (left (kN n') && !(kN n').sameKey (kN n)) = false then pruV (vers s b n') f else vers s b n') ∧ ∃ mi, TotIs (vers s2) mi ∧ mi + (U + goV (vers si b0 n) f) = m := by
  have h0 : vers si b0 n = vers s b0 n := by rw [hi.vs, if_neg (fun e => by rw [hl] at e; cases e.2)]
  refine ⟨fun b n' => ?_, ?_⟩
  · rw [hv]
    by_cases e : b = b0 ∧ n' = n
    · rw [if_pos e, e.1, e.2, if_pos ⟨hg0, (left_step klN left n n).2 (.inr rfl)⟩, h0]
    · rw [if_neg e, hi.vs]
      by_cases eb : getK b s.bx = some a
      · have hb : b = b0 := hi.ck.inja (b, a) (by rw [hi.bx]; exact getK_mem eb) (b0, a) (by rw [hi.bx]; exact getK_mem hg0) rfl
        have hn : ¬ n' = n := fun e2 => e ⟨hb, e2⟩
        by_cases el : left (kN n') = false
        · rw [if_pos ⟨eb, el⟩, if_pos ⟨eb, (left_step klN left n n').2 (.inl el)⟩]
        · rw [if_neg (fun e2 => el e2.2), if_neg (fun e2 => ((left_step klN left n n').1 e2.2).elim el hn)]
      · rw [if_neg (fun e2 => eb e2.1), if_neg (fun e2 => eb e2.1)]
  · obtain ⟨mi, h1, h2⟩ := hi.tot
    obtain ⟨m2, h3, h4⟩ := h1.upd b0 n _ hv
    have := goV_len (vers si b0 n) f
    exact ⟨m2, h3, by omega⟩

set_option maxRecDepth 100000 in
set_option maxHeartbeats 2000000 in
theorem aprune_any {K N : Nat} {w : World} {p : Nat} {s : Cs} {ρ : Nat → Nat} {mb : Nat} (h : Ck K N w p s ρ mb) {b0 : Bx} {a : Nat} (hg0 : getK b0 s.bx = some a) (f : Int) :
    Calls Try.prog 41 #[.map (some a), .int .i64 f] w fun e w' => ApA K N w p s ρ mb a f e w' := by
  have ha3 := h.ba _ (getK_mem hg0)
  obtain ⟨m, hm⟩ : ∃ m, m = (s.bx.map (fun x => sizA s x.2)).sum := ⟨_, rfl⟩
  have hmt : TotIs (vers s) m := by rw [hm]; exact h.tot
  have hml : m ≤ 1000000000000000 := by rw [hm]; exact tot_le h
  have HC : Hid (Ck K N w p s ρ mb) := h
  have HM : Hid (MpK 9 ptC kN w a (s.ar a)) := hid (h.am a ha3)
  have HT : Hid (TotIs (vers s) m ∧ getK b0 s.bx = some a ∧ ρ a = 3) := hid ⟨hmt, hg0, ha3⟩
  clear h ha3 hm hmt hg0
  go_enter Try.func41, Try.ntmps41
  go_wp2_with (at_range; refine wpList_range_own _ rfl _ 83 rfl 9 72 nameKey Try.underlying83 ptC a (s.ar a).length (mpD kN (s.ar a)) rfl HM.out ?_; intro w0 hrg0 hg0 hs0)
  obtain ⟨r, hr⟩ : ∃ r, r = w.heap.size := ⟨_, rfl⟩
  rw [← hr] at hrg0 ⊢
  have HK0 : Hid (Same w w0) := hid ((Kept.refl _ w).grown hg0 (fun k e => by cases e))
  have HRR : Hid (r = w.heap.size ∧ r < w0.heap.size ∧ ρ r = 0) := hid ⟨hr, hrg0.lt, HC.out.zero (by omega)⟩
  obtain ⟨K0, hK0⟩ : ∃ k, k = Maps.size (mpD kN (s.ar a)) := ⟨_, rfl⟩
  have HI0 : Hid (ApI K N w w0 p s ρ mb a r (s.ar a).length f m w0 0 (Maps.has (mpD kN (s.ar a))) K0 s ρ) := hid
    { rg := by rw [hK0]; exact hrg0
      ck := HC.out.same HK0.out
      bx := rfl, now := rfl, floor := rfl
      vs := fun b n => by
        split
        · rename_i e
          have : vers s b n = [] := by
            unfold vers fndC
            rw [e.1]
            show ((getK n (s.ar a)).map s.vr).getD [] = []
            cases hn : getK n (s.ar a) with
            | none => rfl
            | some c => have := has_mp klN (s.ar a) _ (getK_mem hn); rw [this] at e; cases e.2
          rw [this]; rfl
        · rfl
      tot := ⟨m, HT.out.1, by omega⟩
      siz := Nat.le_refl _
      ext := ExtC.refl _ _
      kept := HK0.out.mono (fun _ _ f => f.elim) }
  clear hrg0 hg0 hs0 hr hK0
  go_frame
  go_loopg [5] K0 (fun q z5 wr => ∃ (U : Nat) (left : Lit → Bool) (cnt : Nat) (si : Cs) (ρi : Nat → Nat), z5 = .int .i64 (U : Nat) ∧ cnt ≤ q ∧ U ≤ m ∧ Hid (ApI K N w w0 p s ρ mb a r (s.ar a).length f m wr U left cnt si ρi))
  case atStart => exact ⟨0, _, _, s, ρ, rfl, Nat.le_refl _, Nat.zero_le _, HI0⟩
  case round =>
    obtain ⟨U, left, cnt, si, ρi, rfl, hcnt, hUm, HI⟩ := hrel
    go_wp2_with (at_next; refine wpList_next_ranges _ rfl (.tmp 9) rfl 9 nameKey ptC (fun x : Value => x) (fun x : Value => x) (fun key kl _ => ⟨key, rfl⟩) (fun v y _ => ⟨v, rfl⟩) a r (s.ar a).length (mpD kN (si.ar a)) left cnt rfl HI.out.rg ?_ ?_)
    · intro hc0 hl0
      have HE : Hid (ApA K N w p s ρ mb a f (.returned (.int .i64 (U : Nat))) wr) := hid (by
        have hi := HI.out
        refine ⟨U, si, ρi, rfl, hi.ck, hi.bx, hi.now, hi.floor, fun b n => ?_, fun m' hm' => ?_, hi.ext.low HK0.out.size, hi.kept⟩
        · rw [hi.vs b n]
          by_cases e : getK b s.bx = some a
          · rw [if_pos ⟨e, hl0 _⟩, if_pos e]
          · rw [if_neg (fun e2 => e e2.1), if_neg e]
        · obtain ⟨mi, h1, h2⟩ := hi.tot
          exact ⟨mi, h1, by rw [h2]; exact HT.out.1.det hm'⟩)
      clear hc0 hl0
      go_wp2_with fail
      go_ret
      exact HE.out
    · intro x c kl y1 y2 w2 cnt2 hkey hlx hv hat hrg2 hlt hg2 hs2 hen
      obtain ⟨n, rfl, rfl⟩ := keyN_inv hkey
      obtain ⟨c0, hgn, hy⟩ := mpD_has klN hat
      obtain rfl : c = .pointer (some ⟨c0, 0, none⟩) := rdP.inv _ c0 y2 (by rw [hv, ← hy])
      have hi := HI.out
      have ha3i : ρi a = 3 := by rcases hi.ext a with e | e; rw [e]; exact HT.out.2.2; have := HT.out.2.2; omega
      have hrz : ρi r = 0 := hi.ext.zero HRR.out.2.1 HRR.out.2.2
      have hk2 : Kept (· = r) wr w2 := (Kept.refl _ wr).grown hg2 (fun k e => .inl (by simpa using e.symm))
      have hck2 : Ck K N w2 p si ρi mb := hi.ck.kept hk2 (fun k e => by rw [e]; exact hrz)
      have hc4 : ρi c0 = 4 := hi.ck.ac a ha3i _ (getK_mem hgn)
      have hf0 : fndC si b0 n = some c0 := by unfold fndC; rw [hi.bx, HT.out.2.1]; exact hgn
      have HPR := cprune_any (hck2.cm c0 hc4) (hck2.okv c0 hc4).ris (Nat.le_trans (hck2.lens.2.2 c0 hc4) hck2.big) (by rw [hc4]; omega) f
      have hvv : vers si b0 n = si.vr c0 := by unfold vers; rw [hf0]; rfl
      rw [← hvv] at HPR
      obtain ⟨g, hg⟩ : ∃ g, g = goV (vers si b0 n) f := ⟨_, rfl⟩
      rw [← hg] at HPR
      have hnx : ∀ s2 : Cs, (∀ b' n', vers s2 b' n' = if b' = b0 ∧ n' = n then pruV (vers si b0 n) f else vers si b' n') → _ := fun s2 hv => hi.next HT.out.2.1 hlx hv
      have HNX := hid hnx
      have hgU : U + g ≤ m := by
        obtain ⟨mi, _, h2⟩ := (hi.next HT.out.2.1 hlx (fun b' n' => vers_set hi.ck hf0 (pruV (vers si b0 n) f) b' n')).2
        rw [← hg] at h2
        omega
      obtain ⟨U2, hU2⟩ : ∃ u, u = U + g := ⟨_, rfl⟩
      have q1 : (U : Int) + (g : Int) = (U2 : Int) := by omega
      have q1w : IntKind.i64.wrap (U2 : Int) = (U2 : Int) := by rw [IntKind.wrap_i64]; omega
      have HU2 : Hid (U2 = U + g ∧ U2 ≤ m ∧ g = goV (vers si b0 n) f) := hid ⟨hU2, by omega, hg⟩
      have HQ : Hid (ρi a = 3 ∧ ρi r = 0 ∧ Kept (· = r) wr w2 ∧ Ck K N w2 p si ρi mb ∧ ρi c0 = 4 ∧ fndC si b0 n = some c0 ∧ vers si b0 n = si.vr c0 ∧ cnt2 < cnt ∧ w2.ranges Try.prog 9 ptC a r (s.ar a).length (mpD kN (si.ar a)) (fun z => left z && !z.sameKey (kN n)) cnt2) := hid ⟨ha3i, hrz, hk2, hck2, hc4, hf0, hvv, hlt, hrg2⟩
      clear hkey hlx hv hat hrg2 hlt hg2 hs2 hy hgn hi ha3i hrz hk2 hck2 hc4 hf0 hvv hg hnx hgU hU2
      go_wp2_with fail
      refine HPR.mono ?_
      rintro e w3 ⟨rfl, hB⟩
      clear HPR
      obtain ⟨v, hb3, hrow3, hown3, hk3⟩ := id hB
      obtain ⟨ao, cap, hv3, _⟩ := hrow3.shape
      obtain ⟨Ln, hLn⟩ : ∃ x, x = (pruV (vers si b0 n) f).length := ⟨_, rfl⟩
      rw [← hLn] at hv3
      subst hv3
      have d3 : w3.cell? ⟨c0, 0, none⟩ = some (.slice ao Ln cap) := hb3.cell 0
      have hq := HQ.out
      have hvo : VerOk si.now (pruV (vers si b0 n) f) := by rw [hq.2.2.2.2.2.2.1]; exact (hq.2.2.2.1.okv c0 hq.2.2.2.2.1).prune f
      obtain ⟨ρ2, hck3, hext3, hkp3⟩ := hq.2.2.2.1.setChain hq.2.2.2.2.1 hB hvo (by rw [hq.2.2.2.2.2.2.1]; exact Nat.le_trans (pruV_len _ _) (hq.2.2.2.1.lens.2.2 c0 hq.2.2.2.2.1))
      have hvs2 := fun b' n' => vers_set hq.2.2.2.1 hq.2.2.2.2.2.1 (pruV (vers si b0 n) f) b' n'
      obtain ⟨s2, hs2⟩ : ∃ x : Cs, x = { si with vr := fun x => if x = c0 then pruV (vers si b0 n) f else si.vr x } := ⟨_, rfl⟩
      rw [← hs2] at hck3
      have hrg3 : w3.ranges Try.prog 9 ptC a r (s.ar a).length (mpD kN (s2.ar a)) (fun z => left z && !z.sameKey (kN n)) cnt2 := by
        rw [hs2]
        refine rangesK hq.2.2.2.2.2.2.2.2 hk3 (fun e => ?_) (fun e => ?_)
        · rcases e with e | e
          · have h1 := hq.1; rw [e, hq.2.2.2.2.1] at h1; cases h1
          · rw [hq.1] at e; omega
        · rcases e with e | e
          · have h1 := hq.2.1; rw [e, hq.2.2.2.2.1] at h1; cases h1
          · rw [hq.2.1] at e; omega
      have HI3 : Hid (ApI K N w w0 p s ρ mb a r (s.ar a).length f m w3 U2 (fun z => left z && !z.sameKey (kN n)) cnt2 s2 ρ2 ∧ (Ln = 0 → vers s2 b0 n = []) ∧ ρ2 a = 3) := hid (by
        have hi := HI.out
        have hvs3 : ∀ b' n', vers s2 b' n' = if b' = b0 ∧ n' = n then pruV (vers si b0 n) f else vers si b' n' := fun b' n' => by rw [hs2]; exact hvs2 b' n'
        obtain ⟨h1, mi, h2, h3⟩ := HNX.out s2 hvs3
        have hsz : wr.heap.size ≤ w2.heap.size := hq.2.2.1.size
        refine ⟨{ rg := hrg3, ck := hck3, bx := by rw [hs2]; exact hi.bx, now := by rw [hs2]; exact hi.now, floor := by rw [hs2]; exact hi.floor, vs := h1, tot := ⟨mi, h2, by rw [HU2.out.1, HU2.out.2.2]; exact h3⟩, siz := ?_, ext := hi.ext.trans hext3 ?_, kept := ?_ }, fun e => ?_, ?_⟩
        · exact Nat.le_trans hi.siz (Nat.le_trans hsz hkp3.size)
        · exact Nat.le_trans hi.siz hsz
        · have hk2 : Kept (fun k => 3 ≤ ρ k) w w2 := Kept.trans hi.kept hq.2.2.1 (fun _ _ e => e) (fun k hlt e => by have := HRR.out.1; omega)
          refine (hi.ext.low HK0.out.size).keptP hk2 (hk3.mono (fun k _ e => ?_))
          rcases e with e | e
          · rw [e, hq.2.2.2.2.1]; decide
          · rw [e]; omega
        · rw [hvs3, if_pos ⟨rfl, rfl⟩]
          exact List.eq_nil_of_length_eq_zero (by rw [← hLn]; exact e)
        · rcases hext3 a with e | e
          · rw [e]; exact hq.1
          · rw [hq.1] at e; omega)
      clear hB hb3 hrow3 hown3 hk3 hLn hq hvo hck3 hext3 hkp3 hvs2 hs2 hrg3
      by_cases hz : Ln = 0
      · subst hz
        obtain ⟨w4, cnt4, hdel, hrg4, hle4, hturn⟩ := HI3.out.1.rg.drop nameKey Try.underlying83 (keyN n) 0
        rw [Maps.strike_twice, mpD_del klN] at hrg4
        have HI4 : Hid (ApI K N w w0 p s ρ mb a r (s.ar a).length f m w4 U2 (fun z => left z && !z.sameKey (kN n)) cnt4 { s2 with ar := fun x => if x = a then delK n (s2.ar a) else s2.ar x } ρ2 ∧ cnt4 ≤ cnt2) := hid (by
          have h3 := HI3.out.1
          have hk4 : Kept (· = a) w3 w4 := turnedK hturn
          have hg9 : getK b0 s2.bx = some a := by rw [h3.bx]; exact HT.out.2.1
          refine ⟨{ rg := by simp only [if_true]; exact hrg4, ck := h3.ck.setArc HI3.out.2.2 (fun x hx => (delK_mem.1 hx).1) (delK_len _ _) (MpK.tight hrg4.owns) hk4, bx := h3.bx, now := h3.now, floor := h3.floor, vs := fun b n' => ?_, tot := ?_, siz := Nat.le_trans h3.siz hk4.size, ext := h3.ext, kept := ?_ }, hle4⟩
          · rw [vers_del h3.ck hg9 (HI3.out.2.1 rfl)]; exact h3.vs b n'
          · obtain ⟨mi, h1, h2⟩ := h3.tot
            exact ⟨mi, h1.same (fun b n' => vers_del h3.ck hg9 (HI3.out.2.1 rfl) b n'), h2⟩
          · exact Kept.trans h3.kept hk4 (fun _ _ e => e) (fun k _ e => by rw [e, HT.out.2.2]; decide))
        have hdel2 : (Builtin.delete_ #[83, 9] 0 #[.map (some a), .string n.s]).run Try.prog w3 = .ok (.tuple #[]) w4 := hdel
        clear hdel hrg4 hle4 hturn
        go_wp2_with fail
        go_roundg (gk - 1)
        case measure => have := HQ.out.2.2.2.2.2.2.2.1; omega
        case rel => exact ⟨U2, _, cnt4, _, ρ2, by go_num, by have := HQ.out.2.2.2.2.2.2.2.1; have := HI4.out.2; omega, HU2.out.2.1, hid HI4.out.1⟩
      · have bz : ((Ln : Int) == 0) = false := by simp; omega
        go_wp2_with fail
        go_roundg (gk - 1)
        case measure => have := HQ.out.2.2.2.2.2.2.2.1; omega
        case rel => exact ⟨U2, _, cnt2, s2, ρ2, by go_num, by have := HQ.out.2.2.2.2.2.2.2.1; omega, HU2.out.2.1, hid HI3.out.1⟩

end Go.Proofs.Ythignkloecfcbaa
