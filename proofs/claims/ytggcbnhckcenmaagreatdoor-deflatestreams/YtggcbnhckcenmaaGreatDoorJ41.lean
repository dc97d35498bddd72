/-
  Of the proof: parts DfStrLaw.
-/
import Derived.Test.YtggcbnhckcenmaaGreatDoorJ39
import Derived.Test.YtggcbnhckcenmaaGreatDoorJ40
import Derived.Test.YtggcbnhckcenmaaGreatDoorJ38

/-
  The law DeflateStreams.
-/
namespace Go.Proofs.YtggcbnhckcenmaaGreatDoor
open Go.RowKit

/-- The loop's state: the stream, what was fed, what was told (nothing yet). -/
structure FedS (N : Nat) (w : World) (vs vf vt : Value) (fs : List Nat) : Prop where
  st : StD w N vs false fs
  fed : Row w vf fs
  told : Row w vt []
  ns : ∀ k, vs.ownBlock = some k → N < k
  nf : ∀ k, vf.ownBlock = some k → N < k ∧ vs.ownBlock ≠ some k
  nt : ∀ k, vt.ownBlock = some k → N < k ∧ vs.ownBlock ≠ some k ∧ vf.ownBlock ≠ some k
  len : fs.length ≤ 16384

theorem FedS.kept {N : Nat} {w w' : World} {vs vf vt : Value} {fs : List Nat} (h : FedS N w vs vf vt fs) {F : Nat → Prop} (hk : Kept F w w') (hF : ∀ k, k < w.heap.size → ¬ F k) : FedS N w' vs vf vt fs :=
  ⟨h.st.kept hk (hF _ h.st.blk.lt) (fun k e => hF k (h.st.row.lt e)), h.fed.kept hk (fun k e => hF k (h.fed.lt e)), h.told.kept hk (fun k e => hF k (h.told.lt e)), h.ns, h.nf, h.nt, h.len⟩

theorem grown_kept {w w' : World} {o : Option Nat} (h : w.grownBy w' o) : Kept (fun k => o = some k) w w' := (Kept.refl _ w).grown h (fun _ e => .inl e)

/-- Behind a part that was fed: what was fed lies apart still. -/
structure Fed3 (N : Nat) (w2 w3 w4 : World) (g : Nat) (vs vs3 vf vt : Value) (fs gs : List Nat) : Prop where
  f : FedS N w2 vs vf vt fs
  k3 : Kept (fun k => k = N ∨ vs.ownBlock = some k) w2 w3
  st : StD w3 N vs3 false gs
  own : vs3.ownBlock = vs.ownBlock ∨ vs3.ownBlock = some w2.heap.size
  k4 : Kept (· = g) w3 w4
  g : N < g ∧ g < w2.heap.size ∧ vs.ownBlock ≠ some g ∧ vf.ownBlock ≠ some g ∧ vt.ownBlock ≠ some g
  len : gs.length ≤ 16384

theorem Fed3.fed {N : Nat} {w2 w3 w4 : World} {g : Nat} {vs vs3 vf vt : Value} {fs gs : List Nat} (h : Fed3 N w2 w3 w4 g vs vs3 vf vt fs gs) : Row w4 vf fs :=
  (h.f.fed.kept h.k3 (fun k e f => f.elim (fun f => by have := h.f.nf k e; omega) (fun f => (h.f.nf k e).2 f))).kept h.k4 (fun k e f => h.g.2.2.2.1 (f ▸ e))

theorem Fed3.told {N : Nat} {w2 w3 w4 : World} {g : Nat} {vs vs3 vf vt : Value} {fs gs : List Nat} (h : Fed3 N w2 w3 w4 g vs vs3 vf vt fs gs) : Row w4 vt [] :=
  (h.f.told.kept h.k3 (fun k e f => f.elim (fun f => by have := h.f.nt k e; omega) (fun f => (h.f.nt k e).2.1 f))).kept h.k4 (fun k e f => h.g.2.2.2.2 (f ▸ e))

theorem Fed3.told5 {N : Nat} {w2 w3 w4 w5 : World} {g : Nat} {vs vs3 vf vt : Value} {fs gs : List Nat} (h : Fed3 N w2 w3 w4 g vs vs3 vf vt fs gs) (hg5 : w4.grownBy w5 vf.ownBlock) : Row w5 vt [] :=
  h.told.kept (grown_kept hg5) (fun k e f => (h.f.nt k e).2.2 f)

theorem Fed3.size {N : Nat} {w2 w3 w4 : World} {g : Nat} {vs vs3 vf vt : Value} {fs gs : List Nat} (h : Fed3 N w2 w3 w4 g vs vs3 vf vt fs gs) : w2.heap.size ≤ w4.heap.size := Nat.le_trans h.k3.size h.k4.size

theorem Fed3.own3 {N : Nat} {w2 w3 w4 : World} {g : Nat} {vs vs3 vf vt : Value} {fs gs : List Nat} (h : Fed3 N w2 w3 w4 g vs vs3 vf vt fs gs) {k : Nat} (e : vs3.ownBlock = some k) : N < k ∧ vf.ownBlock ≠ some k ∧ vt.ownBlock ≠ some k ∧ k < w4.heap.size ∧ k ≠ g := by
  have hN := h.f.st.blk.lt
  have hlt : k < w4.heap.size := Nat.lt_of_lt_of_le (h.st.row.lt e) h.k4.size
  rcases h.own with h1 | h1
  · rw [h1] at e
    exact ⟨h.f.ns k e, fun e2 => (h.f.nf k e2).2 e, fun e2 => (h.f.nt k e2).2.1 e, hlt, fun e2 => h.g.2.2.1 (e2 ▸ e)⟩
  · rw [h1] at e
    injection e with e
    exact ⟨by omega, fun e2 => by have := h.f.fed.lt e2; omega, fun e2 => by have := h.f.told.lt e2; omega, hlt, by have := h.g; omega⟩

theorem Fed3.step {N : Nat} {w2 w3 w4 w5 w6 : World} {g : Nat} {vs vs3 vf vt v5 v6 : Value} {fs gs : List Nat} (h : Fed3 N w2 w3 w4 g vs vs3 vf vt fs gs) (hr5 : Row w5 v5 gs) (hg5 : w4.grownBy w5 vf.ownBlock) (ho5 : v5.ownBlock = vf.ownBlock ∨ v5.ownBlock = some w4.heap.size) (hr6 : Row w6 v6 []) (hg6 : w5.grownBy w6 vt.ownBlock) (ho6 : v6.ownBlock = vt.ownBlock ∨ v6.ownBlock = some w5.heap.size) : FedS N w6 vs3 v5 v6 gs := by
  have hN := h.f.st.blk.lt
  have hs4 := h.size
  have hs5 : w4.heap.size ≤ w5.heap.size := hg5.size
  have k5 := grown_kept hg5
  have k6 := grown_kept hg6
  have h5 : ∀ k, v5.ownBlock = some k → N < k ∧ vs3.ownBlock ≠ some k ∧ vt.ownBlock ≠ some k := fun k e => by
    rcases ho5 with h1 | h1
    · rw [h1] at e
      exact ⟨(h.f.nf k e).1, fun e2 => (h.own3 e2).2.1 e, fun e2 => (h.f.nt k e2).2.2 e⟩
    · rw [h1] at e
      injection e with e
      exact ⟨by omega, fun e2 => by have := h.own3 e2; omega, fun e2 => by have := h.told.lt e2; omega⟩
  refine ⟨((h.st.kept h.k4 (fun e => by have := h.g; omega) (fun k e f => (h.own3 e).2.2.2.2 f)).kept k5 (fun e => by have := (h.f.nf N e).1; omega) (fun k e f => (h.own3 e).2.1 f)).kept k6 (fun e => by have := (h.f.nt N e).1; omega) (fun k e f => (h.own3 e).2.2.1 f), hr5.kept k6 (fun k e f => (h5 k e).2.2 f), hr6, fun k e => (h.own3 e).1, fun k e => ⟨(h5 k e).1, (h5 k e).2.1⟩, fun k e => ?_, h.len⟩
  rcases ho6 with h1 | h1
  · rw [h1] at e
    exact ⟨(h.f.nt k e).1, fun e2 => (h.own3 e2).2.2.1 e, fun e2 => (h5 k e2).2.2 e⟩
  · rw [h1] at e
    injection e with e
    exact ⟨by omega, fun e2 => by have := h.own3 e2; omega, fun e2 => by have := hr5.lt e2; omega⟩

theorem Fed3.same {N : Nat} {W w2 w3 w4 : World} {g : Nat} {vs vs3 vf vt : Value} {fs gs : List Nat} (h : Fed3 N w2 w3 w4 g vs vs3 vf vt fs gs) (hN : N = W.heap.size) (hk : Same W w2) : Same W w3 ∧ Same W w4 := by
  have h3 : Same W w3 := Same.then hk h.k3 (fun k hk f => f.elim (fun f => by omega) (fun f => by have := h.f.ns k f; omega))
  exact ⟨h3, Same.then h3 h.k4 (fun k hk f => by have := h.g; omega)⟩

theorem Fed3.same6 {N : Nat} {W w2 w3 w4 w5 w6 : World} {g : Nat} {vs vs3 vf vt : Value} {fs gs : List Nat} (h : Fed3 N w2 w3 w4 g vs vs3 vf vt fs gs) (hN : N = W.heap.size) (hk : Same W w2) (hg5 : w4.grownBy w5 vf.ownBlock) (hg6 : w5.grownBy w6 vt.ownBlock) : Same W w6 :=
  Same.then (Same.then (h.same hN hk).2 (grown_kept hg5) (fun k hk f => by have := (h.f.nf k f).1; omega)) (grown_kept hg6) (fun k hk f => by have := (h.f.nt k f).1; omega)

set_option maxRecDepth 100000 in
set_option maxHeartbeats 1000000 in
theorem dstreams_good (W : World) (a : Option Addr) (len cap : Nat) (P : Nat → Pt) (hp : Pts W a len P) (hlen : len ≤ 300) (hT : Tab W) :
    Calls Tryz.prog 6 #[.slice a len cap] W fun e w' => e = .returned (.bool true) ∧ Same W w' := by
  have b1 : decide ((300 : Int) < (len : Int)) = false := by simp; omega
  have HP : Hid (Pts W a len P) := hp
  have HT : Hid (Tab W) := hT
  have HN := dnew_any W
  clear hp hT
  go_enter Tryz.func6, Tryz.ntmps6
  go_wp2_with fail
  refine HN.mono ?_
  rintro x w1 ⟨rfl, hst, hk1⟩
  obtain ⟨N, hNN⟩ : ∃ N, N = W.heap.size := ⟨_, rfl⟩
  rw [← hNN] at hst ⊢
  have HNW : Hid (N = W.heap.size) := hNN
  have HF1 : Hid (FedS N w1 (.slice none 0 0) (.slice none 0 0) (.slice none 0 0) []) := hid ⟨hst, nil_row7 _, nil_row7 _, (fun k e => nomatch e), (fun k e => nomatch e), (fun k e => nomatch e), Nat.zero_le _⟩
  have HK1 : Hid (Same W w1) := hk1
  clear hst hk1 HN hNN
  go_wp2_with fail
  go_loopg [4, 5, 6, 7] len (fun q z4 z5 z6 z7 wr => ∃ (i m : Nat) (fs : List Nat) (vs : Value), z6 = .int .i64 (m : Nat) ∧ z7 = .int .i64 (i : Nat) ∧ i ≤ len ∧ len - i ≤ q ∧ 5 ≤ m ∧ m ≤ 5 + 5 * i ∧ Hid (FedS N wr vs z4 z5 fs) ∧ Hid (Same W wr))
  case atStart => exact ⟨0, 5, [], _, rfl, rfl, by omega, by omega, by omega, by omega, HF1, HK1⟩
  case round =>
    clear HF1 HK1
    obtain ⟨i, m, fs, vs, rfl, rfl, hi, hq, hm5, hm, HF, HK⟩ := hrel
    obtain ⟨vf, hvf⟩ : ∃ v, v = u4 := ⟨_, rfl⟩
    obtain ⟨vt, hvt⟩ : ∃ v, v = u5 := ⟨_, rfl⟩
    rw [← hvf, ← hvt] at HF ⊢
    clear hvf hvt
    obtain ⟨nf, hnf⟩ : ∃ n, n = fs.length := ⟨_, rfl⟩
    obtain ⟨af, cf, hvf, _⟩ := HF.out.fed.shape
    rw [← hnf] at hvf
    subst hvf
    obtain ⟨at', ct, hvt, _⟩ := HF.out.told.shape
    simp only [List.length_nil] at hvt
    subst hvt
    have hnf16 : nf ≤ 16384 := by have := HF.out.len; omega
    have HNF : Hid (nf = fs.length) := hnf
    clear hnf
    by_cases hlt : i < len
    · obtain ⟨hsrc, hpl, hpb, hpn, b, o, rfl, cO⟩ := HP.out.kept HK.out i hlt
      obtain ⟨⟨pa, pn, pc, bs⟩, hPi⟩ : ∃ p, p = P i := ⟨_, rfl⟩
      rw [← hPi] at hsrc hpl hpb hpn cO
      simp only at hsrc hpl hpb hpn cO
      have HSP : Hid (∀ w', Same W w' → Src w' (fun k => k < W.heap.size) (.slice pa pn pc) bs ∧ w'.cell? ⟨b, o + i, none⟩ = some (.slice pa pn pc)) := hid (fun w' hk' => by
        obtain ⟨q1, _, _, _, b', o', e, q2⟩ := HP.out.kept hk' i hlt
        rw [← hPi] at q1 q2
        simp only [Option.some.injEq, Addr.mk.injEq, and_true] at e
        obtain ⟨rfl, rfl⟩ := e
        exact ⟨q1, q2⟩)
      have HPL : Hid (bs.length = pn) := hpl
      have HPB : Hid (∀ x ∈ bs, x < 256) := hpb
      have HPN : Hid (∀ n c, Value.slice pa pn pc = .slice none n c → n = 0 ∧ c = 0) := hpn
      by_cases hbig : 65536 < pn
      · have b2 : decide ((65536 : Int) < (pn : Int)) = true := by simp; omega
        clear hsrc hpl hpb hpn hPi
        go_wp2_with fail
        go_ret
        exact ⟨rfl, HK.out⟩
      · have b2 : decide ((65536 : Int) < (pn : Int)) = false := by simp; omega
        have hpn6 : pn ≤ 65536 := by omega
        have HLN := lend_any wr (.slice pa pn pc) _ bs hsrc (by omega)
        rw [hpl] at HLN
        clear hsrc hpl hpb hpn hPi hbig
        go_wp2_with fail
        refine HLN.mono ?_
        rintro x w2 ⟨g, rfl, hr2, hk2, hg2⟩
        have HR2 : Hid (Row w2 (.slice (some ⟨g, 0, none⟩) (pn + 2) (pn + 2)) (bs ++ [165, 90])) := hr2
        have HG2 : Hid (wr.heap.size ≤ g ∧ g < w2.heap.size) := hid ⟨hg2, hr2.lt rfl⟩
        have HK2 : Hid (Same W w2) := hid (Same.trans HK.out hk2)
        have HF2 : Hid (FedS N w2 vs (.slice af nf cf) (.slice at' 0 ct) fs) := hid (HF.out.kept hk2 (fun _ _ f => f))
        have HNG : Hid (N < g ∧ vs.ownBlock ≠ some g ∧ (Value.slice af nf cf).ownBlock ≠ some g ∧ (Value.slice at' 0 ct).ownBlock ≠ some g) := hid ⟨by have := HF.out.st.blk.lt; omega, fun e => by have := HF.out.st.row.lt e; omega, fun e => by have := HF.out.fed.lt e; omega, fun e => by have := HF.out.told.lt e; omega⟩
        obtain ⟨pn2, hpn2⟩ : ∃ x, x = pn + 2 := ⟨_, rfl⟩
        have HPN2 : Hid (pn2 = pn + 2) := hpn2
        rw [← hpn2]
        clear hk2 hg2 HLN hpn2 cO
        by_cases hbig : 16384 < nf + pn
        · have HFL := dfeed_long w2 N vs fs HF2.out.st HF2.out.len (some ⟨g, 0, none⟩) pn pn2 (by rw [← HNF.out]; exact hbig)
          clear hr2
          have cO := (HSP.out w2 HK2.out).2
          go_wp2_with fail
          refine HFL.mono ?_
          rintro x w3 ⟨rfl, hw3⟩
          subst hw3
          have HBC := keepBack_any w3 g (.slice pa pn pc) _ bs (by rw [HPL.out]; exact HR2.out) (HSP.out w3 HK2.out).1 (by rw [HPL.out]; omega) HPB.out
          rw [HPL.out, ← HPN2.out] at HBC
          clear HFL
          go_wp2_with fail
          refine HBC.mono ?_
          rintro x w4 ⟨rfl, hk4⟩
          have HK4 : Hid (Same W w4) := hid (Same.then HK2.out hk4 (fun k hk e => by have := HNG.out; have := HNW.out; omega))
          have HF4 : Hid (FedS N w4 vs (.slice af nf cf) (.slice at' 0 ct) fs) := hid ⟨HF2.out.st.kept hk4 (fun e => by have := HNG.out; omega) (fun k e f => HNG.out.2.1 (f ▸ e)), HF2.out.fed.kept hk4 (fun k e f => HNG.out.2.2.1 (f ▸ e)), HF2.out.told.kept hk4 (fun k e f => HNG.out.2.2.2 (f ▸ e)), HF2.out.ns, HF2.out.nf, HF2.out.nt, HF2.out.len⟩
          have cO4 := (HSP.out w4 HK4.out).2
          obtain ⟨s, hs⟩ : ∃ s, s = nf + pn := ⟨_, rfl⟩
          have hsI : (nf : Int) + (pn : Int) = (s : Int) := by omega
          have hsb : decide ((16384 : Int) < (s : Int)) = true := by simp; omega
          clear hk4 HBC cO hbig hs
          go_wp2_with fail
          go_roundg (gk - 1)
          case measure => omega
          case rel => exact ⟨i + 1, m, fs, vs, rfl, by go_num, by omega, by omega, hm5, by omega, HF4, HK4⟩
        · have HFG := dfeed_good w2 N vs fs HF2.out.st _ (.slice (some ⟨g, 0, none⟩) pn pn2) bs (Src.ofRow (by rw [HPN2.out]; exact hr2.lent7 HPL.out)) HPB.out (fun n c e => by cases e) (by rw [HPL.out, ← HNF.out]; omega)
          clear hr2
          have cO := (HSP.out w2 HK2.out).2
          go_wp2_with fail
          refine HFG.mono ?_
          rintro x w3 ⟨rfl, hk3, vs3, hst3, hown3⟩
          have HH3 : Hid (Fed3 N w2 w3 w3 g vs vs3 (.slice af nf cf) (.slice at' 0 ct) fs (fs ++ bs)) := hid ⟨HF2.out, hk3, hst3, hown3, Kept.refl _ _, ⟨HNG.out.1, HG2.out.2, HNG.out.2.1, HNG.out.2.2.1, HNG.out.2.2.2⟩, by rw [List.length_append, HPL.out, ← HNF.out]; omega⟩
          have HK3 : Hid (Same W w3) := hid (HH3.out.same HNW.out HK2.out).1
          have HBC := keepBack_any w3 g (.slice pa pn pc) _ bs (by rw [HPL.out]; exact HR2.out.kept hk3 (fun k e f => by
            have e : g = k := Option.some.inj e
            subst e
            rcases f with f | f
            · have := HNG.out.1; omega
            · exact HNG.out.2.1 f)) (HSP.out w3 HK3.out).1 (by rw [HPL.out]; omega) HPB.out
          rw [HPL.out, ← HPN2.out] at HBC
          have cO3 := (HSP.out w3 HK3.out).2
          clear HFG hk3 hst3 hown3 cO
          go_wp2_with fail
          refine HBC.mono ?_
          rintro x w4 ⟨rfl, hk4⟩
          have HH4 : Hid (Fed3 N w2 w3 w4 g vs vs3 (.slice af nf cf) (.slice at' 0 ct) fs (fs ++ bs)) := hid ⟨HH3.out.f, HH3.out.k3, HH3.out.st, HH3.out.own, hk4, HH3.out.g, HH3.out.len⟩
          have HK4 : Hid (Same W w4) := hid (HH4.out.same HNW.out HK2.out).2
          have HLA : Hid (fs.length + bs.length ≤ 1000000000000) := hid (by have := HH4.out.len; rw [List.length_append] at this; omega)
          have cO4 := (HSP.out w4 HK4.out).2
          obtain ⟨s, hs⟩ : ∃ s, s = nf + pn := ⟨_, rfl⟩
          have hsI : (nf : Int) + (pn : Int) = (s : Int) := by omega
          have hsb : decide ((16384 : Int) < (s : Int)) = false := by simp; omega
          have hm5w : IntKind.i64.wrap ((m : Int) + 5) = (m : Int) + 5 := by rw [IntKind.wrap_i64]; omega
          clear hk4 HBC cO3 hbig hs HH3
          go_wp2_with (first
            | (at_builtin; refine wpList_append_any _ rfl (.tmp 69) (.tmp 73) rfl (.slice af nf cf) fs rfl HH4.out.fed _ (.slice pa pn pc) bs rfl HPN.out (HSP.out w4 HK4.out).1 HLA.out ?_; intro v5 w5 hr5 hg5 ho5; have HR5 : Hid (Row w5 v5 (fs ++ bs) ∧ w4.grownBy w5 (Value.slice af nf cf).ownBlock ∧ (v5.ownBlock = (Value.slice af nf cf).ownBlock ∨ v5.ownBlock = some w4.heap.size)) := hid ⟨hr5, hg5, ho5⟩; clear hr5 hg5 ho5)
            | (at_builtin; refine wpList_append_any _ rfl (.tmp 75) (.tmp 76) rfl (.slice at' 0 ct) [] rfl (HH4.out.told5 HR5.out.2.1) (fun _ => True) (.slice none 0 0) [] rfl (fun n c e => by cases e; exact ⟨rfl, rfl⟩) ⟨none, 0, rfl, fun h => absurd rfl h⟩ (by decide) ?_; intro v6 w6 hr6 hg6 ho6; have HR6 : Hid (Row w6 v6 ([] ++ []) ∧ w5.grownBy w6 (Value.slice at' 0 ct).ownBlock ∧ (v6.ownBlock = (Value.slice at' 0 ct).ownBlock ∨ v6.ownBlock = some w5.heap.size)) := hid ⟨hr6, hg6, ho6⟩; clear hr6 hg6 ho6))
          have HF6 : Hid (FedS N w6 vs3 v5 v6 (fs ++ bs)) := hid (HH4.out.step HR5.out.1 HR5.out.2.1 HR5.out.2.2 HR6.out.1 HR6.out.2.1 HR6.out.2.2)
          have HK6 : Hid (Same W w6) := hid (HH4.out.same6 HNW.out HK2.out HR5.out.2.1 HR6.out.2.1)
          have HSL := spoil_none w6
          refine HSL.mono ?_
          rintro x w7 ⟨rfl, hk7⟩
          have HF7 : Hid (FedS N w7 vs3 v5 v6 (fs ++ bs)) := hid (HF6.out.kept hk7 (fun _ _ f => f))
          have HK7 : Hid (Same W w7) := hid (Same.trans HK6.out hk7)
          clear hk7 HSL
          go_wp2_with fail
          go_roundg (gk - 1)
          case measure => omega
          case rel => exact ⟨i + 1, m + 5, fs ++ bs, vs3, by go_num, by go_num, by omega, by omega, by omega, by omega, HF7, HK7⟩
    · have hge : len ≤ i := by omega
      have HCL := dclose_good wr N vs fs HF.out.st HF.out.len (HT.out.kept HK.out (fun f => f))
      go_wp2_with fail
      refine HCL.mono ?_
      rintro x w2 ⟨v2, y, rfl, hr2, hb2, hn2, hpd, hk2, hst2⟩
      have HPD : Hid (PDef fs y) := hpd
      have HYB : Hid (∀ b ∈ y, b < 256) := hb2
      have HK2 : Hid (Same W w2) := hid (Same.then HK.out hk2 (fun k hk e => by have := HNW.out; omega))
      have HST2 : Hid (StD w2 N (.slice none 0 0) true []) := hst2
      have HTD2 : Hid (Row w2 (.slice at' 0 ct) []) := hid (HF.out.told.kept hk2 (fun k e f => by have := (HF.out.nt k e).1; omega))
      have HFD2 : Hid (Row w2 (.slice af nf cf) fs) := hid (HF.out.fed.kept hk2 (fun k e f => by have := (HF.out.nf k e).1; omega))
      have hyl := hpd.short.1
      rw [← HNF.out] at hyl
      have HYL : Hid (([] : List Nat).length + y.length ≤ 1000000000000) := hid (by simp only [List.length_nil]; omega)
      obtain ⟨ny, hny⟩ : ∃ n, n = y.length := ⟨_, rfl⟩
      obtain ⟨a2, c2, hv2, _⟩ := hr2.shape
      rw [← hny] at hv2 hyl
      subst hv2
      have HR2 : Hid (Row w2 (.slice a2 ny c2) y ∧ ∀ n c, Value.slice a2 ny c2 = .slice none n c → n = 0 ∧ c = 0) := hid ⟨hr2, Row.nil5 hr2⟩
      have HNY : Hid (ny = y.length) := hny
      clear hr2 hb2 hn2 hpd hk2 hst2 HCL hny
      go_wp2_with (at_builtin; refine wpList_append_any _ rfl (.tmp 89) (.tmp 90) rfl (.slice at' 0 ct) [] rfl HTD2.out _ (.slice a2 ny c2) y rfl HR2.out.2 (Src.ofRow HR2.out.1) HYL.out ?_)
      intro v3 w3 hr3 hg3 ho3
      have hk3 := grown_kept hg3
      have HR3 : Hid (Row w3 v3 y) := hid (by simpa using hr3)
      have HST3 : Hid (StD w3 N (.slice none 0 0) true []) := hid (HST2.out.kept hk3 (fun e => by have := (HF.out.nt N e).1; omega) (fun k e => nomatch e))
      have HFD3 : Hid (Row w3 (.slice af nf cf) fs) := hid (HFD2.out.kept hk3 (fun k e f => (HF.out.nt k f).2.2 e))
      have HK3 : Hid (Same W w3) := hid (Same.then HK2.out hk3 (fun k hk f => by have := (HF.out.nt k f).1; have := HNW.out; omega))
      have HFS := dfeed_shut w3 N (.slice none 0 0) (.slice none 0 0) [] HST3.out
      obtain ⟨a3, c3, hv3, _⟩ := HR3.out.shape
      rw [← HNY.out] at hv3
      subst hv3
      clear hr3 hg3 ho3 hk3 HST2 HFD2 HTD2
      go_wp2_with fail
      refine HFS.mono ?_
      rintro x w4 ⟨rfl, hw4⟩
      subst hw4
      have HCS := dclose_shut w4 N (.slice none 0 0) [] HST3.out
      clear HFS
      go_wp2_with fail
      refine HCS.mono ?_
      rintro x w5 ⟨rfl, hw5⟩
      subst hw5
      have HAW := dawake_any w5 (HT.out.kept HK3.out (fun f => f))
      clear HCS
      go_wp2_with fail
      refine HAW.mono ?_
      rintro x w6 ⟨rfl, hk6⟩
      have HK6 : Hid (Same W w6) := hid (Same.trans HK3.out hk6)
      obtain ⟨t, he, ho, hc⟩ := HPD.out.reads HF.out.st.byte (most := 16384) HF.out.len (Nat.le_refl _)
      have HUN := unpacked_any w6 (.slice a3 ny c3) (.slice af nf cf) _ _ y fs (Src.ofRow (HR3.out.kept hk6 (fun _ _ f => f))) (Src.ofRow (HFD3.out.kept hk6 (fun _ _ f => f))) HYB.out (by rw [← HNY.out]; omega) (by have := HF.out.len; omega) t he ho hc
      clear hk6 HAW he ho hc
      go_wp2_with fail
      refine HUN.mono ?_
      rintro x w7 ⟨rfl, hk7⟩
      have HK7 : Hid (Same W w7) := hid (Same.trans HK6.out hk7)
      obtain ⟨s, hs⟩ : ∃ s, s = nf + m := ⟨_, rfl⟩
      have hsI : (nf : Int) + (m : Int) = (s : Int) := by omega
      have hle : ny ≤ s := by omega
      clear hk7 HUN hs
      go_wp2_with fail
      go_ret
      exact ⟨rfl, HK7.out⟩

set_option maxHeartbeats 400000 in
theorem deflateStreams_all (a : Option Addr) (len cap : Nat) (P : Nat → Pt) (W : World) (hp : Pts W a len P) (hT : Tab W) :
    Calls Tryz.prog 6 #[.slice a len cap] W fun e w' => e = .returned (.bool true) ∧ Below W.heap.size W w' := by
  suffices H : Calls Tryz.prog 6 #[.slice a len cap] W fun e w' => e = .returned (.bool true) ∧ Same W w' from H.mono (fun e w' h => ⟨h.1, h.2.bel⟩)
  by_cases hlong : 300 < len
  · have b1 : decide ((300 : Int) < (len : Int)) = true := by simp; omega
    clear hlong hp hT
    go_enter Tryz.func6, Tryz.ntmps6
    go_wp2_with fail
    go_ret
    exact ⟨rfl, Kept.refl _ _⟩
  · exact dstreams_good W a len cap P hp (by omega) hT

end Go.Proofs.YtggcbnhckcenmaaGreatDoor
