/-
  Of the proof: parts LnTh, LnRd, LnUk, LnLaw, HAwake, LnAw, LnReadW, LnReadsLaw, LnStepsLaw, LnWritesLaw, LnRoundLaw.
-/
import Derived.Deep.RegionHeld3
import Derived.Lib.SliceRun
import Derived.Test.YtofhlnpbflkdlaaDoorJ10
import Derived.Test.YtofhlnpbflkdlaaDoorJ9
import Derived.Test.YtofhlnpbflkdlaaDoorJ7
import Derived.Test.YtofhlnpbflkdlaaDoorJ5
import Derived.Test.YtofhlnpbflkdlaaDoorJ8
import Derived.Test.YtofhlnpbflkdlaaDoorJ4
import Derived.Test.YtofhlnpbflkdlaaDoorJ6
import Derived.Test.YtofhlnpbflkdlaaDoorJ11
import Derived.Test.YtofhlnpbflkdlaaDoorJ1
import Derived.Test.YtofhlnpbflkdlaaDoorJ2
import Derived.Test.YtofhlnpbflkdlaaDoorJ3

/-
  The program's readHead.
-/
namespace Go.Proofs.YtofhlnpbflkdlaaDoor
open Go.RowKit

theorem bodyF_ok {ns ls : List Nat} {N : Nat} : ∀ (f : Nat) (l m : List Nat) (c c' : Nat), bodyF ns ls N f l c = .ok (m, c') → (∀ x ∈ l, x ≤ 15) → l.length ≤ N → N - l.length ≤ f → m.length = N ∧ c ≤ c' := by
  intro f
  induction f with
  | zero =>
    intro l m c c' h h15 hl hf
    rw [bodyF_end (by omega)] at h
    simp only [Except.ok.injEq, Prod.mk.injEq] at h
    obtain ⟨rfl, rfl⟩ := h
    omega
  | succ f ih =>
    intro l m c c' h h15 hl hf
    by_cases hlt : l.length < N
    · cases hs : stepF ns ls c with
      | error e => rw [bodyF_err hlt hs] at h; cases h
      | ok r =>
        obtain ⟨⟨sy, x⟩, c2⟩ := r
        rw [bodyF_step hlt hs] at h
        cases hw : withM l ((sy : Int), (x : Int)) N with
        | none => rw [hw] at h; cases h
        | some m2 =>
          rw [hw] at h
          have hg := withM_grows hw h15
          have h2 := ih m2 m c2 c' h hg.2.2 hg.2.1 (by omega)
          have h3 := stepF_ge hs
          exact ⟨h2.1, by omega⟩
    · rw [bodyF_end (by omega)] at h
      simp only [Except.ok.injEq, Prod.mk.injEq] at h
      obtain ⟨rfl, rfl⟩ := h
      omega

theorem row_empty (w : World) (t : TypeId) (B : Nat) (hB : B ≤ w.heap.size) : RowE B t natV (w.alloc (.cells #[] t)) (.slice (some ⟨w.heap.size, 0, none⟩) 0 0) [] :=
  ⟨rfl, .inr ⟨w.heap.size, 0, #[], rfl, hB, Blk.new w #[] t, Nat.le_refl _, Nat.zero_le _, rfl, rfl⟩⟩

set_option maxRecDepth 100000 in
set_option maxHeartbeats 1000000 in
theorem lclone_any (w : World) (v : Value) (I : Nat → Prop) (ns : List Nat) (hs : SrcE natV w I v ns) (hn : ns.length ≤ 1000000) :
    Calls Tryd.prog 72 #[v] w fun e w' => ∃ v', e = .returned v' ∧ New w w' v' ns := by
  obtain ⟨ao, cap, rfl, hcap, hc⟩ := id hs
  have q22 : ∀ (w : World) (a : Option Addr) (n c n' c' : Nat), (binOp .eql 22 (.slice a n c) (.slice none n' c')).run Tryd.prog w = .ok (.bool a.isNone) w := fun w a n c n' c' => Lib.run_eql_slice_nil w _ _ a n c n' c' Tryd.underlying22
  cases ao with
  | none =>
    have e0 : ns = [] := Classical.byContradiction (fun h => by obtain ⟨_, _, e, _⟩ := hc h; cases e)
    subst e0
    clear hs hc
    go_enter Tryd.func72, Tryd.ntmps72
    go_wp2_with fail
    go_ret
    exact ⟨_, rfl, RowE.nil, Kept.refl _ _⟩
  | some ad =>
    have HS : Hid (SrcE natV w I (.slice (some ad) ns.length cap) ns) := hs
    have HR0 : Hid (NRow w.heap.size (w.alloc (.cells #[] 3)) (.slice (some ⟨w.heap.size, 0, none⟩) 0 0) []) := hid (row_empty w _ _ (Nat.le_refl _))
    have HK0 : Hid (Same w (w.alloc (.cells #[] 3))) := hid ((Kept.refl _ w).alloc _)
    obtain ⟨L, hL⟩ : ∃ L, L = ns.length := ⟨_, rfl⟩
    have HL : Hid (L = ns.length) := hL
    rw [← hL] at HS hn ⊢
    clear hs hc hL hcap
    go_enter Tryd.func72, Tryd.ntmps72
    go_wp2_with (at_builtin; refine wpList_append_ints _ w.heap.size rfl (.tmp 5) (.tmp 6) rfl _ [] rfl HR0.out _ (some ad) L cap ns rfl (HS.out.same HK0.out) (fun e => by cases e) (by have := HL.out; simp; omega) (by simp) ?_; intro v3 w3 hr3 hg3; have HR3 : Hid (NRow w.heap.size w3 v3 ns) := hid (by simpa using hr3); have HK3 : Hid (Same w w3) := hid (HK0.out.grown hg3 (fun j e => .inr (HR0.out.ge e))); clear hr3 hg3)
    go_ret
    exact ⟨_, rfl, HR3.out, HK3.out⟩

/-- An answer of readHead. -/
def RHeadA (w w' : World) (p : Nat) (s : Value) (bs : List Nat) (c : Nat) (e : Ending) : Except Nat ((List Nat × List Nat) × Nat) → Prop
  | .error er => e = .returned (.tuple #[.slice none 0 0, .slice none 0 0, .int .i64 (er : Nat)]) ∧ er ≠ 0 ∧ ∃ c', c ≤ c' ∧ c' ≤ 8 * bs.length ∧ St w' p s bs c'
  | .ok (x, n) => (∃ va vb, e = .returned (.tuple #[va, vb, .int .i64 0]) ∧ NRow w.heap.size w' va x.1 ∧ NRow w.heap.size w' vb x.2) ∧ c + n ≤ 8 * bs.length ∧ St w' p s bs (c + n)

set_option maxRecDepth 100000 in
set_option maxHeartbeats 4000000 in
theorem lhead_any (w : World) (p c : Nat) (s : Value) (bs : List Nat) (hs : St w p s bs c) (hc : c ≤ 8 * bs.length) (hlen : bs.length ≤ 100000000) (hT : Tab w) (hpg : p ≠ 0) :
    Calls Tryd.prog 52 #[.pointer (some ⟨p, 0, none⟩)] w fun e w' => RHeadA w w' p s bs c e (readF (ofBytes bs) c) ∧ Kept (· = p) w w' := by
  obtain ⟨W, hW⟩ : ∃ W, W = w.alloc (.cells #[.int .i64 5, .int .i64 5, .int .i64 4] 3) := ⟨_, rfl⟩
  have hk0 : Same w W := by rw [hW]; exact (Kept.refl _ w).alloc _
  have hpw : p < w.heap.size := hs.lt
  have hsrc : SrcE natV W (fun k => k = w.heap.size) (.slice (some ⟨w.heap.size, 0, none⟩) 3 3) [5, 5, 4] := by rw [hW]; exact src_nats w [5, 5, 4] 3 rfl
  have HTK := ltake_any W p c s bs _ _ [5, 5, 4] (hs.kept hk0 (fun _ _ f => f)) hc hlen hsrc (fun k e => by omega) (by decide) (by decide)
  have HK0 : Hid (Same w W) := hk0
  have HT0 : Hid (Tab W) := hid (hT.kept hk0 (fun f => f))
  have HP : Hid (∀ k, Fp p s k → k < w.heap.size) := hid (fun k h => hs.fp_lt h)
  obtain ⟨ls, hls⟩ : ∃ ls, ls = ofBytes bs := ⟨_, rfl⟩
  have hll : ls.length = 8 * bs.length := by rw [hls, ofBytes_length]
  have hbit : ∀ b ∈ ls, b < 2 := by rw [hls]; exact ofBytes_lt bs
  have hx1 := numAt_lt ls hbit c 5
  have hx2 := numAt_lt ls hbit (c + 5) 5
  have hx3 := numAt_lt ls hbit (c + 10) 4
  obtain ⟨x1, hx1e⟩ : ∃ x, x = numAt ls c 5 := ⟨_, rfl⟩
  obtain ⟨x2, hx2e⟩ : ∃ x, x = numAt ls (c + 5) 5 := ⟨_, rfl⟩
  obtain ⟨x3, hx3e⟩ : ∃ x, x = numAt ls (c + 10) 4 := ⟨_, rfl⟩
  rw [← hx1e] at hx1
  rw [← hx2e] at hx2
  rw [← hx3e] at hx3
  have HNUM : Hid (numsAt (ofBytes bs) c [5, 5, 4] = [x1, x2, x3]) := hid (by rw [hx1e, hx2e, hx3e, hls]; rfl)
  obtain ⟨li, hli⟩ : ∃ x, x = x1 + 257 := ⟨_, rfl⟩
  obtain ⟨di, hdi⟩ : ∃ x, x = x2 + 1 := ⟨_, rfl⟩
  obtain ⟨come, hcome⟩ : ∃ x, x = x3 + 4 := ⟨_, rfl⟩
  have HRF : Hid (readF ls c = if 8 * bs.length < c + 14 then .error 10 else if 286 < li ∨ 30 < di then .error 40 else if 8 * bs.length < c + 14 + 3 * come then .error 10
      else if chkN (codesF ls (c + 14) come) ≠ 0 then .error (chkN (codesF ls (c + 14) come))
      else match bodyF (codesF ls (c + 14) come) ls (li + di) (li + di) [] (c + 14 + 3 * come) with
        | .error e => .error e
        | .ok (l, c2) => .ok ((l.take li, l.drop li), c2 - c)) := hid (by rw [hli, hdi, hcome, hx1e, hx2e, hx3e, ← hll]; rfl)
  have hliI : (x1 : Int) + 257 = (li : Int) := by omega
  have hdiI : (x2 : Int) + 1 = (di : Int) := by omega
  have hcoI : (x3 : Int) + 4 = (come : Int) := by omega
  have hliw : IntKind.i64.wrap (li : Int) = (li : Int) := by rw [IntKind.wrap_i64]; omega
  have hdiw : IntKind.i64.wrap (di : Int) = (di : Int) := by rw [IntKind.wrap_i64]; omega
  have hcow : IntKind.i64.wrap (come : Int) = (come : Int) := by rw [IntKind.wrap_i64]; omega
  have hco19 : come ≤ 19 := by omega
  have hli1 : li ≤ 300 := by omega
  have hdi1 : di ≤ 40 := by omega
  have hdi0 : 1 ≤ di := by omega
  have HLS : Hid (ls = ofBytes bs) := hls
  rw [← hls]
  clear hs hT hk0 hsrc hls hll hbit hx1 hx2 hx3 hx1e hx2e hx3e hli hdi hcome
  go_enter Tryd.func52, Tryd.ntmps52
  go_wp2_with fail
  rw [← hW]
  clear hW
  refine HTK.mono ?_
  rintro e w2 ⟨hta, hk2⟩
  have HK2 : Hid (Kept (· = p) w w2) := hid (Kept.trans (HK0.out.mono (fun _ _ f => f.elim)) hk2 (fun _ _ h => h) (fun _ _ h => h))
  have HT2 : Hid (Tab w2) := hid (HT0.out.kept hk2 (fun e => hpg e.symm))
  have hszW := HK0.out.size
  have hsz2 := HK2.out.size
  clear hk2 HTK HT0
  rcases hta with ⟨hfit, ⟨v2, rfl, hr2⟩, hs2⟩ | ⟨hbig, rfl, c', hc1, hc2, hs2⟩
  · rw [HNUM.out] at hr2
    have hfit14 : c + 14 ≤ 8 * bs.length := by simpa using hfit
    have HS2 : Hid (St w2 p s bs (c + 14)) := hid (by simpa using hs2)
    obtain ⟨a2, cap2, hv2, hg2, _⟩ := hr2.shape
    obtain ⟨g2, rfl⟩ := hg2 (by simp)
    subst hv2
    have d1 : w2.cell? ⟨g2, 0, none⟩ = some (.int .i64 (x1 : Nat)) := hr2.cell 0 (by simp)
    have d2 : w2.cell? ⟨g2, 1, none⟩ = some (.int .i64 (x2 : Nat)) := hr2.cell 1 (by simp)
    have d3 : w2.cell? ⟨g2, 2, none⟩ = some (.int .i64 (x3 : Nat)) := hr2.cell 2 (by simp)
    have hg2w : g2 ≠ p := by have := hr2.ge (k := g2) rfl; omega
    clear hfit hs2 hr2 hg2
    by_cases hbad : 286 < li ∨ 30 < di
    · have HE : Hid (readF ls c = .error 40) := hid (by rw [HRF.out, if_neg (by omega), if_pos hbad])
      by_cases hl2 : 286 < li
      · have hld : decide ((286 : Int) < (li : Int)) = true := by simp; omega
        clear hbad hl2
        go_wp2_with fail
        go_quiet (fail)
        go_wp2_with fail
        refine bodyPost_ret (v := .tuple #[.slice none 0 0, .slice none 0 0, .int .i64 40]) (by simp [results, Tryd.results52, go_sem]) rfl ?_
        refine ⟨?_, HK2.out.drewN _⟩
        rw [HE.out]
        exact ⟨rfl, by decide, c + 14, by omega, hfit14, HS2.out.drewN _⟩
      · have hld : decide ((286 : Int) < (li : Int)) = false := by simp; omega
        have hdd : decide ((30 : Int) < (di : Int)) = true := by simp; omega
        clear hbad hl2
        go_wp2_with fail
        go_quiet (fail)
        go_wp2_with fail
        refine bodyPost_ret (v := .tuple #[.slice none 0 0, .slice none 0 0, .int .i64 40]) (by simp [results, Tryd.results52, go_sem]) rfl ?_
        refine ⟨?_, HK2.out.drewN _⟩
        rw [HE.out]
        exact ⟨rfl, by decide, c + 14, by omega, hfit14, HS2.out.drewN _⟩
    · have HRF2 : Hid (readF ls c = if 8 * bs.length < c + 14 + 3 * come then .error 10
          else if chkN (codesF ls (c + 14) come) ≠ 0 then .error (chkN (codesF ls (c + 14) come))
          else match bodyF (codesF ls (c + 14) come) ls (li + di) (li + di) [] (c + 14 + 3 * come) with
            | .error e => .error e
            | .ok (l, c2) => .ok ((l.take li, l.drop li), c2 - c)) := hid (by rw [HRF.out, if_neg (by omega), if_neg hbad])
      have hld : decide ((286 : Int) < (li : Int)) = false := by simp; omega
      have hdd : decide ((30 : Int) < (di : Int)) = false := by simp; omega
      have HCO := fun q => lcodes_any (w2.drewN q) p (c + 14) s bs come (HS2.out.drewN q) hfit14 hlen hco19 (HT2.out.kept ((Kept.refl (fun _ => False) w2).drewN q) (fun f => f)) hpg
      clear hbad HRF
      go_wp2_with fail
      go_quiet (fail)
      go_wp2_with fail
      refine (HCO _).mono ?_
      rintro e w4 ⟨hca, hk4⟩
      have hk4' : Kept (· = p) w2 w4 := ⟨hk4.os, hk4.tape, hk4.output, hk4.size, hk4.block⟩
      have HK4 : Hid (Kept (· = p) w w4) := hid (Kept.trans HK2.out hk4' (fun _ _ h => h) (fun _ _ h => h))
      have hsz4 := HK4.out.size
      clear HCO hk4 hk4' d1 d2 d3
      rcases hca with ⟨hbig, rfl, c', hc1, hc2, hs4⟩ | ⟨hfit, hs4, ⟨hch, rfl⟩ | ⟨hch, d, vc, vs, rfl, hdec, hdf⟩⟩
      · have HE : Hid (readF ls c = .error 10) := hid (by rw [HRF2.out, if_pos (by omega)])
        have HS4 : Hid (St w4 p s bs c') := hs4
        have hcc : c ≤ c' := by omega
        clear hbig hs4
        go_wp2_with fail
        refine bodyPost_ret (v := .tuple #[.slice none 0 0, .slice none 0 0, .int .i64 10]) (by simp [results, Tryd.results52, go_sem]) rfl ?_
        refine ⟨?_, HK4.out⟩
        rw [HE.out]
        exact ⟨rfl, by decide, c', hcc, hc2, HS4.out⟩
      · obtain ⟨er, her⟩ : ∃ er, er = chkN (codesF (ofBytes bs) (c + 14) come) := ⟨_, rfl⟩
        rw [← her] at hch ⊢
        have HE : Hid (readF ls c = .error er) := hid (by rw [HRF2.out, if_neg (by omega), HLS.out, ← her, if_pos hch])
        have HS4 : Hid (St w4 p s bs (c + 14 + 3 * come)) := hs4
        have hed : ((er : Int) != 0) = true := by simp; omega
        have HER : Hid (er ≠ 0) := hch
        clear hs4 hch her
        go_wp2_with fail
        refine bodyPost_ret (v := .tuple #[.slice none 0 0, .slice none 0 0, .int .i64 (er : Nat)]) (by simp [results, Tryd.results52, go_sem]) rfl ?_
        refine ⟨?_, HK4.out⟩
        rw [HE.out]
        exact ⟨rfl, HER.out, c + 14 + 3 * come, by omega, hfit, HS4.out⟩
      · obtain ⟨N, hN⟩ : ∃ N, N = li + di := ⟨_, rfl⟩
        have hNI : (li : Int) + (di : Int) = (N : Int) := by omega
        have hNw : IntKind.i64.wrap (N : Int) = (N : Int) := by rw [IntKind.wrap_i64]; omega
        have hN4 : N ≤ 340 := by omega
        have HRF3 : Hid (readF ls c = match bodyF (codesF (ofBytes bs) (c + 14) come) (ofBytes bs) N N [] (c + 14 + 3 * come) with
            | .error e => .error e
            | .ok (l, c2) => .ok ((l.take li, l.drop li), c2 - c)) := hid (by rw [HRF2.out, if_neg (by omega), HLS.out, if_neg (by rw [hch]; simp), ← hN])
        have hcl := codesF_length (ofBytes bs) (c + 14) come
        have hc7 := codesF_le (ofBytes bs) (ofBytes_lt bs) (c + 14) come
        have HBD := lsteps_any w4 d vc vs _ _ p (c + 14 + 3 * come) s bs N (chk_good _ hcl hc7 hch) hdec hs4 hfit hlen (fun k h hf => by have h1 := hdf k h; have h2 := HP.out k hf; have h3 : (w2.drewN nq).heap.size = w2.heap.size := rfl; omega) (by omega)
        have HNLI : Hid (li < N) := hid (by omega)
        clear hcl hc7 hch hdec hdf hs4 HRF2 hN
        cases hbf : bodyF (codesF (ofBytes bs) (c + 14) come) (ofBytes bs) N N [] (c + 14 + 3 * come) with
        | error er =>
          rw [hbf] at HBD
          have HE : Hid (readF ls c = .error er) := hid (by rw [HRF3.out, hbf])
          clear hbf HRF3
          go_wp2_with fail
          refine HBD.mono ?_
          rintro e w5 ⟨⟨rfl, her, c', hc1, hc2, hs5⟩, hk5⟩
          have HS5 : Hid (St w5 p s bs c') := hs5
          have HK5 : Hid (Kept (· = p) w w5) := hid (Kept.trans HK4.out hk5 (fun _ _ h => h) (fun _ _ h => h))
          have hed : ((er : Int) != 0) = true := by simp; omega
          have HER : Hid (er ≠ 0) := her
          have hcc : c ≤ c' := by omega
          clear hs5 hk5 her HBD
          go_wp2_with fail
          refine bodyPost_ret (v := .tuple #[.slice none 0 0, .slice none 0 0, .int .i64 (er : Nat)]) (by simp [results, Tryd.results52, go_sem]) rfl ?_
          refine ⟨?_, HK5.out⟩
          rw [HE.out]
          exact ⟨rfl, HER.out, c', hcc, hc2, HS5.out⟩
        | ok r =>
          obtain ⟨l, c2⟩ := r
          rw [hbf] at HBD
          have HE : Hid (readF ls c = .ok ((l.take li, l.drop li), c2 - c)) := hid (by rw [HRF3.out, hbf])
          obtain ⟨hlN, hcc2⟩ := bodyF_ok N [] l _ c2 hbf (by simp) (by simp) (by simp)
          have HLN : Hid (l.length = N) := hlN
          clear hbf HRF3
          go_wp2_with fail
          refine HBD.mono ?_
          rintro e w5 ⟨⟨⟨v5, rfl, hr5⟩, hc5, hs5⟩, hk5⟩
          have HS5 : Hid (St w5 p s bs c2) := hs5
          have HK5 : Hid (Kept (· = p) w w5) := hid (Kept.trans HK4.out hk5 (fun _ _ h => h) (fun _ _ h => h))
          have hsz5 := HK5.out.size
          have hlne : l ≠ [] := fun e => by rw [e] at hlN; simp at hlN; omega
          obtain ⟨a5, cap5, hv5, hg5, _⟩ := hr5.shape
          obtain ⟨g5, rfl⟩ := hg5 hlne
          subst hv5
          have hcap5 : l.length ≤ cap5 := by obtain ⟨_, _, e, _, _, h, _⟩ := hr5.shape; simp only [Value.slice.injEq] at e; obtain ⟨_, _, rfl⟩ := e; exact h
          have hsr : SrcE natV w5 _ (.slice (some ⟨g5, 0, none⟩) l.length cap5) l := SrcE.ofRow hr5
          have hliN : li < N := HNLI.out
          have hcne : ¬ cap5 = li := by omega
          have hA := hsr.part li (by omega)
          have hB := hsr.tail2 li (by omega)
          rw [hlN, Nat.zero_add, if_neg hcne] at hB
          rw [hlN] at hcap5 ⊢
          obtain ⟨M, hM⟩ : ∃ M, M = N - li := ⟨_, rfl⟩
          have hMI : (N : Int) - (li : Int) = (M : Int) := by omega
          have HCA : Hid (∀ W, Same w5 W → Calls Tryd.prog 72 #[.slice (some ⟨g5, 0, none⟩) li cap5] W fun e w' => ∃ v', e = .returned v' ∧ New W w' v' (l.take li)) := hid (fun W hk => lclone_any W _ _ _ (hA.same hk) (by simp; omega))
          have HCB : Hid (∀ W, Same w5 W → Calls Tryd.prog 72 #[.slice (some ⟨g5, li, none⟩) (N - li) (cap5 - li)] W fun e w' => ∃ v', e = .returned v' ∧ New W w' v' (l.drop li)) := hid (fun W hk => lclone_any W _ _ _ (hB.same hk) (by simp; omega))
          have i1 : (0 : Int) ≤ (li : Int) := by omega
          have i2 : (li : Int) ≤ (N : Int) := by omega
          have i3 : (li : Int) ≤ (cap5 : Int) := by omega
          clear hs5 hk5 HBD hr5 hg5 hA hB hsr hlN hM
          go_wp2_with fail
          go_region_held3 (fun _ => True) (first | trivial | go_keep)
            (first
              | (go_at_call 72; refine (HCB.out _ (Same.trans ((Kept.refl _ w5).drew) hnA.same)).mono ?_; rintro e w7 ⟨vB, rfl, hnB⟩)
              | (go_at_call 72; refine (HCA.out _ ((Kept.refl _ w5).drew)).mono ?_; rintro e w6 ⟨vA, rfl, hnA⟩))
          all_goals
            go_wp2_with fail
            refine bodyPost_ret (v := .tuple #[vA, vB, .int .i64 0]) (by simp [results, Tryd.results52, go_sem]) rfl ?_
            have h67 : Same w5 w7 := Same.trans (Same.trans ((Kept.refl _ w5).drew) hnA.same) hnB.same
            refine ⟨?_, Kept.trans HK5.out h67 (fun _ _ h => h) (fun _ _ f => f.elim)⟩
            rw [HE.out]
            have h6 := hnA.same.size
            have h5 : w5.drew.heap.size = w5.heap.size := rfl
            refine ⟨⟨vA, vB, rfl, RowE.base (hnA.row.same hnB.same) (by omega), RowE.base hnB.row (by omega)⟩, by omega, ?_⟩
            have e : c + (c2 - c) = c2 := by omega
            rw [e]
            exact HS5.out.kept h67 (fun _ _ f => f)
  · have HE : Hid (readF ls c = .error 10) := hid (by rw [HRF.out, if_pos (by simpa using hbig)])
    have HS2 : Hid (St w2 p s bs c') := hs2
    clear hbig hs2
    go_wp2_with fail
    refine bodyPost_ret (v := .tuple #[.slice none 0 0, .slice none 0 0, .int .i64 10]) (by simp [results, Tryd.results52, go_sem]) rfl ?_
    refine ⟨?_, HK2.out⟩
    rw [HE.out]
    exact ⟨rfl, by decide, c', hc1, hc2, HS2.out⟩

end Go.Proofs.YtofhlnpbflkdlaaDoor

/-
  The program's Read.
-/
namespace Go.Proofs.YtofhlnpbflkdlaaDoor
open Go.RowKit

/-- An answer of Read. -/
def RReadA (w w' : World) (p : Nat) (s : Value) (bs : List Nat) (c : Nat) (e : Ending) : Except Nat ((List Nat × List Nat) × Nat) → Prop
  | .error er => e = .returned (.tuple #[.slice none 0 0, .slice none 0 0, .int .i64 (er : Nat)]) ∧ er ≠ 0 ∧ St w' p s bs c
  | .ok (x, n) => (∃ va vb, e = .returned (.tuple #[va, vb, .int .i64 0]) ∧ NRow w.heap.size w' va x.1 ∧ NRow w.heap.size w' vb x.2) ∧ c + n ≤ 8 * bs.length ∧ St w' p s bs (c + n)

set_option maxRecDepth 100000 in
set_option maxHeartbeats 1000000 in
theorem lread_nil (w : World) :
    Calls Tryd.prog 27 #[.pointer none] w fun e w' => e = .returned (.tuple #[.slice none 0 0, .slice none 0 0, .int .i64 3]) ∧ w' = w := by
  go_enter Tryd.func27, Tryd.ntmps27
  go_wp2_with fail
  refine bodyPost_ret (v := .tuple #[.slice none 0 0, .slice none 0 0, .int .i64 3]) (by simp [results, Tryd.results27, go_sem]) rfl ?_
  exact ⟨rfl, rfl⟩

set_option maxRecDepth 100000 in
set_option maxHeartbeats 2000000 in
theorem lread_any (w : World) (p c : Nat) (s : Value) (bs : List Nat) (hs : St w p s bs c) (hc : c ≤ 8 * bs.length) (hlen : bs.length ≤ 100000000) (hT : Tab w) (hpg : p ≠ 0) :
    Calls Tryd.prog 27 #[.pointer (some ⟨p, 0, none⟩)] w fun e w' => RReadA w w' p s bs c e (readF (ofBytes bs) c) ∧ Kept (· = p) w w' := by
  have HG := gone_any p c s bs w hs
  have HH := lhead_any w p c s bs hs hc hlen hT hpg
  clear hs hT
  go_enter Tryd.func27, Tryd.ntmps27
  cases hrf : readF (ofBytes bs) c with
  | error er =>
    rw [hrf] at HH
    clear hrf
    go_wp2_with fail
    refine HG.mono ?_
    rintro e w1 ⟨rfl, hw1⟩
    subst hw1
    clear HG
    go_wp2_with fail
    refine HH.mono ?_
    rintro e w2 ⟨⟨rfl, her, c', hc1, hc2, hs2⟩, hk2⟩
    have hed : ((er : Int) != 0) = true := by simp; omega
    have HER : Hid (er ≠ 0) := her
    have HK2 : Hid (Kept (· = p) w1 w2) := hk2
    have HG2 := gone_any p c' s bs w2 hs2
    obtain ⟨m, hm⟩ : ∃ m, m = c' - c := ⟨_, rfl⟩
    have hmI : (c' : Int) - (c : Int) = (m : Int) := by omega
    have hmw : IntKind.i64.wrap (m : Int) = (m : Int) := by rw [IntKind.wrap_i64]; omega
    have HBK := back_good p c' m s bs w2 hs2 (by omega) (by omega)
    have hcm : c' - m = c := by omega
    rw [hcm] at HBK
    clear hs2 hk2 her HH hm hcm
    go_wp2_with fail
    refine HG2.mono ?_
    rintro e w3 ⟨rfl, hw3⟩
    subst hw3
    clear HG2
    go_wp2_with fail
    refine HBK.mono ?_
    rintro e w4 ⟨rfl, hs4, hk4⟩
    have HS4 : Hid (St w4 p s bs c) := hs4
    have HK4 : Hid (Kept (· = p) w1 w4) := hid (Kept.trans HK2.out hk4 (fun _ _ h => h) (fun _ _ h => h))
    clear hs4 hk4 HBK
    go_wp2_with fail
    refine bodyPost_ret (v := .tuple #[.slice none 0 0, .slice none 0 0, .int .i64 (er : Nat)]) (by simp [results, Tryd.results27, go_sem]) rfl ?_
    exact ⟨⟨rfl, HER.out, HS4.out⟩, HK4.out⟩
  | ok r =>
    obtain ⟨x, n⟩ := r
    rw [hrf] at HH
    clear hrf
    go_wp2_with fail
    refine HG.mono ?_
    rintro e w1 ⟨rfl, hw1⟩
    subst hw1
    clear HG
    go_wp2_with fail
    refine HH.mono ?_
    rintro e w2 ⟨⟨⟨va, vb, rfl, hra, hrb⟩, hc2, hs2⟩, hk2⟩
    have HRA : Hid (NRow w1.heap.size w2 va x.1) := hra
    have HRB : Hid (NRow w1.heap.size w2 vb x.2) := hrb
    have HS2 : Hid (St w2 p s bs (c + n)) := hs2
    have HK2 : Hid (Kept (· = p) w1 w2) := hk2
    clear hra hrb hs2 hk2 HH
    go_wp2_with fail
    refine bodyPost_ret (v := .tuple #[va, vb, .int .i64 0]) (by simp [results, Tryd.results27, go_sem]) rfl ?_
    exact ⟨⟨⟨va, vb, rfl, HRA.out, HRB.out⟩, hc2, HS2.out⟩, HK2.out⟩

end Go.Proofs.YtofhlnpbflkdlaaDoor

/-
  The program's Unpack.
-/
namespace Go.Proofs.YtofhlnpbflkdlaaDoor
open Go.RowKit

set_option maxRecDepth 100000 in
set_option maxHeartbeats 2000000 in
theorem lunpack_any (w : World) (v : Value) (I : Nat → Prop) (ss : List (Int × Int)) (nz : Int) (hs : StSrc w I v ss) (hlen : ss.length ≤ 10000000) :
    Calls Tryd.prog 15 #[v, .int .i64 nz] w fun e w' => UnpA w w' e (unpM ss nz) := by
  obtain ⟨ao, cap, rfl, hx1, hx2⟩ := id hs
  clear hx1 hx2
  have HS : Hid (StSrc w I (.slice ao ss.length cap) ss) := hs
  have HWI := within_any w nz 0 316
  clear hs
  by_cases hout : nz < 0 ∨ 316 < nz
  · have HE : Hid (unpM ss nz = .error 1) := hid (by unfold unpM; rw [if_pos hout])
    have hin : inB nz 0 316 = false := by
      unfold inB
      rcases hout with h | h
      · have : ¬ 0 ≤ nz := by omega
        simp [this]
      · have : ¬ nz ≤ 316 := by omega
        simp [this]
    rw [hin] at HWI
    clear hout hin
    go_enter Tryd.func15, Tryd.ntmps15
    go_wp2_with fail
    refine HWI.mono ?_
    rintro e w1 ⟨rfl, hw1⟩
    subst hw1
    clear HWI
    go_wp2_with fail
    go_ret2
    rw [HE.out]
    exact ⟨rfl, Kept.refl _ _⟩
  · obtain ⟨n, rfl⟩ : ∃ n : Nat, nz = (n : Int) := ⟨nz.toNat, by omega⟩
    have hn : n ≤ 316 := by omega
    have hin : inB (n : Int) 0 316 = true := by
      unfold inB
      have h1 : (0 : Int) ≤ (n : Int) := by omega
      have h2 : (n : Int) ≤ 316 := by omega
      simp [h1, h2]
    rw [hin] at HWI
    have HU : Hid (unpM ss (n : Int) = match runM n [] ss with | none => .error 41 | some l => if l.length < n then .error 41 else .ok l) := hid (by
      unfold unpM
      rw [if_neg (by omega)]
      simp only [Int.toNat_natCast]
      all_goals rfl)
    clear hout hin
    go_enter Tryd.func15, Tryd.ntmps15
    go_wp2_with fail
    refine HWI.mono ?_
    rintro e w1 ⟨rfl, hw1⟩
    subst hw1
    clear HWI
    go_wp2_with fail
    go_loopg [6, 8, 14] ss.length (fun q zl _ zi wr => ∃ (i : Nat) (l : List Nat), ss.length - i ≤ q ∧ i ≤ ss.length ∧ zi = .int .i64 (i : Nat) ∧ Hid (runM n [] (ss.take i) = some l ∧ l.length ≤ n ∧ ∀ x ∈ l, x ≤ 15) ∧ Hid (NRow w1.heap.size wr zl l) ∧ Hid (Same w1 wr))
    case atStart => exact ⟨0, [], by omega, by omega, rfl, hid ⟨by simp [runM], by simp, by simp⟩, RowE.nil, Kept.refl _ _⟩
    case round =>
      obtain ⟨i, l, hq, hi, rfl, HRUN, HV, HK⟩ := hrel
      by_cases hlt : i < ss.length
      · obtain ⟨b, o, e1, _, hcell⟩ : ∃ b o, ao = some ⟨b, o, none⟩ ∧ True ∧ ∀ t (_ : t < 2), wr.cell? ⟨b, o + (i * 2 + t), none⟩ = (stC ss[i])[t]? := by
          obtain ⟨ao', cap', e1, _, e2⟩ := HS.out.kept stC_ok HK.out (fun _ _ _ f => f)
          injection e1 with e3 _ _
          subst e3
          obtain ⟨b, o, e4, _, e5⟩ := e2 (by intro e; rw [e] at hlt; simp at hlt)
          exact ⟨b, o, e4, trivial, e5 i hlt⟩
        subst e1
        obtain ⟨x, y, hxy⟩ : ∃ x y, ss[i] = (x, y) := ⟨_, _, rfl⟩
        rw [hxy] at hcell
        have c1 : wr.cell? ⟨b, o + i * 2, none⟩ = some (.int .i64 x) := hcell 0 (by decide)
        have c2 : wr.cell? ⟨b, o + i * 2 + 1, none⟩ = some (.int .i64 y) := hcell 1 (by decide)
        have HSN : Hid (runM n [] (ss.take (i + 1)) = withM l (x, y) n) := hid (by
          rw [List.take_succ_eq_append_getElem hlt, runM_snoc, HRUN.out.1, hxy]
          rfl)
        have hll : l.length ≤ 1000000 := by have := HRUN.out.2.1; omega
        obtain ⟨a6, cap6, hv6, _⟩ := HV.out.shape
        subst hv6
        have HMS := fun W => mayStand_any W x y l.length n hll
        have HSAYS := fun (W : World) (hr : NRow w1.heap.size W (.slice a6 l.length cap6) l) (hB : w1.heap.size ≤ W.heap.size) (hm : mayB (x, y) l.length n) => say_any W w1.heap.size _ l x y n hr hB hll hm
        obtain ⟨L, hL⟩ : ∃ L, L = l.length := ⟨_, rfl⟩
        have HL : Hid (L = l.length) := hL
        rw [← hL] at HMS HSAYS HV hll ⊢
        clear hcell hxy hL
        by_cases hmay : mayB (x, y) L n
        · have HM : Hid (withM l (x, y) n = some (l ++ List.replicate (leastM x + y.toNat) (sayV x l))) := hid (withM_may (by rw [← HL.out]; exact hmay))
          have HMAY : Hid (mayB (x, y) L n) := hmay
          clear hmay
          obtain ⟨m, hm⟩ : ∃ m, m = l ++ List.replicate (leastM x + y.toNat) (sayV x l) := ⟨_, rfl⟩
          rw [← hm] at HM HSAYS
          have HMM : Hid (runM n [] (ss.take (i + 1)) = some m ∧ m.length ≤ n ∧ ∀ x ∈ m, x ≤ 15) := hid ⟨by rw [HSN.out, HM.out], (withM_grows HM.out HRUN.out.2.2).2.1, (withM_grows HM.out HRUN.out.2.2).2.2⟩
          clear hm
          go_wp2_with fail
          refine (HMS _).mono ?_
          rintro e w2 ⟨he, hk2⟩
          have he2 := he.yes HMAY.out
          subst he2
          have c3 : w2.cell? ⟨wr.heap.size, 0, none⟩ = some (.int .i64 x) := hk2.cell (by simp) (fun f => f)
          have c4 : w2.cell? ⟨wr.heap.size, 1, none⟩ = some (.int .i64 y) := hk2.cell (by simp) (fun f => f)
          have HK2 : Hid (Same wr w2) := hid (Same.trans ((Kept.refl _ wr).alloc _) hk2)
          have hsz2 : w1.heap.size ≤ w2.heap.size := by have h1 := HK.out.size; have h2 := HK2.out.size; omega
          have HSY := HSAYS w2 (HV.out.same HK2.out) hsz2 HMAY.out
          clear he hk2 HMS HSAYS
          go_wp2_with fail
          refine HSY.mono ?_
          rintro e w3 ⟨v3, rfl, hr3, hk3⟩
          have HV3 : Hid (NRow w1.heap.size w3 v3 m) := hr3
          have HK3 : Hid (Same w1 w3) := hid (Same.then (Same.trans HK.out HK2.out) hk3 (fun j hj e => by unfold Over at e; omega))
          clear hr3 hk3 HSY c3 c4
          go_wp2_with fail
          go_roundg (gk - 1)
          case measure => omega
          case rel => exact ⟨i + 1, m, by omega, by omega, by go_num, HMM, HV3, HK3⟩
        · have HM : Hid (withM l (x, y) n = none) := hid (withM_no (by rw [← HL.out]; exact hmay))
          have HMAY : Hid (¬ mayB (x, y) L n) := hmay
          have HE : Hid (unpM ss (n : Int) = .error 41) := hid (by
            have h := runM_none (n := n) (l := []) (ss.take (i + 1)) (ss.drop (i + 1)) (by rw [HSN.out, HM.out])
            rw [List.take_append_drop] at h
            rw [HU.out, h])
          clear hmay
          go_wp2_with fail
          refine (HMS _).mono ?_
          rintro e w2 ⟨he, hk2⟩
          have he2 := he.no HMAY.out
          subst he2
          have HK2 : Hid (Same w1 w2) := hid (Same.trans (HK.out.alloc _) hk2)
          clear he hk2 HMS HSAYS
          go_wp2_with fail
          go_ret2
          rw [HE.out]
          exact ⟨rfl, HK2.out⟩
      · have hrun : runM n [] ss = some l := by
          have h := HRUN.out.1
          rw [List.take_of_length_le (by omega)] at h
          exact h
        obtain ⟨ao2, cap2, hv2, _⟩ := HV.out.shape
        subst hv2
        obtain ⟨L, hL⟩ : ∃ L, L = l.length := ⟨_, rfl⟩
        rw [← hL] at HV ⊢
        by_cases hsh : L < n
        · have HE : Hid (unpM ss (n : Int) = .error 41) := hid (by rw [HU.out, hrun]; simp only; rw [if_pos (by omega)])
          clear hrun hL
          go_wp2_with fail
          go_ret2
          rw [HE.out]
          exact ⟨rfl, HK.out⟩
        · have HE : Hid (unpM ss (n : Int) = .ok l) := hid (by rw [HU.out, hrun]; simp only; rw [if_neg (by omega)])
          clear hrun hL
          go_wp2_with fail
          go_ret2
          rw [HE.out]
          exact ⟨_, rfl, HV.out, HK.out⟩

end Go.Proofs.YtofhlnpbflkdlaaDoor

/-
  What layer 4's laws lend and get back; a reader, some of whose bits are gone.
-/
namespace Go.Proofs.YtofhlnpbflkdlaaDoor
open Go.RowKit

set_option maxRecDepth 100000 in
set_option maxHeartbeats 1000000 in
theorem kept_any (w : World) (g : Nat) (v : Value) (I : Nat → Prop) (zs : List Int) (hL : Lent w g zs) (hsrc : SrcE intV w I v zs) (hlen : zs.length ≤ 10000000) :
    Calls Tryd.prog 14 #[.slice (some ⟨g, 0, none⟩) zs.length (zs.length + 1), v] w fun e w' => e = .returned (.bool true) ∧ Same w w' := by
  obtain ⟨ao, cap, rfl, hx1, hx2⟩ := id hsrc
  clear hx1 hx2
  have HC := keepInts_any _ _ _ _ zs zs w hL.src hsrc hlen hlen
  have hd : decide (zs = zs) = true := by simp
  have c1 : w.cell? ⟨g, zs.length, none⟩ = some (.int .i64 (-77)) := by
    rw [hL.row.cell zs.length (by simp)]; simp [intV]
  clear hsrc hL
  go_enter Tryd.func14, Tryd.ntmps14
  go_wp2_with fail
  refine HC.mono ?_
  rintro e w2 ⟨rfl, hk⟩
  have HK : Hid (Same w w2) := hk
  clear hk HC
  go_wp2_with fail
  go_ret
  exact ⟨rfl, HK.out⟩

set_option maxRecDepth 100000 in
set_option maxHeartbeats 1000000 in
theorem goneR_any (w : World) (v : Value) (I : Nat → Prop) (bs : List Nat) (n : Nat) (hs : Src w I v bs) (hlen : bs.length ≤ 100000000) (hb : ∀ b ∈ bs, b < 256) (hn : n ≤ 8 * bs.length) :
    Calls Tryd.prog 26 #[v, .int .i64 (n : Nat)] w fun e w' => ∃ p s, e = .returned (.pointer (some ⟨p, 0, none⟩)) ∧ St w' p s bs n ∧ Same w w' ∧ (∀ k, Fp p s k → w.heap.size ≤ k) := by
  have HC := newReader_any v I bs w hs (by omega) hb
  clear hs
  go_enter Tryd.func26, Tryd.ntmps26
  go_wp2_with fail
  refine HC.mono ?_
  rintro e w1 ⟨p, s, rfl, hst, hk, hf⟩
  have HS : Hid (St w1 p s bs 0) := hst
  have HK : Hid (Same w w1) := hk
  have HF : Hid (∀ k, Fp p s k → w.heap.size ≤ k) := hf
  clear hst hk hf HC
  go_wp2_with fail
  go_loopg [6] n (fun q zi wr => ∃ (i : Nat), n - i ≤ q ∧ i ≤ n ∧ zi = .int .i64 (i : Nat) ∧ Hid (St wr p s bs i) ∧ Hid (Same w wr))
  case atStart => exact ⟨0, by omega, by omega, rfl, HS, HK⟩
  case round =>
    clear HS HK
    obtain ⟨i, hq, hi, rfl, HS, HK⟩ := hrel
    by_cases hlt : i < n
    · have HT := take_good p i 1 s bs wr HS.out (by omega) (by decide) (by omega)
      have HT2 : Calls Tryd.prog 31 #[.pointer (some ⟨p, 0, none⟩), .int .i64 1] wr fun e w' => (∃ x, e = .returned x) ∧ St w' p s bs (i + 1) ∧ Kept (· = p) wr w' := HT.mono (by rintro e w' ⟨rfl, h1, h2⟩; exact ⟨⟨_, rfl⟩, h1, h2⟩)
      clear HT
      go_wp2_with fail
      refine HT2.mono ?_
      rintro e w2 ⟨⟨x, rfl⟩, h1, h2⟩
      have HS2 : Hid (St w2 p s bs (i + 1)) := h1
      have HK2 : Hid (Same w w2) := hid (Same.then HK.out h2 (fun y hy e => by have := HF.out p (.inl rfl); omega))
      clear h1 h2 HT2
      go_wp2_with fail
      go_roundg (gk - 1)
      case measure => omega
      case rel => exact ⟨i + 1, by omega, by omega, by go_num, HS2, HK2⟩
    · have hin : i = n := by omega
      subst hin
      go_wp2_with fail
      go_ret
      exact ⟨p, s, rfl, HS.out, HK.out, HF.out⟩

end Go.Proofs.YtofhlnpbflkdlaaDoor

/-
  The law's 'awake': the document's examples.
-/
namespace Go.Proofs.YtofhlnpbflkdlaaDoor
open Go.RowKit

/-- A literal row of ints. -/
theorem src_ints (w : World) (zs : List Int) (n : Nat) (hn : zs.length = n) : SrcE intV (w.alloc (.cells (zs.map intV).toArray 3)) (fun k => k = w.heap.size) (.slice (some ⟨w.heap.size, 0, none⟩) n n) zs := by
  subst hn
  refine ⟨_, _, rfl, Nat.le_refl _, fun _ => ⟨_, _, rfl, rfl, fun j hj => ?_⟩⟩
  simp [hj]

/-- A literal row of bytes. -/
theorem src_bytes (w : World) (cs : List Nat) (n : Nat) (hn : cs.length = n) : Src (w.alloc (.cells (cs.map byteV).toArray 5)) (fun k => k = w.heap.size) (.slice (some ⟨w.heap.size, 0, none⟩) n n) cs := by
  subst hn
  refine ⟨_, _, rfl, fun _ => ⟨_, _, rfl, rfl, fun j hj => ?_⟩⟩
  simp [byteV, hj]

theorem rest_lt (bs : List Nat) (hb : ∀ b ∈ bs, b < 256) (c : Nat) (hc : c ≤ 8 * bs.length) : n256 bs / 2 ^ c < 2 ^ (8 * bs.length - c) := by
  have h := n256_lt bs hb
  rw [pow8] at h
  refine (Nat.div_lt_iff_lt_mul (Nat.two_pow_pos c)).2 ?_
  rw [← Nat.pow_add, show 8 * bs.length - c + c = 8 * bs.length by omega]
  exact h

/-- Next, where a code comes. -/
theorem next_is (w : World) (d : Nat) (vc vs : Value) (ns : List Nat) (p c : Nat) (s : Value) (bs : List Nat) (hd : Dec w d vc vs ns) (hm : mxL ns ≤ 15) (hns : ns.length ≤ 288) (hs : St w p s bs c) (hc : c ≤ 8 * bs.length) (hlen : bs.length ≤ 100000000) (hdis : ∀ k, DF d vc vs k → ¬ Fp p s k)
    (y : Nat) (hy : y ∈ ris ns) (hl : key ns y ≤ 8 * bs.length - c) (hf : rv (key ns y) (n256 bs / 2 ^ c) = codeOf ns y) :
    Calls Tryd.prog 93 #[.pointer (some ⟨d, 0, none⟩), .pointer (some ⟨p, 0, none⟩)] w fun e w' => e = .returned (.tuple #[.int .i64 (y : Nat), .int .i64 0]) ∧ St w' p s bs (c + key ns y) ∧ Kept (· = p) w w' := by
  refine (next_any w d vc vs ns p c s bs hd hm hns hs hc hlen hdis).mono ?_
  rintro e w' ⟨⟨sym, long, er, rfl, hans, hst⟩, hk⟩
  obtain ⟨rfl, rfl, rfl⟩ := Ans.unique (fun x => Nat.le_trans (key_le_mx ns x) hm) (rest_lt bs hs.byte c hc) hans hm hy hl hf
  exact ⟨rfl, hst, hk⟩

theorem ex_lim : limL [5, 1, 1, 1] 2 = [2, 2, 2, 2] := by decide +kernel
theorem ex_codes : codesL [2, 1, 3, 3] = [1, 0, 3, 7] := by decide +kernel



end Go.Proofs.YtofhlnpbflkdlaaDoor

/-
  The law's 'awake': the document's examples.
-/
namespace Go.Proofs.YtofhlnpbflkdlaaDoor
open Go.RowKit

/-- A literal row of steps. -/
theorem src_steps (w : World) (ss : List (Int × Int)) (n : Nat) (hn : ss.length = n) : StSrc (w.alloc (.cells (ss.flatMap stC).toArray 31)) (fun k => k = w.heap.size) (.slice (some ⟨w.heap.size, 0, none⟩) n n) ss := by
  subst hn
  refine ⟨_, _, rfl, Nat.le_refl _, fun _ => ⟨_, _, rfl, rfl, fun j hj i hi => ?_⟩⟩
  rw [← flat_get stC_ok ss j i hj hi]
  simp

theorem ex_pack : packA [0, 0, 0, 3, 3, 3, 3, 3, 0] = .ok [(17, 0), (3, 0), (16, 1), (0, 0)] := by
  unfold packA
  rw [if_pos (by decide)]
  have e : ([0, 0, 0, 3, 3, 3, 3, 3, 0] : List Int).map Int.toNat = [0, 0, 0, 3, 3, 3, 3, 3, 0] := by decide
  have f1 : frontN 0 [0, 0, 3, 3, 3, 3, 3, 0] = 2 := by decide
  have f2 : frontN 3 [3, 3, 3, 3, 0] = 4 := by decide
  have f3 : frontN 0 [] = 0 := by decide
  rw [e, packM_cons, f1]
  have d1 : ([0, 0, 3, 3, 3, 3, 3, 0] : List Nat).drop 2 = [3, 3, 3, 3, 3, 0] := by decide
  rw [d1, packM_cons, f2]
  have d2 : ([3, 3, 3, 3, 0] : List Nat).drop 4 = [0] := by decide
  rw [d2, packM_cons, f3]
  have d3 : ([] : List Nat).drop 0 = [] := by decide
  have p0 : packM [] = [] := by rw [packM]
  rw [d3, p0]
  have s1 : sayM 0 (1 + 2) = [(17, 0)] := by unfold sayM; rw [if_pos rfl, zerosM_mid 3 (by decide) (by decide)]; rfl
  have s2 : sayM 3 (1 + 4) = [(3, 0), (16, 1)] := by unfold sayM; rw [if_neg (by decide), againM_big 3 4 (by decide), show 4 - min 4 6 = 0 by decide, againM_few 3 0 (by decide)]; rfl
  have s3 : sayM 0 (1 + 0) = [(0, 0)] := by unfold sayM; rw [if_pos rfl, zerosM_few 1 (by decide)]; rfl
  rw [s1, s2, s3]
  rfl

theorem ex_unp : unpM [(5, 0), (16, 3)] 7 = .ok [5, 5, 5, 5, 5, 5, 5] := by rfl
theorem ex_unp2 : unpM [(16, 0)] 3 = .error 41 := by rfl
theorem ex_read : readF (ofBytes [255, 255]) 0 = .error 40 := by
  unfold readF
  rw [if_neg (by decide), if_pos (by decide)]

theorem Tab.pos {w : World} (h : Tab w) : 0 < w.heap.size := World.block_lt_of_cell? w _ (h 0 (by decide))

set_option maxRecDepth 100000 in
set_option maxHeartbeats 4000000 in
theorem lawake_any (w : World) (hT : Tab w) : Calls Tryd.prog 9 #[] w fun e w' => e = .returned (.bool true) ∧ Same w w' := by
  have HT : Hid (Tab w) := hT
  have HC1 := lpack_any (w.alloc (.cells #[.int .i64 0, .int .i64 0, .int .i64 0, .int .i64 3, .int .i64 3, .int .i64 3, .int .i64 3, .int .i64 3, .int .i64 0] 3)) (.slice (some ⟨w.heap.size, 0, none⟩) 9 9) _ [0, 0, 0, 3, 3, 3, 3, 3, 0] (src_ints w _ 9 rfl) (by decide)
  rw [ex_pack] at HC1
  clear hT
  go_enter Tryd.func9, Tryd.ntmps9
  go_wp2_with fail
  refine HC1.mono ?_
  rintro e w1 ⟨v1, rfl, hr1, hk1⟩
  have HR1 : Hid (StRow w.heap.size w1 v1 [(17, 0), (3, 0), (16, 1), (0, 0)]) := hid (RowC.base hr1 (by simp))
  have HK1 : Hid (Same w w1) := hid (Same.trans ((Kept.refl _ w).alloc _) hk1)
  clear hr1 hk1 HC1
  have HC2 := lunpack_any (w1.alloc (.cells #[.int .i64 5, .int .i64 0, .int .i64 16, .int .i64 3] 31)) (.slice (some ⟨w1.heap.size, 0, none⟩) 2 2) _ [(5, 0), (16, 3)] 7 (src_steps w1 _ 2 rfl) (by decide)
  rw [ex_unp] at HC2
  go_wp2_with fail
  refine HC2.mono ?_
  rintro e w2 ⟨v2, rfl, hn2⟩
  have HR2 : Hid (NRow w.heap.size w2 v2 [5, 5, 5, 5, 5, 5, 5]) := hid (RowE.base hn2.row (by have := HK1.out.size; simp; omega))
  have HK2 : Hid (Same w1 w2) := hid (Same.trans ((Kept.refl _ w1).alloc _) hn2.same)
  clear hn2 HC2
  have HC3 := lunpack_any (w2.alloc (.cells #[.int .i64 16, .int .i64 0] 31)) (.slice (some ⟨w2.heap.size, 0, none⟩) 1 1) _ [(16, 0)] 3 (src_steps w2 _ 1 rfl) (by decide)
  rw [ex_unp2] at HC3
  go_wp2_with fail
  refine HC3.mono ?_
  rintro e w3 ⟨rfl, hk3⟩
  have HK3 : Hid (Same w2 w3) := hid (Same.trans ((Kept.refl _ w2).alloc _) hk3)
  clear hk3 HC3
  have HC4 := newReader_any (.slice (some ⟨w3.heap.size, 0, none⟩) 2 2) _ [255, 255] (w3.alloc (.cells #[.int .u8 255, .int .u8 255] 5)) (src_bytes w3 _ 2 rfl) (by decide) (by decide)
  go_wp2_with fail
  refine HC4.mono ?_
  rintro e w4 ⟨p, s, rfl, hst4, hk4, hf4⟩
  have HK4 : Hid (Same w3 w4) := hid (Same.trans ((Kept.refl _ w3).alloc _) hk4)
  have HKA : Hid (Same w w4) := hid (Same.trans (Same.trans HK1.out HK2.out) (Same.trans HK3.out HK4.out))
  have hp4 := hf4 p (.inl rfl)
  have HPW : Hid (w3.heap.size ≤ p ∧ w.heap.size ≤ w3.heap.size) := hid ⟨by simp at hp4; omega, (Same.trans (Same.trans HK1.out HK2.out) HK3.out).size⟩
  have HC5 := lread_any w4 p 0 s [255, 255] hst4 (by decide) (by decide) (HT.out.kept HKA.out (fun f => f)) (fun e => by have := HT.out.pos; have := HPW.out; omega)
  rw [ex_read] at HC5
  clear hst4 hk4 hf4 HC4 hp4
  go_wp2_with fail
  refine HC5.mono ?_
  rintro e w5 ⟨⟨rfl, _, _⟩, hk5⟩
  have HK5 : Hid (Same w w5) := hid (Same.then HKA.out hk5 (fun k hk e => by have := HPW.out; omega))
  have HR1b : Hid (StRow w.heap.size w5 v1 [(17, 0), (3, 0), (16, 1), (0, 0)]) := hid (RowC.kept (RowC.kept HR1.out (Same.trans HK2.out (Same.trans HK3.out HK4.out)) (fun _ _ f => f)) hk5 (fun k e h => by have h1 := HR1.out.lt e; have h2 := (Same.trans HK2.out HK3.out).size; have := HPW.out; omega))
  have HR2b : Hid (NRow w.heap.size w5 v2 [5, 5, 5, 5, 5, 5, 5]) := hid (RowE.kept (HR2.out.same (Same.trans HK3.out HK4.out)) hk5 (fun k e h => by have h1 := HR2.out.lt e; have h2 := HK3.out.size; have := HPW.out; omega))
  clear hk5 HC5
  have HS1 := same_any v1 (.slice (some ⟨w5.heap.size, 0, none⟩) 4 4) _ _ _ [(17, 0), (3, 0), (16, 1), (0, 0)] (w5.alloc (.cells #[.int .i64 17, .int .i64 0, .int .i64 3, .int .i64 0, .int .i64 16, .int .i64 1, .int .i64 0, .int .i64 0] 31)) (SrcC.kept stC_ok (SrcC.ofRow stC_ok HR1b.out) ((Kept.refl (fun _ => False) w5).alloc _) (fun _ _ _ f => f)) (src_steps w5 _ 4 rfl) (by decide) (by decide)
  have hd1 : decide (([(17, 0), (3, 0), (16, 1), (0, 0)] : List (Int × Int)) = [(17, 0), (3, 0), (16, 1), (0, 0)]) = true := by simp
  rw [hd1] at HS1
  clear hd1
  go_wp2_with fail
  refine HS1.mono ?_
  rintro e w6 ⟨rfl, hk6⟩
  have HK6' : Hid (Same w5 w6) := hid (Same.trans ((Kept.refl _ w5).alloc _) hk6)
  have HK6 : Hid (Same w w6) := hid (Same.trans HK5.out HK6'.out)
  clear HS1 hk6
  have HS2 := keepInts_any v2 (.slice (some ⟨w6.heap.size, 0, none⟩) 7 7) _ _ [5, 5, 5, 5, 5, 5, 5] [5, 5, 5, 5, 5, 5, 5] (w6.alloc (.cells #[.int .i64 5, .int .i64 5, .int .i64 5, .int .i64 5, .int .i64 5, .int .i64 5, .int .i64 5] 3)) (((SrcE.ofRow (HR2b.out.same HK6'.out)).same ((Kept.refl _ w6).alloc _)).recode (enc' := intV) rfl) (src_ints w6 _ 7 rfl) (by decide) (by decide)
  have hd2 : decide (([5, 5, 5, 5, 5, 5, 5] : List Int) = [5, 5, 5, 5, 5, 5, 5]) = true := by simp
  rw [hd2] at HS2
  clear hd2
  go_wp2_with fail
  refine HS2.mono ?_
  rintro e w7 ⟨rfl, hk7⟩
  have HK7 : Hid (Same w w7) := hid (Same.trans HK6.out (Same.trans ((Kept.refl _ w6).alloc _) hk7))
  clear HS2 hk7
  go_wp2_with fail
  go_ret
  exact ⟨rfl, HK7.out⟩

end Go.Proofs.YtofhlnpbflkdlaaDoor

/-
  The reference's Read, walked.
-/
namespace Go.Proofs.YtofhlnpbflkdlaaDoor
open Go.RowKit

set_option maxRecDepth 100000 in
set_option maxHeartbeats 8000000 in
theorem rread_any (w : World) (v : Value) (I : Nat → Prop) (ls : List Nat) (a : Nat) (hs : Src w I v ls) (hIb : ∀ k, I k → k < w.heap.size) (hb : ∀ b ∈ ls, b < 2) (ha : a ≤ ls.length) (hlen : ls.length ≤ 100000000) :
    Calls Tryd.prog 25 #[v, .int .i64 (a : Nat)] w fun r w' => ReadA w w' r (readF ls a) := by
  obtain ⟨ao, cap, rfl, hsa⟩ := id hs
  clear hsa
  have HS : Hid (Src w I (.slice ao ls.length cap) ls) := hs
  have HI : Hid (∀ k, I k → k < w.heap.size) := hIb
  have HB : Hid (∀ b ∈ ls, b < 2) := hb
  obtain ⟨M, hM⟩ : ∃ M, M = ls.length := ⟨_, rfl⟩
  rw [← hM] at HS ha hlen ⊢
  have HM : Hid (M = ls.length) := hM
  clear hs hIb hb hM
  have HOR : Hid (SrcE natV (w.alloc (.cells #[.int .i64 16, .int .i64 17, .int .i64 18, .int .i64 0, .int .i64 8, .int .i64 7, .int .i64 9, .int .i64 6, .int .i64 10, .int .i64 5, .int .i64 11, .int .i64 4, .int .i64 12, .int .i64 3, .int .i64 13, .int .i64 2, .int .i64 14, .int .i64 1, .int .i64 15] 3)) (fun k => k = w.heap.size) (.slice (some ⟨w.heap.size, 0, none⟩) 19 19) ord) := src_nats w ord 19 rfl
  have HK0 : Hid (Same w (w.alloc (.cells #[.int .i64 16, .int .i64 17, .int .i64 18, .int .i64 0, .int .i64 8, .int .i64 7, .int .i64 9, .int .i64 6, .int .i64 10, .int .i64 5, .int .i64 11, .int .i64 4, .int .i64 12, .int .i64 3, .int .i64 13, .int .i64 2, .int .i64 14, .int .i64 1, .int .i64 15] 3))) := (Kept.refl _ w).alloc _
  have hz0 : (w.alloc (.cells #[.int .i64 16, .int .i64 17, .int .i64 18, .int .i64 0, .int .i64 8, .int .i64 7, .int .i64 9, .int .i64 6, .int .i64 10, .int .i64 5, .int .i64 11, .int .i64 4, .int .i64 12, .int .i64 3, .int .i64 13, .int .i64 2, .int .i64 14, .int .i64 1, .int .i64 15] 3)).heap.size = w.heap.size + 1 := by simp
  go_enter Tryd.func25, Tryd.ntmps25
  go_upto_region 2 with fail
  generalize w.alloc (.cells #[.int .i64 16, .int .i64 17, .int .i64 18, .int .i64 0, .int .i64 8, .int .i64 7, .int .i64 9, .int .i64 6, .int .i64 10, .int .i64 5, .int .i64 11, .int .i64 4, .int .i64 12, .int .i64 3, .int .i64 13, .int .i64 2, .int .i64 14, .int .i64 1, .int .i64 15] 3) = wO at *
  have HHA : Hid (HdB (wO.alloc (.cells #[.slice ao M cap, .int .i64 (a : Nat), .int .i64 0] 76)) wO.heap.size (.slice ao M cap) a 0) := Blk.new wO _ _
  have HKA : Hid (Same w (wO.alloc (.cells #[.slice ao M cap, .int .i64 (a : Nat), .int .i64 0] 76))) := hid (HK0.out.alloc _)
  have HOA : Hid (SrcE natV (wO.alloc (.cells #[.slice ao M cap, .int .i64 (a : Nat), .int .i64 0] 76)) (fun k => k = w.heap.size) (.slice (some ⟨w.heap.size, 0, none⟩) 19 19) ord) := hid (HOR.out.same ((Kept.refl _ wO).alloc _))
  go_upto_region 3 with fail
  generalize wO.alloc (.cells #[.slice ao M cap, .int .i64 (a : Nat), .int .i64 0] 76) = wA at *
  obtain ⟨h, hh⟩ : ∃ h, h = w.heap.size + 1 := ⟨_, rfl⟩
  rw [hz0, ← hh] at HHA
  rw [← hh]
  have HHW : Hid (h = w.heap.size + 1) := hh
  clear hh hz0 HOR HK0
  have HTK := fun (wx : World) (c e n : Nat) (hk : Same w wx) (hH : HdB wx h (.slice ao M cap) c e) (hn : n ≤ 32) (hc : c ≤ M) => htake_any wx h (.slice ao M cap) I ls c e n hH (HS.out.kept hk (fun _ _ _ f => f)) HB.out hn (by have := HM.out; omega) (by have := HM.out; omega)
  have HT : Hid (∀ (wx : World) (c e n : Nat), Same w wx → HdB wx h (.slice ao M cap) c e → n ≤ 32 → c ≤ M → Calls Tryd.prog 48 #[.pointer (some ⟨h, 0, none⟩), .int .i64 (n : Nat)] wx fun r w' => r = .returned (.int .i64 ((hTake ls c e n).1 : Nat)) ∧ HdB w' h (.slice ao M cap) (hTake ls c e n).2.1 (hTake ls c e n).2.2 ∧ Kept (· = h) wx w') := HTK
  clear HTK
  -- three numbers
  have T1 := HT.out wA a 0 5 HKA.out HHA.out (by decide) ha
  obtain ⟨x1, c1, e1, ht1⟩ : ∃ x c e, hTake ls a 0 5 = (x, c, e) := ⟨_, _, _, rfl⟩
  have hc1 : c1 ≤ M := by have := hTake_le ls a 0 5 (by have := HM.out; omega); rw [ht1] at this; have := HM.out; simp only at *; omega
  rw [ht1] at T1
  have HT1 : Hid (hTake ls a 0 5 = (x1, c1, e1)) := ht1
  have hx1 : x1 ≤ 31 := by
    have := numAt_lt ls HB.out a 5
    unfold hTake at ht1
    split at ht1
    · simp at ht1; omega
    · split at ht1
      · simp at ht1; omega
      · simp at ht1; omega
  clear ht1
  go_wp2_with fail
  refine T1.mono ?_
  rintro r w1 ⟨rfl, hh1, hk1⟩
  have HK1 : Hid (Same w w1) := hid (Same.then HKA.out hk1 (fun x hx e => by have := HHW.out; omega))
  have HH1 : Hid (HdB w1 h (.slice ao M cap) c1 e1) := hh1
  have HO1 : Hid (SrcE natV w1 (fun k => k = w.heap.size) (.slice (some ⟨w.heap.size, 0, none⟩) 19 19) ord) := hid (HOA.out.kept hk1 (fun k hk _ e => by have := HHW.out; omega))
  clear hh1 hk1 T1 HHA HOA HKA
  have T2 := HT.out w1 c1 e1 5 HK1.out HH1.out (by decide) hc1
  obtain ⟨x2, c2, e2, ht2⟩ : ∃ x c e, hTake ls c1 e1 5 = (x, c, e) := ⟨_, _, _, rfl⟩
  have hc2 : c2 ≤ M := by have := hTake_le ls c1 e1 5 (by have := HM.out; omega); rw [ht2] at this; have := HM.out; simp only at *; omega
  rw [ht2] at T2
  have HT2 : Hid (hTake ls c1 e1 5 = (x2, c2, e2)) := ht2
  have hx2 : x2 ≤ 31 := by
    have := numAt_lt ls HB.out c1 5
    unfold hTake at ht2
    split at ht2
    · simp at ht2; omega
    · split at ht2
      · simp at ht2; omega
      · simp at ht2; omega
  clear ht2
  go_wp2_with fail
  refine T2.mono ?_
  rintro r w2 ⟨rfl, hh2, hk2⟩
  have HK2 : Hid (Same w w2) := hid (Same.then HK1.out hk2 (fun x hx e => by have := HHW.out; omega))
  have HH2 : Hid (HdB w2 h (.slice ao M cap) c2 e2) := hh2
  have HO2 : Hid (SrcE natV w2 (fun k => k = w.heap.size) (.slice (some ⟨w.heap.size, 0, none⟩) 19 19) ord) := hid (HO1.out.kept hk2 (fun k hk _ e => by have := HHW.out; omega))
  clear hh2 hk2 T2 HH1 HO1
  have T3 := HT.out w2 c2 e2 4 HK2.out HH2.out (by decide) hc2
  obtain ⟨x3, c3, e3, ht3⟩ : ∃ x c e, hTake ls c2 e2 4 = (x, c, e) := ⟨_, _, _, rfl⟩
  have hc3 : c3 ≤ M := by have := hTake_le ls c2 e2 4 (by have := HM.out; omega); rw [ht3] at this; have := HM.out; simp only at *; omega
  rw [ht3] at T3
  have HT3 : Hid (hTake ls c2 e2 4 = (x3, c3, e3)) := ht3
  have hx3 : x3 ≤ 15 := by
    have := numAt_lt ls HB.out c2 4
    unfold hTake at ht3
    split at ht3
    · simp at ht3; omega
    · split at ht3
      · simp at ht3; omega
      · simp at ht3; omega
  clear ht3
  go_wp2_with fail
  refine T3.mono ?_
  rintro r w3 ⟨rfl, hh3, hk3⟩
  have HK3 : Hid (Same w w3) := hid (Same.then HK2.out hk3 (fun x hx e => by have := HHW.out; omega))
  have HH3 : Hid (HdB w3 h (.slice ao M cap) c3 e3) := hh3
  have HO3 : Hid (SrcE natV w3 (fun k => k = w.heap.size) (.slice (some ⟨w.heap.size, 0, none⟩) 19 19) ord) := hid (HO2.out.kept hk3 (fun k hk _ e => by have := HHW.out; omega))
  clear hh3 hk3 T3 HH2 HO2
  have k2 := HH3.out.cell 2
  simp at k2
  by_cases hfit : M < a + 14
  · have he3 : e3 = 10 := hTake_three ls a (by have := HM.out; omega) (x1, c1, e1) (x2, c2, e2) (x3, c3, e3) HT1.out HT2.out HT3.out
    have HE : Hid (readF ls a = .error 10) := hid (by unfold readF; rw [if_pos (by have := HM.out; omega)])
    subst he3
    clear hfit
    go_wp2_with fail
    go_quiet (fail)
    go_wp2_with fail
    refine bodyPost_ret (v := .tuple #[.slice none 0 0, .slice none 0 0, .int .i64 0, .int .i64 10]) (by simp [results, Tryd.results25, go_sem]) rfl ?_
    rw [HE.out]
    exact ⟨rfl, HK3.out.drewN _⟩
  · have hV : x1 = numAt ls a 5 ∧ x2 = numAt ls (a + 5) 5 ∧ x3 = numAt ls (a + 10) 4 ∧ c3 = a + 14 ∧ e3 = 0 := by
      have h1 := HT1.out
      rw [hTake_ok (by have := HM.out; omega)] at h1
      simp only [Prod.mk.injEq] at h1
      obtain ⟨rfl, rfl, rfl⟩ := h1
      have h2 := HT2.out
      rw [hTake_ok (by have := HM.out; omega)] at h2
      simp only [Prod.mk.injEq] at h2
      obtain ⟨rfl, rfl, rfl⟩ := h2
      have h3 := HT3.out
      rw [hTake_ok (by have := HM.out; omega)] at h3
      simp only [Prod.mk.injEq] at h3
      obtain ⟨rfl, rfl, rfl⟩ := h3
      exact ⟨rfl, rfl, rfl, rfl, rfl⟩
    have HV : Hid (x1 = numAt ls a 5 ∧ x2 = numAt ls (a + 5) 5 ∧ x3 = numAt ls (a + 10) 4) := hid ⟨hV.1, hV.2.1, hV.2.2.1⟩
    have hc3' : c3 = a + 14 := hV.2.2.2.1
    have he3 : e3 = 0 := hV.2.2.2.2
    have HC3 : Hid (c3 = a + 14) := hc3'
    subst he3
    clear hV hc3' HT1 HT2 HT3
    obtain ⟨lit, hlit⟩ : ∃ lit, lit = x1 + 257 := ⟨_, rfl⟩
    obtain ⟨dist, hdist⟩ : ∃ dist, dist = x2 + 1 := ⟨_, rfl⟩
    obtain ⟨many, hmany⟩ : ∃ many, many = x3 + 4 := ⟨_, rfl⟩
    have hlI : (x1 : Int) + 257 = (lit : Int) := by omega
    have hdI : (x2 : Int) + 1 = (dist : Int) := by omega
    have hmI : (x3 : Int) + 4 = (many : Int) := by omega
    have HRF : Hid (readF ls a = (if 286 < lit ∨ 30 < dist then .error 40
      else if M < a + 14 + 3 * many then .error 10
      else if chkN (codesF ls (a + 14) many) ≠ 0 then .error (chkN (codesF ls (a + 14) many))
      else match bodyF (codesF ls (a + 14) many) ls (lit + dist) (lit + dist) [] (a + 14 + 3 * many) with
        | .error e => .error e
        | .ok (l, c) => .ok ((l.take lit, l.drop lit), c - a))) := hid (by
      unfold readF
      rw [if_neg (by have := HM.out; omega), hlit, hdist, hmany, HV.out.1, HV.out.2.1, HV.out.2.2, HM.out]
      rfl)
    have hml : many ≤ 19 ∧ lit ≤ 288 ∧ dist ≤ 32 := by omega
    clear hlit hdist hmany HV hfit
    by_cases hbig : 286 < lit
    · have HE : Hid (readF ls a = .error 40) := hid (by rw [HRF.out, if_pos (.inl hbig)])
      have b1 : decide ((286 : Int) < (lit : Int)) = true := by simp; omega
      go_wp2_with fail
      refine bodyPost_ret (v := .tuple #[.slice none 0 0, .slice none 0 0, .int .i64 0, .int .i64 40]) (by simp [results, Tryd.results25, go_sem]) rfl ?_
      rw [HE.out]
      exact ⟨rfl, HK3.out⟩
    · have b1 : decide ((286 : Int) < (lit : Int)) = false := by simp; omega
      by_cases hbig2 : 30 < dist
      · have HE : Hid (readF ls a = .error 40) := hid (by rw [HRF.out, if_pos (.inr hbig2)])
        have b2 : decide ((30 : Int) < (dist : Int)) = true := by simp; omega
        go_wp2_with fail
        refine bodyPost_ret (v := .tuple #[.slice none 0 0, .slice none 0 0, .int .i64 0, .int .i64 40]) (by simp [results, Tryd.results25, go_sem]) rfl ?_
        rw [HE.out]
        exact ⟨rfl, HK3.out⟩
      · have b2 : decide ((30 : Int) < (dist : Int)) = false := by simp; omega
        have HRG : Hid (readF ls a = (if M < a + 14 + 3 * many then .error 10
          else if chkN (codesF ls (a + 14) many) ≠ 0 then .error (chkN (codesF ls (a + 14) many))
          else match bodyF (codesF ls (a + 14) many) ls (lit + dist) (lit + dist) [] (a + 14 + 3 * many) with
            | .error e => .error e
            | .ok (l, c) => .ok ((l.take lit, l.drop lit), c - a))) := hid (by rw [HRF.out, if_neg (by omega)])
        have hld : lit ≤ 286 ∧ dist ≤ 30 := by omega
        have hhz : h < w3.heap.size := HH3.out.lt
        clear hbig hbig2 HRF
        go_wp2_with (at_make; refine wpList_make_e _ natV 0 w3.heap.size 22 3 8 Tryd.underlying22 Tryd.infoN rfl (by decide) rfl _ _ rfl _ _ _ _ 19 rfl rfl rfl rfl (by omega) (Nat.le_refl _) ?_; intro w4 hr4 hg4 hs4; have HR4 : Hid (NRow w3.heap.size w4 (.slice (some ⟨w3.heap.size, 0, none⟩) 19 19) (codesF ls (a + 14) 0)) := hr4; have HKN : Hid (Same w3 w4) := hid ((Kept.refl _ w3).grown hg4 (by simp)); clear hr4 hg4)
        obtain ⟨gC, hgC⟩ : ∃ g, g = w3.heap.size := ⟨_, rfl⟩
        rw [← hgC] at HR4 hhz ⊢
        have hwh : w.heap.size < gC := by have := HHW.out; omega
        have hwh1 : w.heap.size < h := by have := HHW.out; omega
        have HK4 : Hid (Same w w4) := hid (Same.trans HK3.out HKN.out)
        have HH4 : Hid (HdB w4 h (.slice ao M cap) c3 0) := hid (HH3.out.kept HKN.out (fun f => f))
        have HO4 : Hid (SrcE natV w4 (fun k => k = w.heap.size) (.slice (some ⟨w.heap.size, 0, none⟩) 19 19) ord) := hid (HO3.out.same HKN.out)
        clear hgC HH3 HO3 k2 b1 b2 HKN
        go_loopg [14] many (fun q zi wr => ∃ (i c e : Nat) (xs : List Nat), many - i ≤ q ∧ i ≤ many ∧ zi = .int .i64 (i : Nat) ∧ c ≤ M ∧ Hid (HdB wr h (.slice ao M cap) c e) ∧ Hid (NRow gC wr (.slice (some ⟨gC, 0, none⟩) 19 19) xs) ∧ Hid (CodesAt ls a i c e xs) ∧ Hid (SrcE natV wr (fun k => k = w.heap.size) (.slice (some ⟨w.heap.size, 0, none⟩) 19 19) ord) ∧ Hid (Same w wr))
        case atStart => exact ⟨0, c3, 0, _, by omega, by omega, rfl, hc3, HH4, HR4, hid (.inl ⟨by have := HM.out; have := HC3.out; omega, by have := HC3.out; omega, rfl, rfl⟩), HO4, HK4⟩
        case round =>
          clear HR4 HH4 HO4 HK4
          obtain ⟨i, c, e, xs, hq, hi, rfl, hcM, HHr, HRr, HCr, HOr, HKr⟩ := hrel
          by_cases hlt : i < many
          · obtain ⟨b, o, cap2, e2, _, _, cO⟩ := HOr.out.get i (by show i < 19; omega)
            simp only [Value.slice.injEq, Option.some.injEq, Addr.mk.injEq, and_true] at e2
            obtain ⟨⟨rfl, rfl⟩, hxe, rfl⟩ := e2
            clear hxe
            obtain ⟨oi, hoi⟩ : ∃ oi, oi = ord.getD i 0 := ⟨_, rfl⟩
            have hio : i < ord.length := by show i < 19; omega
            have hog : ord[i] = oi := by rw [hoi]; simp [List.getD, hio]
            rw [hog, Nat.zero_add] at cO
            unfold natV at cO
            have ho18 : oi ≤ 18 := by rw [hoi]; exact ord_le i (by omega)
            obtain ⟨x, c', e', ht⟩ : ∃ x c' e', hTake ls c e 3 = (x, c', e') := ⟨_, _, _, rfl⟩
            have HTX0 := HT.out wr.drew c e 3 HKr.out.drew HHr.out (by decide) hcM
            rw [ht] at HTX0
            have HTX : Hid (Calls Tryd.prog 48 #[.pointer (some ⟨h, 0, none⟩), .int .i64 3] wr.drew fun r w' => r = .returned (.int .i64 (x : Nat)) ∧ HdB w' h (.slice ao M cap) c' e' ∧ Kept (· = h) wr.drew w') := HTX0
            have hc'M : c' ≤ M := by have := hTake_le ls c e 3 (by have := HM.out; omega); rw [ht] at this; have := HM.out; simp only at *; omega
            have HCN : Hid (CodesAt ls a (i + 1) c' e' (xs.set oi x)) := hid (by rw [hoi]; exact HCr.out.next ht)
            have hxl : xs.length = 19 := HRr.out.len
            have HXL : Hid (xs.length = 19) := hxl
            have hgh : ¬ gC = h := by omega
            have hwh2 : ¬ w.heap.size = h := by omega
            have hi19 : i < 19 := by omega
            have ho19 : oi < 19 := by omega
            have HCO : Hid (wr.cell? ⟨w.heap.size, i, none⟩ = some (.int .i64 (oi : Nat))) := cO
            clear hoi hio hog HTX0 ht hxl ho18
            go_wp2_with fail
            go_region_with (go_at_call 48; refine HTX.out.mono ?_; rintro r w5 ⟨rfl, hh5, hk5⟩; have cO5 : w5.cell? ⟨w.heap.size, i, none⟩ = some (.int .i64 (oi : Nat)) := hk5.cell HCO.out hwh2; have hr5 : NRow gC w5 (.slice (some ⟨gC, 0, none⟩) 19 19) xs := RowE.kept (show NRow gC wr.drew (.slice (some ⟨gC, 0, none⟩) 19 19) xs from HRr.out) hk5 (fun k hk e => by simp [Value.ownBlock] at hk; omega); have cS5 := hr5.cell oi (by have := HXL.out; omega); have fS5 := hr5.frozen oi; have HR5 : Hid (NRow gC w5 (.slice (some ⟨gC, 0, none⟩) 19 19) xs) := hr5; have HH5 : Hid (HdB w5 h (.slice ao M cap) c' e') := hh5; have HK5 : Hid (Kept (· = h) wr w5) := hid ⟨hk5.os, hk5.tape, hk5.output, hk5.size, hk5.block⟩; clear hr5 hh5 hk5)
            all_goals
              have HR6 : Hid (NRow gC (w5.setCell ⟨gC, oi, none⟩ (.int .i64 (x : Nat))) (.slice (some ⟨gC, 0, none⟩) 19 19) (xs.set oi x)) := hid (HR5.out.lay oi x)
              have HKS : Hid (Kept (· = gC) w5 (w5.setCell ⟨gC, oi, none⟩ (.int .i64 (x : Nat)))) := hid ((Kept.refl (· = gC) w5).setCell ⟨gC, oi, none⟩ _ (.inl rfl))
              have HH6 : Hid (HdB (w5.setCell ⟨gC, oi, none⟩ (.int .i64 (x : Nat))) h (.slice ao M cap) c' e') := hid (HH5.out.kept HKS.out (fun e => by omega))
              have HO6 : Hid (SrcE natV (w5.setCell ⟨gC, oi, none⟩ (.int .i64 (x : Nat))) (fun k => k = w.heap.size) (.slice (some ⟨w.heap.size, 0, none⟩) 19 19) ord) := hid ((HOr.out.kept HK5.out (fun k hk _ e => by omega)).kept HKS.out (fun k hk _ e => by omega))
              have HK6 : Hid (Same w (w5.setCell ⟨gC, oi, none⟩ (.int .i64 (x : Nat)))) := hid (Same.then (Same.then HKr.out HK5.out (fun x hx e => by omega)) HKS.out (fun x hx e => by omega))
              go_wp2_with fail
              go_roundg (gk - 1)
              case measure => omega
              case rel => exact ⟨i + 1, c', e', _, by omega, by omega, by go_num, hc'M, HH6, HR6, HCN, HO6, HK6⟩
          · have him : i = many := by omega
            subst him
            have hlt' : decide (i < i) = false := by simp
            clear hlt hq hi
            obtain ⟨w4, hw4⟩ : ∃ w4, w4 = wr := ⟨_, rfl⟩
            subst hw4
            have k2 := HHr.out.cell 2
            simp at k2
            by_cases hfit : M < a + 14 + 3 * i
            · have he : e = 10 := by
                rcases HCr.out with ⟨h1, _⟩ | ⟨_, h2⟩
                · have := HM.out; omega
                · exact h2
              have HE : Hid (readF ls a = .error 10) := hid (by rw [HRG.out, if_pos hfit])
              subst he
              clear hfit
              go_wp2_with fail
              go_quiet (fail)
              go_wp2_with fail
              refine bodyPost_ret (v := .tuple #[.slice none 0 0, .slice none 0 0, .int .i64 0, .int .i64 10]) (by simp [results, Tryd.results25, go_sem]) rfl ?_
              rw [HE.out]
              exact ⟨rfl, HKr.out.drewN _⟩
            · have hce : c = a + 14 + 3 * i ∧ e = 0 ∧ xs = codesF ls (a + 14) i := by
                rcases HCr.out with ⟨_, h1, h2, h3⟩ | ⟨h1, _⟩
                · exact ⟨h1, h2, h3⟩
                · have := HM.out; omega
              obtain ⟨hce1, rfl, hxs⟩ := hce
              have HCC : Hid (c = a + 14 + 3 * i) := hce1
              have h7 := codesF_le ls HB.out (a + 14) i
              have hl19 := codesF_length ls (a + 14) i
              rw [← hxs] at h7 hl19
              have HRH : Hid (readF ls a = (if chkN xs ≠ 0 then .error (chkN xs)
                else match bodyF xs ls (lit + dist) (lit + dist) [] c with
                  | .error e => .error e
                  | .ok (l, c) => .ok ((l.take lit, l.drop lit), c - a))) := hid (by rw [HRG.out, if_neg hfit, hxs, hce1])
              have HCK := rcheck_any w4 (.slice (some ⟨gC, 0, none⟩) 19 19) _ (xs.map (fun (n : Nat) => (n : Int))) (SrcE.recode (enc' := intV) (SrcE.ofRow HRr.out) (by rw [List.map_map]; rfl)) (by rw [List.length_map]; omega)
              rw [chk_codes xs hl19 h7] at HCK
              have HX7 : Hid ((∀ x ∈ xs, x ≤ 7) ∧ xs.length = 19) := ⟨h7, hl19⟩
              obtain ⟨ck, hck⟩ : ∃ ck, ck = chkN xs := ⟨_, rfl⟩
              rw [← hck] at HCK
              have hac : a ≤ c := by omega
              clear hce1 hxs hfit HRG HCr h7 hl19
              go_wp2_with fail
              clear hlt'
              refine HCK.mono ?_
              rintro r w5 ⟨rfl, hw5⟩
              subst hw5
              clear HCK
              by_cases hck0 : ck = 0
              · have hm : measure xs ≤ 32768 := by
                  rw [hck] at hck0
                  unfold chkN at hck0
                  split at hck0
                  · omega
                  · omega
                have HRO := rows_any w5 (.slice (some ⟨gC, 0, none⟩) 19 19) _ xs (SrcE.ofRow HRr.out) (by have := HX7.out.2; omega) (fun n hn => by have := HX7.out.1 n hn; omega) hm
                rw [HX7.out.2] at HRO
                have HRI : Hid (readF ls a = (match bodyF xs ls (lit + dist) (lit + dist) [] c with
                  | .error e => .error e
                  | .ok (l, c) => .ok ((l.take lit, l.drop lit), c - a))) := hid (by rw [HRH.out, if_neg (by omega)])
                rw [hck0]
                clear hck hck0 hm HRH
                go_wp2_with fail
                refine HRO.mono ?_
                rintro r w6 ⟨go, rs, rfl, hrw⟩
                have hgoR : w5.heap.size ≤ go := hrw.row.ge rfl
                have hh5 : h < w5.heap.size := HHr.out.lt
                have HRW6 : Hid (RW w w6 go 19 xs (fun s => key xs s ≠ 0) rs) := hid (hrw.down HKr.out)
                have HOFF : Hid (RowsOff w go xs rs h) := hid ⟨by omega, by omega, fun s hs hp e => by have := (hrw.have' s hs hp).2 h e; omega⟩
                have HH6 : Hid (HdB w6 h (.slice ao M cap) c 0) := hid (HHr.out.kept hrw.same (fun f => f))
                have HK6 : Hid (Same w w6) := hid (Same.trans HKr.out hrw.same)
                clear hrw HRO HRr HOr HHr HKr k2
                obtain ⟨N, hN⟩ : ∃ N, N = lit + dist := ⟨_, rfl⟩
                have hNI : (lit : Int) + (dist : Int) = (N : Int) := by omega
                have hN316 : N ≤ 316 := by omega
                have hlN : lit < N ∨ dist = 0 := by omega
                rw [← hN] at HRI
                have HN : Hid (N = lit + dist) := hN
                clear hN
                go_wp2_with fail
                go_loopg [17] N (fun q zl wr => ∃ (f c2 : Nat) (l : List Nat), f ≤ q ∧ N - l.length ≤ f ∧ l.length ≤ N ∧ c2 ≤ M ∧ a ≤ c2 ∧ Hid (bodyF xs ls N N [] c = bodyF xs ls N f l c2) ∧ Hid (∀ x ∈ l, x ≤ 15) ∧ Hid (NRow w.heap.size wr zl l) ∧ Hid (zl.ownBlock ≠ some h ∧ True) ∧ Hid (HdB wr h (.slice ao M cap) c2 0) ∧ Hid (RW w wr go 19 xs (fun s => key xs s ≠ 0) rs) ∧ Hid (Same w wr))
                case atStart => exact ⟨N, c, [], by omega, by simp, by simp, hcM, hac, hid rfl, hid (by simp), RowE.nil, hid ⟨by simp [Value.ownBlock], trivial⟩, HH6, HRW6, HK6⟩
                case round =>
                  clear HH6 HRW6 HK6
                  obtain ⟨f, c2, l, hfq, hfN, hlle, hc2M, hac2, HBD, H15, HL, HOL, HHr, HRW, HKr⟩ := hrel
                  obtain ⟨al, capl, hvl, hal, hal0, hlc, _⟩ := HL.out.shape
                  subst hvl
                  obtain ⟨Ln, hLn⟩ : ∃ Ln, Ln = l.length := ⟨_, rfl⟩
                  rw [← hLn] at HL hfN hlle hlc HOL ⊢
                  have HLn : Hid (Ln = l.length) := hLn
                  by_cases hlt : Ln < N
                  · obtain ⟨f', rfl⟩ : ∃ f', f = f' + 1 := ⟨f - 1, by omega⟩
                    have HST := hstep_any wr w h (.slice ao M cap) I ls c2 go 19 xs rs HHr.out (HS.out.kept HKr.out (fun _ _ _ g => g)) (fun k hk e => by have := HI.out k hk; have := HHW.out; omega) HB.out (by have := HM.out; omega) (by have := HM.out; omega) HRW.out HX7.out.2.symm (by decide) (fun s => by
                      by_cases e : s < xs.length
                      · rw [key_get e]; have := HX7.out.1 _ (List.getElem_mem e); omega
                      · simp [key, e]) HOFF.out
                    cases hsf : stepF xs ls c2 with
                    | error er =>
                      rw [hsf] at HST
                      have HE : Hid (readF ls a = .error er) := hid (by rw [HRI.out, HBD.out, bodyF_err (by omega) hsf])
                      clear hLn hsf
                      go_wp2_with fail
                      refine HST.mono ?_
                      rintro r w7 ⟨⟨ea, eb, ec, rfl, hh7, hne⟩, hk7⟩
                      have k2 := hh7.cell 2
                      simp at k2
                      have hh7l := hh7.lt
                      have HK7 : Hid (Same w w7) := hid (Same.then HKr.out hk7 (fun x hx e => by omega))
                      have hed : ((er : Int) != 0) = true := by simp; omega
                      have hnh : h ≠ w7.heap.size := by omega
                      have hnh2 : w7.heap.size ≠ h := by omega
                      clear hh7 hk7 hne HST
                      go_wp2_with fail
                      go_quiet (fail)
                      go_wp2_with fail
                      refine bodyPost_ret (v := .tuple #[.slice none 0 0, .slice none 0 0, .int .i64 0, .int .i64 (er : Nat)]) (by simp [results, Tryd.results25, go_sem]) rfl ?_
                      rw [HE.out]
                      exact ⟨rfl, (HK7.out.alloc _).drewN _⟩
                    | ok p =>
                      obtain ⟨⟨sy, ex⟩, c4⟩ := p
                      rw [hsf] at HST
                      have h4M := stepF_le hsf
                      have h4a := stepF_ge hsf
                      have HBS : Hid (bodyF xs ls N N [] c = match withM l ((sy : Int), (ex : Int)) N with | none => .error 41 | some m => bodyF xs ls N f' m c4) := hid (by rw [HBD.out, bodyF_step (by omega) hsf]; rfl)
                      clear hLn hsf
                      go_wp2_with fail
                      refine HST.mono ?_
                      rintro r w7 ⟨⟨rfl, hh7⟩, hk7⟩
                      have k2 := hh7.cell 2
                      simp at k2
                      have hh7l := hh7.lt
                      have HH7 : Hid (HdB w7 h (.slice ao M cap) c4 0) := hh7
                      have HK7 : Hid (Same w w7) := hid (Same.then HKr.out hk7 (fun x hx e => by omega))
                      have hlk : ∀ k, (Value.slice al Ln capl).ownBlock = some k → k ≠ h := fun k hk e => HOL.out.1 (by rw [hk, e])
                      have HL7 : Hid (NRow w.heap.size w7 (.slice al Ln capl) l) := hid (HL.out.kept hk7 hlk)
                      have HRW7 : Hid (RW w w7 go 19 xs (fun s => key xs s ≠ 0) rs) := hid (HRW.out.off HOFF.out hk7)
                      have hnh : h ≠ w7.heap.size := by omega
                      have hnh2 : w7.heap.size ≠ h := by omega
                      have HK8 : Hid (Same w7 (w7.alloc (.cells #[.int .i64 (sy : Nat), .int .i64 (ex : Nat)] 31))) := (Kept.refl _ w7).alloc _
                      have hs8 : (w7.alloc (.cells #[.int .i64 (sy : Nat), .int .i64 (ex : Nat)] 31)).heap.size = w7.heap.size + 1 := by simp
                      have HS8 : Hid ((w7.alloc (.cells #[.int .i64 (sy : Nat), .int .i64 (ex : Nat)] 31)).heap.size = w7.heap.size + 1) := hs8
                      clear hh7 hk7 HST hlk hs8
                      cases hwm : withM l ((sy : Int), (ex : Int)) N with
                      | none =>
                        have HE : Hid (readF ls a = .error 41) := hid (by rw [HRI.out, HBS.out, hwm])
                        have HW := with_no (w7.alloc (.cells #[.int .i64 (sy : Nat), .int .i64 (ex : Nat)] 31)) w.heap.size (.slice al Ln capl) l (sy : Int) (ex : Int) N (HL7.out.same HK8.out) (by have := HLn.out; omega) H15.out (by omega) hwm
                        clear hwm
                        go_wp2_with fail
                        refine HW.mono ?_
                        rintro r w9 ⟨rfl, hk9⟩
                        have HK9 : Hid (Same w w9) := hid (Same.trans HK7.out (Same.trans HK8.out hk9))
                        clear hk9 HW
                        go_wp2_with fail
                        refine bodyPost_ret (v := .tuple #[.slice none 0 0, .slice none 0 0, .int .i64 0, .int .i64 41]) (by simp [results, Tryd.results25, go_sem]) rfl ?_
                        rw [HE.out]
                        exact ⟨rfl, HK9.out⟩
                      | some m =>
                        have hgr := withM_grows hwm H15.out
                        have HBM : Hid (bodyF xs ls N N [] c = bodyF xs ls N f' m c4) := hid (by rw [HBS.out, hwm])
                        have H15m : Hid (∀ x ∈ m, x ≤ 15) := hid hgr.2.2
                        have hml : Ln < m.length ∧ m.length ≤ N := by have := HLn.out; omega
                        have HW := with_yes (w7.alloc (.cells #[.int .i64 (sy : Nat), .int .i64 (ex : Nat)] 31)) w.heap.size (.slice al Ln capl) l m (sy : Int) (ex : Int) N (HL7.out.same HK8.out) (by have := HLn.out; omega) H15.out (by omega) hwm
                        have h4M2 : c4 ≤ M := by have := HM.out; omega
                        clear hwm hgr h4M
                        go_wp2_with fail
                        refine HW.mono ?_
                        rintro r w9 ⟨v9, rfl, hn9⟩
                        have HK9 : Hid (Same w w9) := hid (Same.trans HK7.out (Same.trans HK8.out hn9.same))
                        have HL9 : Hid (NRow w.heap.size w9 v9 m) := hid (RowE.base hn9.row (by have h1 := HS8.out; have h2 := HK7.out.size; omega))
                        have HOL9 : Hid (v9.ownBlock ≠ some h ∧ True) := hid ⟨fun e => by have h1 := hn9.row.ge e; have h2 := HS8.out; omega, trivial⟩
                        have HH9 : Hid (HdB w9 h (.slice ao M cap) c4 0) := hid (HH7.out.kept (Same.trans HK8.out hn9.same) (fun f => f))
                        have HRW9 : Hid (RW w w9 go 19 xs (fun s => key xs s ≠ 0) rs) := hid (HRW7.out.later (Same.trans HK8.out hn9.same))
                        clear hn9 HW
                        go_wp2_with fail
                        go_roundg (gk - 1)
                        case measure => omega
                        case rel => exact ⟨f', c4, m, by omega, by omega, by omega, by omega, by omega, HBM, H15m, HL9, HOL9, HH9, HRW9, HK9⟩
                  · have hlN2 : Ln = N := by omega
                    have hlt' : decide (Ln < N) = false := by simp; omega
                    have HEND : Hid (readF ls a = .ok ((l.take lit, l.drop lit), c2 - a)) := hid (by rw [HRI.out, HBD.out, bodyF_end (by omega)])
                    obtain ⟨gl, hgl⟩ := hal (by intro e; rw [e] at hLn; simp at hLn; omega)
                    subst hgl
                    have hglb : w.heap.size ≤ gl := HL.out.ge rfl
                    have k1 := HHr.out.cell 1
                    simp at k1
                    obtain ⟨n, hn⟩ : ∃ n, n = c2 - a := ⟨_, rfl⟩
                    have hnI : (c2 : Int) - (a : Int) = (n : Int) := by omega
                    have hwn : IntKind.i64.wrap (n : Int) = (n : Int) := by rw [IntKind.wrap_i64]; omega
                    have hlitc : lit ≤ capl := by omega
                    have hlitL : lit ≤ Ln := by omega
                    have hlitc2 : lit < capl := by omega
                    have HSA : Hid (SrcE natV wr (fun k => w.heap.size ≤ k) (.slice (some ⟨gl, 0, none⟩) lit capl) (l.take lit)) := hid (by
                      have h0 := (SrcE.ofRow HL.out).mono (J := fun k => w.heap.size ≤ k) (fun k hk => by simp [Value.ownBlock] at hk; omega)
                      rw [hLn] at h0
                      exact h0.part lit (by omega))
                    have HSB : Hid (SrcE natV wr (fun k => w.heap.size ≤ k) (.slice (some ⟨gl, lit, none⟩) (Ln - lit) (capl - lit)) (l.drop lit)) := hid (by
                      have h0 := (SrcE.ofRow HL.out).mono (J := fun k => w.heap.size ≤ k) (fun k hk => by simp [Value.ownBlock] at hk; omega)
                      rw [hLn] at h0 ⊢
                      exact h0.tail lit lit (by omega) (fun _ => by omega))
                    rw [← hn] at HEND
                    clear hn hlt hLn hlN2
                    go_wp2_with fail
                    go_quiet (fail)
                    go_wp2_with fail
                    refine bodyPost_ret (v := .tuple #[.slice (some ⟨gl, 0, none⟩) lit capl, .slice (some ⟨gl, lit, none⟩) (Ln - lit) (capl - lit), .int .i64 (n : Nat), .int .i64 0]) (by simp [results, Tryd.results25, go_sem]) rfl ?_
                    rw [HEND.out]
                    exact ⟨⟨_, _, rfl, HSA.out.kept ((Kept.refl (fun _ => False) wr).drewN _) (fun _ _ _ f => f), HSB.out.kept ((Kept.refl (fun _ => False) wr).drewN _) (fun _ _ _ f => f)⟩, HKr.out.drewN _⟩
              · have hckd : ((ck : Int) != 0) = true := by simp; omega
                have HE : Hid (readF ls a = .error ck) := hid (by rw [HRH.out, if_pos (by omega), hck])
                clear hck hck0
                go_wp2_with fail
                refine bodyPost_ret (v := .tuple #[.slice none 0 0, .slice none 0 0, .int .i64 0, .int .i64 (ck : Nat)]) (by simp [results, Tryd.results25, go_sem]) rfl ?_
                rw [HE.out]
                exact ⟨rfl, HKr.out⟩

end Go.Proofs.YtofhlnpbflkdlaaDoor

/-
  The law LensReads.
-/
namespace Go.Proofs.YtofhlnpbflkdlaaDoor
open Go.RowKit

theorem src_nil (w : World) (I : Nat → Prop) : SrcE intV w I (.slice none 0 0) [] := ⟨none, 0, rfl, Nat.le_refl _, fun h => absurd rfl h⟩

theorem ints_nil (w : World) : Calls Tryd.prog 17 #[.slice none 0 0, .slice none 0 0] w fun e w' => e = .returned (.bool true) ∧ Same w w' := by
  have h := keepInts_any _ _ (fun _ => False) (fun _ => False) [] [] w (src_nil w _) (src_nil w _) (by decide) (by decide)
  exact h

theorem ints_same (w : World) (va vb : Value) (I J : Nat → Prop) (xs : List Nat) (ha : SrcE natV w I va xs) (hb : SrcE natV w J vb xs) (hx : xs.length ≤ 10000000) : Calls Tryd.prog 17 #[va, vb] w fun e w' => e = .returned (.bool true) ∧ Same w w' := by
  have e : (xs.map (fun (n : Nat) => (n : Int))).map intV = xs.map natV := by rw [List.map_map]; rfl
  have h := keepInts_any va vb I J (xs.map (fun (n : Nat) => (n : Int))) (xs.map (fun (n : Nat) => (n : Int))) w (ha.recode e) (hb.recode e) (by simpa using hx) (by simpa using hx)
  have hd : decide (xs.map (fun (n : Nat) => (n : Int)) = xs.map (fun (n : Nat) => (n : Int))) = true := by simp
  rw [hd] at h
  exact h

theorem bodyF_short {ns ls : List Nat} {N : Nat} {m : List Nat} {c c' : Nat} (h : bodyF ns ls N N [] c = .ok (m, c')) : m.length = N := (bodyF_ok N [] m c c' h (by simp) (by simp) (by simp)).1

theorem readF_short {ls : List Nat} {a n : Nat} {x y : List Nat} (h : readF ls a = .ok ((x, y), n)) (hb : ∀ b ∈ ls, b < 2) : x.length ≤ 1000 ∧ y.length ≤ 1000 := by
  unfold readF at h
  split at h
  · cases h
  · split at h
    · cases h
    · rename_i h2
      split at h
      · cases h
      · split at h
        · cases h
        · split at h
          · cases h
          · rename_i l c hbf
            simp only [Except.ok.injEq, Prod.mk.injEq] at h
            obtain ⟨⟨rfl, rfl⟩, _⟩ := h
            have := bodyF_short hbf
            have h1 := numAt_lt ls hb a 5
            have h3 := numAt_lt ls hb (a + 5) 5
            simp only [List.length_take, List.length_drop]
            omega

set_option maxRecDepth 100000 in
set_option maxHeartbeats 4000000 in
theorem reads_good (W : World) (a : Option Addr) (len cap k : Nat) (bs : List Nat) (hs : Src W (fun j => j < W.heap.size) (.slice a len cap) bs) (hl : bs.length = len) (hb : ∀ b ∈ bs, b < 256) (hlong : len ≤ 1048576) (hk7 : k ≤ 7) (hk8 : k ≤ 8 * len) (hT : Tab W) :
    Calls Tryd.prog 6 #[.slice a len cap, .int .i64 (k : Nat)] W fun e w' => e = .returned (.bool true) ∧ Same W w' := by
  have HG := goneR_any W _ _ bs k hs (by omega) hb (by omega)
  have HS : Hid (Src W (fun j => j < W.heap.size) (.slice a len cap) bs) := hs
  have HB : Hid (∀ b ∈ bs, b < 256) := hb
  have HT : Hid (Tab W) := hT
  have HL : Hid (bs.length = len) := hl
  have b1 : decide ((1048576 : Int) < (len : Int)) = false := by simp; omega
  have b2 : decide ((k : Int) < 0) = false := by simp
  have b3 : decide ((7 : Int) < (k : Int)) = false := by simp; omega
  obtain ⟨M, hM⟩ : ∃ M, M = 8 * len := ⟨_, rfl⟩
  have hMI : (8 : Int) * (len : Int) = (M : Int) := by omega
  have hMw : IntKind.i64.wrap (M : Int) = (M : Int) := by rw [IntKind.wrap_i64]; omega
  have b4 : decide ((M : Int) < (k : Int)) = false := by simp; omega
  have HM : Hid (M = 8 * bs.length) := hid (by rw [hM, hl])
  clear hs hb hT hl hM
  go_enter Tryd.func6, Tryd.ntmps6
  go_wp2_with fail
  refine HG.mono ?_
  rintro e w1 ⟨p, s, rfl, hst, hk1, hf⟩
  have HST1 : Hid (St w1 p s bs k) := hst
  have HK1 : Hid (Same W w1) := hk1
  have HF : Hid (∀ j, Fp p s j → W.heap.size ≤ j) := hf
  have HRD := lread_any w1 p k s bs hst (by rw [HL.out]; omega) (by rw [HL.out]; omega) (HT.out.kept hk1 (fun f => f)) (fun e => by have := HT.out.pos; have := hf p (.inl rfl); omega)
  clear hst hk1 hf HG b1 b2 b3 b4
  go_wp2_with fail
  refine HRD.mono ?_
  rintro e w2 ⟨hra, hk2⟩
  have HK2 : Hid (Same W w2) := hid (Same.then HK1.out hk2 (fun j hj e => by have := HF.out p (.inl rfl); omega))
  have HOF := refOf_any w2 _ _ bs (HS.out.kept HK2.out (fun _ _ _ f => f)) (by rw [HL.out]; omega) HB.out
  clear hk2 HRD
  cases hrf : readF (ofBytes bs) k with
  | error er =>
    rw [hrf] at hra
    obtain ⟨rfl, her, hs2⟩ := hra
    have HST2 : Hid (St w2 p s bs k) := hs2
    have HRF : Hid (readF (ofBytes bs) k = .error er) := hrf
    clear hs2 hrf her
    go_wp2_with fail
    refine HOF.mono ?_
    rintro e w3 ⟨v3, rfl, hg3⟩
    have hk3 : Same w2 w3 := hg3.kept.mono (fun _ _ e => by cases e)
    have HRR := rread_any w3 v3 _ (ofBytes bs) k (Src.ofRow hg3.row) (fun j e => hg3.row.lt e) (ofBytes_lt bs) (by rw [ofBytes_length, HL.out]; exact hk8) (by rw [ofBytes_length, HL.out]; omega)
    rw [HRF.out] at HRR
    have HK3 : Hid (Same w2 w3) := hk3
    clear hg3 hk3 HOF
    go_wp2_with fail
    refine HRR.mono ?_
    rintro e w4 ⟨rfl, hk4⟩
    have HK4 : Hid (Same W w4) := hid (Same.trans HK2.out (Same.trans HK3.out hk4))
    have HST4 : Hid (St w4 p s bs k) := hid (HST2.out.kept (Same.trans HK3.out hk4) (fun _ _ f => f))
    have HAW := lawake_any w4 (HT.out.kept HK4.out (fun f => f))
    clear hk4 HRR
    go_wp2_with fail
    refine HAW.mono ?_
    rintro e w5 ⟨rfl, hk5⟩
    have HK5 : Hid (Same w4 w5) := hk5
    have HI1 := ints_nil w5
    clear hk5 HAW
    go_wp2_with fail
    refine HI1.mono ?_
    rintro e w6 ⟨rfl, hk6⟩
    have HK6 : Hid (Same w4 w6) := hid (Same.trans HK5.out hk6)
    have HI2 := ints_nil w6
    clear hk6 HI1
    go_wp2_with fail
    refine HI2.mono ?_
    rintro e w7 ⟨rfl, hk7'⟩
    have HK7 : Hid (Same w4 w7) := hid (Same.trans HK6.out hk7')
    have HG7 := gone_any p k s bs w7 (HST4.out.kept HK7.out (fun _ _ f => f))
    have HL7 := left_any p k s bs w7 (HST4.out.kept HK7.out (fun _ _ f => f)) (by rw [HL.out]; exact hk8) (by rw [HL.out]; omega)
    obtain ⟨q, hq⟩ : ∃ q, q = M - k := ⟨_, rfl⟩
    rw [← HM.out, ← hq] at HL7
    have hqI : (M : Int) - (k : Int) = (q : Int) := by have := HM.out; have := HL.out; omega
    have hqw : IntKind.i64.wrap (q : Int) = (q : Int) := by rw [IntKind.wrap_i64]; have := HM.out; have := HL.out; omega
    clear hk7' HI2 hq
    go_wp2_with fail
    refine HG7.mono ?_
    rintro e w8 ⟨rfl, hw8⟩
    subst hw8
    clear HG7
    go_wp2_with fail
    refine HL7.mono ?_
    rintro e w9 ⟨rfl, m9, hw9⟩
    subst hw9
    clear HL7
    go_wp2_with fail
    go_ret
    exact ⟨rfl, (Same.trans HK4.out HK7.out).drewN _⟩
  | ok r =>
    obtain ⟨⟨xa, xb⟩, n⟩ := r
    rw [hrf] at hra
    obtain ⟨⟨va, vb, rfl, hra, hrb⟩, hc2, hs2⟩ := hra
    obtain ⟨t, ht⟩ : ∃ t, t = k + n := ⟨_, rfl⟩
    rw [← ht] at hs2 hc2
    have HST2 : Hid (St w2 p s bs t) := hs2
    have HRA : Hid (NRow w1.heap.size w2 va xa) := hra
    have HRB : Hid (NRow w1.heap.size w2 vb xb) := hrb
    have HRF : Hid (readF (ofBytes bs) k = .ok ((xa, xb), n)) := hrf
    have HSH : Hid (xa.length ≤ 1000 ∧ xb.length ≤ 1000) := hid (readF_short hrf (ofBytes_lt bs))
    have htI : (k : Int) + (n : Int) = (t : Int) := by omega
    have HTK : Hid (t = k + n ∧ t ≤ 8 * bs.length) := hid ⟨ht, hc2⟩
    have htw : IntKind.i64.wrap (t : Int) = (t : Int) := by rw [IntKind.wrap_i64]; have := HL.out; omega
    clear hs2 hrf hra hrb hc2 ht
    go_wp2_with fail
    refine HOF.mono ?_
    rintro e w3 ⟨v3, rfl, hg3⟩
    have hk3 : Same w2 w3 := hg3.kept.mono (fun _ _ e => by cases e)
    have HRR := rread_any w3 v3 _ (ofBytes bs) k (Src.ofRow hg3.row) (fun j e => hg3.row.lt e) (ofBytes_lt bs) (by rw [ofBytes_length, HL.out]; exact hk8) (by rw [ofBytes_length, HL.out]; omega)
    rw [HRF.out] at HRR
    have HK3 : Hid (Same w2 w3) := hk3
    clear hg3 hk3 HOF
    go_wp2_with fail
    refine HRR.mono ?_
    rintro e w4 ⟨⟨wa, wb, rfl, hwa, hwb⟩, hk4⟩
    have HWA : Hid (SrcE natV w4 (fun j => w3.heap.size ≤ j) wa xa) := hwa
    have HWB : Hid (SrcE natV w4 (fun j => w3.heap.size ≤ j) wb xb) := hwb
    have HK34 : Hid (Same w2 w4) := hid (Same.trans HK3.out hk4)
    have HK4 : Hid (Same W w4) := hid (Same.trans HK2.out HK34.out)
    have HST4 : Hid (St w4 p s bs t) := hid (HST2.out.kept HK34.out (fun _ _ f => f))
    have HAW := lawake_any w4 (HT.out.kept HK4.out (fun f => f))
    clear hk4 HRR hwa hwb
    go_wp2_with fail
    refine HAW.mono ?_
    rintro e w5 ⟨rfl, hk5⟩
    have HK5 : Hid (Same w4 w5) := hk5
    have HI1 := ints_same w5 va wa _ _ xa (SrcE.ofRow (HRA.out.same (Same.trans HK34.out hk5))) (HWA.out.same hk5) (by have := HSH.out; omega)
    clear hk5 HAW
    go_wp2_with fail
    refine HI1.mono ?_
    rintro e w6 ⟨rfl, hk6⟩
    have HK6 : Hid (Same w4 w6) := hid (Same.trans HK5.out hk6)
    have HI2 := ints_same w6 vb wb _ _ xb (SrcE.ofRow (HRB.out.same (Same.trans HK34.out HK6.out))) (HWB.out.same HK6.out) (by have := HSH.out; omega)
    clear hk6 HI1
    go_wp2_with fail
    refine HI2.mono ?_
    rintro e w7 ⟨rfl, hk7'⟩
    have HK7 : Hid (Same w4 w7) := hid (Same.trans HK6.out hk7')
    have HG7 := gone_any p t s bs w7 (HST4.out.kept HK7.out (fun _ _ f => f))
    have HL7 := left_any p t s bs w7 (HST4.out.kept HK7.out (fun _ _ f => f)) HTK.out.2 (by rw [HL.out]; omega)
    obtain ⟨q, hq⟩ : ∃ q, q = M - t := ⟨_, rfl⟩
    rw [← HM.out, ← hq] at HL7
    obtain ⟨q1, hq1⟩ : ∃ q, q = M - k := ⟨_, rfl⟩
    have hq1I : (M : Int) - (k : Int) = (q1 : Int) := by have := HM.out; have := HL.out; omega
    have hq1w : IntKind.i64.wrap (q1 : Int) = (q1 : Int) := by rw [IntKind.wrap_i64]; have := HM.out; have := HL.out; omega
    have hqI : (q1 : Int) - (n : Int) = (q : Int) := by have := HM.out; have := HL.out; have := HTK.out; omega
    have hqw : IntKind.i64.wrap (q : Int) = (q : Int) := by rw [IntKind.wrap_i64]; have := HM.out; have := HL.out; omega
    clear hk7' HI2 hq hq1
    go_wp2_with fail
    refine HG7.mono ?_
    rintro e w8 ⟨rfl, hw8⟩
    subst hw8
    clear HG7
    go_wp2_with fail
    refine HL7.mono ?_
    rintro e w9 ⟨rfl, m9, hw9⟩
    subst hw9
    clear HL7
    go_wp2_with fail
    go_ret
    exact ⟨rfl, (Same.trans HK4.out HK7.out).drewN _⟩

set_option maxRecDepth 100000 in
set_option maxHeartbeats 4000000 in
theorem lensReads_all (a : Option Addr) (len cap : Nat) (zs : List Int) (skip : Int) (W : World) (h : IsRow .u8 W a len cap zs) (_hm : (Lit.int .i64 skip).wf = true) (hT : Tab W) :
    Calls Tryd.prog 6 #[.slice a len cap, .int .i64 skip] W fun e w' => e = .returned (.bool true) ∧ Below W.heap.size W w' := by
  obtain ⟨bs, hs, hl, hb⟩ := h.src
  have hmax := h.max
  clear h
  suffices H : Calls Tryd.prog 6 #[.slice a len cap, .int .i64 skip] W fun e w' => e = .returned (.bool true) ∧ Same W w' from H.mono (fun e w' h => ⟨h.1, h.2.bel⟩)
  have HAW := lawake_any W hT
  by_cases hlong : 1048576 < len
  · have b1 : decide ((1048576 : Int) < (len : Int)) = true := by simp; omega
    clear hlong hl hs hmax
    go_enter Tryd.func6, Tryd.ntmps6
    go_wp2_with fail
    refine HAW.mono ?_
    rintro e w5 ⟨rfl, hk5⟩
    have HK5 : Hid (Same W w5) := hk5
    clear hk5 HAW
    go_wp2_with fail
    go_ret
    exact ⟨rfl, HK5.out⟩
  · have b1 : decide ((1048576 : Int) < (len : Int)) = false := by simp; omega
    by_cases hn : skip < 0
    · have b2 : decide (skip < 0) = true := by simp; omega
      clear hlong hl hs hmax hn
      go_enter Tryd.func6, Tryd.ntmps6
      go_wp2_with fail
      refine HAW.mono ?_
      rintro e w5 ⟨rfl, hk5⟩
      have HK5 : Hid (Same W w5) := hk5
      clear hk5 HAW
      go_wp2_with fail
      go_ret
      exact ⟨rfl, HK5.out⟩
    · have b2 : decide (skip < 0) = false := by simp; omega
      by_cases h7 : 7 < skip
      · have b3 : decide (7 < skip) = true := by simp; omega
        clear hlong hl hs hmax hn h7
        go_enter Tryd.func6, Tryd.ntmps6
        go_wp2_with fail
        refine HAW.mono ?_
        rintro e w5 ⟨rfl, hk5⟩
        have HK5 : Hid (Same W w5) := hk5
        clear hk5 HAW
        go_wp2_with fail
        go_ret
        exact ⟨rfl, HK5.out⟩
      · obtain ⟨k, rfl⟩ : ∃ n : Nat, skip = (n : Int) := ⟨skip.toNat, by omega⟩
        by_cases h8 : 8 * len < k
        · have b3 : decide ((7 : Int) < (k : Int)) = false := by simp; omega
          obtain ⟨M, hM⟩ : ∃ M, M = 8 * len := ⟨_, rfl⟩
          have hMI : (8 : Int) * (len : Int) = (M : Int) := by omega
          have hMw : IntKind.i64.wrap (M : Int) = (M : Int) := by rw [IntKind.wrap_i64]; omega
          have b4 : M < k := by omega
          clear hlong hl hs hmax hn h7 h8 hM
          go_enter Tryd.func6, Tryd.ntmps6
          go_wp2_with fail
          refine HAW.mono ?_
          rintro e w5 ⟨rfl, hk5⟩
          have HK5 : Hid (Same W w5) := hk5
          clear hk5 HAW
          go_wp2_with fail
          go_ret
          exact ⟨rfl, HK5.out⟩
        · exact reads_good W a len cap k bs hs hl hb (by omega) (by omega) (by omega) hT

end Go.Proofs.YtofhlnpbflkdlaaDoor

/-
  The law LensSteps.
-/
namespace Go.Proofs.YtofhlnpbflkdlaaDoor
open Go.RowKit

theorem unp_at_less (l : List Nat) (h15 : ∀ x ∈ l, x ≤ 15) (hn : l.length ≤ 316) : unpM (packM l) ((l.length : Int) - 1) = .error (if l.length = 0 then 1 else 41) := by
  by_cases h : l.length = 0
  · rw [if_pos h, unp_far _ _ (by omega)]
  · rw [if_neg h, unp_less l h15 hn (by omega)]

theorem unp_at_more (l : List Nat) (h15 : ∀ x ∈ l, x ≤ 15) (hn : l.length ≤ 316) : unpM (packM l) ((l.length : Int) + 1) = .error (if l.length = 316 then 1 else 41) := by
  by_cases h : l.length = 316
  · rw [if_pos h, unp_far _ _ (by omega)]
  · rw [if_neg h, unp_more l h15 (by omega)]

/-- Numbers of a list that may be, from 0 on. -/
theorem nat_of_ok {zs : List Int} (hok : lensOk zs = true) : (zs.map Int.toNat).map natV = zs.map intV ∧ ∀ x ∈ zs.map Int.toNat, x ≤ 15 := by
  have hb := (lensOk_iff zs).1 hok
  constructor
  · rw [List.map_map]
    refine List.map_congr_left (fun z hz => ?_)
    simp only [Function.comp, natV, intV]
    rw [Int.toNat_of_nonneg (hb z hz).1]
  · intro x hx
    obtain ⟨z, hz, rfl⟩ := List.mem_map.1 hx
    have := hb z hz
    omega

theorem int_of_ok {zs : List Int} (hok : lensOk zs = true) : (zs.map Int.toNat).map (fun (n : Nat) => (n : Int)) = zs := by
  have hb := (lensOk_iff zs).1 hok
  rw [List.map_map]
  conv => rhs; rw [← List.map_id zs]
  refine List.map_congr_left (fun z hz => ?_)
  simp only [Function.comp, id]
  rw [Int.toNat_of_nonneg (hb z hz).1]

set_option maxRecDepth 100000 in
set_option maxHeartbeats 800000 in
theorem steps_good (W : World) (a : Option Addr) (L cap : Nat) (zs : List Int) (ns : List Nat) (cl cm : Nat) (hs : SrcE intV W (fun k => k < W.heap.size) (.slice a L cap) zs) (hl : zs.length = L) (h316 : L ≤ 316) (hok : lensOk zs = true) (hns : ns = zs.map Int.toNat) (hT : Tab W)
    (hcl : cl = if L = 0 then 1 else 41) (hcm : cm = if L = 316 then 1 else 41) :
    Calls Tryd.prog 7 #[.slice a L cap] W fun e w' => e = .returned (.bool true) ∧ Same W w' := by
  have hn15 := (nat_of_ok hok).2
  rw [← hns] at hn15
  have hnl : ns.length = L := by rw [hns, List.length_map, hl]
  have HC1 := lpack_any W _ _ zs hs (by omega)
  rw [packA_good (by omega) hok, ← hns] at HC1
  have HU1 : Hid (unpM (packM ns) (L : Int) = .ok ns) := hid (by rw [← hnl]; exact unp_same ns hn15 (by omega))
  obtain ⟨lm, hlm⟩ : ∃ x : Int, (L : Int) - 1 = x := ⟨_, rfl⟩
  obtain ⟨lp, hlp⟩ : ∃ x : Int, (L : Int) + 1 = x := ⟨_, rfl⟩
  have HU2 : Hid (unpM (packM ns) lm = .error cl) := hid (by rw [hcl, ← hlm, ← hnl]; exact unp_at_less ns hn15 (by omega))
  have HU3 : Hid (unpM (packM ns) lp = .error cm) := hid (by rw [hcm, ← hlp, ← hnl]; exact unp_at_more ns hn15 (by omega))
  have hw3 : IntKind.i64.wrap lm = lm := by rw [IntKind.wrap_i64]; omega
  have hw4 : IntKind.i64.wrap lp = lp := by rw [IntKind.wrap_i64]; omega
  have hpl : (packM ns).length ≤ L := by have := packM_len ns; omega
  have HS : Hid (SrcE intV W (fun k => k < W.heap.size) (.slice a L cap) zs) := hs
  have HT : Hid (Tab W) := hT
  have HI : Hid (ns.map natV = zs.map intV) := hid (by rw [hns]; exact (nat_of_ok hok).1)
  have HZL : Hid (zs.length ≤ 10000000) := hid (by omega)
  have b1 : decide ((1048576 : Int) < (L : Int)) = false := by simp; omega
  have HCL : Hid (cl = if L = 0 then 1 else 41) := hcl
  have HCM : Hid (cm = if L = 316 then 1 else 41) := hcm
  clear hs hok hns hT hn15 hnl hl hcl hcm
  go_enter Tryd.func7, Tryd.ntmps7
  go_wp2_with fail
  refine HC1.mono ?_
  rintro e w1 ⟨v1, rfl, hr1, hk1⟩
  have HR1 : Hid (StRow W.heap.size w1 v1 (packM ns)) := hr1
  have HK1 : Hid (Same W w1) := hk1
  obtain ⟨a1, cap1, hv1, _⟩ := hr1.shape
  subst hv1
  obtain ⟨P, hP⟩ : ∃ P, P = (packM ns).length := ⟨_, rfl⟩
  rw [← hP] at HR1 hpl ⊢
  have HPL : Hid ((packM ns).length ≤ 10000000) := hid (by omega)
  clear hr1 hk1 HC1 hP
  have HC2 := lunpack_any w1 _ _ (packM ns) (L : Int) (SrcC.ofRow stC_ok HR1.out) HPL.out
  rw [HU1.out] at HC2
  go_wp2_with fail
  refine HC2.mono ?_
  rintro e w2 ⟨v2, rfl, hn2⟩
  have HR2 : Hid (NRow w1.heap.size w2 v2 ns) := hn2.row
  have HK2 : Hid (Same w1 w2) := hn2.same
  have HR1b : Hid (StRow W.heap.size w2 (.slice a1 P cap1) (packM ns)) := hid (RowC.kept HR1.out HK2.out (fun _ _ f => f))
  clear hn2 HC2 HR1
  have HC3 := lunpack_any w2 _ _ (packM ns) lm (SrcC.ofRow stC_ok HR1b.out) HPL.out
  rw [HU2.out] at HC3
  go_wp2_with fail
  refine HC3.mono ?_
  rintro e w3 ⟨rfl, hk3⟩
  have HK3 : Hid (Same w2 w3) := hk3
  have HR1c : Hid (StRow W.heap.size w3 (.slice a1 P cap1) (packM ns)) := hid (RowC.kept HR1b.out HK3.out (fun _ _ f => f))
  clear hk3 HC3 HR1b
  have HC4 := lunpack_any w3 _ _ (packM ns) lp (SrcC.ofRow stC_ok HR1c.out) HPL.out
  rw [HU3.out] at HC4
  go_wp2_with fail
  refine HC4.mono ?_
  rintro e w4 ⟨rfl, hk4⟩
  have HK4 : Hid (Same W w4) := hid (Same.trans (Same.trans HK1.out HK2.out) (Same.trans HK3.out hk4))
  have HR2b : Hid (NRow w1.heap.size w4 v2 ns) := hid (HR2.out.same (Same.trans HK3.out hk4))
  have HAW := lawake_any w4 (HT.out.kept HK4.out (fun f => f))
  clear hk4 HC4 HR1c HR2
  have HLAST : Hid (∀ w5, Same w4 w5 → Calls Tryd.prog 17 #[v2, .slice a L cap] w5 fun e w' => e = .returned (.bool true) ∧ Same w5 w') := hid (fun w5 hk => by
    have h := keepInts_any v2 (.slice a L cap) _ _ zs zs w5 ((SrcE.ofRow (HR2b.out.same hk)).recode (enc' := intV) HI.out.symm) (HS.out.same (Same.trans HK4.out hk)) HZL.out HZL.out
    have hd : decide (zs = zs) = true := by simp
    rw [hd] at h
    exact h)
  have hLP : decide ((P : Int) ≤ (L : Int)) = true := by simp; omega
  by_cases h0 : L = 0
  · subst h0
    have e1 : cl = 1 := by rw [HCL.out]; rfl
    have e2 : cm = 41 := by rw [HCM.out]; rfl
    subst e1 e2
    clear HCL HCM
    go_wp2_with fail
    refine HAW.mono ?_
    rintro e w5 ⟨rfl, hk5⟩
    have HL2 := HLAST.out w5 hk5
    have HK5 : Hid (Same W w5) := hid (Same.trans HK4.out hk5)
    clear hk5 HAW HLAST
    go_wp2_with fail
    refine HL2.mono ?_
    rintro e w6 ⟨rfl, hk6⟩
    have HK6 : Hid (Same W w6) := hid (Same.trans HK5.out hk6)
    clear hk6 HL2
    go_wp2_with fail
    go_ret
    exact ⟨rfl, HK6.out⟩
  · have e1 : cl = 41 := by rw [HCL.out, if_neg h0]
    have hL0 : ((L : Int) == 0) = false := by simp; omega
    have hL1 : 0 < L := by omega
    by_cases h3 : L = 316
    · have e2 : cm = 1 := by rw [HCM.out, if_pos h3]
      have hL3 : ((L : Int) == 316) = true := by simp; omega
      subst e1 e2
      clear HCL HCM h0 h3
      go_wp2_with fail
      refine HAW.mono ?_
      rintro e w5 ⟨rfl, hk5⟩
      have HL2 := HLAST.out w5 hk5
      have HK5 : Hid (Same W w5) := hid (Same.trans HK4.out hk5)
      clear hk5 HAW HLAST
      go_wp2_with fail
      refine HL2.mono ?_
      rintro e w6 ⟨rfl, hk6⟩
      have HK6 : Hid (Same W w6) := hid (Same.trans HK5.out hk6)
      clear hk6 HL2
      go_wp2_with fail
      go_ret
      exact ⟨rfl, HK6.out⟩
    · have e2 : cm = 41 := by rw [HCM.out, if_neg h3]
      subst e1 e2
      clear HCL HCM h0 h3
      go_wp2_with fail
      refine HAW.mono ?_
      rintro e w5 ⟨rfl, hk5⟩
      have HL2 := HLAST.out w5 hk5
      have HK5 : Hid (Same W w5) := hid (Same.trans HK4.out hk5)
      clear hk5 HAW HLAST
      go_wp2_with fail
      refine HL2.mono ?_
      rintro e w6 ⟨rfl, hk6⟩
      have HK6 : Hid (Same W w6) := hid (Same.trans HK5.out hk6)
      clear hk6 HL2
      go_wp2_with fail
      go_ret
      exact ⟨rfl, HK6.out⟩

set_option maxRecDepth 100000 in
set_option maxHeartbeats 4000000 in
theorem lensSteps_all (a : Option Addr) (len cap : Nat) (zs : List Int) (W : World) (h : IsRow .i64 W a len cap zs) (hT : Tab W) :
    Calls Tryd.prog 7 #[.slice a len cap] W fun e w' => e = .returned (.bool true) ∧ Below W.heap.size W w' := by
  obtain ⟨hs, hl⟩ := h.ints
  clear h
  suffices H : Calls Tryd.prog 7 #[.slice a len cap] W fun e w' => e = .returned (.bool true) ∧ Same W w' from H.mono (fun e w' h => ⟨h.1, h.2.bel⟩)
  have HAW := lawake_any W hT
  by_cases hlong : 1048576 < len
  · have b1 : decide ((1048576 : Int) < (len : Int)) = true := by simp; omega
    clear hlong hl hs
    go_enter Tryd.func7, Tryd.ntmps7
    go_wp2_with fail
    refine HAW.mono ?_
    rintro e w5 ⟨rfl, hk5⟩
    have HK5 : Hid (Same W w5) := hk5
    clear hk5 HAW
    go_wp2_with fail
    go_ret
    exact ⟨rfl, HK5.out⟩
  · by_cases hb : 316 < (zs.take len).length ∨ lensOk (zs.take len) = false
    · have HC1 := lpack_any W _ _ (zs.take len) hs (by omega)
      rw [packA_bad hb] at HC1
      have HT : Hid (Tab W) := hT
      have b1 : decide ((1048576 : Int) < (len : Int)) = false := by simp; omega
      clear hb hs hT hl HAW
      go_enter Tryd.func7, Tryd.ntmps7
      go_wp2_with fail
      refine HC1.mono ?_
      rintro e w1 ⟨rfl, hk1⟩
      have HK1 : Hid (Same W w1) := hk1
      have HAW := lawake_any w1 (HT.out.kept hk1 (fun f => f))
      clear hk1 HC1
      go_wp2_with fail
      refine HAW.mono ?_
      rintro e w5 ⟨rfl, hk5⟩
      have HK5 : Hid (Same W w5) := hid (Same.trans HK1.out hk5)
      clear hk5 HAW
      go_wp2_with fail
      go_ret
      exact ⟨rfl, HK5.out⟩
    · have hok : lensOk (zs.take len) = true := by
        cases hx : lensOk (zs.take len) with
        | true => rfl
        | false => exact absurd (.inr hx) hb
      exact steps_good W a len cap _ _ _ _ hs hl (by have h2 : ¬ 316 < (zs.take len).length := fun h => hb (.inl h); omega) hok rfl hT rfl rfl

end Go.Proofs.YtofhlnpbflkdlaaDoor

/-
  The law LensWrites.
-/
namespace Go.Proofs.YtofhlnpbflkdlaaDoor
open Go.RowKit

/-- Noughts and ones in turn. -/
def alt (n : Nat) : List Nat := (List.range n).map (fun i => i % 2)
theorem alt_length (n : Nat) : (alt n).length = n := by simp [alt]
theorem alt_succ (i : Nat) : alt (i + 1) = alt i ++ bitsOf (i % 2) 1 := by
  unfold alt
  rw [List.range_succ, List.map_append]
  congr 1
  simp [bitsOf]
theorem alt_get (n i : Nat) (h : i < (alt n).length) : (alt n)[i] = i % 2 := by simp [alt]

/-- Bytes of bits, the last one filled up with noughts. -/
theorem ofBytes_pad (bs X : List Nat) (hb : ∀ b ∈ bs, b < 256) (hX : ∀ b ∈ X, b < 2) (hn : n256 bs = n2 X) (hl : bs.length = (X.length + 7) / 8) : ofBytes bs = X ++ List.replicate (8 * bs.length - X.length) 0 := by
  refine n2_inj _ _ (by rw [ofBytes_length, List.length_append, List.length_replicate]; omega) (ofBytes_lt bs) (fun x hx => ?_) ?_
  · rcases List.mem_append.1 hx with h | h
    · exact hX x h
    · have := List.eq_of_mem_replicate h; omega
  · rw [ofBytes_n2 bs hb, n2_align, hn]

set_option maxRecDepth 100000 in
set_option maxHeartbeats 4000000 in
theorem writes_bad (W : World) (a b : Option Addr) (L cap D capd n : Nat) (zl zd : List Int) (hsl : SrcE intV W (fun k => k < W.heap.size) (.slice a L cap) zl) (hsd : SrcE intV W (fun k => k < W.heap.size) (.slice b D capd) zd) (hll : zl.length = L) (hdl : zd.length = D) (hL : L ≤ 1048576) (hD : D ≤ 1048576) (hn : n ≤ 100) (hm : mayM zl zd = false) (hT : Tab W) :
    Calls Tryd.prog 5 #[.slice a L cap, .slice b D capd, .int .i64 (n : Nat)] W fun e w' => e = .returned (.bool true) ∧ Same W w' := by
  have HSA : Hid (SrcE intV W (fun k => k < W.heap.size) (.slice a L cap) zl) := hsl
  have HSB : Hid (SrcE intV W (fun k => k < W.heap.size) (.slice b D capd) zd) := hsd
  have HLL : Hid (zl.length = L ∧ zd.length = D) := hid ⟨hll, hdl⟩
  have HT : Hid (Tab W) := hT
  have HMY : Hid (mayM zl zd = false) := hm
  have b1 : decide ((1048576 : Int) < (L : Int)) = false := by simp; omega
  have b2 : decide ((1048576 : Int) < (D : Int)) = false := by simp; omega
  have b3 : decide ((n : Int) < 0) = false := by simp
  have b4 : decide ((100 : Int) < (n : Int)) = false := by simp; omega
  have HNW := newWriter_any W
  clear hsl hsd hll hdl hT hm
  go_enter Tryd.func5, Tryd.ntmps5
  go_wp2_with fail
  refine HNW.mono ?_
  rintro e w1 ⟨rfl, hw1, hk1, hz1⟩
  have HW1 : Hid (WS w1 w1 W.heap.size (.slice none 0 0) (.slice none 0 0) (alt 0)) := hid (WS.start (by simpa [alt, n2] using hw1) (by simp [alt]))
  have HK1 : Hid (Same W w1) := hk1
  clear hw1 hk1 HNW b1 b2 b3 b4
  go_wp2_with fail
  go_loopg [8] n (fun q zi wr => ∃ (i : Nat) (si : Value), n - i ≤ q ∧ i ≤ n ∧ zi = .int .i64 (i : Nat) ∧ Hid (WS w1 wr W.heap.size (.slice none 0 0) si (alt i)))
  case atStart => exact ⟨0, .slice none 0 0, by omega, by omega, rfl, HW1⟩
  case round =>
    clear HW1
    obtain ⟨i, si, hq, hi, rfl, HWI⟩ := hrel
    by_cases hlt : i < n
    · have HP := ws_put w1 wr W.heap.size (.slice none 0 0) si (alt i) (i % 2) 1 HWI.out (by decide) (by omega) (by rw [alt_length]; omega)
      obtain ⟨m, hm⟩ : ∃ m, m = i % 2 := ⟨_, rfl⟩
      rw [← hm] at HP
      have HA : Hid (alt (i + 1) = alt i ++ bitsOf m 1) := hid (by rw [hm]; exact alt_succ i)
      have hmI : Int.tmod (i : Int) 2 = (m : Int) := by rw [hm]; exact (Int.ofNat_tmod i 2).symm
      have hmw : IntKind.u32.wrap (m : Int) = (m : Int) := by rw [IntKind.wrap_u32]; omega
      clear hm
      go_wp2_with fail
      refine HP.mono ?_
      rintro e wy ⟨rfl, ⟨sy, hwy⟩, hky⟩
      have HWY : Hid (WS w1 wy W.heap.size (.slice none 0 0) sy (alt (i + 1))) := hid (by rw [HA.out]; exact hwy)
      clear hwy HP hky
      go_wp2_with fail
      go_roundg (gk - 1)
      case measure => omega
      case rel => exact ⟨i + 1, sy, by omega, by omega, by go_num, HWY⟩
    · have hin : i = n := by omega
      subst hin
      clear hq hlt hi
      have hFP : ∀ k, Fp W.heap.size si k → k < wr.heap.size := fun k h => HWI.out.wr.fp_lt h
      have HFP : Hid (∀ k, Fp W.heap.size si k → k < wr.heap.size ∧ W.heap.size ≤ k) := hid (fun k h => ⟨hFP k h, by
        rcases h with e | e
        · omega
        · rcases HWI.out.own k e with h1 | h1
          · simp [Value.ownBlock] at h1
          · have := HK1.out.size; omega⟩)
      have hkA : Same W wr := Same.then HK1.out HWI.out.kept (fun k hk f => by
        rcases f with e | e
        · omega
        · simp [Value.ownBlock] at e)
      have HKA : Hid (Same W wr) := hkA
      have HLE := lent_any wr _ _ zl (HSA.out.same hkA) (by have := HLL.out.1; omega)
      rw [HLL.out.1] at HLE
      clear hFP hkA
      go_wp2_with fail
      refine HLE.mono ?_
      rintro e w2 ⟨gx, rfl, hL2, hk2, hgx1, hgx2⟩
      have HX2 : Hid (Lent w2 gx zl) := hL2
      have HK2 : Hid (Same wr w2) := hk2
      have HLE2 := lent_any w2 _ _ zd (HSB.out.same (Same.trans HKA.out hk2)) (by have := HLL.out.2; omega)
      rw [HLL.out.2] at HLE2
      clear hL2 hk2 HLE
      go_wp2_with fail
      refine HLE2.mono ?_
      rintro e w3 ⟨gy, rfl, hL3, hk3, hgy1, hgy2⟩
      have HY3 : Hid (Lent w3 gy zd) := hL3
      have HX3 : Hid (Lent w3 gx zl) := hid (HX2.out.kept hk3 (fun f => f))
      have HK3 : Hid (Same wr w3) := hid (Same.trans HK2.out hk3)
      have HKW3 : Hid (Same W w3) := hid (Same.trans HKA.out HK3.out)
      have HWS3 : Hid (WS w3 w3 W.heap.size si si (alt i)) := hid (WS.start (HWI.out.wr.kept HK3.out (fun _ _ f => f)) HWI.out.bit)
      have hsx := HX3.out.src
      have hsy := HY3.out.src
      rw [HLL.out.1] at hsx
      rw [HLL.out.2] at hsy
      have HWR := lwrite_bad w3 W.heap.size _ _ L (L + 1) D (D + 1) _ _ zl zd hsx hsy (by omega) (by omega) HMY.out
      clear hL3 hk3 HLE2 hsx hsy
      go_wp2_with fail
      refine HWR.mono ?_
      rintro e w4 ⟨rfl, hk4⟩
      have HK4 : Hid (Same w3 w4) := hk4
      have HKE := kept_any w4 gx _ _ zl (HX3.out.kept hk4 (fun f => f)) (HSA.out.same (Same.trans HKW3.out hk4)) (by have := HLL.out.1; omega)
      rw [HLL.out.1] at HKE
      clear hk4 HWR
      go_wp2_with fail
      refine HKE.mono ?_
      rintro e w5 ⟨rfl, hk5⟩
      have HK5 : Hid (Same w3 w5) := hid (Same.trans HK4.out hk5)
      have HKE2 := kept_any w5 gy _ _ zd (HY3.out.kept HK5.out (fun f => f)) (HSB.out.same (Same.trans HKW3.out HK5.out)) (by have := HLL.out.2; omega)
      rw [HLL.out.2] at HKE2
      clear hk5 HKE
      go_wp2_with fail
      refine HKE2.mono ?_
      rintro e w6 ⟨rfl, hk6⟩
      have HK6 : Hid (Same w3 w6) := hid (Same.trans HK5.out hk6)
      have HMA := may_any w6 _ _ _ _ zl zd (HSA.out.same (Same.trans HKW3.out HK6.out)) (HSB.out.same (Same.trans HKW3.out HK6.out)) (by have := HLL.out.1; omega) (by have := HLL.out.2; omega)
      rw [HMY.out] at HMA
      clear hk6 HKE2
      go_wp2_with fail
      refine HMA.mono ?_
      rintro e w7 ⟨rfl, hw7⟩
      subst hw7
      have HAW := lawake_any w7 (HT.out.kept (Same.trans HKW3.out HK6.out) (fun f => f))
      clear HMA
      go_wp2_with fail
      refine HAW.mono ?_
      rintro e w8 ⟨rfl, hk8⟩
      have HK8 : Hid (Same w3 w8) := hid (Same.trans HK6.out hk8)
      have HLN := len_any W.heap.size _ _ si w8 (HWS3.out.wr.kept HK8.out (fun _ _ f => f))
      rw [alt_length] at HLN
      clear hk8 HAW
      go_wp2_with fail
      refine HLN.mono ?_
      rintro e w9 ⟨rfl, hw9⟩
      subst hw9
      clear HLN
      go_wp2_with fail
      go_ret
      exact ⟨rfl, Same.trans HKW3.out HK8.out⟩

set_option maxRecDepth 100000 in
set_option maxHeartbeats 1000000 in
theorem writes_good (W : World) (a b : Option Addr) (L cap D capd n : Nat) (zl zd : List Int) (hsl : SrcE intV W (fun k => k < W.heap.size) (.slice a L cap) zl) (hsd : SrcE intV W (fun k => k < W.heap.size) (.slice b D capd) zd) (hll : zl.length = L) (hdl : zd.length = D) (hL : L ≤ 1048576) (hD : D ≤ 1048576) (hn : n ≤ 100) (hm : mayM zl zd = true) (hT : Tab W) :
    Calls Tryd.prog 5 #[.slice a L cap, .slice b D capd, .int .i64 (n : Nat)] W fun e w' => e = .returned (.bool true) ∧ Same W w' := by
  have HSA : Hid (SrcE intV W (fun k => k < W.heap.size) (.slice a L cap) zl) := hsl
  have HSB : Hid (SrcE intV W (fun k => k < W.heap.size) (.slice b D capd) zd) := hsd
  have HLL : Hid (zl.length = L ∧ zd.length = D) := hid ⟨hll, hdl⟩
  have HT : Hid (Tab W) := hT
  have HMY : Hid (mayM zl zd = true) := hm
  have b1 : decide ((1048576 : Int) < (L : Int)) = false := by simp; omega
  have b2 : decide ((1048576 : Int) < (D : Int)) = false := by simp; omega
  have b3 : decide ((n : Int) < 0) = false := by simp
  have b4 : decide ((100 : Int) < (n : Int)) = false := by simp; omega
  have HNW := newWriter_any W
  clear hsl hsd hll hdl hT hm
  go_enter Tryd.func5, Tryd.ntmps5
  go_wp2_with fail
  refine HNW.mono ?_
  rintro e w1 ⟨rfl, hw1, hk1, hz1⟩
  have HW1 : Hid (WS w1 w1 W.heap.size (.slice none 0 0) (.slice none 0 0) (alt 0)) := hid (WS.start (by simpa [alt, n2] using hw1) (by simp [alt]))
  have HK1 : Hid (Same W w1) := hk1
  clear hw1 hk1 HNW b1 b2 b3 b4
  go_wp2_with fail
  go_loopg [8] n (fun q zi wr => ∃ (i : Nat) (si : Value), n - i ≤ q ∧ i ≤ n ∧ zi = .int .i64 (i : Nat) ∧ Hid (WS w1 wr W.heap.size (.slice none 0 0) si (alt i)))
  case atStart => exact ⟨0, .slice none 0 0, by omega, by omega, rfl, HW1⟩
  case round =>
    clear HW1
    obtain ⟨i, si, hq, hi, rfl, HWI⟩ := hrel
    by_cases hlt : i < n
    · have HP := ws_put w1 wr W.heap.size (.slice none 0 0) si (alt i) (i % 2) 1 HWI.out (by decide) (by omega) (by rw [alt_length]; omega)
      obtain ⟨m, hm⟩ : ∃ m, m = i % 2 := ⟨_, rfl⟩
      rw [← hm] at HP
      have HA : Hid (alt (i + 1) = alt i ++ bitsOf m 1) := hid (by rw [hm]; exact alt_succ i)
      have hmI : Int.tmod (i : Int) 2 = (m : Int) := by rw [hm]; exact (Int.ofNat_tmod i 2).symm
      have hmw : IntKind.u32.wrap (m : Int) = (m : Int) := by rw [IntKind.wrap_u32]; omega
      clear hm
      go_wp2_with fail
      refine HP.mono ?_
      rintro e wy ⟨rfl, ⟨sy, hwy⟩, hky⟩
      have HWY : Hid (WS w1 wy W.heap.size (.slice none 0 0) sy (alt (i + 1))) := hid (by rw [HA.out]; exact hwy)
      clear hwy HP hky
      go_wp2_with fail
      go_roundg (gk - 1)
      case measure => omega
      case rel => exact ⟨i + 1, sy, by omega, by omega, by go_num, HWY⟩
    · have hin : i = n := by omega
      subst hin
      clear hq hlt hi
      have hFP : ∀ k, Fp W.heap.size si k → k < wr.heap.size := fun k h => HWI.out.wr.fp_lt h
      have HFP : Hid (∀ k, Fp W.heap.size si k → k < wr.heap.size ∧ W.heap.size ≤ k) := hid (fun k h => ⟨hFP k h, by
        rcases h with e | e
        · omega
        · rcases HWI.out.own k e with h1 | h1
          · simp [Value.ownBlock] at h1
          · have := HK1.out.size; omega⟩)
      have hkA : Same W wr := Same.then HK1.out HWI.out.kept (fun k hk f => by
        rcases f with e | e
        · omega
        · simp [Value.ownBlock] at e)
      have HKA : Hid (Same W wr) := hkA
      have HLE := lent_any wr _ _ zl (HSA.out.same hkA) (by have := HLL.out.1; omega)
      rw [HLL.out.1] at HLE
      clear hFP hkA
      go_wp2_with fail
      refine HLE.mono ?_
      rintro e w2 ⟨gx, rfl, hL2, hk2, hgx1, hgx2⟩
      have HX2 : Hid (Lent w2 gx zl) := hL2
      have HK2 : Hid (Same wr w2) := hk2
      have HLE2 := lent_any w2 _ _ zd (HSB.out.same (Same.trans HKA.out hk2)) (by have := HLL.out.2; omega)
      rw [HLL.out.2] at HLE2
      clear hL2 hk2 HLE
      go_wp2_with fail
      refine HLE2.mono ?_
      rintro e w3 ⟨gy, rfl, hL3, hk3, hgy1, hgy2⟩
      have HY3 : Hid (Lent w3 gy zd) := hL3
      have HX3 : Hid (Lent w3 gx zl) := hid (HX2.out.kept hk3 (fun f => f))
      have HK3 : Hid (Same wr w3) := hid (Same.trans HK2.out hk3)
      have HKW3 : Hid (Same W w3) := hid (Same.trans HKA.out HK3.out)
      have HWS3 : Hid (WS w3 w3 W.heap.size si si (alt i)) := hid (WS.start (HWI.out.wr.kept HK3.out (fun _ _ f => f)) HWI.out.bit)
      have hsx := HX3.out.src
      have hsy := HY3.out.src
      rw [HLL.out.1] at hsx
      rw [HLL.out.2] at hsy
      have HWR := lwrite_good w3 W.heap.size si (alt i) _ _ L (L + 1) D (D + 1) _ _ zl zd hsx hsy HMY.out HWS3.out (by rw [alt_length]; omega) (HT.out.kept HKW3.out (fun f => f)) (fun f => by have h1 := (HFP.out _ f).2; have h2 := HT.out.pos; omega)
      clear hL3 hk3 HLE2 hsx hsy
      go_wp2_with fail
      refine HWR.mono ?_
      rintro e w4 ⟨rfl, s4, many, cs, sn, hho, hsn, hws4⟩
      have hhl := head_len hho hsn
      have hrl := fun B hB => readF_laid hho (alt i) B hB
      obtain ⟨hb, hhb⟩ : ∃ hb, hb = headBits (zl.map Int.toNat).length (zd.map Int.toNat).length many cs sn := ⟨_, rfl⟩
      rw [← hhb] at hhl hrl hws4
      rw [alt_length] at hrl
      have HRL : Hid (∀ B : List Nat, (∀ b ∈ B, b < 2) → readF (alt i ++ (hb ++ B)) i = .ok ((zl.map Int.toNat, zd.map Int.toNat), hb.length)) := hid hrl
      obtain ⟨H, hH⟩ : ∃ H, H = hb.length := ⟨_, rfl⟩
      rw [List.length_map, List.length_map, HLL.out.1, HLL.out.2, ← hH] at hhl
      have HHE : Hid (H = hb.length) := hH
      have HWS4 : Hid (WS w3 w4 W.heap.size si s4 (alt i ++ hb)) := hws4
      have HKW4 : Hid (Same W w4) := hid (Same.then HKW3.out hws4.kept (fun k hk f => by have := (HFP.out k f).2; omega))
      obtain ⟨hl1, hl2, hd1, hd2, hokl, hokd⟩ := mayM_parts HMY.out
      rw [HLL.out.1] at hl1 hl2
      rw [HLL.out.2] at hd1 hd2
      have HNA : Hid ((zl.map Int.toNat).map natV = zl.map intV) := hid (nat_of_ok hokl).1
      have HNB : Hid ((zd.map Int.toNat).map natV = zd.map intV) := hid (nat_of_ok hokd).1
      have HKE := kept_any w4 gx _ _ zl (HX3.out.kept hws4.kept (fun f => by have := (HFP.out gx f).1; omega)) (HSA.out.same HKW4.out) (by have := HLL.out.1; omega)
      rw [HLL.out.1] at HKE
      have HY4 : Hid (Lent w4 gy zd) := hid (HY3.out.kept hws4.kept (fun f => by have := (HFP.out gy f).1; have := HK2.out.size; omega))
      clear hho hsn hrl hhb hH hws4 HWR hokl hokd
      go_wp2_with fail
      refine HKE.mono ?_
      rintro e w5 ⟨rfl, hk5⟩
      have HK5 : Hid (Same w4 w5) := hk5
      have HKE2 := kept_any w5 gy _ _ zd (HY4.out.kept HK5.out (fun f => f)) (HSB.out.same (Same.trans HKW4.out HK5.out)) (by have := HLL.out.2; omega)
      rw [HLL.out.2] at HKE2
      clear hk5 HKE
      go_wp2_with fail
      refine HKE2.mono ?_
      rintro e w6 ⟨rfl, hk6⟩
      have HK6 : Hid (Same w4 w6) := hid (Same.trans HK5.out hk6)
      have HMA := may_any w6 _ _ _ _ zl zd (HSA.out.same (Same.trans HKW4.out HK6.out)) (HSB.out.same (Same.trans HKW4.out HK6.out)) (by have := HLL.out.1; omega) (by have := HLL.out.2; omega)
      rw [HMY.out] at HMA
      clear hk6 HKE2
      go_wp2_with fail
      refine HMA.mono ?_
      rintro e w7 ⟨rfl, hw7⟩
      subst hw7
      have HWS7 : Hid (WS w3 w7 W.heap.size si s4 (alt i ++ hb)) := hid (HWS4.out.same HK6.out)
      obtain ⟨t, ht⟩ : ∃ t, t = i + H := ⟨_, rfl⟩
      have HTL : Hid ((alt i ++ hb).length = t) := hid (by rw [List.length_append, alt_length, ht, HHE.out])
      have HBY := wbytes_any W.heap.size _ _ s4 w7 HWS7.out.wr (by rw [HTL.out]; omega)
      clear HMA
      go_wp2_with fail
      refine HBY.mono ?_
      rintro e w8 ⟨g8, bs, rfl, hr8, hb8, hn8, hl8, hk8, _⟩
      rw [HTL.out] at hl8
      have hpad := ofBytes_pad bs (alt i ++ hb) hb8 HWS7.out.bit hn8 (by rw [HTL.out]; exact hl8)
      have HPAD : Hid (ofBytes bs = alt i ++ (hb ++ List.replicate (8 * bs.length - t) 0)) := hid (by rw [hpad, HTL.out, List.append_assoc])
      have HRF : Hid (readF (ofBytes bs) i = .ok ((zl.map Int.toNat, zd.map Int.toNat), H)) := hid (by
        rw [HPAD.out, HHE.out]
        exact HRL.out _ (fun x hx => by have := List.eq_of_mem_replicate hx; omega))
      have hbl : bs.length ≤ 100000 := by omega
      have HOF := refOf_any w8 _ _ bs (Src.ofRow hr8) (by omega) hb8
      have HK8 : Hid (Same w4 w8) := hid (Same.trans HK6.out hk8)
      have HIB : Hid (i ≤ 8 * bs.length) := hid (by omega)
      obtain ⟨M8, hM8⟩ : ∃ M, M = bs.length := ⟨_, rfl⟩
      rw [← hM8] at HOF ⊢
      have HM8 : Hid (M8 = bs.length) := hM8
      clear hr8 hb8 hn8 hk8 hpad HBY hl8 hM8
      go_wp2_with fail
      refine HOF.mono ?_
      rintro e w9 ⟨v9, rfl, hg9⟩
      have hk9 : Same w8 w9 := hg9.kept.mono (fun _ _ e => by cases e)
      have HR9 : Hid (Row w9 v9 (ofBytes bs)) := hg9.row
      have HRR := rread_any w9 v9 _ (ofBytes bs) i (Src.ofRow hg9.row) (fun j e => hg9.row.lt e) (ofBytes_lt bs) (by rw [ofBytes_length]; exact HIB.out) (by rw [ofBytes_length]; omega)
      rw [HRF.out] at HRR
      have HK9 : Hid (Same w4 w9) := hid (Same.trans HK8.out hk9)
      obtain ⟨a9, cap9, hv9, hg9s⟩ := hg9.row.shape
      subst hv9
      obtain ⟨Q9, hQ9⟩ : ∃ Q, Q = (ofBytes bs).length := ⟨_, rfl⟩
      rw [← hQ9] at HR9 HRR ⊢
      have HQ9 : Hid (Q9 = (ofBytes bs).length ∧ i ≤ Q9) := hid ⟨hQ9, by rw [hQ9, ofBytes_length]; exact HIB.out⟩
      clear hg9 hk9 HOF hg9s hQ9
      go_wp2_with fail
      refine HRR.mono ?_
      rintro e w10 ⟨⟨wa, wb, rfl, hwa, hwb⟩, hk10⟩
      have HWA : Hid (SrcE natV w10 (fun j => w9.heap.size ≤ j) wa (zl.map Int.toNat)) := hwa
      have HWB : Hid (SrcE natV w10 (fun j => w9.heap.size ≤ j) wb (zd.map Int.toNat)) := hwb
      have HK10 : Hid (Same w4 w10) := hid (Same.trans HK9.out hk10)
      have HR10 : Hid (Src w10 (fun k => (Value.slice a9 Q9 cap9).ownBlock = some k) (.slice a9 Q9 cap9) (ofBytes bs)) := hid (Src.ofRow (HR9.out.kept hk10 (fun _ _ f => f)))
      clear hwa hwb hk10 HRR
      go_wp2_with fail
      go_loopg [18] i (fun q zj wr => ∃ (j : Nat), i - j ≤ q ∧ j ≤ i ∧ zj = .int .i64 (j : Nat) ∧ wr = w10)
      case atStart => exact ⟨0, by omega, by omega, rfl, rfl⟩
      case round =>
        obtain ⟨j, hq, hj, rfl, hwr⟩ := hrel
        subst hwr
        by_cases hlt : j < i
        · have hjl : j < (ofBytes bs).length := by have := HQ9.out; omega
          obtain ⟨b9, o9, rfl, cj⟩ : ∃ b o, a9 = some ⟨b, o, none⟩ ∧ wr.cell? ⟨b, o + j, none⟩ = some (.int .u8 ((ofBytes bs)[j] : Nat)) := by
            obtain ⟨ao, cp, e, hc⟩ := HR10.out
            simp only [Value.slice.injEq] at e
            obtain ⟨rfl, _, rfl⟩ := e
            obtain ⟨b, o, e, _, hc⟩ := hc (fun e => by rw [e] at hjl; simp at hjl)
            exact ⟨b, o, e, hc j hjl⟩
          have hval : (ofBytes bs)[j] = j % 2 := by
            have h1 : (ofBytes bs)[j]? = some (j % 2) := by
              rw [HPAD.out, List.getElem?_append_left (by rw [alt_length]; exact hlt), List.getElem?_eq_getElem (by rw [alt_length]; exact hlt), alt_get]
            rw [List.getElem?_eq_getElem hjl] at h1
            exact Option.some.inj h1
          rw [hval] at cj
          obtain ⟨m, hm⟩ : ∃ m, m = j % 2 := ⟨_, rfl⟩
          rw [← hm] at cj
          have hmI : Int.tmod (j : Int) 2 = (m : Int) := by rw [hm]; exact (Int.ofNat_tmod j 2).symm
          have hmw : IntKind.i64.wrap (m : Int) = (m : Int) := by rw [IntKind.wrap_i64]; omega
          have hjQ : j < Q9 := by have := HQ9.out; omega
          clear hval hm hjl
          go_wp2_with fail
          go_roundg (gk - 1)
          case measure => omega
          case rel => exact ⟨j + 1, by omega, by omega, by go_num, rfl⟩
        · have hji : j = i := by omega
          subst hji
          clear hq hlt
          have HAW := lawake_any wr (HT.out.kept (Same.trans HKW4.out HK10.out) (fun f => f))
          go_wp2_with fail
          refine HAW.mono ?_
          rintro e w11 ⟨rfl, hk11⟩
          have HK11 : Hid (Same wr w11) := hk11
          have HK411 : Hid (Same w4 w11) := hid (Same.trans HK10.out hk11)
          have HI1 := ints_same w11 wa _ _ _ (zl.map Int.toNat) (HWA.out.same hk11) ((HSA.out.same (Same.trans HKW4.out HK411.out)).recode HNA.out) (by rw [List.length_map, HLL.out.1]; omega)
          clear hk11 HAW
          go_wp2_with fail
          refine HI1.mono ?_
          rintro e w12 ⟨rfl, hk12⟩
          have HK412 : Hid (Same w4 w12) := hid (Same.trans HK411.out hk12)
          have HI2 := ints_same w12 wb _ _ _ (zd.map Int.toNat) (HWB.out.same (Same.trans HK11.out hk12)) ((HSB.out.same (Same.trans HKW4.out HK412.out)).recode HNB.out) (by rw [List.length_map, HLL.out.2]; omega)
          clear hk12 HI1
          go_wp2_with fail
          refine HI2.mono ?_
          rintro e w13 ⟨rfl, hk13⟩
          have HK413 : Hid (Same w4 w13) := hid (Same.trans HK412.out hk13)
          have HLN := len_any W.heap.size _ _ s4 w13 (HWS4.out.wr.kept HK413.out (fun _ _ f => f))
          rw [HTL.out] at HLN
          have htI : (j : Int) + (H : Int) = (t : Int) := by omega
          have htw : IntKind.i64.wrap (t : Int) = (t : Int) := by rw [IntKind.wrap_i64]; omega
          obtain ⟨q1, hq1⟩ : ∃ q, q = L + D := ⟨_, rfl⟩
          have hq1I : (L : Int) + (D : Int) = (q1 : Int) := by omega
          have hq1w : IntKind.i64.wrap (q1 : Int) = (q1 : Int) := by rw [IntKind.wrap_i64]; omega
          obtain ⟨q2, hq2⟩ : ∃ q, q = 14 * q1 := ⟨_, rfl⟩
          have hq2I : (14 : Int) * (q1 : Int) = (q2 : Int) := by omega
          have hq2w : IntKind.i64.wrap (q2 : Int) = (q2 : Int) := by rw [IntKind.wrap_i64]; omega
          obtain ⟨q3, hq3⟩ : ∃ q, q = 71 + q2 := ⟨_, rfl⟩
          have hq3I : (71 : Int) + (q2 : Int) = (q3 : Int) := by omega
          have hq3w : IntKind.i64.wrap (q3 : Int) = (q3 : Int) := by rw [IntKind.wrap_i64]; omega
          have hHq : H ≤ q3 := by omega
          have HKF : Hid (Same W w13) := hid (Same.trans HKW4.out HK413.out)
          clear hk13 HI2 hq1 hq2 hq3 ht hhl
          go_wp2_with fail
          refine HLN.mono ?_
          rintro e w14 ⟨rfl, hw14⟩
          subst hw14
          clear HLN
          go_wp2_with fail
          go_ret
          exact ⟨rfl, HKF.out⟩

set_option maxRecDepth 100000 in
set_option maxHeartbeats 4000000 in
theorem lensWrites_all (a : Option Addr) (len cap : Nat) (zl : List Int) (b : Option Addr) (len1 cap1 : Nat) (zd : List Int) (nz : Int) (W : World) (h : IsRow .i64 W a len cap zl) (h1 : IsRow .i64 W b len1 cap1 zd) (_hm : (Lit.int .i64 nz).wf = true) (hT : Tab W) :
    Calls Tryd.prog 5 #[.slice a len cap, .slice b len1 cap1, .int .i64 nz] W fun e w' => e = .returned (.bool true) ∧ Below W.heap.size W w' := by
  obtain ⟨hs, hl⟩ := h.ints
  obtain ⟨hs1, hl1⟩ := h1.ints
  clear h h1
  suffices H : Calls Tryd.prog 5 #[.slice a len cap, .slice b len1 cap1, .int .i64 nz] W fun e w' => e = .returned (.bool true) ∧ Same W w' from H.mono (fun e w' h => ⟨h.1, h.2.bel⟩)
  by_cases hbad : 1048576 < len ∨ 1048576 < len1 ∨ nz < 0 ∨ 100 < nz
  · have HAW := lawake_any W hT
    by_cases c1 : 1048576 < len
    · have b1 : decide ((1048576 : Int) < (len : Int)) = true := by simp; omega
      clear hbad c1 hs hl hs1 hl1 hT
      go_enter Tryd.func5, Tryd.ntmps5
      go_wp2_with fail
      refine HAW.mono ?_
      rintro e w5 ⟨rfl, hk5⟩
      have HK5 : Hid (Same W w5) := hk5
      clear hk5 HAW
      go_wp2_with fail
      go_ret
      exact ⟨rfl, HK5.out⟩
    · have b1 : decide ((1048576 : Int) < (len : Int)) = false := by simp; omega
      by_cases c2 : 1048576 < len1
      · have b2 : decide ((1048576 : Int) < (len1 : Int)) = true := by simp; omega
        clear hbad c1 c2 hs hl hs1 hl1 hT
        go_enter Tryd.func5, Tryd.ntmps5
        go_wp2_with fail
        refine HAW.mono ?_
        rintro e w5 ⟨rfl, hk5⟩
        have HK5 : Hid (Same W w5) := hk5
        clear hk5 HAW
        go_wp2_with fail
        go_ret
        exact ⟨rfl, HK5.out⟩
      · have b2 : decide ((1048576 : Int) < (len1 : Int)) = false := by simp; omega
        by_cases c3 : nz < 0
        · have b3 : decide (nz < 0) = true := by simp; omega
          clear hbad c1 c2 c3 hs hl hs1 hl1 hT
          go_enter Tryd.func5, Tryd.ntmps5
          go_wp2_with fail
          refine HAW.mono ?_
          rintro e w5 ⟨rfl, hk5⟩
          have HK5 : Hid (Same W w5) := hk5
          clear hk5 HAW
          go_wp2_with fail
          go_ret
          exact ⟨rfl, HK5.out⟩
        · have b3 : decide (nz < 0) = false := by simp; omega
          have b4 : decide (100 < nz) = true := by simp; omega
          clear hbad c1 c2 c3 hs hl hs1 hl1 hT
          go_enter Tryd.func5, Tryd.ntmps5
          go_wp2_with fail
          refine HAW.mono ?_
          rintro e w5 ⟨rfl, hk5⟩
          have HK5 : Hid (Same W w5) := hk5
          clear hk5 HAW
          go_wp2_with fail
          go_ret
          exact ⟨rfl, HK5.out⟩
  · obtain ⟨n, rfl⟩ : ∃ n : Nat, nz = (n : Int) := ⟨nz.toNat, by omega⟩
    cases hm : mayM (zl.take len) (zd.take len1) with
    | false => exact writes_bad W a b len cap len1 cap1 n _ _ hs hs1 hl hl1 (by omega) (by omega) (by omega) hm hT
    | true => exact writes_good W a b len cap len1 cap1 n _ _ hs hs1 hl hl1 (by omega) (by omega) (by omega) hm hT

end Go.Proofs.YtofhlnpbflkdlaaDoor

/-
  The law LensRound.
-/
namespace Go.Proofs.YtofhlnpbflkdlaaDoor
open Go.RowKit

/-- Two heads and 32 bits, one behind the other. -/
theorem round_bits {xs ys zs : List Nat} {m1 m2 : Nat} {c1 c2 : List Nat} {s1 s2 : List (Nat × Nat)} (h1 : HeadOk xs ys m1 c1 s1) (h2 : HeadOk xs zs m2 c2 s2) (v n : Nat) (hv : v < 2 ^ 32) (T : List Nat)
    (hT : T = headBits xs.length ys.length m1 c1 s1 ++ headBits xs.length zs.length m2 c2 s2 ++ bitsOf v 32 ++ List.replicate n 0) :
    readF T 0 = .ok ((xs, ys), (headBits xs.length ys.length m1 c1 s1).length) ∧ readF T (headBits xs.length ys.length m1 c1 s1).length = .ok ((xs, zs), (headBits xs.length zs.length m2 c2 s2).length) ∧
      numAt T ((headBits xs.length ys.length m1 c1 s1).length + (headBits xs.length zs.length m2 c2 s2).length) 32 = v := by
  have hz : ∀ b ∈ List.replicate n 0, b < 2 := fun b hb => by have := List.eq_of_mem_replicate hb; omega
  have hbv : ∀ b ∈ bitsOf v 32 ++ List.replicate n 0, b < 2 := fun b hb => by
    rcases List.mem_append.1 hb with h | h
    · exact bitsOf_lt _ _ b h
    · exact hz b h
  refine ⟨?_, ?_, ?_⟩
  · have h := readF_laid h1 [] (headBits xs.length zs.length m2 c2 s2 ++ (bitsOf v 32 ++ List.replicate n 0)) (fun b hb => by
      rcases List.mem_append.1 hb with h | h
      · exact headBits_bit _ _ _ _ _ b h
      · exact hbv b h)
    rw [hT]
    simpa [List.append_assoc] using h
  · have h := readF_laid h2 (headBits xs.length ys.length m1 c1 s1) (bitsOf v 32 ++ List.replicate n 0) hbv
    rw [hT]
    simpa [List.append_assoc] using h
  · have h := numAt_laid (headBits xs.length ys.length m1 c1 s1 ++ headBits xs.length zs.length m2 c2 s2) (List.replicate n 0) v 32 hv
    rw [hT]
    rw [List.length_append] at h
    simpa [List.append_assoc] using h

set_option maxRecDepth 100000 in
set_option maxHeartbeats 1000000 in
theorem round_good (W : World) (a b c : Option Addr) (L cap D capd O capo v : Nat) (zl zd zo : List Int) (hsl : SrcE intV W (fun k => k < W.heap.size) (.slice a L cap) zl) (hsd : SrcE intV W (fun k => k < W.heap.size) (.slice b D capd) zd) (hso : SrcE intV W (fun k => k < W.heap.size) (.slice c O capo) zo) (hll : zl.length = L) (hdl : zd.length = D) (hol : zo.length = O) (hL : L ≤ 1048576) (hD : D ≤ 1048576) (hO : O ≤ 1048576) (hv : v < 2 ^ 32) (hm : mayM zl zd = true) (hm2 : mayM zl zo = true) (hT : Tab W) :
    Calls Tryd.prog 8 #[.slice a L cap, .slice b D capd, .slice c O capo, .int .u32 (v : Nat)] W fun e w' => e = .returned (.bool true) ∧ Same W w' := by
  have HSA : Hid (SrcE intV W (fun k => k < W.heap.size) (.slice a L cap) zl) := hsl
  have HSB : Hid (SrcE intV W (fun k => k < W.heap.size) (.slice b D capd) zd) := hsd
  have HSC : Hid (SrcE intV W (fun k => k < W.heap.size) (.slice c O capo) zo) := hso
  have HLL : Hid (zl.length = L ∧ zd.length = D ∧ zo.length = O) := hid ⟨hll, hdl, hol⟩
  have HT : Hid (Tab W) := hT
  have HM1 : Hid (mayM zl zd = true) := hm
  have HM2 : Hid (mayM zl zo = true) := hm2
  have b1 : decide ((1048576 : Int) < (L : Int)) = false := by simp; omega
  have b2 : decide ((1048576 : Int) < (D : Int)) = false := by simp; omega
  have b3 : decide ((1048576 : Int) < (O : Int)) = false := by simp; omega
  have HNW := newWriter_any W
  obtain ⟨hl1, hl2, hd1, hd2, hokl, hokd⟩ := mayM_parts hm
  obtain ⟨_, _, ho1, ho2, _, hoko⟩ := mayM_parts hm2
  rw [hll] at hl1 hl2
  rw [hdl] at hd1 hd2
  rw [hol] at ho1 ho2
  have HNA : Hid ((zl.map Int.toNat).map natV = zl.map intV) := hid (nat_of_ok hokl).1
  have HNB : Hid ((zd.map Int.toNat).map natV = zd.map intV) := hid (nat_of_ok hokd).1
  have HNC : Hid ((zo.map Int.toNat).map natV = zo.map intV) := hid (nat_of_ok hoko).1
  clear hsl hsd hso hll hdl hol hT hm hm2 hokl hokd hoko
  go_enter Tryd.func8, Tryd.ntmps8
  go_wp2_with fail
  refine HNW.mono ?_
  rintro e w1 ⟨rfl, hw1, hk1, hz1⟩
  have hws1 : WS w1 w1 W.heap.size (.slice none 0 0) (.slice none 0 0) [] := WS.start (by simpa [n2] using hw1) (by simp)
  have HK1 : Hid (Same W w1) := hk1
  have HWR := lwrite_good w1 W.heap.size (.slice none 0 0) [] _ _ L cap D capd _ _ zl zd (HSA.out.same hk1) (HSB.out.same hk1) HM1.out hws1 (by simp) (HT.out.kept hk1 (fun f => f)) (fun f => by
    rcases f with e | e
    · have := HT.out.pos; omega
    · simp [Value.ownBlock] at e)
  clear hw1 hk1 HNW b1 b2 b3 hws1
  go_wp2_with fail
  refine HWR.mono ?_
  rintro e w2 ⟨rfl, s2, m1, c1, n1, hho1, hsn1, hws2⟩
  have hkA : Same W w2 := Same.then HK1.out hws2.kept (fun k hk f => by
    rcases f with e | e
    · omega
    · simp [Value.ownBlock] at e)
  have hown2 : ∀ k, Fp W.heap.size s2 k → W.heap.size ≤ k := fun k f => by
    rcases f with e | e
    · omega
    · rcases hws2.own k e with h | h
      · simp [Value.ownBlock] at h
      · omega
  have hhl1 := head_len hho1 hsn1
  obtain ⟨X1, hX1⟩ : ∃ X, X = headBits (zl.map Int.toNat).length (zd.map Int.toNat).length m1 c1 n1 := ⟨_, rfl⟩
  rw [List.nil_append, ← hX1] at hws2
  rw [← hX1, List.length_map, List.length_map, HLL.out.1, HLL.out.2.1] at hhl1
  have HHO1 : Hid (HeadOk (zl.map Int.toNat) (zd.map Int.toNat) m1 c1 n1 ∧ X1 = headBits (zl.map Int.toNat).length (zd.map Int.toNat).length m1 c1 n1) := hid ⟨hho1, hX1⟩
  have HKA : Hid (Same W w2) := hkA
  have HWR2 := lwrite_good w2 W.heap.size s2 X1 _ _ L cap O capo _ _ zl zo (HSA.out.same hkA) (HSC.out.same hkA) HM2.out (WS.start hws2.wr hws2.bit) (by omega) (HT.out.kept hkA (fun f => f)) (fun f => by have := hown2 _ f; have := HT.out.pos; omega)
  have HOWN : Hid (∀ k, Fp W.heap.size s2 k → W.heap.size ≤ k) := hown2
  clear hho1 hsn1 hX1 hws2 hkA hown2 HWR
  go_wp2_with fail
  refine HWR2.mono ?_
  rintro e w3 ⟨rfl, s3, m2, c2, n2', hho2, hsn2, hws3⟩
  have hkB : Same W w3 := Same.then HKA.out hws3.kept (fun k hk f => by have := HOWN.out k f; omega)
  have hhl2 := head_len hho2 hsn2
  obtain ⟨X2, hX2⟩ : ∃ X, X = headBits (zl.map Int.toNat).length (zo.map Int.toNat).length m2 c2 n2' := ⟨_, rfl⟩
  rw [← hX2] at hws3
  rw [← hX2, List.length_map, List.length_map, HLL.out.1, HLL.out.2.2] at hhl2
  have HHO2 : Hid (HeadOk (zl.map Int.toNat) (zo.map Int.toNat) m2 c2 n2' ∧ X2 = headBits (zl.map Int.toNat).length (zo.map Int.toNat).length m2 c2 n2') := hid ⟨hho2, hX2⟩
  have HKB : Hid (Same W w3) := hkB
  have HPT := ws_put w2 w3 W.heap.size s2 s3 _ v 32 hws3 (by decide) hv (by rw [List.length_append]; omega)
  clear hho2 hsn2 hX2 hws3 hkB HWR2
  go_wp2_with fail
  refine HPT.mono ?_
  rintro e w4 ⟨rfl, ⟨s4, hws4⟩, _⟩
  have HKC : Hid (Same W w4) := hid (Same.then HKA.out hws4.kept (fun k hk f => by have := HOWN.out k f; omega))
  have HWS4 : Hid (WS w2 w4 W.heap.size s2 s4 (X1 ++ X2 ++ bitsOf v 32)) := hws4
  obtain ⟨t, ht⟩ : ∃ t, t = X1.length + X2.length := ⟨_, rfl⟩
  have HTL : Hid ((X1 ++ X2 ++ bitsOf v 32).length = t + 32 ∧ t = X1.length + X2.length) := hid ⟨by rw [List.length_append, List.length_append, bitsOf_length, ht], ht⟩
  have hws4' : Wr w4 W.heap.size s4 (n2 (X1 ++ X2 ++ bitsOf v 32)) (t + 32) := by have h := hws4.wr; rw [HTL.out.1] at h; exact h
  have HBY := wbytes_any W.heap.size _ _ s4 w4 hws4' (by omega)
  clear hws4 HPT hws4'
  go_wp2_with fail
  refine HBY.mono ?_
  rintro e w5 ⟨g5, bs, rfl, hr5, hb5, hn5, hl5, hk5, _⟩
  have hpad := ofBytes_pad bs (X1 ++ X2 ++ bitsOf v 32) hb5 HWS4.out.bit hn5 (by rw [HTL.out.1]; exact hl5)
  have hrb := round_bits HHO1.out.1 HHO2.out.1 v _ hv (ofBytes bs) (by rw [← HHO1.out.2, ← HHO2.out.2]; exact hpad)
  rw [← HHO1.out.2, ← HHO2.out.2] at hrb
  obtain ⟨x1, hx1⟩ : ∃ x, x = X1.length := ⟨_, rfl⟩
  obtain ⟨x2, hx2⟩ : ∃ x, x = X2.length := ⟨_, rfl⟩
  rw [← hx1, ← hx2] at hrb
  rw [← hx1, ← hx2] at ht
  have HRF1 : Hid (readF (ofBytes bs) 0 = .ok ((zl.map Int.toNat, zd.map Int.toNat), x1)) := hid hrb.1
  have HRF2 : Hid (readF (ofBytes bs) x1 = .ok ((zl.map Int.toNat, zo.map Int.toNat), x2)) := hid hrb.2.1
  have HNUM : Hid (numAt (ofBytes bs) t 32 = v) := hid (by rw [ht]; exact hrb.2.2)
  have HBL : Hid (t + 32 ≤ 8 * bs.length ∧ bs.length ≤ 100000 ∧ t = x1 + x2) := hid ⟨by omega, by omega, ht⟩
  have HBY5 : Hid (∀ b ∈ bs, b < 256) := hb5
  have HNR := newReader_any _ _ bs w5 (Src.ofRow hr5) (by omega) hb5
  have HK5 : Hid (Same W w5) := hid (Same.trans HKC.out hk5)
  obtain ⟨M5, hM5⟩ : ∃ M, M = bs.length := ⟨_, rfl⟩
  rw [← hM5] at HNR ⊢
  clear hr5 hb5 hn5 hl5 hk5 hpad hrb hx1 hx2 ht hM5 HBY hhl1 hhl2
  go_wp2_with fail
  refine HNR.mono ?_
  rintro e w6 ⟨p6, s6, rfl, hst6, hk6, hf6⟩
  have HK6 : Hid (Same W w6) := hid (Same.trans HK5.out hk6)
  have HF6 : Hid (∀ k, Fp p6 s6 k → w5.heap.size ≤ k) := hf6
  have HP6 : Hid (W.heap.size ≤ p6 ∧ p6 < w6.heap.size) := hid ⟨by have := hf6 p6 (.inl rfl); have := HK5.out.size; omega, hst6.lt⟩
  have HPG : Hid (p6 ≠ 0) := hid (fun e => by have := HT.out.pos; have := HP6.out; omega)
  have HRD := lread_any w6 p6 0 s6 bs hst6 (Nat.zero_le _) (by have := HBL.out; omega) (HT.out.kept HK6.out (fun f => f)) HPG.out
  rw [HRF1.out] at HRD
  clear hst6 hk6 hf6 HNR
  go_wp2_with fail
  refine HRD.mono ?_
  rintro e w7 ⟨⟨⟨va, vb, rfl, hra, hrb⟩, hc7, hst7⟩, hk7⟩
  rw [Nat.zero_add] at hst7
  have HRA : Hid (NRow w6.heap.size w7 va (zl.map Int.toNat)) := hra
  have HRB : Hid (NRow w6.heap.size w7 vb (zd.map Int.toNat)) := hrb
  have HK7 : Hid (Same W w7) := hid (Same.then HK6.out hk7 (fun k hk e => by have := HP6.out; omega))
  have HRD2 := lread_any w7 p6 x1 s6 bs hst7 (by have := HBL.out; omega) (by have := HBL.out; omega) (HT.out.kept HK7.out (fun f => f)) HPG.out
  rw [HRF2.out] at HRD2
  have hsz67 := hk7.size
  clear hra hrb hc7 hst7 hk7 HRD
  go_wp2_with fail
  refine HRD2.mono ?_
  rintro e w8 ⟨⟨⟨vc, vd, rfl, hrc, hrd⟩, hc8, hst8⟩, hk8⟩
  have HRC : Hid (NRow w7.heap.size w8 vc (zl.map Int.toNat)) := hrc
  have HRE : Hid (NRow w7.heap.size w8 vd (zo.map Int.toNat)) := hrd
  have HRA8 : Hid (NRow w6.heap.size w8 va (zl.map Int.toNat)) := hid (HRA.out.kept hk8 (fun k e f => by have h1 := HRA.out.ge e; have := HP6.out; omega))
  have HRB8 : Hid (NRow w6.heap.size w8 vb (zd.map Int.toNat)) := hid (HRB.out.kept hk8 (fun k e f => by have h1 := HRB.out.ge e; have := HP6.out; omega))
  have HK8 : Hid (Same W w8) := hid (Same.then HK7.out hk8 (fun k hk e => by have := HP6.out; omega))
  have hst8' : St w8 p6 s6 bs t := by have e : t = x1 + x2 := HBL.out.2.2; rw [e]; exact hst8
  have HTK := take_good p6 t 32 s6 bs w8 hst8' (by have := HBL.out; omega) (by decide) HBL.out.1
  rw [num_bits bs HBY5.out t 32 HBL.out.1, HNUM.out] at HTK
  have hsz78 := hk8.size
  clear hrc hrd hc8 hst8 hst8' hk8 HRD2 HRA HRB
  go_wp2_with fail
  refine HTK.mono ?_
  rintro e w9 ⟨rfl, _, hk9⟩
  have HRA9 : Hid (NRow w6.heap.size w9 va (zl.map Int.toNat)) := hid (HRA8.out.kept hk9 (fun k e f => by have h1 := HRA8.out.ge e; have := HP6.out; omega))
  have HRB9 : Hid (NRow w6.heap.size w9 vb (zd.map Int.toNat)) := hid (HRB8.out.kept hk9 (fun k e f => by have h1 := HRB8.out.ge e; have := HP6.out; omega))
  have HRC9 : Hid (NRow w7.heap.size w9 vc (zl.map Int.toNat)) := hid (HRC.out.kept hk9 (fun k e f => by have h1 := HRC.out.ge e; have := HP6.out; omega))
  have HRE9 : Hid (NRow w7.heap.size w9 vd (zo.map Int.toNat)) := hid (HRE.out.kept hk9 (fun k e f => by have h1 := HRE.out.ge e; have := HP6.out; omega))
  have HK9 : Hid (Same W w9) := hid (Same.then HK8.out hk9 (fun k hk e => by have := HP6.out; omega))
  have HAW := lawake_any w9 (HT.out.kept HK9.out (fun f => f))
  clear hk9 HTK HRA8 HRB8 HRC HRE
  go_wp2_with fail
  refine HAW.mono ?_
  rintro e w10 ⟨rfl, hk10⟩
  have HK10 : Hid (Same w9 w10) := hk10
  have HI1 := ints_same w10 va _ _ _ (zl.map Int.toNat) (SrcE.ofRow (HRA9.out.same hk10)) ((HSA.out.same (Same.trans HK9.out hk10)).recode HNA.out) (by rw [List.length_map, HLL.out.1]; omega)
  clear hk10 HAW
  go_wp2_with fail
  refine HI1.mono ?_
  rintro e w11 ⟨rfl, hk11⟩
  have HK11 : Hid (Same w9 w11) := hid (Same.trans HK10.out hk11)
  have HI2 := ints_same w11 vb _ _ _ (zd.map Int.toNat) (SrcE.ofRow (HRB9.out.same HK11.out)) ((HSB.out.same (Same.trans HK9.out HK11.out)).recode HNB.out) (by rw [List.length_map, HLL.out.2.1]; omega)
  clear hk11 HI1
  go_wp2_with fail
  refine HI2.mono ?_
  rintro e w12 ⟨rfl, hk12⟩
  have HK12 : Hid (Same w9 w12) := hid (Same.trans HK11.out hk12)
  have HI3 := ints_same w12 vc _ _ _ (zl.map Int.toNat) (SrcE.ofRow (HRC9.out.same HK12.out)) ((HSA.out.same (Same.trans HK9.out HK12.out)).recode HNA.out) (by rw [List.length_map, HLL.out.1]; omega)
  clear hk12 HI2
  go_wp2_with fail
  refine HI3.mono ?_
  rintro e w13 ⟨rfl, hk13⟩
  have HK13 : Hid (Same w9 w13) := hid (Same.trans HK12.out hk13)
  have HI4 := ints_same w13 vd _ _ _ (zo.map Int.toNat) (SrcE.ofRow (HRE9.out.same HK13.out)) ((HSC.out.same (Same.trans HK9.out HK13.out)).recode HNC.out) (by rw [List.length_map, HLL.out.2.2]; omega)
  clear hk13 HI3
  go_wp2_with fail
  refine HI4.mono ?_
  rintro e w14 ⟨rfl, hk14⟩
  have HK14 : Hid (Same W w14) := hid (Same.trans HK9.out (Same.trans HK13.out hk14))
  clear hk14 HI4
  go_wp2_with fail
  go_ret
  exact ⟨rfl, HK14.out⟩

/-- Write, whatever the lists: an error and nothing laid, or a head. -/
theorem lwrite_either (w : World) (p : Nat) (s : Value) (X : List Nat) (al ad : Option Addr) (L cl D cd : Nat) (I J : Nat → Prop) (zl zd : List Int) (hA : SrcE intV w I (.slice al L cl) zl) (hB : SrcE intV w J (.slice ad D cd) zd) (hL : L ≤ 10000000) (hD : D ≤ 10000000)
    (hws : WS w w p s s X) (hX : X.length ≤ 100000) (hT : Tab w) (hpg : ¬ Fp p s 0) :
    Calls Tryd.prog 20 #[.pointer (some ⟨p, 0, none⟩), .slice al L cl, .slice ad D cd] w fun e w' => ∃ r s' Y, e = .returned (.int .i64 (r : Nat)) ∧ WS w w' p s s' Y ∧ Y.length ≤ X.length + 10000 ∧ (mayM zl zd = false → r = 1) ∧ r ≤ 1 := by
  cases hm : mayM zl zd with
  | false =>
    refine (lwrite_bad w p al ad L cl D cd I J zl zd hA hB hL hD hm).mono ?_
    rintro e w' ⟨rfl, hk⟩
    exact ⟨1, s, X, rfl, hws.same hk, by omega, fun _ => rfl, by omega⟩
  | true =>
    refine (lwrite_good w p s X al ad L cl D cd I J zl zd hA hB hm hws hX hT hpg).mono ?_
    rintro e w' ⟨rfl, s', many, cs, sn, hho, hsn, hw'⟩
    have h1 := head_len hho hsn
    obtain ⟨_, h2, _, h3, _, _⟩ := mayM_parts hm
    rw [List.length_map, List.length_map] at h1
    refine ⟨0, s', _, rfl, hw', ?_, (fun h => by cases h), by omega⟩
    rw [List.length_append]
    rw [List.length_map, List.length_map]
    omega

set_option maxRecDepth 100000 in
set_option maxHeartbeats 1000000 in
theorem round_bad (W : World) (a b c : Option Addr) (L cap D capd O capo v : Nat) (zl zd zo : List Int) (hsl : SrcE intV W (fun k => k < W.heap.size) (.slice a L cap) zl) (hsd : SrcE intV W (fun k => k < W.heap.size) (.slice b D capd) zd) (hso : SrcE intV W (fun k => k < W.heap.size) (.slice c O capo) zo) (hL : L ≤ 1048576) (hD : D ≤ 1048576) (hO : O ≤ 1048576) (hv : v < 2 ^ 32) (hm : mayM zl zd = false ∨ mayM zl zo = false) (hT : Tab W) :
    Calls Tryd.prog 8 #[.slice a L cap, .slice b D capd, .slice c O capo, .int .u32 (v : Nat)] W fun e w' => e = .returned (.bool true) ∧ Same W w' := by
  have HSA : Hid (SrcE intV W (fun k => k < W.heap.size) (.slice a L cap) zl) := hsl
  have HSC : Hid (SrcE intV W (fun k => k < W.heap.size) (.slice c O capo) zo) := hso
  have HSB : Hid (SrcE intV W (fun k => k < W.heap.size) (.slice b D capd) zd) := hsd
  have HT : Hid (Tab W) := hT
  have HM : Hid (mayM zl zd = false ∨ mayM zl zo = false) := hm
  have b1 : decide ((1048576 : Int) < (L : Int)) = false := by simp; omega
  have b2 : decide ((1048576 : Int) < (D : Int)) = false := by simp; omega
  have b3 : decide ((1048576 : Int) < (O : Int)) = false := by simp; omega
  have HNW := newWriter_any W
  clear hsl hsd hso hT hm
  go_enter Tryd.func8, Tryd.ntmps8
  go_wp2_with fail
  refine HNW.mono ?_
  rintro e w1 ⟨rfl, hw1, hk1, hz1⟩
  have hws1 : WS w1 w1 W.heap.size (.slice none 0 0) (.slice none 0 0) [] := WS.start (by simpa [n2] using hw1) (by simp)
  have HK1 : Hid (Same W w1) := hk1
  have HWR := lwrite_either w1 W.heap.size (.slice none 0 0) [] _ _ L cap D capd _ _ zl zd (HSA.out.same hk1) (HSB.out.same hk1) (by omega) (by omega) hws1 (by simp) (HT.out.kept hk1 (fun f => f)) (fun f => by
    rcases f with e | e
    · have := HT.out.pos; omega
    · simp [Value.ownBlock] at e)
  clear hw1 hk1 HNW b1 b2 b3 hws1
  go_wp2_with fail
  refine HWR.mono ?_
  rintro e w2 ⟨r1, s2, X1, rfl, hws2, hxl1, hr1, hr1b⟩
  have hkA : Same W w2 := Same.then HK1.out hws2.kept (fun k hk f => by
    rcases f with e | e
    · omega
    · simp [Value.ownBlock] at e)
  have hown2 : ∀ k, Fp W.heap.size s2 k → W.heap.size ≤ k := fun k f => by
    rcases f with e | e
    · omega
    · rcases hws2.own k e with h | h
      · simp [Value.ownBlock] at h
      · omega
  have HKA : Hid (Same W w2) := hkA
  have hx1 : X1.length ≤ 10000 := by simpa using hxl1
  have HWR2 := lwrite_either w2 W.heap.size s2 X1 _ _ L cap O capo _ _ zl zo (HSA.out.same hkA) (HSC.out.same hkA) (by omega) (by omega) (WS.start hws2.wr hws2.bit) (by omega) (HT.out.kept hkA (fun f => f)) (fun f => by have := hown2 _ f; have := HT.out.pos; omega)
  have HOWN : Hid (∀ k, Fp W.heap.size s2 k → W.heap.size ≤ k) := hown2
  have HR1 : Hid (mayM zl zd = false → r1 = 1) := hr1
  clear hws2 hkA hown2 HWR hr1 hxl1
  go_wp2_with fail
  refine HWR2.mono ?_
  rintro e w3 ⟨r2, s3, X2, rfl, hws3, hxl2, hr2, hr2b⟩
  have HR2 : Hid (mayM zl zo = false → r2 = 1) := hr2
  have HPT := ws_put w2 w3 W.heap.size s2 s3 _ v 32 hws3 (by decide) hv (by omega)
  clear hws3 HWR2 hr2 hxl2 hx1
  go_wp2_with fail
  refine HPT.mono ?_
  rintro e w4 ⟨rfl, ⟨s4, hws4⟩, _⟩
  have HKC : Hid (Same W w4) := hid (Same.then HKA.out hws4.kept (fun k hk f => by have := HOWN.out k f; omega))
  have HAW := lawake_any w4 (HT.out.kept HKC.out (fun f => f))
  clear hws4 HPT
  have hor : r1 = 1 ∨ (r1 = 0 ∧ r2 = 1) := by
    by_cases h : r1 = 1
    · exact .inl h
    · refine .inr ⟨by omega, ?_⟩
      rcases HM.out with h1 | h1
      · exact absurd (HR1.out h1) h
      · exact HR2.out h1
  rcases hor with rfl | ⟨rfl, rfl⟩
  · go_wp2_with fail
    refine HAW.mono ?_
    rintro e w5 ⟨rfl, hk5⟩
    have HK5 : Hid (Same W w5) := hid (Same.trans HKC.out hk5)
    clear hk5 HAW
    go_wp2_with fail
    go_ret
    exact ⟨rfl, HK5.out⟩
  · go_wp2_with fail
    refine HAW.mono ?_
    rintro e w5 ⟨rfl, hk5⟩
    have HK5 : Hid (Same W w5) := hid (Same.trans HKC.out hk5)
    clear hk5 HAW
    go_wp2_with fail
    go_ret
    exact ⟨rfl, HK5.out⟩

set_option maxRecDepth 100000 in
set_option maxHeartbeats 4000000 in
theorem lensRound_all (a : Option Addr) (len cap : Nat) (zl : List Int) (b : Option Addr) (len1 cap1 : Nat) (zd : List Int) (c : Option Addr) (len2 cap2 : Nat) (zo : List Int) (vz : Int) (W : World) (h : IsRow .i64 W a len cap zl) (h1 : IsRow .i64 W b len1 cap1 zd) (h2 : IsRow .i64 W c len2 cap2 zo) (hv : (Lit.int .u32 vz).wf = true) (hT : Tab W) :
    Calls Tryd.prog 8 #[.slice a len cap, .slice b len1 cap1, .slice c len2 cap2, .int .u32 vz] W fun e w' => e = .returned (.bool true) ∧ Below W.heap.size W w' := by
  obtain ⟨hs, hl⟩ := h.ints
  obtain ⟨hs1, hl1⟩ := h1.ints
  obtain ⟨hs2, hl2⟩ := h2.ints
  have hvb := bounds_u32 hv
  clear h h1 h2 hv
  suffices H : Calls Tryd.prog 8 #[.slice a len cap, .slice b len1 cap1, .slice c len2 cap2, .int .u32 vz] W fun e w' => e = .returned (.bool true) ∧ Same W w' from H.mono (fun e w' h => ⟨h.1, h.2.bel⟩)
  by_cases hbad : 1048576 < len ∨ 1048576 < len1 ∨ 1048576 < len2
  · have HAW := lawake_any W hT
    by_cases c1 : 1048576 < len
    · have b1 : decide ((1048576 : Int) < (len : Int)) = true := by simp; omega
      clear hbad c1 hs hl hs1 hl1 hs2 hl2 hT hvb
      go_enter Tryd.func8, Tryd.ntmps8
      go_wp2_with fail
      refine HAW.mono ?_
      rintro e w5 ⟨rfl, hk5⟩
      have HK5 : Hid (Same W w5) := hk5
      clear hk5 HAW
      go_wp2_with fail
      go_ret
      exact ⟨rfl, HK5.out⟩
    · have b1 : decide ((1048576 : Int) < (len : Int)) = false := by simp; omega
      by_cases c2 : 1048576 < len1
      · have b2 : decide ((1048576 : Int) < (len1 : Int)) = true := by simp; omega
        clear hbad c1 c2 hs hl hs1 hl1 hs2 hl2 hT hvb
        go_enter Tryd.func8, Tryd.ntmps8
        go_wp2_with fail
        refine HAW.mono ?_
        rintro e w5 ⟨rfl, hk5⟩
        have HK5 : Hid (Same W w5) := hk5
        clear hk5 HAW
        go_wp2_with fail
        go_ret
        exact ⟨rfl, HK5.out⟩
      · have b2 : decide ((1048576 : Int) < (len1 : Int)) = false := by simp; omega
        have b3 : decide ((1048576 : Int) < (len2 : Int)) = true := by simp; omega
        clear hbad c1 c2 hs hl hs1 hl1 hs2 hl2 hT hvb
        go_enter Tryd.func8, Tryd.ntmps8
        go_wp2_with fail
        refine HAW.mono ?_
        rintro e w5 ⟨rfl, hk5⟩
        have HK5 : Hid (Same W w5) := hk5
        clear hk5 HAW
        go_wp2_with fail
        go_ret
        exact ⟨rfl, HK5.out⟩
  · obtain ⟨v, rfl⟩ : ∃ v : Nat, vz = (v : Int) := ⟨vz.toNat, by omega⟩
    have hv : v < 2 ^ 32 := by omega
    by_cases hm : mayM (zl.take len) (zd.take len1) = false ∨ mayM (zl.take len) (zo.take len2) = false
    · exact round_bad W a b c len cap len1 cap1 len2 cap2 v _ _ _ hs hs1 hs2 (by omega) (by omega) (by omega) hv hm hT
    · refine round_good W a b c len cap len1 cap1 len2 cap2 v _ _ _ hs hs1 hs2 hl hl1 hl2 (by omega) (by omega) (by omega) hv ?_ ?_ hT
      · cases hx : mayM (zl.take len) (zd.take len1) with
        | true => rfl
        | false => exact absurd (.inl hx) hm
      · cases hx : mayM (zl.take len) (zo.take len2) with
        | true => rfl
        | false => exact absurd (.inr hx) hm

end Go.Proofs.YtofhlnpbflkdlaaDoor
