/-
  Layer 19: PutResponse.
-/
import Derived.Test.YtaefgnakdadgeaaWiO
namespace Go.Proofs.Ytaefgnakdadgeaa
open Go.RowKit

/-- The bytes between a response's code and its names. -/
def layR (r : Rs) : List Nat := leOf r.x.toNat 4 ++ (leOf r.a.toNat 4 ++ (leOf r.z.toNat 4 ++ (leOf r.b.toNat 4 ++ (leOf r.e.toNat 4 ++ (leOf r.d.size 2 ++ sb r.d)))))

theorem layR_is (r : Rs) (v : Value) : layL (r.cs v) fdR = layR r := by
  simp [layL, fdR, layF, Rs.cs, layR]

def wrongR (r : Rs) : Nat := wrongL (r.cs (.slice none 0 0)) fdR

theorem wrongR_is (r : Rs) (v : Value) : wrongL (r.cs v) fdR = wrongR r := rfl

/-- A response's bytes. -/
def rsB (r : Rs) (l : List ByteArray) : List Nat := leOf r.c.toNat 2 ++ layR r ++ l.length :: nmL l

def rerr (r : Rs) (l : List ByteArray) : Nat := if r.c < 0 ∨ 65535 < r.c then 1 else if wrongR r ≠ 0 then wrongR r else if tooL l = true then 2 else if 20000 < (rsB r l).length then 2 else 0

def prB (r : Rs) (l : List ByteArray) : List Nat := if rerr r l = 0 then rsB r l else []

theorem tooL_false {l : List ByteArray} (h : tooL l = false) : l.length ≤ 64 ∧ ∀ s ∈ l, s.size ≤ 255 := by
  unfold tooL at h
  simp only [Bool.or_eq_false_iff, decide_eq_false_iff_not, List.any_eq_false, decide_eq_true_eq] at h
  exact ⟨by omega, fun s hs => by have := h.2 s hs; omega⟩

theorem Ob.eightR {w : World} {p : Nat} {t : TypeId} {r : Rs} {v : Value} (h : Ob w p t (r.cs v)) : w.cell? ⟨p, 0, none⟩ = some (.int .i64 r.c) ∧ w.cell? ⟨p, 1, none⟩ = some (.int .i64 r.x) ∧ w.cell? ⟨p, 2, none⟩ = some (.int .i64 r.a) ∧ w.cell? ⟨p, 3, none⟩ = some (.int .i64 r.z) ∧ w.cell? ⟨p, 4, none⟩ = some (.string r.d) ∧ w.cell? ⟨p, 5, none⟩ = some v ∧ w.cell? ⟨p, 6, none⟩ = some (.int .i64 r.b) ∧ w.cell? ⟨p, 7, none⟩ = some (.int .i64 r.e) :=
  ⟨h.cell (i := 0) (c := .n r.c) rfl, h.cell (i := 1) (c := .n r.x) rfl, h.cell (i := 2) (c := .n r.a) rfl, h.cell (i := 3) (c := .n r.z) rfl, h.cell (i := 4) (c := .s r.d) rfl, h.cell (i := 5) (c := .o v) rfl, h.cell (i := 6) (c := .n r.b) rfl, h.cell (i := 7) (c := .n r.e) rfl⟩

theorem putA_bad {w w' : World} {r : Rs} {l : List ByteArray} {k : Nat} (h : rerr r l = k) (h0 : k ≠ 0) (hk : Same w w') : PutA w w' (rerr r l) (prB r l) (.returned (.tuple #[.slice none 0 0, .int .i64 (k : Nat)])) := by
  refine ⟨.slice none 0 0, by rw [h], ?_⟩
  unfold prB
  rw [if_neg (by omega)]
  exact fresh_none hk

set_option maxRecDepth 100000 in
set_option maxHeartbeats 1000000 in
theorem putres_any (w : World) (r : Rs) (ao : Option Addr) (n c : Nat) (l : List ByteArray) (hl : SrcC 1 nsE w (fun k => k < w.heap.size) (.slice ao n c) l) :
    Calls Try.prog 19 #[.agg (rsV r (.slice ao n c))] w fun e w' => PutA w w' (rerr r l) (prB r l) e := by
  obtain ⟨W1, hW1⟩ : ∃ W, W = w.alloc (.cells #[.int .i64 r.c, .int .i64 r.x, .int .i64 r.a, .int .i64 r.z, .string r.d, .slice ao n c, .int .i64 r.b, .int .i64 r.e] 40) := ⟨_, rfl⟩
  obtain ⟨p, hp⟩ : ∃ b, b = w.heap.size := ⟨_, rfl⟩
  have HK : Hid (Same w W1) := hid (by rw [hW1]; exact (Kept.refl _ w).alloc _)
  have hO : Ob W1 p 40 (r.cs (.slice ao n c)) := by rw [hW1, hp]; exact Blk.new w (rsV r (.slice ao n c)) _
  have HB := hid hO
  obtain ⟨c0, c1, c2, c3, c4, c5, c6, c7⟩ := hO.eightR
  have HL := hid hl
  clear hO hl c1 c2 c3 c4 c6 c7
  unfold rsV
  by_cases h1 : r.c < 0
  · have HE : Hid (rerr r l = 1) := hid (by unfold rerr; rw [if_pos (.inl h1)])
    have d1 : decide (r.c < 0) = true := by simp; omega
    go_enter Try.func19, Try.ntmps19
    go_upto_region 1 with fail
    rw [← hW1, ← hp]
    clear hW1 hp
    go_wp2_with fail
    go_ret2
    exact putA_bad HE.out (by decide) HK.out
  by_cases h2 : 65535 < r.c
  · have HE : Hid (rerr r l = 1) := hid (by unfold rerr; rw [if_pos (.inr h2)])
    have d1 : decide (r.c < 0) = false := by simp; omega
    have d2 : decide (65535 < r.c) = true := by simp; omega
    go_enter Try.func19, Try.ntmps19
    go_upto_region 1 with fail
    rw [← hW1, ← hp]
    clear hW1 hp
    go_wp2_with fail
    go_ret2
    exact putA_bad HE.out (by decide) HK.out
  have HC : Hid (¬ (r.c < 0 ∨ 65535 < r.c)) := hid (by omega)
  have d1 : decide (r.c < 0) = false := by simp; omega
  have d2 : decide (65535 < r.c) = false := by simp; omega
  have hcw : IntKind.u16.wrap r.c = r.c := by rw [IntKind.wrap_u16]; omega
  have HF := resf_any W1 p
  clear h1 h2
  go_enter Try.func19, Try.ntmps19
  go_upto_region 1 with fail
  rw [← hW1, ← hp]
  clear hW1 hp
  go_wp2_with fail
  refine HF.mono ?_
  rintro e w4 ⟨fo, fn, fc, rfl, hs, hk4⟩
  have HS := hid hs
  have HK4 := hid (Same.trans HK.out hk4)
  have HB4 := hid (HB.out.kept hk4 (fun f => f))
  have HW := wrong_any w4 p _ (r.cs (.slice ao n c)) HB4.out fo fn fc _ fdR hs (by decide) (fdR_fits r _)
  rw [wrongR_is] at HW
  obtain ⟨R, hR⟩ : ∃ R, R = wrongR r := ⟨_, rfl⟩
  have HR := hid hR
  rw [← hR] at HW
  clear hs hk4 HF hR c0 c5
  go_wp2_with fail
  refine HW.mono ?_
  rintro e w5 ⟨rfl, hk5⟩
  have HK5 := hid (Same.trans HK4.out hk5)
  have HB5 := hid (HB4.out.kept hk5 (fun f => f))
  have HS5 := hid (HS.out.kept (fdE_ok p) hk5 (fun _ _ _ f => f))
  have HL5 := hid (HL.out.kept nsE_ok HK5.out (fun _ _ _ f => f))
  clear hk5 HW
  obtain ⟨c0, c1, c2, c3, c4, c5, c6, c7⟩ := HB5.out.eightR
  clear c1 c2 c3 c4 c6 c7
  have h3w : wrongR r = 0 ∨ wrongR r = 1 ∨ wrongR r = 2 := wrongL_two _ fdR
  rcases h3w with h | h | h
  · have hr0 : R = 0 := by rw [HR.out, h]
    have HR0 : Hid (wrongR r = 0) := hid h
    subst hr0
    have HTL := toolong_any w5 ao n c _ l HL5.out
    clear h
    cases ht : tooL l with
    | true =>
      have HE : Hid (rerr r l = 2) := hid (by unfold rerr; rw [if_neg HC.out, if_neg (by rw [HR0.out]; decide), if_pos ht])
      rw [ht] at HTL
      clear ht
      go_wp2_with fail
      refine HTL.mono ?_
      rintro e w6 ⟨rfl, hk6⟩
      have HK6 := hid (Same.trans HK5.out hk6)
      clear hk6 HTL
      go_wp2_with fail
      go_ret2
      exact putA_bad HE.out (by decide) HK6.out
    | false =>
      have HT := hid ht
      rw [ht] at HTL
      clear ht
      go_wp2_with fail
      refine HTL.mono ?_
      rintro e w6 ⟨rfl, hk6⟩
      have HK6 := hid (Same.trans HK5.out hk6)
      have HB6 := hid (HB5.out.kept hk6 (fun f => f))
      have HS6 := hid (HS5.out.kept (fdE_ok p) hk6 (fun _ _ _ f => f))
      have hsz6 : w.heap.size ≤ w6.heap.size := HK6.out.size
      have HL6 : Hid (SrcC 1 nsE w6 (fun k => k < w6.heap.size) (.slice ao n c) l) := hid ((HL5.out.kept nsE_ok hk6 (fun _ _ _ f => f)).mono (fun j hj => Nat.lt_of_lt_of_le hj hsz6))
      have HSZ := hid hsz6
      obtain ⟨d0, _, _, _, _, d5, _, _⟩ := HB6.out.eightR
      obtain ⟨cn, hcn, hcn2⟩ : ∃ cn : Nat, r.c = (cn : Int) ∧ cn < 65536 := ⟨r.c.toNat, by have := HC.out; omega, by have := HC.out; omega⟩
      have HCN : Hid (r.c.toNat = cn) := hid (by rw [hcn]; rfl)
      have HP : Hid (∀ W, Same w6 W → Calls Try.prog 41 #[.slice none 0 0, .int .u16 (cn : Nat)] W fun e w' => ∃ v', e = .returned v' ∧ Fresh w6 w' v' (leOf cn 2)) := hid (fun W hk => (put16_any (X := (cn : Nat)) W (.slice none 0 0) (fun _ => False) [] ⟨none, 0, rfl, fun h => absurd rfl h⟩ cn rfl hcn2 (by simp)).mono (by
        rintro e w' ⟨v', rfl, hf⟩
        exact ⟨v', rfl, by simpa using hf.row, Same.trans hk hf.kept, fun k e => Nat.le_trans hk.size (hf.new k e)⟩))
      have HLY : Hid (∀ W v, Fresh w6 W v (leOf cn 2) → Calls Try.prog 28 #[v, .slice fo fn fc] W fun e w' => ∃ v', e = .returned v' ∧ Fresh w6 w' v' (leOf cn 2 ++ layR r)) := hid (fun W v hf => (wlay_any w6 W v _ hf p _ (r.cs (.slice ao n c)) (HB6.out.kept hf.kept (fun f => f)) fo fn fc _ fdR (HS6.out.kept (fdE_ok p) hf.kept (fun _ _ _ f => f)) (fun f hfd => ⟨fdR_fits r _ f hfd, wrongL_zero (show wrongL (r.cs (.slice ao n c)) fdR = 0 from HR0.out) f hfd⟩) (by rw [leOf_length]; decide) (by decide)).mono (by
        rintro e w' ⟨v', rfl, hf2, _⟩
        rw [layR_is] at hf2
        exact ⟨v', rfl, hf2⟩))
      have hlr : (leOf cn 2 ++ layR r).length ≤ 1000000 := by
        have h9 := layL_len fdR (fun f hf => ⟨fdR_fits r (.slice none 0 0) f hf, wrongL_zero HR0.out f hf⟩)
        rw [layR_is] at h9
        have h8 : fdR.length = 6 := rfl
        rw [List.length_append, leOf_length]
        omega
      have HLN : Hid (∀ W v, Fresh w6 W v (leOf cn 2 ++ layR r) → Calls Try.prog 40 #[v, .slice ao n c] W fun e w' => ∃ v', e = .returned v' ∧ Fresh w6 w' v' (rsB r l)) := hid (fun W v hf => (laynames_any w6 W v _ hf ao n c l HL6.out (tooL_false HT.out).2 (tooL_false HT.out).1 hlr).mono (by
        rintro e w' ⟨v', rfl, hf2⟩
        refine ⟨v', rfl, ?_⟩
        unfold rsB
        rw [HCN.out]
        exact hf2))
      rw [hcn] at d0 hcw
      clear hk6 HTL hsz6 c0 c5 hcn hcn2 hlr d1 d2
      go_upto_region 9 with fail
      go_cut [6] from 24 to 33 (fun z wx => ∃ a m q, z = .slice a m q ∧ Hid (Fresh w6 wx z (rsB r l)))
      case first =>
        go_region_held3 (fun w' => w'.cell? ⟨p, 0, none⟩ = some (.int .i64 (cn : Nat)) ∧ w'.cell? ⟨p, 5, none⟩ = some (.slice ao n c))
          (first
            | exact ⟨hf9.kept.cell d0 (fun f => f), hf9.kept.cell d5 (fun f => f)⟩
            | exact ⟨hf8.kept.cell d0 (fun f => f), hf8.kept.cell d5 (fun f => f)⟩
            | exact ⟨hf7.kept.cell d0 (fun f => f), hf7.kept.cell d5 (fun f => f)⟩
            | go_keep)
          (first
            | (go_at_call 41; refine (HP.out _ (by first | exact Kept.refl (fun _ => False) _ | exact (Kept.refl (fun _ => False) _).drew | exact (Kept.refl (fun _ => False) _).drewN _)).mono ?_; rintro e w7 ⟨v7, rfl, hf7⟩)
            | (go_at_call 28; refine (HLY.out _ v7 hf7).mono ?_; rintro e w8 ⟨v8, rfl, hf8⟩)
            | (go_at_call 40; refine (HLN.out _ v8 hf8).mono ?_; rintro e w9 ⟨v9, rfl, hf9⟩))
        all_goals
          go_wp2_with fail
          go_meet
          obtain ⟨a9, c9, e9, _⟩ := hf9.row.shape
          exact ⟨a9, _, c9, e9, hid hf9⟩
      case rest =>
        obtain ⟨a9, m9, q9, rfl, HF9⟩ := hcut
        have HM9 : Hid (m9 = (rsB r l).length) := hid (by
          obtain ⟨a8, c8, e8, _⟩ := HF9.out.row.shape
          simp only [Value.slice.injEq] at e8
          exact e8.2.1)
        by_cases hlen : 20000 < m9
        · have HE : Hid (rerr r l = 2) := hid (by unfold rerr; rw [if_neg HC.out, if_neg (by rw [HR0.out]; decide), if_neg (by rw [HT.out]; decide), if_pos (by rw [← HM9.out]; exact hlen)])
          have d1 : decide ((20000 : Int) < (m9 : Int)) = true := by simp; omega
          have d2 : decide (20000 < m9) = true := by simp; omega
          clear hlen
          go_wp2_with fail
          go_ret2
          exact putA_bad HE.out (by decide) (Same.trans HK6.out HF9.out.kept)
        · have HE : Hid (rerr r l = 0) := hid (by unfold rerr; rw [if_neg HC.out, if_neg (by rw [HR0.out]; decide), if_neg (by rw [HT.out]; decide), if_neg (by rw [← HM9.out]; exact hlen)])
          have d1 : decide ((20000 : Int) < (m9 : Int)) = false := by simp; omega
          have d2 : decide (20000 < m9) = false := by simp; omega
          clear hlen
          go_wp2_with fail
          go_ret2
          refine ⟨_, by rw [HE.out]; rfl, ?_⟩
          unfold prB
          rw [if_pos HE.out]
          exact ⟨HF9.out.row, Same.trans HK6.out HF9.out.kept, fun k e => Nat.le_trans HSZ.out (HF9.out.new k e)⟩
  · have hr0 : R = 1 := by rw [HR.out, h]
    have HE : Hid (rerr r l = 1) := hid (by unfold rerr; rw [if_neg HC.out, if_pos (by rw [h]; decide), h])
    subst hr0
    clear h
    go_wp2_with fail
    go_ret2
    exact putA_bad HE.out (by decide) HK5.out
  · have hr0 : R = 2 := by rw [HR.out, h]
    have HE : Hid (rerr r l = 2) := hid (by unfold rerr; rw [if_neg HC.out, if_pos (by rw [h]; decide), h])
    subst hr0
    clear h
    go_wp2_with fail
    go_ret2
    exact putA_bad HE.out (by decide) HK5.out

end Go.Proofs.Ytaefgnakdadgeaa
