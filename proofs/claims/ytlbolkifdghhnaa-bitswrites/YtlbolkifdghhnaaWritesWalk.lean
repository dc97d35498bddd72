/-
  The walk of the law BitsWrites.
-/
import Derived.Test.YtlbolkifdghhnaaRoundWalk
import Derived.Test.YtlbolkifdghhnaaRef2
namespace Go.Proofs.Ytlbolkifdghhnaa
open Go.RowKit

/-- The writer and the row of bits that it should have. -/
structure Pair (w0 w : World) (p : Nat) (s vl : Value) (ls : List Nat) : Prop where
  wr : Wr w p s (n2 ls) ls.length
  row : Row w vl ls
  bit : ∀ b ∈ ls, b < 2
  ap : ∀ k, Fp p s k → w0.heap.size ≤ k
  al : ∀ k, vl.ownBlock = some k → w0.heap.size ≤ k
  dis : ∀ k, vl.ownBlock = some k → ¬ Fp p s k
  kept : Kept (Above w0.heap.size) w0 w

theorem Pair.fresh {w0 w w' : World} {p : Nat} {s vl : Value} {ls : List Nat} (h : Pair w0 w p s vl ls) (hk : Kept (fun _ => False) w w') : Pair w0 w' p s vl ls :=
  ⟨h.wr.kept hk (fun _ _ e => e), h.row.kept hk (fun _ _ e => e), h.bit, h.ap, h.al, h.dis, h.kept.trans hk (fun _ _ e => e) (fun _ _ e => e.elim)⟩

theorem Pair.other {w0 w w' : World} {p : Nat} {s vl : Value} {ls : List Nat} {g : Nat} (h : Pair w0 w p s vl ls) (hk : Kept (· = g) w w') (h0 : w0.heap.size ≤ g) (h1 : ¬ Fp p s g) (h2 : vl.ownBlock ≠ some g) : Pair w0 w' p s vl ls :=
  ⟨h.wr.kept hk (fun k hk1 e => h1 (by rw [← e]; exact hk1)), h.row.kept hk (fun k hk1 e => h2 (by rw [← e]; exact hk1)), h.bit, h.ap, h.al, h.dis, h.kept.trans hk (fun _ _ e => e) (fun x _ e => by unfold Above; omega)⟩

/-- The reference goes on: the writer still has the bits it had. -/
structure Half (w0 w : World) (p : Nat) (s vl : Value) (ls ms : List Nat) : Prop where
  wr : Wr w p s (n2 ls) ls.length
  row : Row w vl ms
  ap : ∀ k, Fp p s k → w0.heap.size ≤ k
  al : ∀ k, vl.ownBlock = some k → w0.heap.size ≤ k
  dis : ∀ k, vl.ownBlock = some k → ¬ Fp p s k
  kept : Kept (Above w0.heap.size) w0 w

theorem Pair.ref {w0 w w' : World} {p : Nat} {s vl vl' : Value} {ls ms : List Nat} (h : Pair w0 w p s vl ls) (hg : Grows w w' vl vl' ms) : Half w0 w' p s vl' ls ms := by
  have hsz := h.kept.size
  refine ⟨h.wr.kept hg.kept (fun k h1 h2 => h.dis k h2 h1), hg.row, h.ap, ?_, ?_, h.kept.trans hg.kept (fun _ _ e => e) (fun x _ e => h.al x e)⟩
  · intro k hk
    rcases hg.own with e | e
    · exact h.al k (by rw [← e, hk])
    · exact Nat.le_trans hsz (e k hk)
  · intro k hk h1
    rcases hg.own with e | e
    · exact h.dis k (by rw [← e, hk]) h1
    · have := e k hk; have := h.wr.fp_lt h1; omega

theorem Half.done {w0 w w' : World} {p : Nat} {s s' vl : Value} {ls ms : List Nat} (h : Half w0 w p s vl ls ms) (hw : Wr w' p s' (n2 ms) ms.length) (hk : Kept (Fp p s) w w') (hg : Grew w s s') (hb : ∀ b ∈ ms, b < 2) : Pair w0 w' p s' vl ms := by
  have hsz := h.kept.size
  refine ⟨hw, h.row.kept hk h.dis, hb, ?_, h.al, ?_, h.kept.trans hk (fun _ _ e => e) (fun x _ e => h.ap x e)⟩
  · intro k hk2
    rcases hk2 with e | e
    · exact h.ap k (.inl e)
    · rcases hg with e' | e'
      · exact h.ap k (.inr (by rw [← e', e]))
      · have := e' k e; omega
  · intro k hk1 hk2
    rcases hk2 with e | e
    · exact h.dis k hk1 (.inl e)
    · rcases hg with e' | e'
      · exact h.dis k hk1 (.inr (by rw [← e', e]))
      · have := e' k e; have := h.row.lt hk1; omega

theorem put_no (p v : Nat) (n : Int) (X c : Nat) (s : Value) (w : World) (hw : Wr w p s X c) (hc : c ≤ 1000000000000) (hm : mayB v n = false) :
    Calls Try.prog 11 #[.pointer (some ⟨p, 0, none⟩), .int .u32 (v : Nat), .int .i64 n] w fun e w' => e = .returned (.int .i64 1) ∧
      ∃ s', Wr w' p s' X c ∧ Kept (Fp p s) w w' ∧ Grew w s s' := by
  have h := put_any p v n X c s w hw hc
  simp only [putE, putV, putN, hm, Bool.false_eq_true, if_false, Nat.zero_mul, Nat.add_zero] at h
  exact h

theorem gap_len (n : Nat) : n + gap n = (n + 7) / 8 * 8 := by unfold gap; omega

/-- Both ways to the bytes come to the same. -/
theorem bytes_same {ls bs : List Nat} (hb : ∀ b ∈ ls, b < 2) (h8 : ∀ b ∈ bs, b < 256) (hX : n256 bs = n2 ls) (hl : bs.length = (ls.length + 7) / 8) : bs = outOf ls ((ls.length + 7) / 8) := by
  refine n256_inj _ _ (by rw [outOf_length, hl]) h8 (outOf_lt ls hb _) ?_
  rw [hX, outOf_all ls _ (by omega) (by omega)]

set_option maxHeartbeats 2000000 in
set_option maxRecDepth 100000 in
theorem writes_walk (w : World) (a : Option Addr) (len cap : Nat) (K : Nat → Int) (V : Nat → Nat) (N : Nat → Int) (hlen : len ≤ 5000) (hops : OpsAt w a len K V N) :
    Calls Try.prog 3 #[.slice a len cap] w fun e w' => e = .returned (.bool true) ∧ Below w.heap.size w w' := by
  have hd1 : decide (5000 < (len : Int)) = false := by simp; omega
  have HO : Hid (OpsAt w a len K V N) := hops
  clear hops
  go_enter Try.func3, Try.ntmps3
  go_wp2_with fail
  refine (newWriter_any _).mono ?_
  rintro e w1 ⟨rfl, hw1, hk1, hs1⟩
  have O1 : Hid (Pair w w1 w.heap.size (.slice none 0 0) (.slice none 0 0) []) := by
    refine ⟨hw1, World.ownsRow_nil _ _ _ _, by simp, ?_, ?_, ?_, hk1.mono (fun _ _ e => e.elim)⟩
    · intro k h2
      rcases h2 with e | e
      · omega
      · cases e
    · intro k h2; cases h2
    · intro k h2; cases h2
  clear hw1 hk1 hs1
  go_wp2_with fail
  go_loopg [4, 5] len (fun k x i wr => ∃ (j : Nat) (s : Value) (ls : List Nat), j ≤ len ∧ len - j ≤ k ∧ i = .int .i64 (j : Nat) ∧ ls.length ≤ 40 * j ∧ Pair w wr w.heap.size s x ls)
  case atStart => exact ⟨0, _, [], by omega, by omega, rfl, by simp, O1.out⟩
  case round =>
    obtain ⟨j, s, ls, hj, hjk, rfl, hll, hP⟩ := hrel
    have HP : Hid (Pair w wr w.heap.size s u4 ls) := hP
    have hOps := HO.out.kept (Nat.le_refl _) hP.kept
    clear O1
    by_cases hlt : j < len
    · obtain ⟨hv, b, o, rfl, c0, c1, c2⟩ := hOps j hlt
      obtain ⟨v, hV⟩ : ∃ v, v = V j := ⟨_, rfl⟩
      obtain ⟨n, hN⟩ : ∃ n, n = N j := ⟨_, rfl⟩
      obtain ⟨κ, hK⟩ : ∃ κ, κ = K j := ⟨_, rfl⟩
      rw [← hV] at c1 hv
      rw [← hN] at c2
      rw [← hK] at c0
      obtain ⟨ao, cp, hu, _⟩ := hP.row.shape
      have hlt4 : ∀ k, u4.ownBlock = some k → k < wr.heap.size := fun k hk => hP.row.lt hk
      have HLT : Hid (∀ k, Fp w.heap.size s k → k < wr.heap.size) := fun k hk => hP.wr.fp_lt hk
      subst hu
      have HL4 : Hid (∀ k, (Value.slice ao ls.length cp).ownBlock = some k → k < wr.heap.size) := hlt4
      have hsz : w.heap.size < wr.heap.size := HLT.out _ (.inl rfl)
      have HBIT : Hid (∀ b ∈ ls, b < 2) := hP.bit
      clear hOps hV hN hK hP hlt4
      by_cases hk1 : κ = 1
      · subst hk1
        have HP1 : Hid (Pair w (wr.alloc (.cells #[.int .i64 1, .int .u32 v, .int .i64 n] 28)) w.heap.size s (.slice ao ls.length cp) ls) := HP.out.fresh ((Kept.refl _ wr).alloc _)
        clear HP
        by_cases hm : mayB v n = true
        · obtain ⟨hn0, hn1, hn2⟩ := mayB_true hm
          obtain ⟨m, rfl⟩ : ∃ m : Nat, n = m := ⟨n.toNat, by omega⟩
          simp only [Int.toNat_natCast] at hn2
          go_wp2_with fail
          refine (may_any v m _ hv).mono ?_
          rintro e w' ⟨rfl, rfl⟩
          rw [hm]
          go_wp2_with fail
          refine (refPut_any _ _ ls v m HP1.out.row (by omega) hv (by omega)).mono ?_
          rintro e w2 ⟨vl, rfl, hg⟩
          obtain ⟨ms, hms⟩ : ∃ ms, ms = ls ++ bitsOf v m := ⟨_, rfl⟩
          rw [← hms] at hg
          have H2 : Hid (Half w w2 w.heap.size s vl ls ms) := HP1.out.ref hg
          have hne : ¬ (Value.slice ao ls.length cp).ownBlock = some wr.heap.size := fun e => by have := HL4.out _ e; omega
          have d1 : w2.cell? ⟨wr.heap.size, 1, none⟩ = some (.int .u32 (v : Nat)) := hg.kept.cell (by simp) hne
          have d2 : w2.cell? ⟨wr.heap.size, 2, none⟩ = some (.int .i64 (m : Nat)) := hg.kept.cell (by simp) hne
          obtain ⟨ao2, cp2, hu2, _⟩ := hg.row.shape
          have HMS : Hid (ms = ls ++ bitsOf v m) := hms
          subst hu2
          clear hg hms HP1 hne
          go_wp2_with fail
          refine (put_good w.heap.size v m _ _ s w2 (by omega) hn2 H2.out.wr (by omega)).mono ?_
          rintro e w3 ⟨rfl, s3, hw3, hk3, hg3⟩
          have hml : ms.length = ls.length + m := by rw [HMS.out, List.length_append, bitsOf_length]
          have H3 : Hid (Pair w w3 w.heap.size s3 (.slice ao2 ms.length cp2) ms) := by
            refine H2.out.done ?_ hk3 hg3 ?_
            · rw [hml, HMS.out, n2_put ls v m hn2]; exact hw3
            · rw [HMS.out]
              intro x hx
              rcases List.mem_append.1 hx with h | h
              · exact HBIT.out x h
              · exact bitsOf_lt v m x h
          have hml2 : ms.length ≤ ls.length + 32 := by omega
          clear hw3 hk3 hg3 H2 d1 d2 hml
          go_wp2_with fail
          refine (len_any _ _ _ _ _ H3.out.wr).mono ?_
          rintro e w9 ⟨rfl, rfl⟩
          go_wp2_with fail
          go_roundg (gk - 1)
          case measure => omega
          case rel => exact ⟨j + 1, _, ms, by omega, by omega, by go_num, by omega, H3.out⟩
        · have hm' : mayB v n = false := by simpa using hm
          clear hm
          go_wp2_with fail
          refine (may_any v n _ hv).mono ?_
          rintro e w' ⟨rfl, rfl⟩
          rw [hm']
          go_wp2_with fail
          refine (put_no w.heap.size v n _ _ s _ HP1.out.wr (by omega) hm').mono ?_
          rintro e w3 ⟨rfl, s3, hw3, hk3, hg3⟩
          have H3 : Hid (Pair w w3 w.heap.size s3 (.slice ao ls.length cp) ls) := by
            have h : Half w (wr.alloc (.cells #[.int .i64 1, .int .u32 v, .int .i64 n] 28)) w.heap.size s (.slice ao ls.length cp) ls ls := HP1.out.ref (Grows.refl HP1.out.row)
            exact h.done hw3 hk3 hg3 HBIT.out
          clear hw3 hk3 hg3 HP1
          go_wp2_with fail
          refine (len_any _ _ _ _ _ H3.out.wr).mono ?_
          rintro e w9 ⟨rfl, rfl⟩
          go_wp2_with fail
          go_roundg (gk - 1)
          case measure => omega
          case rel => exact ⟨j + 1, _, ls, by omega, by omega, by go_num, by omega, H3.out⟩
      · by_cases hk2 : κ = 2
        · subst hk2
          have HP1 : Hid (Pair w (wr.alloc (.cells #[.int .i64 2, .int .u32 v, .int .i64 n] 28)) w.heap.size s (.slice ao ls.length cp) ls) := HP.out.fresh ((Kept.refl _ wr).alloc _)
          clear HP
          go_wp2_with fail
          refine (refAlign_any _ _ ls HP1.out.row (by omega)).mono ?_
          rintro e w2 ⟨vl, rfl, hg⟩
          obtain ⟨ms, hms⟩ : ∃ ms, ms = ls ++ List.replicate (gap ls.length) 0 := ⟨_, rfl⟩
          rw [← hms] at hg
          have H2 : Hid (Half w w2 w.heap.size s vl ls ms) := HP1.out.ref hg
          obtain ⟨ao2, cp2, hu2, _⟩ := hg.row.shape
          have HMS : Hid (ms = ls ++ List.replicate (gap ls.length) 0) := hms
          subst hu2
          clear hg hms HP1
          go_wp2_with fail
          refine (walign_any w.heap.size _ _ s w2 H2.out.wr (by omega)).mono ?_
          rintro e w3 ⟨rfl, hw3, hk3⟩
          have hgl := gap_len ls.length
          have hml : ms.length = (ls.length + 7) / 8 * 8 := by rw [HMS.out, List.length_append, List.length_replicate]; exact hgl
          have hml2 : ms.length ≤ ls.length + 7 := by omega
          have H3 : Hid (Pair w w3 w.heap.size s (.slice ao2 ms.length cp2) ms) := by
            refine H2.out.done ?_ hk3 (.inl rfl) ?_
            · rw [hml, HMS.out, n2_align]; exact hw3
            · rw [HMS.out]
              intro x hx
              rcases List.mem_append.1 hx with h | h
              · exact HBIT.out x h
              · have := List.eq_of_mem_replicate h; omega
          clear hw3 hk3 H2 hml hgl
          go_wp2_with fail
          refine (len_any _ _ _ _ _ H3.out.wr).mono ?_
          rintro e w9 ⟨rfl, rfl⟩
          go_wp2_with fail
          go_roundg (gk - 1)
          case measure => omega
          case rel => exact ⟨j + 1, _, ms, by omega, by omega, by go_num, by omega, H3.out⟩
        · have HP1 : Hid (Pair w (wr.alloc (.cells #[.int .i64 κ, .int .u32 v, .int .i64 n] 28)) w.heap.size s (.slice ao ls.length cp) ls) := HP.out.fresh ((Kept.refl _ wr).alloc _)
          clear HP
          go_wp2_with fail
          refine (wbytes_any _ _ _ _ _ HP1.out.wr (by omega)).mono ?_
          rintro e w2 ⟨g, bs, rfl, hrow, hb8, hbX, hbl, hkw2, hg2⟩
          have H2 : Hid (Pair w w2 w.heap.size s (.slice ao ls.length cp) ls) := HP1.out.fresh hkw2
          have HSAME : Hid (bs = outOf ls ((ls.length + 7) / 8)) := bytes_same HBIT.out hb8 hbX hbl
          have HROW : Hid (Row w2 (.slice (some ⟨g, 0, none⟩) bs.length bs.length) bs) := hrow
          have HB8 : Hid (∀ b ∈ bs, b < 256) := hb8
          have hbl2 : bs.length ≤ 100000 := by omega
          have hgg : wr.heap.size < g := by simp at hg2; omega
          have HF2 : Hid (∀ k, Fp w.heap.size s k → k < w2.heap.size) := fun k hk => H2.out.wr.fp_lt hk
          have HR2 : Hid (∀ k, (Value.slice ao ls.length cp).ownBlock = some k → k < w2.heap.size) := fun k hk => H2.out.row.lt hk
          clear hrow hb8 hbX hbl hkw2 hg2 HP1
          go_wp2_with fail
          refine (refBytes_any _ _ _ ls (Src.ofRow H2.out.row) HR2.out HBIT.out (by omega)).mono ?_
          rintro e w3 ⟨v3, rfl, hr3, hkw3, ho3⟩
          have H3 : Hid (Pair w w3 w.heap.size s (.slice ao ls.length cp) ls) := H2.out.fresh hkw3
          have HROW3 : Hid (Row w3 (.slice (some ⟨g, 0, none⟩) bs.length bs.length) bs) := HROW.out.kept hkw3 (fun _ _ e => e)
          have HR3 : Hid (Row w3 v3 bs) := by rw [HSAME.out]; exact hr3
          clear hr3 hkw3 ho3 H2 HROW HF2 HR2
          go_wp2_with fail
          refine (keepBytes_any _ _ _ _ bs bs _ (Src.ofRow HROW3.out) (Src.ofRow HR3.out) (by omega) (by omega)).mono ?_
          rintro e w4 ⟨rfl, m4, rfl⟩
          have H4 : Hid (Pair w (w3.drewN m4) w.heap.size s (.slice ao ls.length cp) ls) := H3.out.fresh ((Kept.refl _ w3).drewN m4)
          have HROW4 : Hid (Row (w3.drewN m4) (.slice (some ⟨g, 0, none⟩) bs.length bs.length) bs) := HROW3.out
          have hdd : decide (bs = bs) = true := by simp
          clear H3 HROW3 HR3
          go_wp2_with fail
          refine (spoil_any _ g bs.length bs HROW4.out (by omega) HB8.out).mono ?_
          rintro e w5 ⟨rfl, hk5⟩
          have H5 : Hid (Pair w w5 w.heap.size s (.slice ao ls.length cp) ls) := by
            refine H4.out.other hk5 (by omega) (fun e => ?_) (fun e => ?_)
            · have := HLT.out g e; omega
            · have := HL4.out g e; omega
          clear hk5 H4 HROW4
          go_wp2_with fail
          refine (len_any _ _ _ _ _ H5.out.wr).mono ?_
          rintro e w9 ⟨rfl, rfl⟩
          go_wp2_with fail
          go_roundg (gk - 1)
          case measure => omega
          case rel => exact ⟨j + 1, _, ls, by omega, by omega, by go_num, by omega, H5.out⟩
    · have hjl : j = len := by omega
      subst hjl
      clear hOps hP
      go_wp2_with fail
      refine (awake_any _).mono ?_
      rintro e w2 ⟨rfl, hb2⟩
      have H2 : Hid (Pair w w2 w.heap.size s u4 ls) := HP.out.fresh (below_kept hb2 _)
      clear hb2 HP
      go_wp2_with fail
      refine (wbytes_any _ _ _ _ _ H2.out.wr (by omega)).mono ?_
      rintro e w3 ⟨g, bs, rfl, hrow, hb8, hbX, hbl, hkw3, hg3⟩
      have H3 : Hid (Pair w w3 w.heap.size s u4 ls) := H2.out.fresh hkw3
      have HSAME : Hid (bs = outOf ls ((ls.length + 7) / 8)) := bytes_same H3.out.bit hb8 hbX hbl
      have HROW : Hid (Row w3 (.slice (some ⟨g, 0, none⟩) bs.length bs.length) bs) := hrow
      have hbl2 : bs.length ≤ 100000 := by omega
      have HR2 : Hid (∀ k, u4.ownBlock = some k → k < w3.heap.size) := fun k hk => H3.out.row.lt hk
      clear hrow hb8 hbX hbl hkw3 hg3 H2
      go_wp2_with fail
      refine (refBytes_any _ _ _ ls (Src.ofRow H3.out.row) HR2.out H3.out.bit (by omega)).mono ?_
      rintro e w4 ⟨v4, rfl, hr4, hkw4, ho4⟩
      have H4 : Hid (Pair w w4 w.heap.size s u4 ls) := H3.out.fresh hkw4
      have HROW4 : Hid (Row w4 (.slice (some ⟨g, 0, none⟩) bs.length bs.length) bs) := HROW.out.kept hkw4 (fun _ _ e => e)
      have HR4 : Hid (Row w4 v4 bs) := by rw [HSAME.out]; exact hr4
      clear hr4 hkw4 ho4 H3 HROW HR2
      go_wp2_with fail
      refine (keepBytes_any _ _ _ _ bs bs _ (Src.ofRow HROW4.out) (Src.ofRow HR4.out) (by omega) (by omega)).mono ?_
      rintro e w5 ⟨rfl, m5, rfl⟩
      have hdd : decide (bs = bs) = true := by simp
      go_wp2_with fail
      go_ret
      exact ⟨rfl, kept_below (H4.out.kept.drewN _)⟩
end Go.Proofs.Ytlbolkifdghhnaa
