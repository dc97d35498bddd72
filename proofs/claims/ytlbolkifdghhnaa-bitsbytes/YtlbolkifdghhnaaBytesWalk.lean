/-
  The walk of the law BitsBytes.
-/
import Derived.Test.YtlbolkifdghhnaaTwo
namespace Go.Proofs.Ytlbolkifdghhnaa
open Go.RowKit

/-- What holds at each round's head: what was taken was put. -/
structure Both (w0 w : World) (p : Nat) (s : Value) (q : Nat) (t : Value) (bs : List Nat) (c : Nat) : Prop where
  two : Two w0 w p s (n256 bs % 2 ^ c) c q t bs c
  le : c ≤ 8 * bs.length

theorem Both.step {w0 w w1 w2 : World} {p q c n v : Nat} {s s' t : Value} {bs : List Nat} (h : Both w0 w p s q t bs c) (hv : v = n256 bs / 2 ^ c % 2 ^ n) (hn : c + n ≤ 8 * bs.length) (hr : St w1 q t bs (c + n)) (hk : Kept (· = q) w w1)
    (hw : Wr w2 p s' (n256 bs % 2 ^ c + v * 2 ^ c) (c + n)) (hk2 : Kept (Fp p s) w1 w2) (hg : Grew w1 s s') : Both w0 w2 p s' q t bs (c + n) := by
  refine ⟨?_, hn⟩
  have e : n256 bs % 2 ^ c + v * 2 ^ c = n256 bs % 2 ^ (c + n) := by rw [more_bits, hv, Nat.mul_comm]
  rw [e] at hw
  exact (h.two.take hr hk).put hw hk2 hg

theorem left_both {w0 w : World} {p q c : Nat} {s t : Value} {bs : List Nat} (h : Both w0 w p s q t bs c) (hlen : bs.length ≤ 100000000000) :
    Calls Try.prog 26 #[.pointer (some ⟨q, 0, none⟩)] w fun e w' => e = .returned (.int .i64 ((8 * bs.length - c : Nat) : Int)) ∧ Hid (Both w0 w' p s q t bs c) ∧ Hid (Kept (fun _ => False) w w') := by
  refine (left_any q c t bs w h.two.rd h.le hlen).mono ?_
  rintro e w' ⟨rfl, m, rfl⟩
  exact ⟨rfl, ⟨h.two.draw m, h.le⟩, (Kept.refl _ w).drewN m⟩

set_option maxHeartbeats 2000000 in
theorem bytes_walk (w : World) (v0 : Value) (bs : List Nat) (I : Nat → Prop) (hsrc : Src w I v0 bs) (hI : ∀ k, I k → k < w.heap.size) (hb : ∀ b ∈ bs, b < 256) (hlen : bs.length ≤ 16384)
    (a1 : Option Addr) (len1 cap1 : Nat) (z1 : Nat → Int) (h1 : len1 ≤ 5000) (hz : ∀ j, j < len1 → ∃ b o, a1 = some ⟨b, o, none⟩ ∧ w.cell? ⟨b, o + j, none⟩ = some (.int .i64 (z1 j))) :
    Calls Try.prog 6 #[v0, .slice a1 len1 cap1] w fun e w' => e = .returned (.bool true) ∧ Below w.heap.size w w' := by
  obtain ⟨a0, cap0, rfl, _⟩ := id hsrc
  have HS : Hid (Src w I (.slice a0 bs.length cap0) bs) := hsrc
  have HI : Hid (∀ k, I k → k < w.heap.size) := hI
  have HB : Hid (∀ b ∈ bs, b < 256) := hb
  have hd1 : decide (16384 < (bs.length : Int)) = false := by simp; omega
  have hd2 : decide (5000 < (len1 : Int)) = false := by simp; omega
  clear hsrc hI hb
  go_enter Try.func6, Try.ntmps6
  go_wp2_with fail
  refine (newWriter_any _).mono ?_
  rintro e w1 ⟨rfl, hw1, hk1, hs1⟩
  have hs1' : w.heap.size < w1.heap.size := by omega
  clear hs1
  go_wp2_with fail
  refine (newReader_any _ _ bs _ (HS.out.kept hk1 (fun _ _ _ e => e)) (by omega) HB.out).mono ?_
  rintro e w2 ⟨q, t, rfl, hr2, hk2, hf2⟩
  have T2 : Hid (Both w w2 w.heap.size (.slice none 0 0) q t bs 0) := by
    refine ⟨⟨?_, hr2, ?_, ?_, ?_, ?_⟩, by omega⟩
    · rw [show n256 bs % 2 ^ 0 = 0 by simp [Nat.mod_one]]; exact hw1.kept hk2 (fun _ _ e => e)
    · intro k h1 h2
      have := hf2 k h1
      rcases h2 with e | e
      · omega
      · cases e
    · intro k h2
      rcases h2 with e | e
      · omega
      · cases e
    · intro k h2; have := hf2 k h2; omega
    · exact hk1.trans hk2 (H := Above w.heap.size) (fun _ _ e => e.elim) (fun _ _ e => e.elim)
  clear hr2 hk2 hf2 hw1 hk1 hs1'
  go_wp2_with fail
  go_loopg [7, 8, 9, 10] (8 * bs.length) (fun k i x8 x9 x10 wr => ∃ (j c : Nat) (s : Value), j ≤ c ∧ i = .int .i64 (j : Nat) ∧ 8 * bs.length - c ≤ k ∧ Both w wr w.heap.size s q t bs c)
  case atStart => exact ⟨0, 0, _, Nat.le_refl _, rfl, by omega, T2.out⟩
  case round =>
    obtain ⟨j, c, s, hjc, rfl, hk, hB⟩ := hrel
    have HT : Hid (Both w wr w.heap.size s q t bs c) := hB
    have hle := hB.le
    clear hB T2 hd1 hd2
    have HC0 := left_both HT.out (by omega)
    have HCm := fun (w' : World) (h : Hid (Both w w' w.heap.size s q t bs c)) m => left_any q c t bs (w'.drewN m) (h.out.two.rd.drewN m) hle (by omega)
    obtain ⟨L, hL⟩ : ∃ L, L = 8 * bs.length - c := ⟨_, rfl⟩
    have HL : Hid (L = 8 * bs.length - c) := hL
    rw [← hL] at HC0 HCm hk
    have hLb : L ≤ 131072 := by omega
    have hjb : j ≤ 131072 := by omega
    clear hL
    by_cases h0 : L = 0
    · have hd : decide (0 < (L : Int)) = false := by simp; omega
      go_wp2_with (go_at_call 26; refine HC0.mono ?_; rintro e wl ⟨rfl, HT2, HK2⟩)
      refine (awake_any _).mono ?_
      rintro e w3 ⟨rfl, hb3⟩
      have T3 : Hid (Two w w3 w.heap.size s (n256 bs % 2 ^ c) c q t bs c) := HT2.out.two.fresh (below_kept hb3 _)
      clear hb3 HC0 HCm
      go_wp2_with fail
      refine (wbytes_any _ _ _ _ _ T3.out.wr (by omega)).mono ?_
      rintro e w4 ⟨g, bs', rfl, hrow, hb8, hbX, hbl, hk4, hg4⟩
      have hlen2 := HL.out
      have hc8 : c = 8 * bs.length := by omega
      have hbs : bs' = bs := by
        refine n256_inj bs' bs (by omega) hb8 HB.out ?_
        rw [hbX, hc8, ← pow8]
        exact Nat.mod_eq_of_lt (n256_lt bs HB.out)
      subst hbs
      have T4 : Hid (Two w w4 w.heap.size s (n256 bs' % 2 ^ c) c q t bs' c) := T3.out.fresh hk4
      have HR : Hid (Row w4 (.slice (some ⟨g, 0, none⟩) bs'.length bs'.length) bs') := hrow
      have HC8 : Hid (c = 8 * bs'.length) := hc8
      have HS4 : Hid (Src w4 I (.slice a0 bs'.length cap0) bs') := HS.out.kept T4.out.kept (fun k h1 _ h2 => by have := HI.out k h1; unfold Above at h2; omega)
      clear hrow hb8 hbX hbl hk4 hg4 hlen2 hc8 T3
      go_wp2_with fail
      refine (keepBytes_any _ _ _ _ bs' bs' _ (Src.ofRow HR.out) HS4.out (by omega) (by omega)).mono ?_
      rintro e w5 ⟨rfl, m5, rfl⟩
      have T5 : Hid (Two w (w4.drewN m5) w.heap.size s (n256 bs' % 2 ^ c) c q t bs' c) := T4.out.draw m5
      have hdd : decide (bs' = bs') = true := by simp
      clear T4 HR HS4
      go_wp2_with fail
      refine (gone_any q c t bs' _ T5.out.rd).mono ?_
      rintro e w6 ⟨rfl, rfl⟩
      have hde : ((c : Int) == 8 * (bs'.length : Int)) = true := by have := HC8.out; simp; omega
      go_wp2_with fail
      go_ret
      exact ⟨rfl, kept_below T5.out.kept⟩
    · have hd : decide (0 < (L : Int)) = true := by simp; omega
      by_cases hA : j < len1
      · obtain ⟨b, o, rfl, hzc⟩ := hz j hA
        obtain ⟨Z, hZ⟩ : ∃ Z, Z = z1 j := ⟨_, rfl⟩
        rw [← hZ] at hzc
        have hcell : wr.cell? ⟨b, o + j, none⟩ = some (.int .i64 Z) := HT.out.two.kept.cell hzc (fun h => by have := World.block_lt_of_cell? w _ hzc; simp at this; unfold Above at h; simp at h; omega)
        clear hzc hZ hz
        have hdA : decide ((j : Int) < (len1 : Int)) = true := by simp; omega
        by_cases hB : 1 ≤ Z
        · have hdB : decide (1 ≤ Z) = true := by simp; omega
          by_cases hC : Z ≤ 32
          · have hdC : decide (Z ≤ 32) = true := by simp; omega
            by_cases hD : Z ≤ (L : Int)
            · have hdD : decide (Z ≤ (L : Int)) = true := by simp; omega
              go_wp2_with (go_at_call 26; refine HC0.mono ?_; rintro e wl ⟨rfl, HT2, HK2⟩; have hcell2 := HK2.out.cell hcell (fun h => h))
              go_quiet ((go_at_call 26; exact Calls.quiet_of (HCm _ HT2 _)))
              go_wp2_with fail
              obtain ⟨n, hn, hn1, hn2, hnL⟩ : ∃ n : Nat, Z = n ∧ 1 ≤ n ∧ n ≤ 32 ∧ n ≤ L := ⟨Z.toNat, by omega, by omega, by omega, by omega⟩
              have HN : Hid (Z = n) := hn
              clear hn
              obtain ⟨V, hV⟩ : ∃ V, V = n256 bs / 2 ^ c % 2 ^ n := ⟨_, rfl⟩
              refine (take_at (V := (V : Nat)) q c n t bs _ HN.out (HT2.out.two.rd.drewN _) (by omega) hn2 (by have := HL.out; omega) (by rw [hV])).mono ?_
              rintro e w3 ⟨rfl, hr3, hk3⟩
              have T3 : Hid (Two w w3 w.heap.size s (n256 bs % 2 ^ c) c q t bs (c + n)) := (HT2.out.two.draw _).take hr3 hk3
              have HV : Hid (V = n256 bs / 2 ^ c % 2 ^ n) := hV
              clear hV
              go_wp2_with fail
              refine (put_at w.heap.size V n _ c s _ rfl HN.out hn2 (by rw [HV.out]; exact Nat.mod_lt _ (Nat.two_pow_pos _)) T3.out.wr (by omega)).mono ?_
              rintro e w4 ⟨rfl, s4, hw4, hk4, hg4⟩
              have hcn : c + n ≤ 8 * bs.length := by have := HL.out; omega
              have R : Hid (Both w w4 w.heap.size s4 q t bs (c + n)) := ⟨by rw [more_bits, ← HV.out, Nat.mul_comm]; exact T3.out.put hw4 hk4 hg4, hcn⟩
              have hkk : 8 * bs.length - (c + n) < gk := by have := HL.out; omega
              clear hr3 hk3 T3 hw4 hk4 hg4 HC0 HCm
              go_wp2_with fail
              go_roundg (8 * bs.length - (c + n))
              case measure => exact hkk
              case rel => exact ⟨j + 1, c + n, s4, by omega, by go_num, Nat.le_refl _, R.out⟩
            · have hdD : decide (Z ≤ (L : Int)) = false := by simp; omega
              go_wp2_with (go_at_call 26; refine HC0.mono ?_; rintro e wl ⟨rfl, HT2, HK2⟩; have hcell2 := HK2.out.cell hcell (fun h => h))
              go_quiet ((go_at_call 26; exact Calls.quiet_of (HCm _ HT2 _)))
              go_wp2_with fail
              obtain ⟨n, hn, hn1, hn2, hnL⟩ : ∃ n : Nat, (1 : Int) = n ∧ 1 ≤ n ∧ n ≤ 32 ∧ n ≤ L := ⟨1, rfl, by omega, by omega, by omega⟩
              have HN : Hid ((1 : Int) = n) := hn
              clear hn
              obtain ⟨V, hV⟩ : ∃ V, V = n256 bs / 2 ^ c % 2 ^ n := ⟨_, rfl⟩
              refine (take_at (V := (V : Nat)) q c n t bs _ HN.out (HT2.out.two.rd.drewN _) (by omega) hn2 (by have := HL.out; omega) (by rw [hV])).mono ?_
              rintro e w3 ⟨rfl, hr3, hk3⟩
              have T3 : Hid (Two w w3 w.heap.size s (n256 bs % 2 ^ c) c q t bs (c + n)) := (HT2.out.two.draw _).take hr3 hk3
              have HV : Hid (V = n256 bs / 2 ^ c % 2 ^ n) := hV
              clear hV
              go_wp2_with fail
              refine (put_at w.heap.size V n _ c s _ rfl HN.out hn2 (by rw [HV.out]; exact Nat.mod_lt _ (Nat.two_pow_pos _)) T3.out.wr (by omega)).mono ?_
              rintro e w4 ⟨rfl, s4, hw4, hk4, hg4⟩
              have hcn : c + n ≤ 8 * bs.length := by have := HL.out; omega
              have R : Hid (Both w w4 w.heap.size s4 q t bs (c + n)) := ⟨by rw [more_bits, ← HV.out, Nat.mul_comm]; exact T3.out.put hw4 hk4 hg4, hcn⟩
              have hkk : 8 * bs.length - (c + n) < gk := by have := HL.out; omega
              clear hr3 hk3 T3 hw4 hk4 hg4 HC0 HCm
              go_wp2_with fail
              go_roundg (8 * bs.length - (c + n))
              case measure => exact hkk
              case rel => exact ⟨j + 1, c + n, s4, by omega, by go_num, Nat.le_refl _, R.out⟩
          · have hdC : decide (Z ≤ 32) = false := by simp; omega
            go_wp2_with (go_at_call 26; refine HC0.mono ?_; rintro e wl ⟨rfl, HT2, HK2⟩; have hcell2 := HK2.out.cell hcell (fun h => h))
            go_quiet (fail)
            go_wp2_with fail
            obtain ⟨n, hn, hn1, hn2, hnL⟩ : ∃ n : Nat, (1 : Int) = n ∧ 1 ≤ n ∧ n ≤ 32 ∧ n ≤ L := ⟨1, rfl, by omega, by omega, by omega⟩
            have HN : Hid ((1 : Int) = n) := hn
            clear hn
            obtain ⟨V, hV⟩ : ∃ V, V = n256 bs / 2 ^ c % 2 ^ n := ⟨_, rfl⟩
            refine (take_at (V := (V : Nat)) q c n t bs _ HN.out (HT2.out.two.rd.drewN _) (by omega) hn2 (by have := HL.out; omega) (by rw [hV])).mono ?_
            rintro e w3 ⟨rfl, hr3, hk3⟩
            have T3 : Hid (Two w w3 w.heap.size s (n256 bs % 2 ^ c) c q t bs (c + n)) := (HT2.out.two.draw _).take hr3 hk3
            have HV : Hid (V = n256 bs / 2 ^ c % 2 ^ n) := hV
            clear hV
            go_wp2_with fail
            refine (put_at w.heap.size V n _ c s _ rfl HN.out hn2 (by rw [HV.out]; exact Nat.mod_lt _ (Nat.two_pow_pos _)) T3.out.wr (by omega)).mono ?_
            rintro e w4 ⟨rfl, s4, hw4, hk4, hg4⟩
            have hcn : c + n ≤ 8 * bs.length := by have := HL.out; omega
            have R : Hid (Both w w4 w.heap.size s4 q t bs (c + n)) := ⟨by rw [more_bits, ← HV.out, Nat.mul_comm]; exact T3.out.put hw4 hk4 hg4, hcn⟩
            have hkk : 8 * bs.length - (c + n) < gk := by have := HL.out; omega
            clear hr3 hk3 T3 hw4 hk4 hg4 HC0 HCm
            go_wp2_with fail
            go_roundg (8 * bs.length - (c + n))
            case measure => exact hkk
            case rel => exact ⟨j + 1, c + n, s4, by omega, by go_num, Nat.le_refl _, R.out⟩
        · have hdB : decide (1 ≤ Z) = false := by simp; omega
          go_wp2_with (go_at_call 26; refine HC0.mono ?_; rintro e wl ⟨rfl, HT2, HK2⟩; have hcell2 := HK2.out.cell hcell (fun h => h))
          go_quiet (fail)
          go_wp2_with fail
          obtain ⟨n, hn, hn1, hn2, hnL⟩ : ∃ n : Nat, (1 : Int) = n ∧ 1 ≤ n ∧ n ≤ 32 ∧ n ≤ L := ⟨1, rfl, by omega, by omega, by omega⟩
          have HN : Hid ((1 : Int) = n) := hn
          clear hn
          obtain ⟨V, hV⟩ : ∃ V, V = n256 bs / 2 ^ c % 2 ^ n := ⟨_, rfl⟩
          refine (take_at (V := (V : Nat)) q c n t bs _ HN.out (HT2.out.two.rd.drewN _) (by omega) hn2 (by have := HL.out; omega) (by rw [hV])).mono ?_
          rintro e w3 ⟨rfl, hr3, hk3⟩
          have T3 : Hid (Two w w3 w.heap.size s (n256 bs % 2 ^ c) c q t bs (c + n)) := (HT2.out.two.draw _).take hr3 hk3
          have HV : Hid (V = n256 bs / 2 ^ c % 2 ^ n) := hV
          clear hV
          go_wp2_with fail
          refine (put_at w.heap.size V n _ c s _ rfl HN.out hn2 (by rw [HV.out]; exact Nat.mod_lt _ (Nat.two_pow_pos _)) T3.out.wr (by omega)).mono ?_
          rintro e w4 ⟨rfl, s4, hw4, hk4, hg4⟩
          have hcn : c + n ≤ 8 * bs.length := by have := HL.out; omega
          have R : Hid (Both w w4 w.heap.size s4 q t bs (c + n)) := ⟨by rw [more_bits, ← HV.out, Nat.mul_comm]; exact T3.out.put hw4 hk4 hg4, hcn⟩
          have hkk : 8 * bs.length - (c + n) < gk := by have := HL.out; omega
          clear hr3 hk3 T3 hw4 hk4 hg4 HC0 HCm
          go_wp2_with fail
          go_roundg (8 * bs.length - (c + n))
          case measure => exact hkk
          case rel => exact ⟨j + 1, c + n, s4, by omega, by go_num, Nat.le_refl _, R.out⟩
      · have hdA : decide ((j : Int) < (len1 : Int)) = false := by simp; omega
        go_wp2_with (go_at_call 26; refine HC0.mono ?_; rintro e wl ⟨rfl, HT2, HK2⟩)
        go_quiet (fail)
        go_wp2_with fail
        obtain ⟨n, hn, hn1, hn2, hnL⟩ : ∃ n : Nat, (1 : Int) = n ∧ 1 ≤ n ∧ n ≤ 32 ∧ n ≤ L := ⟨1, rfl, by omega, by omega, by omega⟩
        have HN : Hid ((1 : Int) = n) := hn
        clear hn
        obtain ⟨V, hV⟩ : ∃ V, V = n256 bs / 2 ^ c % 2 ^ n := ⟨_, rfl⟩
        refine (take_at (V := (V : Nat)) q c n t bs _ HN.out (HT2.out.two.rd.drewN _) (by omega) hn2 (by have := HL.out; omega) (by rw [hV])).mono ?_
        rintro e w3 ⟨rfl, hr3, hk3⟩
        have T3 : Hid (Two w w3 w.heap.size s (n256 bs % 2 ^ c) c q t bs (c + n)) := (HT2.out.two.draw _).take hr3 hk3
        have HV : Hid (V = n256 bs / 2 ^ c % 2 ^ n) := hV
        clear hV
        go_wp2_with fail
        refine (put_at w.heap.size V n _ c s _ rfl HN.out hn2 (by rw [HV.out]; exact Nat.mod_lt _ (Nat.two_pow_pos _)) T3.out.wr (by omega)).mono ?_
        rintro e w4 ⟨rfl, s4, hw4, hk4, hg4⟩
        have hcn : c + n ≤ 8 * bs.length := by have := HL.out; omega
        have R : Hid (Both w w4 w.heap.size s4 q t bs (c + n)) := ⟨by rw [more_bits, ← HV.out, Nat.mul_comm]; exact T3.out.put hw4 hk4 hg4, hcn⟩
        have hkk : 8 * bs.length - (c + n) < gk := by have := HL.out; omega
        clear hr3 hk3 T3 hw4 hk4 hg4 HC0 HCm
        go_wp2_with fail
        go_roundg (8 * bs.length - (c + n))
        case measure => exact hkk
        case rel => exact ⟨j + 1, c + n, s4, by omega, by go_num, Nat.le_refl _, R.out⟩
end Go.Proofs.Ytlbolkifdghhnaa
