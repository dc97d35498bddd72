/-
  The program's tail: what stands behind so many bytes.
-/
import Derived.Test.YtfhfnkhiomahfaaGreatDoorHmG
import Derived.Test.YtfhfnkhiomahfaaGreatDoorFresh
namespace Go.Proofs.YtfhfnkhiomahfaaGreatDoor
open Go.RowKit

theorem row_lit15 (w : World) (x : Nat) : Row (w.alloc (.cells #[.int .u8 (x : Nat)] 5)) (.slice (some ⟨w.heap.size, 0, none⟩) 1 1) [x] := by
  have hb := Blk.new w #[.int .u8 (x : Nat)] 5
  exact ⟨rfl, .inr ⟨w.heap.size, 1, _, rfl, Nat.zero_le _, hb, Nat.le_refl _, by simp [maxLen], rfl, rfl⟩⟩

theorem fresh_lit15 (w : World) (x : Nat) : Fresh w (w.alloc (.cells #[.int .u8 (x : Nat)] 5)) (.slice (some ⟨w.heap.size, 0, none⟩) 1 1) [x] :=
  ⟨row_lit15 w x, (Kept.refl _ w).alloc _, fun k e => by cases e; exact Nat.le_refl _⟩

theorem beB_snoc (x k : Nat) (hk : k < 8) : (beB x 8).take (k + 1) = (beB x 8).take k ++ [x / 256 ^ (7 - k) % 256] := by
  have hl := beB_length x 8
  have h := beB_get x 8 k hk
  rw [List.getD_eq_getElem?_getD] at h
  rw [List.take_add_one]
  cases hq : (beB x 8)[k]? with
  | none => rw [List.getElem?_eq_none_iff] at hq; omega
  | some y =>
    rw [hq] at h
    rw [show y = x / 256 ^ (7 - k) % 256 from h]
    rfl

set_option maxRecDepth 100000 in
set_option maxHeartbeats 1000000 in
theorem htail_any (w : World) (n : Nat) (hn : n ≤ 1000000000) :
    Calls Tryz.prog 88 #[.int .u64 (n : Nat)] w fun e w' => ∃ v, e = .returned v ∧ Fresh w w' v (tailB n) := by
  have HF0 : Hid (Fresh w (w.alloc (.cells #[.int .u8 128] 5)) (.slice (some ⟨w.heap.size, 0, none⟩) 1 1) [128]) := hid (fresh_lit15 w 128)
  obtain ⟨w0, hw0⟩ : ∃ w0, w0 = w.alloc (.cells #[.int .u8 128] 5) := ⟨_, rfl⟩
  rw [← hw0] at HF0
  obtain ⟨B, hB⟩ : ∃ B, B = w.heap.size := ⟨_, rfl⟩
  rw [← hB] at HF0
  obtain ⟨Z, hZ⟩ : ∃ Z, Z = zeN n := ⟨_, rfl⟩
  have hZ64 : Z < 64 := by rw [hZ]; unfold zeN; omega
  go_enter Tryz.func88, Tryz.ntmps88
  go_wp2_with fail
  rw [← hw0, ← hB]
  clear hw0
  go_loopg [3] Z (fun k o wr => ∃ (i : Nat) (a : Option Addr) (l c : Nat), i ≤ Z ∧ Z - i ≤ k ∧ l = i + 1 ∧ o = .slice a l c ∧ Hid (Fresh w wr (.slice a l c) (128 :: List.replicate i 0)))
  case atStart => exact ⟨0, _, 1, 1, by omega, by omega, rfl, rfl, HF0⟩
  case round =>
    clear HF0 hB
    obtain ⟨i, a, l, c, hi, hik, hl, rfl, HF⟩ := hrel
    obtain ⟨t1, ht1⟩ : ∃ t, t = n + l := ⟨_, rfl⟩
    obtain ⟨t2, ht2⟩ : ∃ t, t = t1 + 8 := ⟨_, rfl⟩
    obtain ⟨t3, ht3⟩ : ∃ t, t = t2 % 64 := ⟨_, rfl⟩
    have i1 : (n : Int) + (l : Int) = (t1 : Int) := by omega
    have i2 : (t1 : Int) + 8 = (t2 : Int) := by omega
    have i3 : (t2 : Int) % 64 = (t3 : Int) := by omega
    have b1 : t1 ≤ 2000000000 := by omega
    have b2 : t2 ≤ 2000000000 := by omega
    have b3 : l ≤ 64 := by omega
    by_cases hlt : i < Z
    · have h3 : t3 ≠ 0 := by rw [hZ] at hlt; unfold zeN at hlt; omega
      have h4 : ((t3 : Int) != 0) = true := by simp; omega
      have h5 : ((t3 : Int) == 0) = false := by simp; omega
      clear ht1 ht2 ht3 hZ
      have HL2 : Hid ((128 :: List.replicate i 0).length + [0].length ≤ 1000000000000) := hid (by simp; omega)
      have HLL := hid hl
      clear hl
      go_wp2_with (at_builtin; refine wpList_append_row _ rfl (.tmp 15) (.tmp 16) rfl (.slice a l c) (128 :: List.replicate i 0) rfl (World.ownsRow.alloc HF.out.row _) ⟨wr.heap.size, 0, none⟩ 1 1 [0] rfl rfl (bytesAt_int _ _ _ (by omega)) HL2.out ?_; intro v' w1 hrow hgr hv'; have HF1 : Hid (Fresh w w1 v' (128 :: List.replicate (i + 1) 0)) := (by have h := HF.out.app hrow hgr hv'; rw [show 128 :: List.replicate i 0 ++ [0] = 128 :: List.replicate (i + 1) 0 by rw [List.replicate_succ']; rfl] at h; exact hid h); obtain ⟨a9, c9, e9, _⟩ := HF1.out.row.shape; clear hrow hgr hv')
      go_roundg (gk - 1)
      case measure => omega
      case rel =>
        refine ⟨i + 1, a9, i + 2, c9, by omega, by omega, by omega, by first | rfl | (rw [e9]; simp), ?_⟩
        first | exact HF1 | (rw [e9] at HF1; simp only [List.length_cons, List.length_replicate] at HF1; exact HF1)
    · have h3 : t3 = 0 := by have hiz : i = Z := by omega
                             rw [hZ] at hiz
                             unfold zeN at hiz
                             omega
      have hiz : i = Z := by omega
      subst h3
      rw [hiz] at HF
      obtain ⟨L, hL⟩ : ∃ L, L = 8 * n := ⟨_, rfl⟩
      have iL : (n : Int) * 8 = (L : Int) := by omega
      have bL : L ≤ 8000000000 := by omega
      have HT : Hid (tailB n = 128 :: List.replicate Z 0 ++ (beB L 8).take 8) := hid (by
        rw [List.take_of_length_le (by rw [beB_length]; exact Nat.le_refl _), hL, hZ]
        rfl)
      have HF2 : Hid (Fresh w wr (.slice a l c) (128 :: List.replicate Z 0 ++ (beB L 8).take 0)) := hid (by simpa using HF.out)
      clear HF hL hZ ht1 ht2 ht3 hiz hlt hik hi hl
      go_wp2_with fail
      clear i1 i2 i3
      go_loopg [3, 5] 8 (fun q o z wr => ∃ (k : Nat), k ≤ 8 ∧ 8 - k ≤ q ∧ z = .int .i64 (7 - (k : Int)) ∧ Hid (Fresh w wr o (128 :: List.replicate Z 0 ++ (beB L 8).take k)))
      case atStart => exact ⟨0, by omega, by omega, by rfl, HF2⟩
      case round =>
        clear HF2
        obtain ⟨k, hk, hkq, rfl, HF⟩ := hrel
        by_cases hlt : k < 8
        · obtain ⟨m, hm⟩ : ∃ m, m = 7 - k := ⟨_, rfl⟩
          obtain ⟨s, hs⟩ : ∃ s, s = 8 * m := ⟨_, rfl⟩
          have e1 : 7 - (k : Int) = (m : Int) := by omega
          have e2 : (m : Int) * 8 = (s : Int) := by omega
          have hsh := shr_byte L s m hs
          obtain ⟨y, hy⟩ : ∃ y, y = L / 256 ^ m % 256 := ⟨_, rfl⟩
          have HY : Hid ((beB L 8).take (k + 1) = (beB L 8).take k ++ [y]) := hid (by rw [beB_snoc L k hlt, hy, hm])
          rw [← hy] at hsh
          have HSH := hid hsh
          have HL2 : Hid ((128 :: List.replicate Z 0 ++ (beB L 8).take k).length + [y].length ≤ 1000000000000) := hid (by simp; omega)
          have hs64 : s < 64 := by omega
          have HE1 : Hid (m = 7 - k) := hid hm
          rw [e1]
          clear hy hs hm e1
          go_wp2_with (at_builtin; refine wpList_append_row _ rfl (.tmp 24) (.tmp 30) rfl u3 (128 :: List.replicate Z 0 ++ (beB L 8).take k) rfl (World.ownsRow.alloc HF.out.row _) ⟨wr.heap.size, 0, none⟩ 1 1 [y] rfl rfl (bytesAt_int _ _ _ (by first | rfl | exact HSH.out)) HL2.out ?_; intro v' w1 hrow hgr hv'; have HF1 : Hid (Fresh w w1 v' (128 :: List.replicate Z 0 ++ (beB L 8).take (k + 1))) := (by have h := HF.out.app hrow hgr hv'; rw [HY.out, ← List.append_assoc]; exact hid h); clear hrow hgr hv')
          go_roundg (gk - 1)
          case measure => omega
          case rel => exact ⟨k + 1, by omega, by omega, by have := HE1.out; congr 1; omega, HF1⟩
        · have hk8 : k = 8 := by omega
          subst hk8
          rw [← HT.out] at HF
          go_wp2_with fail
          go_ret
          exact ⟨_, rfl, HF.out⟩

end Go.Proofs.YtfhfnkhiomahfaaGreatDoor
