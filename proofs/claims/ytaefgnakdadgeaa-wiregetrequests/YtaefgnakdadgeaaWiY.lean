/-
  Layer 19, the reference: number, text.
-/
import Derived.Test.YtaefgnakdadgeaaWiX
namespace Go.Proofs.Ytaefgnakdadgeaa
open Go.RowKit

set_option maxRecDepth 100000 in
set_option maxHeartbeats 1000000 in
theorem rnumber19 (w0 w : World) (v : Value) (bs : List Nat) (hv : Fresh w0 w v bs) (x : Nat) (hx : x < 4294967296) (hb : bs.length ≤ 1000000) :
    Calls Try.prog 31 #[v, .int .i64 (x : Nat)] w fun e w' => ∃ v', e = .returned v' ∧ Fresh w0 w' v' (bs ++ leOf x 4) := by
  have HV := hid hv
  have HBL : Hid (bs.length ≤ 1000000) := hb
  clear hv hb
  go_enter Try.func31, Try.ntmps31
  go_wp2_with fail
  go_loopg [0, 1, 5] 4 (fun k o y z wr => ∃ i u : Nat, i ≤ 4 ∧ 4 - i ≤ k ∧ z = .int .i64 (i : Nat) ∧ y = .int .i64 (u : Nat) ∧ u < 4294967296 ∧ Hid (u = x / 256 ^ i ∧ Fresh w0 wr o (bs ++ leOf x i)))
  case atStart => exact ⟨0, x, by omega, by omega, rfl, rfl, hx, hid ⟨by simp, by simpa [leOf] using HV.out⟩⟩
  case round =>
    obtain ⟨i, u, hi, hik, rfl, rfl, hu, HX⟩ := hrel
    obtain ⟨vo, hvo⟩ : ∃ x, x = u0 := ⟨_, rfl⟩
    rw [← hvo] at HX ⊢
    clear hvo
    by_cases hlt : i < 4
    · obtain ⟨M, hM⟩ : ∃ M, M = u % 256 := ⟨_, rfl⟩
      obtain ⟨D, hD⟩ : ∃ D, D = u / 256 := ⟨_, rfl⟩
      have b1 : decide ((i : Int) < 4) = true := by simp; omega
      have b2 : decide (i < 4) = true := by simp; omega
      have m1 : Int.tmod (u : Int) 256 = (M : Int) := by rw [Int.tmod_eq_emod_of_nonneg (by omega)]; omega
      have m2 : (u : Int) % 256 = (M : Int) := by omega
      have m3 : Int.tdiv (u : Int) 256 = (D : Int) := by rw [Int.tdiv_eq_ediv_of_nonneg (by omega)]; omega
      have m4 : (u : Int) / 256 = (D : Int) := by omega
      have m5 : IntKind.u8.wrap (M : Int) = (M : Int) := by rw [IntKind.wrap_u8]; omega
      have m6 : IntKind.i64.wrap (D : Int) = (D : Int) := by rw [IntKind.wrap_i64]; omega
      have m7 : IntKind.i64.wrap (M : Int) = (M : Int) := by rw [IntKind.wrap_i64]; omega
      have hiw : IntKind.i64.wrap ((i : Int) + 1) = ((i + 1 : Nat) : Int) := by rw [IntKind.wrap_i64]; omega
      have hDl : D < 4294967296 := by rw [hD]; omega
      have HMD : Hid (M = x / 256 ^ i % 256 ∧ D = x / 256 ^ (i + 1)) := hid (by
        rw [hM, hD, HX.out.1]
        exact ⟨rfl, by rw [Nat.div_div_eq_div_mul, ← Nat.pow_succ]⟩)
      have HLL : Hid ((bs ++ leOf x i).length + 1 ≤ 2000000) := hid (by have := HBL.out; rw [List.length_append, leOf_length]; omega)
      clear hM hD hu
      go_wp2_with (at_builtin; refine wpList_append_row _ rfl (.tmp 10) (.tmp 14) rfl vo _ rfl (World.ownsRow.alloc HX.out.2.row _) ⟨wr.heap.size, 0, none⟩ 1 1 [M] rfl rfl (bytesAt_int _ _ _ (by first | rfl | (simp; omega))) (by have := HLL.out; simp only [List.length_cons, List.length_nil]; omega) ?_)
      intro v1 w1 hr1 hg1 ho1
      have HX2 : Hid (Fresh w0 w1 v1 (bs ++ leOf x (i + 1))) := hid (by
        have h := HX.out.2.app (cs := [M]) (by simpa using hr1) hg1 (by simpa using ho1)
        rw [List.append_assoc, HMD.out.1] at h
        exact h)
      clear hr1 hg1 ho1
      go_wp2_with fail
      go_roundg (gk - 1)
      case measure => omega
      case rel => exact ⟨i + 1, D, by omega, by omega, by go_num, rfl, hDl, hid ⟨HMD.out.2, HX2.out⟩⟩
    · obtain rfl : i = 4 := by omega
      have b1 : decide ((4 : Int) < 4) = false := by decide
      go_wp2_with fail
      go_ret
      exact ⟨_, rfl, HX.out.2⟩

theorem rtext19_bytes (n : Nat) : leOf n 2 = [n % 256, n / 256 % 256] := by simp [leOf]

set_option maxRecDepth 100000 in
set_option maxHeartbeats 1000000 in
theorem rtext19 (w0 w : World) (v : Value) (bs : List Nat) (hv : Fresh w0 w v bs) (T : ByteArray) (hT : T.size < 65536) (hb : bs.length ≤ 1000000) :
    Calls Try.prog 32 #[v, .string T] w fun e w' => ∃ v', e = .returned v' ∧ Fresh w0 w' v' (bs ++ (leOf T.size 2 ++ sb T)) := by
  obtain ⟨u, hu⟩ : ∃ u, u = T.size := ⟨_, rfl⟩
  have hu2 : T.size = u := hu.symm
  obtain ⟨M, hM⟩ : ∃ M, M = u % 256 := ⟨_, rfl⟩
  obtain ⟨D, hD⟩ : ∃ D, D = u / 256 := ⟨_, rfl⟩
  have m1 : Int.tmod (u : Int) 256 = (M : Int) := by rw [Int.tmod_eq_emod_of_nonneg (by omega)]; omega
  have m2 : (u : Int) % 256 = (M : Int) := by omega
  have m3 : Int.tdiv (u : Int) 256 = (D : Int) := by rw [Int.tdiv_eq_ediv_of_nonneg (by omega)]; omega
  have m4 : (u : Int) / 256 = (D : Int) := by omega
  have m5 : IntKind.u8.wrap (M : Int) = (M : Int) := by rw [IntKind.wrap_u8]; omega
  have m6 : IntKind.i64.wrap (D : Int) = (D : Int) := by rw [IntKind.wrap_i64]; omega
  have m7 : IntKind.i64.wrap (M : Int) = (M : Int) := by rw [IntKind.wrap_i64]; omega
  have m8 : IntKind.u8.wrap (D : Int) = (D : Int) := by rw [IntKind.wrap_u8]; omega
  have HLE : Hid (leOf u 2 = [M, D] ∧ u < 65536 ∧ T.size = u) := hid ⟨by rw [rtext19_bytes, ← hM, hD, Nat.mod_eq_of_lt (by omega)], by omega, hu2⟩
  have HV := hid hv
  have HBL : Hid (bs.length ≤ 1000000) := hb
  have HSB := hid (sb_lt T)
  have HTS := hid (txt_sb T)
  clear hv hb hM hD hu hT
  rw [hu2]
  go_enter Try.func32, Try.ntmps32
  go_wp2_with (at_builtin; refine wpList_append_row _ rfl (.tmp 5) (.tmp 14) rfl v bs rfl (World.ownsRow.alloc HV.out.row _) ⟨w.heap.size, 0, none⟩ 2 2 [M, D] rfl rfl (by intro j v hv; match j, hv with | 0, hv => (simp [byteV] at hv; subst hv; exact (Blk.new w _ _).cell 0) | 1, hv => (simp [byteV] at hv; subst hv; exact (Blk.new w _ _).cell 1) | j + 2, hv => (simp at hv)) (by have := HBL.out; simp; omega) ?_)
  intro v1 w1 hr1 hg1 ho1
  have HF1 : Hid (Fresh w0 w1 v1 (bs ++ leOf u 2)) := hid (by rw [HLE.out.1]; exact HV.out.app hr1 hg1 (by simpa using ho1))
  clear hr1 hg1 ho1
  go_wp2_with (at_builtin; refine wpList_append_txt _ rfl (.tmp 16) (.tmp 17) rfl w0 v1 _ rfl HF1.out (sb T) (by rw [HTS.out]; rfl) HSB.out (by have := HBL.out; have := HLE.out.2; rw [List.length_append, leOf_length, sb_size]; omega) ?_)
  intro v2 w2 hf2
  have HF2 : Hid (Fresh w0 w2 v2 (bs ++ (leOf u 2 ++ sb T))) := hid hf2
  clear hf2
  go_wp2_with fail
  go_ret
  exact ⟨_, rfl, HF2.out⟩

end Go.Proofs.Ytaefgnakdadgeaa
