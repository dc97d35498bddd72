/-
  The reference's layer 18: Encode.
-/
import Derived.Test.YtjjhjbmmhkcapaaFmD
import Derived.Test.YtjjhjbmmhkcapaaLRef
namespace Go.Proofs.Ytjjhjbmmhkcapaa
open Go.RowKit

set_option maxRecDepth 100000 in
set_option maxHeartbeats 1000000 in
theorem renc_txt (w : World) (k : Int) (cs : List Nat) (hc : ∀ b ∈ cs, b < 256) : Calls Try.prog 11 #[.agg #[.int .i64 k, .string (txt cs)]] w fun x w' => EncA w ⟨k, txt cs⟩ x w' := by
  have hsz := txt_size cs
  obtain ⟨T, hT⟩ : ∃ T, T = txt cs := ⟨_, rfl⟩
  rw [← hT] at hsz
  have HT := hid hT
  obtain ⟨W1, hW1⟩ : ∃ W, W = w.alloc (.cells #[.int .i64 k, .string T] 23) := ⟨_, rfl⟩
  obtain ⟨xb, hxb⟩ : ∃ b, b = w.heap.size := ⟨_, rfl⟩
  have HK1 : Hid (Same w W1) := hid (by rw [hW1]; exact (Kept.refl _ w).alloc _)
  have HB : Hid (Blk W1 xb #[.int .i64 k, .string T] 23) := hid (by rw [hW1, hxb]; exact Blk.new w _ _)
  obtain ⟨z0, z1, z2, z3⟩ := HB.out.two
  have HE : Hid (errE ⟨k, T⟩ = if k < 1 ∨ 255 < k then 182 else if 20000 < cs.length then 180 else 0) := hid (by unfold errE; rw [← hsz])
  rw [← hT]
  clear hT
  by_cases h1 : k < 1
  · go_enter Try.func11, Try.ntmps11
    go_upto_region 1 with fail
    rw [← hW1, ← hxb]
    clear hW1 hxb
    go_wp2_with fail
    go_ret2
    exact encA_bad (by rw [HE.out, if_pos (.inl h1)]) (by decide) HK1.out
  by_cases h2 : 255 < k
  · go_enter Try.func11, Try.ntmps11
    go_upto_region 1 with fail
    rw [← hW1, ← hxb]
    clear hW1 hxb
    go_wp2_with fail
    go_ret2
    exact encA_bad (by rw [HE.out, if_pos (.inr h2)]) (by decide) HK1.out
  by_cases h3 : 20000 < T.size
  · go_enter Try.func11, Try.ntmps11
    go_upto_region 1 with fail
    rw [← hW1, ← hxb]
    clear hW1 hxb
    go_wp2_with fail
    go_ret2
    exact encA_bad (by rw [HE.out, if_neg (by omega), if_pos (by omega)]) (by decide) HK1.out
  · obtain ⟨kn, rfl⟩ : ∃ kn : Nat, k = (kn : Nat) := ⟨k.toNat, by omega⟩
    obtain ⟨n, hn⟩ : ∃ n, n = cs.length := ⟨_, rfl⟩
    rw [← hn] at hsz
    have HN := hid hn
    have hn2 : n ≤ 20000 := by omega
    have hkn : 1 ≤ kn ∧ kn ≤ 255 := by omega
    have HC5 := hid hc
    have i0 : IntKind.u8.wrap (kn : Int) = (kn : Int) := by rw [IntKind.wrap_u8]; omega
    have HF0 : Hid (Fresh W1 (W1.alloc (.cells #[.int .u8 (kn : Nat)] 5)) (.slice (some ⟨W1.heap.size, 0, none⟩) 1 1) [kn]) := hid (fresh_lit W1 W1 (Kept.refl _ _) [kn] 1 rfl (by decide))
    have y1 : (W1.alloc (.cells #[.int .u8 (kn : Nat)] 5)).cell? ⟨xb, 1, none⟩ = some (.string T) := (HB.out.kept HF0.out.kept (fun f => f)).two.2.1
    clear hn hc
    go_enter Try.func11, Try.ntmps11
    go_upto_region 1 with fail
    rw [← hW1, ← hxb]
    clear hW1 hxb
    go_wp2_with (at_builtin; refine wpList_append_txt _ rfl (.tmp 21) (.tmp 23) rfl W1 (.slice (some ⟨W1.heap.size, 0, none⟩) 1 1) _ rfl HF0.out cs (by rw [← HT.out]; rfl) HC5.out (by rw [← HN.out]; simp; omega) ?_)
    intro v2 w2 hf2s
    have hf2 : Fresh W1 w2 v2 (kn :: cs) := by simpa using hf2s
    have HF2 := hid hf2
    obtain ⟨x0, x1, _, _⟩ := (HB.out.kept hf2.kept (fun f => f)).two
    have HPU := rput_any (X := (n : Nat)) w2 (.slice none 0 0) (fun _ => False) [] ⟨none, 0, rfl, fun h => absurd rfl h⟩ n 4 rfl (by decide) (by omega) (by simp)
    clear hf2s hf2 y1 z0 z1 z2 z3
    go_wp2_with fail
    refine HPU.mono ?_
    rintro x w3 ⟨v3, rfl, hf3⟩
    have HF3 : Hid (Fresh w2 w3 v3 (leOf n 4)) := hid hf3
    have HK3 := hid hf3.kept
    have HS2 : Hid (Src w3 (fun k => v2.ownBlock = some k) v2 (kn :: cs)) := hid ((Src.ofRow HF2.out.row).kept hf3.kept (fun _ _ _ f => f))
    have HNL2 : Hid (∀ n c, v2 = .slice none n c → n = 0 ∧ c = 0) := hid (fun n c e => by
      have h9 := HF2.out.row
      rw [e] at h9
      rcases h9.2 with ⟨h10, _⟩ | ⟨g, cap, cur, h10, _⟩
      · injection h10 with _ e1 e2; exact ⟨e1, e2⟩
      · cases h10)
    clear hf3 HPU x0 x1
    go_wp2_with (at_builtin; refine wpList_append_any _ rfl (.tmp 30) (.tmp 31) rfl v3 (leOf n 4) rfl HF3.out.row _ v2 (kn :: cs) rfl HNL2.out HS2.out (by rw [leOf_length]; have := HN.out; simp; omega) ?_)
    intro v4 w4 hr4 hg4 ho4
    have HF4 : Hid (Fresh w2 w4 v4 (leOf n 4 ++ (kn :: cs))) := hid (HF3.out.app' hr4 hg4 ho4)
    have hbl : ∀ b ∈ kn :: cs, b < 256 := by
      intro b hb
      rcases List.mem_cons.1 hb with rfl | hb
      · omega
      · exact HC5.out b hb
    have HSU : Hid (Calls Try.prog 26 #[v2] w4 fun e w' => e = .returned (.int .u32 (more 0 (kn :: cs) : Nat)) ∧ w' = w4) := hid (rsum_any w4 v2 _ (kn :: cs) ((Src.ofRow HF2.out.row).kept HF4.out.kept (fun _ _ _ f => f)) hbl (by have := HN.out; simp; omega))
    have hM := more_lt 0 (kn :: cs)
    have HFIN : Hid (leOf n 4 ++ (kn :: cs) ++ leOf (more 0 (kn :: cs)) 4 = frmB ⟨(kn : Nat), T⟩) := hid (by
      have hbod : (⟨(kn : Nat), T⟩ : Fm).bod = kn :: cs := by
        unfold Fm.bod
        simp only [Int.toNat_natCast]
        rw [HT.out, sb_txt cs HC5.out]
      unfold frmB
      rw [hbod, hsz])
    obtain ⟨M, hMM⟩ : ∃ M, M = more 0 (kn :: cs) := ⟨_, rfl⟩
    rw [← hMM] at hM HSU HFIN
    have HP5 := rput_any (X := (M : Nat)) w4 v4 _ _ (Src.ofRow HF4.out.row) M 4 rfl (by decide) (by omega) (by rw [List.length_append, leOf_length]; have := HN.out; simp; omega)
    clear hr4 hg4 ho4 hbl hMM
    go_wp2_with fail
    refine HSU.out.mono ?_
    rintro x w5 ⟨rfl, rfl⟩
    go_wp2_with fail
    refine HP5.mono ?_
    rintro x w6 ⟨v6, rfl, hf6⟩
    have HF6 := hid hf6
    clear hf6 HP5
    go_wp2_with fail
    go_ret2
    have he : errE ⟨(kn : Nat), T⟩ = 0 := by rw [HE.out, if_neg (by omega), if_neg (by have := HN.out; omega)]
    refine ⟨v6, by rw [he]; rfl, ?_, fun h => absurd he h⟩
    unfold encB
    rw [if_pos he, ← HFIN.out]
    have h9 := HF6.out
    have hk : Same w w5 := Same.trans HK1.out (Same.trans HF2.out.kept HF4.out.kept)
    exact ⟨h9.row, Same.trans hk h9.kept, fun k e => Nat.le_trans hk.size (h9.new k e)⟩

theorem renc_any (w : World) (f : Fm) : Calls Try.prog 11 #[fmV f] w fun x w' => EncA w f x w' := by
  have h := renc_txt w f.k (sb f.s) (sb_lt _)
  rw [txt_sb] at h
  exact h

end Go.Proofs.Ytjjhjbmmhkcapaa
