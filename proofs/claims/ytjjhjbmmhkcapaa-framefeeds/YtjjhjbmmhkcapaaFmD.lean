/-
  Layer 18: Encode.
-/
import Derived.Test.YtjjhjbmmhkcapaaFmA
import Derived.Test.YtjjhjbmmhkcapaaLPut
import Derived.Test.YtjjhjbmmhkcapaaAppS
import Derived.Test.YtjjhjbmmhkcapaaLAwake
namespace Go.Proofs.Ytjjhjbmmhkcapaa
open Go.RowKit

/-- What is wrong with a frame. -/
def errE (f : Fm) : Int := if f.k < 1 ∨ 255 < f.k then 182 else if 20000 < f.s.size then 180 else 0

theorem errE_may {f : Fm} : errE f = 0 ↔ f.May := by
  unfold errE Fm.May
  constructor
  · intro h
    split at h
    · omega
    split at h
    · omega
    · omega
  · intro h
    rw [if_neg (by omega), if_neg (by omega)]

def encB (f : Fm) : List Nat := if errE f = 0 then frmB f else []

/-- What Encode tells. -/
def EncA (w : World) (f : Fm) (x : Ending) (w' : World) : Prop := ∃ v, x = .returned (.tuple #[v, .int .i64 (errE f)]) ∧ Fresh w w' v (encB f) ∧ (errE f ≠ 0 → v = .slice none 0 0)

theorem fresh_same {w w' : World} (h : Same w w') : Fresh w w' (.slice none 0 0) [] := ⟨World.ownsRow_nil w' 0 5 1, h, fun k e => by cases e⟩

theorem encA_bad {w w' : World} {f : Fm} {z : Int} (hz : errE f = z) (h0 : z ≠ 0) (hk : Same w w') : EncA w f (.returned (.tuple #[.slice none 0 0, .int .i64 z])) w' := by
  refine ⟨.slice none 0 0, by rw [hz], ?_, fun _ => rfl⟩
  unfold encB
  rw [if_neg (by omega)]
  exact fresh_same hk

set_option maxRecDepth 100000 in
set_option maxHeartbeats 1000000 in
theorem fenc_txt (w : World) (k : Int) (cs : List Nat) (hc : ∀ b ∈ cs, b < 256) : Calls Try.prog 10 #[.agg #[.int .i64 k, .string (txt cs)]] w fun x w' => EncA w ⟨k, txt cs⟩ x w' := by
  have hsz := txt_size cs
  obtain ⟨T, hT⟩ : ∃ T, T = txt cs := ⟨_, rfl⟩
  rw [← hT] at hsz
  have HT := hid hT
  obtain ⟨W1, hW1⟩ : ∃ W, W = w.alloc (.cells #[.int .i64 k, .string T] 23) := ⟨_, rfl⟩
  obtain ⟨xb, hxb⟩ : ∃ b, b = w.heap.size := ⟨_, rfl⟩
  have HK1 : Hid (Same w W1) := hid (by rw [hW1]; exact (Kept.refl _ w).alloc _)
  have HB : Hid (Blk W1 xb #[.int .i64 k, .string T] 23) := hid (by rw [hW1, hxb]; exact Blk.new w _ _)
  obtain ⟨z0, z1, z2, z3⟩ := HB.out.two
  have HE : Hid (errE ⟨k, T⟩ = if k < 1 ∨ 255 < k then 182 else if 20000 < cs.length then 180 else 0) := hid (by unfold errE; rw [← hsz])
  rw [← hT]
  clear hT
  by_cases h1 : k < 1
  · go_enter Try.func10, Try.ntmps10
    go_upto_region 1 with fail
    rw [← hW1, ← hxb]
    clear hW1 hxb
    go_wp2_with fail
    go_ret2
    exact encA_bad (by rw [HE.out, if_pos (.inl h1)]) (by decide) HK1.out
  by_cases h2 : 255 < k
  · go_enter Try.func10, Try.ntmps10
    go_upto_region 1 with fail
    rw [← hW1, ← hxb]
    clear hW1 hxb
    go_wp2_with fail
    go_ret2
    exact encA_bad (by rw [HE.out, if_pos (.inr h2)]) (by decide) HK1.out
  by_cases h3 : 20000 < T.size
  · go_enter Try.func10, Try.ntmps10
    go_upto_region 1 with fail
    rw [← hW1, ← hxb]
    clear hW1 hxb
    go_wp2_with fail
    go_ret2
    exact encA_bad (by rw [HE.out, if_neg (by omega), if_pos (by omega)]) (by decide) HK1.out
  · obtain ⟨kn, rfl⟩ : ∃ kn : Nat, k = (kn : Nat) := ⟨k.toNat, by omega⟩
    obtain ⟨n, hn⟩ : ∃ n, n = cs.length := ⟨_, rfl⟩
    rw [← hn] at hsz
    have HN := hid hn
    have hn2 : n ≤ 20000 := by omega
    have hkn : 1 ≤ kn ∧ kn ≤ 255 := by omega
    have HC := put32_any (X := (n : Nat)) W1 (.slice none 0 0) (fun _ => False) [] ⟨none, 0, rfl, fun h => absurd rfl h⟩ n rfl (by omega) (by simp)
    have HC5 := hid hc
    clear hn hc
    go_enter Try.func10, Try.ntmps10
    go_upto_region 1 with fail
    rw [← hW1, ← hxb]
    clear hW1 hxb
    go_wp2_with fail
    refine HC.mono ?_
    rintro x w2 ⟨v2, rfl, hf2⟩
    have HF2 : Hid (Fresh W1 w2 v2 (leOf n 4)) := hid hf2
    obtain ⟨y0, y1, _, _⟩ := (HB.out.kept hf2.kept (fun f => f)).two
    have i0 : IntKind.u8.wrap (kn : Int) = (kn : Int) := by rw [IntKind.wrap_u8]; omega
    clear hf2 HC z0 z1 z2 z3
    go_wp2_with (at_builtin; refine wpList_append_row _ rfl (.tmp 22) (.tmp 26) rfl v2 (leOf n 4) rfl (World.ownsRow.alloc HF2.out.row _) ⟨w2.heap.size, 0, none⟩ 1 1 [kn] rfl rfl (bytesAt_int _ _ _ (by first | rfl | (simp; omega))) (by rw [leOf_length]; simp) ?_)
    intro v3 w3 hr3 hg3 ho3
    have HF3 : Hid (Fresh W1 w3 v3 (leOf n 4 ++ [kn])) := hid (HF2.out.app hr3 hg3 (by simpa using ho3))
    obtain ⟨y0, y1, _, _⟩ := (HB.out.kept HF3.out.kept (fun f => f)).two
    clear hr3 hg3 ho3 y0
    go_wp2_with (at_builtin; refine wpList_append_txt _ rfl (.tmp 28) (.tmp 30) rfl W1 v3 _ rfl HF3.out cs (by rw [← HT.out]; rfl) HC5.out (by rw [List.length_append, leOf_length, ← HN.out]; simp; omega) ?_)
    intro v4 w4 hf4s
    have hf4 : Fresh W1 w4 v4 (leOf n 4 ++ [kn] ++ cs) := by simpa using hf4s
    clear hf4s
    obtain ⟨g4, c4, hv4, hle4⟩ : ∃ g c, v4 = .slice (some ⟨g, 0, none⟩) (n + 5) c ∧ n + 5 ≤ c := by
      obtain ⟨a, c, e, hne⟩ := hf4.row.shape
      have hl : (leOf n 4 ++ [kn] ++ cs).length = n + 5 := by rw [List.length_append, List.length_append, leOf_length, ← HN.out]; simp; omega
      obtain ⟨g, hg⟩ := hne (by intro e; rw [e] at hl; simp at hl)
      rw [hl] at e
      refine ⟨g, c, by rw [e, hg], ?_⟩
      exact Row.room hf4.row _ _ _ e
    subst hv4
    have HF4 : Hid (Fresh W1 w4 (.slice (some ⟨g4, 0, none⟩) (n + 5) c4) (leOf n 4 ++ [kn] ++ cs)) := hid hf4
    have hbod : (⟨(kn : Nat), T⟩ : Fm).bod = kn :: cs := by
      unfold Fm.bod
      simp only [Int.toNat_natCast]
      rw [HT.out, sb_txt cs HC5.out]
    have HBOD := hid hbod
    have HSU : Hid (Calls Try.prog 24 #[.slice (some ⟨g4, 4, none⟩) (n + 1) (c4 - 4)] w4 fun e w' => e = .returned (.int .u32 (more 0 (kn :: cs) : Nat)) ∧ w' = w4) := hid (by
      refine lsum_any w4 _ (fun k => (Value.slice (some ⟨g4, 0, none⟩) (n + 5) c4).ownBlock = some k) _ ?_ (by
        intro b hb
        rcases List.mem_cons.1 hb with rfl | hb
        · omega
        · exact HC5.out b hb) (by simp; have := HN.out; omega)
      have h9 := (Src.ofRow HF4.out.row).sub (a' := some ⟨g4, 4, none⟩) 4 (n + 1) (by rw [List.length_append, List.length_append, leOf_length, ← HN.out]; simp; omega) (fun _ b o e => by injection e with e; injection e with e1 e2; subst e1 e2; rfl) (c4 - 4)
      rw [List.append_assoc, List.drop_left' (leOf_length _ _), List.take_of_length_le (by simp; have := HN.out; omega)] at h9
      exact h9)
    have hM := more_lt 0 (kn :: cs)
    have HFIN : Hid (leOf n 4 ++ [kn] ++ cs ++ leOf (more 0 (kn :: cs)) 4 = frmB ⟨(kn : Nat), T⟩) := hid (by
      unfold frmB
      rw [HBOD.out, hsz]
      simp)
    obtain ⟨M, hMM⟩ : ∃ M, M = more 0 (kn :: cs) := ⟨_, rfl⟩
    rw [← hMM] at hM HSU HFIN
    have HPU := put32_any (X := (M : Nat)) w4 (.slice (some ⟨g4, 0, none⟩) (n + 5) c4) _ _ (Src.ofRow HF4.out.row) M rfl hM (by rw [List.length_append, List.length_append, leOf_length, ← HN.out]; simp; omega)
    have hc4 : ¬ c4 = 4 := by omega
    clear hf4 y1 hbod hMM
    go_wp2_with fail
    refine HSU.out.mono ?_
    rintro x w5 ⟨rfl, rfl⟩
    go_wp2_with fail
    refine HPU.mono ?_
    rintro x w6 ⟨v6, rfl, hf6⟩
    have HF6 := hid hf6
    clear hf6 HPU
    go_wp2_with fail
    go_ret2
    have he : errE ⟨(kn : Nat), T⟩ = 0 := by rw [HE.out, if_neg (by omega), if_neg (by have := HN.out; omega)]
    refine ⟨v6, by rw [he]; rfl, ?_, fun h => absurd he h⟩
    unfold encB
    rw [if_pos he, ← HFIN.out]
    have h9 := HF6.out
    exact ⟨h9.row, Same.trans HK1.out (Same.trans HF4.out.kept h9.kept), fun k e => Nat.le_trans (Same.trans HK1.out HF4.out.kept).size (h9.new k e)⟩

theorem fenc_any (w : World) (f : Fm) : Calls Try.prog 10 #[fmV f] w fun x w' => EncA w f x w' := by
  have h := fenc_txt w f.k (sb f.s) (sb_lt _)
  rw [txt_sb] at h
  exact h

end Go.Proofs.Ytjjhjbmmhkcapaa
