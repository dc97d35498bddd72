import Derived.Test.YtljlmfnbeofmmaaGreatDoorDfM
namespace Go.Proofs.YtljlmfnbeofmmaaGreatDoor
theorem measT_may7 {M : Nat} {ts : List TK} {s n : Nat} (h : measT M ts s = .ok n) (hs : s ≤ M) : ∀ t ∈ ts, ∃ said, said ≤ M ∧ mayT t said = true := by
 induction ts generalizing s with
 | nil => intro t ht; simp at ht
 | cons x r ih =>
  unfold measT at h
  split at h
  ·cases h
  ·rename_i h1
   split at h
   ·cases h
   ·rename_i h2
    intro t ht
    rcases List.mem_cons.1 ht with rfl | ht
    ·exact ⟨s, hs, by simpa using h1⟩
    ·exact ih h (by omega) t ht

theorem syms_of {t : TK} {said : Nat} (h : mayT t said = true) (hs : said ≤ 16384) (hl : t.lit < 256) :
  (litMk t).sym ≤ 285 ∧ (litMk t).extra < 2 ^ (litMk t).width ∧ (litMk t).width ≤ 5 ∧ (t.len = 0 → (litMk t).sym = t.lit ∧ (litMk t).extra = 0 ∧ (litMk t).width = 0) ∧ (t.len ≠ 0 → 257 ≤ (litMk t).sym ∧ (distMk t).sym ≤ 29 ∧ (distMk t).extra < 2 ^ (distMk t).width ∧ (distMk t).width ≤ 13) := by
 rcases mayT_cases h with ⟨h0, _, h1⟩ | ⟨n, d, h0, hd0, _, h3, h4, h5, h6, h1⟩
 ·have hmk : litMk t = ⟨t.lit, 0, 0⟩ := by unfold litMk; rw [if_pos h0]
  rw [hmk]
  exact ⟨by simp only; omega, by simp, by simp, fun _ => ⟨rfl, rfl, rfl⟩, fun h9 => absurd h0 h9⟩
 ·have hn0 : t.len ≠ 0 := by omega
  have hd : (distMk t).sym ≤ 29 ∧ (distMk t).extra < 2 ^ (distMk t).width ∧ (distMk t).width ≤ 13 := by
   have hdm : distMk t = ⟨splS (d - 1) 2, splX (d - 1) 2, splW (d - 1) 2⟩ := by unfold distMk; rw [hd0]; simp
   rw [hdm]
   have := splS_small (d - 1) 2 12 (by omega) (by decide)
   have hb := (blen_le (d - 1) 14).2 (by omega)
   exact ⟨by simp only; omega, splX_lt _ _, by simp only [splW]; omega⟩
  refine ⟨?_, ?_, ?_, fun h9 => absurd h9 hn0, fun _ => ⟨?_, hd⟩⟩
  all_goals
   by_cases h258 : n = 258
   ·have hmk : litMk t = ⟨285, 0, 0⟩ := by unfold litMk; rw [if_neg hn0, if_pos (by omega)]
    rw [hmk]
    simp
   ·have hmk : litMk t = ⟨257 + splS (n - 3) 3, splX (n - 3) 3, splW (n - 3) 3⟩ := by unfold litMk; rw [if_neg hn0, if_neg (by omega), h0]; simp
    rw [hmk]
    have := splS_small (n - 3) 3 5 (by omega) (by decide)
    have hb := (blen_le (n - 3) 8).2 (by omega)
    have hx := splX_lt (n - 3) 3
    simp only [splW] at hx ⊢
    first
     | exact hx
     | omega

theorem fix_keys : (List.range 288).all (fun s => decide (key fixL s ≠ 0)) = true := by decide +kernel
theorem fix_keysD : (List.range 32).all (fun s => decide (key fixD s ≠ 0)) = true := by decide +kernel
theorem fix_lens : fixL.length = 288 ∧ fixD.length = 32 := by decide +kernel

theorem fix_toks {ts : List TK} {n : Nat} (h : measT 16384 ts 0 = .ok n) (hb : ∀ t ∈ ts, t.lit < 256) : ToksOk fixL fixD ts := by
 have hk : ∀ s, s < 288 → key fixL s ≠ 0 := fun s hs => by simpa using List.all_eq_true.1 fix_keys s (List.mem_range.2 hs)
 have hkD : ∀ s, s < 32 → key fixD s ≠ 0 := fun s hs => by simpa using List.all_eq_true.1 fix_keysD s (List.mem_range.2 hs)
 refine ⟨fun t ht => ?_, ⟨by rw [fix_lens.1]; decide, hk 256 (by decide)⟩, hb⟩
 obtain ⟨said, h1, h2⟩ := measT_may7 h (by decide) t ht
 have h3 := syms_of h2 h1 (hb t ht)
 refine ⟨by rw [fix_lens.1]; omega, hk _ (by omega), fun h9 => ?_⟩
 have h4 := h3.2.2.2.2 h9
 exact ⟨by rw [fix_lens.2]; omega, hkD _ (by omega)⟩

structure Packs (bs X : List Nat) : Prop where
 pad : ∃ k, ofBytes bs = X ++ List.replicate k 0
 len : bs.length = (X.length + 7) / 8

def fixBits (ts : List TK) : List Nat := [1, 1, 0] ++ (ts.flatMap (tokBits fixL fixD) ++ rowOf fixL 256)

def dynBits (lit dist : List Nat) (many : Nat) (cs : List Nat) (sn : List (Nat × Nat)) (ts : List TK) : List Nat := [1, 0, 1] ++ (headBits lit.length dist.length many cs sn ++ (ts.flatMap (tokBits lit dist) ++ rowOf lit 256))

def storeB (data : List Nat) : List Nat := [1, data.length % 256, data.length / 256, 255 - data.length % 256, 255 - data.length / 256] ++ data

end Go.Proofs.YtljlmfnbeofmmaaGreatDoor
