/-
  Of the proof: parts LnRead, LnWrM, InLo, InPm, InPe, DfM, DfN, LnStepsM, LnPgM, LnShape, LnIdx, InHm.
-/
import Derived.Deep.RegionLaw
import Derived.Test.YtljlmfnbeofmmaaGreatDoorJ11
import Derived.Test.YtljlmfnbeofmmaaGreatDoorJ3
import Derived.Test.YtljlmfnbeofmmaaGreatDoorJ1
import Derived.Test.YtljlmfnbeofmmaaGreatDoorJ6
import Derived.Test.YtljlmfnbeofmmaaGreatDoorJ9
import Derived.Test.YtljlmfnbeofmmaaGreatDoorJ7

namespace Go.Proofs.YtljlmfnbeofmmaaGreatDoor
open Go.RowKit
theorem chk_codes (l : List Nat) (hl : l.length = 19) (h7 : ∀ x ∈ l, x ≤ 7) : chk (l.map (fun (n : Nat) => (n : Int))) = chkN l := by
 have hok : okAll (l.map (fun (n : Nat) => (n : Int))) 0 15 = true := by
  simp only [okAll, List.length_map, Bool.and_eq_true, decide_eq_true_eq, Bool.not_eq_true', List.any_eq_false]
  refine ⟨⟨by omega, by omega⟩, fun z hz => ?_⟩
  obtain ⟨n, hn, rfl⟩ := List.mem_map.1 hz
  have := h7 n hn
  simp [badI]; omega
 unfold chk
 rw [if_pos hok, List.map_map]
 have e : l.map (Int.toNat ∘ fun (n : Nat) => (n : Int)) = l := by
  conv => rhs; rw [← List.map_id l]
  exact List.map_congr_left (fun n _ => by simp)
 rw [e]

theorem ord_le : ∀ i, i < 19 → ord.getD i 0 ≤ 18 := by decide

end Go.Proofs.YtljlmfnbeofmmaaGreatDoor

namespace Go.Proofs.YtljlmfnbeofmmaaGreatDoor
def stepBits (cs : List Nat) (s : Nat × Nat) : List Nat := rowOf cs s.1 ++ bitsOf s.2 (xbits s.1)

theorem stepBits_length (cs : List Nat) (s : Nat × Nat) : (stepBits cs s).length = key cs s.1 + xbits s.1 := by rw [stepBits, List.length_append, rowOf_length, bitsOf_length]

def StepsOk (cs : List Nat) (ss : List (Nat × Nat)) : Prop := ∀ s ∈ ss, s.1 < cs.length ∧ key cs s.1 ≠ 0 ∧ s.2 < 2 ^ xbits s.1

def codeBits (cs : List Nat) : Nat → List Nat
 | 0 => []
 | i + 1 => codeBits cs i ++ bitsOf (cs.getD (ord.getD i 0) 0) 3

theorem codeBits_length (cs : List Nat) (i : Nat) : (codeBits cs i).length = 3 * i := by
 induction i with
 | zero => rfl
 | succ i ih => rw [codeBits, List.length_append, ih, bitsOf_length]; omega

structure HeadOk (lit dist : List Nat) (many : Nat) (cs : List Nat) (ss : List (Nat × Nat)) : Prop where
 l1 : 257 ≤ lit.length
 l2 : lit.length ≤ 286
 d1 : 1 ≤ dist.length
 d2 : dist.length ≤ 30
 m1 : 4 ≤ many
 m2 : many ≤ 19
 c19 : cs.length = 19
 c7 : ∀ x ∈ cs, x ≤ 7
 ok : chkN cs = 0
 rest : ∀ j, many ≤ j → j < 19 → cs.getD (ord.getD j 0) 0 = 0
 st : StepsOk cs ss
 run : runM (lit.length + dist.length) [] (ss.map (fun s => ((s.1 : Int), (s.2 : Int)))) = some (lit ++ dist)

def headBits (nl nd many : Nat) (cs : List Nat) (ss : List (Nat × Nat)) : List Nat :=
 bitsOf (nl - 257) 5 ++ (bitsOf (nd - 1) 5 ++ (bitsOf (many - 4) 4 ++ (codeBits cs many ++ ss.flatMap (stepBits cs))))

end Go.Proofs.YtljlmfnbeofmmaaGreatDoor

namespace Go.Proofs.YtljlmfnbeofmmaaGreatDoor
theorem key_le {ns : List Nat} {b : Nat} (h : ∀ n ∈ ns, n ≤ b) (s : Nat) : key ns s ≤ b := Nat.le_trans (key_le_mx ns s) (mx_le ns b h)

end Go.Proofs.YtljlmfnbeofmmaaGreatDoor

namespace Go.Proofs.YtljlmfnbeofmmaaGreatDoor
structure Lok (l : List Nat) : Prop where
 pos : 0 < l.length
 max : l.length ≤ 288
 le : ∀ n ∈ l, n ≤ 15
 ok : chkN l = 0

structure OkL (lit dist : List Nat) : Prop where
 lit : Lok lit
 pos : 0 < dist.length
 max : dist.length ≤ 288
 le : ∀ n ∈ dist, n ≤ 15
 dist : usedB dist = true → Lok dist

end Go.Proofs.YtljlmfnbeofmmaaGreatDoor

namespace Go.Proofs.YtljlmfnbeofmmaaGreatDoor
theorem fix_ok : OkL fixL fixD := by
 refine ⟨⟨by decide +kernel, by decide +kernel, by decide +kernel, by decide +kernel⟩, by decide +kernel, by decide +kernel, by decide +kernel, fun _ => ⟨by decide +kernel, by decide +kernel, by decide +kernel, by decide +kernel⟩⟩

end Go.Proofs.YtljlmfnbeofmmaaGreatDoor

namespace Go.Proofs.YtljlmfnbeofmmaaGreatDoor

def splW (n p : Nat) : Nat := blen n - p
def splS (n p : Nat) : Nat := splW n p * 2 ^ (p - 1) + n / 2 ^ splW n p
def splX (n p : Nat) : Nat := n % 2 ^ splW n p

theorem splX_lt (n p : Nat) : splX n p < 2 ^ splW n p := Nat.mod_lt _ (Nat.two_pow_pos _)

structure MK where
 sym : Nat
 extra : Nat
 width : Nat

def litMk (t : TK) : MK := if t.len = 0 then ⟨t.lit, 0, 0⟩ else if t.len = 258 then ⟨285, 0, 0⟩ else ⟨257 + splS (t.len.toNat - 3) 3, splX (t.len.toNat - 3) 3, splW (t.len.toNat - 3) 3⟩
def distMk (t : TK) : MK := ⟨splS (t.dist.toNat - 1) 2, splX (t.dist.toNat - 1) 2, splW (t.dist.toNat - 1) 2⟩

def mkBits (cs : List Nat) (m : MK) : List Nat := rowOf cs m.sym ++ bitsOf m.extra m.width
def tokBits (lit dist : List Nat) (t : TK) : List Nat := mkBits lit (litMk t) ++ (if t.len = 0 then [] else mkBits dist (distMk t))

def HasT (lit dist : List Nat) (t : TK) : Prop := (litMk t).sym < lit.length ∧ key lit (litMk t).sym ≠ 0 ∧ (t.len ≠ 0 → (distMk t).sym < dist.length ∧ key dist (distMk t).sym ≠ 0)

theorem used_of_key {l : List Nat} {s : Nat} (h : s < l.length) (h0 : key l s ≠ 0) : usedB l = true := by
 unfold usedB
 rw [List.any_eq_true]
 refine ⟨l[s], List.getElem_mem h, ?_⟩
 rw [key_get h] at h0
 simpa using h0

theorem splS_small (n p m : Nat) (h : n < 2 ^ (m + p)) (hp : 1 ≤ p) : splS n p < (m + 2) * 2 ^ (p - 1) := by
 have hk : 0 < 2 ^ (p - 1) := Nat.two_pow_pos _
 have hb : blen n ≤ m + p := (blen_le n _).2 h
 have hw : splW n p ≤ m := by unfold splW; omega
 have hq : n / 2 ^ splW n p < 2 * 2 ^ (p - 1) := by
  rw [Nat.div_lt_iff_lt_mul (Nat.two_pow_pos _)]
  have h2 : n < 2 ^ (splW n p + p) := (blen_le n _).1 (by unfold splW; omega)
  have e : 2 * 2 ^ (p - 1) * 2 ^ splW n p = 2 ^ (splW n p + p) := by
   rw [← Nat.pow_succ', ← Nat.pow_add]; congr 1; omega
  omega
 have h3 : splW n p * 2 ^ (p - 1) ≤ m * 2 ^ (p - 1) := Nat.mul_le_mul_right _ hw
 unfold splS
 rw [Nat.add_mul]
 omega

structure ToksOk (lit dist : List Nat) (ts : List TK) : Prop where
 has : ∀ t ∈ ts, HasT lit dist t
 end' : 256 < lit.length ∧ key lit 256 ≠ 0
 byte : ∀ t ∈ ts, t.lit < 256

theorem may_dist {t : TK} {said : Nat} (h : mayT t said = true) (hs : said ≤ 16384) : t.dist ≤ 16384 := by
 rcases mayT_cases h with ⟨_, h2, _⟩ | ⟨n, d, _, h2, _, _, _, _, h6, _⟩
 ·omega
 ·omega

end Go.Proofs.YtljlmfnbeofmmaaGreatDoor

namespace Go.Proofs.YtljlmfnbeofmmaaGreatDoor
theorem measT_may7 {M : Nat} {ts : List TK} {s n : Nat} (h : measT M ts s = .ok n) (hs : s ≤ M) : ∀ t ∈ ts, ∃ said, said ≤ M ∧ mayT t said = true := by
 induction ts generalizing s with
 | nil => intro t ht; simp at ht
 | cons x r ih =>
  unfold measT at h
  split at h
  ·cases h
  ·rename_i h1
   split at h
   ·cases h
   ·rename_i h2
    intro t ht
    rcases List.mem_cons.1 ht with rfl | ht
    ·exact ⟨s, hs, by simpa using h1⟩
    ·exact ih h (by omega) t ht

theorem syms_of {t : TK} {said : Nat} (h : mayT t said = true) (hs : said ≤ 16384) (hl : t.lit < 256) :
  (litMk t).sym ≤ 285 ∧ (litMk t).extra < 2 ^ (litMk t).width ∧ (litMk t).width ≤ 5 ∧ (t.len = 0 → (litMk t).sym = t.lit ∧ (litMk t).extra = 0 ∧ (litMk t).width = 0) ∧ (t.len ≠ 0 → 257 ≤ (litMk t).sym ∧ (distMk t).sym ≤ 29 ∧ (distMk t).extra < 2 ^ (distMk t).width ∧ (distMk t).width ≤ 13) := by
 rcases mayT_cases h with ⟨h0, _, h1⟩ | ⟨n, d, h0, hd0, _, h3, h4, h5, h6, h1⟩
 ·have hmk : litMk t = ⟨t.lit, 0, 0⟩ := by unfold litMk; rw [if_pos h0]
  rw [hmk]
  exact ⟨by simp only; omega, by simp, by simp, fun _ => ⟨rfl, rfl, rfl⟩, fun h9 => absurd h0 h9⟩
 ·have hn0 : t.len ≠ 0 := by omega
  have hd : (distMk t).sym ≤ 29 ∧ (distMk t).extra < 2 ^ (distMk t).width ∧ (distMk t).width ≤ 13 := by
   have hdm : distMk t = ⟨splS (d - 1) 2, splX (d - 1) 2, splW (d - 1) 2⟩ := by unfold distMk; rw [hd0]; simp
   rw [hdm]
   have := splS_small (d - 1) 2 12 (by omega) (by decide)
   have hb := (blen_le (d - 1) 14).2 (by omega)
   exact ⟨by simp only; omega, splX_lt _ _, by simp only [splW]; omega⟩
  refine ⟨?_, ?_, ?_, fun h9 => absurd h9 hn0, fun _ => ⟨?_, hd⟩⟩
  all_goals
   by_cases h258 : n = 258
   ·have hmk : litMk t = ⟨285, 0, 0⟩ := by unfold litMk; rw [if_neg hn0, if_pos (by omega)]
    rw [hmk]
    simp
   ·have hmk : litMk t = ⟨257 + splS (n - 3) 3, splX (n - 3) 3, splW (n - 3) 3⟩ := by unfold litMk; rw [if_neg hn0, if_neg (by omega), h0]; simp
    rw [hmk]
    have := splS_small (n - 3) 3 5 (by omega) (by decide)
    have hb := (blen_le (n - 3) 8).2 (by omega)
    have hx := splX_lt (n - 3) 3
    simp only [splW] at hx ⊢
    first
     | exact hx
     | omega

theorem fix_keys : (List.range 288).all (fun s => decide (key fixL s ≠ 0)) = true := by decide +kernel
theorem fix_keysD : (List.range 32).all (fun s => decide (key fixD s ≠ 0)) = true := by decide +kernel
theorem fix_lens : fixL.length = 288 ∧ fixD.length = 32 := by decide +kernel

theorem fix_toks {ts : List TK} {n : Nat} (h : measT 16384 ts 0 = .ok n) (hb : ∀ t ∈ ts, t.lit < 256) : ToksOk fixL fixD ts := by
 have hk : ∀ s, s < 288 → key fixL s ≠ 0 := fun s hs => by simpa using List.all_eq_true.1 fix_keys s (List.mem_range.2 hs)
 have hkD : ∀ s, s < 32 → key fixD s ≠ 0 := fun s hs => by simpa using List.all_eq_true.1 fix_keysD s (List.mem_range.2 hs)
 refine ⟨fun t ht => ?_, ⟨by rw [fix_lens.1]; decide, hk 256 (by decide)⟩, hb⟩
 obtain ⟨said, h1, h2⟩ := measT_may7 h (by decide) t ht
 have h3 := syms_of h2 h1 (hb t ht)
 refine ⟨by rw [fix_lens.1]; omega, hk _ (by omega), fun h9 => ?_⟩
 have h4 := h3.2.2.2.2 h9
 exact ⟨by rw [fix_lens.2]; omega, hkD _ (by omega)⟩

structure Packs (bs X : List Nat) : Prop where
 pad : ∃ k, ofBytes bs = X ++ List.replicate k 0
 len : bs.length = (X.length + 7) / 8

def fixBits (ts : List TK) : List Nat := [1, 1, 0] ++ (ts.flatMap (tokBits fixL fixD) ++ rowOf fixL 256)

def dynBits (lit dist : List Nat) (many : Nat) (cs : List Nat) (sn : List (Nat × Nat)) (ts : List TK) : List Nat := [1, 0, 1] ++ (headBits lit.length dist.length many cs sn ++ (ts.flatMap (tokBits lit dist) ++ rowOf lit 256))

def storeB (data : List Nat) : List Nat := [1, data.length % 256, data.length / 256, 255 - data.length % 256, 255 - data.length / 256] ++ data

end Go.Proofs.YtljlmfnbeofmmaaGreatDoor

namespace Go.Proofs.YtljlmfnbeofmmaaGreatDoor
theorem xbits_le (s : Nat) : xbits s ≤ 7 := by
 unfold xbits
 split
 ·omega
 ·split
  ·omega
  ·split <;> omega

def packN (l : List Nat) : List (Nat × Nat) := (packM l).map (fun s => (s.1.toNat, s.2.toNat))

def StepIs (s : Int × Int) : Prop := 0 ≤ s.1 ∧ s.1 ≤ 18 ∧ 0 ≤ s.2 ∧ s.2.toNat < 2 ^ xbits s.1.toNat

theorem zerosM_is (n : Nat) : ∀ s ∈ zerosM n, StepIs s := by
 induction n using Nat.strongRecOn with
 | ind n ih =>
  intro s hs
  by_cases h : 11 ≤ n
  ·rw [zerosM_big n h] at hs
   rcases List.mem_cons.1 hs with rfl | hs
   ·refine ⟨by simp, by simp, by simp only; omega, ?_⟩
    show (((min n 138 - 11 : Nat) : Int)).toNat < 2 ^ 7
    omega
   ·exact ih _ (by omega) s hs
  ·by_cases h3 : 3 ≤ n
   ·rw [zerosM_mid n (by omega) h3] at hs
    have : s = (17, ((n - 3 : Nat) : Int)) := by simpa using hs
    subst this
    refine ⟨by simp, by simp, by simp only; omega, ?_⟩
    show (((n - 3 : Nat) : Int)).toNat < 2 ^ 3
    omega
   ·rw [zerosM_few n (by omega)] at hs
    have := List.eq_of_mem_replicate hs
    subst this
    exact ⟨by simp, by simp, by simp, by decide⟩

theorem againM_is (v n : Nat) (hv : v ≤ 15) : ∀ s ∈ againM v n, StepIs s := by
 induction n using Nat.strongRecOn with
 | ind n ih =>
  intro s hs
  by_cases h : 3 ≤ n
  ·rw [againM_big v n h] at hs
   rcases List.mem_cons.1 hs with rfl | hs
   ·refine ⟨by simp, by simp, by simp only; omega, ?_⟩
    show (((min n 6 - 3 : Nat) : Int)).toNat < 2 ^ 2
    omega
   ·exact ih _ (by omega) s hs
  ·rw [againM_few v n (by omega)] at hs
   have := List.eq_of_mem_replicate hs
   subst this
   refine ⟨by simp, by simp only; omega, by simp, ?_⟩
   show (0 : Int).toNat < 2 ^ xbits _
   exact Nat.two_pow_pos _

theorem sayM_is (v n : Nat) (hv : v ≤ 15) : ∀ s ∈ sayM v n, StepIs s := by
 intro s hs
 unfold sayM at hs
 split at hs
 ·exact zerosM_is n s hs
 ·rcases List.mem_cons.1 hs with rfl | hs
  ·refine ⟨by simp, by simp only; omega, by simp, ?_⟩
   show (0 : Int).toNat < 2 ^ xbits _
   exact Nat.two_pow_pos _
  ·exact againM_is v _ hv s hs

theorem packM_is (l : List Nat) (h15 : ∀ x ∈ l, x ≤ 15) : ∀ s ∈ packM l, StepIs s := by
 induction hn : l.length using Nat.strongRecOn generalizing l with
 | ind n ih =>
  cases l with
  | nil => intro s hs; simp [packM] at hs
  | cons v r =>
   intro s hs
   rw [packM_cons] at hs
   rcases List.mem_append.1 hs with hs | hs
   ·exact sayM_is v _ (h15 v (by simp)) s hs
   ·exact ih (r.drop (frontN v r)).length (by simp at hn ⊢; omega) _ (fun x hx => h15 x (List.mem_cons_of_mem _ (List.mem_of_mem_drop hx))) rfl s hs

theorem packN_cast (l : List Nat) (h15 : ∀ x ∈ l, x ≤ 15) : (packN l).map (fun s => ((s.1 : Int), (s.2 : Int))) = packM l := by
 unfold packN
 rw [List.map_map]
 conv => rhs; rw [← List.map_id (packM l)]
 refine List.map_congr_left (fun s hs => ?_)
 have h := packM_is l h15 s hs
 simp only [Function.comp, id]
 rw [Int.toNat_of_nonneg h.1, Int.toNat_of_nonneg h.2.2.1]

theorem packN_length (l : List Nat) : (packN l).length ≤ l.length := by
 unfold packN
 rw [List.length_map]
 exact packM_len l

end Go.Proofs.YtljlmfnbeofmmaaGreatDoor

namespace Go.Proofs.YtljlmfnbeofmmaaGreatDoor

def leastM (s : Int) : Nat := if s = 16 then 3 else if s = 17 then 3 else if s = 18 then 11 else 1
def widthM (s : Int) : Nat := if s = 16 then 2 else if s = 17 then 3 else if s = 18 then 7 else 0

theorem widthM_nat (s : Nat) : widthM (s : Int) = xbits s := by
 unfold widthM xbits
 by_cases h1 : s = 16
 ·subst h1; rfl
 ·by_cases h2 : s = 17
  ·subst h2; rfl
  ·by_cases h3 : s = 18
   ·subst h3; rfl
   ·rw [if_neg (by omega), if_neg (by omega), if_neg (by omega), if_neg h1, if_neg h2, if_neg h3]

theorem widthM_le (s : Int) : widthM s ≤ 7 := by
 unfold widthM
 split
 ·omega
 ·split
  ·omega
  ·split <;> omega

theorem leastM_le (s : Int) : 1 ≤ leastM s ∧ leastM s ≤ 11 := by
 unfold leastM
 split
 ·omega
 ·split
  ·omega
  ·split <;> omega

def manyL (s : Int) (lo hi n : Nat) : List (Int × Int) :=
 if 1 ≤ lo ∧ lo ≤ hi ∧ lo ≤ n then (s, ((min n hi - lo : Nat) : Int)) :: manyL s lo hi (n - min n hi) else []
termination_by n
decreasing_by omega

def manyR (lo hi n : Nat) : Nat :=
 if 1 ≤ lo ∧ lo ≤ hi ∧ lo ≤ n then manyR lo hi (n - min n hi) else n
termination_by n
decreasing_by omega

theorem manyL_more {s : Int} {lo hi n : Nat} (h1 : 1 ≤ lo) (h2 : lo ≤ hi) (h3 : lo ≤ n) : manyL s lo hi n = (s, ((min n hi - lo : Nat) : Int)) :: manyL s lo hi (n - min n hi) := by
 rw [manyL, if_pos ⟨h1, h2, h3⟩]
theorem manyL_end {s : Int} {lo hi n : Nat} (h3 : n < lo) : manyL s lo hi n = [] := by rw [manyL, if_neg (by omega)]
theorem manyR_more {lo hi n : Nat} (h1 : 1 ≤ lo) (h2 : lo ≤ hi) (h3 : lo ≤ n) : manyR lo hi n = manyR lo hi (n - min n hi) := by
 rw [manyR, if_pos ⟨h1, h2, h3⟩]
theorem manyR_end {lo hi n : Nat} (h3 : n < lo) : manyR lo hi n = n := by rw [manyR, if_neg (by omega)]

theorem many_le (s : Int) (lo hi n : Nat) (h1 : 1 ≤ lo) (h2 : lo ≤ hi) : (manyL s lo hi n).length + manyR lo hi n ≤ n ∧ manyR lo hi n < lo := by
 induction n using Nat.strongRecOn with
 | ind n ih =>
  by_cases h : lo ≤ n
  ·have := ih (n - min n hi) (by omega)
   rw [manyL_more h1 h2 h, manyR_more h1 h2 h, List.length_cons]
   omega
  ·rw [manyL_end (by omega), manyR_end (by omega)]
   simp; omega

theorem zerosM_many (n : Nat) : zerosM n = manyL 18 11 138 n ++ (manyL 17 3 10 (manyR 11 138 n) ++ List.replicate (manyR 3 10 (manyR 11 138 n)) (0, 0)) := by
 induction n using Nat.strongRecOn with
 | ind n ih =>
  by_cases h : 11 ≤ n
  ·rw [zerosM_big n h, manyL_more (by omega) (by omega) h, manyR_more (by omega) (by omega) h, ih (n - min n 138) (by omega)]
   rfl
  ·rw [manyL_end (n := n) (by omega), manyR_end (n := n) (by omega)]
   by_cases h3 : 3 ≤ n
   ·rw [zerosM_mid n (by omega) h3, manyL_more (by omega) (by omega) h3, manyR_more (by omega) (by omega) h3, show min n 10 = n by omega, Nat.sub_self, manyL_end (by omega), manyR_end (by omega)]
    rfl
   ·rw [zerosM_few n (by omega), manyL_end (by omega), manyR_end (by omega)]
    rfl

theorem againM_many (v n : Nat) : againM v n = manyL 16 3 6 n ++ List.replicate (manyR 3 6 n) ((v : Int), 0) := by
 induction n using Nat.strongRecOn with
 | ind n ih =>
  by_cases h : 3 ≤ n
  ·rw [againM_big v n h, manyL_more (by omega) (by omega) h, manyR_more (by omega) (by omega) h, ih (n - min n 6) (by omega)]
   rfl
  ·rw [againM_few v n (by omega), manyL_end (by omega), manyR_end (by omega)]
   rfl

def comeN (cs : List Nat) : Nat → Nat
 | 0 => 0
 | k + 1 => if 4 < k + 1 ∧ cs.getD (ord.getD k 0) 0 = 0 then comeN cs k else k + 1

theorem comeN_ge (cs : List Nat) (k : Nat) (h : 4 ≤ k) : 4 ≤ comeN cs k ∧ comeN cs k ≤ k := by
 induction k with
 | zero => omega
 | succ k ih =>
  rw [comeN]
  split
  ·have := ih (by omega); omega
  ·omega

theorem comeN_rest (cs : List Nat) (k : Nat) : ∀ j, comeN cs k ≤ j → j < k → cs.getD (ord.getD j 0) 0 = 0 := by
 induction k with
 | zero => intro j _ h; omega
 | succ k ih =>
  intro j h1 h2
  rw [comeN] at h1
  split at h1
  ·rename_i h
   by_cases e : j = k
   ·subst e; exact h.2
   ·exact ih j h1 (by omega)
  ·omega

end Go.Proofs.YtljlmfnbeofmmaaGreatDoor

namespace Go.Proofs.YtljlmfnbeofmmaaGreatDoor
open Go.RowKit

def inB (n lo hi : Int) : Bool := decide (lo ≤ n) && decide (n ≤ hi)

set_option maxHeartbeats 1000000 in
theorem within_any (w : World) (n lo hi : Int) :
  Calls Tryz.prog 127 #[.int .i64 n, .int .i64 lo, .int .i64 hi] w fun e w' => e = .returned (.bool (inB n lo hi)) ∧ w' = w := by
 go_enter Tryz.func127, Tryz.ntmps127
 by_cases h : lo ≤ n
 ·go_wp2_with fail
  go_ret
  exact ⟨by simp only [inB, h, decide_true, Bool.true_and]; rfl, rfl⟩
 ·go_wp2_with fail
  go_ret
  have hd : decide (lo ≤ n) = false := by simp; omega
  exact ⟨by simp only [inB, hd, Bool.false_and]; rfl, rfl⟩

set_option maxHeartbeats 1000000 in
theorem shape_any (w : World) (s : Int) :
  Calls Tryz.prog 164 #[.int .i64 s] w fun e w' => e = .returned (.tuple #[.int .i64 (leastM s : Nat), .int .i64 (widthM s : Nat)]) ∧ w' = w := by
 by_cases h16 : s = 16
 ·subst h16
  go_enter Tryz.func164, Tryz.ntmps164
  go_wp2_with fail
  go_ret2
  exact ⟨rfl, rfl⟩
 ·by_cases h17 : s = 17
  ·subst h17
   go_enter Tryz.func164, Tryz.ntmps164
   go_wp2_with fail
   go_ret2
   exact ⟨rfl, rfl⟩
  ·by_cases h18 : s = 18
   ·subst h18
    go_enter Tryz.func164, Tryz.ntmps164
    go_wp2_with fail
    go_ret2
    exact ⟨rfl, rfl⟩
   ·have e16 : (s == 16) = false := by simp; omega
    have e17 : (s == 17) = false := by simp; omega
    have e18 : (s == 18) = false := by simp; omega
    have HE : Hid (leastM s = 1 ∧ widthM s = 0) := hid ⟨by unfold leastM; rw [if_neg h16, if_neg h17, if_neg h18], by unfold widthM; rw [if_neg h16, if_neg h17, if_neg h18]⟩
    clear h16 h17 h18
    go_enter Tryz.func164, Tryz.ntmps164
    go_wp2_with fail
    go_ret2
    exact ⟨by rw [HE.out.1, HE.out.2]; rfl, rfl⟩

theorem pow_le7 (n : Nat) (h : n ≤ 7) : (2 : Nat) ^ n ≤ 128 := by
 have := Nat.pow_le_pow_right (show 0 < 2 by decide) h
 simpa using this

end Go.Proofs.YtljlmfnbeofmmaaGreatDoor

namespace Go.Proofs.YtljlmfnbeofmmaaGreatDoor
open Go.RowKit

theorem inB_bad (z : Int) : (!inB z 0 15) = badI 0 15 z := by
 unfold inB badI
 by_cases h1 : 0 ≤ z
 ·by_cases h2 : z ≤ 15
  ·have h3 : ¬ z < 0 := by omega
   have h4 : ¬ 15 < z := by omega
   simp [h1, h2, h3, h4]
  ·have h3 : ¬ z < 0 := by omega
   have h4 : 15 < z := by omega
   simp [h1, h2, h3, h4]
 ·have h3 : z < 0 := by omega
  simp [h1, h3]

set_option maxHeartbeats 1000000 in
theorem lwrong_any (w : World) (z : Int) :
  Calls Tryz.prog 160 #[.int .i64 z] w fun e w' => e = .returned (.bool (badI 0 15 z)) ∧ w' = w := by
 have HW := within_any w z 0 15
 go_enter Tryz.func160, Tryz.ntmps160
 go_wp2_with fail
 refine HW.mono ?_
 rintro e w1 ⟨rfl, hw1⟩
 subst hw1
 clear HW
 go_wp2_with fail
 go_ret
 exact ⟨by rw [← inB_bad]; rfl, rfl⟩

abbrev lwrongV : Value := .func (.func 160) #[] #[]

set_option maxHeartbeats 1000000 in
theorem lindex_any (w : World) (v : Value) (I : Nat → Prop) (zs : List Int) (hs : SrcE intV w I v zs) (hn : zs.length ≤ 10000000) :
  Calls Tryz.prog 193 #[v, lwrongV] w fun e w' => (∃ z : Int, e = .returned (.int .i64 z) ∧ decide (0 ≤ z) = zs.any (badI 0 15)) ∧ w' = w := by
 obtain ⟨ao, cap, rfl, hx1, hx2⟩ := id hs
 clear hx1 hx2
 have HS : Hid (SrcE intV w I (.slice ao zs.length cap) zs) := hs
 clear hs
 go_enter Tryz.func193, Tryz.ntmps193
 go_wp2_with fail
 go_loopg [8] zs.length (fun k z wr => ∃ i : Nat, zs.length - i ≤ k ∧ i ≤ zs.length ∧ z = .int .i64 (i : Nat) ∧ Hid ((zs.take i).any (badI 0 15) = false) ∧ wr = w)
 case atStart => exact ⟨0, by omega, by omega, rfl, hid (by simp), rfl⟩
 case round =>
  obtain ⟨i, hk, hil, rfl, HF, hw⟩ := hrel
  subst hw
  by_cases hlt : i < zs.length
  ·obtain ⟨b, o, cap2, e, _, _, hc⟩ := HS.out.get i hlt
   simp only [Value.slice.injEq] at e
   obtain ⟨rfl, hxe, rfl⟩ := e
   clear hxe
   obtain ⟨x, hx⟩ : ∃ x, x = zs[i] := ⟨_, rfl⟩
   rw [← hx] at hc
   unfold intV at hc
   have HX : Hid (x = zs[i]) := hx
   have HC := lwrong_any wr x
   clear hx
   cases hb : badI 0 15 x with
   | true =>
    rw [hb] at HC
    have HB : Hid (badI 0 15 x = true) := hb
    clear hb
    go_wp2_with fail
    refine HC.mono ?_
    rintro e w2 ⟨rfl, hw2⟩
    subst hw2
    clear HC
    go_wp2_with fail
    go_ret
    refine ⟨⟨_, rfl, ?_⟩, rfl⟩
    have h1 : zs.any (badI 0 15) = true := List.any_eq_true.2 ⟨x, by rw [HX.out]; exact List.getElem_mem _, HB.out⟩
    rw [h1]; simp
   | false =>
    rw [hb] at HC
    have HB : Hid (badI 0 15 x = false) := hb
    clear hb
    go_wp2_with fail
    refine HC.mono ?_
    rintro e w2 ⟨rfl, hw2⟩
    subst hw2
    clear HC
    go_wp2_with fail
    go_roundg (gk - 1)
    case measure => omega
    case rel =>
     refine ⟨i + 1, by omega, by omega, by go_num, hid ?_, rfl⟩
     rw [List.take_succ_eq_append_getElem hlt, List.any_append, HF.out, ← HX.out]
     simp [HB.out]
  ·have : i = zs.length := by omega
   subst this
   go_wp2_with fail
   go_ret
   refine ⟨⟨_, rfl, ?_⟩, rfl⟩
   have h := HF.out
   rw [List.take_of_length_le (Nat.le_refl _)] at h
   rw [h]; simp

set_option maxHeartbeats 1000000 in
theorem lcontains_any (w : World) (v : Value) (I : Nat → Prop) (zs : List Int) (hs : SrcE intV w I v zs) (hn : zs.length ≤ 10000000) :
  Calls Tryz.prog 161 #[v, lwrongV] w fun e w' => e = .returned (.bool (!lensOk zs)) ∧ w' = w := by
 have H := lindex_any w v I zs hs hn
 clear hs
 go_enter Tryz.func161, Tryz.ntmps161
 go_wp2_with fail
 refine H.mono ?_
 rintro e w2 ⟨⟨z, rfl, hz⟩, hw⟩
 subst hw
 have HZ : Hid (decide (0 ≤ z) = zs.any (badI 0 15)) := hz
 clear hz H
 go_wp2_with fail
 go_ret
 refine ⟨?_, rfl⟩
 unfold lensOk
 rw [Bool.not_not, ← HZ.out]; rfl

set_option maxHeartbeats 1000000 in
theorem lother_any (w : World) (q b o n cap x y : Nat) (hq : w.cell? ⟨q, 0, none⟩ = some (.slice (some ⟨b, o, none⟩) n cap)) (hn : 0 < n) (hb : w.cell? ⟨b, o, none⟩ = some (.int .i64 (y : Nat))) :
  Calls Tryz.prog 194 #[.int .i64 (x : Nat), .pointer (some ⟨q, 0, none⟩)] w fun e w' => e = .returned (.bool (!decide (x = y))) ∧ w' = w := by
 go_enter Tryz.func194, Tryz.ntmps194
 by_cases h : x = y
 ·subst h
  go_wp2_with fail
  go_ret
  exact ⟨by simp, rfl⟩
 ·have hne : ((x : Int) == (y : Int)) = false := by simp; omega
  have HH : Hid ((!decide (x = y)) = true ∧ ¬ (x : Int) = (y : Int)) := hid ⟨by simp [h], by omega⟩
  clear h
  go_wp2_with fail
  go_ret
  exact ⟨by rw [HH.out.1]; simp [HH.out.2], rfl⟩

abbrev lotherV (q : Nat) : Value := .func (.func 194) #[] #[.pointer (some ⟨q, 0, none⟩)]

set_option maxHeartbeats 1000000 in
theorem lfirst_any (w : World) (b o cap q y : Nat) (I : Nat → Prop) (ns : List Nat) (hs : SrcE natV w I (.slice (some ⟨b, o, none⟩) ns.length cap) ns) (hn : ns.length ≤ 1000000) (h0 : 0 < ns.length) (hy : ns[0] = y)
  (hq : w.cell? ⟨q, 0, none⟩ = some (.slice (some ⟨b, o, none⟩) ns.length cap)) :
  Calls Tryz.prog 193 #[.slice (some ⟨b, o, none⟩) ns.length cap, lotherV q] w fun e w' => ((e = .returned (.int .i64 (-1)) ∧ ∀ j (_ : j < ns.length), ns[j] = y) ∨ ∃ i, e = .returned (.int .i64 (i : Nat)) ∧ ∃ h : i < ns.length, ns[i] ≠ y ∧ ∀ j (_ : j < ns.length), j < i → ns[j] = y) ∧ w' = w := by
 have c0 : w.cell? ⟨b, o, none⟩ = some (.int .i64 (y : Nat)) := by
  obtain ⟨b', o', cap', e, _, _, c⟩ := hs.get 0 h0
  simp only [Value.slice.injEq, Option.some.injEq, Addr.mk.injEq, and_true] at e
  obtain ⟨⟨rfl, rfl⟩, _, _⟩ := e
  rw [hy] at c
  exact c
 have HS : Hid (SrcE natV w I (.slice (some ⟨b, o, none⟩) ns.length cap) ns) := hs
 clear hs hy
 go_enter Tryz.func193, Tryz.ntmps193
 go_wp2_with fail
 go_loopg [8] ns.length (fun k z wr => ∃ i : Nat, ns.length - i ≤ k ∧ i ≤ ns.length ∧ z = .int .i64 (i : Nat) ∧ Hid (∀ j (_ : j < ns.length), j < i → ns[j] = y) ∧ wr = w)
 case atStart => exact ⟨0, by omega, by omega, rfl, hid (fun j _ h => by omega), rfl⟩
 case round =>
  obtain ⟨i, hk, hil, rfl, HF, hw⟩ := hrel
  subst hw
  by_cases hlt : i < ns.length
  ·obtain ⟨b', o', cap2, e, _, _, hc⟩ := HS.out.get i hlt
   simp only [Value.slice.injEq, Option.some.injEq, Addr.mk.injEq, and_true] at e
   obtain ⟨⟨rfl, rfl⟩, hxe, rfl⟩ := e
   clear hxe
   obtain ⟨x, hx⟩ : ∃ x, x = ns[i] := ⟨_, rfl⟩
   rw [← hx] at hc
   unfold natV at hc
   have HX : Hid (x = ns[i]) := hx
   have HC := lother_any wr q b o ns.length cap x y hq h0 c0
   clear hx
   by_cases hb : x = y
   ·have HB : Hid (x = y) := hb
    have hd : (!decide (x = y)) = false := by simp [hb]
    rw [hd] at HC
    clear hb hd
    go_wp2_with fail
    refine HC.mono ?_
    rintro e w2 ⟨rfl, hw2⟩
    subst hw2
    clear HC
    go_wp2_with fail
    go_roundg (gk - 1)
    case measure => omega
    case rel =>
     refine ⟨i + 1, by omega, by omega, by go_num, hid (fun j hj hji => ?_), rfl⟩
     by_cases e : j = i
     ·subst e; rw [← HX.out, HB.out]
     ·exact HF.out j hj (by omega)
   ·have HB : Hid (x ≠ y) := hb
    have hd : (!decide (x = y)) = true := by simp [hb]
    rw [hd] at HC
    clear hb hd
    go_wp2_with fail
    refine HC.mono ?_
    rintro e w2 ⟨rfl, hw2⟩
    subst hw2
    clear HC
    go_wp2_with fail
    go_ret
    exact ⟨.inr ⟨i, rfl, hlt, by rw [← HX.out]; exact HB.out, HF.out⟩, rfl⟩
  ·have : i = ns.length := by omega
   subst this
   go_wp2_with fail
   go_ret
   exact ⟨.inl ⟨rfl, fun j hj => HF.out j hj hj⟩, rfl⟩

theorem front_of {y : Nat} {r : List Nat} {n : Nat} (h : (n = (y :: r).length ∧ ∀ j (_ : j < (y :: r).length), (y :: r)[j] = y) ∨ ∃ h : n < (y :: r).length, (y :: r)[n] ≠ y ∧ ∀ j (_ : j < (y :: r).length), j < n → (y :: r)[j] = y) : n = 1 + frontN y r := by
 rcases h with ⟨h1, h2⟩ | ⟨h1, h2, h3⟩
 ·have := frontN_is y r r.length (fun j hj _ => by have := h2 (j + 1) (by simpa using hj); rw [List.getElem_cons_succ] at this; exact this) (Nat.le_refl _) (fun h => by omega)
  rw [this, h1]
  simp; omega
 ·cases n with
  | zero => simp at h2
  | succ n =>
   have := frontN_is y r n (fun j hj hjn => by have := h3 (j + 1) (by simpa using hj) (by omega); rw [List.getElem_cons_succ] at this; exact this) (by simp at h1; omega) (fun _ => by simpa using h2)
   rw [this]
   omega

set_option maxHeartbeats 1000000 in
theorem alike_any (w : World) (b o cap : Nat) (I : Nat → Prop) (y : Nat) (r : List Nat) (hs : SrcE natV w I (.slice (some ⟨b, o, none⟩) (y :: r).length cap) (y :: r)) (hn : (y :: r).length ≤ 1000000) :
  Calls Tryz.prog 162 #[.slice (some ⟨b, o, none⟩) (y :: r).length cap] w fun e w' => e = .returned (.int .i64 ((1 + frontN y r : Nat) : Int)) ∧ Same w w' := by
 obtain ⟨W, hW⟩ : ∃ W, W = w.alloc (.cells #[.slice (some ⟨b, o, none⟩) (y :: r).length cap] 117) := ⟨_, rfl⟩
 have HK : Hid (Same w W) := hid (by rw [hW]; exact (Kept.refl _ w).alloc _)
 have hq : W.cell? ⟨w.heap.size, 0, none⟩ = some (.slice (some ⟨b, o, none⟩) (y :: r).length cap) := by rw [hW]; simp
 have HC := lfirst_any W b o cap w.heap.size y I (y :: r) (hs.same HK.out) hn (by simp) rfl hq
 have HC2 : Calls Tryz.prog 193 #[.slice (some ⟨b, o, none⟩) (y :: r).length cap, lotherV w.heap.size] W fun e w' => ((e = .returned (.int .i64 (-1)) ∧ (y :: r).length = 1 + frontN y r) ∨ ∃ i : Nat, e = .returned (.int .i64 (i : Nat)) ∧ i = 1 + frontN y r) ∧ w' = W := HC.mono (by
  rintro e w' ⟨h, hw⟩
  refine ⟨?_, hw⟩
  rcases h with ⟨h1, h2⟩ | ⟨i, h1, h2, h3, h4⟩
  ·exact .inl ⟨h1, front_of (.inl ⟨rfl, h2⟩)⟩
  ·exact .inr ⟨i, h1, front_of (.inr ⟨h2, h3, h4⟩)⟩)
 clear HC
 obtain ⟨L, hL⟩ : ∃ L, L = (y :: r).length := ⟨_, rfl⟩
 rw [← hL] at HC2 hq hW ⊢
 obtain ⟨f, hf⟩ : ∃ f, f = 1 + frontN y r := ⟨_, rfl⟩
 rw [← hf] at HC2 ⊢
 clear hs hL hn hf
 go_enter Tryz.func162, Tryz.ntmps162
 go_wp2_with fail
 rw [← hW]
 clear hW
 go_wp2_with fail
 refine HC2.mono ?_
 rintro e w2 ⟨h, hw2⟩
 subst hw2
 clear HC2
 rcases h with ⟨rfl, hLf⟩ | ⟨i, rfl, hif⟩
 ·subst hLf
  go_wp2_with fail
  go_ret
  exact ⟨rfl, HK.out⟩
 ·subst hif
  go_wp2_with fail
  go_ret
  exact ⟨rfl, HK.out⟩

end Go.Proofs.YtljlmfnbeofmmaaGreatDoor

namespace Go.Proofs.YtljlmfnbeofmmaaGreatDoor
open Go.RowKit
theorem chk_nats (l : List Nat) (h0 : 0 < l.length) (hl : l.length ≤ 288) (h15 : ∀ x ∈ l, x ≤ 15) : chk (l.map (fun (n : Nat) => (n : Int))) = chkN l := by
 have hok : okAll (l.map (fun (n : Nat) => (n : Int))) 0 15 = true := by
  simp only [okAll, List.length_map, Bool.and_eq_true, decide_eq_true_eq, Bool.not_eq_true', List.any_eq_false]
  refine ⟨⟨by omega, by omega⟩, fun z hz => ?_⟩
  obtain ⟨n, hn, rfl⟩ := List.mem_map.1 hz
  have := h15 n hn
  simp [badI]; omega
 unfold chk
 rw [if_pos hok, List.map_map]
 have e : l.map (Int.toNat ∘ fun (n : Nat) => (n : Int)) = l := by
  conv => rhs; rw [← List.map_id l]
  exact List.map_congr_left (fun n _ => by simp)
 rw [e]

theorem unused_measure {l : List Nat} (h : usedB l = false) : measure l = 0 := by
 induction l with
 | nil => rfl
 | cons a l ih =>
  unfold usedB at h ih
  simp only [List.any_cons, Bool.or_eq_false_iff] at h
  have ha : a = 0 := by have := h.1; simpa using this
  subst ha
  show (unit 0 + (l.map unit).sum) = 0
  have := ih h.2
  unfold measure at this
  rw [this]
  rfl

end Go.Proofs.YtljlmfnbeofmmaaGreatDoor
