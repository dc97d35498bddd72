import Derived.Test.YtljlmfnbeofmmaaGreatDoorInPe
import Derived.Test.YtljlmfnbeofmmaaGreatDoorLnWrM
import Derived.Test.YtljlmfnbeofmmaaGreatDoorMtM
namespace Go.Proofs.YtljlmfnbeofmmaaGreatDoor

def splW (n p : Nat) : Nat := blen n - p
def splS (n p : Nat) : Nat := splW n p * 2 ^ (p - 1) + n / 2 ^ splW n p
def splX (n p : Nat) : Nat := n % 2 ^ splW n p

theorem splX_lt (n p : Nat) : splX n p < 2 ^ splW n p := Nat.mod_lt _ (Nat.two_pow_pos _)

structure MK where
 sym : Nat
 extra : Nat
 width : Nat

def litMk (t : TK) : MK := if t.len = 0 then ⟨t.lit, 0, 0⟩ else if t.len = 258 then ⟨285, 0, 0⟩ else ⟨257 + splS (t.len.toNat - 3) 3, splX (t.len.toNat - 3) 3, splW (t.len.toNat - 3) 3⟩
def distMk (t : TK) : MK := ⟨splS (t.dist.toNat - 1) 2, splX (t.dist.toNat - 1) 2, splW (t.dist.toNat - 1) 2⟩

def mkBits (cs : List Nat) (m : MK) : List Nat := rowOf cs m.sym ++ bitsOf m.extra m.width
def tokBits (lit dist : List Nat) (t : TK) : List Nat := mkBits lit (litMk t) ++ (if t.len = 0 then [] else mkBits dist (distMk t))

def HasT (lit dist : List Nat) (t : TK) : Prop := (litMk t).sym < lit.length ∧ key lit (litMk t).sym ≠ 0 ∧ (t.len ≠ 0 → (distMk t).sym < dist.length ∧ key dist (distMk t).sym ≠ 0)

theorem used_of_key {l : List Nat} {s : Nat} (h : s < l.length) (h0 : key l s ≠ 0) : usedB l = true := by
 unfold usedB
 rw [List.any_eq_true]
 refine ⟨l[s], List.getElem_mem h, ?_⟩
 rw [key_get h] at h0
 simpa using h0

theorem splS_small (n p m : Nat) (h : n < 2 ^ (m + p)) (hp : 1 ≤ p) : splS n p < (m + 2) * 2 ^ (p - 1) := by
 have hk : 0 < 2 ^ (p - 1) := Nat.two_pow_pos _
 have hb : blen n ≤ m + p := (blen_le n _).2 h
 have hw : splW n p ≤ m := by unfold splW; omega
 have hq : n / 2 ^ splW n p < 2 * 2 ^ (p - 1) := by
  rw [Nat.div_lt_iff_lt_mul (Nat.two_pow_pos _)]
  have h2 : n < 2 ^ (splW n p + p) := (blen_le n _).1 (by unfold splW; omega)
  have e : 2 * 2 ^ (p - 1) * 2 ^ splW n p = 2 ^ (splW n p + p) := by
   rw [← Nat.pow_succ', ← Nat.pow_add]; congr 1; omega
  omega
 have h3 : splW n p * 2 ^ (p - 1) ≤ m * 2 ^ (p - 1) := Nat.mul_le_mul_right _ hw
 unfold splS
 rw [Nat.add_mul]
 omega

structure ToksOk (lit dist : List Nat) (ts : List TK) : Prop where
 has : ∀ t ∈ ts, HasT lit dist t
 end' : 256 < lit.length ∧ key lit 256 ≠ 0
 byte : ∀ t ∈ ts, t.lit < 256

theorem may_dist {t : TK} {said : Nat} (h : mayT t said = true) (hs : said ≤ 16384) : t.dist ≤ 16384 := by
 rcases mayT_cases h with ⟨_, h2, _⟩ | ⟨n, d, _, h2, _, _, _, _, h6, _⟩
 ·omega
 ·omega

end Go.Proofs.YtljlmfnbeofmmaaGreatDoor
