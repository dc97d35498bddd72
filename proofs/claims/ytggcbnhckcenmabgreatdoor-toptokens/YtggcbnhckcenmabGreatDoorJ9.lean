/-
  Of the proof: parts HRows, HNextM, LnM, InM, LnPackM, LnRef, LnPack, LnPack2, LnSame.
-/
import Derived.Test.YtggcbnhckcenmabGreatDoorJ6
import Derived.Test.YtggcbnhckcenmabGreatDoorJ4
import Derived.Test.YtggcbnhckcenmabGreatDoorJ8
import Derived.Test.YtggcbnhckcenmabGreatDoorJ1
import Derived.Test.YtggcbnhckcenmabGreatDoorJ3

namespace Go.Proofs.YtggcbnhckcenmabGreatDoor
open Go.RowKit

def rowB : Nat → Nat → List Nat
 | 0, _ => []
 | n + 1, c => rowB n (c / 2) ++ [c % 2]

theorem rowB_length (n c : Nat) : (rowB n c).length = n := by
 induction n generalizing c with
 | zero => rfl
 | succ n ih => simp [rowB, ih]

theorem rowB_n2 (n c : Nat) : n2 (rowB n c) = rv n c := by
 induction n generalizing c with
 | zero => rfl
 | succ n ih =>
  simp only [rowB, rv]
  rw [n2_append, ih, rowB_length]
  simp [n2, Nat.mul_comm]
  omega

theorem rowB_bit (n c : Nat) : ∀ b ∈ rowB n c, b < 2 := by
 induction n generalizing c with
 | zero => simp [rowB]
 | succ n ih =>
  intro b hb
  rcases List.mem_append.1 hb with hb | hb
  ·exact ih _ b hb
  ·have : b = c % 2 := by simpa using hb
   omega

end Go.Proofs.YtggcbnhckcenmabGreatDoor

namespace Go.Proofs.YtggcbnhckcenmabGreatDoor

theorem n2_inj (a b : List Nat) (hl : a.length = b.length) (ha : ∀ x ∈ a, x < 2) (hb : ∀ x ∈ b, x < 2) (h : n2 a = n2 b) : a = b := by
 induction a generalizing b with
 | nil => cases b with
  | nil => rfl
  | cons y r => simp at hl
 | cons x l ih => cases b with
  | nil => simp at hl
  | cons y r =>
   have hx := ha x (by simp)
   have hy := hb y (by simp)
   simp only [n2] at h
   have e1 : x = y := by omega
   have e2 : n2 l = n2 r := by omega
   rw [e1, ih r (by simpa using hl) (fun z hz => ha z (by simp [hz])) (fun z hz => hb z (by simp [hz])) e2]

theorem code_lt2 {ns : List Nat} {s : Nat} (hm : measure ns ≤ 32768) (hs : s ∈ ris ns) (h15 : key ns s ≤ 15) : codeOf ns s < 2 ^ key ns s := by
 obtain ⟨k, hk, rfl, a1, a2⟩ := place_of hs
 have h1 := sumTo_mono ns (k + 1)
 have h2 := code_start ns (ris ns)[k]
 have h3 : (codeOf ns (ris ns)[k] + 1) * 2 ^ (15 - key ns (ris ns)[k]) ≤ 2 ^ key ns (ris ns)[k] * 2 ^ (15 - key ns (ris ns)[k]) := by
  rw [← Nat.pow_add, show key ns (ris ns)[k] + (15 - key ns (ris ns)[k]) = 15 by omega, Nat.add_mul, Nat.one_mul]
  have : (2 : Nat) ^ 15 = 32768 := by decide
  omega
 have := Nat.le_of_mul_le_mul_right h3 (Nat.two_pow_pos _)
 omega

def rowOf (ns : List Nat) (s : Nat) : List Nat := rowB (key ns s) (codeOf ns s)
def Fit (ns t : List Nat) (s : Nat) : Prop := key ns s ≠ 0 ∧ rowOf ns s <+: t
def Beg (ns t : List Nat) (s : Nat) : Prop := key ns s ≠ 0 ∧ t <+: rowOf ns s

def RNext (ns t : List Nat) (is k g : Nat) : Prop :=
 (g = 0 ∧ is < ns.length ∧ Fit ns t is ∧ k = key ns is ∧ ∀ s, s < is → ¬ Fit ns t s) ∨
 (g = 10 ∧ is = 0 ∧ k = 0 ∧ (∀ s, s < ns.length → ¬ Fit ns t s) ∧ ∃ s, s < ns.length ∧ Beg ns t s) ∨
 (g = 32 ∧ is = 0 ∧ k = 0 ∧ (∀ s, s < ns.length → ¬ Fit ns t s) ∧ ∀ s, s < ns.length → ¬ Beg ns t s)

theorem rowOf_length (ns : List Nat) (s : Nat) : (rowOf ns s).length = key ns s := rowB_length _ _
theorem rowOf_n2 (ns : List Nat) (s : Nat) : n2 (rowOf ns s) = rv (key ns s) (codeOf ns s) := rowB_n2 _ _
theorem rowOf_bit (ns : List Nat) (s : Nat) : ∀ b ∈ rowOf ns s, b < 2 := rowB_bit _ _

theorem left_n2 (bs : List Nat) (hb : ∀ b ∈ bs, b < 256) (c n : Nat) (h : c + n ≤ 8 * bs.length) : n2 (((ofBytes bs).drop c).take n) = n256 bs / 2 ^ c % 2 ^ n := by
 rw [n2_part (ofBytes bs) (ofBytes_lt bs) c n (by rw [ofBytes_length]; exact h), ofBytes_n2 bs hb]

theorem left_length (bs : List Nat) (c : Nat) : ((ofBytes bs).drop c).length = 8 * bs.length - c := by rw [List.length_drop, ofBytes_length]

theorem fit_iff {ns : List Nat} {s : Nat} (hm : measure ns ≤ 32768) (hs : s ∈ ris ns) (h15 : key ns s ≤ 15) (bs : List Nat) (hb : ∀ b ∈ bs, b < 256) (c : Nat) (hc : c ≤ 8 * bs.length) :
  Fit ns ((ofBytes bs).drop c) s ↔ key ns s ≤ 8 * bs.length - c ∧ rv (key ns s) (n256 bs / 2 ^ c) = codeOf ns s := by
 have hlen := left_length bs c
 have hcl := code_lt2 hm hs h15
 unfold Fit
 rw [List.prefix_iff_eq_take, rowOf_length]
 constructor
 ·rintro ⟨_, h⟩
  have hl := congrArg List.length h
  rw [rowOf_length, List.length_take, hlen] at hl
  have hk : key ns s ≤ 8 * bs.length - c := by omega
  refine ⟨hk, ?_⟩
  have h2 := congrArg n2 h
  rw [rowOf_n2, left_n2 bs hb c _ (by omega)] at h2
  rw [← rv_mod (key ns s) (key ns s) _ (Nat.le_refl _), ← h2, rv_rv, Nat.mod_eq_of_lt hcl]
 ·rintro ⟨hk, h⟩
  refine ⟨(mem_ris.1 hs).2, ?_⟩
  refine n2_inj _ _ (by rw [rowOf_length, List.length_take, hlen]; omega) (rowOf_bit ns s) (fun x hx => ofBytes_lt bs x (List.mem_of_mem_drop (List.mem_of_mem_take hx))) ?_
  rw [rowOf_n2, left_n2 bs hb c _ (by omega), ← h, rv_rv]

theorem beg_of {ns : List Nat} {s : Nat} (hs : s ∈ ris ns) (bs : List Nat) (hb : ∀ b ∈ bs, b < 256) (c : Nat) (hc : c ≤ 8 * bs.length) (hk : 8 * bs.length - c < key ns s) (h : rv (key ns s) (n256 bs / 2 ^ c) = codeOf ns s) (hZ : n256 bs / 2 ^ c < 2 ^ (8 * bs.length - c)) : Beg ns ((ofBytes bs).drop c) s := by
 refine ⟨(mem_ris.1 hs).2, ?_⟩
 have hlen := left_length bs c
 have e : rowOf ns s = (ofBytes bs).drop c ++ List.replicate (key ns s - (8 * bs.length - c)) 0 := by
  refine n2_inj _ _ (by rw [rowOf_length, List.length_append, hlen, List.length_replicate]; omega) (rowOf_bit ns s) ?_ ?_
  ·intro x hx
   rcases List.mem_append.1 hx with hx | hx
   ·exact ofBytes_lt bs x (List.mem_of_mem_drop hx)
   ·have := List.eq_of_mem_replicate hx; omega
  ·have h1 := left_n2 bs hb c (8 * bs.length - c) (by omega)
   rw [List.take_of_length_le (by omega), Nat.mod_eq_of_lt hZ] at h1
   rw [n2_align, h1, rowOf_n2, ← h, rv_rv, Nat.mod_eq_of_lt (Nat.lt_of_lt_of_le hZ (Nat.pow_le_pow_right (by omega) (by omega)))]
 rw [e]
 exact List.prefix_append _ _

theorem find_place (ns : List Nat) (X n : Nat) (hn : n ≤ (ris ns).length) (h : X < sumTo ns n) : ∃ k, k < n ∧ sumTo ns k ≤ X ∧ X < sumTo ns (k + 1) := by
 induction n with
 | zero => simp [sumTo] at h
 | succ n ih =>
  by_cases h1 : X < sumTo ns n
  ·obtain ⟨k, hk, h2⟩ := ih (by omega) h1
   exact ⟨k, by omega, h2⟩
  ·exact ⟨n, by omega, by omega, h⟩

theorem alone_mx {ns : List Nat} (hu : (ris ns).length = 1) (hm : measure ns = 16384) (h15 : ∀ s, key ns s ≤ 15) : mxL ns ≤ 1 := by
 rcases (foldl_max ns 0).2.2 with h | h
 ·unfold mxL; omega
 ·obtain ⟨s, hs, e⟩ := List.getElem_of_mem h
  have ek : key ns s = mxL ns := by rw [key_get hs]; exact e
  by_cases h0 : mxL ns = 0
  ·omega
  ·have hr : s ∈ ris ns := mem_ris.2 ⟨hs, by omega⟩
   obtain ⟨k, hk, rfl, a1, a2⟩ := place_of hr
   have hk0 : k = 0 := by omega
   subst hk0
   have h1 := sumTo_all ns
   rw [hu] at h1
   have h2 : sumTo ns 0 = 0 := by simp [sumTo]
   have h3 : 2 ^ (15 - key ns (ris ns)[0]) = 16384 := by
    have : sumTo ns (0 + 1) = measure ns := h1
    omega
   have h4 := h15 (ris ns)[0]
   refine Classical.byContradiction (fun hc => ?_)
   have h5 : 2 ^ (15 - key ns (ris ns)[0]) ≤ 2 ^ 13 := Nat.pow_le_pow_right (by omega) (by omega)
   have h6 : (2 : Nat) ^ 13 = 8192 := by decide
   omega

theorem usedN_ris2 (ns : List Nat) : usedN ns = (ris ns).length := by
 have h : ∀ i, i ≤ ns.length → usedN (ns.take i) = (usedTo ns i).length := by
  intro i
  induction i with
  | zero => intro _; simp [usedN, usedTo]
  | succ i ih =>
   intro hi
   rw [List.take_succ_eq_append_getElem (by omega), usedN_snoc, ih (by omega), usedTo_succ, List.length_append, ← key_get (by omega)]
   by_cases h : key ns i = 0 <;> simp [h]
 have h2 := h ns.length (Nat.le_refl _)
 rw [List.take_length] at h2
 rw [h2, (ris_perm ns).length_eq]
 rfl

theorem next_same {zs : List Int} {ns : List Nat} (hg : Good zs ns) (bs : List Nat) (hb : ∀ b ∈ bs, b < 256) (c : Nat) (hc : c ≤ 8 * bs.length) (hZ : n256 bs / 2 ^ c < 2 ^ (8 * bs.length - c)) {sym long er is k g : Nat}
  (ha : Ans ns (min (8 * bs.length - c) (mxL ns)) (n256 bs / 2 ^ c % 2 ^ (min (8 * bs.length - c) (mxL ns))) sym long er) (hr : RNext ns ((ofBytes bs).drop c) is k g) : is = sym ∧ k = long ∧ g = er := by
 have h15 := hg.key_le
 have hm := hg.measure_le
 have hmx : mxL ns ≤ 15 := mx_le ns 15 hg.le
 have hlen := left_length bs c
 have hfit0 : ∀ s, s < ns.length → Fit ns ((ofBytes bs).drop c) s → er = 0 ∧ sym = s ∧ long = key ns s := by
  intro s hs hf
  have hsr : s ∈ ris ns := mem_ris.2 ⟨hs, hf.1⟩
  obtain ⟨h1, h2⟩ := (fit_iff hm hsr (h15 s) bs hb c hc).1 hf
  exact Ans.unique h15 hZ ha hmx hsr h1 h2
 have hok0 : er = 0 → ∃ s, s < ns.length ∧ Fit ns ((ofBytes bs).drop c) s := by
  intro e0
  rcases ha with ⟨_, hs, hlong, hle, hrv⟩ | ⟨e, _⟩ | ⟨e, _⟩
  ·refine ⟨sym, (mem_ris.1 hs).1, (fit_iff hm hs (h15 sym) bs hb c hc).2 ⟨by omega, ?_⟩⟩
   rw [rv_mod _ _ _ hle, hlong] at hrv
   exact hrv
  ·omega
  ·omega
 have hbeg10 : er = 10 → ∃ s, s < ns.length ∧ Beg ns ((ofBytes bs).drop c) s := by
  intro e10
  rcases ha with ⟨e, _⟩ | ⟨_, _, _, hlt, hsum⟩ | ⟨e, _⟩
  ·omega
  ·have hmin : min (8 * bs.length - c) (mxL ns) = 8 * bs.length - c := by omega
   rw [hmin, rv_mod _ _ _ (Nat.le_refl _), ← rv_pad _ 15 _ hZ (by omega)] at hsum
   rw [hmin] at hlt
   have hX : rv 15 (n256 bs / 2 ^ c) < measure ns := by
    have hk := hg.ok
    unfold chkN at hk
    have hall : rv 15 (n256 bs / 2 ^ c) < 32768 := rv_lt 15 _
    split at hk
    ·omega
    ·split at hk
     ·omega
     ·split at hk
      ·rename_i _ _ h3
       have h4 := alone_mx (by rw [← usedN_ris2]; exact h3.1) h3.2 h15
       have h5 : 8 * bs.length - c = 0 := by omega
       rw [rv_pad _ 15 _ hZ (by omega), h5]
       simp [rv, h3.2]
      ·omega
   rw [← sumTo_all] at hX
   obtain ⟨i, hi, h1, h2⟩ := find_place ns _ _ (Nat.le_refl _) hX
   have hmem : (ris ns)[i] ∈ ris ns := List.getElem_mem hi
   have hkey : 8 * bs.length - c < key ns (ris ns)[i] := by
    refine Classical.byContradiction (fun hcon => ?_)
    have h3 := (upN_index ns (8 * bs.length - c) i hi).1 (by omega)
    have h4 := sumTo_le (ns := ns) (show i + 1 ≤ upN ns (8 * bs.length - c) from h3)
    omega
   refine ⟨(ris ns)[i], (mem_ris.1 hmem).1, beg_of hmem bs hb c hc hkey ?_ hZ⟩
   refine (fits_iff hmem (h15 _)).2 ?_
   rw [start_at ns i hi]
   have h5 := sumTo_succ ns i hi
   rw [uk, unit, if_neg (mem_ris.1 hmem).2] at h5
   omega
  ·omega
 have hno32 : er = 32 → ∀ s, s < ns.length → ¬ Beg ns ((ofBytes bs).drop c) s := by
  intro e32 s hs hbg
  rcases ha with ⟨e, _⟩ | ⟨e, _⟩ | ⟨_, _, _, hh, _⟩
  ·omega
  ·omega
  ·have h1 := hbg.2.length_le
   rw [rowOf_length, hlen] at h1
   have h2 := key_le_mx ns s
   have e1 : (ofBytes bs).drop c = rowOf ns s := hbg.2.eq_of_length (by rw [rowOf_length, hlen]; omega)
   have h3 := hfit0 s hs ⟨hbg.1, by rw [e1]; exact List.prefix_refl _⟩
   omega
 have hcases : er = 0 ∨ (er = 10 ∧ sym = 0 ∧ long = 0) ∨ (er = 32 ∧ sym = 0 ∧ long = 0) := by
  rcases ha with ⟨e, _⟩ | ⟨e, e1, e2, _⟩ | ⟨e, e1, e2, _⟩
  ·exact .inl e
  ·exact .inr (.inl ⟨e, e1, e2⟩)
  ·exact .inr (.inr ⟨e, e1, e2⟩)
 rcases hr with ⟨rfl, hi, hf, rfl, _⟩ | ⟨rfl, rfl, rfl, hnf, ⟨s, hs, hbg⟩⟩ | ⟨rfl, rfl, rfl, hnf, hnb⟩
 ·obtain ⟨h1, h2, h3⟩ := hfit0 is hi hf
  exact ⟨h2.symm, h3.symm, h1.symm⟩
 ·rcases hcases with h | ⟨h1, h2, h3⟩ | ⟨h1, _⟩
  ·obtain ⟨t, ht, hf⟩ := hok0 h
   exact absurd hf (hnf t ht)
  ·exact ⟨h2.symm, h3.symm, h1.symm⟩
  ·exact absurd hbg (hno32 h1 s hs)
 ·rcases hcases with h | ⟨h1, _⟩ | ⟨h1, h2, h3⟩
  ·obtain ⟨t, ht, hf⟩ := hok0 h
   exact absurd hf (hnf t ht)
  ·obtain ⟨s, hs, hbg⟩ := hbeg10 h1
   exact absurd hbg (hnb s hs)
  ·exact ⟨h2.symm, h3.symm, h1.symm⟩

def fitB (ns t : List Nat) (s : Nat) : Bool := key ns s != 0 && (rowOf ns s).isPrefixOf t
def begB (ns t : List Nat) (s : Nat) : Bool := key ns s != 0 && t.isPrefixOf (rowOf ns s)
def nextF (ns t : List Nat) : Nat × Nat × Nat :=
 match (List.range ns.length).find? (fitB ns t) with
 | some s => (s, key ns s, 0)
 | none => if (List.range ns.length).any (begB ns t) = true then (0, 0, 10) else (0, 0, 32)

theorem fitB_iff (ns t : List Nat) (s : Nat) : fitB ns t s = true ↔ Fit ns t s := by simp [fitB, Fit, List.isPrefixOf_iff_prefix]
theorem begB_iff (ns t : List Nat) (s : Nat) : begB ns t s = true ↔ Beg ns t s := by simp [begB, Beg, List.isPrefixOf_iff_prefix]

theorem nextF_is (ns t : List Nat) : RNext ns t (nextF ns t).1 (nextF ns t).2.1 (nextF ns t).2.2 := by
 unfold nextF
 split
 ·rename_i s h
  rw [List.find?_range_eq_some] at h
  obtain ⟨h1, h2, h3⟩ := h
  refine .inl ⟨rfl, by simpa using h2, (fitB_iff ns t s).1 h1, rfl, fun j hj hf => ?_⟩
  have := h3 j hj
  rw [(fitB_iff ns t j).2 hf] at this
  cases this
 ·rename_i h
  rw [List.find?_range_eq_none] at h
  have hnf : ∀ s, s < ns.length → ¬ Fit ns t s := fun s hs hf => by
   have := h s hs
   rw [(fitB_iff ns t s).2 hf] at this
   cases this
  split
  ·rename_i h2
   obtain ⟨s, hs, hb⟩ := List.any_eq_true.1 h2
   exact .inr (.inl ⟨rfl, rfl, rfl, hnf, s, by simpa using hs, (begB_iff ns t s).1 hb⟩)
  ·rename_i h2
   refine .inr (.inr ⟨rfl, rfl, rfl, hnf, fun s hs hb => h2 ?_⟩)
   exact List.any_eq_true.2 ⟨s, by simpa using hs, (begB_iff ns t s).2 hb⟩

theorem RNext.one {ns t : List Nat} {a b c a' b' c' : Nat} (h : RNext ns t a b c) (h' : RNext ns t a' b' c') : a = a' ∧ b = b' ∧ c = c' := by
 rcases h with ⟨rfl, h1, h2, rfl, h3⟩ | ⟨rfl, rfl, rfl, h1, h2⟩ | ⟨rfl, rfl, rfl, h1, h2⟩ <;> rcases h' with ⟨rfl, k1, k2, rfl, k3⟩ | ⟨rfl, rfl, rfl, k1, k2⟩ | ⟨rfl, rfl, rfl, k1, k2⟩
 ·have e : a = a' := by
   rcases Nat.lt_trichotomy a a' with h | h | h
   ·exact absurd h2 (k3 a h)
   ·exact h
   ·exact absurd k2 (h3 a' h)
  subst e
  exact ⟨rfl, rfl, rfl⟩
 ·exact absurd h2 (k1 a h1)
 ·exact absurd h2 (k1 a h1)
 ·exact absurd k2 (h1 a' k1)
 ·exact ⟨rfl, rfl, rfl⟩
 ·obtain ⟨s, hs, hb⟩ := h2
  exact absurd hb (k2 s hs)
 ·exact absurd k2 (h1 a' k1)
 ·obtain ⟨s, hs, hb⟩ := k2
  exact absurd hb (h2 s hs)
 ·exact ⟨rfl, rfl, rfl⟩

theorem nextF_of {ns t : List Nat} {is k g : Nat} (h : RNext ns t is k g) : nextF ns t = (is, k, g) := by
 obtain ⟨h1, h2, h3⟩ := (nextF_is ns t).one h
 exact Prod.ext h1 (Prod.ext h2 h3)

end Go.Proofs.YtggcbnhckcenmabGreatDoor

namespace Go.Proofs.YtggcbnhckcenmabGreatDoor

def lastN (l : List Nat) : Nat := l.getD (l.length - 1) 0

theorem lastN_mem (l : List Nat) (h : 0 < l.length) : lastN l ∈ l := by
 have hl : l.length - 1 < l.length := by omega
 have e : lastN l = l[l.length - 1] := by simp [lastN, List.getD, hl]
 rw [e]
 exact List.getElem_mem _

def saysM (s : Int × Int) (l : List Nat) : Option (Nat × Nat) :=
 if 0 ≤ s.1 ∧ s.1 ≤ 15 ∧ s.2 = 0 then some (s.1.toNat, 1)
 else if s.1 = 16 ∧ 0 ≤ s.2 ∧ s.2 ≤ 3 ∧ 0 < l.length then some (lastN l, s.2.toNat + 3)
 else if s.1 = 17 ∧ 0 ≤ s.2 ∧ s.2 ≤ 7 then some (0, s.2.toNat + 3)
 else if s.1 = 18 ∧ 0 ≤ s.2 ∧ s.2 ≤ 127 then some (0, s.2.toNat + 11)
 else none

theorem saysM_le {s : Int × Int} {l : List Nat} {v k : Nat} (h : saysM s l = some (v, k)) (hl : ∀ x ∈ l, x ≤ 15) : v ≤ 15 ∧ 1 ≤ k ∧ k ≤ 138 := by
 unfold saysM at h
 split at h
 ·simp at h; omega
 ·split at h
  ·simp at h
   obtain ⟨rfl, rfl⟩ := h
   rename_i _ h2
   refine ⟨?_, by omega, by omega⟩
   exact hl _ (lastN_mem l h2.2.2.2)
  ·split at h
   ·simp at h; omega
   ·split at h
    ·simp at h; omega
    ·cases h

def withM (l : List Nat) (s : Int × Int) (n : Nat) : Option (List Nat) :=
 match saysM s l with
 | none => none
 | some (v, k) => if n < l.length + k then none else some (l ++ List.replicate k v)

theorem withM_grows {l m : List Nat} {s : Int × Int} {n : Nat} (h : withM l s n = some m) (hl : ∀ x ∈ l, x ≤ 15) : l.length < m.length ∧ m.length ≤ n ∧ ∀ x ∈ m, x ≤ 15 := by
 unfold withM at h
 split at h
 ·cases h
 ·rename_i v k hs
  have h1 := saysM_le hs hl
  split at h
  ·cases h
  ·simp only [Option.some.injEq] at h
   subst h
   rw [List.length_append, List.length_replicate]
   refine ⟨by omega, by omega, fun x hx => ?_⟩
   rcases List.mem_append.1 hx with hx | hx
   ·exact hl x hx
   ·have := List.eq_of_mem_replicate hx; omega

def runM (n : Nat) : List Nat → List (Int × Int) → Option (List Nat)
 | l, [] => some l
 | l, s :: r => match withM l s n with
  | none => none
  | some m => runM n m r

def zerosM (n : Nat) : List (Int × Int) :=
 if 11 ≤ n then (18, ((min n 138 - 11 : Nat) : Int)) :: zerosM (n - min n 138)
 else if 3 ≤ n then [(17, ((n - 3 : Nat) : Int))] else List.replicate n (0, 0)
termination_by n
decreasing_by omega

def againM (v n : Nat) : List (Int × Int) :=
 if 3 ≤ n then (16, ((min n 6 - 3 : Nat) : Int)) :: againM v (n - min n 6) else List.replicate n ((v : Int), 0)
termination_by n
decreasing_by omega

def sayM (v n : Nat) : List (Int × Int) := if v = 0 then zerosM n else ((v : Int), 0) :: againM v (n - 1)

def frontN (v : Nat) (l : List Nat) : Nat := (l.takeWhile (fun x => decide (x = v))).length

theorem frontN_le (v : Nat) (l : List Nat) : frontN v l ≤ l.length := by
 exact (List.takeWhile_prefix _).length_le

def packM : List Nat → List (Int × Int)
 | [] => []
 | v :: r => sayM v (1 + frontN v r) ++ packM (r.drop (frontN v r))
termination_by l => l.length
decreasing_by simp; omega

theorem packM_cons (v : Nat) (r : List Nat) : packM (v :: r) = sayM v (1 + frontN v r) ++ packM (r.drop (frontN v r)) := by rw [packM]

def packA (zs : List Int) : Except Nat (List (Int × Int)) :=
 if zs.length ≤ 316 ∧ ∀ z ∈ zs, 0 ≤ z ∧ z ≤ 15 then .ok (packM (zs.map Int.toNat)) else .error 1

def xbits (sym : Nat) : Nat := if sym = 16 then 2 else if sym = 17 then 3 else if sym = 18 then 7 else 0

def numAt (ls : List Nat) (c n : Nat) : Nat := n2 ((ls.drop c).take n)

def stepF (ns ls : List Nat) (c : Nat) : Except Nat ((Nat × Nat) × Nat) :=
 if (nextF ns (ls.drop c)).2.2 ≠ 0 then .error (nextF ns (ls.drop c)).2.2
 else if ls.length < c + (nextF ns (ls.drop c)).2.1 + xbits (nextF ns (ls.drop c)).1 then .error 10
 else .ok (((nextF ns (ls.drop c)).1, numAt ls (c + (nextF ns (ls.drop c)).2.1) (xbits (nextF ns (ls.drop c)).1)), c + (nextF ns (ls.drop c)).2.1 + xbits (nextF ns (ls.drop c)).1)

def bodyF (ns ls : List Nat) (N : Nat) : Nat → List Nat → Nat → Except Nat (List Nat × Nat)
 | 0, l, c => .ok (l, c)
 | f + 1, l, c =>
  if N ≤ l.length then .ok (l, c)
  else match stepF ns ls c with
   | .error e => .error e
   | .ok (s, c') => match withM l ((s.1 : Int), (s.2 : Int)) N with
    | none => .error 41
    | some m => bodyF ns ls N f m c'

def ord : List Nat := [16, 17, 18, 0, 8, 7, 9, 6, 10, 5, 11, 4, 12, 3, 13, 2, 14, 1, 15]

def codesF (ls : List Nat) (c : Nat) : Nat → List Nat
 | 0 => List.replicate 19 0
 | i + 1 => (codesF ls c i).set (ord.getD i 0) (numAt ls (c + 3 * i) 3)

theorem codesF_length (ls : List Nat) (c i : Nat) : (codesF ls c i).length = 19 := by
 induction i with
 | zero => simp [codesF]
 | succ i ih => simp [codesF, ih]

theorem numAt_lt (ls : List Nat) (h : ∀ b ∈ ls, b < 2) (c n : Nat) : numAt ls c n < 2 ^ n := n2_take_lt ls h c n

theorem codesF_le (ls : List Nat) (h : ∀ b ∈ ls, b < 2) (c i : Nat) : ∀ x ∈ codesF ls c i, x ≤ 7 := by
 induction i with
 | zero => intro x hx; have := List.eq_of_mem_replicate hx; omega
 | succ i ih =>
  intro x hx
  rcases List.mem_or_eq_of_mem_set hx with hx | rfl
  ·exact ih x hx
  ·have := numAt_lt ls h (c + 3 * i) 3; omega

def readF (ls : List Nat) (a : Nat) : Except Nat ((List Nat × List Nat) × Nat) :=
 if ls.length < a + 14 then .error 10
 else if 286 < numAt ls a 5 + 257 ∨ 30 < numAt ls (a + 5) 5 + 1 then .error 40
 else if ls.length < a + 14 + 3 * (numAt ls (a + 10) 4 + 4) then .error 10
 else if chkN (codesF ls (a + 14) (numAt ls (a + 10) 4 + 4)) ≠ 0 then .error (chkN (codesF ls (a + 14) (numAt ls (a + 10) 4 + 4)))
 else match bodyF (codesF ls (a + 14) (numAt ls (a + 10) 4 + 4)) ls (numAt ls a 5 + 257 + (numAt ls (a + 5) 5 + 1)) (numAt ls a 5 + 257 + (numAt ls (a + 5) 5 + 1)) [] (a + 14 + 3 * (numAt ls (a + 10) 4 + 4)) with
  | .error e => .error e
  | .ok (l, c) => .ok ((l.take (numAt ls a 5 + 257), l.drop (numAt ls a 5 + 257)), c - a)

end Go.Proofs.YtggcbnhckcenmabGreatDoor

namespace Go.Proofs.YtggcbnhckcenmabGreatDoor
def usedB (l : List Nat) : Bool := l.any (fun n => n != 0)

def fixL : List Nat := List.replicate 144 8 ++ List.replicate 112 9 ++ List.replicate 24 7 ++ List.replicate 8 8
def fixD : List Nat := List.replicate 32 5

def head5 (ls : List Nat) (c : Nat) : Except Nat ((List Nat × List Nat) × Nat) :=
 match readF ls c with
 | .error e => .error (if e = 10 then 55 else 52)
 | .ok ((l, d), n) => if l.getD 256 0 = 0 ∨ chkN l ≠ 0 ∨ (usedB d = true ∧ chkN d ≠ 0) then .error 52 else .ok ((l, d), n)

end Go.Proofs.YtggcbnhckcenmabGreatDoor

namespace Go.Proofs.YtggcbnhckcenmabGreatDoor

theorem zerosM_big (n : Nat) (h : 11 ≤ n) : zerosM n = (18, ((min n 138 - 11 : Nat) : Int)) :: zerosM (n - min n 138) := by
 rw [zerosM, if_pos h]
theorem zerosM_mid (n : Nat) (h : n < 11) (h3 : 3 ≤ n) : zerosM n = [(17, ((n - 3 : Nat) : Int))] := by
 rw [zerosM, if_neg (by omega), if_pos h3]
theorem zerosM_few (n : Nat) (h3 : n < 3) : zerosM n = List.replicate n (0, 0) := by
 rw [zerosM, if_neg (by omega), if_neg (by omega)]
theorem againM_big (v n : Nat) (h : 3 ≤ n) : againM v n = (16, ((min n 6 - 3 : Nat) : Int)) :: againM v (n - min n 6) := by
 rw [againM, if_pos h]
theorem againM_few (v n : Nat) (h : n < 3) : againM v n = List.replicate n ((v : Int), 0) := by
 rw [againM, if_neg (by omega)]

theorem zerosM_len (n : Nat) : (zerosM n).length ≤ n := by
 induction n using Nat.strongRecOn with
 | ind n ih =>
  by_cases h : 11 ≤ n
  ·rw [zerosM_big n h, List.length_cons]
   have := ih (n - min n 138) (by omega)
   omega
  ·by_cases h3 : 3 ≤ n
   ·rw [zerosM_mid n (by omega) h3]; simp; omega
   ·rw [zerosM_few n (by omega)]; simp

theorem againM_len (v n : Nat) : (againM v n).length ≤ n := by
 induction n using Nat.strongRecOn with
 | ind n ih =>
  by_cases h : 3 ≤ n
  ·rw [againM_big v n h, List.length_cons]
   have := ih (n - min n 6) (by omega)
   omega
  ·rw [againM_few v n (by omega)]; simp

theorem sayM_len (v n : Nat) (h : 1 ≤ n) : (sayM v n).length ≤ n := by
 unfold sayM
 split
 ·exact zerosM_len n
 ·rw [List.length_cons]; have := againM_len v (n - 1); omega

theorem packM_len (l : List Nat) : (packM l).length ≤ l.length := by
 induction hn : l.length using Nat.strongRecOn generalizing l with
 | ind n ih =>
  cases l with
  | nil => simp [packM]
  | cons v r =>
   rw [packM_cons, List.length_append]
   have h1 := sayM_len v (1 + frontN v r) (by omega)
   have h2 := frontN_le v r
   have h3 := ih (r.drop (frontN v r)).length (by simp at hn ⊢; omega) _ rfl
   simp at hn h3
   omega

theorem frontN_is (v : Nat) (r : List Nat) (m : Nat) (h1 : ∀ j (_ : j < r.length), j < m → r[j] = v) (hm : m ≤ r.length) (h2 : ∀ h : m < r.length, r[m] ≠ v) : frontN v r = m := by
 induction r generalizing m with
 | nil => simp at hm; subst hm; rfl
 | cons a r ih =>
  cases m with
  | zero =>
   have := h2 (by simp)
   simp at this
   simp [frontN, this]
  | succ m =>
   have ha := h1 0 (by simp) (by omega)
   simp at ha
   have h3 := ih m (fun j hj hjm => h1 (j + 1) (by simpa using hj) (by omega)) (by simpa using hm) (fun h => h2 (by simpa using h))
   unfold frontN at h3 ⊢
   rw [List.takeWhile_cons, if_pos (by simp [ha]), List.length_cons, h3]

theorem frontN_all (v : Nat) (r : List Nat) (j : Nat) (hj : j < r.length) (h : j < frontN v r) : r[j] = v := by
 induction r generalizing j with
 | nil => simp at hj
 | cons a r ih =>
  unfold frontN at h
  rw [List.takeWhile_cons] at h
  by_cases ha : a = v
  ·cases j with
   | zero => simpa using ha
   | succ j =>
    rw [if_pos (by simp [ha]), List.length_cons] at h
    simpa using ih j (by simpa using hj) (by unfold frontN; omega)
  ·rw [if_neg (by simp [ha])] at h
   simp at h

theorem front_split (v : Nat) (r : List Nat) : v :: r = List.replicate (1 + frontN v r) v ++ r.drop (frontN v r) := by
 have h := frontN_le v r
 rw [Nat.add_comm, List.replicate_succ, List.cons_append]
 congr 1
 have e : r.take (frontN v r) = List.replicate (frontN v r) v := by
  refine List.ext_getElem (by simp; omega) (fun j h1 h2 => ?_)
  simp at h1
  rw [List.getElem_take, List.getElem_replicate, frontN_all v r j (by omega) (by omega)]
 rw [← e, List.take_append_drop]

theorem withM_ok {l : List Nat} {s : Int × Int} {n v k : Nat} (h : saysM s l = some (v, k)) (hf : l.length + k ≤ n) : withM l s n = some (l ++ List.replicate k v) := by
 unfold withM
 rw [h]
 simp only
 rw [if_neg (by omega)]

theorem runM_append (n : Nat) (l : List Nat) (ss tt : List (Int × Int)) : runM n l (ss ++ tt) = (runM n l ss).bind (fun m => runM n m tt) := by
 induction ss generalizing l with
 | nil => rfl
 | cons a r ih =>
  simp only [List.cons_append, runM]
  cases withM l a n with
  | none => rfl
  | some m => exact ih m

theorem runM_one (n : Nat) (l : List Nat) (s : Int × Int) : runM n l [s] = withM l s n := by
 simp only [runM]
 cases withM l s n <;> rfl

theorem says_plain (v : Nat) (l : List Nat) (h : v ≤ 15) : saysM ((v : Int), 0) l = some (v, 1) := by
 unfold saysM
 rw [if_pos ⟨by omega, by simp only; omega, rfl⟩]
 simp

theorem runM_plain (n v k : Nat) (l : List Nat) (h : v ≤ 15) (hf : l.length + k ≤ n) : runM n l (List.replicate k ((v : Int), 0)) = some (l ++ List.replicate k v) := by
 induction k generalizing l with
 | zero => simp [runM]
 | succ k ih =>
  rw [List.replicate_succ, runM, withM_ok (says_plain v l h) (by omega)]
  simp only
  rw [ih _ (by simp; omega), List.append_assoc, List.replicate_append_replicate, Nat.add_comm]

theorem runM_zeros (n m : Nat) (l : List Nat) (hf : l.length + m ≤ n) : runM n l (zerosM m) = some (l ++ List.replicate m 0) := by
 induction m using Nat.strongRecOn generalizing l with
 | ind m ih =>
  by_cases h : 11 ≤ m
  ·rw [zerosM_big m h, runM]
   have hs : saysM (18, ((min m 138 - 11 : Nat) : Int)) l = some (0, min m 138) := by
    unfold saysM
    rw [if_neg (by simp), if_neg (by simp), if_neg (by simp), if_pos ⟨rfl, by omega, by omega⟩]
    simp; omega
   rw [withM_ok hs (by omega)]
   simp only
   rw [ih (m - min m 138) (by omega) _ (by simp; omega), List.append_assoc, List.replicate_append_replicate, show min m 138 + (m - min m 138) = m by omega]
  ·by_cases h3 : 3 ≤ m
   ·rw [zerosM_mid m (by omega) h3, runM_one]
    have hs : saysM (17, ((m - 3 : Nat) : Int)) l = some (0, m) := by
     unfold saysM
     rw [if_neg (by simp), if_neg (by simp), if_pos ⟨rfl, by omega, by omega⟩]
     simp; omega
    exact withM_ok hs hf
   ·rw [zerosM_few m (by omega)]
    exact runM_plain n 0 m l (by omega) hf

theorem runM_again (n v m : Nat) (l : List Nat) (h15 : v ≤ 15) (hl : 0 < l.length) (hv : lastN l = v) (hf : l.length + m ≤ n) : runM n l (againM v m) = some (l ++ List.replicate m v) := by
 induction m using Nat.strongRecOn generalizing l with
 | ind m ih =>
  by_cases h : 3 ≤ m
  ·rw [againM_big v m h, runM]
   have hs : saysM (16, ((min m 6 - 3 : Nat) : Int)) l = some (v, min m 6) := by
    unfold saysM
    rw [if_neg (by simp), if_pos ⟨rfl, by omega, by omega, hl⟩, hv]
    simp; omega
   rw [withM_ok hs (by omega)]
   simp only
   have hlast : lastN (l ++ List.replicate (min m 6) v) = v := by
    have hk : 0 < min m 6 := by omega
    generalize min m 6 = k at hk ⊢
    obtain ⟨k, rfl⟩ : ∃ j, k = j + 1 := ⟨k - 1, by omega⟩
    unfold lastN
    rw [List.replicate_succ', ← List.append_assoc]
    simp
   rw [ih (m - min m 6) (by omega) _ (by simp; omega) hlast (by simp; omega), List.append_assoc, List.replicate_append_replicate, show min m 6 + (m - min m 6) = m by omega]
  ·rw [againM_few v m (by omega)]
   exact runM_plain n v m l h15 hf

theorem runM_say (n v m : Nat) (l : List Nat) (h15 : v ≤ 15) (hm : 1 ≤ m) (hf : l.length + m ≤ n) : runM n l (sayM v m) = some (l ++ List.replicate m v) := by
 unfold sayM
 split
 ·rename_i h0
  subst h0
  exact runM_zeros n m l hf
 ·rw [runM, withM_ok (says_plain v l h15) (by omega)]
  simp only
  have hlast : lastN (l ++ List.replicate 1 v) = v := by simp [lastN]
  rw [runM_again n v (m - 1) _ h15 (by simp) hlast (by simp; omega), List.append_assoc, List.replicate_append_replicate, show 1 + (m - 1) = m by omega]

theorem runM_pack (n : Nat) (r : List Nat) (l : List Nat) (h15 : ∀ x ∈ r, x ≤ 15) (hf : l.length + r.length ≤ n) : runM n l (packM r) = some (l ++ r) := by
 induction hn : r.length using Nat.strongRecOn generalizing r l with
 | ind k ih =>
  cases r with
  | nil => simp [packM, runM]
  | cons v r =>
   have hfr := frontN_le v r
   rw [packM_cons, runM_append, runM_say n v _ l (h15 v (by simp)) (by omega) (by simp at hf; omega)]
   simp only [Option.bind_some]
   rw [ih (r.drop (frontN v r)).length (by simp at hn ⊢; omega) _ _ (fun x hx => h15 x (List.mem_cons_of_mem _ (List.mem_of_mem_drop hx))) (by simp at hf ⊢; omega) rfl, List.append_assoc, ← front_split]

end Go.Proofs.YtggcbnhckcenmabGreatDoor

namespace Go.Proofs.YtggcbnhckcenmabGreatDoor
open Go.RowKit

def stC (s : Int × Int) : List Value := [.int .i64 s.1, .int .i64 s.2]

theorem stC_ok : EncOk stC 2 := ⟨fun _ => rfl, fun x u hu => by simp [stC] at hu; rcases hu with rfl | rfl <;> rfl, by decide⟩

abbrev StRow (B : Nat) := RowC B 159 2 stC
abbrev StSrc := @SrcC (Int × Int) 2 stC

theorem Tryz.infoSt : (Tryz.prog.info? 159).map (fun i => (i.zero, i.size, i.bytes)) = some (some (.agg #[.int .i64 0, .int .i64 0]), 2, 16) := by kernel_rfl

theorem step_new (w : World) (x y : Int) : CellsAt (w.alloc (.cells #[.int .i64 x, .int .i64 y] 159)) ⟨w.heap.size, 0, none⟩ ([(x, y)].flatMap stC) := by
 intro j u hu
 match j, hu with
 | 0, hu => simp [stC] at hu; subst hu; simp [addAt]
 | 1, hu => simp [stC] at hu; subst hu; simp [addAt]
 | j + 2, hu => simp [stC] at hu

theorem wpList_append_step {ops : Array Oper} {rest : List Oper} {o : Oper} {a : Act} {Q : Exit → Act → World → Prop} (w : World) (B : Nat) (hgd : o.guard = none) (s x : Operand)
  (ho : o.op = .call { callee := .builtin .append, args := #[s, x], argTypes := #[119, 119] })
  (v : Value) (ss : List (Int × Int)) (hs : a.eval s = v) (hrow : StRow B w v ss) (ad : Addr) (y : Int × Int) (hx : a.eval x = .slice (some ad) 1 1) (hcs : CellsAt w ad ([y].flatMap stC)) (hlen : ss.length + 1 ≤ 1000000000) (hB : B ≤ w.heap.size)
  (h : ∀ v' w', StRow B w' v' (ss ++ [y]) → w.grownBy w' v.ownBlock → wpList Tryz.prog ops Q rest (a.put o.dst v') w') : wpList Tryz.prog ops Q (o :: rest) a w :=
 wpList_append_c w stC 2 stC_ok (by decide) B 119 159 (.agg #[.int .i64 0, .int .i64 0]) 16 Tryz.underlying119 Tryz.infoSt rfl (by decide) hgd s x ho v ss hs hrow ad 1 1 [y] hx rfl hcs hlen hB h

abbrev Over (B : Nat) (k : Nat) : Prop := B ≤ k

def lensOk (zs : List Int) : Bool := !(zs.any (badI 0 15))

theorem lensOk_iff (zs : List Int) : lensOk zs = true ↔ ∀ z ∈ zs, 0 ≤ z ∧ z ≤ 15 := by
 simp only [lensOk, Bool.not_eq_true', List.any_eq_false, badI]
 constructor
 ·intro h z hz; have := h z hz; simp at this; omega
 ·intro h z hz; have := h z hz; simp; omega

end Go.Proofs.YtggcbnhckcenmabGreatDoor

namespace Go.Proofs.YtggcbnhckcenmabGreatDoor
open Go.RowKit

theorem packM_next (ns : List Nat) (i n : Nat) (hi : i < ns.length) (hn : n = 1 + frontN ns[i] (ns.drop (i + 1))) : packM (ns.drop i) = sayM ns[i] n ++ packM (ns.drop (i + n)) := by
 rw [List.drop_eq_getElem_cons hi, packM_cons, List.drop_drop, hn]
 congr 3
 omega

end Go.Proofs.YtggcbnhckcenmabGreatDoor

namespace Go.Proofs.YtggcbnhckcenmabGreatDoor
open Go.RowKit

def PackA (w w' : World) (e : Ending) : Except Nat (List (Int × Int)) → Prop
 | .error c => e = .returned (.tuple #[.slice none 0 0, .int .i64 (c : Nat)]) ∧ Same w w'
 | .ok ss => ∃ v', e = .returned (.tuple #[v', .int .i64 0]) ∧ StRow w.heap.size w' v' ss ∧ Same w w'

theorem packA_good {zs : List Int} (h1 : zs.length ≤ 316) (h2 : lensOk zs = true) : packA zs = .ok (packM (zs.map Int.toNat)) := by
 unfold packA
 rw [if_pos ⟨h1, (lensOk_iff zs).1 h2⟩]

theorem packA_bad {zs : List Int} (h : 316 < zs.length ∨ lensOk zs = false) : packA zs = .error 1 := by
 unfold packA
 rw [if_neg]
 rintro ⟨h1, h2⟩
 rcases h with h | h
 ·omega
 ·rw [(lensOk_iff zs).2 h2] at h; cases h

def mayM (a b : List Int) : Bool := decide (257 ≤ a.length) && decide (a.length ≤ 286) && decide (1 ≤ b.length) && decide (b.length ≤ 30) && lensOk a && lensOk b

end Go.Proofs.YtggcbnhckcenmabGreatDoor

namespace Go.Proofs.YtggcbnhckcenmabGreatDoor
open Go.RowKit

theorem StSrc.get {w : World} {I : Nat → Prop} {ao : Option Addr} {n cap : Nat} {ss : List (Int × Int)} (h : StSrc w I (.slice ao n cap) ss) (i : Nat) (hi : i < ss.length) : ∃ b o, ao = some ⟨b, o, none⟩ ∧ I b ∧ w.cell? ⟨b, o + i * 2, none⟩ = some (.int .i64 ss[i].1) ∧ w.cell? ⟨b, o + i * 2 + 1, none⟩ = some (.int .i64 ss[i].2) := by
 obtain ⟨ao', cap', e1, _, e2⟩ := h
 injection e1 with e3 _ _
 subst e3
 obtain ⟨b, o, e4, hI, e5⟩ := e2 (by intro e; rw [e] at hi; simp at hi)
 exact ⟨b, o, e4, hI, e5 i hi 0 (by decide), e5 i hi 1 (by decide)⟩

end Go.Proofs.YtggcbnhckcenmabGreatDoor
