import Derived.Test.YtljlmfnbeofmmaaGreatDoorDfJ
namespace Go.Proofs.YtljlmfnbeofmmaaGreatDoor

theorem key_beyond {l : List Nat} {j : Nat} (h : l.length ≤ j) : key l j = 0 := by simp [key, List.getD_eq_getElem?_getD, List.getElem?_eq_none h]

theorem key_lt {l : List Nat} {j : Nat} (h : key l j ≠ 0) : j < l.length := by
 refine Classical.byContradiction (fun hc => h (key_beyond (by omega)))

theorem key_take {l : List Nat} {m : Nat} (hz : ∀ j, m ≤ j → key l j = 0) (j : Nat) : key (l.take m) j = key l j := by
 by_cases h : j < m
 ·simp only [key, List.getD_eq_getElem?_getD, List.getElem?_take]
  rw [if_pos h]
 ·rw [hz j (by omega)]
  exact key_beyond (by rw [List.length_take]; omega)

theorem chkN_take {l : List Nat} {m : Nat} (hz : ∀ j, m ≤ j → key l j = 0) : chkN (l.take m) = chkN l := by
 have hd : ∀ x ∈ l.drop m, x = 0 := by
  intro x hx
  obtain ⟨i, hi, rfl⟩ := List.getElem_of_mem hx
  rw [List.length_drop] at hi
  have := hz (m + i) (by omega)
  rw [key_get (by omega)] at this
  rw [List.getElem_drop]
  exact this
 have h1 : measure l = measure (l.take m) := by
  conv => lhs; rw [← List.take_append_drop m l]
  unfold measure
  rw [List.map_append, List.sum_append]
  have : ((l.drop m).map unit).sum = 0 := by
   generalize l.drop m = d at hd
   induction d with
   | nil => rfl
   | cons x r ih =>
    rw [List.map_cons, List.sum_cons, hd x (by simp), ih (fun y hy => hd y (by simp [hy]))]
    rfl
  omega
 have h2 : usedN l = usedN (l.take m) := by
  conv => lhs; rw [← List.take_append_drop m l]
  unfold usedN
  rw [List.countP_append]
  have : (l.drop m).countP (fun n => n != 0) = 0 := List.countP_eq_zero.2 (fun x hx => by simp [hd x hx])
  omega
 unfold chkN
 rw [h1, h2]

structure Cho (ns : List Nat) (l : List Nat) : Prop where
 pos : 1 ≤ l.length
 max : l.length ≤ ns.length
 le : ∀ x ∈ l, x ≤ 15
 key : ∀ s, key ns s ≠ 0 → key l s ≠ 0
 ok : (∃ s, Go.Proofs.YtljlmfnbeofmmaaGreatDoor.key ns s ≠ 0) → chkN l = 0
 back : ∀ s, Go.Proofs.YtljlmfnbeofmmaaGreatDoor.key l s ≠ 0 → Go.Proofs.YtljlmfnbeofmmaaGreatDoor.key ns s ≠ 0

theorem cho_is (ns : List Nat) (h0 : 0 < ns.length) (hl : ns.length ≤ 288) : Cho ns (choL ns) := by
 have hfit : (ris ns).length ≤ 2 ^ 15 := by have := ris_length ns; omega
 have hll := limL_length ns 15
 obtain ⟨m, h1, h2, h3, h4⟩ := trimZ_is (limL ns 15).length (limL ns 15) (by omega)
 have hc : choL ns = (limL ns 15).take m := h1
 have hkk := key_take h4
 refine ⟨by rw [hc, List.length_take]; omega, by rw [hc, List.length_take]; omega, fun x hx => ?_, fun s hs => ?_, fun ⟨s, hs⟩ => ?_, fun s hs => ?_⟩
 ·rw [hc] at hx
  exact lim_le ns 15 hfit (by decide) (by decide) x (List.mem_of_mem_take hx)
 ·rw [hc, hkk]
  exact lim_key ns 15 s (key_lt hs) hs hfit (by decide) (by decide)
 ·rw [hc, chkN_take h4]
  exact lim_check ns 15 (List.length_pos_of_mem (mem_ris.2 ⟨key_lt hs, hs⟩)) hfit (by decide) (by decide)
 ·rw [hc, hkk] at hs
  have hsl := key_lt hs
  rw [key_get hsl, limL_get] at hs
  intro h9
  rw [if_pos h9] at hs
  exact hs rfl

def litC (ts : List TK) : List Nat := bump (ctsL ts (List.replicate 286 0)) 256
def distC (ts : List TK) : List Nat := ctsD ts (List.replicate 30 0)

theorem key_zeros (n j : Nat) : key (List.replicate n 0) j = 0 := by
 simp only [key, List.getD_eq_getElem?_getD, List.getElem?_replicate]
 split <;> rfl

structure DynOk (ts : List TK) : Prop where
 ok : OkL (choL (litC ts)) (choL (distC ts))
 toks : ToksOk (choL (litC ts)) (choL (distC ts)) ts
 may : mayM ((choL (litC ts)).map (fun (n : Nat) => (n : Int))) ((choL (distC ts)).map (fun (n : Nat) => (n : Int))) = true
 lc : ∀ x ∈ litC ts, x ≤ 1000000
 dc : ∀ x ∈ distC ts, x ≤ 1000000
 ll : (litC ts).length = 286
 dl : (distC ts).length = 30

theorem mem_key {l : List Nat} {x : Nat} (h : x ∈ l) : ∃ j, x = key l j := by
 obtain ⟨i, hi, rfl⟩ := List.getElem_of_mem h
 exact ⟨i, (key_get hi).symm⟩

theorem dyn_ok {ts : List TK} {n : Nat} (hm : measT 16384 ts 0 = .ok n) (hb : ∀ t ∈ ts, t.lit < 256) : DynOk ts := by
 have hsy : ∀ t ∈ ts, (litMk t).sym < 286 ∧ (t.len ≠ 0 → (distMk t).sym < 30) := fun t ht => by
  obtain ⟨said, h1, h2⟩ := measT_may7 hm (by decide) t ht
  have h3 := syms_of h2 h1 (hb t ht)
  exact ⟨by omega, fun h => by have := (h3.2.2.2.2 h).2.1; omega⟩
 have hct := measT_count hm
 have hA0 : (ctsL ts (List.replicate 286 0)).length = 286 := by rw [ctsL_length, List.length_replicate]
 have hA : (litC ts).length = 286 := by unfold litC; rw [bump_length, hA0]
 have hB : (distC ts).length = 30 := by unfold distC; rw [ctsD_length, List.length_replicate]
 have kA := fun j => ctsL_key ts (List.replicate 286 0) (fun t ht => by rw [List.length_replicate]; exact (hsy t ht).1) j
 have kB := fun j => ctsD_key ts (List.replicate 30 0) (fun t ht h => by rw [List.length_replicate]; exact (hsy t ht).2 h) j
 have kb := fun j => bump_key (ctsL ts (List.replicate 286 0)) 256 j (by omega)
 have k256 : key (litC ts) 256 ≠ 0 := by
  have := kb 256
  rw [if_pos rfl] at this
  unfold litC
  omega
 have cA := cho_is (litC ts) (by omega) (by omega)
 have cB := cho_is (distC ts) (by omega) (by omega)
 have hsym : ∀ t ∈ ts, key (litC ts) (litMk t).sym ≠ 0 := fun t ht => by
  have h1 := (kA (litMk t).sym).2.2 ⟨t, ht, rfl⟩
  have h2 := kb (litMk t).sym
  unfold litC
  omega
 have hdsy : ∀ t ∈ ts, t.len ≠ 0 → key (distC ts) (distMk t).sym ≠ 0 := fun t ht h => by
  have h1 := (kB (distMk t).sym).2.2 ⟨t, ht, h, rfl⟩
  unfold distC
  omega
 have hl257 := key_lt (cA.key 256 k256)
 have max1 := cA.max
 have max2 := cB.max
 have pos2 := cB.pos
 refine ⟨⟨⟨cA.pos, by omega, cA.le, cA.ok ⟨256, k256⟩⟩, cB.pos, by omega, cB.le, fun hu => ?_⟩, ⟨fun t ht => ?_, ⟨hl257, cA.key 256 k256⟩, hb⟩, ?_, fun x hx => ?_, fun x hx => ?_, hA, hB⟩
 ·refine ⟨cB.pos, by omega, cB.le, cB.ok ?_⟩
  unfold usedB at hu
  obtain ⟨x, hx, h9⟩ := List.any_eq_true.1 hu
  obtain ⟨j, rfl⟩ := mem_key hx
  exact ⟨j, cB.back j (by simpa using h9)⟩
 ·have h1 := cA.key _ (hsym t ht)
  refine ⟨key_lt h1, h1, fun h => ?_⟩
  have h2 := cB.key _ (hdsy t ht h)
  exact ⟨key_lt h2, h2⟩
 ·unfold mayM
  have e1 : lensOk ((choL (litC ts)).map (fun (n : Nat) => (n : Int))) = true := (lensOk_iff _).2 (fun z hz => by
   obtain ⟨x, hx, rfl⟩ := List.mem_map.1 hz
   have := cA.le x hx
   omega)
  have e2 : lensOk ((choL (distC ts)).map (fun (n : Nat) => (n : Int))) = true := (lensOk_iff _).2 (fun z hz => by
   obtain ⟨x, hx, rfl⟩ := List.mem_map.1 hz
   have := cB.le x hx
   omega)
  rw [e1, e2]
  simp only [List.length_map, Bool.and_true, Bool.and_eq_true, decide_eq_true_eq]
  omega
 ·obtain ⟨j, rfl⟩ := mem_key hx
  have h1 := kb j
  have h2 := (kA j).2.1
  rw [key_zeros] at h2
  unfold litC
  split at h1 <;> omega
 ·obtain ⟨j, rfl⟩ := mem_key hx
  have h2 := (kB j).2.1
  rw [key_zeros] at h2
  unfold distC
  omega

end Go.Proofs.YtljlmfnbeofmmaaGreatDoor
