/-
  Of the proof: parts HFairM.
-/
import Derived.Test.YtljlmfnbeofmmaaGreatDoorJ28
import Derived.Test.YtljlmfnbeofmmaaGreatDoorJ10

namespace Go.Proofs.YtljlmfnbeofmmaaGreatDoor

theorem map_sum_get (l : List Nat) (f : Nat → Nat) : (l.map f).sum = sumI l.length (fun i => f (l.getD i 0)) := by
 unfold sumI
 congr 1
 refine List.ext_getElem (by simp) (fun i h1 h2 => ?_)
 simp at h1
 simp [List.getD, h1]

theorem sum_used (ns : List Nat) (f : Nat → Nat) (i : Nat) : ((List.range i).map (fun s => if key ns s = 0 then 0 else f s)).sum = ((usedTo ns i).map f).sum := by
 induction i with
 | zero => simp [usedTo]
 | succ i ih =>
  rw [List.range_succ, List.map_append, List.sum_append, ih, usedTo_succ, List.map_append, List.sum_append]
  congr 1
  by_cases h : key ns i = 0 <;> simp [h]

theorem sum_ris (ns : List Nat) (f : Nat → Nat) : ((List.range ns.length).map (fun s => if key ns s = 0 then 0 else f s)).sum = sumI (ris ns).length (fun i => f ((ris ns).getD i 0)) := by
 rw [sum_used ns f ns.length, ← map_sum_get (ris ns) f]
 exact (sum_perm f (ris_perm ns)).symm

theorem outP_sum (ns : List Nat) (p : Nat → Nat) (g : Nat → Nat) (hg : g 0 = 0) : ((outP ns p).map g).sum = sumI (ris ns).length (fun i => g (p i)) := by
 have e : (outP ns p).map g = (List.range ns.length).map (fun s => if key ns s = 0 then 0 else g (p ((ris ns).idxOf s))) := by
  unfold outP
  rw [List.map_map]
  refine List.map_congr_left (fun s _ => ?_)
  simp only [Function.comp]
  by_cases h : key ns s = 0
  ·rw [if_pos h, if_pos h, hg]
  ·rw [if_neg h, if_neg h]
 rw [e, sum_ris]
 refine sumI_congr _ _ _ (fun i hi => ?_)
 have : (ris ns).getD i 0 = (ris ns)[i] := by simp [List.getD, hi]
 rw [this, idx_ris ns i hi]

theorem measure_sum (l : List Nat) : measure l = (l.map unit).sum := rfl
theorem usedN_sum (l : List Nat) : usedN l = (l.map (fun n => if n = 0 then 0 else 1)).sum := by
 induction l with
 | nil => rfl
 | cons a r ih =>
  unfold usedN at *
  rw [List.countP_cons, ih, List.map_cons, List.sum_cons]
  by_cases h : a = 0 <;> simp [h] <;> omega

theorem outP_measure (ns : List Nat) (p : Nat → Nat) : measure (outP ns p) = sumI (ris ns).length (fun i => unit (p i)) := by
 rw [measure_sum, outP_sum ns p unit rfl]

theorem outP_used (ns : List Nat) (p : Nat → Nat) (hp : ∀ i, i < (ris ns).length → p i ≠ 0) : usedN (outP ns p) = (ris ns).length := by
 rw [usedN_sum, outP_sum ns p _ rfl, sumI_congr _ _ (fun _ => 1) (fun i hi => if_neg (hp i hi)), sumI_const, Nat.mul_one]

structure Many (ns : List Nat) (most : Nat) : Prop where
 two : 2 ≤ (ris ns).length
 fit : (ris ns).length ≤ 2 ^ most
 m1 : 1 ≤ most
 m15 : most ≤ 15

def gn (ns : List Nat) (most : Nat) : Nat → Nat := gain (wsOf ns) (most - 1) (2 * (wsOf ns).length - 2)

theorem many_limL {ns : List Nat} {most : Nat} (h : Many ns most) : limL ns most = outP ns (gn ns most) := by
 have := h.two
 unfold limL gn
 rw [if_neg (by omega)]

theorem Many.pos {ns : List Nat} {most : Nat} (h : Many ns most) (i : Nat) (hi : i < (ris ns).length) : 1 ≤ gn ns most i := by
 have h2 := h.two
 have h3 := h.m1
 refine gain_pos (wsOf ns) (wsOf_up ns) (most - 1) (by rw [wsOf_length]; exact h2) (by rw [wsOf_length, show most - 1 + 1 = most by omega]; exact h.fit) i (by rw [wsOf_length]; exact hi)

theorem Many.le {ns : List Nat} {most : Nat} (h : Many ns most) (i : Nat) : gn ns most i ≤ most := by
 have h1 := gain_le (wsOf ns) (most - 1) (2 * (wsOf ns).length - 2) i
 have h3 := h.m1
 unfold gn
 omega

theorem Many.kraft {ns : List Nat} {most : Nat} (h : Many ns most) : measure (limL ns most) = 32768 := by
 have h2 := h.two
 have h3 := h.m1
 have h4 := h.m15
 rw [many_limL h, outP_measure]
 have hk := gain_kraft (wsOf ns) (wsOf_up ns) (most - 1) (by rw [wsOf_length]; exact h2) (by rw [wsOf_length, show most - 1 + 1 = most by omega]; exact h.fit)
 rw [wsOf_length, show most - 1 + 1 = most by omega] at hk
 have e : sumI (ris ns).length (fun i => unit (gn ns most i)) = sumI (ris ns).length (fun i => 2 ^ (15 - most) * 2 ^ (most - gn ns most i)) := by
  refine sumI_congr _ _ _ (fun i hi => ?_)
  have p1 := h.pos i hi
  have p2 := h.le i
  rw [unit, if_neg (by omega), ← Nat.pow_add]
  congr 1
  omega
 have hmul : ∀ (m c : Nat) (f : Nat → Nat), sumI m (fun i => c * f i) = c * sumI m f := by
  intro m c f
  induction m with
  | zero => simp [sumI]
  | succ m ih => rw [sumI_succ, sumI_succ, ih, Nat.mul_add]
 have hk2 : sumI (ris ns).length (fun i => 2 ^ (most - gn ns most i)) = 2 ^ most := by
  unfold gn
  rw [wsOf_length]
  exact hk
 rw [e, hmul, hk2, ← Nat.pow_add, show 15 - most + most = 15 by omega]

theorem limL_get (ns : List Nat) (most s : Nat) (h : s < (limL ns most).length) : (limL ns most)[s] = if key ns s = 0 then 0 else if (ris ns).length ≤ 1 then 1 else gn ns most ((ris ns).idxOf s) := by
 unfold limL at *
 by_cases h1 : (ris ns).length ≤ 1
 ·simp only [if_pos h1, outP, List.getElem_map, List.getElem_range]
 ·simp only [if_neg h1, outP, List.getElem_map, List.getElem_range, gn]

theorem lim_check (ns : List Nat) (most : Nat) (hp : 0 < (ris ns).length) (hfit : (ris ns).length ≤ 2 ^ most) (h1 : 1 ≤ most) (h15 : most ≤ 15) : chkN (limL ns most) = 0 := by
 by_cases h : (ris ns).length ≤ 1
 ·have e : (ris ns).length = 1 := by omega
  have el : limL ns most = outP ns (fun _ => 1) := by unfold limL; rw [if_pos h]
  have em : measure (limL ns most) = 16384 := by
   rw [el, outP_measure, e]
   decide
  have eu : usedN (limL ns most) = 1 := by rw [el, outP_used ns _ (fun _ _ => by omega), e]
  unfold chkN
  rw [em, eu]
  decide
 ·have hm : Many ns most := ⟨by omega, hfit, h1, h15⟩
  have em := hm.kraft
  unfold chkN
  rw [em, if_neg (by omega), if_pos rfl]

theorem lim_le (ns : List Nat) (most : Nat) (hfit : (ris ns).length ≤ 2 ^ most) (h1 : 1 ≤ most) (h15 : most ≤ 15) : ∀ n ∈ limL ns most, n ≤ most := by
 intro n hn
 obtain ⟨s, hs, rfl⟩ := List.getElem_of_mem hn
 rw [limL_get]
 split
 ·omega
 ·split
  ·omega
  ·rename_i h2 h3
   exact Many.le ⟨by omega, hfit, h1, h15⟩ _

end Go.Proofs.YtljlmfnbeofmmaaGreatDoor
