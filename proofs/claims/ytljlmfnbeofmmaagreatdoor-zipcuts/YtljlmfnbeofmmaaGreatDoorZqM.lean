import Derived.Test.YtljlmfnbeofmmaaGreatDoorZpXd
import Derived.Test.YtljlmfnbeofmmaaGreatDoorZpU
import Derived.Test.YtljlmfnbeofmmaaGreatDoorDfQ
import Derived.Test.YtljlmfnbeofmmaaGreatDoorInPf
import Derived.Test.YtljlmfnbeofmmaaGreatDoorLnTc
import Derived.Test.YtljlmfnbeofmmaaGreatDoorLnPk
import Derived.Deep.RegionHeld3
import Derived.Lib.SliceRun
import Derived.Test.YtljlmfnbeofmmaaGreatDoorFresh
import Derived.WalkMore
import Derived.Test.YtljlmfnbeofmmaaGreatDoorCln
import Derived.Laws.BytesArg
import Derived.Test.YtljlmfnbeofmmaaGreatDoorInPe
import Derived.Test.YtljlmfnbeofmmaaGreatDoorHArgs
import Derived.Test.YtljlmfnbeofmmaaGreatDoorInHm
import Derived.Test.YtljlmfnbeofmmaaGreatDoorBits
import Derived.Test.YtljlmfnbeofmmaaGreatDoorReader
namespace Go.Proofs.YtljlmfnbeofmmaaGreatDoor

theorem anyN_no {E : Nat → En} {s : ByteArray} {n : Nat} (h : anyN E s n = false) : ∀ i, i < n → (E i).n ≠ s := by
 intro i hi e
 rw [anyN_at hi e] at h
 cases h

theorem chkE_apart {E : Nat → En} {n : Nat} (h : chkE E n = 0) : ∀ i j, i < j → j < n → (E i).n ≠ (E j).n := by
 intro i j hij hj
 unfold chkE at h
 split at h
 ·cases h
 ·have h2 := wrAll_ok h j (Nat.zero_le _) (by omega)
  unfold wrE at h2
  split at h2
  ·cases h2
  ·rename_i h3
   cases h5 : anyN E (E j).n j with
   | true => exact absurd (.inr h5) h3
   | false => exact anyN_no h5 i hij

theorem labZ_it {y : En} {bs : List Nat} (hn : nam8 (sb y.n) = true) (hd : y.d.size ≤ 8192) : ItOk ⟨labZ y bs, bodZ y bs⟩ := by
 obtain ⟨h1, _, _, h4⟩ := labZ_ok y bs hn hd
 refine ⟨h1, rfl, chk8_mk hn (by simp) ?_ hd ?_ ?_⟩
 ·show (if bs.length < y.d.size then 8 else 0) = 0 ∨ (if bs.length < y.d.size then 8 else 0) = 8
  split
  ·exact .inr rfl
  ·exact .inl rfl
 ·show (bodZ y bs).length ≤ 16384
  omega
 ·show (if bs.length < y.d.size then 8 else 0) = 8 ∨ (bodZ y bs).length = y.d.size
  by_cases h : bs.length < y.d.size
  ·rw [if_pos h]; exact .inl rfl
  ·right
   unfold bodZ
   rw [if_neg h, sb_size]

theorem its_ok {E : Nat → En} {len : Nat} {L : List It} (h : ItsOf E len L) (hc : chkE E len = 0) : (∀ x ∈ L, ItOk x) ∧ (names8 L).Nodup ∧ L.length ≤ 64 := by
 obtain ⟨h64, hok⟩ := chkE_ok hc
 refine ⟨fun x hx => ?_, ?_, by rw [h.1]; exact h64⟩
 ·obtain ⟨j, hj, rfl⟩ := List.getElem_of_mem hx
  obtain ⟨bs, _, e⟩ := h.2 j L[j] (List.getElem?_eq_getElem hj)
  rw [e]
  have := hok j (by rw [← h.1]; exact hj)
  exact labZ_it this.1 this.2
 ·unfold List.Nodup names8
  rw [List.pairwise_map, List.pairwise_iff_getElem]
  intro i j hi hj hij e
  obtain ⟨b1, _, e1⟩ := h.2 i L[i] (List.getElem?_eq_getElem hi)
  obtain ⟨b2, _, e2⟩ := h.2 j L[j] (List.getElem?_eq_getElem hj)
  rw [e1, e2] at e
  exact chkE_apart hc i j hij (by rw [← h.1]; exact hj) (sb_inj e)

theorem piesB_le {L : List It} (h : ∀ x ∈ L, ItOk x) : (piesB L).length ≤ L.length * 16600 ∧ (recsB 0 L).length ≤ L.length * 120 := by
 rw [recsB_length]
 induction L with
 | nil => simp [piesB]
 | cons x r ih =>
  obtain ⟨i1, i2⟩ := ih (fun y hy => h y (by simp [hy]))
  have hx := h x (by simp)
  obtain ⟨hn, _, _, _, hp, _⟩ := chk8_zero hx.ok
  have hn2 : x.lab.name.length ≤ 64 := by
   unfold nam8 at hn
   simp only [Bool.and_eq_true, decide_eq_true_eq] at hn
   exact hn.1
  have := hx.len
  rw [piesB_cons, List.length_append, pieB_length, List.length_cons]
  simp only [List.map_cons, List.sum_cons]
  constructor
  ·omega
  ·omega

theorem its_small {E : Nat → En} {len : Nat} {L : List It} (h : ItsOf E len L) (hc : chkE E len = 0) : (filB L).length ≤ 1048576 := by
 obtain ⟨h64, hok⟩ := chkE_ok hc
 obtain ⟨ho, hnd, hl⟩ := its_ok h hc
 have h2 := (piesB_le ho).2
 have h3 : (piesB L).length ≤ L.length * 8400 := by
  have : ∀ x ∈ L, (pieB x).length ≤ 8400 := fun x hx => by
   obtain ⟨j, hj, rfl⟩ := List.getElem_of_mem hx
   obtain ⟨bs, _, e⟩ := h.2 j L[j] (List.getElem?_eq_getElem hj)
   rw [pieB_length, e]
   have h9 := hok j (by rw [← h.1]; exact hj)
   obtain ⟨_, _, h3, h4⟩ := labZ_ok (E j) bs h9.1 h9.2
   show 30 + (labZ (E j) bs).name.length + (bodZ (E j) bs).length ≤ 8400
   omega
  clear h2 ho hl h hnd
  induction L with
  | nil => simp [piesB]
  | cons x r ih =>
   have i1 := ih (fun y hy => this y (by simp [hy]))
   have := this x (by simp)
   rw [piesB_cons, List.length_append, List.length_cons]
   omega
 rw [filB_length]
 omega

theorem its_open {E : Nat → En} {len : Nat} {L : List It} (h : ItsOf E len L) (hc : chkE E len = 0) : opf8 (filB L) = .ok L := by
 obtain ⟨h1, h2, h3⟩ := its_ok h hc
 exact opf8_laid L h1 h2 h3 (its_small h hc)

end Go.Proofs.YtljlmfnbeofmmaaGreatDoor
