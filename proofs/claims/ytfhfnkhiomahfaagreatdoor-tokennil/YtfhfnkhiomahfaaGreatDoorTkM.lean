/-
  Layer 16's mathematics: numbers in digits, the text of a token.
-/
import Derived.Test.YtfhfnkhiomahfaaGreatDoorShoM
import Derived.Test.YtfhfnkhiomahfaaGreatDoorHmM
import Derived.Lib.AtoiAllCases
import Derived.Lib.ItoaLen
namespace Go.Proofs.YtfhfnkhiomahfaaGreatDoor

abbrev dec6 (n : Nat) : List UInt8 := Lib.decDigits n

def isD (c : UInt8) : Prop := 48 ≤ c.toNat ∧ c.toNat ≤ 57

theorem dec6_small {n : Nat} (h : n < 10) : dec6 n = [UInt8.ofNat (48 + n)] := by unfold dec6; rw [Lib.decDigits, dif_pos h]
theorem dec6_big {n : Nat} (h : ¬ n < 10) : dec6 n = dec6 (n / 10) ++ [UInt8.ofNat (48 + n % 10)] := by unfold dec6; rw [Lib.decDigits, dif_neg h]

theorem dig6 {k : Nat} (h : k < 10) : (UInt8.ofNat (48 + k)).toNat = 48 + k := by rw [UInt8.toNat_ofNat']; omega

theorem dec6_isD (n : Nat) : ∀ c ∈ dec6 n, isD c := by
  induction n using Nat.strongRecOn with
  | ind n ih =>
    intro c hc
    by_cases h : n < 10
    · rw [dec6_small h, List.mem_singleton] at hc
      subst hc
      unfold isD
      rw [dig6 h]
      omega
    · rw [dec6_big h, List.mem_append, List.mem_singleton] at hc
      rcases hc with hc | rfl
      · exact ih (n / 10) (by omega) c hc
      · unfold isD
        rw [dig6 (by omega)]
        omega

def valF (a : Nat) (l : List UInt8) : Nat := l.foldl (fun a c => a * 10 + (c.toNat - 48)) a

theorem valF_dec (n : Nat) : valF 0 (dec6 n) = n := by
  induction n using Nat.strongRecOn with
  | ind n ih =>
    by_cases h : n < 10
    · rw [dec6_small h]
      simp only [valF, List.foldl_cons, List.foldl_nil]
      rw [dig6 h]
      omega
    · rw [dec6_big h]
      have := ih (n / 10) (by omega)
      unfold valF at this ⊢
      rw [List.foldl_append, this, List.foldl_cons, List.foldl_nil, dig6 (by omega)]
      omega

theorem dec6_inj {a b : Nat} (h : dec6 a = dec6 b) : a = b := by rw [← valF_dec a, ← valF_dec b, h]

theorem dec6_ne (n : Nat) : dec6 n ≠ [] := by
  by_cases h : n < 10
  · rw [dec6_small h]; simp
  · rw [dec6_big h]; simp

theorem valF_ge (l : List UInt8) : ∀ a, a ≤ valF a l := by
  induction l with
  | nil => intro a; exact Nat.le_refl _
  | cons c r ih =>
    intro a
    have := ih (a * 10 + (c.toNat - 48))
    show a ≤ valF (a * 10 + (c.toNat - 48)) r
    omega

theorem parse6 (l : List UInt8) : ∀ a, (∀ c ∈ l, isD c) → valF a l < 9223372036854775808 → Lib.parseUint10 a l = .ok (valF a l) := by
  induction l with
  | nil => intro a _ _; rfl
  | cons c r ih =>
    intro a hd hv
    have hv' : valF (a * 10 + (c.toNat - 48)) r < 9223372036854775808 := hv
    have h1 := valF_ge r (a * 10 + (c.toNat - 48))
    have h2 : isD c := hd c (by simp)
    have h3 := ih (a * 10 + (c.toNat - 48)) (fun x hx => hd x (List.mem_cons_of_mem _ hx)) hv'
    simp only [Lib.parseUint10]
    rw [if_pos (show 48 ≤ c.toNat ∧ c.toNat ≤ 57 from h2), if_neg (by omega), if_neg (by omega), h3]
    rfl

theorem atoi_dec6 (n : Nat) (h : n < 9223372036854775808) : Lib.atoiAll (dec6 n) = .ok (n : Int) := by
  cases hl : dec6 n with
  | nil => exact absurd hl (dec6_ne n)
  | cons c r =>
    have hc : isD c := dec6_isD n c (by rw [hl]; simp)
    rw [Lib.atoiAll_plain c r (by have := hc.1; omega) (by have := hc.1; omega)]
    have hv := valF_dec n
    have hp := parse6 (dec6 n) 0 (dec6_isD n) (by rw [hv]; exact h)
    rw [hl] at hp hv
    unfold Lib.parseMag
    rw [if_neg (by simp), hp, hv]
    simp only [Lib.signless]
    rw [if_neg (by omega)]

theorem itoa_dec6 (n : Nat) : Lib.itoa (n : Int) = dec6 n := by
  unfold Lib.itoa
  rw [if_neg (by omega), Int.toNat_natCast]

/-- What Atoi gives, whatever its error. -/
def atR (l : List UInt8) : Int := match Lib.atoiAll l with | .ok v => v | .syntax => 0 | .range => Lib.atoiSat l

theorem atR_dec (n : Nat) (h : n < 9223372036854775808) : atR (dec6 n) = n := by unfold atR; rw [atoi_dec6 n h]

theorem atR_bounds (l : List UInt8) : -9223372036854775808 ≤ atR l ∧ atR l ≤ 9223372036854775807 := by
  unfold atR
  cases h : Lib.atoiAll l with
  | ok v => exact Lib.atoiAll_bounds h
  | «syntax» => simp
  | range => exact Lib.atoiSat_bounds l

/-- A number's text is made of digits, the first of them no nought unless it stands alone. -/
theorem dec6_head (n : Nat) (h : 10 ≤ n) : ∃ c r, dec6 n = c :: r ∧ c ≠ 48 ∧ r ≠ [] := by
  induction n using Nat.strongRecOn with
  | ind n ih =>
    rw [dec6_big (by omega)]
    by_cases h2 : n / 10 < 10
    · rw [dec6_small h2]
      refine ⟨_, _, rfl, fun e => ?_, by simp⟩
      have := congrArg UInt8.toNat e
      rw [dig6 h2] at this
      have : 48 + n / 10 = 48 := this
      omega
    · obtain ⟨c, r, e, h3, h4⟩ := ih (n / 10) (by omega) (by omega)
      rw [e]
      exact ⟨c, _, rfl, h3, by simp⟩

theorem dec6_len (k : Nat) : ∀ n, n < 10 ^ (k + 1) → (dec6 n).length ≤ k + 1 := by
  induction k with
  | zero => intro n h; rw [dec6_small (by simpa using h)]; simp
  | succ k ih =>
    intro n h
    by_cases h2 : n < 10
    · rw [dec6_small h2]; simp
    · rw [dec6_big h2, List.length_append, List.length_singleton]
      have := ih (n / 10) (by rw [Nat.div_lt_iff_lt_mul (by decide)]; rw [← Nat.pow_succ]; exact h)
      omega

theorem dec6_of (l : List UInt8) (h0 : l ≠ []) (hd : ∀ c ∈ l, isD c) (hh : l.length ≤ 1 ∨ l.head? ≠ some 48) : l = dec6 (valF 0 l) := by
  generalize hn : l.length = n
  induction n generalizing l with
  | zero => exact absurd (List.eq_nil_of_length_eq_zero hn) h0
  | succ n ih =>
    obtain ⟨m, d, rfl⟩ : ∃ m d, l = m ++ [d] := ⟨l.dropLast, l.getLast h0, (List.dropLast_concat_getLast h0).symm⟩
    have hdd : isD d := hd d (by simp)
    have hv : valF 0 (m ++ [d]) = valF 0 m * 10 + (d.toNat - 48) := by unfold valF; rw [List.foldl_append]; rfl
    have hdv : UInt8.ofNat (48 + (d.toNat - 48)) = d := by
      rw [show 48 + (d.toNat - 48) = d.toNat by have := hdd.1; omega]
      simp
    by_cases hm : m = []
    · subst hm
      rw [hv]
      simp only [valF, List.foldl_nil, Nat.zero_mul, Nat.zero_add]
      rw [dec6_small (by have := hdd.2; omega), hdv]
      rfl
    · have hm2 : m.length = n := by simpa using hn
      have hmh : m.head? ≠ some 48 := by
        rcases hh with hh | hh
        · have := List.length_pos_iff.2 hm
          rw [List.length_append, List.length_singleton] at hh
          omega
        · intro e
          apply hh
          cases m with
          | nil => exact absurd rfl hm
          | cons x r => simpa using e
      have h1 := ih m hm (fun c hc => hd c (by simp [hc])) (.inr hmh) hm2
      have hpos : 1 ≤ valF 0 m := by
        cases m with
        | nil => exact absurd rfl hm
        | cons x r =>
          have hx := hd x (by simp)
          have hx2 : x.toNat ≠ 48 := fun e => hmh (by simp only [List.head?_cons, Option.some.injEq]; exact UInt8.toNat_inj.1 e)
          have := valF_ge r (0 * 10 + (x.toNat - 48))
          show 1 ≤ valF (0 * 10 + (x.toNat - 48)) r
          have := hx.1
          omega
      rw [hv, dec6_big (by omega), show (valF 0 m * 10 + (d.toNat - 48)) / 10 = valF 0 m by have := hdd.2; omega, show (valF 0 m * 10 + (d.toNat - 48)) % 10 = d.toNat - 48 by have := hdd.2; omega, hdv, ← h1]

/-- A number's value, as the reference has it. -/
def valR (l : List UInt8) : Int := if l ≠ [] ∧ l.length ≤ 10 ∧ (l.length ≤ 1 ∨ l.head? ≠ some 48) ∧ ∀ c ∈ l, 48 ≤ c.toNat ∧ c.toNat ≤ 57 then (valF 0 l : Nat) else -1

theorem valR_dec (n : Nat) (h : n ≤ 1000000000) : valR (dec6 n) = n := by
  have hh : (dec6 n).length ≤ 1 ∨ (dec6 n).head? ≠ some 48 := by
    by_cases h2 : n < 10
    · rw [dec6_small h2]; exact .inl (Nat.le_refl _)
    · obtain ⟨c, r, e, h3, _⟩ := dec6_head n (by omega)
      rw [e]
      exact .inr (by simpa using h3)
  unfold valR
  rw [if_pos ⟨dec6_ne n, dec6_len 9 n (by omega), hh, dec6_isD n⟩, valF_dec]

theorem dec_valR {l : List UInt8} {n : Nat} (h : valR l = (n : Int)) : l = dec6 n := by
  unfold valR at h
  split at h
  · rename_i hc
    have := dec6_of l hc.1 hc.2.2.2 hc.2.2.1
    rw [show n = valF 0 l by omega]
    exact this
  · omega

/-! Parts between points. -/

def splC : List UInt8 → List (List UInt8)
  | [] => [[]]
  | c :: r => if c = 46 then [] :: splC r else match splC r with
    | [] => [[c]]
    | p :: ps => (c :: p) :: ps

theorem splC_ne (l : List UInt8) : ∃ p ps, splC l = p :: ps := by
  cases l with
  | nil => exact ⟨_, _, rfl⟩
  | cons c r =>
    unfold splC
    split
    · exact ⟨_, _, rfl⟩
    · split
      · exact ⟨_, _, rfl⟩
      · exact ⟨_, _, rfl⟩

theorem splC_cons {c : UInt8} {r p : List UInt8} {ps : List (List UInt8)} (hc : c ≠ 46) (h : splC r = p :: ps) : splC (c :: r) = (c :: p) :: ps := by
  rw [splC, if_neg hc, h]

theorem splC_app {p r : List UInt8} (h : 46 ∉ p) : splC (p ++ 46 :: r) = p :: splC r := by
  induction p with
  | nil => rw [List.nil_append, splC, if_pos rfl]
  | cons c p ih =>
    have h1 : c ≠ 46 := fun e => h (by simp [e])
    exact splC_cons h1 (ih (fun e => h (by simp [e])))

theorem splC_one {p : List UInt8} (h : 46 ∉ p) : splC p = [p] := by
  induction p with
  | nil => rfl
  | cons c p ih =>
    have h1 : c ≠ 46 := fun e => h (by simp [e])
    exact splC_cons h1 (ih (fun e => h (by simp [e])))

def joiC : List (List UInt8) → List UInt8
  | [] => []
  | [p] => p
  | p :: q :: r => p ++ 46 :: joiC (q :: r)

theorem splC_joi (l : List UInt8) : joiC (splC l) = l ∧ ∀ p ∈ splC l, 46 ∉ p := by
  induction l with
  | nil => exact ⟨rfl, by simp [splC]⟩
  | cons c r ih =>
    obtain ⟨p, ps, hp⟩ := splC_ne r
    by_cases hc : c = 46
    · subst hc
      rw [splC, if_pos rfl]
      refine ⟨?_, ?_⟩
      · rw [hp] at ih ⊢
        show [] ++ 46 :: joiC (p :: ps) = _
        rw [ih.1]; rfl
      · intro q hq
        rcases List.mem_cons.1 hq with rfl | hq
        · simp
        · exact ih.2 q hq
    · rw [splC_cons hc hp]
      rw [hp] at ih
      refine ⟨?_, ?_⟩
      · cases ps with
        | nil =>
          have h1 : p = r := ih.1
          rw [h1]; rfl
        | cons q qs =>
          have h1 : p ++ 46 :: joiC (q :: qs) = r := ih.1
          show (c :: p) ++ 46 :: joiC (q :: qs) = _
          rw [← h1]; rfl
      · intro q hq
        rcases List.mem_cons.1 hq with rfl | hq
        · intro e
          rcases List.mem_cons.1 e with e | e
          · exact hc e.symm
          · exact ih.2 p (by simp) e
        · exact ih.2 q (by simp [hq])

theorem splitP_eq (k : Nat) (l : List UInt8) : Lib.splitK [46] 0 (k + 1) (46 :: l) = [] :: Lib.splitK [46] 0 k l := by
  have h : Lib.index (46 :: l) [46] = 0 := by rw [Lib.index_one]; simp [Lib.indexByte]
  rw [Lib.splitK, h]
  simp

theorem splitP_ne (b : UInt8) (hb : b ≠ 46) (k : Nat) (l : List UInt8) : ∃ p ps, Lib.splitK [46] 0 k l = p :: ps ∧ Lib.splitK [46] 0 k (b :: l) = (b :: p) :: ps := by
  cases k with
  | zero => exact ⟨l, [], rfl, rfl⟩
  | succ k =>
    have h1 : Lib.index (b :: l) [46] = if Lib.index l [46] == -1 then -1 else Lib.index l [46] + 1 := by
      rw [Lib.index_one, Lib.index_one, Lib.indexByte, if_neg (by simpa using hb)]
    have hge := Lib.index_ge l [46]
    by_cases h : Lib.index l [46] = -1
    · refine ⟨l, [], ?_, ?_⟩
      · rw [Lib.splitK, if_pos (by simp [h])]
      · rw [Lib.splitK, h1, h]; simp
    · obtain ⟨i, hi⟩ : ∃ i : Nat, Lib.index l [46] = (i : Int) := ⟨(Lib.index l [46]).toNat, by omega⟩
      have hne : ¬ ((i : Int) == -1) = true := by simp
      refine ⟨l.take (i + 0), Lib.splitK [46] 0 k (l.drop (i + 1)), ?_, ?_⟩
      · rw [Lib.splitK, hi, if_neg hne]; simp
      · rw [Lib.splitK, h1, hi, if_neg hne, if_neg (by simp; omega)]
        have e : ((i : Int) + 1).toNat = i + 1 := by omega
        rw [e]
        simp

theorem split_splC (l : List UInt8) : Lib.splitK [46] 0 (l.count 46) l = splC l := by
  induction l with
  | nil => rfl
  | cons b r ih =>
    by_cases hb : b = 46
    · subst hb
      rw [List.count_cons_self, splitP_eq, splC, if_pos rfl, ih]
    · obtain ⟨p, ps, h1, h2⟩ := splitP_ne b hb (r.count 46) r
      rw [List.count_cons_of_ne (by simpa using hb), h2]
      rw [h1] at ih
      exact (splC_cons hb ih.symm).symm

/-! A token's text. -/

def hexs : List UInt8 := [48, 49, 50, 51, 52, 53, 54, 55, 56, 57, 97, 98, 99, 100, 101, 102]

def hexL (l : List Nat) : List UInt8 := l.flatMap fun x => [hexs.getD (x / 16) 0, hexs.getD (x % 16) 0]

theorem hexL_length (l : List Nat) : (hexL l).length = 2 * l.length := by
  induction l with
  | nil => rfl
  | cons x r ih =>
    have e : hexL (x :: r) = [hexs.getD (x / 16) 0, hexs.getD (x % 16) 0] ++ hexL r := rfl
    rw [e, List.length_append, ih]
    simp
    omega

theorem hexs_get (k : Nat) (h : k < 16) : hexs.contains (hexs.getD k 0) = true := by
  have : ∀ k : Fin 16, hexs.contains (hexs.getD k.val 0) = true := by decide
  exact this ⟨k, h⟩

theorem hexL_all (l : List Nat) (h : ∀ x ∈ l, x < 256) : (hexL l).all (hexs.contains ·) = true := by
  induction l with
  | nil => rfl
  | cons x r ih =>
    have e : hexL (x :: r) = [hexs.getD (x / 16) 0, hexs.getD (x % 16) 0] ++ hexL r := rfl
    have hx := h x (by simp)
    rw [e, List.all_append, ih (fun y hy => h y (by simp [hy]))]
    simp only [List.all_cons, List.all_nil, Bool.and_true]
    rw [hexs_get _ (by omega), hexs_get _ (by omega)]
    rfl

/-- May 64 digits be these? -/
def isM (l : List UInt8) : Bool := decide (l.length = 64) && l.all (hexs.contains ·)

def bodL (t : ByteArray) (u s : Nat) : List UInt8 := t.data.toList ++ 46 :: (dec6 u ++ 46 :: dec6 s)

def natsL (l : List UInt8) : List Nat := l.map UInt8.toNat

theorem natsL_lt (l : List UInt8) : ∀ x ∈ natsL l, x < 256 := by
  intro x hx
  obtain ⟨u, _, rfl⟩ := List.mem_map.1 hx
  exact u.toNat_lt

/-- The digits of a body's mac. -/
def macL (k : ByteArray) (b : List UInt8) : List UInt8 := hexL (macF (natsL k.data.toList) (natsL b))

theorem macF_lt (k b : List Nat) : ∀ x ∈ macF k b, x < 256 := shaF_lt _

theorem macL_isM (k : ByteArray) (b : List UInt8) : isM (macL k b) = true := by
  unfold isM macL
  rw [hexL_length, show (macF (natsL k.data.toList) (natsL b)).length = 32 from shaF_length _, hexL_all _ (macF_lt _ _)]
  rfl

def tokL (t : ByteArray) (u s : Nat) (k : ByteArray) : List UInt8 := bodL t u s ++ 46 :: macL k (bodL t u s)

/-- May a claim be? -/
def May6 (t : ByteArray) (u s : Int) : Prop := sho t = true ∧ (0 ≤ u ∧ u ≤ 1000000000) ∧ 1 ≤ s ∧ s ≤ 1000000000

def mayB (t : ByteArray) (u s : Int) : Bool := sho t && (decide (0 ≤ u ∧ u ≤ 1000000000) && decide (1 ≤ s ∧ s ≤ 1000000000))

theorem mayB_iff {t : ByteArray} {u s : Int} : mayB t u s = true ↔ May6 t u s := by
  unfold mayB May6
  rw [Bool.and_eq_true, Bool.and_eq_true, decide_eq_true_eq, decide_eq_true_eq]

def bodI (t : ByteArray) (u s : Int) : List UInt8 := t.data.toList ++ 46 :: (Lib.itoa u ++ 46 :: Lib.itoa s)

theorem bodI_nat (t : ByteArray) (u s : Nat) : bodI t u s = bodL t u s := by unfold bodI bodL; rw [itoa_dec6, itoa_dec6]

theorem sho_pt {t : ByteArray} (h : sho t = true) : 46 ∉ t.data.toList ∧ t.data.toList.length ≤ 16 := by
  unfold sho at h
  rw [Bool.and_eq_true, Bool.and_eq_true, List.all_eq_true, decide_eq_true_eq] at h
  refine ⟨fun e => ?_, h.2.1⟩
  have := h.2.2 46 e
  exact absurd this (by decide)

theorem dec6_pt (n : Nat) : 46 ∉ dec6 n := fun e => by have := (dec6_isD n 46 e).1; exact absurd this (by decide)

theorem isM_pt {m : List UInt8} (h : isM m = true) : 46 ∉ m ∧ m.length = 64 := by
  unfold isM at h
  rw [Bool.and_eq_true, List.all_eq_true, decide_eq_true_eq] at h
  exact ⟨fun e => absurd (h.2 46 e) (by decide), h.1⟩

/-- A text is a token's of this claim, with these digits. -/
def ParR (l : List UInt8) (t : ByteArray) (u s : Nat) (m : List UInt8) : Prop := May6 t u s ∧ isM m = true ∧ l = bodL t u s ++ 46 :: m

theorem ParR.spl {l : List UInt8} {t : ByteArray} {u s : Nat} {m : List UInt8} (h : ParR l t u s m) : splC l = [t.data.toList, dec6 u, dec6 s, m] := by
  obtain ⟨h1, h2, rfl⟩ := h
  unfold bodL
  rw [List.append_assoc, List.cons_append, List.append_assoc, List.cons_append, splC_app (sho_pt h1.1).1, splC_app (dec6_pt u), splC_app (dec6_pt s), splC_one (isM_pt h2).1]

theorem ParR.len {l : List UInt8} {t : ByteArray} {u s : Nat} {m : List UInt8} (h : ParR l t u s m) : l.length ≤ 103 := by
  obtain ⟨h1, h2, rfl⟩ := h
  have := (sho_pt h1.1).2
  have := dec6_len 9 u (by have := h1.2.1; omega)
  have := dec6_len 9 s (by have := h1.2.2; omega)
  have := (isM_pt h2).2
  simp only [bodL, List.length_append, List.length_cons]
  omega

theorem data_inj {s t : ByteArray} (h : s.data.toList = t.data.toList) : s = t := by
  cases s; cases t
  rw [Array.toList_inj] at h
  exact congrArg ByteArray.mk h

theorem ParR.det {l : List UInt8} {t t' : ByteArray} {u s u' s' : Nat} {m m' : List UInt8} (h : ParR l t u s m) (h' : ParR l t' u' s' m') : t = t' ∧ u = u' ∧ s = s' ∧ m = m' := by
  have e := h.spl.symm.trans h'.spl
  simp only [List.cons.injEq, and_true] at e
  exact ⟨data_inj e.1, dec6_inj e.2.1, dec6_inj e.2.2.1, e.2.2.2⟩

/-- Of four parts. -/
theorem par_of {l : List UInt8} {t p1 p2 p3 : List UInt8} (h : splC l = [t, p1, p2, p3]) : l = t ++ 46 :: (p1 ++ 46 :: (p2 ++ 46 :: p3)) ∧ 46 ∉ t ∧ 46 ∉ p1 ∧ 46 ∉ p2 ∧ 46 ∉ p3 := by
  have h1 := splC_joi l
  rw [h] at h1
  exact ⟨h1.1.symm, h1.2 _ (by simp), h1.2 _ (by simp), h1.2 _ (by simp), h1.2 _ (by simp)⟩

theorem par_mk {l : List UInt8} {t : ByteArray} {p1 p2 p3 : List UInt8} (h : splC l = [t.data.toList, p1, p2, p3]) {u s : Nat} (h1 : p1 = dec6 u) (h2 : p2 = dec6 s) (hm : May6 t u s) (hi : isM p3 = true) : ParR l t u s p3 := by
  refine ⟨hm, hi, ?_⟩
  rw [(par_of h).1, h1, h2]
  unfold bodL
  rw [List.append_assoc, List.cons_append, List.append_assoc, List.cons_append]

theorem tok_par (t : ByteArray) (u s : Nat) (k : ByteArray) (h : May6 t u s) : ParR (tokL t u s k) t u s (macL k (bodL t u s)) := ⟨h, macL_isM _ _, rfl⟩

/-- Two texts that part at a point where neither has one ahead. -/
theorem cut6 {a b c d : List UInt8} (h : a ++ 46 :: b = c ++ 46 :: d) (ha : 46 ∉ a) (hc : 46 ∉ c) : a = c ∧ b = d := by
  induction a generalizing c with
  | nil =>
    cases c with
    | nil => simpa using h
    | cons x r =>
      simp only [List.nil_append, List.cons_append, List.cons.injEq] at h
      exact absurd (by simp [h.1]) hc
  | cons y r ih =>
    cases c with
    | nil =>
      simp only [List.nil_append, List.cons_append, List.cons.injEq] at h
      exact absurd (by simp [h.1]) ha
    | cons x q =>
      simp only [List.cons_append, List.cons.injEq] at h
      obtain ⟨h1, h2⟩ := ih h.2 (fun e => ha (by simp [e])) (c := q) (fun e => hc (by simp [e]))
      exact ⟨by rw [h.1, h1], h2⟩

end Go.Proofs.YtfhfnkhiomahfaaGreatDoor
