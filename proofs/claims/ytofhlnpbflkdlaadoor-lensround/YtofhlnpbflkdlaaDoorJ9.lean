/-
  Of the proof: parts HRows, HNextM, LnM, LnPackM, LnRef, LnUnp, HNextW, LnHead, HRowsW, LnPack, LnPack2, LnSame, LnLaw.
-/
import Derived.Test.YtofhlnpbflkdlaaDoorJ6
import Derived.Test.YtofhlnpbflkdlaaDoorJ8
import Derived.Test.YtofhlnpbflkdlaaDoorJ1
import Derived.Test.YtofhlnpbflkdlaaDoorJ3
import Derived.Test.YtofhlnpbflkdlaaDoorJ4
import Derived.Test.YtofhlnpbflkdlaaDoorJ7

/-
  The reference's Rows: each symbol's code as a row of bits.
-/
namespace Go.Proofs.YtofhlnpbflkdlaaDoor
open Go.RowKit

/-- A number's lowest n bits, the highest one first. -/
def rowB : Nat → Nat → List Nat
  | 0, _ => []
  | n + 1, c => rowB n (c / 2) ++ [c % 2]

theorem rowB_length (n c : Nat) : (rowB n c).length = n := by
  induction n generalizing c with
  | zero => rfl
  | succ n ih => simp [rowB, ih]

theorem rowB_n2 (n c : Nat) : n2 (rowB n c) = rv n c := by
  induction n generalizing c with
  | zero => rfl
  | succ n ih =>
    simp only [rowB, rv]
    rw [n2_append, ih, rowB_length]
    simp [n2, Nat.mul_comm]
    omega

theorem rowB_bit (n c : Nat) : ∀ b ∈ rowB n c, b < 2 := by
  induction n generalizing c with
  | zero => simp [rowB]
  | succ n ih =>
    intro b hb
    rcases List.mem_append.1 hb with hb | hb
    · exact ih _ b hb
    · have : b = c % 2 := by simpa using hb
      omega

/-- What has come ahead of the symbol i on the round of the length n. -/
def pre (ns : List Nat) (n i t : Nat) : Prop := key ns t < n ∨ key ns t = n ∧ t < i
instance (ns : List Nat) (n i t : Nat) : Decidable (pre ns n i t) := inferInstanceAs (Decidable (_ ∨ _))

def sumP (ns : List Nat) (n i : Nat) : Nat := (((ris ns).filter (fun t => decide (pre ns n i t))).map (uk ns)).sum

theorem sumP_start (ns : List Nat) : sumP ns 1 0 = 0 := by
  unfold sumP
  rw [List.filter_eq_nil_iff.2]
  · rfl
  · intro t ht h
    have := (mem_ris.1 ht).2
    simp [pre] at h
    omega

theorem sumP_miss (ns : List Nat) (n i : Nat) (h : key ns i ≠ n) : sumP ns n (i + 1) = sumP ns n i := by
  unfold sumP
  congr 2
  refine List.filter_congr (fun t _ => decide_eq_decide.2 ?_)
  unfold pre
  constructor
  · rintro (h1 | ⟨h1, h2⟩)
    · exact .inl h1
    · refine .inr ⟨h1, ?_⟩
      by_cases e : t = i
      · subst e; exact absurd h1 h
      · omega
  · rintro (h1 | ⟨h1, h2⟩)
    · exact .inl h1
    · exact .inr ⟨h1, by omega⟩

theorem sumP_round (ns : List Nat) (n : Nat) : sumP ns n ns.length = sumP ns (n + 1) 0 := by
  unfold sumP
  congr 2
  refine List.filter_congr (fun t ht => decide_eq_decide.2 ?_)
  have := (mem_ris.1 ht).1
  unfold pre
  omega

theorem sumP_hit (ns : List Nat) (i : Nat) : sumP ns (key ns i) i = startOf ns i := by
  unfold sumP startOf
  congr 2

theorem sumP_next (ns : List Nat) (i : Nat) (hi : i ∈ ris ns) : sumP ns (key ns i) (i + 1) = startOf ns i + 2 ^ (15 - key ns i) := by
  obtain ⟨k, hk, rfl, a1, a2⟩ := place_of hi
  rw [← a2]
  unfold sumP sumTo
  congr 2
  have hs := ris_sorted ns
  have hsplit : (ris ns) = (ris ns).take k ++ (ris ns)[k] :: (ris ns).drop (k + 1) := by
    rw [← List.drop_eq_getElem_cons hk, List.take_append_drop]
  rw [List.take_succ_eq_append_getElem hk]
  generalize hx : (ris ns)[k] = x at *
  generalize hA : (ris ns).take k = A at *
  generalize (ris ns).drop (k + 1) = B at *
  rw [hsplit] at hs ⊢
  rw [List.filter_append, List.filter_cons_of_pos (by simp [pre])]
  have h1 : A.filter (fun t => decide (pre ns (key ns x) (x + 1) t)) = A := List.filter_eq_self.2 (fun a ha => by
    have := Sorted.cross hs a ha x (by simp)
    refine decide_eq_true ?_
    unfold pre
    unfold Lt at this
    omega)
  have h2 : B.filter (fun t => decide (pre ns (key ns x) (x + 1) t)) = [] := List.filter_eq_nil_iff.2 (fun b hb => by
    have := (List.pairwise_cons.1 (Sorted.right hs)).1 b hb
    intro hc
    have hc := of_decide_eq_true hc
    unfold pre at hc
    unfold Lt at this
    omega)
  rw [h1, h2]

/-- Rows of bytes and rows of slices of bytes lie apart. -/
abbrev BRow (B : Nat) := RowE B 43 slV

theorem BRow.apart {B : Nat} {w : World} {v v' : Value} {bs : List Nat} {vs : List (Option Addr × Nat × Nat)} (h : Row w v bs) (h' : BRow B w v' vs) {j g : Nat} (hj : v.ownBlock = some j) (hg : v'.ownBlock = some g) : j ≠ g := by
  rintro rfl
  rcases h.2 with ⟨rfl, _⟩ | ⟨g1, c1, cur1, rfl, _, e1, _⟩
  · simp [Value.ownBlock] at hj
  · rcases h'.2 with ⟨rfl, _⟩ | ⟨g2, c2, cur2, rfl, _, e2, _⟩
    · simp [Value.ownBlock] at hg
    · simp [Value.ownBlock] at hj hg
      subst hj hg
      rw [e1] at e2
      simp at e2

theorem Tryd.infoB : (Tryd.prog.info? 43).map (fun i => (i.zero, i.size, i.bytes)) = some (some (slV (none, 0, 0)), 1, 24) := by kernel_rfl

/-- Rows that lie in a row of slices: of the symbols that p tells. -/
structure RW (w0 w' : World) (go n : Nat) (ns : List Nat) (p : Nat → Prop) (rs : List (Option Addr × Nat × Nat)) : Prop where
  row : BRow w0.heap.size w' (.slice (some ⟨go, 0, none⟩) n n) rs
  have' : ∀ s (h : s < rs.length), p s → Row w' (slV rs[s]) (rowB (key ns s) (codeOf ns s)) ∧ ∀ k, (slV rs[s]).ownBlock = some k → w0.heap.size ≤ k
  none' : ∀ s (h : s < rs.length), ¬ p s → rs[s] = (none, 0, 0)
  same : Same w0 w'

theorem RW.mono {w0 w' : World} {go n : Nat} {ns : List Nat} {p q : Nat → Prop} {rs : List (Option Addr × Nat × Nat)} (h : RW w0 w' go n ns p rs) (hpq : ∀ s, s < rs.length → (p s ↔ q s)) : RW w0 w' go n ns q rs :=
  ⟨h.row, fun s hs hq => h.have' s hs ((hpq s hs).2 hq), fun s hs hq => h.none' s hs (fun hp => hq ((hpq s hs).1 hp)), h.same⟩

theorem RW.later {w0 w' w2 : World} {go n : Nat} {ns : List Nat} {p : Nat → Prop} {rs : List (Option Addr × Nat × Nat)} (h : RW w0 w' go n ns p rs) (hk : Same w' w2) : RW w0 w2 go n ns p rs :=
  ⟨h.row.same hk, fun s hs hp => ⟨(h.have' s hs hp).1.kept hk (fun _ _ f => f), (h.have' s hs hp).2⟩, h.none', Same.trans h.same hk⟩

/-- One row more. -/
theorem RW.put {w0 w' : World} {go n : Nat} {ns : List Nat} {p : Nat → Prop} {rs : List (Option Addr × Nat × Nat)} (h : RW w0 w' go n ns p rs) (i : Nat) (a : Option Addr) (l c : Nat) (_hi : i < rs.length) (hrow : Row w' (.slice a l c) (rowB (key ns i) (codeOf ns i))) (hb : ∀ k, (Value.slice a l c).ownBlock = some k → w0.heap.size ≤ k) :
    RW w0 (w'.setCell ⟨go, i, none⟩ (.slice a l c)) go n ns (fun s => s = i ∨ p s) (rs.set i (a, l, c)) := by
  have hk : Kept (· = go) w' (w'.setCell ⟨go, i, none⟩ (.slice a l c)) := (Kept.refl (· = go) w').setCell ⟨go, i, none⟩ _ (.inl rfl)
  have hgo : w0.heap.size ≤ go := h.row.ge rfl
  refine ⟨h.row.lay i (a, l, c), fun s hs hp => ?_, fun s hs hp => ?_, Same.then h.same hk (fun x hx e => by omega)⟩
  · rw [List.length_set] at hs
    by_cases e : i = s
    · subst e
      simp only [List.getElem_set_self]
      exact ⟨hrow.kept hk (fun k hk' e => BRow.apart hrow h.row hk' rfl e), hb⟩
    · simp only [List.getElem_set_ne e]
      have hp2 : p s := by rcases hp with h1 | h1; exact absurd h1.symm e; exact h1
      have h2 := h.have' s hs hp2
      exact ⟨h2.1.kept hk (fun k hk' e => BRow.apart h2.1 h.row hk' rfl e), h2.2⟩
  · rw [List.length_set] at hs
    have e : i ≠ s := fun e => hp (.inl e.symm)
    simp only [List.getElem_set_ne e]
    exact h.none' s hs (fun h1 => hp (.inr h1))

end Go.Proofs.YtofhlnpbflkdlaaDoor

/-
  What the reference's Next answers, and that it is what the search answers.
-/
namespace Go.Proofs.YtofhlnpbflkdlaaDoor

theorem n2_inj (a b : List Nat) (hl : a.length = b.length) (ha : ∀ x ∈ a, x < 2) (hb : ∀ x ∈ b, x < 2) (h : n2 a = n2 b) : a = b := by
  induction a generalizing b with
  | nil => cases b with
    | nil => rfl
    | cons y r => simp at hl
  | cons x l ih => cases b with
    | nil => simp at hl
    | cons y r =>
      have hx := ha x (by simp)
      have hy := hb y (by simp)
      simp only [n2] at h
      have e1 : x = y := by omega
      have e2 : n2 l = n2 r := by omega
      rw [e1, ih r (by simpa using hl) (fun z hz => ha z (by simp [hz])) (fun z hz => hb z (by simp [hz])) e2]

theorem code_lt2 {ns : List Nat} {s : Nat} (hm : measure ns ≤ 32768) (hs : s ∈ ris ns) (h15 : key ns s ≤ 15) : codeOf ns s < 2 ^ key ns s := by
  obtain ⟨k, hk, rfl, a1, a2⟩ := place_of hs
  have h1 := sumTo_mono ns (k + 1)
  have h2 := code_start ns (ris ns)[k]
  have h3 : (codeOf ns (ris ns)[k] + 1) * 2 ^ (15 - key ns (ris ns)[k]) ≤ 2 ^ key ns (ris ns)[k] * 2 ^ (15 - key ns (ris ns)[k]) := by
    rw [← Nat.pow_add, show key ns (ris ns)[k] + (15 - key ns (ris ns)[k]) = 15 by omega, Nat.add_mul, Nat.one_mul]
    have : (2 : Nat) ^ 15 = 32768 := by decide
    omega
  have := Nat.le_of_mul_le_mul_right h3 (Nat.two_pow_pos _)
  omega

/-- A symbol's row; whether it stands at the head of what is left; whether what is left stands at its head. -/
def rowOf (ns : List Nat) (s : Nat) : List Nat := rowB (key ns s) (codeOf ns s)
def Fit (ns t : List Nat) (s : Nat) : Prop := key ns s ≠ 0 ∧ rowOf ns s <+: t
def Beg (ns t : List Nat) (s : Nat) : Prop := key ns s ≠ 0 ∧ t <+: rowOf ns s

/-- What the reference's Next answers. -/
def RNext (ns t : List Nat) (is k g : Nat) : Prop :=
  (g = 0 ∧ is < ns.length ∧ Fit ns t is ∧ k = key ns is ∧ ∀ s, s < is → ¬ Fit ns t s) ∨
  (g = 10 ∧ is = 0 ∧ k = 0 ∧ (∀ s, s < ns.length → ¬ Fit ns t s) ∧ ∃ s, s < ns.length ∧ Beg ns t s) ∨
  (g = 32 ∧ is = 0 ∧ k = 0 ∧ (∀ s, s < ns.length → ¬ Fit ns t s) ∧ ∀ s, s < ns.length → ¬ Beg ns t s)

theorem rowOf_length (ns : List Nat) (s : Nat) : (rowOf ns s).length = key ns s := rowB_length _ _
theorem rowOf_n2 (ns : List Nat) (s : Nat) : n2 (rowOf ns s) = rv (key ns s) (codeOf ns s) := rowB_n2 _ _
theorem rowOf_bit (ns : List Nat) (s : Nat) : ∀ b ∈ rowOf ns s, b < 2 := rowB_bit _ _

/-- The number of what is left. -/
theorem left_n2 (bs : List Nat) (hb : ∀ b ∈ bs, b < 256) (c n : Nat) (h : c + n ≤ 8 * bs.length) : n2 (((ofBytes bs).drop c).take n) = n256 bs / 2 ^ c % 2 ^ n := by
  rw [n2_part (ofBytes bs) (ofBytes_lt bs) c n (by rw [ofBytes_length]; exact h), ofBytes_n2 bs hb]

theorem left_length (bs : List Nat) (c : Nat) : ((ofBytes bs).drop c).length = 8 * bs.length - c := by rw [List.length_drop, ofBytes_length]

theorem fit_iff {ns : List Nat} {s : Nat} (hm : measure ns ≤ 32768) (hs : s ∈ ris ns) (h15 : key ns s ≤ 15) (bs : List Nat) (hb : ∀ b ∈ bs, b < 256) (c : Nat) (hc : c ≤ 8 * bs.length) :
    Fit ns ((ofBytes bs).drop c) s ↔ key ns s ≤ 8 * bs.length - c ∧ rv (key ns s) (n256 bs / 2 ^ c) = codeOf ns s := by
  have hlen := left_length bs c
  have hcl := code_lt2 hm hs h15
  unfold Fit
  rw [List.prefix_iff_eq_take, rowOf_length]
  constructor
  · rintro ⟨_, h⟩
    have hl := congrArg List.length h
    rw [rowOf_length, List.length_take, hlen] at hl
    have hk : key ns s ≤ 8 * bs.length - c := by omega
    refine ⟨hk, ?_⟩
    have h2 := congrArg n2 h
    rw [rowOf_n2, left_n2 bs hb c _ (by omega)] at h2
    rw [← rv_mod (key ns s) (key ns s) _ (Nat.le_refl _), ← h2, rv_rv, Nat.mod_eq_of_lt hcl]
  · rintro ⟨hk, h⟩
    refine ⟨(mem_ris.1 hs).2, ?_⟩
    refine n2_inj _ _ (by rw [rowOf_length, List.length_take, hlen]; omega) (rowOf_bit ns s) (fun x hx => ofBytes_lt bs x (List.mem_of_mem_drop (List.mem_of_mem_take hx))) ?_
    rw [rowOf_n2, left_n2 bs hb c _ (by omega), ← h, rv_rv]

/-- Bits that are fewer than a code's, and that read with noughts behind them as this code, begin it. -/
theorem beg_of {ns : List Nat} {s : Nat} (hs : s ∈ ris ns) (bs : List Nat) (hb : ∀ b ∈ bs, b < 256) (c : Nat) (hc : c ≤ 8 * bs.length) (hk : 8 * bs.length - c < key ns s) (h : rv (key ns s) (n256 bs / 2 ^ c) = codeOf ns s) (hZ : n256 bs / 2 ^ c < 2 ^ (8 * bs.length - c)) : Beg ns ((ofBytes bs).drop c) s := by
  refine ⟨(mem_ris.1 hs).2, ?_⟩
  have hlen := left_length bs c
  have e : rowOf ns s = (ofBytes bs).drop c ++ List.replicate (key ns s - (8 * bs.length - c)) 0 := by
    refine n2_inj _ _ (by rw [rowOf_length, List.length_append, hlen, List.length_replicate]; omega) (rowOf_bit ns s) ?_ ?_
    · intro x hx
      rcases List.mem_append.1 hx with hx | hx
      · exact ofBytes_lt bs x (List.mem_of_mem_drop hx)
      · have := List.eq_of_mem_replicate hx; omega
    · have h1 := left_n2 bs hb c (8 * bs.length - c) (by omega)
      rw [List.take_of_length_le (by omega), Nat.mod_eq_of_lt hZ] at h1
      rw [n2_align, h1, rowOf_n2, ← h, rv_rv, Nat.mod_eq_of_lt (Nat.lt_of_lt_of_le hZ (Nat.pow_le_pow_right (by omega) (by omega)))]
  rw [e]
  exact List.prefix_append _ _

theorem find_place (ns : List Nat) (X n : Nat) (hn : n ≤ (ris ns).length) (h : X < sumTo ns n) : ∃ k, k < n ∧ sumTo ns k ≤ X ∧ X < sumTo ns (k + 1) := by
  induction n with
  | zero => simp [sumTo] at h
  | succ n ih =>
    by_cases h1 : X < sumTo ns n
    · obtain ⟨k, hk, h2⟩ := ih (by omega) h1
      exact ⟨k, by omega, h2⟩
    · exact ⟨n, by omega, by omega, h⟩

/-- One symbol alone has the length 1. -/
theorem alone_mx {ns : List Nat} (hu : (ris ns).length = 1) (hm : measure ns = 16384) (h15 : ∀ s, key ns s ≤ 15) : mxL ns ≤ 1 := by
  rcases (foldl_max ns 0).2.2 with h | h
  · unfold mxL; omega
  · obtain ⟨s, hs, e⟩ := List.getElem_of_mem h
    have ek : key ns s = mxL ns := by rw [key_get hs]; exact e
    by_cases h0 : mxL ns = 0
    · omega
    · have hr : s ∈ ris ns := mem_ris.2 ⟨hs, by omega⟩
      obtain ⟨k, hk, rfl, a1, a2⟩ := place_of hr
      have hk0 : k = 0 := by omega
      subst hk0
      have h1 := sumTo_all ns
      rw [hu] at h1
      have h2 : sumTo ns 0 = 0 := by simp [sumTo]
      have h3 : 2 ^ (15 - key ns (ris ns)[0]) = 16384 := by
        have : sumTo ns (0 + 1) = measure ns := h1
        omega
      have h4 := h15 (ris ns)[0]
      refine Classical.byContradiction (fun hc => ?_)
      have h5 : 2 ^ (15 - key ns (ris ns)[0]) ≤ 2 ^ 13 := Nat.pow_le_pow_right (by omega) (by omega)
      have h6 : (2 : Nat) ^ 13 = 8192 := by decide
      omega

theorem usedN_ris2 (ns : List Nat) : usedN ns = (ris ns).length := by
  have h : ∀ i, i ≤ ns.length → usedN (ns.take i) = (usedTo ns i).length := by
    intro i
    induction i with
    | zero => intro _; simp [usedN, usedTo]
    | succ i ih =>
      intro hi
      rw [List.take_succ_eq_append_getElem (by omega), usedN_snoc, ih (by omega), usedTo_succ, List.length_append, ← key_get (by omega)]
      by_cases h : key ns i = 0 <;> simp [h]
  have h2 := h ns.length (Nat.le_refl _)
  rw [List.take_length] at h2
  rw [h2, (ris_perm ns).length_eq]
  rfl

/-- The two answers are the same. -/
theorem next_same {zs : List Int} {ns : List Nat} (hg : Good zs ns) (bs : List Nat) (hb : ∀ b ∈ bs, b < 256) (c : Nat) (hc : c ≤ 8 * bs.length) (hZ : n256 bs / 2 ^ c < 2 ^ (8 * bs.length - c)) {sym long er is k g : Nat}
    (ha : Ans ns (min (8 * bs.length - c) (mxL ns)) (n256 bs / 2 ^ c % 2 ^ (min (8 * bs.length - c) (mxL ns))) sym long er) (hr : RNext ns ((ofBytes bs).drop c) is k g) : is = sym ∧ k = long ∧ g = er := by
  have h15 := hg.key_le
  have hm := hg.measure_le
  have hmx : mxL ns ≤ 15 := mx_le ns 15 hg.le
  have hlen := left_length bs c
  have hfit0 : ∀ s, s < ns.length → Fit ns ((ofBytes bs).drop c) s → er = 0 ∧ sym = s ∧ long = key ns s := by
    intro s hs hf
    have hsr : s ∈ ris ns := mem_ris.2 ⟨hs, hf.1⟩
    obtain ⟨h1, h2⟩ := (fit_iff hm hsr (h15 s) bs hb c hc).1 hf
    exact Ans.unique h15 hZ ha hmx hsr h1 h2
  have hok0 : er = 0 → ∃ s, s < ns.length ∧ Fit ns ((ofBytes bs).drop c) s := by
    intro e0
    rcases ha with ⟨_, hs, hlong, hle, hrv⟩ | ⟨e, _⟩ | ⟨e, _⟩
    · refine ⟨sym, (mem_ris.1 hs).1, (fit_iff hm hs (h15 sym) bs hb c hc).2 ⟨by omega, ?_⟩⟩
      rw [rv_mod _ _ _ hle, hlong] at hrv
      exact hrv
    · omega
    · omega
  have hbeg10 : er = 10 → ∃ s, s < ns.length ∧ Beg ns ((ofBytes bs).drop c) s := by
    intro e10
    rcases ha with ⟨e, _⟩ | ⟨_, _, _, hlt, hsum⟩ | ⟨e, _⟩
    · omega
    · have hmin : min (8 * bs.length - c) (mxL ns) = 8 * bs.length - c := by omega
      rw [hmin, rv_mod _ _ _ (Nat.le_refl _), ← rv_pad _ 15 _ hZ (by omega)] at hsum
      rw [hmin] at hlt
      have hX : rv 15 (n256 bs / 2 ^ c) < measure ns := by
        have hk := hg.ok
        unfold chkN at hk
        have hall : rv 15 (n256 bs / 2 ^ c) < 32768 := rv_lt 15 _
        split at hk
        · omega
        · split at hk
          · omega
          · split at hk
            · rename_i _ _ h3
              have h4 := alone_mx (by rw [← usedN_ris2]; exact h3.1) h3.2 h15
              have h5 : 8 * bs.length - c = 0 := by omega
              rw [rv_pad _ 15 _ hZ (by omega), h5]
              simp [rv, h3.2]
            · omega
      rw [← sumTo_all] at hX
      obtain ⟨i, hi, h1, h2⟩ := find_place ns _ _ (Nat.le_refl _) hX
      have hmem : (ris ns)[i] ∈ ris ns := List.getElem_mem hi
      have hkey : 8 * bs.length - c < key ns (ris ns)[i] := by
        refine Classical.byContradiction (fun hcon => ?_)
        have h3 := (upN_index ns (8 * bs.length - c) i hi).1 (by omega)
        have h4 := sumTo_le (ns := ns) (show i + 1 ≤ upN ns (8 * bs.length - c) from h3)
        omega
      refine ⟨(ris ns)[i], (mem_ris.1 hmem).1, beg_of hmem bs hb c hc hkey ?_ hZ⟩
      refine (fits_iff hmem (h15 _)).2 ?_
      rw [start_at ns i hi]
      have h5 := sumTo_succ ns i hi
      rw [uk, unit, if_neg (mem_ris.1 hmem).2] at h5
      omega
    · omega
  have hno32 : er = 32 → ∀ s, s < ns.length → ¬ Beg ns ((ofBytes bs).drop c) s := by
    intro e32 s hs hbg
    rcases ha with ⟨e, _⟩ | ⟨e, _⟩ | ⟨_, _, _, hh, _⟩
    · omega
    · omega
    · have h1 := hbg.2.length_le
      rw [rowOf_length, hlen] at h1
      have h2 := key_le_mx ns s
      have e1 : (ofBytes bs).drop c = rowOf ns s := hbg.2.eq_of_length (by rw [rowOf_length, hlen]; omega)
      have h3 := hfit0 s hs ⟨hbg.1, by rw [e1]; exact List.prefix_refl _⟩
      omega
  have hcases : er = 0 ∨ (er = 10 ∧ sym = 0 ∧ long = 0) ∨ (er = 32 ∧ sym = 0 ∧ long = 0) := by
    rcases ha with ⟨e, _⟩ | ⟨e, e1, e2, _⟩ | ⟨e, e1, e2, _⟩
    · exact .inl e
    · exact .inr (.inl ⟨e, e1, e2⟩)
    · exact .inr (.inr ⟨e, e1, e2⟩)
  rcases hr with ⟨rfl, hi, hf, rfl, _⟩ | ⟨rfl, rfl, rfl, hnf, ⟨s, hs, hbg⟩⟩ | ⟨rfl, rfl, rfl, hnf, hnb⟩
  · obtain ⟨h1, h2, h3⟩ := hfit0 is hi hf
    exact ⟨h2.symm, h3.symm, h1.symm⟩
  · rcases hcases with h | ⟨h1, h2, h3⟩ | ⟨h1, _⟩
    · obtain ⟨t, ht, hf⟩ := hok0 h
      exact absurd hf (hnf t ht)
    · exact ⟨h2.symm, h3.symm, h1.symm⟩
    · exact absurd hbg (hno32 h1 s hs)
  · rcases hcases with h | ⟨h1, _⟩ | ⟨h1, h2, h3⟩
    · obtain ⟨t, ht, hf⟩ := hok0 h
      exact absurd hf (hnf t ht)
    · obtain ⟨s, hs, hbg⟩ := hbeg10 h1
      exact absurd hbg (hnb s hs)
    · exact ⟨h2.symm, h3.symm, h1.symm⟩

/-- The same as a function. -/
def fitB (ns t : List Nat) (s : Nat) : Bool := key ns s != 0 && (rowOf ns s).isPrefixOf t
def begB (ns t : List Nat) (s : Nat) : Bool := key ns s != 0 && t.isPrefixOf (rowOf ns s)
def nextF (ns t : List Nat) : Nat × Nat × Nat :=
  match (List.range ns.length).find? (fitB ns t) with
  | some s => (s, key ns s, 0)
  | none => if (List.range ns.length).any (begB ns t) = true then (0, 0, 10) else (0, 0, 32)

theorem fitB_iff (ns t : List Nat) (s : Nat) : fitB ns t s = true ↔ Fit ns t s := by simp [fitB, Fit, List.isPrefixOf_iff_prefix]
theorem begB_iff (ns t : List Nat) (s : Nat) : begB ns t s = true ↔ Beg ns t s := by simp [begB, Beg, List.isPrefixOf_iff_prefix]

theorem nextF_is (ns t : List Nat) : RNext ns t (nextF ns t).1 (nextF ns t).2.1 (nextF ns t).2.2 := by
  unfold nextF
  split
  · rename_i s h
    rw [List.find?_range_eq_some] at h
    obtain ⟨h1, h2, h3⟩ := h
    refine .inl ⟨rfl, by simpa using h2, (fitB_iff ns t s).1 h1, rfl, fun j hj hf => ?_⟩
    have := h3 j hj
    rw [(fitB_iff ns t j).2 hf] at this
    cases this
  · rename_i h
    rw [List.find?_range_eq_none] at h
    have hnf : ∀ s, s < ns.length → ¬ Fit ns t s := fun s hs hf => by
      have := h s hs
      rw [(fitB_iff ns t s).2 hf] at this
      cases this
    split
    · rename_i h2
      obtain ⟨s, hs, hb⟩ := List.any_eq_true.1 h2
      exact .inr (.inl ⟨rfl, rfl, rfl, hnf, s, by simpa using hs, (begB_iff ns t s).1 hb⟩)
    · rename_i h2
      refine .inr (.inr ⟨rfl, rfl, rfl, hnf, fun s hs hb => h2 ?_⟩)
      exact List.any_eq_true.2 ⟨s, by simpa using hs, (begB_iff ns t s).2 hb⟩

theorem RNext.one {ns t : List Nat} {a b c a' b' c' : Nat} (h : RNext ns t a b c) (h' : RNext ns t a' b' c') : a = a' ∧ b = b' ∧ c = c' := by
  rcases h with ⟨rfl, h1, h2, rfl, h3⟩ | ⟨rfl, rfl, rfl, h1, h2⟩ | ⟨rfl, rfl, rfl, h1, h2⟩ <;> rcases h' with ⟨rfl, k1, k2, rfl, k3⟩ | ⟨rfl, rfl, rfl, k1, k2⟩ | ⟨rfl, rfl, rfl, k1, k2⟩
  · have e : a = a' := by
      rcases Nat.lt_trichotomy a a' with h | h | h
      · exact absurd h2 (k3 a h)
      · exact h
      · exact absurd k2 (h3 a' h)
    subst e
    exact ⟨rfl, rfl, rfl⟩
  · exact absurd h2 (k1 a h1)
  · exact absurd h2 (k1 a h1)
  · exact absurd k2 (h1 a' k1)
  · exact ⟨rfl, rfl, rfl⟩
  · obtain ⟨s, hs, hb⟩ := h2
    exact absurd hb (k2 s hs)
  · exact absurd k2 (h1 a' k1)
  · obtain ⟨s, hs, hb⟩ := k2
    exact absurd hb (h2 s hs)
  · exact ⟨rfl, rfl, rfl⟩

theorem nextF_of {ns t : List Nat} {is k g : Nat} (h : RNext ns t is k g) : nextF ns t = (is, k, g) := by
  obtain ⟨h1, h2, h3⟩ := (nextF_is ns t).one h
  exact Prod.ext h1 (Prod.ext h2 h3)

end Go.Proofs.YtofhlnpbflkdlaaDoor

/-
  Layer 4's answers as functions: steps that say lengths, lengths that are said in steps, heads that are read.
-/
namespace Go.Proofs.YtofhlnpbflkdlaaDoor

/-- The last one. -/
def lastN (l : List Nat) : Nat := l.getD (l.length - 1) 0

theorem lastN_mem (l : List Nat) (h : 0 < l.length) : lastN l ∈ l := by
  have hl : l.length - 1 < l.length := by omega
  have e : lastN l = l[l.length - 1] := by simp [lastN, List.getD, hl]
  rw [e]
  exact List.getElem_mem _

/-- Which length a step says, and how many times. -/
def saysM (s : Int × Int) (l : List Nat) : Option (Nat × Nat) :=
  if 0 ≤ s.1 ∧ s.1 ≤ 15 ∧ s.2 = 0 then some (s.1.toNat, 1)
  else if s.1 = 16 ∧ 0 ≤ s.2 ∧ s.2 ≤ 3 ∧ 0 < l.length then some (lastN l, s.2.toNat + 3)
  else if s.1 = 17 ∧ 0 ≤ s.2 ∧ s.2 ≤ 7 then some (0, s.2.toNat + 3)
  else if s.1 = 18 ∧ 0 ≤ s.2 ∧ s.2 ≤ 127 then some (0, s.2.toNat + 11)
  else none

theorem saysM_le {s : Int × Int} {l : List Nat} {v k : Nat} (h : saysM s l = some (v, k)) (hl : ∀ x ∈ l, x ≤ 15) : v ≤ 15 ∧ 1 ≤ k ∧ k ≤ 138 := by
  unfold saysM at h
  split at h
  · simp at h; omega
  · split at h
    · simp at h
      obtain ⟨rfl, rfl⟩ := h
      rename_i _ h2
      refine ⟨?_, by omega, by omega⟩
      exact hl _ (lastN_mem l h2.2.2.2)
    · split at h
      · simp at h; omega
      · split at h
        · simp at h; omega
        · cases h

/-- Lengths with those that a step says, n at most. -/
def withM (l : List Nat) (s : Int × Int) (n : Nat) : Option (List Nat) :=
  match saysM s l with
  | none => none
  | some (v, k) => if n < l.length + k then none else some (l ++ List.replicate k v)

theorem withM_grows {l m : List Nat} {s : Int × Int} {n : Nat} (h : withM l s n = some m) (hl : ∀ x ∈ l, x ≤ 15) : l.length < m.length ∧ m.length ≤ n ∧ ∀ x ∈ m, x ≤ 15 := by
  unfold withM at h
  split at h
  · cases h
  · rename_i v k hs
    have h1 := saysM_le hs hl
    split at h
    · cases h
    · simp only [Option.some.injEq] at h
      subst h
      rw [List.length_append, List.length_replicate]
      refine ⟨by omega, by omega, fun x hx => ?_⟩
      rcases List.mem_append.1 hx with hx | hx
      · exact hl x hx
      · have := List.eq_of_mem_replicate hx; omega

/-- Steps, one behind the other. -/
def runM (n : Nat) : List Nat → List (Int × Int) → Option (List Nat)
  | l, [] => some l
  | l, s :: r => match withM l s n with
    | none => none
    | some m => runM n m r

theorem runM_snoc (n : Nat) (l : List Nat) (ss : List (Int × Int)) (s : Int × Int) : runM n l (ss ++ [s]) = (runM n l ss).bind (fun m => withM m s n) := by
  induction ss generalizing l with
  | nil =>
    simp only [List.nil_append, runM, Option.bind_some]
    cases withM l s n <;> rfl
  | cons a r ih =>
    simp only [List.cons_append, runM]
    cases withM l a n with
    | none => rfl
    | some m => exact ih m

theorem runM_le {n : Nat} {l m : List Nat} {ss : List (Int × Int)} (h : runM n l ss = some m) (hl : ∀ x ∈ l, x ≤ 15) (hn : l.length ≤ n) : m.length ≤ n ∧ ∀ x ∈ m, x ≤ 15 := by
  induction ss generalizing l with
  | nil => simp only [runM, Option.some.injEq] at h; subst h; exact ⟨hn, hl⟩
  | cons a r ih =>
    simp only [runM] at h
    cases hw : withM l a n with
    | none => rw [hw] at h; cases h
    | some k =>
      rw [hw] at h
      have := withM_grows hw hl
      exact ih h this.2.2 this.2.1

/-- Once refused, refused. -/
theorem runM_none {n : Nat} {l : List Nat} (ss tt : List (Int × Int)) (h : runM n l ss = none) : runM n l (ss ++ tt) = none := by
  induction ss generalizing l with
  | nil => cases h
  | cons a r ih =>
    simp only [List.cons_append, runM] at h ⊢
    cases hw : withM l a n with
    | none => rfl
    | some m => rw [hw] at h; exact ih h

/-- Unpack's answer: an error, or the lengths. -/
def unpM (ss : List (Int × Int)) (n : Int) : Except Nat (List Nat) :=
  if n < 0 ∨ 316 < n then .error 1
  else match runM n.toNat [] ss with
    | none => .error 41
    | some l => if l.length < n.toNat then .error 41 else .ok l

/-- Noughts, so many; a length, so many times again. -/
def zerosM (n : Nat) : List (Int × Int) :=
  if 11 ≤ n then (18, ((min n 138 - 11 : Nat) : Int)) :: zerosM (n - min n 138)
  else if 3 ≤ n then [(17, ((n - 3 : Nat) : Int))] else List.replicate n (0, 0)
termination_by n
decreasing_by omega

def againM (v n : Nat) : List (Int × Int) :=
  if 3 ≤ n then (16, ((min n 6 - 3 : Nat) : Int)) :: againM v (n - min n 6) else List.replicate n ((v : Int), 0)
termination_by n
decreasing_by omega

/-- A length, so many times. -/
def sayM (v n : Nat) : List (Int × Int) := if v = 0 then zerosM n else ((v : Int), 0) :: againM v (n - 1)

/-- How often the first length stands. -/
def frontN (v : Nat) (l : List Nat) : Nat := (l.takeWhile (fun x => decide (x = v))).length

theorem frontN_le (v : Nat) (l : List Nat) : frontN v l ≤ l.length := by
  exact (List.takeWhile_prefix _).length_le

/-- Pack's steps. -/
def packM : List Nat → List (Int × Int)
  | [] => []
  | v :: r => sayM v (1 + frontN v r) ++ packM (r.drop (frontN v r))
termination_by l => l.length
decreasing_by simp; omega

theorem packM_cons (v : Nat) (r : List Nat) : packM (v :: r) = sayM v (1 + frontN v r) ++ packM (r.drop (frontN v r)) := by rw [packM]

/-- Pack's answer. -/
def packA (zs : List Int) : Except Nat (List (Int × Int)) :=
  if zs.length ≤ 316 ∧ ∀ z ∈ zs, 0 ≤ z ∧ z ≤ 15 then .ok (packM (zs.map Int.toNat)) else .error 1

/-- How many bits a step's number has. -/
def xbits (sym : Nat) : Nat := if sym = 16 then 2 else if sym = 17 then 3 else if sym = 18 then 7 else 0

/-- The number of so many bits at a place. -/
def numAt (ls : List Nat) (c n : Nat) : Nat := n2 ((ls.drop c).take n)

/-- One step of a head. -/
def stepF (ns ls : List Nat) (c : Nat) : Except Nat ((Nat × Nat) × Nat) :=
  if (nextF ns (ls.drop c)).2.2 ≠ 0 then .error (nextF ns (ls.drop c)).2.2
  else if ls.length < c + (nextF ns (ls.drop c)).2.1 + xbits (nextF ns (ls.drop c)).1 then .error 10
  else .ok (((nextF ns (ls.drop c)).1, numAt ls (c + (nextF ns (ls.drop c)).2.1) (xbits (nextF ns (ls.drop c)).1)), c + (nextF ns (ls.drop c)).2.1 + xbits (nextF ns (ls.drop c)).1)

/-- The steps of a head, till N lengths are said. -/
def bodyF (ns ls : List Nat) (N : Nat) : Nat → List Nat → Nat → Except Nat (List Nat × Nat)
  | 0, l, c => .ok (l, c)
  | f + 1, l, c =>
    if N ≤ l.length then .ok (l, c)
    else match stepF ns ls c with
      | .error e => .error e
      | .ok (s, c') => match withM l ((s.1 : Int), (s.2 : Int)) N with
        | none => .error 41
        | some m => bodyF ns ls N f m c'

def ord : List Nat := [16, 17, 18, 0, 8, 7, 9, 6, 10, 5, 11, 4, 12, 3, 13, 2, 14, 1, 15]

/-- The lengths of the steps' codes, when i of them are read. -/
def codesF (ls : List Nat) (c : Nat) : Nat → List Nat
  | 0 => List.replicate 19 0
  | i + 1 => (codesF ls c i).set (ord.getD i 0) (numAt ls (c + 3 * i) 3)

theorem codesF_length (ls : List Nat) (c i : Nat) : (codesF ls c i).length = 19 := by
  induction i with
  | zero => simp [codesF]
  | succ i ih => simp [codesF, ih]

theorem numAt_lt (ls : List Nat) (h : ∀ b ∈ ls, b < 2) (c n : Nat) : numAt ls c n < 2 ^ n := n2_take_lt ls h c n

theorem codesF_le (ls : List Nat) (h : ∀ b ∈ ls, b < 2) (c i : Nat) : ∀ x ∈ codesF ls c i, x ≤ 7 := by
  induction i with
  | zero => intro x hx; have := List.eq_of_mem_replicate hx; omega
  | succ i ih =>
    intro x hx
    rcases List.mem_or_eq_of_mem_set hx with hx | rfl
    · exact ih x hx
    · have := numAt_lt ls h (c + 3 * i) 3; omega

/-- A head's answer: an error, or the two lists and how many bits it has. -/
def readF (ls : List Nat) (a : Nat) : Except Nat ((List Nat × List Nat) × Nat) :=
  if ls.length < a + 14 then .error 10
  else if 286 < numAt ls a 5 + 257 ∨ 30 < numAt ls (a + 5) 5 + 1 then .error 40
  else if ls.length < a + 14 + 3 * (numAt ls (a + 10) 4 + 4) then .error 10
  else if chkN (codesF ls (a + 14) (numAt ls (a + 10) 4 + 4)) ≠ 0 then .error (chkN (codesF ls (a + 14) (numAt ls (a + 10) 4 + 4)))
  else match bodyF (codesF ls (a + 14) (numAt ls (a + 10) 4 + 4)) ls (numAt ls a 5 + 257 + (numAt ls (a + 5) 5 + 1)) (numAt ls a 5 + 257 + (numAt ls (a + 5) 5 + 1)) [] (a + 14 + 3 * (numAt ls (a + 10) 4 + 4)) with
    | .error e => .error e
    | .ok (l, c) => .ok ((l.take (numAt ls a 5 + 257), l.drop (numAt ls a 5 + 257)), c - a)

end Go.Proofs.YtofhlnpbflkdlaaDoor

/-
  Pack's steps: how many there are, and that they say the list.
-/
namespace Go.Proofs.YtofhlnpbflkdlaaDoor

theorem zerosM_big (n : Nat) (h : 11 ≤ n) : zerosM n = (18, ((min n 138 - 11 : Nat) : Int)) :: zerosM (n - min n 138) := by
  rw [zerosM, if_pos h]
theorem zerosM_mid (n : Nat) (h : n < 11) (h3 : 3 ≤ n) : zerosM n = [(17, ((n - 3 : Nat) : Int))] := by
  rw [zerosM, if_neg (by omega), if_pos h3]
theorem zerosM_few (n : Nat) (h3 : n < 3) : zerosM n = List.replicate n (0, 0) := by
  rw [zerosM, if_neg (by omega), if_neg (by omega)]
theorem againM_big (v n : Nat) (h : 3 ≤ n) : againM v n = (16, ((min n 6 - 3 : Nat) : Int)) :: againM v (n - min n 6) := by
  rw [againM, if_pos h]
theorem againM_few (v n : Nat) (h : n < 3) : againM v n = List.replicate n ((v : Int), 0) := by
  rw [againM, if_neg (by omega)]

theorem zerosM_len (n : Nat) : (zerosM n).length ≤ n := by
  induction n using Nat.strongRecOn with
  | ind n ih =>
    by_cases h : 11 ≤ n
    · rw [zerosM_big n h, List.length_cons]
      have := ih (n - min n 138) (by omega)
      omega
    · by_cases h3 : 3 ≤ n
      · rw [zerosM_mid n (by omega) h3]; simp; omega
      · rw [zerosM_few n (by omega)]; simp

theorem againM_len (v n : Nat) : (againM v n).length ≤ n := by
  induction n using Nat.strongRecOn with
  | ind n ih =>
    by_cases h : 3 ≤ n
    · rw [againM_big v n h, List.length_cons]
      have := ih (n - min n 6) (by omega)
      omega
    · rw [againM_few v n (by omega)]; simp

theorem sayM_len (v n : Nat) (h : 1 ≤ n) : (sayM v n).length ≤ n := by
  unfold sayM
  split
  · exact zerosM_len n
  · rw [List.length_cons]; have := againM_len v (n - 1); omega

theorem packM_len (l : List Nat) : (packM l).length ≤ l.length := by
  induction hn : l.length using Nat.strongRecOn generalizing l with
  | ind n ih =>
    cases l with
    | nil => simp [packM]
    | cons v r =>
      rw [packM_cons, List.length_append]
      have h1 := sayM_len v (1 + frontN v r) (by omega)
      have h2 := frontN_le v r
      have h3 := ih (r.drop (frontN v r)).length (by simp at hn ⊢; omega) _ rfl
      simp at hn h3
      omega

/-- The front is found. -/
theorem frontN_is (v : Nat) (r : List Nat) (m : Nat) (h1 : ∀ j (_ : j < r.length), j < m → r[j] = v) (hm : m ≤ r.length) (h2 : ∀ h : m < r.length, r[m] ≠ v) : frontN v r = m := by
  induction r generalizing m with
  | nil => simp at hm; subst hm; rfl
  | cons a r ih =>
    cases m with
    | zero =>
      have := h2 (by simp)
      simp at this
      simp [frontN, this]
    | succ m =>
      have ha := h1 0 (by simp) (by omega)
      simp at ha
      have h3 := ih m (fun j hj hjm => h1 (j + 1) (by simpa using hj) (by omega)) (by simpa using hm) (fun h => h2 (by simpa using h))
      unfold frontN at h3 ⊢
      rw [List.takeWhile_cons, if_pos (by simp [ha]), List.length_cons, h3]

theorem frontN_all (v : Nat) (r : List Nat) (j : Nat) (hj : j < r.length) (h : j < frontN v r) : r[j] = v := by
  induction r generalizing j with
  | nil => simp at hj
  | cons a r ih =>
    unfold frontN at h
    rw [List.takeWhile_cons] at h
    by_cases ha : a = v
    · cases j with
      | zero => simpa using ha
      | succ j =>
        rw [if_pos (by simp [ha]), List.length_cons] at h
        simpa using ih j (by simpa using hj) (by unfold frontN; omega)
    · rw [if_neg (by simp [ha])] at h
      simp at h

/-- A list's front and the rest. -/
theorem front_split (v : Nat) (r : List Nat) : v :: r = List.replicate (1 + frontN v r) v ++ r.drop (frontN v r) := by
  have h := frontN_le v r
  rw [Nat.add_comm, List.replicate_succ, List.cons_append]
  congr 1
  have e : r.take (frontN v r) = List.replicate (frontN v r) v := by
    refine List.ext_getElem (by simp; omega) (fun j h1 h2 => ?_)
    simp at h1
    rw [List.getElem_take, List.getElem_replicate, frontN_all v r j (by omega) (by omega)]
  rw [← e, List.take_append_drop]

/-- runs that say themselves. -/
theorem withM_ok {l : List Nat} {s : Int × Int} {n v k : Nat} (h : saysM s l = some (v, k)) (hf : l.length + k ≤ n) : withM l s n = some (l ++ List.replicate k v) := by
  unfold withM
  rw [h]
  simp only
  rw [if_neg (by omega)]

theorem runM_append (n : Nat) (l : List Nat) (ss tt : List (Int × Int)) : runM n l (ss ++ tt) = (runM n l ss).bind (fun m => runM n m tt) := by
  induction ss generalizing l with
  | nil => rfl
  | cons a r ih =>
    simp only [List.cons_append, runM]
    cases withM l a n with
    | none => rfl
    | some m => exact ih m

theorem runM_one (n : Nat) (l : List Nat) (s : Int × Int) : runM n l [s] = withM l s n := by
  simp only [runM]
  cases withM l s n <;> rfl

theorem says_plain (v : Nat) (l : List Nat) (h : v ≤ 15) : saysM ((v : Int), 0) l = some (v, 1) := by
  unfold saysM
  rw [if_pos ⟨by omega, by simp only; omega, rfl⟩]
  simp

theorem runM_plain (n v k : Nat) (l : List Nat) (h : v ≤ 15) (hf : l.length + k ≤ n) : runM n l (List.replicate k ((v : Int), 0)) = some (l ++ List.replicate k v) := by
  induction k generalizing l with
  | zero => simp [runM]
  | succ k ih =>
    rw [List.replicate_succ, runM, withM_ok (says_plain v l h) (by omega)]
    simp only
    rw [ih _ (by simp; omega), List.append_assoc, List.replicate_append_replicate, Nat.add_comm]

theorem runM_zeros (n m : Nat) (l : List Nat) (hf : l.length + m ≤ n) : runM n l (zerosM m) = some (l ++ List.replicate m 0) := by
  induction m using Nat.strongRecOn generalizing l with
  | ind m ih =>
    by_cases h : 11 ≤ m
    · rw [zerosM_big m h, runM]
      have hs : saysM (18, ((min m 138 - 11 : Nat) : Int)) l = some (0, min m 138) := by
        unfold saysM
        rw [if_neg (by simp), if_neg (by simp), if_neg (by simp), if_pos ⟨rfl, by omega, by omega⟩]
        simp; omega
      rw [withM_ok hs (by omega)]
      simp only
      rw [ih (m - min m 138) (by omega) _ (by simp; omega), List.append_assoc, List.replicate_append_replicate, show min m 138 + (m - min m 138) = m by omega]
    · by_cases h3 : 3 ≤ m
      · rw [zerosM_mid m (by omega) h3, runM_one]
        have hs : saysM (17, ((m - 3 : Nat) : Int)) l = some (0, m) := by
          unfold saysM
          rw [if_neg (by simp), if_neg (by simp), if_pos ⟨rfl, by omega, by omega⟩]
          simp; omega
        exact withM_ok hs hf
      · rw [zerosM_few m (by omega)]
        exact runM_plain n 0 m l (by omega) hf

theorem runM_again (n v m : Nat) (l : List Nat) (h15 : v ≤ 15) (hl : 0 < l.length) (hv : lastN l = v) (hf : l.length + m ≤ n) : runM n l (againM v m) = some (l ++ List.replicate m v) := by
  induction m using Nat.strongRecOn generalizing l with
  | ind m ih =>
    by_cases h : 3 ≤ m
    · rw [againM_big v m h, runM]
      have hs : saysM (16, ((min m 6 - 3 : Nat) : Int)) l = some (v, min m 6) := by
        unfold saysM
        rw [if_neg (by simp), if_pos ⟨rfl, by omega, by omega, hl⟩, hv]
        simp; omega
      rw [withM_ok hs (by omega)]
      simp only
      have hlast : lastN (l ++ List.replicate (min m 6) v) = v := by
        have hk : 0 < min m 6 := by omega
        generalize min m 6 = k at hk ⊢
        obtain ⟨k, rfl⟩ : ∃ j, k = j + 1 := ⟨k - 1, by omega⟩
        unfold lastN
        rw [List.replicate_succ', ← List.append_assoc]
        simp
      rw [ih (m - min m 6) (by omega) _ (by simp; omega) hlast (by simp; omega), List.append_assoc, List.replicate_append_replicate, show min m 6 + (m - min m 6) = m by omega]
    · rw [againM_few v m (by omega)]
      exact runM_plain n v m l h15 hf

theorem runM_say (n v m : Nat) (l : List Nat) (h15 : v ≤ 15) (hm : 1 ≤ m) (hf : l.length + m ≤ n) : runM n l (sayM v m) = some (l ++ List.replicate m v) := by
  unfold sayM
  split
  · rename_i h0
    subst h0
    exact runM_zeros n m l hf
  · rw [runM, withM_ok (says_plain v l h15) (by omega)]
    simp only
    have hlast : lastN (l ++ List.replicate 1 v) = v := by simp [lastN]
    rw [runM_again n v (m - 1) _ h15 (by simp) hlast (by simp; omega), List.append_assoc, List.replicate_append_replicate, show 1 + (m - 1) = m by omega]

/-- What is packed is unpacked. -/
theorem runM_pack (n : Nat) (r : List Nat) (l : List Nat) (h15 : ∀ x ∈ r, x ≤ 15) (hf : l.length + r.length ≤ n) : runM n l (packM r) = some (l ++ r) := by
  induction hn : r.length using Nat.strongRecOn generalizing r l with
  | ind k ih =>
    cases r with
    | nil => simp [packM, runM]
    | cons v r =>
      have hfr := frontN_le v r
      rw [packM_cons, runM_append, runM_say n v _ l (h15 v (by simp)) (by omega) (by simp at hf; omega)]
      simp only [Option.bind_some]
      rw [ih (r.drop (frontN v r)).length (by simp at hn ⊢; omega) _ _ (fun x hx => h15 x (List.mem_cons_of_mem _ (List.mem_of_mem_drop hx))) (by simp at hf ⊢; omega) rfl, List.append_assoc, ← front_split]

end Go.Proofs.YtofhlnpbflkdlaaDoor

/-
  The reference's layer 4: lengths, times, says, With, Unpack.
-/
namespace Go.Proofs.YtofhlnpbflkdlaaDoor
open Go.RowKit

/-- A step's cells. -/
def stC (s : Int × Int) : List Value := [.int .i64 s.1, .int .i64 s.2]

theorem stC_ok : EncOk stC 2 := ⟨fun _ => rfl, fun x u hu => by simp [stC] at hu; rcases hu with rfl | rfl <;> rfl, by decide⟩

abbrev StRow (B : Nat) := RowC B 31 2 stC
abbrev StSrc := @SrcC (Int × Int) 2 stC

theorem Tryd.infoSt : (Tryd.prog.info? 31).map (fun i => (i.zero, i.size, i.bytes)) = some (some (.agg #[.int .i64 0, .int .i64 0]), 2, 16) := by kernel_rfl

theorem step_new (w : World) (x y : Int) : CellsAt (w.alloc (.cells #[.int .i64 x, .int .i64 y] 31)) ⟨w.heap.size, 0, none⟩ ([(x, y)].flatMap stC) := by
  intro j u hu
  match j, hu with
  | 0, hu => simp [stC] at hu; subst hu; simp [addAt]
  | 1, hu => simp [stC] at hu; subst hu; simp [addAt]
  | j + 2, hu => simp [stC] at hu

/-- append of one step. -/
theorem wpList_append_step {ops : Array Oper} {rest : List Oper} {o : Oper} {a : Act} {Q : Exit → Act → World → Prop} (w : World) (B : Nat) (hgd : o.guard = none) (s x : Operand)
    (ho : o.op = .call { callee := .builtin .append, args := #[s, x], argTypes := #[25, 25] })
    (v : Value) (ss : List (Int × Int)) (hs : a.eval s = v) (hrow : StRow B w v ss) (ad : Addr) (y : Int × Int) (hx : a.eval x = .slice (some ad) 1 1) (hcs : CellsAt w ad ([y].flatMap stC)) (hlen : ss.length + 1 ≤ 1000000000) (hB : B ≤ w.heap.size)
    (h : ∀ v' w', StRow B w' v' (ss ++ [y]) → w.grownBy w' v.ownBlock → wpList Tryd.prog ops Q rest (a.put o.dst v') w') : wpList Tryd.prog ops Q (o :: rest) a w :=
  wpList_append_c w stC 2 stC_ok (by decide) B 25 31 (.agg #[.int .i64 0, .int .i64 0]) 16 Tryd.underlying25 Tryd.infoSt rfl (by decide) hgd s x ho v ss hs hrow ad 1 1 [y] hx rfl hcs hlen hB h

/-- What lies at B or beyond may have turned. -/
abbrev Over (B : Nat) (k : Nat) : Prop := B ≤ k

theorem Kept.over {B : Nat} {a b c : World} (h : Kept (Over B) a b) (k : Kept (Over B) b c) : Kept (Over B) a c := Kept.trans h k (fun _ _ x => x) (fun _ _ x => x)
theorem Kept.same_over {a b : World} {B : Nat} (h : Kept (Over B) a b) (hB : a.heap.size ≤ B) : Same a b := h.mono (fun x hx e => by unfold Over at e; omega)
theorem Same.over {a b : World} (B : Nat) (h : Same a b) : Kept (Over B) a b := h.mono (fun _ _ e => e.elim)

/-- May all lengths be? -/
def lensOk (zs : List Int) : Bool := !(zs.any (badI 0 15))

theorem lensOk_iff (zs : List Int) : lensOk zs = true ↔ ∀ z ∈ zs, 0 ≤ z ∧ z ≤ 15 := by
  simp only [lensOk, Bool.not_eq_true', List.any_eq_false, badI]
  constructor
  · intro h z hz; have := h z hz; simp at this; omega
  · intro h z hz; have := h z hz; simp; omega

set_option maxHeartbeats 1000000 in
theorem lengths_any (w : World) (v : Value) (I : Nat → Prop) (zs : List Int) (hs : SrcE intV w I v zs) (hn : zs.length ≤ 10000000) :
    Calls Tryd.prog 37 #[v] w fun e w' => e = .returned (.bool (lensOk zs)) ∧ w' = w := by
  obtain ⟨ao, cap, rfl, hx1, hx2⟩ := id hs
  clear hx1 hx2
  have HS : Hid (SrcE intV w I (.slice ao zs.length cap) zs) := hs
  clear hs
  go_enter Tryd.func37, Tryd.ntmps37
  go_wp2_with fail
  go_loopg [3] zs.length (fun q zi wr => ∃ (i : Nat), zs.length - i ≤ q ∧ i ≤ zs.length ∧ zi = .int .i64 (i : Nat) ∧ wr = w ∧ Hid ((zs.take i).any (badI 0 15) = false))
  case atStart => exact ⟨0, by omega, by omega, rfl, rfl, hid (by simp)⟩
  case round =>
    obtain ⟨i, hq, hi, rfl, rfl, HF⟩ := hrel
    by_cases hlt : i < zs.length
    · obtain ⟨b, o, cap', e, _, _, cx⟩ := HS.out.get i hlt
      simp only [Value.slice.injEq] at e
      obtain ⟨rfl, hxe, rfl⟩ := e
      clear hxe
      obtain ⟨x, hx⟩ : ∃ x, x = zs[i] := ⟨_, rfl⟩
      rw [← hx] at cx
      unfold intV at cx
      have HX : Hid (x = zs[i]) := hx
      have HBAD : Hid (badI 0 15 x = true → lensOk zs = false) := hid (fun h => by
        have : zs.any (badI 0 15) = true := List.any_eq_true.2 ⟨x, by rw [hx]; exact List.getElem_mem _, h⟩
        simp [lensOk, this])
      clear hx
      by_cases hneg : x < 0
      · have HE : Hid (lensOk zs = false) := hid (HBAD.out (by simp [badI]; omega))
        go_wp2_with fail
        go_ret
        exact ⟨by rw [HE.out]; rfl, rfl⟩
      · by_cases hbig : 15 < x
        · have HE : Hid (lensOk zs = false) := hid (HBAD.out (by simp [badI]; omega))
          go_wp2_with fail
          go_ret
          exact ⟨by rw [HE.out]; rfl, rfl⟩
        · have HOKX : Hid (badI 0 15 x = false) := hid (by simp [badI]; omega)
          go_wp2_with fail
          go_roundg (gk - 1)
          case measure => omega
          case rel => exact ⟨i + 1, by omega, by omega, by go_num, rfl, hid (by rw [List.take_succ_eq_append_getElem hlt, List.any_append, HF.out, ← HX.out]; simp [HOKX.out])⟩
    · have HE : Hid (lensOk zs = true) := hid (by
        have h := HF.out
        rw [List.take_of_length_le (by omega)] at h
        simp [lensOk, h])
      go_wp2_with fail
      go_ret
      exact ⟨by rw [HE.out]; rfl, rfl⟩

set_option maxHeartbeats 1000000 in
theorem times_any (w : World) (B : Nat) (v : Value) (ss : List (Int × Int)) (n : Nat) (sym : Int) (hrow : StRow B w v ss) (hB : B ≤ w.heap.size) (hlen : ss.length + n ≤ 1000000) :
    Calls Tryd.prog 38 #[v, .int .i64 (n : Nat), .int .i64 sym] w fun e w' => ∃ v', e = .returned v' ∧ StRow B w' v' (ss ++ List.replicate n (sym, 0)) ∧ Kept (Over B) w w' := by
  have HR : Hid (StRow B w v ss) := hrow
  clear hrow
  go_enter Tryd.func38, Tryd.ntmps38
  go_wp2_with fail
  go_loopg [0, 7] n (fun q zv zi wr => ∃ (i : Nat), n - i ≤ q ∧ i ≤ n ∧ zi = .int .i64 (i : Nat) ∧ Hid (StRow B wr zv (ss ++ List.replicate i (sym, 0))) ∧ Hid (Kept (Over B) w wr))
  case atStart => exact ⟨0, by omega, by omega, rfl, hid (by simpa using HR.out), Kept.refl _ _⟩
  case round =>
    obtain ⟨i, hq, hi, rfl, HV, HK⟩ := hrel
    by_cases hlt : i < n
    · have hsz := HK.out.size
      have HL : Hid ((ss ++ List.replicate i (sym, (0 : Int))).length + 1 ≤ 1000000000) := hid (by simp; omega)
      go_wp2_with (at_builtin; refine wpList_append_step _ B rfl (.tmp 13) (.tmp 16) rfl u0 _ rfl (World.ownsRow.alloc HV.out _) ⟨wr.heap.size, 0, none⟩ (sym, 0) rfl (step_new _ _ _) HL.out (by simp; omega) ?_; intro v1 w1 hr1 hg1)
      have HV1 : Hid (StRow B w1 v1 (ss ++ List.replicate (i + 1) (sym, 0))) := hid (by rw [List.replicate_succ', ← List.append_assoc]; exact hr1)
      have HK1 : Hid (Kept (Over B) w w1) := hid ((HK.out.alloc _).grown hg1 (fun k e => .inl (by have := HV.out.ge e; exact this)))
      clear hr1 hg1
      go_wp2_with fail
      go_roundg (gk - 1)
      case measure => omega
      case rel => exact ⟨i + 1, by omega, by omega, by go_num, HV1, HK1⟩
    · have hin : i = n := by omega
      go_wp2_with fail
      go_ret
      exact ⟨_, rfl, by rw [← hin]; exact HV.out, HK.out⟩

/-- says' answer as a value. -/
def saysV : Option (Nat × Nat) → Value
  | some (v, k) => .tuple #[.int .i64 (v : Nat), .int .i64 (k : Nat), .bool true]
  | none => .tuple #[.int .i64 0, .int .i64 0, .bool false]

set_option maxRecDepth 100000 in
set_option maxHeartbeats 2000000 in
theorem says_any (w : World) (v : Value) (I : Nat → Prop) (l : List Nat) (a b : Int) (hs : SrcE natV w I v l) (hl : l.length ≤ 1000000) :
    Calls Tryd.prog 60 #[.agg #[.int .i64 a, .int .i64 b], v] w fun e w' => e = .returned (saysV (saysM (a, b) l)) ∧ Same w w' := by
  obtain ⟨ao, cap, rfl, hx1, hx2⟩ := id hs
  clear hx1 hx2
  have HS : Hid (SrcE natV w I (.slice ao l.length cap) l) := hs
  clear hs
  obtain ⟨L, hL⟩ : ∃ L, L = l.length := ⟨_, rfl⟩
  have HL : Hid (L = l.length) := hL
  by_cases h0 : 0 ≤ a
  · by_cases h15 : a ≤ 15
    · by_cases hb0 : b = 0
      · have HE : Hid (saysM (a, b) l = some (a.toNat, 1)) := hid (by unfold saysM; rw [if_pos ⟨h0, h15, hb0⟩])
        have ha : ((a.toNat : Nat) : Int) = a := by omega
        have HA : Hid (((a.toNat : Nat) : Int) = a) := ha
        subst hb0
        clear ha
        go_enter Tryd.func60, Tryd.ntmps60
        go_wp2_with fail
        refine bodyPost_ret (v := .tuple #[.int .i64 a, .int .i64 1, .bool true]) (by simp [results, Tryd.results60, go_sem]) rfl ⟨by rw [HE.out]; simp only [saysV]; rw [HA.out]; rfl, (Kept.refl _ w).alloc _⟩
      · have HE : Hid (saysM (a, b) l = none) := hid (by unfold saysM; simp only; repeat (rw [if_neg (by omega)]))
        have eb : (b == 0) = false := by simp; omega
        have e16 : (a == 16) = false := by simp; omega
        have e17 : (a == 17) = false := by simp; omega
        have e18 : (a == 18) = false := by simp; omega
        go_enter Tryd.func60, Tryd.ntmps60
        go_wp2_with fail
        refine bodyPost_ret (v := .tuple #[.int .i64 0, .int .i64 0, .bool false]) (by simp [results, Tryd.results60, go_sem]) rfl ⟨by rw [HE.out]; rfl, ((Kept.refl _ w).alloc _)⟩
    · have hd15 : decide (a ≤ 15) = false := by simp; omega
      by_cases h16 : a = 16
      · subst h16
        by_cases hb0 : 0 ≤ b
        · by_cases hb3 : b ≤ 3
          · by_cases hl0 : 0 < l.length
            · have HE : Hid (saysM (16, b) l = some (lastN l, b.toNat + 3)) := hid (by unfold saysM; rw [if_neg (by simp), if_pos ⟨rfl, hb0, hb3, hl0⟩])
              obtain ⟨b2, o2, cap2, e2, _, _, c2⟩ := HS.out.get (l.length - 1) (by omega)
              simp only [Value.slice.injEq] at e2
              obtain ⟨rfl, hxe, rfl⟩ := e2
              clear hxe
              obtain ⟨x, hx⟩ : ∃ x, x = lastN l := ⟨_, rfl⟩
              have hle : l[l.length - 1] = x := by rw [hx]; simp [lastN, List.getD, show l.length - 1 < l.length by omega]
              rw [hle] at c2
              unfold natV at c2
              have HX : Hid (x = lastN l) := hx
              clear hx hle
              obtain ⟨m, hm⟩ : ∃ m, m = l.length - 1 := ⟨_, rfl⟩
              rw [← hm] at c2
              have hmI : (L : Int) - 1 = (m : Int) := by omega
              have hmL : m < L := by omega
              have hwm : IntKind.i64.wrap (m : Int) = (m : Int) := by rw [IntKind.wrap_i64]; omega
              obtain ⟨k, hk⟩ : ∃ k, k = b.toNat + 3 := ⟨_, rfl⟩
              have hkI : b + 3 = (k : Int) := by omega
              have hwk : IntKind.i64.wrap (k : Int) = (k : Int) := by rw [IntKind.wrap_i64]; omega
              have HKK : Hid (k = b.toNat + 3) := hk
              have hlb : b2 < w.heap.size := World.block_lt_of_cell? w _ c2
              have c3 : (w.alloc (.cells #[.int .i64 16, .int .i64 b] 31)).cell? ⟨b2, o2 + m, none⟩ = some (.int .i64 (x : Nat)) := ((Kept.refl (fun _ => False) w).alloc _).cell c2 (fun h => h)
              rw [← hL] at hl0 ⊢
              clear hL hm hk c2
              go_enter Tryd.func60, Tryd.ntmps60
              go_wp2_with fail
              go_quiet (fail)
              go_wp2_with fail
              refine bodyPost_ret (v := .tuple #[.int .i64 (x : Nat), .int .i64 (k : Nat), .bool true]) (by simp [results, Tryd.results60, go_sem]) rfl ⟨by rw [HE.out]; simp only [saysV]; rw [← HX.out, ← HKK.out], ((Kept.refl _ w).alloc _).drewN _⟩
            · have HE : Hid (saysM (16, b) l = none) := hid (by unfold saysM; simp only; repeat (rw [if_neg (by omega)]))
              have hl1 : L = 0 := by omega
              rw [← hL] at hl ⊢
              clear hl0 hL HS
              subst hl1
              go_enter Tryd.func60, Tryd.ntmps60
              go_wp2_with fail
              refine bodyPost_ret (v := .tuple #[.int .i64 0, .int .i64 0, .bool false]) (by simp [results, Tryd.results60, go_sem]) rfl ⟨by rw [HE.out]; rfl, ((Kept.refl _ w).alloc _)⟩
          · have HE : Hid (saysM (16, b) l = none) := hid (by unfold saysM; simp only; repeat (rw [if_neg (by omega)]))
            have hb4 : decide (b ≤ 3) = false := by simp; omega
            go_enter Tryd.func60, Tryd.ntmps60
            go_wp2_with fail
            refine bodyPost_ret (v := .tuple #[.int .i64 0, .int .i64 0, .bool false]) (by simp [results, Tryd.results60, go_sem]) rfl ⟨by rw [HE.out]; rfl, ((Kept.refl _ w).alloc _)⟩
        · have HE : Hid (saysM (16, b) l = none) := hid (by unfold saysM; simp only; repeat (rw [if_neg (by omega)]))
          have hb4 : decide (0 ≤ b) = false := by simp; omega
          go_enter Tryd.func60, Tryd.ntmps60
          go_wp2_with fail
          refine bodyPost_ret (v := .tuple #[.int .i64 0, .int .i64 0, .bool false]) (by simp [results, Tryd.results60, go_sem]) rfl ⟨by rw [HE.out]; rfl, ((Kept.refl _ w).alloc _)⟩
      · have e16 : (a == 16) = false := by simp; omega
        by_cases h17 : a = 17
        · subst h17
          by_cases hb0 : 0 ≤ b
          · by_cases hb3 : b ≤ 7
            · have HE : Hid (saysM (17, b) l = some (0, b.toNat + 3)) := hid (by unfold saysM; rw [if_neg (by simp), if_neg (by simp), if_pos ⟨rfl, hb0, hb3⟩])
              obtain ⟨k, hk⟩ : ∃ k, k = b.toNat + 3 := ⟨_, rfl⟩
              have hkI : b + 3 = (k : Int) := by omega
              have hwk : IntKind.i64.wrap (k : Int) = (k : Int) := by rw [IntKind.wrap_i64]; omega
              have HKK : Hid (k = b.toNat + 3) := hk
              clear hk
              go_enter Tryd.func60, Tryd.ntmps60
              go_wp2_with fail
              go_quiet (fail)
              go_wp2_with fail
              refine bodyPost_ret (v := .tuple #[.int .i64 0, .int .i64 (k : Nat), .bool true]) (by simp [results, Tryd.results60, go_sem]) rfl ⟨by rw [HE.out]; simp only [saysV]; rw [← HKK.out]; rfl, ((Kept.refl _ w).alloc _).drewN _⟩
            · have HE : Hid (saysM (17, b) l = none) := hid (by unfold saysM; simp only; repeat (rw [if_neg (by omega)]))
              have hb4 : decide (b ≤ 7) = false := by simp; omega
              go_enter Tryd.func60, Tryd.ntmps60
              go_wp2_with fail
              refine bodyPost_ret (v := .tuple #[.int .i64 0, .int .i64 0, .bool false]) (by simp [results, Tryd.results60, go_sem]) rfl ⟨by rw [HE.out]; rfl, ((Kept.refl _ w).alloc _)⟩
          · have HE : Hid (saysM (17, b) l = none) := hid (by unfold saysM; simp only; repeat (rw [if_neg (by omega)]))
            have hb4 : decide (0 ≤ b) = false := by simp; omega
            go_enter Tryd.func60, Tryd.ntmps60
            go_wp2_with fail
            refine bodyPost_ret (v := .tuple #[.int .i64 0, .int .i64 0, .bool false]) (by simp [results, Tryd.results60, go_sem]) rfl ⟨by rw [HE.out]; rfl, ((Kept.refl _ w).alloc _)⟩
        · have e17 : (a == 17) = false := by simp; omega
          by_cases h18 : a = 18
          · subst h18
            by_cases hb0 : 0 ≤ b
            · by_cases hb3 : b ≤ 127
              · have HE : Hid (saysM (18, b) l = some (0, b.toNat + 11)) := hid (by unfold saysM; rw [if_neg (by simp), if_neg (by simp), if_neg (by simp), if_pos ⟨rfl, hb0, hb3⟩])
                obtain ⟨k, hk⟩ : ∃ k, k = b.toNat + 11 := ⟨_, rfl⟩
                have hkI : b + 11 = (k : Int) := by omega
                have hwk : IntKind.i64.wrap (k : Int) = (k : Int) := by rw [IntKind.wrap_i64]; omega
                have HKK : Hid (k = b.toNat + 11) := hk
                clear hk
                go_enter Tryd.func60, Tryd.ntmps60
                go_wp2_with fail
                go_quiet (fail)
                go_wp2_with fail
                refine bodyPost_ret (v := .tuple #[.int .i64 0, .int .i64 (k : Nat), .bool true]) (by simp [results, Tryd.results60, go_sem]) rfl ⟨by rw [HE.out]; simp only [saysV]; rw [← HKK.out]; rfl, ((Kept.refl _ w).alloc _).drewN _⟩
              · have HE : Hid (saysM (18, b) l = none) := hid (by unfold saysM; simp only; repeat (rw [if_neg (by omega)]))
                have hb4 : decide (b ≤ 127) = false := by simp; omega
                go_enter Tryd.func60, Tryd.ntmps60
                go_wp2_with fail
                refine bodyPost_ret (v := .tuple #[.int .i64 0, .int .i64 0, .bool false]) (by simp [results, Tryd.results60, go_sem]) rfl ⟨by rw [HE.out]; rfl, ((Kept.refl _ w).alloc _)⟩
            · have HE : Hid (saysM (18, b) l = none) := hid (by unfold saysM; simp only; repeat (rw [if_neg (by omega)]))
              have hb4 : decide (0 ≤ b) = false := by simp; omega
              go_enter Tryd.func60, Tryd.ntmps60
              go_wp2_with fail
              refine bodyPost_ret (v := .tuple #[.int .i64 0, .int .i64 0, .bool false]) (by simp [results, Tryd.results60, go_sem]) rfl ⟨by rw [HE.out]; rfl, ((Kept.refl _ w).alloc _)⟩
          · have HE : Hid (saysM (a, b) l = none) := hid (by unfold saysM; simp only; repeat (rw [if_neg (by omega)]))
            have e18 : (a == 18) = false := by simp; omega
            go_enter Tryd.func60, Tryd.ntmps60
            go_wp2_with fail
            refine bodyPost_ret (v := .tuple #[.int .i64 0, .int .i64 0, .bool false]) (by simp [results, Tryd.results60, go_sem]) rfl ⟨by rw [HE.out]; rfl, ((Kept.refl _ w).alloc _)⟩
  · have HE : Hid (saysM (a, b) l = none) := hid (by unfold saysM; simp only; repeat (rw [if_neg (by omega)]))
    have hda : decide (0 ≤ a) = false := by simp; omega
    have e16 : (a == 16) = false := by simp; omega
    have e17 : (a == 17) = false := by simp; omega
    have e18 : (a == 18) = false := by simp; omega
    go_enter Tryd.func60, Tryd.ntmps60
    go_wp2_with fail
    refine bodyPost_ret (v := .tuple #[.int .i64 0, .int .i64 0, .bool false]) (by simp [results, Tryd.results60, go_sem]) rfl ⟨by rw [HE.out]; rfl, ((Kept.refl _ w).alloc _)⟩

end Go.Proofs.YtofhlnpbflkdlaaDoor

/-
  The reference's With and Unpack.
-/
namespace Go.Proofs.YtofhlnpbflkdlaaDoor
open Go.RowKit

set_option maxRecDepth 100000 in
set_option maxHeartbeats 2000000 in
theorem with_no (w : World) (B : Nat) (v : Value) (l : List Nat) (a b : Int) (n : Nat) (hr : NRow B w v l) (hl : l.length ≤ 1000000) (hl15 : ∀ x ∈ l, x ≤ 15) (_hn : n ≤ 1000000) (h : withM l (a, b) n = none) :
    Calls Tryd.prog 41 #[v, .agg #[.int .i64 a, .int .i64 b], .int .i64 (n : Nat)] w fun e w' => e = .returned (.tuple #[.slice none 0 0, .int .i64 41]) ∧ Same w w' := by
  obtain ⟨ao, cap, hv, h1, h2, _⟩ := hr.shape
  subst hv
  have HR : Hid (NRow B w (.slice ao l.length cap) l) := hr
  have HSY := says_any (w.alloc (.cells #[.int .i64 a, .int .i64 b] 31)) _ _ l a b (SrcE.ofRow (World.ownsRow.alloc hr _)) hl
  have HW : Hid (withM l (a, b) n = none) := h
  have H15 : Hid (∀ x ∈ l, x ≤ 15) := hl15
  obtain ⟨L, hL⟩ : ∃ L, L = l.length := ⟨_, rfl⟩
  have HL : Hid (L = l.length) := hL
  rw [← hL] at hl HSY HR ⊢
  clear hr h hL h1 h2 hl15
  go_enter Tryd.func41, Tryd.ntmps41
  cases hsm : saysM (a, b) l with
  | none =>
    rw [hsm] at HSY
    unfold saysV at HSY
    go_wp2_with fail
    refine HSY.mono ?_
    rintro e w2 ⟨rfl, hk⟩
    have HK : Hid (Same w w2) := hid (Same.trans ((Kept.refl _ w).alloc _) hk)
    clear hk HSY hsm
    go_wp2_with fail
    go_ret2
    exact ⟨rfl, HK.out⟩
  | some p =>
    obtain ⟨x, k⟩ := p
    rw [hsm] at HSY
    have hk1 := saysM_le hsm H15.out
    have hbig : n < l.length + k := by
      have h := HW.out
      unfold withM at h
      rw [hsm] at h
      simp only at h
      split at h
      · assumption
      · cases h
    unfold saysV at HSY
    obtain ⟨t, ht⟩ : ∃ t, t = L + k := ⟨_, rfl⟩
    have htI : (L : Int) + (k : Int) = (t : Int) := by omega
    have htn : n < t := by have := HL.out; omega
    clear ht hbig hsm
    go_wp2_with fail
    refine HSY.mono ?_
    rintro e w2 ⟨rfl, hk⟩
    have HK : Hid (Same w w2) := hid (Same.trans ((Kept.refl _ w).alloc _) hk)
    clear hk HSY
    go_wp2_with fail
    go_ret2
    exact ⟨rfl, HK.out⟩

set_option maxRecDepth 100000 in
set_option maxHeartbeats 2000000 in
theorem with_yes (w : World) (B : Nat) (v : Value) (l m : List Nat) (a b : Int) (n : Nat) (hr : NRow B w v l) (hl : l.length ≤ 1000000) (hl15 : ∀ x ∈ l, x ≤ 15) (hn : n ≤ 1000000) (h : withM l (a, b) n = some m) :
    Calls Tryd.prog 41 #[v, .agg #[.int .i64 a, .int .i64 b], .int .i64 (n : Nat)] w fun e w' => ∃ v', e = .returned (.tuple #[v', .int .i64 0]) ∧ New w w' v' m := by
  obtain ⟨ao, cap, hv, h1, h2, _⟩ := hr.shape
  subst hv
  have HR : Hid (NRow B w (.slice ao l.length cap) l) := hr
  have HSY := says_any (w.alloc (.cells #[.int .i64 a, .int .i64 b] 31)) _ _ l a b (SrcE.ofRow (World.ownsRow.alloc hr _)) hl
  obtain ⟨x, k, hsm, hfit, hm⟩ : ∃ x k, saysM (a, b) l = some (x, k) ∧ l.length + k ≤ n ∧ m = l ++ List.replicate k x := by
    unfold withM at h
    split at h
    · cases h
    · rename_i x k hs
      split at h
      · cases h
      · simp only [Option.some.injEq] at h
        exact ⟨x, k, hs, by omega, h.symm⟩
  have hk1 := saysM_le hsm hl15
  rw [hsm] at HSY
  have HM : Hid (m = l ++ List.replicate k x) := hm
  have HC0 : Hid (ao = none → cap = 0) := h2
  obtain ⟨L, hL⟩ : ∃ L, L = l.length := ⟨_, rfl⟩
  have HL : Hid (L = l.length) := hL
  rw [← hL] at hl HSY HR hfit ⊢
  obtain ⟨t, ht⟩ : ∃ t, t = L + k := ⟨_, rfl⟩
  have htI : (L : Int) + (k : Int) = (t : Int) := by omega
  have htn : decide (n < t) = false := by simp; omega
  clear hr h hL h1 h2 hl15 hm hsm ht
  unfold saysV at HSY
  go_enter Tryd.func41, Tryd.ntmps41
  go_wp2_with fail
  refine HSY.mono ?_
  rintro e w2 ⟨rfl, hk⟩
  have HK : Hid (Same w w2) := hid (Same.trans ((Kept.refl _ w).alloc _) hk)
  have hsz := HK.out.size
  clear hk HSY
  go_wp2_with (at_builtin; refine wpList_append_ints _ w.heap.size rfl (.tmp 30) (.tmp 31) rfl (.slice none 0 0) [] rfl RowE.nil _ ao L cap l rfl (SrcE.ofRow (HR.out.same HK.out)) HC0.out (by have := HL.out; simp; omega) hsz ?_; intro v3 w3 hr3 hg3; have HR3 : Hid (NRow w.heap.size w3 v3 (l ++ List.replicate 0 x)) := hid (by simpa using hr3); have HK3 : Hid (Same w w3) := hid (HK.out.grown hg3 (fun j e => by cases e)); clear hr3 hg3)
  go_loopg [11, 12] k (fun q zv zi wr => ∃ (i : Nat), k - i ≤ q ∧ i ≤ k ∧ zi = .int .i64 (i : Nat) ∧ Hid (NRow w.heap.size wr zv (l ++ List.replicate i x)) ∧ Hid (Same w wr))
  case atStart => exact ⟨0, by omega, by omega, rfl, HR3, HK3⟩
  case round =>
    clear HR3 HK3
    obtain ⟨i, hq, hi, rfl, HV, HK4⟩ := hrel
    by_cases hlt : i < k
    · have hsz4 := HK4.out.size
      have HLN : Hid ((l ++ List.replicate i x).length + [x].length ≤ 1000000000) := hid (by have := HL.out; simp; omega)
      go_wp2_with (at_builtin; refine wpList_append_e _ natV natV_one w.heap.size 22 3 (natV 0) 8 Tryd.underlying22 Tryd.infoN rfl (by decide) rfl (.tmp 38) (.tmp 40) rfl u11 (l ++ List.replicate i x) rfl (World.ownsRow.alloc HV.out _) ⟨wr.heap.size, 0, none⟩ 1 1 [x] rfl rfl (cellsAt_new _ _ _) HLN.out (by simp; omega) ?_; intro v5 w5 hr5 hg5)
      have HV5 : Hid (NRow w.heap.size w5 v5 (l ++ List.replicate (i + 1) x)) := hid (by rw [List.replicate_succ', ← List.append_assoc]; exact hr5)
      have HK5 : Hid (Same w w5) := hid ((HK4.out.alloc _).grown hg5 (fun j e => .inr (HV.out.ge e)))
      clear hr5 hg5
      go_wp2_with fail
      go_roundg (gk - 1)
      case measure => omega
      case rel => exact ⟨i + 1, by omega, by omega, by go_num, HV5, HK5⟩
    · have hik : i = k := by omega
      have HV6 : Hid (New w wr u11 m) := hid ⟨by rw [HM.out, ← hik]; exact HV.out, HK4.out⟩
      clear hik
      go_wp2_with fail
      go_ret2
      exact ⟨_, rfl, HV6.out⟩

/-- An answer of Unpack: an error, or a new row. -/
def UnpA (w w' : World) (e : Ending) : Except Nat (List Nat) → Prop
  | .error c => e = .returned (.tuple #[.slice none 0 0, .int .i64 (c : Nat)]) ∧ Same w w'
  | .ok l => ∃ v', e = .returned (.tuple #[v', .int .i64 0]) ∧ New w w' v' l

set_option maxRecDepth 100000 in
set_option maxHeartbeats 2000000 in
theorem unpack_any (w : World) (v : Value) (I : Nat → Prop) (ss : List (Int × Int)) (nz : Int) (hs : StSrc w I v ss) (hlen : ss.length ≤ 10000000) :
    Calls Tryd.prog 16 #[v, .int .i64 nz] w fun e w' => UnpA w w' e (unpM ss nz) := by
  obtain ⟨ao, cap, rfl, hx1, hx2⟩ := id hs
  clear hx1 hx2
  have HS : Hid (StSrc w I (.slice ao ss.length cap) ss) := hs
  clear hs
  by_cases hneg : nz < 0
  · have HE : Hid (unpM ss nz = .error 1) := hid (by unfold unpM; rw [if_pos (.inl hneg)])
    go_enter Tryd.func16, Tryd.ntmps16
    go_wp2_with fail
    go_ret2
    rw [HE.out]
    exact ⟨rfl, Kept.refl _ _⟩
  · by_cases hbig : 316 < nz
    · have HE : Hid (unpM ss nz = .error 1) := hid (by unfold unpM; rw [if_pos (.inr hbig)])
      go_enter Tryd.func16, Tryd.ntmps16
      go_wp2_with fail
      go_ret2
      rw [HE.out]
      exact ⟨rfl, Kept.refl _ _⟩
    · obtain ⟨n, rfl⟩ : ∃ n : Nat, nz = (n : Int) := ⟨nz.toNat, by omega⟩
      have hn : n ≤ 316 := by omega
      have b1 : decide ((n : Int) < 0) = false := by simp
      have b2 : decide ((316 : Int) < (n : Int)) = false := by simp; omega
      have HU : Hid (unpM ss (n : Int) = match runM n [] ss with | none => .error 41 | some l => if l.length < n then .error 41 else .ok l) := hid (by
        unfold unpM
        rw [if_neg (by omega)]
        simp only [Int.toNat_natCast]
        all_goals rfl)
      clear hneg hbig
      go_enter Tryd.func16, Tryd.ntmps16
      go_wp2_with fail
      clear b1 b2
      go_loopg [6, 7] ss.length (fun q zl zi wr => ∃ (i : Nat) (l : List Nat), ss.length - i ≤ q ∧ i ≤ ss.length ∧ zi = .int .i64 (i : Nat) ∧ Hid (runM n [] (ss.take i) = some l ∧ l.length ≤ n ∧ ∀ x ∈ l, x ≤ 15) ∧ Hid (NRow w.heap.size wr zl l) ∧ Hid (Same w wr))
      case atStart => exact ⟨0, [], by omega, by omega, rfl, hid ⟨by simp [runM], by simp, by simp⟩, RowE.nil, Kept.refl _ _⟩
      case round =>
        obtain ⟨i, l, hq, hi, rfl, HRUN, HV, HK⟩ := hrel
        by_cases hlt : i < ss.length
        · obtain ⟨b, o, e1, _, hcell⟩ : ∃ b o, ao = some ⟨b, o, none⟩ ∧ True ∧ ∀ t (_ : t < 2), wr.cell? ⟨b, o + (i * 2 + t), none⟩ = (stC ss[i])[t]? := by
            obtain ⟨ao', cap', e1, _, e2⟩ := HS.out.kept stC_ok HK.out (fun _ _ _ f => f)
            injection e1 with e3 _ _
            subst e3
            obtain ⟨b, o, e4, _, e5⟩ := e2 (by intro e; rw [e] at hlt; simp at hlt)
            exact ⟨b, o, e4, trivial, e5 i hlt⟩
          subst e1
          obtain ⟨x, y, hxy⟩ : ∃ x y, ss[i] = (x, y) := ⟨_, _, rfl⟩
          rw [hxy] at hcell
          have c1 : wr.cell? ⟨b, o + i * 2, none⟩ = some (.int .i64 x) := hcell 0 (by decide)
          have c2 : wr.cell? ⟨b, o + i * 2 + 1, none⟩ = some (.int .i64 y) := hcell 1 (by decide)
          have HSN : Hid (runM n [] (ss.take (i + 1)) = withM l (x, y) n) := hid (by
            rw [List.take_succ_eq_append_getElem hlt, runM_snoc, HRUN.out.1, hxy]
            rfl)
          clear hcell hxy
          cases hw : withM l (x, y) n with
          | none =>
            have HW := with_no wr w.heap.size u6 l x y n HV.out (by have := HRUN.out.2.1; omega) HRUN.out.2.2 (by omega) hw
            have HE : Hid (unpM ss (n : Int) = .error 41) := hid (by
              have h := runM_none (n := n) (l := []) (ss.take (i + 1)) (ss.drop (i + 1)) (by rw [HSN.out, hw])
              rw [List.take_append_drop] at h
              rw [HU.out, h])
            clear hw
            go_wp2_with fail
            refine HW.mono ?_
            rintro e w2 ⟨rfl, hk2⟩
            have HK2 : Hid (Same w w2) := hid (Same.trans HK.out hk2)
            clear hk2 HW
            go_wp2_with fail
            first
              | (go_ret2; rw [HE.out]; exact ⟨rfl, HK2.out⟩)
              | (go_quiet (fail); go_wp2_with fail; go_ret2; rw [HE.out]; exact ⟨rfl, HK2.out.drewN _⟩)
          | some m =>
            have HW := with_yes wr w.heap.size u6 l m x y n HV.out (by have := HRUN.out.2.1; omega) HRUN.out.2.2 (by omega) hw
            have HM : Hid (runM n [] (ss.take (i + 1)) = some m ∧ m.length ≤ n ∧ ∀ x ∈ m, x ≤ 15) := hid ⟨by rw [HSN.out, hw], (withM_grows hw HRUN.out.2.2).2.1, (withM_grows hw HRUN.out.2.2).2.2⟩
            clear hw
            go_wp2_with fail
            refine HW.mono ?_
            rintro e w2 ⟨v2, rfl, hn2⟩
            have HK2 : Hid (Same w w2) := hid (Same.trans HK.out hn2.same)
            have HV2 : Hid (NRow w.heap.size w2 v2 m) := hid (RowE.base hn2.row HK.out.size)
            clear hn2 HW
            go_wp2_with fail
            go_roundg (gk - 1)
            case measure => omega
            case rel => exact ⟨i + 1, m, by omega, by omega, by go_num, HM, HV2, HK2⟩
        · have hrun : runM n [] ss = some l := by
            have h := HRUN.out.1
            rw [List.take_of_length_le (by omega)] at h
            exact h
          obtain ⟨ao2, cap2, hv2, _⟩ := HV.out.shape
          subst hv2
          obtain ⟨L, hL⟩ : ∃ L, L = l.length := ⟨_, rfl⟩
          rw [← hL] at HV ⊢
          by_cases hsh : L < n
          · have HE : Hid (unpM ss (n : Int) = .error 41) := hid (by rw [HU.out, hrun]; simp only; rw [if_pos (by omega)])
            clear hrun hL
            go_wp2_with fail
            go_ret2
            rw [HE.out]
            exact ⟨rfl, HK.out⟩
          · have HE : Hid (unpM ss (n : Int) = .ok l) := hid (by rw [HU.out, hrun]; simp only; rw [if_neg (by omega)])
            clear hrun hL
            go_wp2_with fail
            go_ret2
            rw [HE.out]
            exact ⟨_, rfl, HV.out, HK.out⟩

end Go.Proofs.YtofhlnpbflkdlaaDoor

/-
  The reference's Next, walked.
-/
namespace Go.Proofs.YtofhlnpbflkdlaaDoor
open Go.RowKit

theorem fit_step (r ls : List Nat) (c n : Nat) (hn : n < r.length) (hq : c + n < ls.length) (h : r.take n = (ls.drop c).take n) (he : r[n] = ls[c + n]) : r.take (n + 1) = (ls.drop c).take (n + 1) := by
  have hd : n < (ls.drop c).length := by rw [List.length_drop]; omega
  rw [List.take_succ_eq_append_getElem hn, List.take_succ_eq_append_getElem hd, h, List.getElem_drop, he]

theorem fit_no (r ls : List Nat) (c n : Nat) (hn : n < r.length) (h : ¬ c + n < ls.length ∨ ∃ hq : c + n < ls.length, r[n] ≠ ls[c + n]) : ¬ r <+: ls.drop c := by
  intro hp
  have hl := hp.length_le
  rw [List.length_drop] at hl
  rcases h with h | ⟨hq, hne⟩
  · omega
  · have := List.IsPrefix.getElem hp hn
    rw [List.getElem_drop] at this
    exact hne this

theorem beg_yes (r ls : List Nat) (c n : Nat) (_hn : n < r.length) (h : r.take n = (ls.drop c).take n) (he : c + n = ls.length) : ls.drop c <+: r := by
  rw [List.take_of_length_le (l := ls.drop c) (by rw [List.length_drop]; omega)] at h
  rw [← h]
  exact List.take_prefix _ _

theorem beg_no (r ls : List Nat) (c n : Nat) (hn : n < r.length) (hq : c + n < ls.length) (hne : r[n] ≠ ls[c + n]) : ¬ ls.drop c <+: r := by
  intro hp
  have hd : n < (ls.drop c).length := by rw [List.length_drop]; omega
  have := List.IsPrefix.getElem hp hd
  rw [List.getElem_drop] at this
  exact hne this.symm

/-- A flag that tells whether. -/
def Tells (B : Bool) (P : Prop) : Prop := (B = true ↔ P)

set_option maxRecDepth 100000 in
set_option maxHeartbeats 4000000 in
theorem rnext_any (w w0 : World) (go L : Nat) (ns : List Nat) (rs : List (Option Addr × Nat × Nat)) (v : Value) (I : Nat → Prop) (ls : List Nat) (c : Nat) (hR : RW w0 w go L ns (fun s => key ns s ≠ 0) rs) (hL : L = ns.length) (hl288 : L ≤ 288) (h15 : ∀ s, key ns s ≤ 15) (hs : Src w I v ls) (hlen : ls.length ≤ 100000000) (hc : c ≤ ls.length) :
    Calls Tryd.prog 68 #[.slice (some ⟨go, 0, none⟩) L L, v, .int .i64 (c : Nat)] w fun e w' => (∃ is k g : Nat, e = .returned (.tuple #[.int .i64 (is : Nat), .int .i64 (k : Nat), .int .i64 (g : Nat)]) ∧ RNext ns (ls.drop c) is k g) ∧ Same w w' := by
  obtain ⟨ao, cap, rfl, hsa⟩ := id hs
  have HS : Hid (Src w I (.slice ao ls.length cap) ls) := hs
  have HR : Hid (RW w0 w go L ns (fun s => key ns s ≠ 0) rs) := hR
  have HL : Hid (L = ns.length) := hL
  have HRL : Hid (rs.length = L) := hid hR.row.len
  have H15 : Hid (∀ s, key ns s ≤ 15) := h15
  clear hs hR hL hsa h15
  obtain ⟨M, hM⟩ : ∃ M, M = ls.length := ⟨_, rfl⟩
  rw [← hM] at HS hlen hc ⊢
  have HM : Hid (M = ls.length) := hM
  clear hM
  go_enter Tryd.func68, Tryd.ntmps68
  go_wp2_with fail
  go_loopg [9, 10] L (fun q zb zi wr => ∃ (i : Nat) (B : Bool), L - i ≤ q ∧ i ≤ L ∧ zi = .int .i64 (i : Nat) ∧ zb = .bool B ∧ Hid (∀ s, s < i → ¬ Fit ns (ls.drop c) s) ∧ Hid (Tells B (∃ s, s < i ∧ Beg ns (ls.drop c) s)) ∧ Hid (Same w wr))
  case atStart => exact ⟨0, false, by omega, by omega, rfl, rfl, hid (fun s h => by omega), hid ⟨(fun h => by cases h), (fun h => by obtain ⟨s, h, _⟩ := h; omega)⟩, Kept.refl _ _⟩
  case round =>
    obtain ⟨i, B, hq, hi, rfl, rfl, HF, HB, HK⟩ := hrel
    obtain ⟨gk0, hgk⟩ : ∃ x, x = gk := ⟨_, rfl⟩
    rw [← hgk] at hq
    have HG : Hid (gk0 = gk) := hgk
    clear hgk
    by_cases hlt : i < L
    · have hirs : i < rs.length := by have := HRL.out; omega
      have cr := (HR.out.row.same HK.out).cell i hirs
      by_cases hk0 : key ns i = 0
      · rw [HR.out.none' i hirs (fun h => h hk0)] at cr
        have cr2 : wr.cell? ⟨go, i, none⟩ = some (.slice none 0 0) := cr
        have HF2 : Hid (∀ s, s < i + 1 → ¬ Fit ns (ls.drop c) s) := hid (fun s h hf => by
          by_cases e : s = i
          · subst e; exact hf.1 hk0
          · exact HF.out s (by omega) hf)
        have HB2 : Hid (Tells B (∃ s, s < i + 1 ∧ Beg ns (ls.drop c) s)) := hid (by
          have hb' := HB.out
          unfold Tells at hb' ⊢
          rw [hb']
          constructor
          · rintro ⟨s, h1, h2⟩; exact ⟨s, by omega, h2⟩
          · rintro ⟨s, h1, h2⟩
            by_cases e : s = i
            · subst e; exact absurd hk0 h2.1
            · exact ⟨s, by omega, h2⟩)
        clear cr hk0
        go_wp2_with fail
        go_roundg (gk0 - 1)
        case measure => have := HG.out; omega
        case rel => exact ⟨i + 1, B, by omega, by omega, by go_num, rfl, HF2, HB2, HK⟩
      · have hrow : Row wr (slV rs[i]) (rowOf ns i) := (HR.out.have' i hirs hk0).1.kept HK.out (fun _ _ f => f)
        obtain ⟨ar, capr, hvr, hgr⟩ := hrow.shape
        have hrl := rowOf_length ns i
        obtain ⟨gr, hgr⟩ := hgr (by intro e; rw [e] at hrl; simp at hrl; omega)
        subst hgr
        rw [hvr] at cr hrow
        rw [hrl] at cr hrow
        obtain ⟨K, hK⟩ : ∃ K, K = key ns i := ⟨_, rfl⟩
        rw [← hK] at cr hrow hrl
        have hK0 : 0 < K := by omega
        have hK15 : K ≤ 15 := by rw [hK]; exact H15.out i
        have HRO : Hid (Row wr (.slice (some ⟨gr, 0, none⟩) (rowOf ns i).length capr) (rowOf ns i)) := hid (by rw [hrl]; exact hrow)
        have HRLN : Hid ((rowOf ns i).length = K) := hrl
        have HKY : Hid (K = key ns i ∧ key ns i ≠ 0) := hid ⟨hK, hk0⟩
        have HCR : Hid (wr.cell? ⟨go, i, none⟩ = some (.slice (some ⟨gr, 0, none⟩) K capr)) := cr
        have hnz : ((K : Int) == 0) = false := by simp; omega
        obtain ⟨w1, hw1⟩ : ∃ w1, w1 = wr := ⟨_, rfl⟩
        subst hw1
        clear hvr hrow hrl hK hk0
        go_wp2_with fail
        clear hnz cr
        go_loopg [11] K (fun q zn wr => ∃ (n : Nat), K - n ≤ q ∧ n ≤ K ∧ c + n ≤ M ∧ zn = .int .i64 (n : Nat) ∧ Hid ((rowOf ns i).take n = (ls.drop c).take n) ∧ Hid (Same w1 wr))
        case atStart => exact ⟨0, by omega, by omega, by omega, rfl, hid (by simp), Kept.refl _ _⟩
        case round =>
          obtain ⟨n, hq2, hnK, hcn, rfl, HT, HK2⟩ := hrel
          have cr : wr.cell? ⟨go, i, none⟩ = some (.slice (some ⟨gr, 0, none⟩) K capr) := HK2.out.cell HCR.out (fun h => h)
          obtain ⟨x, hx⟩ : ∃ x, x = c + n := ⟨_, rfl⟩
          have hxI : (c : Int) + (n : Int) = (x : Int) := by omega
          have hwx : IntKind.i64.wrap (x : Int) = (x : Int) := by rw [IntKind.wrap_i64]; omega
          have HX : Hid (x = c + n) := hx
          clear hx
          by_cases hnlt : n < K
          · have hnr : n < (rowOf ns i).length := by have := HRLN.out; omega
            have c1 : wr.cell? ⟨gr, n, none⟩ = some (.int .u8 ((rowOf ns i)[n] : Nat)) := HK2.out.cell (HRO.out.cell n hnr) (fun h => h)
            obtain ⟨y1, hy1⟩ : ∃ y, y = (rowOf ns i)[n] := ⟨_, rfl⟩
            rw [← hy1] at c1
            have hn1 : ((n : Int) == (K : Int)) = false := by simp; omega
            by_cases hxl : x < M
            · have hxl2 : c + n < ls.length := by have := HM.out; have := HX.out; omega
              obtain ⟨b, o, rfl, _, hcell⟩ : ∃ b o, ao = some ⟨b, o, none⟩ ∧ True ∧ wr.cell? ⟨b, o + x, none⟩ = some (.int .u8 (ls[c + n] : Nat)) := by
                obtain ⟨ao', cap', e1, e2⟩ := (HS.out.kept (Same.trans HK.out HK2.out) (fun _ _ _ f => f))
                injection e1 with e3 _ _
                subst e3
                obtain ⟨b, o, e4, _, e5⟩ := e2 (by intro e; rw [e] at hxl2; simp at hxl2)
                refine ⟨b, o, e4, trivial, ?_⟩
                rw [HX.out]
                exact e5 (c + n) hxl2
              obtain ⟨y2, hy2⟩ : ∃ y, y = ls[c + n] := ⟨_, rfl⟩
              rw [← hy2] at hcell
              by_cases he : y1 = y2
              · have hd : ((y1 : Int) == (y2 : Int)) = true := by simp [he]
                have HT2 : Hid ((rowOf ns i).take (n + 1) = (ls.drop c).take (n + 1)) := hid (fit_step _ _ c n hnr hxl2 HT.out (by rw [← hy1, ← hy2, he]))
                have hcn2 : c + (n + 1) ≤ M := by have := HX.out; omega
                clear hy1 hy2 he hn1
                go_wp2_with fail
                go_quiet (fail)
                go_wp2_with fail
                go_roundg (gk - 1)
                case measure => omega
                case rel => exact ⟨n + 1, by omega, by omega, hcn2, by go_num, HT2, hid (HK2.out.drewN _)⟩
              · have hd : ((y1 : Int) == (y2 : Int)) = false := by simp; omega
                have HNF : Hid (¬ Fit ns (ls.drop c) i ∧ ¬ Beg ns (ls.drop c) i) := hid ⟨fun h => fit_no _ _ c n hnr (.inr ⟨hxl2, by rw [← hy1, ← hy2]; exact he⟩) h.2, fun h => beg_no _ _ c n hnr hxl2 (by rw [← hy1, ← hy2]; exact he) h.2⟩
                have hxm : ((x : Int) == (M : Int)) = false := by simp; omega
                clear hy1 hy2 he
                have HF2 : Hid (∀ s, s < i + 1 → ¬ Fit ns (ls.drop c) s) := hid (fun s h hf => by
                  by_cases e : s = i
                  · subst e; exact HNF.out.1 hf
                  · exact HF.out s (by omega) hf)
                have HB2 : Hid (Tells B (∃ s, s < i + 1 ∧ Beg ns (ls.drop c) s)) := hid (by
                  have hb' := HB.out
                  unfold Tells at hb' ⊢
                  rw [hb']
                  constructor
                  · rintro ⟨s, h1, h2⟩; exact ⟨s, by omega, h2⟩
                  · rintro ⟨s, h1, h2⟩
                    by_cases e : s = i
                    · subst e; exact absurd h2 HNF.out.2
                    · exact ⟨s, by omega, h2⟩)
                go_wp2_with fail
                go_quiet (fail)
                cases B with
                | true =>
                  go_wp2_with fail
                  go_roundg (gk0 - 1)
                  case measure => have := HG.out; omega
                  case rel => exact ⟨i + 1, true, by omega, by omega, by go_num, rfl, HF2, HB2, hid (Same.trans HK.out (HK2.out.drewN _))⟩
                | false =>
                  go_wp2_with fail
                  go_roundg (gk0 - 1)
                  case measure => have := HG.out; omega
                  case rel => exact ⟨i + 1, false, by omega, by omega, by go_num, rfl, HF2, HB2, hid (Same.trans HK.out (HK2.out.drewN _))⟩
            · have hxm : ((x : Int) == (M : Int)) = true := by have := HX.out; simp; omega
              have hxd : decide (x < M) = false := by simp; omega
              have HNF : Hid (¬ Fit ns (ls.drop c) i ∧ Beg ns (ls.drop c) i) := hid ⟨fun h => fit_no _ _ c n hnr (.inl (by have := HM.out; have := HX.out; omega)) h.2, HKY.out.2, beg_yes _ _ c n hnr HT.out (by have := HM.out; have := HX.out; omega)⟩
              clear hy1 hxl
              have HF2 : Hid (∀ s, s < i + 1 → ¬ Fit ns (ls.drop c) s) := hid (fun s h hf => by
                by_cases e : s = i
                · subst e; exact HNF.out.1 hf
                · exact HF.out s (by omega) hf)
              have HB2 : Hid (Tells true (∃ s, s < i + 1 ∧ Beg ns (ls.drop c) s)) := hid ⟨fun _ => ⟨i, by omega, HNF.out.2⟩, fun _ => rfl⟩
              go_wp2_with fail
              go_quiet (fail)
              cases B with
              | true =>
                go_wp2_with fail
                go_roundg (gk0 - 1)
                case measure => have := HG.out; omega
                case rel => exact ⟨i + 1, true, by omega, by omega, by go_num, rfl, HF2, HB2, hid (Same.trans HK.out (HK2.out.drewN _))⟩
              | false =>
                go_wp2_with fail
                go_roundg (gk0 - 1)
                case measure => have := HG.out; omega
                case rel => exact ⟨i + 1, true, by omega, by omega, by go_num, rfl, HF2, HB2, hid (Same.trans HK.out (HK2.out.drewN _))⟩
          · have hnK2 : n = K := by omega
            have hnd : decide (n < K) = false := by simp; omega
            have hne : ((n : Int) == (K : Int)) = true := by simp; omega
            have HFIT : Hid (Fit ns (ls.drop c) i ∧ n = key ns i) := hid (by
              refine ⟨⟨HKY.out.2, ?_⟩, by rw [hnK2]; exact HKY.out.1⟩
              have h := HT.out
              rw [List.take_of_length_le (by have := HRLN.out; omega)] at h
              rw [h]
              exact List.take_prefix _ _)
            clear hnlt hnK2
            go_wp2_with fail
            go_quiet (fail)
            go_wp2_with fail
            refine bodyPost_ret (v := .tuple #[.int .i64 (i : Nat), .int .i64 (n : Nat), .int .i64 0]) (by simp [results, Tryd.results68, go_sem]) rfl ⟨⟨i, n, 0, rfl, .inl ⟨rfl, by have := HL.out; omega, HFIT.out.1, HFIT.out.2, HF.out⟩⟩, Same.trans HK.out (HK2.out.drewN _)⟩
    · have hil : i = L := by omega
      have hid' : decide (i < L) = false := by simp; omega
      have HF2 : Hid (∀ s, s < ns.length → ¬ Fit ns (ls.drop c) s) := hid (fun s h => HF.out s (by have := HL.out; omega))
      have HB2 : Hid (Tells B (∃ s, s < ns.length ∧ Beg ns (ls.drop c) s)) := hid (by have hb' := HB.out; rw [hil, HL.out] at hb'; exact hb')
      clear hil hlt
      cases B with
      | true =>
        go_wp2_with fail
        refine bodyPost_ret (v := .tuple #[.int .i64 0, .int .i64 0, .int .i64 10]) (by simp [results, Tryd.results68, go_sem]) rfl ⟨⟨0, 0, 10, rfl, .inr (.inl ⟨rfl, rfl, rfl, HF2.out, HB2.out.1 rfl⟩)⟩, HK.out⟩
      | false =>
        go_wp2_with fail
        refine bodyPost_ret (v := .tuple #[.int .i64 0, .int .i64 0, .int .i64 32]) (by simp [results, Tryd.results68, go_sem]) rfl ⟨⟨0, 0, 32, rfl, .inr (.inr ⟨rfl, rfl, rfl, HF2.out, fun s hs hb => by have := HB2.out.2 ⟨s, hs, hb⟩; cases this⟩)⟩, HK.out⟩

end Go.Proofs.YtofhlnpbflkdlaaDoor

/-
  The reference's head: take, step.
-/
namespace Go.Proofs.YtofhlnpbflkdlaaDoor
open Go.RowKit

abbrev HdB (w : World) (h : Nat) (v : Value) (c e : Nat) : Prop := Blk w h #[v, .int .i64 (c : Nat), .int .i64 (e : Nat)] 76

/-- A number is taken: what is told, the place, the error. -/
def hTake (ls : List Nat) (c e n : Nat) : Nat × Nat × Nat :=
  if e ≠ 0 then (0, c, e) else if ls.length < c + n then (0, c, 10) else (numAt ls c n, c + n, 0)

set_option maxRecDepth 100000 in
set_option maxHeartbeats 2000000 in
theorem htake_any (w : World) (h : Nat) (v : Value) (I : Nat → Prop) (ls : List Nat) (c e n : Nat) (hH : HdB w h v c e) (hs : Src w I v ls) (hb : ∀ b ∈ ls, b < 2) (hn : n ≤ 32) (hc : c ≤ ls.length) (hlen : ls.length ≤ 1000000000) :
    Calls Tryd.prog 48 #[.pointer (some ⟨h, 0, none⟩), .int .i64 (n : Nat)] w fun r w' => r = .returned (.int .i64 ((hTake ls c e n).1 : Nat)) ∧ HdB w' h v (hTake ls c e n).2.1 (hTake ls c e n).2.2 ∧ Kept (· = h) w w' := by
  obtain ⟨ao, cap, rfl, hsa⟩ := id hs
  have c0 := hH.cell 0
  have c1 := hH.cell 1
  have c2 := hH.cell 2
  have f1 := hH.frozen 1
  have f2 := hH.frozen 2
  simp at c0 c1 c2
  have HH : Hid (HdB w h (.slice ao ls.length cap) c e) := hH
  have HS : Hid (Src w I (.slice ao ls.length cap) ls) := hs
  have HB : Hid (∀ b ∈ ls, b < 2) := hb
  obtain ⟨M, hM⟩ : ∃ M, M = ls.length := ⟨_, rfl⟩
  rw [← hM] at c0 HH HS hc hlen
  have HM : Hid (M = ls.length) := hM
  clear hs hsa hb hH
  by_cases he : e = 0
  · subst he
    obtain ⟨d, hd⟩ : ∃ d, d = M - c := ⟨_, rfl⟩
    have hdI : (M : Int) - (c : Int) = (d : Int) := by omega
    have hwd : IntKind.i64.wrap (d : Int) = (d : Int) := by rw [IntKind.wrap_i64]; omega
    by_cases hdn : d < n
    · have HE : Hid (hTake ls c 0 n = (0, c, 10)) := hid (by unfold hTake; rw [if_neg (by simp), if_pos (by omega)])
      clear hd hM
      go_enter Tryd.func48, Tryd.ntmps48
      go_wp2_with fail
      go_quiet (fail)
      go_wp2_with fail
      go_ret
      rw [HE.out]
      refine ⟨rfl, ?_, ((Kept.refl (· = h) w).drewN _).setCell ⟨h, 2, none⟩ _ (.inl rfl)⟩
      have hb := (HH.out.drewN nq).set 2 (.int .i64 10)
      rw [HM.out] at hb
      simp at hb
      exact hb
    · have hdd : decide (d < n) = false := by simp; omega
      have hfit : c + n ≤ M := by omega
      obtain ⟨x, hx⟩ : ∃ x, x = numAt ls c n := ⟨_, rfl⟩
      have HE : Hid (hTake ls c 0 n = (x, c + n, 0)) := hid (by unfold hTake; rw [if_neg (by simp), if_neg (by omega), hx])
      have HNB : ∀ wx : World, Src wx I (.slice ao M cap) ls → Calls Tryd.prog 64 #[.slice ao M cap, .int .i64 (c : Nat), .int .i64 (n : Nat)] wx fun e w' => e = .returned (.int .u32 (x : Nat)) ∧ w' = wx := by
        intro wx hsx
        have h1 := refNumber_any wx _ I ls hsx HB.out c n hn (by omega) (by omega)
        rw [← n2_part ls HB.out c n (by omega)] at h1
        have e1 : n2 ((ls.drop c).take n) = x := hx.symm
        rw [e1] at h1
        exact h1
      have hx32 : x < 4294967296 := by
        rw [hx]
        exact Nat.lt_of_lt_of_le (numAt_lt ls HB.out c n) (Nat.le_trans (Nat.pow_le_pow_right (by omega) hn) (by decide))
      obtain ⟨cn, hcn⟩ : ∃ cn, cn = c + n := ⟨_, rfl⟩
      have hcnI : (c : Int) + (n : Int) = (cn : Int) := by omega
      have HCN : Hid (cn = c + n) := hcn
      have hcnle : cn ≤ 1000000000 := by omega
      clear hd hM hx hcn hdn hfit
      go_enter Tryd.func48, Tryd.ntmps48
      go_wp2_with fail
      go_quiet (fail)
      go_wp2_with fail
      have HS1 : Hid (Src (w.drewN nq) I (.slice ao M cap) ls) := hid (HS.out.kept ((Kept.refl (fun _ => False) w).drewN nq) (fun _ _ _ f => f))
      have HH1 : Hid (HdB (w.drewN nq) h (.slice ao M cap) c 0) := hid (HH.out.drewN nq)
      have HK1 : Hid (Kept (· = h) w (w.drewN nq)) := hid ((Kept.refl (· = h) w).drewN nq)
      generalize w.drewN nq = w1 at *
      have c0 := HH1.out.cell 0
      have c1 := HH1.out.cell 1
      have f1 := HH1.out.frozen 1
      simp at c0 c1
      have HN1 := fun q => HNB (w1.drewN q) (HS1.out.kept ((Kept.refl (fun _ => False) w1).drewN q) (fun _ _ _ f => f))
      go_quiet ((go_at_call 64; exact Calls.quiet_of_same (HN1 _)))
      go_wp2_with fail
      go_ret
      rw [HE.out, ← HCN.out]
      refine ⟨rfl, ?_, (HK1.out.drewN _).setCell ⟨h, 1, none⟩ _ (.inl rfl)⟩
      have hb := (HH1.out.drewN nq).set 1 (.int .i64 (cn : Nat))
      rw [HM.out] at hb
      simp at hb
      exact hb
  · have HE : Hid (hTake ls c e n = (0, c, e)) := hid (by unfold hTake; rw [if_pos he])
    have hed : ((e : Int) != 0) = true := by simp; omega
    have hed2 : ((e : Int) == 0) = false := by simp; omega
    clear he hM
    go_enter Tryd.func48, Tryd.ntmps48
    go_wp2_with fail
    go_quiet (fail)
    go_wp2_with fail
    go_ret
    rw [HE.out]
    refine ⟨rfl, ?_, (Kept.refl (· = h) w).drewN _⟩
    have hb := HH.out.drewN nq
    rw [HM.out] at hb
    exact hb

end Go.Proofs.YtofhlnpbflkdlaaDoor

/-
  The reference's Rows, walked.
-/
namespace Go.Proofs.YtofhlnpbflkdlaaDoor
open Go.RowKit

/-- The counters of Rows: the last code, the last length. -/
def Cnt (ns : List Nat) (n i code last : Nat) : Prop := (last = 0 ∧ code = 0 ∧ sumP ns n i = 0) ∨ (0 < last ∧ last ≤ n ∧ (code + 1) * 2 ^ (15 - last) = sumP ns n i)

theorem sumP_le (ns : List Nat) (n i : Nat) : sumP ns n i ≤ measure ns := by
  unfold sumP
  rw [← sumTo_all]
  unfold sumTo
  rw [List.take_of_length_le (Nat.le_refl _)]
  generalize ris ns = l
  induction l with
  | nil => simp
  | cons a r ih =>
    rw [List.filter_cons]
    split
    · simp only [List.map_cons, List.sum_cons]; omega
    · simp only [List.map_cons, List.sum_cons]; omega

theorem Cnt.code_le {ns : List Nat} {n i code last : Nat} (h : Cnt ns n i code last) (hm : measure ns ≤ 32768) : code ≤ 32768 := by
  rcases h with ⟨_, h, _⟩ | ⟨_, _, h⟩
  · omega
  · have h1 := sumP_le ns n i
    have h2 : (code + 1) * 1 ≤ (code + 1) * 2 ^ (15 - last) := Nat.mul_le_mul_left _ (Nat.two_pow_pos _)
    omega

/-- The code of a symbol that comes. -/
theorem Cnt.hit {ns : List Nat} {n i code last : Nat} (h : Cnt ns n i code last) (hk : key ns i = n) (hn : n ≤ 15) : codeOf ns i = (if 0 < last then (code + 1) * 2 ^ (n - last) else code) := by
  have h1 := code_start ns i
  have h2 := sumP_hit ns i
  rw [hk] at h1 h2
  rw [← h2] at h1
  rcases h with ⟨e1, e2, e3⟩ | ⟨e1, e2, e3⟩
  · rw [if_neg (by omega), e2]
    rw [e3] at h1
    rcases Nat.mul_eq_zero.1 h1 with h | h
    · exact h
    · have := Nat.two_pow_pos (15 - n); omega
  · rw [if_pos e1]
    have e4 : (code + 1) * 2 ^ (n - last) * 2 ^ (15 - n) = codeOf ns i * 2 ^ (15 - n) := by
      rw [Nat.mul_assoc, ← Nat.pow_add, show n - last + (15 - n) = 15 - last by omega, e3, h1]
    exact (Nat.eq_of_mul_eq_mul_right (Nat.two_pow_pos _) e4).symm

theorem Cnt.next {ns : List Nat} {i : Nat} (hi : i ∈ ris ns) : Cnt ns (key ns i) (i + 1) (codeOf ns i) (key ns i) := by
  refine .inr ⟨by have := (mem_ris.1 hi).2; omega, Nat.le_refl _, ?_⟩
  rw [sumP_next ns i hi, Nat.add_mul, code_start, Nat.one_mul]

theorem Cnt.miss {ns : List Nat} {n i code last : Nat} (h : Cnt ns n i code last) (hk : key ns i ≠ n) : Cnt ns n (i + 1) code last := by
  unfold Cnt
  rw [sumP_miss ns n i hk]
  exact h

theorem Cnt.round {ns : List Nat} {n code last : Nat} (h : Cnt ns n ns.length code last) : Cnt ns (n + 1) 0 code last := by
  unfold Cnt
  rw [← sumP_round]
  rcases h with h | ⟨h1, h2, h3⟩
  · exact .inl h
  · exact .inr ⟨h1, by omega, h3⟩

/-- The symbols whose rows are laid. -/
def laidR (ns : List Nat) (n i s : Nat) : Prop := key ns s ≠ 0 ∧ pre ns n i s

set_option maxRecDepth 100000 in
set_option maxHeartbeats 4000000 in
theorem rows_any (w : World) (v : Value) (I : Nat → Prop) (ns : List Nat) (hs : SrcE natV w I v ns) (hn : ns.length ≤ 288) (h15 : ∀ n ∈ ns, n ≤ 15) (hm : measure ns ≤ 32768) :
    Calls Tryd.prog 50 #[v] w fun e w' => ∃ go rs, e = .returned (.slice (some ⟨go, 0, none⟩) ns.length ns.length) ∧ RW w w' go ns.length ns (fun s => key ns s ≠ 0) rs := by
  obtain ⟨ao, cap, rfl, hx1, hx2⟩ := id hs
  clear hx1 hx2
  have HS : Hid (SrcE natV w I (.slice ao ns.length cap) ns) := hs
  have H15 : Hid (∀ n ∈ ns, n ≤ 15) := h15
  have HM : Hid (measure ns ≤ 32768) := hm
  clear hs h15 hm
  obtain ⟨L, hL⟩ : ∃ L, L = ns.length := ⟨_, rfl⟩
  rw [← hL] at HS hn ⊢
  have HL : Hid (L = ns.length) := hL
  clear hL
  go_enter Tryd.func50, Tryd.ntmps50
  go_wp2_with (at_make; refine wpList_make_e _ slV (none, 0, 0) w.heap.size 79 43 24 Tryd.underlying79 Tryd.infoB rfl (by decide) rfl _ _ rfl _ _ _ _ L rfl rfl rfl rfl (by omega) (Nat.le_refl _) ?_; intro w1 hr1 hg1 hs1; have HRW0 : Hid (RW w w1 w.heap.size L ns (laidR ns 1 0) (List.replicate L (none, 0, 0))) := hid ⟨hr1, fun s hs hp => absurd hp (by rintro ⟨h1, h2 | h2⟩ <;> omega), fun s hs _ => by simp, (Kept.refl _ w).grown hg1 (by simp)⟩; clear hr1 hg1)
  go_loopg [4, 5, 6] 15 (fun q zc zl zn wr => ∃ (n code last : Nat) (rs : List (Option Addr × Nat × Nat)), 16 - n ≤ q ∧ 1 ≤ n ∧ n ≤ 16 ∧ code ≤ 32768 ∧ last ≤ 15 ∧ zn = .int .i64 (n : Nat) ∧ zc = .int .i64 (code : Nat) ∧ zl = .int .i64 (last : Nat) ∧ Hid (Cnt ns n 0 code last) ∧ Hid (RW w wr w.heap.size L ns (laidR ns n 0) rs ∧ rs.length = L))
  case atStart => exact ⟨1, 0, 0, _, by omega, by omega, by omega, by omega, by omega, rfl, rfl, rfl, hid (.inl ⟨rfl, rfl, sumP_start ns⟩), hid ⟨HRW0.out, by simp⟩⟩
  case round =>
    obtain ⟨n, code, last, rs, hq, hn1, hn16, hcode, hlast, rfl, rfl, rfl, HC, HR⟩ := hrel
    clear HRW0
    obtain ⟨gk0, hgk⟩ : ∃ x, x = gk := ⟨_, rfl⟩
    rw [← hgk] at hq
    have HG : Hid (gk0 = gk) := hgk
    clear hgk
    by_cases hn15 : n ≤ 15
    · have bn : decide ((n : Int) ≤ 15) = true := by simp; omega
      go_wp2_with fail
      go_loopg [4, 5, 7] L (fun q zc zl zi wr => ∃ (i code last : Nat) (rs : List (Option Addr × Nat × Nat)), L - i ≤ q ∧ i ≤ L ∧ code ≤ 32768 ∧ last ≤ n ∧ zi = .int .i64 (i : Nat) ∧ zc = .int .i64 (code : Nat) ∧ zl = .int .i64 (last : Nat) ∧ Hid (Cnt ns n i code last) ∧ Hid (RW w wr w.heap.size L ns (laidR ns n i) rs ∧ rs.length = L))
      case atStart => exact ⟨0, code, last, rs, by omega, by omega, by omega, by rcases HC.out with ⟨h, _⟩ | ⟨_, h, _⟩ <;> omega, rfl, rfl, rfl, HC, HR⟩
      case round =>
        clear HC HR hcode hlast
        obtain ⟨i, code, last, rs, hq2, hi, hcode, hlast, rfl, rfl, rfl, HC, HR⟩ := hrel
        obtain ⟨gk1, hgk1⟩ : ∃ x, x = gk := ⟨_, rfl⟩
        rw [← hgk1] at hq2
        have HG1 : Hid (gk1 = gk) := hgk1
        clear hgk1
        by_cases hlt : i < L
        · have hin : i < ns.length := by have := HL.out; omega
          obtain ⟨b, o, cap', e, _, _, cx⟩ := (HS.out.same HR.out.1.same).get i hin
          simp only [Value.slice.injEq] at e
          obtain ⟨rfl, hxe, rfl⟩ := e
          clear hxe
          rw [← key_get hin] at cx
          unfold natV at cx
          obtain ⟨k, hk⟩ : ∃ k, k = key ns i := ⟨_, rfl⟩
          rw [← hk] at cx
          by_cases hkn : k = n
          · have hkn' : key ns i = n := by omega
            have hmem : i ∈ ris ns := mem_ris.2 ⟨hin, by omega⟩
            have hbd : ((k : Int) != (n : Int)) = false := by simp [hkn]
            obtain ⟨co, hco⟩ : ∃ co, co = codeOf ns i := ⟨_, rfl⟩
            have hcol : co ≤ 32768 := by rw [hco]; exact Cnt.code_le (Cnt.next hmem) HM.out
            have hhit := HC.out.hit hkn' hn15
            rw [← hco] at hhit
            have HCN : Hid (Cnt ns n (i + 1) co n) := hid (by have h := Cnt.next hmem; rw [hkn', ← hco] at h; exact h)
            have HFIN : Hid (∀ (w5 : World) (a : Option Addr) (l c : Nat), RW w w5 w.heap.size L ns (laidR ns n i) rs → Row w5 (.slice a l c) (rowB n co) → (∀ k, (Value.slice a l c).ownBlock = some k → w.heap.size ≤ k) → RW w (w5.setCell ⟨w.heap.size, i, none⟩ (.slice a l c)) w.heap.size L ns (laidR ns n (i + 1)) (rs.set i (a, l, c))) := hid (by
              intro w5 a l c h1 h2 h3
              refine (h1.put i a l c (by have := HR.out.2; omega) (by rw [hkn', ← hco]; exact h2) h3).mono (fun s hs => ?_)
              unfold laidR pre
              constructor
              · rintro (rfl | ⟨h4, h5⟩)
                · exact ⟨by omega, .inr ⟨hkn', by omega⟩⟩
                · exact ⟨h4, by rcases h5 with h5 | h5; exact .inl h5; exact .inr ⟨h5.1, by omega⟩⟩
              · rintro ⟨h4, h5⟩
                by_cases e : s = i
                · exact .inl e
                · exact .inr ⟨h4, by rcases h5 with h5 | h5; exact .inl h5; exact .inr ⟨h5.1, by omega⟩⟩)
            have cgo : ∀ w5, RW w w5 w.heap.size L ns (laidR ns n i) rs → (∃ u, w5.cell? ⟨w.heap.size, i, none⟩ = some u) ∧ w5.frozen? ⟨w.heap.size, i, none⟩ = false := fun w5 h => ⟨⟨_, h.row.cell i (by have := HR.out.2; omega)⟩, h.row.frozen i⟩
            have HGO : Hid (∀ w5, RW w w5 w.heap.size L ns (laidR ns n i) rs → (∃ u, w5.cell? ⟨w.heap.size, i, none⟩ = some u) ∧ w5.frozen? ⟨w.heap.size, i, none⟩ = false) := cgo
            clear cgo hk hkn hmem hco
            by_cases hl0 : 0 < last
            · rw [if_pos hl0] at hhit
              have HPW := power_any wr (n - last) (by omega)
              obtain ⟨pw, hpw⟩ : ∃ pw, pw = 2 ^ (n - last) := ⟨_, rfl⟩
              rw [← hpw] at HPW hhit
              have hsub : ((n : Int) - (last : Int)) = ((n - last : Nat) : Int) := by omega
              have hcoI : ((code : Int) + 1) * (pw : Int) = (co : Int) := by rw [hhit]; simp
              have bl : decide (0 < last) = true := by simp [hl0]
              clear hpw hhit
              go_wp2_with fail
              refine HPW.mono ?_
              rintro e w2 ⟨rfl, rfl⟩
              clear HPW
              have hWs : w.heap.size < w2.heap.size := HR.out.1.row.lt rfl
              go_wp2_with (at_make; refine wpList_make_bytes _ rfl _ _ rfl _ _ _ _ n rfl rfl rfl rfl (by omega) ?_; intro w5 hr5 hg5 hs5; have HROW0 : Hid (Row w5 (.slice (some ⟨w2.heap.size, 0, none⟩) n n) (List.replicate n 0)) := hr5; have HSM0 : Hid (Same w2 w5) := hid ((Kept.refl _ w2).grown hg5 (by simp)); clear hr5 hg5 hs5)
              go_loopg [9, 10] n (fun q zc zk wx => ∃ (m cc : Nat) (tl : List Nat), m ≤ q ∧ m ≤ n ∧ cc ≤ 32768 ∧ zc = .int .i64 (cc : Nat) ∧ zk = .int .i64 ((m : Int) - 1) ∧ Hid (rowB n co = rowB m cc ++ tl) ∧ Hid (RowE 0 5 byteV wx (.slice (some ⟨w2.heap.size, 0, none⟩) n n) (List.replicate m 0 ++ tl)) ∧ Hid (Same w2 wx))
              case atStart => exact ⟨n, co, [], by omega, by omega, by omega, rfl, by first | rfl | (congr 1; omega), hid (by simp), hid (by simpa using HROW0.out), HSM0⟩
              case round =>
                clear HROW0 HSM0
                obtain ⟨m, cc, tl, hq3, hmn, hcc, rfl, rfl, HB, HROW, HSM⟩ := hrel
                cases m with
                | zero =>
                  obtain ⟨⟨u5, cu5⟩, fu5⟩ := HGO.out wr (HR.out.1.later HSM.out)
                  have HRNEW : Hid (RW w (wr.setCell ⟨w.heap.size, i, none⟩ (.slice (some ⟨w2.heap.size, 0, none⟩) n n)) w.heap.size L ns (laidR ns n (i + 1)) (rs.set i (some ⟨w2.heap.size, 0, none⟩, n, n))) := hid (HFIN.out wr _ n n (HR.out.1.later HSM.out) (by
                    have h := HROW.out
                    have e : rowB n co = List.replicate 0 0 ++ tl := by rw [HB.out]; rfl
                    rw [← e] at h
                    exact h) (fun j hj => by simp [Value.ownBlock] at hj; omega))
                  have bk : decide ((0 : Int) ≤ ((0 : Nat) : Int) - 1) = false := by decide
                  go_wp2_with fail
                  go_roundg (gk1 - 1)
                  case measure => have := HG1.out; omega
                  case rel => exact ⟨i + 1, co, n, rs.set i (some ⟨w2.heap.size, 0, none⟩, n, n), by omega, by omega, by omega, by omega, by go_num, rfl, rfl, HCN, hid ⟨HRNEW.out, by rw [List.length_set]; exact HR.out.2⟩⟩
                | succ m =>
                  have hkm : (((m + 1 : Nat) : Int) - 1) = (m : Int) := by omega
                  have hml : m < (List.replicate (m + 1) 0 ++ tl).length := by simp; omega
                  obtain ⟨y, cy⟩ : ∃ y : Nat, wr.cell? ⟨w2.heap.size, m, none⟩ = some (.int .u8 (y : Nat)) := ⟨_, HROW.out.cell m hml⟩
                  have fy := HROW.out.frozen m
                  obtain ⟨bt, hbt⟩ : ∃ bt, bt = cc % 2 := ⟨_, rfl⟩
                  obtain ⟨c2, hc2⟩ : ∃ c2, c2 = cc / 2 := ⟨_, rfl⟩
                  have hbI : ((cc : Int) % 2) = (bt : Int) := by omega
                  have hcI : ((cc : Int) / 2) = (c2 : Int) := by omega
                  have hb2 : bt < 2 := by omega
                  have hc2l : c2 ≤ 32768 := by omega
                  have HB2 : Hid (rowB n co = rowB m c2 ++ bt :: tl) := hid (by rw [HB.out, hbt, hc2]; simp [rowB])
                  have HROW2 : Hid (RowE 0 5 byteV (wr.setCell ⟨w2.heap.size, m, none⟩ (.int .u8 (bt : Nat))) (.slice (some ⟨w2.heap.size, 0, none⟩) n n) (List.replicate m 0 ++ bt :: tl)) := hid (by
                    have h := HROW.out.lay m bt
                    have e : (List.replicate (m + 1) 0 ++ tl).set m bt = List.replicate m 0 ++ bt :: tl := by
                      rw [List.replicate_succ', List.append_assoc, List.set_append_right _ _ (by simp)]
                      simp
                    rw [e] at h
                    exact h)
                  have HSM2 : Hid (Same w2 (wr.setCell ⟨w2.heap.size, m, none⟩ (.int .u8 (bt : Nat)))) := hid (HSM.out.setCell _ _ (.inr (Nat.le_refl _)))
                  clear hbt hc2
                  go_wp2_with fail
                  go_roundg (gk - 1)
                  case measure => omega
                  case rel => exact ⟨m, c2, bt :: tl, by omega, by omega, hc2l, by first | rfl | (congr 1; omega), by first | rfl | (congr 1; omega), HB2, HROW2, HSM2⟩
            · rw [if_neg hl0] at hhit
              have bl : decide (0 < last) = false := by simp; omega
              have hcoI : (code : Int) = (co : Int) := by rw [hhit]
              rw [← hhit] at *
              obtain ⟨w2, hw2⟩ : ∃ w2, w2 = wr := ⟨_, rfl⟩
              subst hw2
              have hWs : w.heap.size < w2.heap.size := HR.out.1.row.lt rfl
              go_wp2_with (at_make; refine wpList_make_bytes _ rfl _ _ rfl _ _ _ _ n rfl rfl rfl rfl (by omega) ?_; intro w5 hr5 hg5 hs5; have HROW0 : Hid (Row w5 (.slice (some ⟨w2.heap.size, 0, none⟩) n n) (List.replicate n 0)) := hr5; have HSM0 : Hid (Same w2 w5) := hid ((Kept.refl _ w2).grown hg5 (by simp)); clear hr5 hg5 hs5)
              go_loopg [9, 10] n (fun q zc zk wx => ∃ (m cc : Nat) (tl : List Nat), m ≤ q ∧ m ≤ n ∧ cc ≤ 32768 ∧ zc = .int .i64 (cc : Nat) ∧ zk = .int .i64 ((m : Int) - 1) ∧ Hid (rowB n co = rowB m cc ++ tl) ∧ Hid (RowE 0 5 byteV wx (.slice (some ⟨w2.heap.size, 0, none⟩) n n) (List.replicate m 0 ++ tl)) ∧ Hid (Same w2 wx))
              case atStart => exact ⟨n, co, [], by omega, by omega, by omega, rfl, by first | rfl | (congr 1; omega), hid (by simp), hid (by simpa using HROW0.out), HSM0⟩
              case round =>
                clear HROW0 HSM0
                obtain ⟨m, cc, tl, hq3, hmn, hcc, rfl, rfl, HB, HROW, HSM⟩ := hrel
                cases m with
                | zero =>
                  obtain ⟨⟨u5, cu5⟩, fu5⟩ := HGO.out wr (HR.out.1.later HSM.out)
                  have HRNEW : Hid (RW w (wr.setCell ⟨w.heap.size, i, none⟩ (.slice (some ⟨w2.heap.size, 0, none⟩) n n)) w.heap.size L ns (laidR ns n (i + 1)) (rs.set i (some ⟨w2.heap.size, 0, none⟩, n, n))) := hid (HFIN.out wr _ n n (HR.out.1.later HSM.out) (by
                    have h := HROW.out
                    have e : rowB n co = List.replicate 0 0 ++ tl := by rw [HB.out]; rfl
                    rw [← e] at h
                    exact h) (fun j hj => by simp [Value.ownBlock] at hj; omega))
                  have bk : decide ((0 : Int) ≤ ((0 : Nat) : Int) - 1) = false := by decide
                  go_wp2_with fail
                  go_roundg (gk1 - 1)
                  case measure => have := HG1.out; omega
                  case rel => exact ⟨i + 1, co, n, rs.set i (some ⟨w2.heap.size, 0, none⟩, n, n), by omega, by omega, by omega, by omega, by go_num, rfl, rfl, HCN, hid ⟨HRNEW.out, by rw [List.length_set]; exact HR.out.2⟩⟩
                | succ m =>
                  have hkm : (((m + 1 : Nat) : Int) - 1) = (m : Int) := by omega
                  have hml : m < (List.replicate (m + 1) 0 ++ tl).length := by simp; omega
                  obtain ⟨y, cy⟩ : ∃ y : Nat, wr.cell? ⟨w2.heap.size, m, none⟩ = some (.int .u8 (y : Nat)) := ⟨_, HROW.out.cell m hml⟩
                  have fy := HROW.out.frozen m
                  obtain ⟨bt, hbt⟩ : ∃ bt, bt = cc % 2 := ⟨_, rfl⟩
                  obtain ⟨c2, hc2⟩ : ∃ c2, c2 = cc / 2 := ⟨_, rfl⟩
                  have hbI : ((cc : Int) % 2) = (bt : Int) := by omega
                  have hcI : ((cc : Int) / 2) = (c2 : Int) := by omega
                  have hb2 : bt < 2 := by omega
                  have hc2l : c2 ≤ 32768 := by omega
                  have HB2 : Hid (rowB n co = rowB m c2 ++ bt :: tl) := hid (by rw [HB.out, hbt, hc2]; simp [rowB])
                  have HROW2 : Hid (RowE 0 5 byteV (wr.setCell ⟨w2.heap.size, m, none⟩ (.int .u8 (bt : Nat))) (.slice (some ⟨w2.heap.size, 0, none⟩) n n) (List.replicate m 0 ++ bt :: tl)) := hid (by
                    have h := HROW.out.lay m bt
                    have e : (List.replicate (m + 1) 0 ++ tl).set m bt = List.replicate m 0 ++ bt :: tl := by
                      rw [List.replicate_succ', List.append_assoc, List.set_append_right _ _ (by simp)]
                      simp
                    rw [e] at h
                    exact h)
                  have HSM2 : Hid (Same w2 (wr.setCell ⟨w2.heap.size, m, none⟩ (.int .u8 (bt : Nat)))) := hid (HSM.out.setCell _ _ (.inr (Nat.le_refl _)))
                  clear hbt hc2
                  go_wp2_with fail
                  go_roundg (gk - 1)
                  case measure => omega
                  case rel => exact ⟨m, c2, bt :: tl, by omega, by omega, hc2l, by first | rfl | (congr 1; omega), by first | rfl | (congr 1; omega), HB2, HROW2, HSM2⟩
          · have hbd : ((k : Int) != (n : Int)) = true := by simp; omega
            have HCM : Hid (Cnt ns n (i + 1) code last) := hid (HC.out.miss (by omega))
            have HRM : Hid (RW w wr w.heap.size L ns (laidR ns n (i + 1)) rs ∧ rs.length = L) := hid ⟨HR.out.1.mono (fun s hs => by
              unfold laidR pre
              constructor
              · rintro ⟨h4, h5⟩
                exact ⟨h4, by rcases h5 with h5 | h5; exact .inl h5; exact .inr ⟨h5.1, by omega⟩⟩
              · rintro ⟨h4, h5⟩
                refine ⟨h4, ?_⟩
                rcases h5 with h5 | h5
                · exact .inl h5
                · refine .inr ⟨h5.1, ?_⟩
                  by_cases e : s = i
                  · subst e; omega
                  · omega), HR.out.2⟩
            clear hk hkn
            go_wp2_with fail
            go_roundg (gk1 - 1)
            case measure => have := HG1.out; omega
            case rel => exact ⟨i + 1, code, last, rs, by omega, by omega, by omega, by omega, by go_num, rfl, rfl, HCM, HRM⟩
        · have hiL : i = L := by omega
          have HCR : Hid (Cnt ns (n + 1) 0 code last) := hid (Cnt.round (by have h := HC.out; rw [hiL, HL.out] at h; exact h))
          have HRR : Hid (RW w wr w.heap.size L ns (laidR ns (n + 1) 0) rs ∧ rs.length = L) := hid ⟨HR.out.1.mono (fun s hs => by
            have := HR.out.2
            unfold laidR pre
            constructor
            · rintro ⟨h4, h5⟩
              exact ⟨h4, .inl (by omega)⟩
            · rintro ⟨h4, h5⟩
              refine ⟨h4, ?_⟩
              rcases h5 with h5 | h5
              · by_cases e : key ns s < n
                · exact .inl e
                · exact .inr ⟨by omega, by omega⟩
              · omega), HR.out.2⟩
          clear hiL
          go_wp2_with fail
          go_roundg (gk0 - 1)
          case measure => have := HG.out; omega
          case rel => exact ⟨n + 1, code, last, rs, by omega, by omega, by omega, by omega, by omega, by go_num, rfl, rfl, HCR, HRR⟩
    · have bn : decide ((n : Int) ≤ 15) = false := by simp; omega
      go_wp2_with fail
      go_ret
      refine ⟨w.heap.size, rs, rfl, HR.out.1.mono (fun s hs => ?_)⟩
      have h15 : key ns s ≤ 15 := by
        by_cases e : s < ns.length
        · rw [key_get e]; exact H15.out _ (List.getElem_mem _)
        · simp [key, e]
      unfold laidR pre
      constructor
      · exact fun h => h.1
      · exact fun h => ⟨h, .inl (by omega)⟩

end Go.Proofs.YtofhlnpbflkdlaaDoor

/-
  The reference's Pack.
-/
namespace Go.Proofs.YtofhlnpbflkdlaaDoor
open Go.RowKit

theorem packM_next (ns : List Nat) (i n : Nat) (hi : i < ns.length) (hn : n = 1 + frontN ns[i] (ns.drop (i + 1))) : packM (ns.drop i) = sayM ns[i] n ++ packM (ns.drop (i + n)) := by
  rw [List.drop_eq_getElem_cons hi, packM_cons, List.drop_drop, hn]
  congr 3
  omega

set_option maxRecDepth 100000 in
set_option maxHeartbeats 4000000 in
theorem pack_good (w : World) (v : Value) (I : Nat → Prop) (zs : List Int) (ns : List Nat) (hs : SrcE intV w I v zs) (hl : zs.length ≤ 316) (hok : lensOk zs = true) (hns : ns = zs.map Int.toNat) :
    Calls Tryd.prog 12 #[v] w fun e w' => ∃ v', e = .returned (.tuple #[v', .int .i64 0]) ∧ StRow w.heap.size w' v' (packM ns) ∧ Same w w' := by
  have hb := (lensOk_iff zs).1 hok
  have eN : ns.map natV = zs.map intV := by
    rw [hns, List.map_map]
    refine List.map_congr_left (fun z hz => ?_)
    simp only [Function.comp, natV, intV]
    rw [Int.toNat_of_nonneg (hb z hz).1]
  obtain ⟨ao, cap, rfl, hx1, hx2⟩ := id hs
  clear hx1 hx2
  have HLN := lengths_any w _ I zs hs (by omega)
  rw [hok] at HLN
  have HS : Hid (SrcE natV w I (.slice ao zs.length cap) ns) := hid (hs.recode eN)
  have hnl : zs.length = ns.length := by rw [hns]; simp
  obtain ⟨L, hL⟩ : ∃ L, L = zs.length := ⟨_, rfl⟩
  rw [← hL] at HLN HS hl ⊢
  have HL : Hid (L = ns.length) := hid (by omega)
  have H15 : Hid (∀ x ∈ ns, x ≤ 15) := hid (by
    intro x hx
    rw [hns] at hx
    obtain ⟨z, hz, rfl⟩ := List.mem_map.1 hx
    have := hb z hz
    omega)
  have b1 : decide ((316 : Int) < (L : Int)) = false := by simp; omega
  clear hs hb hok hns eN hnl hL
  go_enter Tryd.func12, Tryd.ntmps12
  go_wp2_with fail
  refine HLN.mono ?_
  rintro e w1 ⟨rfl, hw1⟩
  subst hw1
  clear HLN
  go_wp2_with fail
  clear b1
  go_loopg [4, 5] L (fun q zo zi wr => ∃ (i : Nat) (ss : List (Int × Int)), L - i ≤ q ∧ i ≤ L ∧ zi = .int .i64 (i : Nat) ∧ Hid (packM ns = ss ++ packM (ns.drop i) ∧ ss.length ≤ i) ∧ Hid (StRow w1.heap.size wr zo ss) ∧ Hid (Same w1 wr))
  case atStart => exact ⟨0, [], by omega, by omega, rfl, hid ⟨by simp, by simp⟩, RowC.nil, Kept.refl _ _⟩
  case round =>
    obtain ⟨i, ss, hq, hi, rfl, HP, HO, HK⟩ := hrel
    obtain ⟨gk0, hgk⟩ : ∃ x, x = gk := ⟨_, rfl⟩
    rw [← hgk] at hq
    have HG : Hid (gk0 = gk) := hgk
    clear hgk
    by_cases hlt : i < L
    · have hin : i < ns.length := by have := HL.out; omega
      obtain ⟨b, o, cap', e, _, _, cx⟩ := (HS.out.same HK.out).get i hin
      simp only [Value.slice.injEq] at e
      obtain ⟨rfl, hxe, rfl⟩ := e
      clear hxe
      obtain ⟨x, hx⟩ : ∃ x, x = ns[i] := ⟨_, rfl⟩
      rw [← hx] at cx
      unfold natV at cx
      have hx15 : x ≤ 15 := by rw [hx]; exact H15.out _ (List.getElem_mem _)
      have HX : Hid (x = ns[i]) := hx
      have HCX : Hid (wr.cell? ⟨b, o + i, none⟩ = some (.int .i64 (x : Nat))) := cx
      obtain ⟨w2, hw2⟩ : ∃ w2, w2 = wr := ⟨_, rfl⟩
      subst hw2
      clear hx cx
      go_wp2_with fail
      go_loopg [6] L (fun q zn wr => ∃ (n : Nat), L - (i + n) ≤ q ∧ 1 ≤ n ∧ i + n ≤ L ∧ zn = .int .i64 (n : Nat) ∧ Hid (∀ j (_ : j < ns.length), i < j → j < i + n → ns[j] = x) ∧ Hid (Same w2 wr))
      case atStart => exact ⟨1, by omega, by omega, by omega, rfl, hid (fun j _ h1 h2 => by omega), Kept.refl _ _⟩
      case round =>
        obtain ⟨n, hq2, hn1, hnL, rfl, HF, HK2⟩ := hrel
        have cx : wr.cell? ⟨b, o + i, none⟩ = some (.int .i64 (x : Nat)) := HK2.out.cell HCX.out (fun h => h)
        obtain ⟨m, hm⟩ : ∃ m, m = i + n := ⟨_, rfl⟩
        have hmI : (i : Int) + (n : Int) = (m : Int) := by omega
        have hwm : IntKind.i64.wrap (m : Int) = (m : Int) := by rw [IntKind.wrap_i64]; omega
        have HM : Hid (m = i + n) := hm
        -- the front is found: the rest, whatever ended it
        have done : (∀ h : m < ns.length, ns[m] ≠ x) → n = 1 + frontN ns[i] (ns.drop (i + 1)) := by
          intro hne
          have h := frontN_is ns[i] (ns.drop (i + 1)) (n - 1) (fun j hj hjn => by
            rw [List.getElem_drop, ← HX.out]
            exact HF.out (i + 1 + j) (by simp at hj; omega) (by omega) (by omega)) (by simp; have := HL.out; omega) (fun h => by
            rw [List.getElem_drop, ← HX.out]
            have h2 := hne (by simp at h; have := HL.out; omega)
            have e : i + 1 + (n - 1) = m := by omega
            intro h3
            exact h2 (by rw [← h3]; congr 1; omega))
          omega
        clear hm
        by_cases hml : m < L
        · have hmn : m < ns.length := by have := HL.out; omega
          obtain ⟨b', o', cap2, e, _, _, cy⟩ := (HS.out.same (Same.trans HK.out HK2.out)).get m hmn
          simp only [Value.slice.injEq, Option.some.injEq, Addr.mk.injEq, and_true] at e
          obtain ⟨⟨rfl, rfl⟩, hxe, rfl⟩ := e
          clear hxe
          obtain ⟨y, hy⟩ : ∃ y, y = ns[m] := ⟨_, rfl⟩
          rw [← hy] at cy
          unfold natV at cy
          by_cases hyx : y = x
          · have hd : ((y : Int) == (x : Int)) = true := by simp [hyx]
            have HF2 : Hid (∀ j (_ : j < ns.length), i < j → j < i + (n + 1) → ns[j] = x) := hid (fun j hj h1 h2 => by
              by_cases e : j = m
              · subst e; rw [← hy]; exact hyx
              · exact HF.out j hj h1 (by have := HM.out; omega))
            have hm2 : i + (n + 1) ≤ L ∧ L - (i + (n + 1)) + 1 ≤ L - (i + n) := by clear done; have := HM.out; omega
            clear hy hyx done
            go_wp2_with fail
            go_quiet (fail)
            go_wp2_with fail
            go_roundg (gk - 1)
            case measure => omega
            case rel => exact ⟨n + 1, by omega, by omega, hm2.1, by go_num, HF2, hid (HK2.out.drewN _)⟩
          · have hd : ((y : Int) == (x : Int)) = false := by simp; omega
            have HN : Hid (n = 1 + frontN ns[i] (ns.drop (i + 1))) := hid (done (fun _ => by rw [← hy]; exact hyx))
            have HREST : Hid (packM ns = ss ++ (sayM x n ++ packM (ns.drop m))) := hid (by rw [HP.out.1, packM_next ns i n hin HN.out, ← HX.out, HM.out])
            clear hy hyx done HN HF
            go_wp2_with fail
            go_quiet (fail)
            by_cases hx0 : x = 0
            · have hxd : ((x : Int) == 0) = true := by simp; omega
              have HZ : Hid (sayM x n = [] ++ zerosM n ∧ ([] : List (Int × Int)).length + n ≤ n) := hid ⟨by unfold sayM; rw [if_pos hx0]; rfl, by simp⟩
              have HO3 : Hid (StRow w1.heap.size (wr.drewN nq) u4 (ss ++ [])) := hid (by simpa using RowC.kept HO.out (HK2.out.drewN nq) (fun _ _ f => f))
              have HK3 : Hid (Same w1 (wr.drewN nq)) := hid (Same.trans HK.out (HK2.out.drewN nq))
              have hn316 : n ≤ 316 := by omega
              clear hx0
              go_wp2_with fail
              clear hxd
              go_loopg [4, 6] n (fun q zo zn wx => ∃ (k : Nat) (em : List (Int × Int)), k ≤ q ∧ k ≤ n ∧ zn = .int .i64 (k : Nat) ∧ Hid (sayM x n = em ++ zerosM k ∧ em.length + k ≤ n) ∧ Hid (StRow w1.heap.size wx zo (ss ++ em)) ∧ Hid (Same w1 wx))
              case atStart => exact ⟨n, [], by omega, by omega, rfl, HZ, HO3, HK3⟩
              case round =>
                clear HZ HO3 HK3 HO HK2 cx
                obtain ⟨k, em, hqk, hkn, rfl, HZ, HO, HK3⟩ := hrel
                have hsz := HK3.out.size
                have hlen : (ss ++ em).length + 1 ≤ 1000 := by have h1 := HP.out.2; have h2 := HZ.out.2; simp; omega
                by_cases h11 : 11 ≤ k
                · have b11 : decide ((11 : Int) ≤ (k : Int)) = true := by simp; omega
                  by_cases h138 : 138 < k
                  · obtain ⟨k2, hk2⟩ : ∃ k2, k2 = k - 138 := ⟨_, rfl⟩
                    have hk2I : (k : Int) - 138 = (k2 : Int) := by omega
                    have b138 : decide ((138 : Int) < (k : Int)) = true := by simp; omega
                    have HZ2 : Hid (sayM x n = (em ++ [(18, 127)]) ++ zerosM k2 ∧ (em ++ [((18 : Int), (127 : Int))]).length + k2 ≤ n) := hid ⟨by rw [HZ.out.1, zerosM_big k h11, show min k 138 = 138 by omega, ← hk2]; simp, by have := HZ.out.2; simp; omega⟩
                    have hk2k : k2 < k := by omega
                    clear hk2
                    go_wp2_with (at_builtin; refine wpList_append_step _ w1.heap.size rfl (.tmp 56) (.tmp 60) rfl u4 _ rfl (World.ownsRow.alloc HO.out _) ⟨wr.heap.size, 0, none⟩ (18, 127) rfl (step_new _ _ _) (by omega) (by simp; omega) ?_; intro v5 w5 hr5 hg5)
                    have HO5 : Hid (StRow w1.heap.size w5 v5 (ss ++ (em ++ [(18, 127)]))) := hid (by rw [← List.append_assoc]; exact hr5)
                    have HK5 : Hid (Same w1 w5) := hid ((HK3.out.alloc _).grown hg5 (fun j e => .inr (HO.out.ge e)))
                    clear hr5 hg5
                    go_wp2_with fail
                    go_roundg (gk - 1)
                    case measure => omega
                    case rel => exact ⟨k2, _, by omega, by omega, rfl, HZ2, HO5, HK5⟩
                  · obtain ⟨e2, he2⟩ : ∃ e2, e2 = k - 11 := ⟨_, rfl⟩
                    have he2I : (k : Int) - 11 = (e2 : Int) := by omega
                    have b138 : decide ((138 : Int) < (k : Int)) = false := by simp; omega
                    have hkk : (k : Int) - (k : Int) = 0 := by omega
                    have HZ2 : Hid (sayM x n = (em ++ [(18, (e2 : Int))]) ++ zerosM 0 ∧ (em ++ [((18 : Int), (e2 : Int))]).length + 0 ≤ n) := hid ⟨by rw [HZ.out.1, zerosM_big k h11, show min k 138 = k by omega, ← he2, Nat.sub_self]; simp, by have := HZ.out.2; simp; omega⟩
                    have hk0 : 0 < k := by omega
                    clear he2
                    go_wp2_with (at_builtin; refine wpList_append_step _ w1.heap.size rfl (.tmp 56) (.tmp 60) rfl u4 _ rfl (World.ownsRow.alloc HO.out _) ⟨wr.heap.size, 0, none⟩ (18, (e2 : Int)) rfl (step_new _ _ _) (by omega) (by simp; omega) ?_; intro v5 w5 hr5 hg5)
                    have HO5 : Hid (StRow w1.heap.size w5 v5 (ss ++ (em ++ [(18, (e2 : Int))]))) := hid (by rw [← List.append_assoc]; exact hr5)
                    have HK5 : Hid (Same w1 w5) := hid ((HK3.out.alloc _).grown hg5 (fun j e => .inr (HO.out.ge e)))
                    clear hr5 hg5
                    go_wp2_with fail
                    go_roundg (gk - 1)
                    case measure => omega
                    case rel => exact ⟨0, _, by omega, by omega, rfl, HZ2, HO5, HK5⟩
                · have b11 : decide ((11 : Int) ≤ (k : Int)) = false := by simp; omega
                  by_cases h3 : 3 ≤ k
                  · obtain ⟨e2, he2⟩ : ∃ e2, e2 = k - 3 := ⟨_, rfl⟩
                    have he2I : (k : Int) - 3 = (e2 : Int) := by omega
                    have b3 : decide ((3 : Int) ≤ (k : Int)) = true := by simp; omega
                    have HZ2 : Hid (sayM x n = em ++ [(17, (e2 : Int))]) := hid (by rw [HZ.out.1, zerosM_mid k (by omega) h3, ← he2])
                    have hml2 : ss.length + n ≤ m := by have := HP.out.2; have := HM.out; omega
                    clear he2
                    go_wp2_with (at_builtin; refine wpList_append_step _ w1.heap.size rfl (.tmp 67) (.tmp 71) rfl u4 _ rfl (World.ownsRow.alloc HO.out _) ⟨wr.heap.size, 0, none⟩ (17, (e2 : Int)) rfl (step_new _ _ _) (by omega) (by simp; omega) ?_; intro v5 w5 hr5 hg5; have HO5 : Hid (StRow w1.heap.size w5 v5 (ss ++ (em ++ [(17, (e2 : Int))]))) := hid (by rw [← List.append_assoc]; exact hr5); have HK5 : Hid (Same w1 w5) := hid ((HK3.out.alloc _).grown hg5 (fun j e => .inr (HO.out.ge e))); clear hr5 hg5)
                    have HT : Calls Tryd.prog 38 #[v5, .int .i64 0, .int .i64 0] w5 fun e w' => ∃ v', e = .returned v' ∧ StRow w1.heap.size w' v' (ss ++ (em ++ [(17, (e2 : Int))]) ++ List.replicate 0 (0, 0)) ∧ Kept (Over w1.heap.size) w5 w' := times_any w5 w1.heap.size v5 _ 0 0 HO5.out HK5.out.size (by simp at hlen ⊢; omega)
                    refine HT.mono ?_
                    rintro e w6 ⟨v6, rfl, hr6, hk6⟩
                    have HO6 : Hid (StRow w1.heap.size w6 v6 (ss ++ sayM x n)) := hid (by rw [HZ2.out]; simpa using hr6)
                    have HK6 : Hid (Same w1 w6) := hid (Same.then HK5.out hk6 (fun j hj e => by unfold Over at e; omega))
                    clear hr6 hk6 HT
                    have HP6 : Hid (packM ns = (ss ++ sayM x n) ++ packM (ns.drop m) ∧ (ss ++ sayM x n).length ≤ m) := hid ⟨by rw [HREST.out, List.append_assoc], by have h1 := sayM_len x n hn1; simp; omega⟩
                    go_wp2_with fail
                    go_roundg (gk0 - 1)
                    case measure => have := HG.out; omega
                    case rel => exact ⟨m, _, by have := HM.out; omega, by have := HM.out; omega, rfl, HP6, HO6, HK6⟩
                  · have b3 : decide ((3 : Int) ≤ (k : Int)) = false := by simp; omega
                    have HZ2 : Hid (sayM x n = em ++ List.replicate k (0, 0)) := hid (by rw [HZ.out.1, zerosM_few k (by omega)])
                    have hml2 : ss.length + n ≤ m := by have := HP.out.2; have := HM.out; omega
                    have HT := times_any wr w1.heap.size u4 _ k 0 HO.out hsz (by simp at hlen ⊢; omega)
                    go_wp2_with fail
                    refine HT.mono ?_
                    rintro e w6 ⟨v6, rfl, hr6, hk6⟩
                    have HO6 : Hid (StRow w1.heap.size w6 v6 (ss ++ sayM x n)) := hid (by rw [HZ2.out, ← List.append_assoc]; exact hr6)
                    have HK6 : Hid (Same w1 w6) := hid (Same.then HK3.out hk6 (fun j hj e => by unfold Over at e; omega))
                    clear hr6 hk6 HT
                    have HP6 : Hid (packM ns = (ss ++ sayM x n) ++ packM (ns.drop m) ∧ (ss ++ sayM x n).length ≤ m) := hid ⟨by rw [HREST.out, List.append_assoc], by have h1 := sayM_len x n hn1; simp; omega⟩
                    go_wp2_with fail
                    go_roundg (gk0 - 1)
                    case measure => have := HG.out; omega
                    case rel => exact ⟨m, _, by have := HM.out; omega, by have := HM.out; omega, rfl, HP6, HO6, HK6⟩
            · have hxd : ((x : Int) == 0) = false := by simp; omega
              obtain ⟨n1, hn1e⟩ : ∃ n1, n1 = n - 1 := ⟨_, rfl⟩
              have hn1I : (n : Int) - 1 = (n1 : Int) := by omega
              have HSAY : Hid (sayM x n = ((x : Int), 0) :: againM x n1) := hid (by unfold sayM; rw [if_neg hx0, hn1e])
              have HN1 : Hid (n = n1 + 1) := hid (by omega)
              have HO3 : Hid (StRow w1.heap.size (wr.drewN nq) u4 ss) := hid (RowC.kept HO.out (HK2.out.drewN nq) (fun _ _ f => f))
              have HK3 : Hid (Same w1 (wr.drewN nq)) := hid (Same.trans HK.out (HK2.out.drewN nq))
              have hlen0 : ss.length + 1 ≤ 1000 := by have h1 := HP.out.2; omega
              have hsz3 : w1.heap.size ≤ wr.heap.size := HK3.out.size
              have hml2 : ss.length + n ≤ m := by have := HP.out.2; have := HM.out; omega
              clear hx0 hn1e
              go_wp2_with (at_builtin; refine wpList_append_step _ w1.heap.size rfl (.tmp 76) (.tmp 79) rfl u4 _ rfl (World.ownsRow.alloc HO3.out _) ⟨wr.heap.size, 0, none⟩ ((x : Int), 0) rfl (step_new _ _ _) (by omega) (by simp; omega) ?_; intro v4 w4 hr4 hg4; have HO4 : Hid (StRow w1.heap.size w4 v4 (ss ++ ((x : Int), 0) :: [])) := hr4; have HK4 : Hid (Same w1 w4) := hid ((HK3.out.alloc _).grown hg4 (fun j e => .inr (HO3.out.ge e))); clear hr4 hg4)
              clear hxd
              go_loopg [4, 6] n1 (fun q zo zn wx => ∃ (k : Nat) (em : List (Int × Int)), k ≤ q ∧ k ≤ n1 ∧ zn = .int .i64 (k : Nat) ∧ Hid (againM x n1 = em ++ againM x k ∧ em.length + k ≤ n1) ∧ Hid (StRow w1.heap.size wx zo (ss ++ ((x : Int), 0) :: em)) ∧ Hid (Same w1 wx))
              case atStart => exact ⟨n1, [], by omega, by omega, rfl, hid ⟨rfl, by simp⟩, HO4, HK4⟩
              case round =>
                clear HO3 HK3 HO4 HK4 HO HK2 cx
                obtain ⟨k, em, hqk, hkn, rfl, HZ, HO, HK3⟩ := hrel
                have hsz := HK3.out.size
                have hlen : (ss ++ ((x : Int), (0 : Int)) :: em).length + 1 ≤ 1000 := by have h1 := HP.out.2; have h2 := HZ.out.2; have := HN1.out; simp; omega
                by_cases h3 : 3 ≤ k
                · have b3 : decide ((3 : Int) ≤ (k : Int)) = true := by simp; omega
                  by_cases h6 : 6 < k
                  · obtain ⟨k2, hk2⟩ : ∃ k2, k2 = k - 6 := ⟨_, rfl⟩
                    have hk2I : (k : Int) - 6 = (k2 : Int) := by omega
                    have b6 : decide ((6 : Int) < (k : Int)) = true := by simp; omega
                    have HZ2 : Hid (againM x n1 = (em ++ [(16, 3)]) ++ againM x k2 ∧ (em ++ [((16 : Int), (3 : Int))]).length + k2 ≤ n1) := hid ⟨by rw [HZ.out.1, againM_big x k h3, show min k 6 = 6 by omega, ← hk2]; simp, by have := HZ.out.2; simp; omega⟩
                    have hk2k : k2 < k := by omega
                    clear hk2
                    go_wp2_with (at_builtin; refine wpList_append_step _ w1.heap.size rfl (.tmp 87) (.tmp 91) rfl u4 _ rfl (World.ownsRow.alloc HO.out _) ⟨wr.heap.size, 0, none⟩ (16, 3) rfl (step_new _ _ _) (by omega) (by simp; omega) ?_; intro v5 w5 hr5 hg5)
                    have HO5 : Hid (StRow w1.heap.size w5 v5 (ss ++ ((x : Int), 0) :: (em ++ [(16, 3)]))) := hid (by rw [← List.cons_append, ← List.append_assoc]; exact hr5)
                    have HK5 : Hid (Same w1 w5) := hid ((HK3.out.alloc _).grown hg5 (fun j e => .inr (HO.out.ge e)))
                    clear hr5 hg5
                    go_wp2_with fail
                    go_roundg (gk - 1)
                    case measure => omega
                    case rel => exact ⟨k2, _, by omega, by omega, rfl, HZ2, HO5, HK5⟩
                  · obtain ⟨e2, he2⟩ : ∃ e2, e2 = k - 3 := ⟨_, rfl⟩
                    have he2I : (k : Int) - 3 = (e2 : Int) := by omega
                    have b6 : decide ((6 : Int) < (k : Int)) = false := by simp; omega
                    have hkk : (k : Int) - (k : Int) = 0 := by omega
                    have HZ2 : Hid (againM x n1 = (em ++ [(16, (e2 : Int))]) ++ againM x 0 ∧ (em ++ [((16 : Int), (e2 : Int))]).length + 0 ≤ n1) := hid ⟨by rw [HZ.out.1, againM_big x k h3, show min k 6 = k by omega, ← he2, Nat.sub_self]; simp, by have := HZ.out.2; simp; omega⟩
                    have hk0 : 0 < k := by omega
                    clear he2
                    go_wp2_with (at_builtin; refine wpList_append_step _ w1.heap.size rfl (.tmp 87) (.tmp 91) rfl u4 _ rfl (World.ownsRow.alloc HO.out _) ⟨wr.heap.size, 0, none⟩ (16, (e2 : Int)) rfl (step_new _ _ _) (by omega) (by simp; omega) ?_; intro v5 w5 hr5 hg5)
                    have HO5 : Hid (StRow w1.heap.size w5 v5 (ss ++ ((x : Int), 0) :: (em ++ [(16, (e2 : Int))]))) := hid (by rw [← List.cons_append, ← List.append_assoc]; exact hr5)
                    have HK5 : Hid (Same w1 w5) := hid ((HK3.out.alloc _).grown hg5 (fun j e => .inr (HO.out.ge e)))
                    clear hr5 hg5
                    go_wp2_with fail
                    go_roundg (gk - 1)
                    case measure => omega
                    case rel => exact ⟨0, _, by omega, by omega, rfl, HZ2, HO5, HK5⟩
                · have b3 : decide ((3 : Int) ≤ (k : Int)) = false := by simp; omega
                  have HZ2 : Hid (sayM x n = ((x : Int), 0) :: (em ++ List.replicate k ((x : Int), 0))) := hid (by rw [HSAY.out, HZ.out.1, againM_few x k (by omega)])
                  have HT := times_any wr w1.heap.size u4 _ k (x : Int) HO.out hsz (by simp at hlen ⊢; omega)
                  go_wp2_with fail
                  refine HT.mono ?_
                  rintro e w6 ⟨v6, rfl, hr6, hk6⟩
                  have HO6 : Hid (StRow w1.heap.size w6 v6 (ss ++ sayM x n)) := hid (by rw [HZ2.out, ← List.cons_append, ← List.append_assoc]; exact hr6)
                  have HK6 : Hid (Same w1 w6) := hid (Same.then HK3.out hk6 (fun j hj e => by unfold Over at e; omega))
                  clear hr6 hk6 HT
                  have HP6 : Hid (packM ns = (ss ++ sayM x n) ++ packM (ns.drop m) ∧ (ss ++ sayM x n).length ≤ m) := hid ⟨by rw [HREST.out, List.append_assoc], by have h1 := sayM_len x n hn1; simp; omega⟩
                  go_wp2_with fail
                  go_roundg (gk0 - 1)
                  case measure => have := HG.out; omega
                  case rel => exact ⟨m, _, by have := HM.out; omega, by have := HM.out; omega, rfl, HP6, HO6, HK6⟩
        · have hmd : decide (m < L) = false := by simp; omega
          have HN : Hid (n = 1 + frontN ns[i] (ns.drop (i + 1))) := hid (done (fun h => by exfalso; have := HL.out; omega))
          have HREST : Hid (packM ns = ss ++ (sayM x n ++ packM (ns.drop m))) := hid (by rw [HP.out.1, packM_next ns i n hin HN.out, ← HX.out, HM.out])
          clear done HN HF hml
          go_wp2_with fail
          go_quiet (fail)
          by_cases hx0 : x = 0
          · have hxd : ((x : Int) == 0) = true := by simp; omega
            have HZ : Hid (sayM x n = [] ++ zerosM n ∧ ([] : List (Int × Int)).length + n ≤ n) := hid ⟨by unfold sayM; rw [if_pos hx0]; rfl, by simp⟩
            have HO3 : Hid (StRow w1.heap.size (wr.drewN nq) u4 (ss ++ [])) := hid (by simpa using RowC.kept HO.out (HK2.out.drewN nq) (fun _ _ f => f))
            have HK3 : Hid (Same w1 (wr.drewN nq)) := hid (Same.trans HK.out (HK2.out.drewN nq))
            have hn316 : n ≤ 316 := by omega
            clear hx0
            go_wp2_with fail
            clear hxd
            go_loopg [4, 6] n (fun q zo zn wx => ∃ (k : Nat) (em : List (Int × Int)), k ≤ q ∧ k ≤ n ∧ zn = .int .i64 (k : Nat) ∧ Hid (sayM x n = em ++ zerosM k ∧ em.length + k ≤ n) ∧ Hid (StRow w1.heap.size wx zo (ss ++ em)) ∧ Hid (Same w1 wx))
            case atStart => exact ⟨n, [], by omega, by omega, rfl, HZ, HO3, HK3⟩
            case round =>
              clear HZ HO3 HK3 HO HK2 cx
              obtain ⟨k, em, hqk, hkn, rfl, HZ, HO, HK3⟩ := hrel
              have hsz := HK3.out.size
              have hlen : (ss ++ em).length + 1 ≤ 1000 := by have h1 := HP.out.2; have h2 := HZ.out.2; simp; omega
              by_cases h11 : 11 ≤ k
              · have b11 : decide ((11 : Int) ≤ (k : Int)) = true := by simp; omega
                by_cases h138 : 138 < k
                · obtain ⟨k2, hk2⟩ : ∃ k2, k2 = k - 138 := ⟨_, rfl⟩
                  have hk2I : (k : Int) - 138 = (k2 : Int) := by omega
                  have b138 : decide ((138 : Int) < (k : Int)) = true := by simp; omega
                  have HZ2 : Hid (sayM x n = (em ++ [(18, 127)]) ++ zerosM k2 ∧ (em ++ [((18 : Int), (127 : Int))]).length + k2 ≤ n) := hid ⟨by rw [HZ.out.1, zerosM_big k h11, show min k 138 = 138 by omega, ← hk2]; simp, by have := HZ.out.2; simp; omega⟩
                  have hk2k : k2 < k := by omega
                  clear hk2
                  go_wp2_with (at_builtin; refine wpList_append_step _ w1.heap.size rfl (.tmp 56) (.tmp 60) rfl u4 _ rfl (World.ownsRow.alloc HO.out _) ⟨wr.heap.size, 0, none⟩ (18, 127) rfl (step_new _ _ _) (by omega) (by simp; omega) ?_; intro v5 w5 hr5 hg5)
                  have HO5 : Hid (StRow w1.heap.size w5 v5 (ss ++ (em ++ [(18, 127)]))) := hid (by rw [← List.append_assoc]; exact hr5)
                  have HK5 : Hid (Same w1 w5) := hid ((HK3.out.alloc _).grown hg5 (fun j e => .inr (HO.out.ge e)))
                  clear hr5 hg5
                  go_wp2_with fail
                  go_roundg (gk - 1)
                  case measure => omega
                  case rel => exact ⟨k2, _, by omega, by omega, rfl, HZ2, HO5, HK5⟩
                · obtain ⟨e2, he2⟩ : ∃ e2, e2 = k - 11 := ⟨_, rfl⟩
                  have he2I : (k : Int) - 11 = (e2 : Int) := by omega
                  have b138 : decide ((138 : Int) < (k : Int)) = false := by simp; omega
                  have hkk : (k : Int) - (k : Int) = 0 := by omega
                  have HZ2 : Hid (sayM x n = (em ++ [(18, (e2 : Int))]) ++ zerosM 0 ∧ (em ++ [((18 : Int), (e2 : Int))]).length + 0 ≤ n) := hid ⟨by rw [HZ.out.1, zerosM_big k h11, show min k 138 = k by omega, ← he2, Nat.sub_self]; simp, by have := HZ.out.2; simp; omega⟩
                  have hk0 : 0 < k := by omega
                  clear he2
                  go_wp2_with (at_builtin; refine wpList_append_step _ w1.heap.size rfl (.tmp 56) (.tmp 60) rfl u4 _ rfl (World.ownsRow.alloc HO.out _) ⟨wr.heap.size, 0, none⟩ (18, (e2 : Int)) rfl (step_new _ _ _) (by omega) (by simp; omega) ?_; intro v5 w5 hr5 hg5)
                  have HO5 : Hid (StRow w1.heap.size w5 v5 (ss ++ (em ++ [(18, (e2 : Int))]))) := hid (by rw [← List.append_assoc]; exact hr5)
                  have HK5 : Hid (Same w1 w5) := hid ((HK3.out.alloc _).grown hg5 (fun j e => .inr (HO.out.ge e)))
                  clear hr5 hg5
                  go_wp2_with fail
                  go_roundg (gk - 1)
                  case measure => omega
                  case rel => exact ⟨0, _, by omega, by omega, rfl, HZ2, HO5, HK5⟩
              · have b11 : decide ((11 : Int) ≤ (k : Int)) = false := by simp; omega
                by_cases h3 : 3 ≤ k
                · obtain ⟨e2, he2⟩ : ∃ e2, e2 = k - 3 := ⟨_, rfl⟩
                  have he2I : (k : Int) - 3 = (e2 : Int) := by omega
                  have b3 : decide ((3 : Int) ≤ (k : Int)) = true := by simp; omega
                  have HZ2 : Hid (sayM x n = em ++ [(17, (e2 : Int))]) := hid (by rw [HZ.out.1, zerosM_mid k (by omega) h3, ← he2])
                  have hml2 : ss.length + n ≤ m := by have := HP.out.2; have := HM.out; omega
                  clear he2
                  go_wp2_with (at_builtin; refine wpList_append_step _ w1.heap.size rfl (.tmp 67) (.tmp 71) rfl u4 _ rfl (World.ownsRow.alloc HO.out _) ⟨wr.heap.size, 0, none⟩ (17, (e2 : Int)) rfl (step_new _ _ _) (by omega) (by simp; omega) ?_; intro v5 w5 hr5 hg5; have HO5 : Hid (StRow w1.heap.size w5 v5 (ss ++ (em ++ [(17, (e2 : Int))]))) := hid (by rw [← List.append_assoc]; exact hr5); have HK5 : Hid (Same w1 w5) := hid ((HK3.out.alloc _).grown hg5 (fun j e => .inr (HO.out.ge e))); clear hr5 hg5)
                  have HT : Calls Tryd.prog 38 #[v5, .int .i64 0, .int .i64 0] w5 fun e w' => ∃ v', e = .returned v' ∧ StRow w1.heap.size w' v' (ss ++ (em ++ [(17, (e2 : Int))]) ++ List.replicate 0 (0, 0)) ∧ Kept (Over w1.heap.size) w5 w' := times_any w5 w1.heap.size v5 _ 0 0 HO5.out HK5.out.size (by simp at hlen ⊢; omega)
                  refine HT.mono ?_
                  rintro e w6 ⟨v6, rfl, hr6, hk6⟩
                  have HO6 : Hid (StRow w1.heap.size w6 v6 (ss ++ sayM x n)) := hid (by rw [HZ2.out]; simpa using hr6)
                  have HK6 : Hid (Same w1 w6) := hid (Same.then HK5.out hk6 (fun j hj e => by unfold Over at e; omega))
                  clear hr6 hk6 HT
                  have HP6 : Hid (packM ns = (ss ++ sayM x n) ++ packM (ns.drop m) ∧ (ss ++ sayM x n).length ≤ m) := hid ⟨by rw [HREST.out, List.append_assoc], by have h1 := sayM_len x n hn1; simp; omega⟩
                  go_wp2_with fail
                  go_roundg (gk0 - 1)
                  case measure => have := HG.out; omega
                  case rel => exact ⟨m, _, by have := HM.out; omega, by have := HM.out; omega, rfl, HP6, HO6, HK6⟩
                · have b3 : decide ((3 : Int) ≤ (k : Int)) = false := by simp; omega
                  have HZ2 : Hid (sayM x n = em ++ List.replicate k (0, 0)) := hid (by rw [HZ.out.1, zerosM_few k (by omega)])
                  have hml2 : ss.length + n ≤ m := by have := HP.out.2; have := HM.out; omega
                  have HT := times_any wr w1.heap.size u4 _ k 0 HO.out hsz (by simp at hlen ⊢; omega)
                  go_wp2_with fail
                  refine HT.mono ?_
                  rintro e w6 ⟨v6, rfl, hr6, hk6⟩
                  have HO6 : Hid (StRow w1.heap.size w6 v6 (ss ++ sayM x n)) := hid (by rw [HZ2.out, ← List.append_assoc]; exact hr6)
                  have HK6 : Hid (Same w1 w6) := hid (Same.then HK3.out hk6 (fun j hj e => by unfold Over at e; omega))
                  clear hr6 hk6 HT
                  have HP6 : Hid (packM ns = (ss ++ sayM x n) ++ packM (ns.drop m) ∧ (ss ++ sayM x n).length ≤ m) := hid ⟨by rw [HREST.out, List.append_assoc], by have h1 := sayM_len x n hn1; simp; omega⟩
                  go_wp2_with fail
                  go_roundg (gk0 - 1)
                  case measure => have := HG.out; omega
                  case rel => exact ⟨m, _, by have := HM.out; omega, by have := HM.out; omega, rfl, HP6, HO6, HK6⟩
          · have hxd : ((x : Int) == 0) = false := by simp; omega
            obtain ⟨n1, hn1e⟩ : ∃ n1, n1 = n - 1 := ⟨_, rfl⟩
            have hn1I : (n : Int) - 1 = (n1 : Int) := by omega
            have HSAY : Hid (sayM x n = ((x : Int), 0) :: againM x n1) := hid (by unfold sayM; rw [if_neg hx0, hn1e])
            have HN1 : Hid (n = n1 + 1) := hid (by omega)
            have HO3 : Hid (StRow w1.heap.size (wr.drewN nq) u4 ss) := hid (RowC.kept HO.out (HK2.out.drewN nq) (fun _ _ f => f))
            have HK3 : Hid (Same w1 (wr.drewN nq)) := hid (Same.trans HK.out (HK2.out.drewN nq))
            have hlen0 : ss.length + 1 ≤ 1000 := by have h1 := HP.out.2; omega
            have hsz3 : w1.heap.size ≤ wr.heap.size := HK3.out.size
            have hml2 : ss.length + n ≤ m := by have := HP.out.2; have := HM.out; omega
            clear hx0 hn1e
            go_wp2_with (at_builtin; refine wpList_append_step _ w1.heap.size rfl (.tmp 76) (.tmp 79) rfl u4 _ rfl (World.ownsRow.alloc HO3.out _) ⟨wr.heap.size, 0, none⟩ ((x : Int), 0) rfl (step_new _ _ _) (by omega) (by simp; omega) ?_; intro v4 w4 hr4 hg4; have HO4 : Hid (StRow w1.heap.size w4 v4 (ss ++ ((x : Int), 0) :: [])) := hr4; have HK4 : Hid (Same w1 w4) := hid ((HK3.out.alloc _).grown hg4 (fun j e => .inr (HO3.out.ge e))); clear hr4 hg4)
            clear hxd
            go_loopg [4, 6] n1 (fun q zo zn wx => ∃ (k : Nat) (em : List (Int × Int)), k ≤ q ∧ k ≤ n1 ∧ zn = .int .i64 (k : Nat) ∧ Hid (againM x n1 = em ++ againM x k ∧ em.length + k ≤ n1) ∧ Hid (StRow w1.heap.size wx zo (ss ++ ((x : Int), 0) :: em)) ∧ Hid (Same w1 wx))
            case atStart => exact ⟨n1, [], by omega, by omega, rfl, hid ⟨rfl, by simp⟩, HO4, HK4⟩
            case round =>
              clear HO3 HK3 HO4 HK4 HO HK2 cx
              obtain ⟨k, em, hqk, hkn, rfl, HZ, HO, HK3⟩ := hrel
              have hsz := HK3.out.size
              have hlen : (ss ++ ((x : Int), (0 : Int)) :: em).length + 1 ≤ 1000 := by have h1 := HP.out.2; have h2 := HZ.out.2; have := HN1.out; simp; omega
              by_cases h3 : 3 ≤ k
              · have b3 : decide ((3 : Int) ≤ (k : Int)) = true := by simp; omega
                by_cases h6 : 6 < k
                · obtain ⟨k2, hk2⟩ : ∃ k2, k2 = k - 6 := ⟨_, rfl⟩
                  have hk2I : (k : Int) - 6 = (k2 : Int) := by omega
                  have b6 : decide ((6 : Int) < (k : Int)) = true := by simp; omega
                  have HZ2 : Hid (againM x n1 = (em ++ [(16, 3)]) ++ againM x k2 ∧ (em ++ [((16 : Int), (3 : Int))]).length + k2 ≤ n1) := hid ⟨by rw [HZ.out.1, againM_big x k h3, show min k 6 = 6 by omega, ← hk2]; simp, by have := HZ.out.2; simp; omega⟩
                  have hk2k : k2 < k := by omega
                  clear hk2
                  go_wp2_with (at_builtin; refine wpList_append_step _ w1.heap.size rfl (.tmp 87) (.tmp 91) rfl u4 _ rfl (World.ownsRow.alloc HO.out _) ⟨wr.heap.size, 0, none⟩ (16, 3) rfl (step_new _ _ _) (by omega) (by simp; omega) ?_; intro v5 w5 hr5 hg5)
                  have HO5 : Hid (StRow w1.heap.size w5 v5 (ss ++ ((x : Int), 0) :: (em ++ [(16, 3)]))) := hid (by rw [← List.cons_append, ← List.append_assoc]; exact hr5)
                  have HK5 : Hid (Same w1 w5) := hid ((HK3.out.alloc _).grown hg5 (fun j e => .inr (HO.out.ge e)))
                  clear hr5 hg5
                  go_wp2_with fail
                  go_roundg (gk - 1)
                  case measure => omega
                  case rel => exact ⟨k2, _, by omega, by omega, rfl, HZ2, HO5, HK5⟩
                · obtain ⟨e2, he2⟩ : ∃ e2, e2 = k - 3 := ⟨_, rfl⟩
                  have he2I : (k : Int) - 3 = (e2 : Int) := by omega
                  have b6 : decide ((6 : Int) < (k : Int)) = false := by simp; omega
                  have hkk : (k : Int) - (k : Int) = 0 := by omega
                  have HZ2 : Hid (againM x n1 = (em ++ [(16, (e2 : Int))]) ++ againM x 0 ∧ (em ++ [((16 : Int), (e2 : Int))]).length + 0 ≤ n1) := hid ⟨by rw [HZ.out.1, againM_big x k h3, show min k 6 = k by omega, ← he2, Nat.sub_self]; simp, by have := HZ.out.2; simp; omega⟩
                  have hk0 : 0 < k := by omega
                  clear he2
                  go_wp2_with (at_builtin; refine wpList_append_step _ w1.heap.size rfl (.tmp 87) (.tmp 91) rfl u4 _ rfl (World.ownsRow.alloc HO.out _) ⟨wr.heap.size, 0, none⟩ (16, (e2 : Int)) rfl (step_new _ _ _) (by omega) (by simp; omega) ?_; intro v5 w5 hr5 hg5)
                  have HO5 : Hid (StRow w1.heap.size w5 v5 (ss ++ ((x : Int), 0) :: (em ++ [(16, (e2 : Int))]))) := hid (by rw [← List.cons_append, ← List.append_assoc]; exact hr5)
                  have HK5 : Hid (Same w1 w5) := hid ((HK3.out.alloc _).grown hg5 (fun j e => .inr (HO.out.ge e)))
                  clear hr5 hg5
                  go_wp2_with fail
                  go_roundg (gk - 1)
                  case measure => omega
                  case rel => exact ⟨0, _, by omega, by omega, rfl, HZ2, HO5, HK5⟩
              · have b3 : decide ((3 : Int) ≤ (k : Int)) = false := by simp; omega
                have HZ2 : Hid (sayM x n = ((x : Int), 0) :: (em ++ List.replicate k ((x : Int), 0))) := hid (by rw [HSAY.out, HZ.out.1, againM_few x k (by omega)])
                have HT := times_any wr w1.heap.size u4 _ k (x : Int) HO.out hsz (by simp at hlen ⊢; omega)
                go_wp2_with fail
                refine HT.mono ?_
                rintro e w6 ⟨v6, rfl, hr6, hk6⟩
                have HO6 : Hid (StRow w1.heap.size w6 v6 (ss ++ sayM x n)) := hid (by rw [HZ2.out, ← List.cons_append, ← List.append_assoc]; exact hr6)
                have HK6 : Hid (Same w1 w6) := hid (Same.then HK3.out hk6 (fun j hj e => by unfold Over at e; omega))
                clear hr6 hk6 HT
                have HP6 : Hid (packM ns = (ss ++ sayM x n) ++ packM (ns.drop m) ∧ (ss ++ sayM x n).length ≤ m) := hid ⟨by rw [HREST.out, List.append_assoc], by have h1 := sayM_len x n hn1; simp; omega⟩
                go_wp2_with fail
                go_roundg (gk0 - 1)
                case measure => have := HG.out; omega
                case rel => exact ⟨m, _, by have := HM.out; omega, by have := HM.out; omega, rfl, HP6, HO6, HK6⟩
    · have hid' : decide (i < L) = false := by simp; omega
      have HE : Hid (packM ns = ss) := hid (by rw [HP.out.1, List.drop_eq_nil_of_le (by have := HL.out; omega)]; simp [packM])
      clear hlt
      go_wp2_with fail
      go_ret2
      exact ⟨_, rfl, by rw [HE.out]; exact HO.out, HK.out⟩

end Go.Proofs.YtofhlnpbflkdlaaDoor

/-
  The reference's Pack, whatever the list; May.
-/
namespace Go.Proofs.YtofhlnpbflkdlaaDoor
open Go.RowKit

set_option maxHeartbeats 1000000 in
theorem pack_bad (w : World) (v : Value) (I : Nat → Prop) (zs : List Int) (hs : SrcE intV w I v zs) (hn : zs.length ≤ 10000000) (hb : 316 < zs.length ∨ lensOk zs = false) :
    Calls Tryd.prog 12 #[v] w fun e w' => e = .returned (.tuple #[.slice none 0 0, .int .i64 1]) ∧ Same w w' := by
  obtain ⟨ao, cap, rfl, hx1, hx2⟩ := id hs
  clear hx1 hx2
  have HLN := lengths_any w _ I zs hs hn
  clear hs
  by_cases hl : 316 < zs.length
  · have b1 : decide ((316 : Int) < (zs.length : Int)) = true := by simp; omega
    clear hb hl
    go_enter Tryd.func12, Tryd.ntmps12
    go_wp2_with fail
    go_ret2
    exact ⟨rfl, Kept.refl _ _⟩
  · have b1 : decide ((316 : Int) < (zs.length : Int)) = false := by simp; omega
    have hok : lensOk zs = false := by rcases hb with h | h; omega; exact h
    rw [hok] at HLN
    clear hb hl hok
    go_enter Tryd.func12, Tryd.ntmps12
    go_wp2_with fail
    refine HLN.mono ?_
    rintro e w1 ⟨rfl, hw1⟩
    subst hw1
    clear HLN
    go_wp2_with fail
    go_ret2
    exact ⟨rfl, Kept.refl _ _⟩

/-- An answer of Pack: an error, or a new row of steps. -/
def PackA (w w' : World) (e : Ending) : Except Nat (List (Int × Int)) → Prop
  | .error c => e = .returned (.tuple #[.slice none 0 0, .int .i64 (c : Nat)]) ∧ Same w w'
  | .ok ss => ∃ v', e = .returned (.tuple #[v', .int .i64 0]) ∧ StRow w.heap.size w' v' ss ∧ Same w w'

theorem packA_good {zs : List Int} (h1 : zs.length ≤ 316) (h2 : lensOk zs = true) : packA zs = .ok (packM (zs.map Int.toNat)) := by
  unfold packA
  rw [if_pos ⟨h1, (lensOk_iff zs).1 h2⟩]

theorem packA_bad {zs : List Int} (h : 316 < zs.length ∨ lensOk zs = false) : packA zs = .error 1 := by
  unfold packA
  rw [if_neg]
  rintro ⟨h1, h2⟩
  rcases h with h | h
  · omega
  · rw [(lensOk_iff zs).2 h2] at h; cases h

theorem pack_any (w : World) (v : Value) (I : Nat → Prop) (zs : List Int) (hs : SrcE intV w I v zs) (hn : zs.length ≤ 10000000) :
    Calls Tryd.prog 12 #[v] w fun e w' => PackA w w' e (packA zs) := by
  by_cases hb : 316 < zs.length ∨ lensOk zs = false
  · rw [packA_bad hb]
    exact pack_bad w v I zs hs hn hb
  · have h2 : lensOk zs = true := by
      cases h : lensOk zs with
      | true => rfl
      | false => exact absurd (.inr h) hb
    have h1 : zs.length ≤ 316 := Nat.le_of_not_lt (fun h => hb (.inl h))
    rw [packA_good h1 h2]
    exact pack_good w v I zs _ hs h1 h2 rfl

/-- May lists be written? -/
def mayM (a b : List Int) : Bool := decide (257 ≤ a.length) && decide (a.length ≤ 286) && decide (1 ≤ b.length) && decide (b.length ≤ 30) && lensOk a && lensOk b

set_option maxHeartbeats 1000000 in
theorem may_any (w : World) (va vb : Value) (I J : Nat → Prop) (xs ys : List Int) (ha : SrcE intV w I va xs) (hb : SrcE intV w J vb ys) (hx : xs.length ≤ 10000000) (hy : ys.length ≤ 10000000) :
    Calls Tryd.prog 21 #[va, vb] w fun e w' => e = .returned (.bool (mayM xs ys)) ∧ w' = w := by
  obtain ⟨ao, ca, rfl, hxa, hsa⟩ := id ha
  obtain ⟨bo, cb, rfl, hxb, hsb⟩ := id hb
  clear hxa hxb hsa hsb
  have HA := lengths_any w _ I xs ha hx
  have HB := lengths_any w _ J ys hb hy
  clear ha hb
  obtain ⟨m, hm⟩ : ∃ m, m = xs.length := ⟨_, rfl⟩
  obtain ⟨n, hn⟩ : ∃ n, n = ys.length := ⟨_, rfl⟩
  have HM : Hid (mayM xs ys = (decide (257 ≤ m) && decide (m ≤ 286) && decide (1 ≤ n) && decide (n ≤ 30) && lensOk xs && lensOk ys)) := hid (by rw [hm, hn]; rfl)
  rw [← hm] at HA hx ⊢
  rw [← hn] at HB hy ⊢
  clear hm hn
  generalize lensOk xs = p at *
  generalize lensOk ys = q at *
  go_enter Tryd.func21, Tryd.ntmps21
  by_cases h1 : 257 ≤ m
  · have d1 : decide ((257 : Int) ≤ (m : Int)) = true := by simp; omega
    by_cases h2 : m ≤ 286
    · have d2 : decide ((m : Int) ≤ 286) = true := by simp; omega
      by_cases h3 : 1 ≤ n
      · have d3 : decide ((1 : Int) ≤ (n : Int)) = true := by simp; omega
        by_cases h4 : n ≤ 30
        · have d4 : decide ((n : Int) ≤ 30) = true := by simp; omega
          have HE : Hid (mayM xs ys = (p && q)) := hid (by rw [HM.out]; simp [h1, h2, h3, h4])
          clear h1 h2 h3 h4
          go_wp2_with fail
          refine HA.mono ?_
          rintro e w1 ⟨rfl, hw1⟩
          subst hw1
          clear HA
          cases p with
          | false =>
            go_wp2_with fail
            go_ret
            exact ⟨by rw [HE.out]; rfl, rfl⟩
          | true =>
            go_wp2_with fail
            refine HB.mono ?_
            rintro e w2 ⟨rfl, hw2⟩
            subst hw2
            clear HB
            go_wp2_with fail
            go_ret
            exact ⟨by rw [HE.out]; rfl, rfl⟩
        · have d4 : decide ((n : Int) ≤ 30) = false := by simp; omega
          have HE : Hid (mayM xs ys = false) := hid (by rw [HM.out]; simp [h4])
          go_wp2_with fail
          go_ret
          exact ⟨by rw [HE.out]; rfl, rfl⟩
      · have d3 : decide ((1 : Int) ≤ (n : Int)) = false := by simp; omega
        have HE : Hid (mayM xs ys = false) := hid (by rw [HM.out]; simp [h3])
        go_wp2_with fail
        go_ret
        exact ⟨by rw [HE.out]; rfl, rfl⟩
    · have d2 : decide ((m : Int) ≤ 286) = false := by simp; omega
      have HE : Hid (mayM xs ys = false) := hid (by rw [HM.out]; simp [h2])
      go_wp2_with fail
      go_ret
      exact ⟨by rw [HE.out]; rfl, rfl⟩
  · have d1 : decide ((257 : Int) ≤ (m : Int)) = false := by simp; omega
    have HE : Hid (mayM xs ys = false) := hid (by rw [HM.out]; simp [h1])
    go_wp2_with fail
    go_ret
    exact ⟨by rw [HE.out]; rfl, rfl⟩

end Go.Proofs.YtofhlnpbflkdlaaDoor

/-
  The reference's Same and May.
-/
namespace Go.Proofs.YtofhlnpbflkdlaaDoor
open Go.RowKit

/-- One step of a source. -/
theorem StSrc.get {w : World} {I : Nat → Prop} {ao : Option Addr} {n cap : Nat} {ss : List (Int × Int)} (h : StSrc w I (.slice ao n cap) ss) (i : Nat) (hi : i < ss.length) : ∃ b o, ao = some ⟨b, o, none⟩ ∧ I b ∧ w.cell? ⟨b, o + i * 2, none⟩ = some (.int .i64 ss[i].1) ∧ w.cell? ⟨b, o + i * 2 + 1, none⟩ = some (.int .i64 ss[i].2) := by
  obtain ⟨ao', cap', e1, _, e2⟩ := h
  injection e1 with e3 _ _
  subst e3
  obtain ⟨b, o, e4, hI, e5⟩ := e2 (by intro e; rw [e] at hi; simp at hi)
  exact ⟨b, o, e4, hI, e5 i hi 0 (by decide), e5 i hi 1 (by decide)⟩

set_option maxRecDepth 100000 in
set_option maxHeartbeats 2000000 in
theorem same_any (va vb : Value) (I J : Nat → Prop) (xs ys : List (Int × Int)) (w : World) (ha : StSrc w I va xs) (hb : StSrc w J vb ys) (hx : xs.length ≤ 10000000) (hy : ys.length ≤ 10000000) :
    Calls Tryd.prog 13 #[va, vb] w fun e w' => e = .returned (.bool (decide (xs = ys))) ∧ Same w w' := by
  obtain ⟨ao, ca, rfl, hxa, hsa⟩ := id ha
  obtain ⟨bo, cb, rfl, hxb, hsb⟩ := id hb
  clear hxa hxb hsa hsb
  have HA : Hid (StSrc w I (.slice ao xs.length ca) xs) := ha
  have HB : Hid (StSrc w J (.slice bo ys.length cb) ys) := hb
  clear ha hb
  by_cases hl : xs.length = ys.length
  · have HL : Hid (xs.length = ys.length) := hl
    have hd : ((xs.length : Int) != (ys.length : Int)) = false := by simp [hl]
    clear hl
    go_enter Tryd.func13, Tryd.ntmps13
    go_wp2
    clear hd
    go_loopg [5] xs.length (fun k i wr => ∃ j : Nat, j ≤ xs.length ∧ xs.length - j ≤ k ∧ i = .int .i64 (j : Nat) ∧ Hid (Same w wr) ∧ Hid (xs.take j = ys.take j))
    case atStart => exact ⟨0, by omega, by omega, rfl, Kept.refl _ _, hid (by simp)⟩
    case round =>
      obtain ⟨j, hj, hjk, rfl, HK, HT⟩ := hrel
      by_cases hlt : j < xs.length
      · have hlt2 : j < ys.length := by have := HL.out; omega
        obtain ⟨a, oa, rfl, _, c1, c2⟩ := StSrc.get (HA.out.kept stC_ok HK.out (fun _ _ _ f => f)) j hlt
        obtain ⟨b, ob, rfl, _, d1, d2⟩ := StSrc.get (HB.out.kept stC_ok HK.out (fun _ _ _ f => f)) j hlt2
        obtain ⟨x1, x2, hx1⟩ : ∃ x1 x2, xs[j] = (x1, x2) := ⟨_, _, rfl⟩
        obtain ⟨y1, y2, hy1⟩ : ∃ y1 y2, ys[j] = (y1, y2) := ⟨_, _, rfl⟩
        rw [hx1] at c1 c2
        rw [hy1] at d1 d2
        have HX : Hid (xs[j] = (x1, x2)) := hx1
        have HY : Hid (ys[j] = (y1, y2)) := hy1
        clear hx1 hy1
        by_cases he : x1 = y1 ∧ x2 = y2
        · obtain ⟨rfl, rfl⟩ := he
          go_wp2
          go_quiet (fail)
          go_wp2
          go_roundg (gk - 1)
          case measure => omega
          case rel => exact ⟨j + 1, by omega, by omega, by go_num, hid (HK.out.drewN _), hid (by rw [List.take_succ_eq_append_getElem hlt, List.take_succ_eq_append_getElem hlt2, HT.out, HX.out, HY.out])⟩
        · have HE : Hid (¬ (x1 = y1 ∧ x2 = y2)) := he
          have hne : ¬ xs = ys := by
            intro e
            subst e
            have h := HX.out.symm.trans HY.out
            simp only [Prod.mk.injEq] at h
            exact he h
          have HNE : Hid (¬ xs = ys) := hne
          clear hne
          by_cases h1 : x1 = y1
          · have h2 : ¬ x2 = y2 := fun h => he ⟨h1, h⟩
            subst h1
            have e2 : (x2 == y2) = false := by simp [h2]
            have e3 : decide (x2 = y2) = false := by simp [h2]
            clear he
            go_wp2
            go_quiet (fail)
            go_wp2
            go_ret
            refine ⟨?_, HK.out.drewN _⟩
            simp [HNE.out]
          · have e2 : (x1 == y1) = false := by simp [h1]
            have e3 : decide (x1 = y1) = false := by simp [h1]
            clear he
            go_wp2
            go_quiet (fail)
            go_wp2
            go_ret
            refine ⟨?_, HK.out.drewN _⟩
            simp [HNE.out]
      · have hjl : j = xs.length := by omega
        subst hjl
        go_wp2
        go_ret
        refine ⟨?_, HK.out⟩
        have h1 := HT.out
        rw [List.take_of_length_le (Nat.le_refl _), List.take_of_length_le (by have := HL.out; omega)] at h1
        simp [h1]
  · have hd : ((xs.length : Int) != (ys.length : Int)) = true := by simp; omega
    have HNE : Hid (¬ xs = ys) := hid (fun e => hl (by rw [e]))
    clear hl
    go_enter Tryd.func13, Tryd.ntmps13
    go_wp2
    go_ret
    exact ⟨by simp [HNE.out], Kept.refl _ _⟩

end Go.Proofs.YtofhlnpbflkdlaaDoor

/-
  What layer 4's laws lend and get back; a reader, some of whose bits are gone.
-/
namespace Go.Proofs.YtofhlnpbflkdlaaDoor
open Go.RowKit

set_option maxHeartbeats 1000000 in
theorem kept_any (w : World) (g : Nat) (v : Value) (I : Nat → Prop) (zs : List Int) (hL : Lent w g zs) (hsrc : SrcE intV w I v zs) (hlen : zs.length ≤ 10000000) :
    Calls Tryd.prog 14 #[.slice (some ⟨g, 0, none⟩) zs.length (zs.length + 1), v] w fun e w' => e = .returned (.bool true) ∧ Same w w' := by
  obtain ⟨ao, cap, rfl, hx1, hx2⟩ := id hsrc
  clear hx1 hx2
  have HC := keepInts_any _ _ _ _ zs zs w hL.src hsrc hlen hlen
  have hd : decide (zs = zs) = true := by simp
  have c1 : w.cell? ⟨g, zs.length, none⟩ = some (.int .i64 (-77)) := by
    rw [hL.row.cell zs.length (by simp)]; simp [intV]
  clear hsrc hL
  go_enter Tryd.func14, Tryd.ntmps14
  go_wp2_with fail
  refine HC.mono ?_
  rintro e w2 ⟨rfl, hk⟩
  have HK : Hid (Same w w2) := hk
  clear hk HC
  go_wp2_with fail
  go_ret
  exact ⟨rfl, HK.out⟩

set_option maxHeartbeats 1000000 in
theorem goneR_any (w : World) (v : Value) (I : Nat → Prop) (bs : List Nat) (n : Nat) (hs : Src w I v bs) (hlen : bs.length ≤ 100000000) (hb : ∀ b ∈ bs, b < 256) (hn : n ≤ 8 * bs.length) :
    Calls Tryd.prog 26 #[v, .int .i64 (n : Nat)] w fun e w' => ∃ p s, e = .returned (.pointer (some ⟨p, 0, none⟩)) ∧ St w' p s bs n ∧ Same w w' ∧ (∀ k, Fp p s k → w.heap.size ≤ k) := by
  have HC := newReader_any v I bs w hs (by omega) hb
  clear hs
  go_enter Tryd.func26, Tryd.ntmps26
  go_wp2_with fail
  refine HC.mono ?_
  rintro e w1 ⟨p, s, rfl, hst, hk, hf⟩
  have HS : Hid (St w1 p s bs 0) := hst
  have HK : Hid (Same w w1) := hk
  have HF : Hid (∀ k, Fp p s k → w.heap.size ≤ k) := hf
  clear hst hk hf HC
  go_wp2_with fail
  go_loopg [6] n (fun q zi wr => ∃ (i : Nat), n - i ≤ q ∧ i ≤ n ∧ zi = .int .i64 (i : Nat) ∧ Hid (St wr p s bs i) ∧ Hid (Same w wr))
  case atStart => exact ⟨0, by omega, by omega, rfl, HS, HK⟩
  case round =>
    clear HS HK
    obtain ⟨i, hq, hi, rfl, HS, HK⟩ := hrel
    by_cases hlt : i < n
    · have HT := take_good p i 1 s bs wr HS.out (by omega) (by decide) (by omega)
      have HT2 : Calls Tryd.prog 31 #[.pointer (some ⟨p, 0, none⟩), .int .i64 1] wr fun e w' => (∃ x, e = .returned x) ∧ St w' p s bs (i + 1) ∧ Kept (· = p) wr w' := HT.mono (by rintro e w' ⟨rfl, h1, h2⟩; exact ⟨⟨_, rfl⟩, h1, h2⟩)
      clear HT
      go_wp2_with fail
      refine HT2.mono ?_
      rintro e w2 ⟨⟨x, rfl⟩, h1, h2⟩
      have HS2 : Hid (St w2 p s bs (i + 1)) := h1
      have HK2 : Hid (Same w w2) := hid (Same.then HK.out h2 (fun y hy e => by have := HF.out p (.inl rfl); omega))
      clear h1 h2 HT2
      go_wp2_with fail
      go_roundg (gk - 1)
      case measure => omega
      case rel => exact ⟨i + 1, by omega, by omega, by go_num, HS2, HK2⟩
    · have hin : i = n := by omega
      subst hin
      go_wp2_with fail
      go_ret
      exact ⟨p, s, rfl, HS.out, HK.out, HF.out⟩

end Go.Proofs.YtofhlnpbflkdlaaDoor
