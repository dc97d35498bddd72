/-
  Frames: what their bytes are, and what bytes are read as. Nothing of the program.
-/
import Derived.Test.YtjjhjbmmhkcapaaCrc
import Derived.Test.YtjjhjbmmhkcapaaTxt
namespace Go.Proofs.Ytjjhjbmmhkcapaa

/-- A frame: its kind and its body. -/
structure Fm where
  k : Int
  s : ByteArray

/-- May it be encoded? -/
def Fm.May (f : Fm) : Prop := 1 ≤ f.k ∧ f.k ≤ 255 ∧ f.s.size ≤ 20000

/-- What is checked. -/
def Fm.bod (f : Fm) : List Nat := f.k.toNat :: sb f.s

/-- A frame's bytes. -/
def frmB (f : Fm) : List Nat := leOf f.s.size 4 ++ f.bod ++ leOf (more 0 f.bod) 4

theorem Fm.bod_lt {f : Fm} (h : f.May) : ∀ b ∈ f.bod, b < 256 := by
  intro b hb
  rcases List.mem_cons.1 hb with e | hb
  · have := h.2.1; omega
  · exact sb_lt _ b hb

theorem Fm.bod_len (f : Fm) : f.bod.length = f.s.size + 1 := by simp [Fm.bod, sb_size]

theorem frmB_len (f : Fm) : (frmB f).length = f.s.size + 9 := by
  simp only [frmB, List.length_append, leOf_length, Fm.bod_len]; omega

theorem frmB_lt {f : Fm} (h : f.May) : ∀ b ∈ frmB f, b < 256 := by
  intro b hb
  rcases List.mem_append.1 hb with hb | hb
  · rcases List.mem_append.1 hb with hb | hb
    · exact leOf_lt _ _ b hb
    · exact Fm.bod_lt h b hb
  · exact leOf_lt _ _ b hb

/-- The length that bytes begin with; none if it is not there. -/
def lenF (r : List Nat) : Nat := if r.length < 4 then 0 else n256 (r.take 4)

/-- What stands first in some bytes. -/
inductive Nx where
  | stop (e : Int)
  | one (f : Fm) (r : List Nat)

def sumF (r : List Nat) : Bool := n256 ((r.drop (lenF r + 5)).take 4) == more 0 ((r.drop 4).take (lenF r + 1))

def frmF (r : List Nat) : Fm := ⟨(r[4]?.getD 0 : Nat), txt ((r.drop 5).take (lenF r))⟩

def nx (r : List Nat) : Nx :=
  if r.length < 4 then .stop 0
  else if 20000 < lenF r then .stop 180
  else if r[4]? = some 0 then .stop 182
  else if r.length < lenF r + 9 then .stop 0
  else if sumF r = false then .stop 181
  else .one (frmF r) (r.drop (lenF r + 9))

/-- What bytes are read as: the frames, what is left, what is wrong. -/
inductive Rd : List Nat → List Fm → List Nat → Int → Prop
  | stop {r : List Nat} {e : Int} : nx r = .stop e → Rd r [] r e
  | one {r : List Nat} {f : Fm} {r' : List Nat} {fs : List Fm} {q : List Nat} {e : Int} : nx r = .one f r' → Rd r' fs q e → Rd r (f :: fs) q e

theorem nx_one {r r' : List Nat} {f : Fm} (h : nx r = .one f r') : 4 ≤ r.length ∧ lenF r ≤ 20000 ∧ r[4]? ≠ some 0 ∧ lenF r + 9 ≤ r.length ∧ sumF r = true ∧ f = frmF r ∧ r' = r.drop (lenF r + 9) := by
  unfold nx at h
  split at h
  · exact Nx.noConfusion h
  split at h
  · exact Nx.noConfusion h
  split at h
  · exact Nx.noConfusion h
  split at h
  · exact Nx.noConfusion h
  split at h
  · exact Nx.noConfusion h
  · rename_i h1 h2 h3 h4 h5
    injection h with e1 e2
    exact ⟨by omega, by omega, h3, by omega, by simpa using h5, e1.symm, e2.symm⟩

theorem nx_is {r : List Nat} (h4 : 4 ≤ r.length) (h : lenF r ≤ 20000) (h0 : r[4]? ≠ some 0) (hl : lenF r + 9 ≤ r.length) (hs : sumF r = true) : nx r = .one (frmF r) (r.drop (lenF r + 9)) := by
  unfold nx
  rw [if_neg (by omega), if_neg (by omega), if_neg h0, if_neg (by omega), if_neg (by simp [hs])]

theorem nx_less {r r' : List Nat} {f : Fm} (h : nx r = .one f r') : r'.length + 9 ≤ r.length := by
  obtain ⟨_, _, _, h4, _, _, rfl⟩ := nx_one h
  simp only [List.length_drop]; omega

theorem nx_err {r : List Nat} {e : Int} (h : nx r = .stop e) : e = 0 ∨ e = 180 ∨ e = 181 ∨ e = 182 := by
  unfold nx at h
  split at h
  · injection h; omega
  split at h
  · injection h; omega
  split at h
  · injection h; omega
  split at h
  · injection h; omega
  split at h
  · injection h; omega
  · exact Nx.noConfusion h

/-- More bytes are wanted. -/
theorem nx_zero {r : List Nat} (h : nx r = .stop 0) : r.length < 4 ∨ (lenF r ≤ 20000 ∧ r.length < lenF r + 9) := by
  unfold nx at h
  split at h
  · left; assumption
  split at h
  · injection h; omega
  split at h
  · injection h; omega
  split at h
  · right; constructor <;> omega
  split at h
  · injection h; omega
  · exact Nx.noConfusion h

theorem lenF_app {a : List Nat} (h : 4 ≤ a.length) (b : List Nat) : lenF (a ++ b) = lenF a := by
  unfold lenF
  rw [if_neg (by rw [List.length_append]; omega), if_neg (by omega), List.take_append_of_le_length h]

theorem get4_app {a : List Nat} (h : 5 ≤ a.length) (b : List Nat) : (a ++ b)[4]? = a[4]? := List.getElem?_append_left h

theorem sumF_app {a : List Nat} (h4 : 4 ≤ a.length) (h : lenF a + 9 ≤ a.length) (b : List Nat) : sumF (a ++ b) = sumF a := by
  unfold sumF
  rw [lenF_app h4, List.drop_append_of_le_length (by omega), List.drop_append_of_le_length (by omega), List.take_append_of_le_length (by simp; omega), List.take_append_of_le_length (by simp; omega)]

theorem frmF_app {a : List Nat} (h4 : 4 ≤ a.length) (h : lenF a + 9 ≤ a.length) (b : List Nat) : frmF (a ++ b) = frmF a := by
  unfold frmF
  rw [lenF_app h4, get4_app (by omega), List.drop_append_of_le_length (by omega), List.take_append_of_le_length (by simp; omega)]

theorem nx_app {a r : List Nat} {f : Fm} (h : nx a = .one f r) (b : List Nat) : nx (a ++ b) = .one f (r ++ b) := by
  obtain ⟨h4, h5, h6, h7, h8, rfl, rfl⟩ := nx_one h
  have e := nx_is (r := a ++ b) (by rw [List.length_append]; omega) (by rw [lenF_app h4]; exact h5) (by rw [get4_app (by omega)]; exact h6) (by rw [lenF_app h4, List.length_append]; omega) (by rw [sumF_app h4 h7]; exact h8)
  rw [e, frmF_app h4 h7, lenF_app h4, List.drop_append_of_le_length h7]

theorem nx_wrong {a : List Nat} {e : Int} (h : nx a = .stop e) (he : e ≠ 0) (b : List Nat) : nx (a ++ b) = .stop e := by
  unfold nx at h ⊢
  split at h
  · injection h; omega
  rename_i h4
  rw [if_neg (by rw [List.length_append]; omega), lenF_app (by omega)]
  split at h
  · rw [if_pos (by assumption)]; exact h
  rename_i h5
  rw [if_neg h5]
  split at h
  · rename_i h6
    have h7 : 5 ≤ a.length := by have := (List.getElem?_eq_some_iff.1 h6).1; omega
    rw [get4_app h7, if_pos h6]; exact h
  rename_i h6
  split at h
  · injection h; omega
  rename_i h7
  rw [get4_app (by omega), if_neg h6, if_neg (by rw [List.length_append]; omega), sumF_app (by omega) (by omega)]
  split at h
  · rw [if_pos (by assumption)]; exact h
  · exact Nx.noConfusion h

theorem Rd.app {a b : List Nat} {fs gs : List Fm} {q q2 : List Nat} {d e : Int} (h : Rd a fs q d) (hd : d = 0) (k : Rd (q ++ b) gs q2 e) : Rd (a ++ b) (fs ++ gs) q2 e := by
  induction h with
  | stop h => exact k
  | one h _ ih => exact .one (nx_app h b) (ih hd k)

theorem Rd.wrong {a : List Nat} {fs : List Fm} {q : List Nat} {e : Int} (h : Rd a fs q e) (he : e ≠ 0) (b : List Nat) : Rd (a ++ b) fs (q ++ b) e := by
  induction h with
  | stop h => exact .stop (nx_wrong h he b)
  | one h _ ih => exact .one (nx_app h b) (ih he)

theorem Rd.det {a : List Nat} {fs gs : List Fm} {q r : List Nat} {d e : Int} (h : Rd a fs q d) (k : Rd a gs r e) : fs = gs ∧ q = r ∧ d = e := by
  induction h generalizing gs r e with
  | stop h =>
    cases k with
    | stop k => rw [h] at k; injection k with k; exact ⟨rfl, rfl, k⟩
    | one k _ => rw [h] at k; exact Nx.noConfusion k
  | one h _ ih =>
    cases k with
    | stop k => rw [h] at k; exact Nx.noConfusion k
    | one k k2 =>
      rw [h] at k
      injection k with e1 e2
      subst e1 e2
      obtain ⟨rfl, rfl, rfl⟩ := ih k2
      exact ⟨rfl, rfl, rfl⟩

theorem Rd.ex (a : List Nat) : ∃ fs q e, Rd a fs q e := by
  obtain ⟨n, hn⟩ : ∃ n, n = a.length := ⟨_, rfl⟩
  induction n using Nat.strongRecOn generalizing a with
  | _ n ih =>
    cases h : nx a with
    | stop e => exact ⟨_, _, _, .stop h⟩
    | one f r =>
      obtain ⟨fs, q, e, k⟩ := ih r.length (by have := nx_less h; omega) r rfl
      exact ⟨_, _, _, .one h k⟩

theorem Rd.suf {a : List Nat} {fs : List Fm} {q : List Nat} {e : Int} (h : Rd a fs q e) : ∃ p, a = p ++ q := by
  induction h with
  | stop _ => exact ⟨[], rfl⟩
  | @one r f r' fs q e h _ ih =>
    obtain ⟨p, hp⟩ := ih
    obtain ⟨_, _, _, _, _, _, rfl⟩ := nx_one h
    exact ⟨r.take (lenF r + 9) ++ p, by rw [List.append_assoc, ← hp, List.take_append_drop]⟩

theorem Rd.len {a : List Nat} {fs : List Fm} {q : List Nat} {e : Int} (h : Rd a fs q e) : q.length ≤ a.length := by
  obtain ⟨p, rfl⟩ := h.suf
  rw [List.length_append]; omega

theorem Rd.many {a : List Nat} {fs : List Fm} {q : List Nat} {e : Int} (h : Rd a fs q e) : fs.length * 9 + q.length ≤ a.length := by
  induction h with
  | stop _ => simp
  | one h _ ih => have := nx_less h; simp only [List.length_cons]; omega

theorem Rd.lt {a : List Nat} {fs : List Fm} {q : List Nat} {e : Int} (h : Rd a fs q e) (ha : ∀ b ∈ a, b < 256) : ∀ b ∈ q, b < 256 := by
  obtain ⟨p, rfl⟩ := h.suf
  exact fun b hb => ha b (List.mem_append_right _ hb)

theorem Rd.err {a : List Nat} {fs : List Fm} {q : List Nat} {e : Int} (h : Rd a fs q e) : e = 0 ∨ e = 180 ∨ e = 181 ∨ e = 182 := by
  induction h with
  | stop h => exact nx_err h
  | one _ _ ih => exact ih

/-- What waits for more bytes is no whole frame. -/
theorem Rd.zero {a : List Nat} {fs : List Fm} {q : List Nat} {e : Int} (h : Rd a fs q e) (he : e = 0) : nx q = .stop 0 := by
  induction h with
  | stop h => rw [h, he]
  | one _ _ ih => exact ih he

theorem nx_short {q : List Nat} (h : nx q = .stop 0) : q.length ≤ 20008 ∧ q.length < lenF q + 9 := by
  rcases nx_zero h with h | h
  · exact ⟨by omega, by omega⟩
  · exact ⟨by omega, by omega⟩

theorem Rd.again {q : List Nat} (h : nx q = .stop 0) : Rd q [] q 0 := .stop h

/-- A frame that is laid is read. -/
theorem lenF_frm {f : Fm} (h : f.May) (b : List Nat) : lenF (frmB f ++ b) = f.s.size := by
  rw [lenF_app (by rw [frmB_len]; omega)]
  unfold lenF
  rw [if_neg (by rw [frmB_len]; omega)]
  unfold frmB
  rw [List.append_assoc, List.take_left' (leOf_length _ _), leOf_n256, Nat.mod_eq_of_lt (by have := h.2.2; omega)]

theorem drop4_frm (f : Fm) (b : List Nat) : (frmB f ++ b).drop 4 = f.bod ++ (leOf (more 0 f.bod) 4 ++ b) := by
  unfold frmB
  rw [List.append_assoc, List.append_assoc, List.drop_left' (leOf_length _ _)]

theorem nx_frm {f : Fm} (h : f.May) (b : List Nat) : nx (frmB f ++ b) = .one f b := by
  have hl := lenF_frm h b
  have hb := f.bod_len
  have hlen : (frmB f ++ b).length = f.s.size + 9 + b.length := by rw [List.length_append, frmB_len]
  have e5 : (frmB f ++ b).drop (f.s.size + 5) = leOf (more 0 f.bod) 4 ++ b := by
    rw [show f.s.size + 5 = 4 + (f.s.size + 1) by omega, ← List.drop_drop, drop4_frm, List.drop_left' hb]
  have e9 : (frmB f ++ b).drop (f.s.size + 9) = b := by
    rw [show f.s.size + 9 = (f.s.size + 5) + 4 by omega, ← List.drop_drop, e5, List.drop_left' (leOf_length _ _)]
  have g4 : (frmB f ++ b)[4]? = some f.k.toNat := by
    have e : (frmB f ++ b)[4]? = ((frmB f ++ b).drop 4)[0]? := by rw [List.getElem?_drop]
    rw [e, drop4_frm]; rfl
  have hs : sumF (frmB f ++ b) = true := by
    unfold sumF
    rw [hl, e5, drop4_frm, List.take_left' (leOf_length _ _), List.take_left' hb, leOf_n256, Nat.mod_eq_of_lt (more_lt _ _)]
    exact beq_self_eq_true _
  rw [nx_is (by rw [hlen]; omega) (by rw [hl]; exact h.2.2) (by rw [g4]; intro e; injection e with e; have := h.1; omega) (by rw [hl, hlen]; omega) hs, hl, e9]
  congr 1
  unfold frmF
  rw [hl, g4]
  have e1 : (frmB f ++ b).drop 5 = sb f.s ++ (leOf (more 0 f.bod) 4 ++ b) := by
    rw [show 5 = 4 + 1 by omega, ← List.drop_drop, drop4_frm]; rfl
  rw [e1, List.take_left' (sb_size _), txt_sb]
  cases f with
  | mk k s =>
    have hk : ((k.toNat : Nat) : Int) = k := by
      have h1 : 1 ≤ k := h.1
      omega
    simp only [Option.getD_some, hk]

theorem rd_frms (fs : List Fm) (h : ∀ f ∈ fs, f.May) : Rd (fs.flatMap frmB) fs [] 0 := by
  induction fs with
  | nil => exact .stop (by rw [List.flatMap_nil]; rfl)
  | cons f fs ih => exact .one (nx_frm (h f (by simp)) _) (ih (fun g hg => h g (by simp [hg])))

/-- One byte behind the first four is another one. -/
theorem nx_tells {f : Fm} (h : f.May) (p v : Nat) (hp : 4 ≤ p) (hl : p < (frmB f).length) (hv : v < 256) (hv0 : v ≠ 0) :
    nx ((frmB f).set p ((frmB f)[p] ^^^ v)) = .stop 181 ∨ (nx ((frmB f).set p ((frmB f)[p] ^^^ v)) = .stop 182 ∧ p = 4) := by
  obtain ⟨B, hB⟩ : ∃ B, B = (frmB f).set p ((frmB f)[p] ^^^ v) := ⟨_, rfl⟩
  rw [← hB]
  have hn := frmB_len f
  have hbl := f.bod_len
  have hBl : B.length = f.s.size + 9 := by rw [hB, List.length_set, hn]
  have l0 := lenF_frm h []
  rw [List.append_nil] at l0
  have d0 := drop4_frm f []
  rw [List.append_nil, List.append_nil] at d0
  have t4 : B.take 4 = (frmB f).take 4 := by rw [hB, List.take_set_of_le hp]
  have hlen : lenF B = f.s.size := by
    unfold lenF at l0 ⊢
    rw [if_neg (by omega)] at l0 ⊢
    rw [t4, l0]
  by_cases h0 : B[4]? = some 0
  · right
    refine ⟨?_, ?_⟩
    · unfold nx
      rw [if_neg (by omega), if_neg (by rw [hlen]; have := h.2.2; omega), if_pos h0]
    · by_cases e : p = 4
      · exact e
      · exfalso
        have e1 : B[4]? = (frmB f)[4]? := by rw [hB, List.getElem?_set_ne e]
        have e2 : (frmB f)[4]? = ((frmB f).drop 4)[0]? := by rw [List.getElem?_drop]
        rw [e1, e2, d0] at h0
        have e3 : some f.k.toNat = some 0 := h0
        injection e3 with e3
        have := h.1
        omega
  · left
    have hs : sumF B = false := by
      unfold sumF
      rw [hlen, beq_eq_false_iff_ne]
      have hd4 : B.drop 4 = ((frmB f).drop 4).set (p - 4) ((frmB f)[p] ^^^ v) := by rw [hB, List.drop_set, if_neg (by omega)]
      have hx : ((frmB f).drop 4)[p - 4]'(by rw [List.length_drop]; omega) = (frmB f)[p] := by
        rw [List.getElem_drop]; congr 1; omega
      have hne : ∀ x : Nat, x ^^^ v ≠ x := by
        intro x e
        have e1 : x ^^^ (x ^^^ v) = 0 := by rw [e, Nat.xor_self]
        rw [← Nat.xor_assoc, Nat.xor_self, Nat.zero_xor] at e1
        exact hv0 e1
      have hd5 : B.drop (f.s.size + 5) = (B.drop 4).drop (f.s.size + 1) := by rw [List.drop_drop]; congr 1; omega
      rw [hd5]
      have hlt : (frmB f)[p] < 256 := frmB_lt h _ (List.getElem_mem _)
      have hxlt : (frmB f)[p] ^^^ v < 256 := Nat.xor_lt_two_pow (n := 8) hlt hv
      by_cases hq : p - 4 < f.s.size + 1
      · -- the kind or the body
        have e1 : (B.drop 4).drop (f.s.size + 1) = leOf (more 0 f.bod) 4 := by
          rw [hd4, List.drop_set_of_lt hq, d0, List.drop_left' hbl]
        have e2 : (B.drop 4).take (f.s.size + 1) = f.bod.set (p - 4) ((frmB f)[p] ^^^ v) := by
          rw [hd4, d0, List.take_set, List.take_left' hbl]
        have hg : f.bod[p - 4]'(by rw [hbl]; exact hq) = (frmB f)[p] := by
          rw [← hx]
          have e : (f.bod ++ leOf (more 0 f.bod) 4)[p - 4]'(by rw [List.length_append]; omega) = f.bod[p - 4]'(by rw [hbl]; exact hq) := List.getElem_append_left (by rw [hbl]; exact hq)
          rw [← e]
          congr 1
        rw [e1, e2, List.take_of_length_le (by rw [leOf_length]; exact Nat.le_refl _), leOf_n256, Nat.mod_eq_of_lt (more_lt _ _)]
        intro e
        have hbl2 : ∀ b ∈ f.bod.set (p - 4) ((frmB f)[p] ^^^ v), b < 256 := by
          intro b hb
          rcases List.mem_or_eq_of_mem_set hb with hb | rfl
          · exact Fm.bod_lt h b hb
          · exact hxlt
        have er : reg (not32 0) (f.bod.set (p - 4) ((frmB f)[p] ^^^ v)) = reg (not32 0) f.bod :=
          (not32_inj (reg_lt (not32_lt _) _ hbl2) (reg_lt (not32_lt _) _ (Fm.bod_lt h)) (by unfold more at e; exact e.symm))
        have hz : List.zipWith (· ^^^ ·) (f.bod.set (p - 4) ((frmB f)[p] ^^^ v)) f.bod = List.replicate (p - 4) 0 ++ [v] ++ List.replicate (f.s.size - (p - 4)) 0 := by
          refine List.ext_getElem (by simp [hbl]; omega) (fun j h1 h2 => ?_)
          rw [List.getElem_zipWith]
          by_cases ej : j = p - 4
          · subst ej
            rw [List.getElem_set_self, hg, List.getElem_append_left (by simp), List.getElem_append_right (by simp)]
            simp only [List.length_replicate, Nat.sub_self, List.getElem_cons_zero]
            rw [Nat.xor_comm (frmB f)[p] v, Nat.xor_assoc, Nat.xor_self, Nat.xor_zero]
          · rw [List.getElem_set_ne (fun e => ej e.symm), Nat.xor_self]
            by_cases hj : j < p - 4
            · rw [List.getElem_append_left (by simp; omega), List.getElem_append_left (by simp; omega), List.getElem_replicate]
            · rw [List.getElem_append_right (by simp; omega), List.getElem_replicate]
        have := reg_tells (not32 0) _ f.bod (by simp) (p - 4) (f.s.size - (p - 4)) [v] (by simp; exact hv) (by simp) hz er v (by simp)
        exact hv0 this
      · -- the check
        have hq2 : f.s.size + 1 ≤ p - 4 := by omega
        have e2 : (B.drop 4).take (f.s.size + 1) = f.bod := by
          rw [hd4, d0, List.take_set_of_le hq2, List.take_left' hbl]
        have e1 : (B.drop 4).drop (f.s.size + 1) = (leOf (more 0 f.bod) 4).set (p - 4 - (f.s.size + 1)) ((frmB f)[p] ^^^ v) := by
          rw [hd4, d0, List.drop_set, if_neg (by omega), List.drop_left' hbl]
        have hg : (leOf (more 0 f.bod) 4)[p - 4 - (f.s.size + 1)]'(by rw [leOf_length]; omega) = (frmB f)[p] := by
          rw [← hx]
          have e : (f.bod ++ leOf (more 0 f.bod) 4)[p - 4]'(by rw [List.length_append, hbl, leOf_length]; omega) = (leOf (more 0 f.bod) 4)[p - 4 - f.bod.length]'(by rw [leOf_length, hbl]; omega) := List.getElem_append_right (by rw [hbl]; exact hq2)
          have e9 : (leOf (more 0 f.bod) 4)[p - 4 - (f.s.size + 1)]'(by rw [leOf_length]; omega) = (leOf (more 0 f.bod) 4)[p - 4 - f.bod.length]'(by rw [leOf_length, hbl]; omega) := by congr 1; rw [hbl]
          rw [e9, ← e]
          congr 1
        rw [e1, e2, List.take_of_length_le (by rw [List.length_set, leOf_length]; exact Nat.le_refl _)]
        intro e
        have e4 : n256 ((leOf (more 0 f.bod) 4).set (p - 4 - (f.s.size + 1)) ((frmB f)[p] ^^^ v)) = n256 (leOf (more 0 f.bod) 4) := by
          rw [e, leOf_n256, Nat.mod_eq_of_lt (more_lt _ _)]
        have e5 := n256_inj _ _ (by simp) (by
          intro b hb
          rcases List.mem_or_eq_of_mem_set hb with hb | rfl
          · exact leOf_lt _ _ b hb
          · exact hxlt) (leOf_lt _ _) e4
        have e6 : ((leOf (more 0 f.bod) 4).set (p - 4 - (f.s.size + 1)) ((frmB f)[p] ^^^ v))[p - 4 - (f.s.size + 1)]'(by rw [List.length_set, leOf_length]; omega) = (leOf (more 0 f.bod) 4)[p - 4 - (f.s.size + 1)]'(by rw [leOf_length]; omega) := by
          congr 1
        rw [List.getElem_set_self, hg] at e6
        exact hne _ e6
    unfold nx
    rw [if_neg (by omega), if_neg (by rw [hlen]; have := h.2.2; omega), if_neg h0, if_neg (by rw [hlen, hBl]; omega), if_pos hs]

end Go.Proofs.Ytjjhjbmmhkcapaa
