import Derived.Test.YtljlmfnbeofmmaaGreatDoorZqM
import Derived.Test.YtljlmfnbeofmmaaGreatDoorZqK
namespace Go.Proofs.YtljlmfnbeofmmaaGreatDoor

theorem bestL_ge {a b : List Nat} {n : Nat} (ha : n ≤ a.length) (hb : n ≤ b.length) : n ≤ (bestL a b).length := by
 unfold bestL
 split <;> assumption

theorem dynB_ge (ts : List TK) : 17 ≤ (dynB ts).length := by
 unfold dynB dynBits headBits
 simp only [List.length_append, List.length_cons, List.length_nil]
 have h1 : ∀ v n, (bitsOf v n).length = n := fun v n => bitsOf_length v n
 rw [h1, h1, h1]
 omega

theorem pdef_three {data bs : List Nat} (h : PDef data bs) (hf : 17 ≤ (fixBits (findM data)).length) : ¬ bs.length < 3 := by
 obtain ⟨x2, x3, rfl, h2, h3⟩ := h
 have g2 := h2.1.len
 have g3 := h3.1.1.len
 have g4 := dynB_ge (findM data)
 have : 3 ≤ (bestL (bestL (storeB data) x2) x3).length := bestL_ge (bestL_ge (by simp [storeB]) (by omega)) (by omega)
 omega

theorem fix_one : 17 ≤ (fixBits (findM [111, 110, 101])).length := by decide +kernel
theorem fix_two : 17 ≤ (fixBits (findM [116, 119, 111])).length := by decide +kernel

def one8 : ByteArray := ⟨#[111, 110, 101]⟩
def two8 : ByteArray := ⟨#[116, 119, 111]⟩
def a8 : ByteArray := ⟨#[97]⟩
def bc8 : ByteArray := ⟨#[98, 47, 99]⟩
def nil8b : ByteArray := ⟨#[]⟩

def exE (j : Nat) : En := if j = 0 then ⟨a8, one8⟩ else ⟨bc8, two8⟩
def twE (_ : Nat) : En := ⟨a8, nil8b⟩

theorem exE_chk : chkE exE 2 = 0 := by decide +kernel
theorem twE_chk : chkE twE 2 = 80 := by decide +kernel

theorem three_lab {y : En} {bs : List Nat} (h : PDef (sb y.d) bs) (hd : y.d.size = 3) (hf : 17 ≤ (fixBits (findM (sb y.d))).length) : (labZ y bs).way = 0 ∧ unp8 ⟨labZ y bs, bodZ y bs⟩ = .ok (sb y.d) := by
 have h3 := pdef_three h hf
 have e1 : (labZ y bs).way = 0 := by simp only [labZ]; rw [if_neg (by omega)]
 have e2 : bodZ y bs = sb y.d := by simp only [bodZ]; rw [if_neg (by omega)]
 refine ⟨e1, ?_⟩
 unfold unp8
 rw [if_neg (by rw [e1]; decide)]
 simp only
 rw [e2, show (labZ y bs).sum = more 0 (sb y.d) from rfl, if_pos rfl]

theorem ex_file {L : List It} (h : ItsOf exE 2 L) : (∀ y ∈ L, y.lab.way = 0) ∧ opf8 (filB L) = .ok L ∧ rd8 (filB L) = .ok [(sb a8, sb one8), (sb bc8, sb two8)] := by
 obtain ⟨hl, hj⟩ := h
 match L, hl with
 | [x0, x1], _ =>
  obtain ⟨b0, p0, e0⟩ := hj 0 x0 rfl
  obtain ⟨b1, p1, e1⟩ := hj 1 x1 rfl
  have t0 := three_lab (y := exE 0) p0 rfl fix_one
  have t1 := three_lab (y := exE 1) p1 rfl fix_two
  rw [← e0] at t0
  rw [← e1] at t1
  have hop := its_open (E := exE) (len := 2) (L := [x0, x1]) ⟨rfl, hj⟩ exE_chk
  have ew0 : x0.lab.way = 0 := by have := t0.1; rw [e0]; exact this
  have ew1 : x1.lab.way = 0 := by have := t1.1; rw [e1]; exact this
  refine ⟨fun y hy => ?_, hop, ?_⟩
  ·simp only [List.mem_cons, List.not_mem_nil, or_false] at hy
   rcases hy with rfl | rfl
   ·exact ew0
   ·exact ew1
  ·unfold rd8
   rw [hop]
   simp only [all8, t0.2, t1.2]
   have n0 : x0.lab.name = sb a8 := by rw [e0]; rfl
   have n1 : x1.lab.name = sb bc8 := by rw [e1]; rfl
   rw [n0, n1]
   rfl

theorem ex_nil {E : Nat → En} {L : List It} (h : ItsOf E 0 L) : filB L = endB 0 0 0 := by
 have : L = [] := List.eq_nil_of_length_eq_zero h.1
 subst this
 rfl

theorem ex_bad : opf8 (endB 0 0 0 ++ [0]) = .error 81 := by
 have h1 : (endB 0 0 0 ++ [0]).length = 23 := by decide +kernel
 have h2 : enf8 ((endB 0 0 0 ++ [0]).drop 1) = none := by decide +kernel
 unfold opf8
 rw [h1, if_neg (by decide), if_neg (by decide), end8_none h2]

end Go.Proofs.YtljlmfnbeofmmaaGreatDoor
