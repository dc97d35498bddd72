import Derived.Test.YtljlmfnbeofmmaaGreatDoorZpM
import Derived.Lib.Split
import Derived.Lib.SlTrimSet
namespace Go.Proofs.YtljlmfnbeofmmaaGreatDoor

def let8 (c : Nat) : Bool := decide (97 ≤ c ∧ c ≤ 122) || decide (48 ≤ c ∧ c ≤ 57) || c == 46 || c == 95 || c == 45

def prt8 (p : List Nat) : Bool := !(p == []) && !(p == [46]) && !(p == [46, 46])

def okp8 (p : List Nat) : Bool := prt8 p && p.all let8

def spl8 : List Nat → List (List Nat)
 | [] => [[]]
 | c :: r => if c = 47 then [] :: spl8 r else match spl8 r with
  | [] => [[c]]
  | p :: ps => (c :: p) :: ps

theorem spl8_ne (l : List Nat) : ∃ p ps, spl8 l = p :: ps := by
 cases l with
 | nil => exact ⟨_, _, rfl⟩
 | cons c r =>
  unfold spl8
  split
  ·exact ⟨_, _, rfl⟩
  ·split
   ·exact ⟨_, _, rfl⟩
   ·exact ⟨_, _, rfl⟩

theorem spl8_cons {c : Nat} {r p : List Nat} {ps : List (List Nat)} (hc : c ≠ 47) (h : spl8 r = p :: ps) : spl8 (c :: r) = (c :: p) :: ps := by
 rw [spl8, if_neg hc, h]

def nam8 (l : List Nat) : Bool := decide (l.length ≤ 64) && (spl8 l).all okp8

def go8 (cur : List Nat) : List Nat → Bool
 | [] => prt8 cur
 | c :: r => if c = 47 then prt8 cur && go8 [] r else let8 c && go8 (cur ++ [c]) r

theorem go8_is (cur l : List Nat) (h : cur.all let8 = true) {p : List Nat} {ps : List (List Nat)} (hs : spl8 l = p :: ps) : go8 cur l = (okp8 (cur ++ p) && ps.all okp8) := by
 induction l generalizing cur p ps with
 | nil =>
  simp only [spl8, List.cons.injEq] at hs
  obtain ⟨rfl, rfl⟩ := hs
  simp [go8, okp8, h]
 | cons c r ih =>
  by_cases hc : c = 47
  ·subst hc
   rw [spl8, if_pos rfl] at hs
   simp only [List.cons.injEq] at hs
   obtain ⟨rfl, rfl⟩ := hs
   obtain ⟨q, qs, hq⟩ := spl8_ne r
   rw [go8, if_pos rfl, ih [] rfl hq, hq]
   simp [okp8, h]
  ·obtain ⟨q, qs, hq⟩ := spl8_ne r
   rw [spl8_cons hc hq] at hs
   simp only [List.cons.injEq] at hs
   obtain ⟨rfl, rfl⟩ := hs
   rw [go8, if_neg hc]
   by_cases hl : let8 c = true
   ·rw [hl, Bool.true_and, ih (cur ++ [c]) (by simp [h, hl]) hq]
    simp
   ·have hl' : let8 c = false := by simpa using hl
    rw [hl']
    have : okp8 (cur ++ c :: q) = false := by simp [okp8, hl']
    rw [this]
    simp

theorem go8_nam (l : List Nat) : (decide (l.length ≤ 64) && go8 [] l) = nam8 l := by
 obtain ⟨p, ps, h⟩ := spl8_ne l
 rw [go8_is [] l rfl h, nam8, h]
 simp

def txt (l : List Nat) : ByteArray := ⟨(l.map UInt8.ofNat).toArray⟩
def sb (s : ByteArray) : List Nat := s.data.toList.map UInt8.toNat

theorem sb_lt (s : ByteArray) : ∀ b ∈ sb s, b < 256 := by
 intro b hb
 obtain ⟨u, _, rfl⟩ := List.mem_map.1 hb
 exact u.toNat_lt

theorem sb_txt (l : List Nat) (h : ∀ b ∈ l, b < 256) : sb (txt l) = l := by
 unfold sb txt
 simp only [List.map_map]
 conv => rhs; rw [← List.map_id l]
 refine List.map_congr_left (fun b hb => ?_)
 have := h b hb
 simp only [Function.comp_apply, id_eq, UInt8.toNat_ofNat']
 omega

theorem txt_sb (s : ByteArray) : txt (sb s) = s := by
 unfold sb txt
 rw [List.map_map]
 have : (UInt8.ofNat ∘ UInt8.toNat) = id := by funext u; simp
 rw [this, List.map_id]

theorem txt_inj {a b : List Nat} (ha : ∀ x ∈ a, x < 256) (hb : ∀ x ∈ b, x < 256) (h : txt a = txt b) : a = b := by
 rw [← sb_txt a ha, ← sb_txt b hb, h]

theorem sb_inj {s t : ByteArray} (h : sb s = sb t) : s = t := by rw [← txt_sb s, ← txt_sb t, h]

theorem sb_size (s : ByteArray) : (sb s).length = s.size := by simp [sb]

theorem txt_size (l : List Nat) : (txt l).size = l.length := by simp [txt, ByteArray.size]

end Go.Proofs.YtljlmfnbeofmmaaGreatDoor
