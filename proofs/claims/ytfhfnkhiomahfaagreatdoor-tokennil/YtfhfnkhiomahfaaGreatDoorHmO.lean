/-
  Digests compared; the program's Same.
-/
import Derived.Test.YtfhfnkhiomahfaaGreatDoorHmN
import Derived.Stop.BytesEq
namespace Go.Proofs.YtfhfnkhiomahfaaGreatDoor
open Go.RowKit

def u8L (xs : List Nat) : List UInt8 := xs.map UInt8.ofNat

theorem u8L_cells (xs : List Nat) (h : ∀ x ∈ xs, x < 256) : (u8L xs).map Extern.Stop.cell = xs.map byteV := by
  unfold u8L
  rw [List.map_map]
  refine List.map_congr_left (fun x hx => ?_)
  have := h x hx
  simp only [Function.comp, Extern.Stop.cell, byteV, UInt8.toNat_ofNat']
  rw [Nat.mod_eq_of_lt (by omega)]
  rfl

theorem u8L_eq (xs ys : List Nat) (hx : ∀ x ∈ xs, x < 256) (hy : ∀ x ∈ ys, x < 256) : (u8L xs == u8L ys) = decide (xs = ys) := by
  by_cases h : xs = ys
  · subst h; simp
  · rw [decide_eq_false h]
    cases hb : (u8L xs == u8L ys) with
    | false => rfl
    | true =>
      refine absurd ?_ h
      have e := eq_of_beq hb
      have e1 : (u8L xs).map UInt8.toNat = (u8L ys).map UInt8.toNat := by rw [e]
      have f : ∀ l : List Nat, (∀ x ∈ l, x < 256) → (u8L l).map UInt8.toNat = l := by
        intro l hl
        unfold u8L
        rw [List.map_map]
        conv => rhs; rw [← List.map_id l]
        refine List.map_congr_left (fun x hx => ?_)
        have := hl x hx
        simp only [Function.comp, UInt8.toNat_ofNat', id]
        exact Nat.mod_eq_of_lt (by omega)
      rwa [f xs hx, f ys hy] at e1

theorem eq32 (xs ys : List Nat) (hx : ∀ x ∈ xs, x < 256) (hy : ∀ x ∈ ys, x < 256) (lx : xs.length = 32) (ly : ys.length = 32) (w : World) :
    (Op.equalIn 10000 86 (.agg (xs.map byteV).toArray) (.agg (ys.map byteV).toArray)).run Tryz.prog w = .ok (decide (xs = ys)) w := by
  have hsz : ∀ w, (sizeOf 5).run Tryz.prog w = .ok 1 w := by
    intro w
    have h := Tryz.sizeU8
    cases hq : Tryz.prog.info? 5 with
    | none => rw [hq] at h; cases h
    | some i => rw [hq] at h; simp at h; simp [sizeOf, typeInfo, hq, h]
  have h := run_equalIn_bytes (P := Tryz.prog) w 9998 86 5 32 Tryz.underlying86 Tryz.underlying5 hsz (u8L xs) (u8L ys) (by simp [u8L, lx]) (by simp [u8L, ly])
  rw [u8L_cells xs hx, u8L_cells ys hy, u8L_eq xs ys hx hy] at h
  exact h



end Go.Proofs.YtfhfnkhiomahfaaGreatDoor
