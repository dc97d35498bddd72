/-
  Digests compared; the program's Same.
-/
import Derived.Test.YtgbfhpilhnbnjaaDoorHmN
import Derived.Stop.BytesEq
namespace Go.Proofs.YtgbfhpilhnbnjaaDoor
open Go.RowKit

def u8L (xs : List Nat) : List UInt8 := xs.map UInt8.ofNat

theorem u8L_cells (xs : List Nat) (h : ∀ x ∈ xs, x < 256) : (u8L xs).map Extern.Stop.cell = xs.map byteV := by
  unfold u8L
  rw [List.map_map]
  refine List.map_congr_left (fun x hx => ?_)
  have := h x hx
  simp only [Function.comp, Extern.Stop.cell, byteV, UInt8.toNat_ofNat']
  rw [Nat.mod_eq_of_lt (by omega)]
  rfl

theorem u8L_eq (xs ys : List Nat) (hx : ∀ x ∈ xs, x < 256) (hy : ∀ x ∈ ys, x < 256) : (u8L xs == u8L ys) = decide (xs = ys) := by
  by_cases h : xs = ys
  · subst h; simp
  · rw [decide_eq_false h]
    cases hb : (u8L xs == u8L ys) with
    | false => rfl
    | true =>
      refine absurd ?_ h
      have e := eq_of_beq hb
      have e1 : (u8L xs).map UInt8.toNat = (u8L ys).map UInt8.toNat := by rw [e]
      have f : ∀ l : List Nat, (∀ x ∈ l, x < 256) → (u8L l).map UInt8.toNat = l := by
        intro l hl
        unfold u8L
        rw [List.map_map]
        conv => rhs; rw [← List.map_id l]
        refine List.map_congr_left (fun x hx => ?_)
        have := hl x hx
        simp only [Function.comp, UInt8.toNat_ofNat', id]
        exact Nat.mod_eq_of_lt (by omega)
      rwa [f xs hx, f ys hy] at e1

theorem eq32 (xs ys : List Nat) (hx : ∀ x ∈ xs, x < 256) (hy : ∀ x ∈ ys, x < 256) (lx : xs.length = 32) (ly : ys.length = 32) (w : World) :
    (Op.equalIn 10000 24 (.agg (xs.map byteV).toArray) (.agg (ys.map byteV).toArray)).run Tryd.prog w = .ok (decide (xs = ys)) w := by
  have hsz : ∀ w, (sizeOf 5).run Tryd.prog w = .ok 1 w := by
    intro w
    have h := Tryd.sizeU8
    cases hq : Tryd.prog.info? 5 with
    | none => rw [hq] at h; cases h
    | some i => rw [hq] at h; simp at h; simp [sizeOf, typeInfo, hq, h]
  have h := run_equalIn_bytes (P := Tryd.prog) w 9998 24 5 32 Tryd.underlying24 Tryd.underlying5 hsz (u8L xs) (u8L ys) (by simp [u8L, lx]) (by simp [u8L, ly])
  rw [u8L_cells xs hx, u8L_cells ys hy, u8L_eq xs ys hx hy] at h
  exact h

set_option maxRecDepth 100000 in
set_option maxHeartbeats 400000 in
theorem psame_any (w : World) (xs ys : List Nat) (hx : ∀ x ∈ xs, x < 256) (hy : ∀ x ∈ ys, x < 256) (lx : xs.length = 32) (ly : ys.length = 32) :
    Calls Tryd.prog 17 #[.agg (xs.map byteV).toArray, .agg (ys.map byteV).toArray] w fun e w' => e = .returned (.bool (decide (xs = ys))) ∧ Same w w' := by
  have he := fun W => eq32 xs ys hx hy lx ly W
  have HX := hid lx
  have HY := hid ly
  clear hx hy lx ly
  go_enter Tryd.func17, Tryd.ntmps17
  go_wp2_with (first
    | (with_reducible refine at_boxD 24 2 ?_; refine wpl_box 24 (xs.map byteV).toArray rfl ?_; intro w1 g1 hB1 hk1 hg1 hl1; have HB1 := hid hB1; have HK1 := hid hk1; clear hB1 hk1)
    | (with_reducible refine at_boxD 24 3 ?_; refine wpl_box 24 (ys.map byteV).toArray rfl ?_; intro w2 g2 hB2 hk2 hg2 hl2; have HB2 := hid hB2; have HK2 := hid hk2; clear hB2 hk2)
    | (with_reducible refine at_load 24 5 ?_; refine wpl_load 24 32 _ Tryd.underlying24 rfl Tryd.size32 rfl (HB1.out.kept HK2.out (fun f => f)) (xs.map byteV) (by simp [HX.out]) (take_all15 (by simp [HX.out])) ?_)
    | (with_reducible refine at_load 24 6 ?_; refine wpl_load 24 32 _ Tryd.underlying24 rfl Tryd.size32 rfl HB2.out (ys.map byteV) (by simp [HY.out]) (take_all15 (by simp [HY.out])) ?_))
  go_ret
  exact ⟨rfl, HK1.out.trans HK2.out⟩

end Go.Proofs.YtgbfhpilhnbnjaaDoor
