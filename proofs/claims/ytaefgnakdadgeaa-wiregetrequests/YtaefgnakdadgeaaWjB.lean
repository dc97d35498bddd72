/-
  Layer 19, the reference: what cuts bytes.
-/
import Derived.Test.YtaefgnakdadgeaaWiX
namespace Go.Proofs.Ytaefgnakdadgeaa
open Go.RowKit

/-- Bytes that are being cut. -/
structure Ct19 (N : Nat) (w : World) (c : Nat) (y : List Nat) (bad : Bool) (a : Option Addr) (cap : Nat) : Prop where
  blk : Blk w c #[.slice a y.length cap, .bool bad] 63
  src : Src w (fun k => k < N) (.slice a y.length cap) y
  room : y.length ≤ cap
  new : N ≤ c
  byte : ∀ b ∈ y, b < 256
  len : y.length ≤ 2000000
  nil : a = none → cap = 0

theorem Ct19.kept {F : Nat → Prop} {N : Nat} {w w' : World} {c : Nat} {y : List Nat} {bad : Bool} {a : Option Addr} {cap : Nat} (h : Ct19 N w c y bad a cap) (hk : Kept F w w') (h1 : ¬ F c) (h2 : ∀ k, k < N → ¬ F k) : Ct19 N w' c y bad a cap :=
  ⟨h.blk.kept hk h1, h.src.kept hk (fun k hk _ => h2 k hk), h.room, h.new, h.byte, h.len, h.nil⟩

theorem Ct19.mark {N : Nat} {w : World} {c : Nat} {y : List Nat} {bad b : Bool} {a : Option Addr} {cap : Nat} (h : Ct19 N w c y bad a cap) : Ct19 N (w.setCell ⟨c, 1, none⟩ (.bool b)) c y b a cap ∧ Kept (· = c) w (w.setCell ⟨c, 1, none⟩ (.bool b)) := by
  have hk : Kept (· = c) w (w.setCell ⟨c, 1, none⟩ (.bool b)) := (Kept.refl (· = c) w).setCell _ _ (.inl rfl)
  have hN := h.new
  refine ⟨⟨by simpa using h.blk.set 1 (.bool b), h.src.kept hk (fun k h1 _ e => by omega), h.room, hN, h.byte, h.len, h.nil⟩, hk⟩

/-- What cutting leads to. -/
def Oc {α : Type} (bad : Bool) (o : Option (α × List Nat)) (v : α) (y' : List Nat) (bad' : Bool) : Prop :=
  (bad = true → bad' = true) ∧ (bad = false → (bad' = false ∧ o = some (v, y')) ∨ (bad' = true ∧ o = none))

theorem Oc.good {α : Type} {bad : Bool} {o : Option (α × List Nat)} {v : α} {y' : List Nat} (h : o = some (v, y')) : Oc bad o v y' bad :=
  ⟨fun h => h, fun hb => .inl ⟨hb, h⟩⟩
theorem Oc.none {α : Type} {bad : Bool} {o : Option (α × List Nat)} {v : α} {y' : List Nat} (h : o = none) : Oc bad o v y' true :=
  ⟨fun _ => rfl, fun _ => .inr ⟨rfl, h⟩⟩
theorem Oc.bad {α : Type} {o : Option (α × List Nat)} {v : α} {y' : List Nat} {bad' : Bool} (h : bad' = true) : Oc true o v y' bad' :=
  ⟨fun _ => h, fun e => by cases e⟩

/-- What take tells. -/
def TaC (N : Nat) (w w' : World) (c n : Nat) (y : List Nat) (bad : Bool) (e : Ending) : Prop :=
  ∃ va vc x y' bad' a' cap', e = .returned (.slice va n vc) ∧ Src w' (fun _ => True) (.slice va n vc) x ∧ x.length = n ∧ (∀ b ∈ x, b < 256) ∧ n ≤ vc ∧ Ct19 N w' c y' bad' a' cap' ∧ Kept (· = c) w w' ∧ Oc bad (tk8 n y) x y' bad'

theorem Ct19.cut {N : Nat} {w : World} {c : Nat} {y : List Nat} {bad : Bool} {a a' : Option Addr} {cap n : Nat} (h : Ct19 N w c y bad a cap) (hn : n ≤ y.length) (ha : n < y.length → ∃ b o, a = some ⟨b, o, none⟩ ∧ a' = some ⟨b, o + n, none⟩) (hnil : a' = none → cap - n = 0) (u : Value) (hu : u = .slice a' (y.length - n) (cap - n)) :
    Src (w.setCell ⟨c, 0, none⟩ u) (fun _ => True) (.slice a n cap) (y.take n) ∧ Ct19 N (w.setCell ⟨c, 0, none⟩ u) c (y.drop n) bad a' (cap - n) ∧ Kept (· = c) w (w.setCell ⟨c, 0, none⟩ u) := by
  have hk : Kept (· = c) w (w.setCell ⟨c, 0, none⟩ u) := (Kept.refl (· = c) w).setCell _ _ (.inl rfl)
  have hN := h.new
  have hr := h.room
  have hl := h.len
  refine ⟨Src.mono ((h.src.head19 hn cap).kept hk (fun k h1 _ e => by omega)) (fun _ _ => trivial), ⟨?_, ?_, by rw [List.length_drop]; omega, hN, fun b hb => h.byte b (List.mem_of_mem_drop hb), by rw [List.length_drop]; omega, hnil⟩, hk⟩
  · have := h.blk.set 0 u
    rw [List.length_drop, ← hu]
    simpa using this
  · have h9 := h.src.tail19 (a' := a') (c' := cap - n) hn ha
    rw [List.length_drop]
    exact h9.kept hk (fun k h1 _ e => by omega)

set_option maxRecDepth 100000 in
set_option maxHeartbeats 1000000 in
theorem rtake19 (N : Nat) (w : World) (c : Nat) (y : List Nat) (bad : Bool) (a : Option Addr) (cap n : Nat) (h : Ct19 N w c y bad a cap) (hn : n ≤ 100000) :
    Calls Try.prog 45 #[.pointer (some ⟨c, 0, none⟩), .int .i64 (n : Nat)] w fun e w' => TaC N w w' c n y bad e := by
  obtain ⟨c0, c1, z0, z1⟩ := h.blk.two
  have HC := hid h
  obtain ⟨L, hL⟩ : ∃ L, L = y.length := ⟨_, rfl⟩
  have HLr := hid hL
  have hL2 : L ≤ 2000000 := by have := h.len; omega
  have hLc : L ≤ cap := by have := h.room; omega
  rw [← hL] at c0
  by_cases hgt : L < n
  · have HT : Hid (tk8 n y = none) := hid (by unfold tk8; rw [if_neg (by omega)])
    have b1 : decide ((L : Int) < (n : Int)) = true := by simp; omega
    have b2 : decide (L < n) = true := by simp; omega
    obtain ⟨M9, HM9⟩ := hid (h.mark (b := true)) |> fun h => (⟨h.out.1, hid h.out⟩ : ∃ _ : Ct19 N (w.setCell ⟨c, 1, none⟩ (.bool true)) c y true a cap, Hid (Ct19 N (w.setCell ⟨c, 1, none⟩ (.bool true)) c y true a cap ∧ Kept (· = c) w (w.setCell ⟨c, 1, none⟩ (.bool true))))
    clear M9 h hL hgt
    go_enter Try.func45, Try.ntmps45
    go_wp2_with (at_make; refine wpList_make_bytes _ rfl _ _ rfl _ _ _ _ n rfl rfl rfl rfl (by omega) ?_)
    intro w1 hr1 hg1 hs1
    have HR1 := hid hr1
    have HK1 : Hid (Same (w.setCell ⟨c, 1, none⟩ (.bool true)) w1) := hid ((Kept.refl _ _).grown hg1 (by simp))
    clear hr1 hg1 hs1
    go_wp2_with fail
    go_ret
    refine ⟨_, _, List.replicate n 0, y, true, a, cap, rfl, ?_, by simp, fun b hb => by rw [List.mem_replicate] at hb; omega, Nat.le_refl _, HM9.out.1.kept HK1.out (fun f => f) (fun _ _ f => f), Kept.trans HM9.out.2 HK1.out (fun _ _ f => f) (fun _ _ f => f.elim), Oc.none HT.out⟩
    exact Src.mono (Src.ofRow HR1.out) (fun _ _ => trivial)
  · have hle : n ≤ y.length := by omega
    have HT : Hid (tk8 n y = some (y.take n, y.drop n) ∧ n ≤ y.length) := hid ⟨by unfold tk8; rw [if_pos hle], hle⟩
    have b1 : decide ((L : Int) < (n : Int)) = false := by simp; omega
    have b2 : decide (L < n) = false := by simp; omega
    have hnc : n ≤ cap := by omega
    have i1 : (0 : Int) ≤ (n : Int) := by omega
    have i2 : (n : Int) ≤ (cap : Int) := by omega
    have i3 : (n : Int) ≤ (L : Int) := by omega
    have i4 : (L : Int) ≤ (cap : Int) := by omega
    have HLEN : Hid ((y.take n).length = n ∧ ∀ b ∈ y.take n, b < 256) := hid ⟨by rw [List.length_take]; omega, fun b hb => h.byte b (List.mem_of_mem_take hb)⟩
    have HAD : Hid (n < y.length → ∃ b o, a = some ⟨b, o, none⟩) := hid (fun h8 => by
      obtain ⟨ao, co, e9, h9⟩ := h.src
      simp only [Value.slice.injEq] at e9
      obtain ⟨b, o, h1, _⟩ := h9 (fun e => by rw [e] at h8; simp at h8)
      exact ⟨b, o, by rw [e9.1]; exact h1⟩)
    clear hL hle h hgt
    by_cases hcn : cap = n
    · obtain rfl : L = n := by omega
      subst hcn
      go_enter Try.func45, Try.ntmps45
      go_wp2_with fail
      go_ret
      have hlr := HLr.out
      obtain ⟨h1, h2, h3⟩ := HC.out.cut (n := cap) (a' := a) HT.out.2 (fun h8 => by omega) (fun _ => by omega) (.slice a 0 0) (by rw [← hlr]; simp)
      exact ⟨_, _, _, _, _, _, _, rfl, h1, HLEN.out.1, HLEN.out.2, Nat.le_refl _, h2, h3, Oc.good HT.out.1⟩
    · go_enter Try.func45, Try.ntmps45
      go_wp2_with fail
      go_ret
      have hlr := HLr.out
      obtain ⟨h1, h2, h3⟩ := HC.out.cut (n := n) (a' := a.map (Addr.add · n)) HT.out.2 (fun h8 => by obtain ⟨b9, o9, hab⟩ := HAD.out h8; exact ⟨b9, o9, hab, by rw [hab]; simp [addAt]⟩) (fun e => by have := HC.out.nil (by cases h9 : a with | none => rfl | some x => rw [h9] at e; cases e); omega) (.slice (a.map (Addr.add · n)) (L - n) (cap - n)) (by rw [← hlr])
      exact ⟨_, _, _, _, _, _, _, rfl, h1, HLEN.out.1, HLEN.out.2, hnc, h2, h3, Oc.good HT.out.1⟩

end Go.Proofs.Ytaefgnakdadgeaa
