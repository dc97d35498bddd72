/-
  The program's layer 19: giving up; a cursor over bytes.
-/
import Derived.Test.YtaefgnakdadgeaaZpM
import Derived.Test.YtaefgnakdadgeaaLGets
import Derived.Test.YtaefgnakdadgeaaBlk
import Derived.Test.YtaefgnakdadgeaaSam
import Derived.WalkLawsBesides
namespace Go.Proofs.Ytaefgnakdadgeaa
open Go.RowKit

/-- How it gives up. -/
def pan19 (e : Nat) : Ending := .panicked [{ v := .iface 27 (.int .i64 (e : Nat)), recovered := false }]

set_option maxHeartbeats 400000 in
theorem need19_ok (w : World) (z : Value) : Calls Try.prog 49 #[.bool true, z] w fun e w' => e = .returned (.tuple #[]) ∧ w' = w := by
  go_enter Try.func49, Try.ntmps49
  go_wp2_with fail
  go_end0
  exact ⟨rfl, rfl⟩

set_option maxHeartbeats 400000 in
theorem need19_bad (w : World) (n : Nat) : Calls Try.prog 49 #[.bool false, .int .i64 (n : Nat)] w fun e w' => e = pan19 n ∧ w' = w := by
  go_enter Try.func49, Try.ntmps49
  go_wp2_with fail
  exact ⟨rfl, rfl, rfl⟩

/-- A cursor: what is left of bytes that came in. -/
structure Cu19 (N : Nat) (w : World) (c : Nat) (r : List Nat) (a : Option Addr) (cap : Nat) : Prop where
  blk : Blk w c #[.slice a r.length cap] 89
  src : Src w (fun k => k < N) (.slice a r.length cap) r
  room : r.length ≤ cap
  new : N ≤ c
  byte : ∀ b ∈ r, b < 256
  len : r.length ≤ 2000000
  adr : a ≠ none

theorem Cu19.kept {F : Nat → Prop} {N : Nat} {w w' : World} {c : Nat} {r : List Nat} {a : Option Addr} {cap : Nat} (h : Cu19 N w c r a cap) (hk : Kept F w w') (h1 : ¬ F c) (h2 : ∀ k, k < N → ¬ F k) : Cu19 N w' c r a cap :=
  ⟨h.blk.kept hk h1, h.src.kept hk (fun k hk _ => h2 k hk), h.room, h.new, h.byte, h.len, h.adr⟩

/-- What was taken. -/
structure Tk19 (N : Nat) (w : World) (v : Value) (n : Nat) (x : List Nat) : Prop where
  src : Src w (fun k => k < N) v x
  room : ∀ a m c, v = .slice a m c → m ≤ c
  len : x.length = n
  byte : ∀ b ∈ x, b < 256
  shp : ∃ a c, v = .slice a n c
  adr : ∀ m c, v ≠ .slice none m c

theorem Tk19.kept {F : Nat → Prop} {N : Nat} {w w' : World} {v : Value} {n : Nat} {x : List Nat} (h : Tk19 N w v n x) (hk : Kept F w w') (h2 : ∀ k, k < N → ¬ F k) : Tk19 N w' v n x := ⟨h.src.kept hk (fun k hk _ => h2 k hk), h.room, h.len, h.byte, h.shp, h.adr⟩

theorem tk19_some {n : Nat} {r x y : List Nat} (h : tk8 n r = some (x, y)) : n ≤ r.length ∧ x = r.take n ∧ y = r.drop n := by
  unfold tk8 at h
  split at h
  · simp only [Option.some.injEq, Prod.mk.injEq] at h
    exact ⟨by assumption, h.1.symm, h.2.symm⟩
  · cases h

theorem tk19_none {n : Nat} {r : List Nat} (h : tk8 n r = none) : r.length < n := by
  unfold tk8 at h
  split at h
  · cases h
  · omega

theorem Src.head19 {w : World} {I : Nat → Prop} {a : Option Addr} {n cap : Nat} {bs : List Nat} (h : Src w I (.slice a bs.length cap) bs) (hn : n ≤ bs.length) (c' : Nat) : Src w I (.slice a n c') (bs.take n) := by
  obtain ⟨ao, c, e, hs⟩ := h
  simp only [Value.slice.injEq] at e
  obtain ⟨rfl, _, rfl⟩ := e
  refine ⟨a, c', by rw [List.length_take, Nat.min_eq_left hn], fun hne => ?_⟩
  obtain ⟨b, o, h1, h2, h3⟩ := hs (fun e => hne (by rw [e]; simp))
  refine ⟨b, o, h1, h2, fun j hj => ?_⟩
  rw [List.length_take] at hj
  rw [h3 j (by omega), List.getElem_take]

theorem Src.tail19 {w : World} {I : Nat → Prop} {a a' : Option Addr} {n cap c' : Nat} {bs : List Nat} (h : Src w I (.slice a bs.length cap) bs) (hn : n ≤ bs.length) (ha : n < bs.length → ∃ b o, a = some ⟨b, o, none⟩ ∧ a' = some ⟨b, o + n, none⟩) : Src w I (.slice a' (bs.length - n) c') (bs.drop n) := by
  obtain ⟨ao, c, e, hs⟩ := h
  simp only [Value.slice.injEq] at e
  obtain ⟨rfl, _, rfl⟩ := e
  refine ⟨a', c', by rw [List.length_drop], fun hne => ?_⟩
  have hlt : n < bs.length := by
    refine Classical.byContradiction (fun hc => hne ?_)
    exact List.drop_eq_nil_of_le (by omega)
  obtain ⟨b, o, h1, h2, h3⟩ := hs (fun e => by rw [e] at hlt; simp at hlt)
  obtain ⟨b', o', h4, h5⟩ := ha hlt
  rw [h1] at h4
  simp only [Option.some.injEq, Addr.mk.injEq, and_true] at h4
  obtain ⟨rfl, rfl⟩ := h4
  refine ⟨b, o + n, h5, h2, fun j hj => ?_⟩
  rw [List.length_drop] at hj
  have := h3 (n + j) (by omega)
  rw [← Nat.add_assoc] at this
  rw [this, List.getElem_drop]

/-- What take answers. -/
def Ta19 (N : Nat) (w w' : World) (c n : Nat) (r : List Nat) (e : Ending) : Prop :=
  (∀ x y, tk8 n r = some (x, y) → ∃ v a' cap', e = .returned v ∧ Tk19 N w' v n x ∧ Cu19 N w' c y a' cap' ∧ Kept (· = c) w w') ∧ (tk8 n r = none → e = pan19 190 ∧ Same w w')

theorem Ta19.good {N : Nat} {w w' : World} {c n : Nat} {r x y : List Nat} {e : Ending} (ht : tk8 n r = some (x, y)) {v : Value} {a' : Option Addr} {cap' : Nat} (he : e = .returned v) (h1 : Tk19 N w' v n x) (h2 : Cu19 N w' c y a' cap') (h3 : Kept (· = c) w w') : Ta19 N w w' c n r e :=
  ⟨fun x' y' h => by rw [ht] at h; simp only [Option.some.injEq, Prod.mk.injEq] at h; obtain ⟨rfl, rfl⟩ := h; exact ⟨v, a', cap', he, h1, h2, h3⟩, fun h => by rw [ht] at h; cases h⟩

theorem Ta19.bad {N : Nat} {w w' : World} {c n : Nat} {r : List Nat} {e : Ending} (ht : tk8 n r = none) (he : e = pan19 190) (h3 : Same w w') : Ta19 N w w' c n r e :=
  ⟨fun x' y' h => (by rw [ht] at h; cases h), fun _ => ⟨he, h3⟩⟩

theorem Cu19.cut {N : Nat} {w : World} {c : Nat} {r : List Nat} {a a' : Option Addr} {cap n : Nat} (h : Cu19 N w c r a cap) (hn : n ≤ r.length) (ha : n < r.length → ∃ b o, a = some ⟨b, o, none⟩ ∧ a' = some ⟨b, o + n, none⟩) (ha' : a' ≠ none) (u : Value) (hu : u = .slice a' (r.length - n) (cap - n)) : Tk19 N (w.setCell ⟨c, 0, none⟩ u) (.slice a n cap) n (r.take n) ∧ Cu19 N (w.setCell ⟨c, 0, none⟩ u) c (r.drop n) a' (cap - n) ∧ Kept (· = c) w (w.setCell ⟨c, 0, none⟩ u) := by
  have hk : Kept (· = c) w (w.setCell ⟨c, 0, none⟩ u) := (Kept.refl (· = c) w).setCell _ _ (.inl rfl)
  have hN := h.new
  have hr := h.room
  refine ⟨⟨(h.src.head19 hn cap).kept hk (fun k h1 _ e => by omega), fun a9 m9 c9 e9 => by simp only [Value.slice.injEq] at e9; omega, by rw [List.length_take, Nat.min_eq_left hn], fun b hb => h.byte b (List.mem_of_mem_take hb), ⟨a, cap, rfl⟩, fun m c e => h.adr (by simp only [Value.slice.injEq] at e; exact e.1)⟩, ⟨?_, ?_, by rw [List.length_drop]; omega, hN, fun b hb => h.byte b (List.mem_of_mem_drop hb), by have := h.len; rw [List.length_drop]; omega, ha'⟩, hk⟩
  · have := h.blk.set 0 u
    rw [List.length_drop, ← hu]
    simpa using this
  · have h9 := h.src.tail19 (a' := a') (c' := cap - n) hn ha
    rw [List.length_drop]
    exact h9.kept hk (fun k h1 _ e => by omega)

set_option maxRecDepth 100000 in
set_option maxHeartbeats 400000 in
theorem take19_any (N : Nat) (w : World) (c : Nat) (r : List Nat) (a : Option Addr) (cap n : Nat) (h : Cu19 N w c r a cap) (hn : n ≤ 2000000) :
    Calls Try.prog 58 #[.pointer (some ⟨c, 0, none⟩), .int .i64 (n : Nat)] w fun e w' => Ta19 N w w' c n r e := by
  have c0 := h.blk.cell 0
  have z0 := h.blk.frozen 0
  simp at c0
  have HC : Hid (Cu19 N w c r a cap) := h
  obtain ⟨L, hL⟩ : ∃ L, L = r.length := ⟨_, rfl⟩
  have HLr : Hid (L = r.length) := hL
  have hL2 : L ≤ 2000000 := by have := h.len; omega
  have hLc : L ≤ cap := by have := h.room; omega
  rw [← hL] at c0
  clear h
  cases ht : tk8 n r with
  | none =>
    have HTK : Hid (tk8 n r = none) := ht
    have hlt := tk19_none ht
    have b2 : decide (n ≤ L) = false := by simp; omega
    have HB := need19_bad w 190
    clear hlt ht hL
    go_enter Try.func58, Try.ntmps58
    go_wp2_with fail
    refine HB.mono ?_
    rintro e w1 ⟨rfl, hw1⟩
    subst hw1
    unfold pan19
    go_wp2_with fail
    exact ⟨rfl, Ta19.bad HTK.out rfl (Kept.refl _ _)⟩
  | some p =>
    obtain ⟨x, y⟩ := p
    have HTK : Hid (tk8 n r = some (x, y)) := ht
    obtain ⟨hle, hx, hy⟩ := tk19_some ht
    have HXY : Hid (n ≤ r.length ∧ x = r.take n ∧ y = r.drop n) := hid ⟨hle, hx, hy⟩
    have b2 : decide (n ≤ L) = true := by simp; omega
    have HOK := need19_ok w (.int .i64 190)
    have hnc : n ≤ cap := by omega
    have i1 : (0 : Int) ≤ (n : Int) := by omega
    have i2 : (n : Int) ≤ (cap : Int) := by omega
    have i3 : (n : Int) ≤ (L : Int) := by omega
    have i4 : (L : Int) ≤ (cap : Int) := by omega
    have HAD : Hid (n < r.length → ∃ b o, a = some ⟨b, o, none⟩) := hid (fun h8 => by
      obtain ⟨ao, co, e9, h9⟩ := HC.out.src
      simp only [Value.slice.injEq] at e9
      obtain ⟨b, o, h1, _⟩ := h9 (fun e => by rw [e] at h8; simp at h8)
      exact ⟨b, o, by rw [e9.1]; exact h1⟩)
    clear ht hL hle hx hy
    by_cases hcn : cap = n
    · obtain rfl : L = n := by omega
      subst hcn
      go_enter Try.func58, Try.ntmps58
      go_wp2_with fail
      refine HOK.mono ?_
      rintro e w1 ⟨rfl, hw1⟩
      subst hw1
      clear HOK
      go_wp2_with fail
      go_ret
      have hlr := HLr.out
      obtain ⟨h1, h2, h3⟩ := HC.out.cut (n := cap) (a' := a) HXY.out.1 (fun h8 => by omega) HC.out.adr (.slice a 0 0) (by rw [← hlr]; simp)
      exact Ta19.good HTK.out rfl (by rw [HXY.out.2.1]; exact h1) (by rw [HXY.out.2.2]; exact h2) h3
    · go_enter Try.func58, Try.ntmps58
      go_wp2_with fail
      refine HOK.mono ?_
      rintro e w1 ⟨rfl, hw1⟩
      subst hw1
      clear HOK
      go_wp2_with fail
      go_ret
      have hlr := HLr.out
      obtain ⟨h1, h2, h3⟩ := HC.out.cut (n := n) (a' := a.map (Addr.add · n)) HXY.out.1 (fun h8 => by obtain ⟨b9, o9, hab⟩ := HAD.out h8; exact ⟨b9, o9, hab, by rw [hab]; simp [addAt]⟩) (fun e => HC.out.adr (by cases h9 : a with | none => rfl | some x => rw [h9] at e; cases e)) (.slice (a.map (Addr.add · n)) (L - n) (cap - n)) (by rw [← hlr])
      exact Ta19.good HTK.out rfl (by rw [HXY.out.2.1]; exact h1) (by rw [HXY.out.2.2]; exact h2) h3

end Go.Proofs.Ytaefgnakdadgeaa
