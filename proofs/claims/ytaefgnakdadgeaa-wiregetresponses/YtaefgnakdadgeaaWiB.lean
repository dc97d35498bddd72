/-
  The program's layer 19: a cursor's numbers, and its end.
-/
import Derived.Test.YtaefgnakdadgeaaWiA
namespace Go.Proofs.Ytaefgnakdadgeaa
open Go.RowKit

theorem below_same19 {w w' : World} (h : Below w.heap.size w w') : Same w w' := ⟨h.os, h.tape, h.output, h.size, fun k hk _ => h.block k hk⟩

/-- What a call that reads a number answers. -/
def Nu19 (N : Nat) (w w' : World) (c n : Nat) (k : IntKind) (r : List Nat) (e : Ending) : Prop :=
  (∀ x y, nm8 n r = some (x, y) → ∃ a' cap', e = .returned (.int k (x : Nat)) ∧ x < 256 ^ n ∧ Cu19 N w' c y a' cap' ∧ Kept (· = c) w w') ∧ (nm8 n r = none → e = pan19 190 ∧ Same w w')

theorem Nu19.good {N : Nat} {w w' : World} {c n x : Nat} {k : IntKind} {r y : List Nat} {e : Ending} (ht : nm8 n r = some (x, y)) {a' : Option Addr} {cap' : Nat} (he : e = .returned (.int k (x : Nat))) (h1 : x < 256 ^ n) (h2 : Cu19 N w' c y a' cap') (h3 : Kept (· = c) w w') : Nu19 N w w' c n k r e :=
  ⟨fun x' y' h => by rw [ht] at h; simp only [Option.some.injEq, Prod.mk.injEq] at h; obtain ⟨rfl, rfl⟩ := h; exact ⟨a', cap', he, h1, h2, h3⟩, fun h => by rw [ht] at h; cases h⟩

theorem Nu19.bad {N : Nat} {w w' : World} {c n : Nat} {k : IntKind} {r : List Nat} {e : Ending} (ht : nm8 n r = none) (he : e = pan19 190) (h3 : Same w w') : Nu19 N w w' c n k r e :=
  ⟨fun x' y' h => (by rw [ht] at h; cases h), fun _ => ⟨he, h3⟩⟩

theorem nm19_of {n : Nat} {r x y : List Nat} (h : tk8 n r = some (x, y)) : nm8 n r = some (n256 x, y) := by unfold nm8; rw [h]
theorem nm19_no {n : Nat} {r : List Nat} (h : tk8 n r = none) : nm8 n r = none := by unfold nm8; rw [h]

theorem gotV_all19 (x : List Nat) (n : Nat) (h : x.length = n) : gotV x 0 n = n256 x := by
  unfold gotV bytN
  rw [if_pos (by omega)]
  simp only [Int.toNat_zero, List.drop_zero]
  rw [List.take_of_length_le (by omega)]

set_option maxRecDepth 100000 in
set_option maxHeartbeats 400000 in
theorem two19_any (N : Nat) (w : World) (c : Nat) (r : List Nat) (a : Option Addr) (cap : Nat) (h : Cu19 N w c r a cap) :
    Calls Try.prog 55 #[.pointer (some ⟨c, 0, none⟩)] w fun e w' => Nu19 N w w' c 2 .i64 r e := by
  have HT := take19_any N w c r a cap 2 h (by decide)
  have HN : Hid (N ≤ c) := hid h.new
  cases ht : tk8 2 r with
  | none =>
    have HB : Hid (tk8 2 r = none) := ht
    clear h ht
    go_enter Try.func55, Try.ntmps55
    go_wp2_with fail
    refine HT.mono ?_
    intro e w1 h1
    obtain ⟨rfl, hk⟩ := h1.2 HB.out
    have HK : Hid (Same w w1) := hk
    clear h1 hk HT
    unfold pan19
    go_wp2_with fail
    exact ⟨rfl, Nu19.bad (nm19_no HB.out) rfl HK.out⟩
  | some p =>
    obtain ⟨x, y⟩ := p
    have HB : Hid (tk8 2 r = some (x, y)) := ht
    clear h ht
    go_enter Try.func55, Try.ntmps55
    go_wp2_with fail
    refine HT.mono ?_
    intro e w1 h1
    obtain ⟨v, a', cap', rfl, htk, hcu, hk⟩ := h1.1 x y HB.out
    have HTK : Hid (Tk19 N w1 v 2 x) := htk
    have HCU : Hid (Cu19 N w1 c y a' cap') := hcu
    have HK : Hid (Kept (· = c) w w1) := hk
    have HG := get16_any w1 v _ x htk.src htk.room htk.byte (by rw [htk.len]; decide) 0
    rw [gotV_all19 x 2 htk.len] at HG
    obtain ⟨V, hV⟩ : ∃ V, V = n256 x := ⟨_, rfl⟩
    have HV : Hid (V = n256 x ∧ V < 256 ^ 2) := hid ⟨hV, by rw [hV, ← htk.len]; exact n256_lt x htk.byte⟩
    rw [← hV] at HG
    obtain ⟨E, hE⟩ : ∃ E, E = gotE x.length 0 2 := ⟨_, rfl⟩
    rw [← hE] at HG
    obtain ⟨va, vc, hvs⟩ := htk.shp
    subst hvs
    clear h1 htk hcu hk HT hV hE
    have hvw : IntKind.i64.wrap (V : Int) = (V : Int) := by have := HV.out.2; rw [IntKind.wrap_i64]; omega
    go_wp2_with fail
    refine HG.mono ?_
    rintro e w2 ⟨rfl, hb2⟩
    have HK2 : Hid (Same w1 w2) := hid (below_same19 hb2)
    clear hb2 HG
    go_wp2_with fail
    go_ret
    exact Nu19.good (nm19_of HB.out) (by rw [← HV.out.1]; rfl) (by rw [← HV.out.1]; exact HV.out.2) (HCU.out.kept HK2.out (fun f => f) (fun _ _ f => f)) (Kept.trans HK.out HK2.out (fun _ _ e => e) (fun _ _ f => f.elim))

set_option maxRecDepth 100000 in
set_option maxHeartbeats 400000 in
theorem four19_any (N : Nat) (w : World) (c : Nat) (r : List Nat) (a : Option Addr) (cap : Nat) (h : Cu19 N w c r a cap) :
    Calls Try.prog 85 #[.pointer (some ⟨c, 0, none⟩)] w fun e w' => Nu19 N w w' c 4 .u32 r e := by
  have HT := take19_any N w c r a cap 4 h (by decide)
  have HN : Hid (N ≤ c) := hid h.new
  cases ht : tk8 4 r with
  | none =>
    have HB : Hid (tk8 4 r = none) := ht
    clear h ht
    go_enter Try.func85, Try.ntmps85
    go_wp2_with fail
    refine HT.mono ?_
    intro e w1 h1
    obtain ⟨rfl, hk⟩ := h1.2 HB.out
    have HK : Hid (Same w w1) := hk
    clear h1 hk HT
    unfold pan19
    go_wp2_with fail
    exact ⟨rfl, Nu19.bad (nm19_no HB.out) rfl HK.out⟩
  | some p =>
    obtain ⟨x, y⟩ := p
    have HB : Hid (tk8 4 r = some (x, y)) := ht
    clear h ht
    go_enter Try.func85, Try.ntmps85
    go_wp2_with fail
    refine HT.mono ?_
    intro e w1 h1
    obtain ⟨v, a', cap', rfl, htk, hcu, hk⟩ := h1.1 x y HB.out
    have HTK : Hid (Tk19 N w1 v 4 x) := htk
    have HCU : Hid (Cu19 N w1 c y a' cap') := hcu
    have HK : Hid (Kept (· = c) w w1) := hk
    have HG := get32_any w1 v _ x htk.src htk.room htk.byte (by rw [htk.len]; decide) 0
    rw [gotV_all19 x 4 htk.len] at HG
    obtain ⟨V, hV⟩ : ∃ V, V = n256 x := ⟨_, rfl⟩
    have HV : Hid (V = n256 x ∧ V < 256 ^ 4) := hid ⟨hV, by rw [hV, ← htk.len]; exact n256_lt x htk.byte⟩
    rw [← hV] at HG
    obtain ⟨E, hE⟩ : ∃ E, E = gotE x.length 0 4 := ⟨_, rfl⟩
    rw [← hE] at HG
    obtain ⟨va, vc, hvs⟩ := htk.shp
    subst hvs
    clear h1 htk hcu hk HT hV hE
    go_wp2_with fail
    refine HG.mono ?_
    rintro e w2 ⟨rfl, hb2⟩
    have HK2 : Hid (Same w1 w2) := hid (below_same19 hb2)
    clear hb2 HG
    go_wp2_with fail
    go_ret
    exact Nu19.good (nm19_of HB.out) (by rw [← HV.out.1]; rfl) (by rw [← HV.out.1]; exact HV.out.2) (HCU.out.kept HK2.out (fun f => f) (fun _ _ f => f)) (Kept.trans HK.out HK2.out (fun _ _ e => e) (fun _ _ f => f.elim))

/-- The whole of four bytes is small. -/
theorem Src.head19z {w : World} {I : Nat → Prop} {a : Option Addr} {n c : Nat} {x : List Nat} (h : Src w I (.slice a n c) x) (hn : 0 < x.length) : ∃ b o, a = some ⟨b, o, none⟩ ∧ w.cell? ⟨b, o, none⟩ = some (.int .u8 (x[0] : Nat)) := by
  obtain ⟨ao, cap, e, hs⟩ := h
  simp only [Value.slice.injEq] at e
  obtain ⟨rfl, _, rfl⟩ := e
  obtain ⟨b, o, h1, _, h3⟩ := hs (fun e => by rw [e] at hn; simp at hn)
  exact ⟨b, o, h1, by have := h3 0 hn; simpa using this⟩

set_option maxRecDepth 100000 in
set_option maxHeartbeats 400000 in
theorem one19_any (N : Nat) (w : World) (c : Nat) (r : List Nat) (a : Option Addr) (cap : Nat) (h : Cu19 N w c r a cap) :
    Calls Try.prog 48 #[.pointer (some ⟨c, 0, none⟩)] w fun e w' => Nu19 N w w' c 1 .i64 r e := by
  have HT := take19_any N w c r a cap 1 h (by decide)
  cases ht : tk8 1 r with
  | none =>
    have HB : Hid (tk8 1 r = none) := ht
    clear h ht
    go_enter Try.func48, Try.ntmps48
    go_wp2_with fail
    refine HT.mono ?_
    intro e w1 h1
    obtain ⟨rfl, hk⟩ := h1.2 HB.out
    have HK : Hid (Same w w1) := hk
    clear h1 hk HT
    unfold pan19
    go_wp2_with fail
    exact ⟨rfl, Nu19.bad (nm19_no HB.out) rfl HK.out⟩
  | some p =>
    obtain ⟨x, y⟩ := p
    have HB : Hid (tk8 1 r = some (x, y)) := ht
    clear h ht
    go_enter Try.func48, Try.ntmps48
    go_wp2_with fail
    refine HT.mono ?_
    intro e w1 h1
    obtain ⟨v, a', cap', rfl, htk, hcu, hk⟩ := h1.1 x y HB.out
    have HCU : Hid (Cu19 N w1 c y a' cap') := hcu
    have HK : Hid (Kept (· = c) w w1) := hk
    have hx1 := htk.len
    obtain ⟨va, vc, hvs⟩ := htk.shp
    have hroom := htk.room va 1 vc hvs
    have hsrc := htk.src
    rw [hvs] at hsrc
    obtain ⟨b, o, hva, c0⟩ := hsrc.head19z (by omega)
    obtain ⟨X, hX⟩ : ∃ X, X = x[0]'(by omega) := ⟨_, rfl⟩
    rw [← hX] at c0
    have HX : Hid (n256 x = X ∧ X < 256) := hid (by
      have hb := htk.byte X (by rw [hX]; exact List.getElem_mem _)
      refine ⟨?_, hb⟩
      match x, hx1, hX with
      | [z], _, hX => simp only [List.getElem_cons_zero] at hX; rw [hX]; simp [n256])
    subst hvs hva
    have hvw : IntKind.i64.wrap (X : Int) = (X : Int) := by have := HX.out.2; rw [IntKind.wrap_i64]; omega
    clear h1 htk hcu hk HT hX hx1 hsrc
    go_wp2_with fail
    go_ret
    exact Nu19.good (nm19_of HB.out) (by rw [HX.out.1]; rfl) (by rw [HX.out.1]; exact HX.out.2) HCU.out HK.out

/-- Of a cursor that has nothing (it may be nil) nothing is taken. -/
theorem take19_none (w : World) (c : Nat) (a : Option Addr) (cap n : Nat) (hB : Blk w c #[.slice a 0 cap] 89) (hn : 0 < n) (hn2 : n ≤ 2000000) :
    Calls Try.prog 58 #[.pointer (some ⟨c, 0, none⟩), .int .i64 (n : Nat)] w fun e w' => e = pan19 190 ∧ Same w w' := by
  have c0 := hB.cell 0
  have z0 := hB.frozen 0
  simp at c0
  have b2 : decide (n ≤ 0) = false := by simp; omega
  have b3 : decide ((n : Int) ≤ 0) = false := by simp; omega
  have b4 : decide (n = 0) = false := by simp; omega
  have HB := need19_bad w 190
  clear hn hB
  go_enter Try.func58, Try.ntmps58
  go_wp2_with fail
  refine HB.mono ?_
  rintro e w1 ⟨rfl, hw1⟩
  subst hw1
  unfold pan19
  go_wp2_with fail
  exact ⟨rfl, rfl, Kept.refl _ _⟩

set_option maxHeartbeats 400000 in
theorem one19_none (w : World) (c : Nat) (a : Option Addr) (cap : Nat) (hB : Blk w c #[.slice a 0 cap] 89) :
    Calls Try.prog 48 #[.pointer (some ⟨c, 0, none⟩)] w fun e w' => e = pan19 190 ∧ Same w w' := by
  have HT := take19_none w c a cap 1 hB (by decide) (by decide)
  clear hB
  go_enter Try.func48, Try.ntmps48
  go_wp2_with fail
  refine HT.mono ?_
  rintro e w1 ⟨rfl, hk⟩
  have HK := hid hk
  clear hk HT
  unfold pan19
  go_wp2_with fail
  exact ⟨rfl, rfl, HK.out⟩

set_option maxHeartbeats 400000 in
theorem two19_none (w : World) (c : Nat) (a : Option Addr) (cap : Nat) (hB : Blk w c #[.slice a 0 cap] 89) :
    Calls Try.prog 55 #[.pointer (some ⟨c, 0, none⟩)] w fun e w' => e = pan19 190 ∧ Same w w' := by
  have HT := take19_none w c a cap 2 hB (by decide) (by decide)
  clear hB
  go_enter Try.func55, Try.ntmps55
  go_wp2_with fail
  refine HT.mono ?_
  rintro e w1 ⟨rfl, hk⟩
  have HK := hid hk
  clear hk HT
  unfold pan19
  go_wp2_with fail
  exact ⟨rfl, rfl, HK.out⟩

set_option maxHeartbeats 400000 in
theorem end19_any (N : Nat) (w : World) (c : Nat) (r : List Nat) (a : Option Addr) (cap : Nat) (h : Cu19 N w c r a cap) :
    Calls Try.prog 51 #[.pointer (some ⟨c, 0, none⟩)] w fun e w' => (r = [] → e = .returned (.tuple #[])) ∧ (r ≠ [] → e = pan19 190) ∧ Same w w' := by
  have c0 := h.blk.cell 0
  have z0 := h.blk.frozen 0
  simp at c0
  cases r with
  | nil =>
    have HO := need19_ok w (.int .i64 190)
    clear h
    go_enter Try.func51, Try.ntmps51
    go_wp2_with fail
    refine HO.mono ?_
    rintro e w1 ⟨rfl, hw1⟩
    subst hw1
    clear HO
    go_wp2_with fail
    go_end0
    exact ⟨fun _ => rfl, fun h => absurd rfl h, Kept.refl _ _⟩
  | cons b t =>
    have HB := need19_bad w 190
    obtain ⟨n, hn⟩ : ∃ n, n = (b :: t).length := ⟨_, rfl⟩
    have h1 : ((n : Int) == 0) = false := by rw [hn]; simp; omega
    have h2 : (n == 0) = false := by rw [hn]; simp
    have h3 : decide (n = 0) = false := by rw [hn]; simp
    rw [← hn] at c0
    clear h hn
    go_enter Try.func51, Try.ntmps51
    go_wp2_with fail
    refine HB.mono ?_
    rintro e w1 ⟨rfl, hw1⟩
    subst hw1
    clear HB
    unfold pan19
    go_wp2_with fail
    exact ⟨rfl, fun h => (by cases h), fun _ => rfl, Kept.refl _ _⟩

end Go.Proofs.Ytaefgnakdadgeaa
