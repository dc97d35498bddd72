import Derived.Test.YtljlmfnbeofmmaaGreatDoorZpA
namespace Go.Proofs.YtljlmfnbeofmmaaGreatDoor
open Go.RowKit

theorem below_same {w w' : World} (h : Below w.heap.size w w') : Same w w' := ⟨h.os, h.tape, h.output, h.size, fun k hk _ => h.block k hk⟩

def NumZ (N : Nat) (w w' : World) (c n : Nat) (k : IntKind) (r : List Nat) (e : Ending) : Prop :=
 (∀ x y, nm8 n r = some (x, y) → ∃ a' cap', e = .returned (.int k (x : Nat)) ∧ x < 256 ^ n ∧ Cur N w' c y a' cap' ∧ Kept (· = c) w w') ∧ (nm8 n r = none → e = pan8 81 ∧ Same w w')

theorem NumZ.good {N : Nat} {w w' : World} {c n x : Nat} {k : IntKind} {r y : List Nat} {e : Ending} (ht : nm8 n r = some (x, y)) {a' : Option Addr} {cap' : Nat} (he : e = .returned (.int k (x : Nat))) (h1 : x < 256 ^ n) (h2 : Cur N w' c y a' cap') (h3 : Kept (· = c) w w') : NumZ N w w' c n k r e :=
 ⟨fun x' y' h => by rw [ht] at h; simp only [Option.some.injEq, Prod.mk.injEq] at h; obtain ⟨rfl, rfl⟩ := h; exact ⟨a', cap', he, h1, h2, h3⟩, fun h => by rw [ht] at h; cases h⟩

theorem NumZ.bad {N : Nat} {w w' : World} {c n : Nat} {k : IntKind} {r : List Nat} {e : Ending} (ht : nm8 n r = none) (he : e = pan8 81) (h3 : Same w w') : NumZ N w w' c n k r e :=
 ⟨fun x' y' h => (by rw [ht] at h; cases h), fun _ => ⟨he, h3⟩⟩

theorem nm8_of {n : Nat} {r x y : List Nat} (h : tk8 n r = some (x, y)) : nm8 n r = some (n256 x, y) := by unfold nm8; rw [h]
theorem nm8_no {n : Nat} {r : List Nat} (h : tk8 n r = none) : nm8 n r = none := by unfold nm8; rw [h]

theorem gotV_all (x : List Nat) (n : Nat) (h : x.length = n) : gotV x 0 n = n256 x := by
 unfold gotV bytN
 rw [if_pos (by omega)]
 simp only [Int.toNat_zero, List.drop_zero]
 rw [List.take_of_length_le (by omega)]

set_option maxRecDepth 100000 in
set_option maxHeartbeats 400000 in
theorem two_any (N : Nat) (w : World) (c : Nat) (r : List Nat) (a : Option Addr) (cap : Nat) (h : Cur N w c r a cap) :
  Calls Tryz.prog 134 #[.pointer (some ⟨c, 0, none⟩)] w fun e w' => NumZ N w w' c 2 .u16 r e := by
 have HT := take_any N w c r a cap 2 h (by decide)
 have HN : Hid (N ≤ c) := hid h.new
 cases ht : tk8 2 r with
 | none =>
  have HB : Hid (tk8 2 r = none) := ht
  clear h ht
  go_enter Tryz.func134, Tryz.ntmps134
  go_wp2_with fail
  refine HT.mono ?_
  intro e w1 h1
  obtain ⟨rfl, hk⟩ := h1.2 HB.out
  have HK : Hid (Same w w1) := hk
  clear h1 hk HT
  unfold pan8
  go_wp2_with fail
  exact ⟨rfl, NumZ.bad (nm8_no HB.out) rfl HK.out⟩
 | some p =>
  obtain ⟨x, y⟩ := p
  have HB : Hid (tk8 2 r = some (x, y)) := ht
  clear h ht
  go_enter Tryz.func134, Tryz.ntmps134
  go_wp2_with fail
  refine HT.mono ?_
  intro e w1 h1
  obtain ⟨v, a', cap', rfl, htk, hcu, hk⟩ := h1.1 x y HB.out
  have HTK : Hid (Tkn N w1 v 2 x) := htk
  have HCU : Hid (Cur N w1 c y a' cap') := hcu
  have HK : Hid (Kept (· = c) w w1) := hk
  have HG := get16_any w1 v _ x htk.src htk.room htk.byte (by rw [htk.len]; decide) 0
  rw [gotV_all x 2 htk.len] at HG
  obtain ⟨V, hV⟩ : ∃ V, V = n256 x := ⟨_, rfl⟩
  have HV : Hid (V = n256 x ∧ V < 256 ^ 2) := hid ⟨hV, by rw [hV, ← htk.len]; exact n256_lt x htk.byte⟩
  rw [← hV] at HG
  obtain ⟨E, hE⟩ : ∃ E, E = gotE x.length 0 2 := ⟨_, rfl⟩
  rw [← hE] at HG
  obtain ⟨va, vc, hvs⟩ := htk.shp
  subst hvs
  clear h1 htk hcu hk HT hV hE
  go_wp2_with fail
  refine HG.mono ?_
  rintro e w2 ⟨rfl, hb2⟩
  have HK2 : Hid (Same w1 w2) := hid (below_same hb2)
  clear hb2 HG
  go_wp2_with fail
  go_ret
  exact NumZ.good (nm8_of HB.out) (by rw [← HV.out.1]; rfl) (by rw [← HV.out.1]; exact HV.out.2) (HCU.out.kept HK2.out (fun f => f) (fun _ _ f => f)) (Kept.trans HK.out HK2.out (fun _ _ e => e) (fun _ _ f => f.elim))

set_option maxRecDepth 100000 in
set_option maxHeartbeats 400000 in
theorem four_any (N : Nat) (w : World) (c : Nat) (r : List Nat) (a : Option Addr) (cap : Nat) (h : Cur N w c r a cap) :
  Calls Tryz.prog 135 #[.pointer (some ⟨c, 0, none⟩)] w fun e w' => NumZ N w w' c 4 .u32 r e := by
 have HT := take_any N w c r a cap 4 h (by decide)
 have HN : Hid (N ≤ c) := hid h.new
 cases ht : tk8 4 r with
 | none =>
  have HB : Hid (tk8 4 r = none) := ht
  clear h ht
  go_enter Tryz.func135, Tryz.ntmps135
  go_wp2_with fail
  refine HT.mono ?_
  intro e w1 h1
  obtain ⟨rfl, hk⟩ := h1.2 HB.out
  have HK : Hid (Same w w1) := hk
  clear h1 hk HT
  unfold pan8
  go_wp2_with fail
  exact ⟨rfl, NumZ.bad (nm8_no HB.out) rfl HK.out⟩
 | some p =>
  obtain ⟨x, y⟩ := p
  have HB : Hid (tk8 4 r = some (x, y)) := ht
  clear h ht
  go_enter Tryz.func135, Tryz.ntmps135
  go_wp2_with fail
  refine HT.mono ?_
  intro e w1 h1
  obtain ⟨v, a', cap', rfl, htk, hcu, hk⟩ := h1.1 x y HB.out
  have HTK : Hid (Tkn N w1 v 4 x) := htk
  have HCU : Hid (Cur N w1 c y a' cap') := hcu
  have HK : Hid (Kept (· = c) w w1) := hk
  have HG := get32_any w1 v _ x htk.src htk.room htk.byte (by rw [htk.len]; decide) 0
  rw [gotV_all x 4 htk.len] at HG
  obtain ⟨V, hV⟩ : ∃ V, V = n256 x := ⟨_, rfl⟩
  have HV : Hid (V = n256 x ∧ V < 256 ^ 4) := hid ⟨hV, by rw [hV, ← htk.len]; exact n256_lt x htk.byte⟩
  rw [← hV] at HG
  obtain ⟨E, hE⟩ : ∃ E, E = gotE x.length 0 4 := ⟨_, rfl⟩
  rw [← hE] at HG
  obtain ⟨va, vc, hvs⟩ := htk.shp
  subst hvs
  clear h1 htk hcu hk HT hV hE
  go_wp2_with fail
  refine HG.mono ?_
  rintro e w2 ⟨rfl, hb2⟩
  have HK2 : Hid (Same w1 w2) := hid (below_same hb2)
  clear hb2 HG
  go_wp2_with fail
  go_ret
  exact NumZ.good (nm8_of HB.out) (by rw [← HV.out.1]; rfl) (by rw [← HV.out.1]; exact HV.out.2) (HCU.out.kept HK2.out (fun f => f) (fun _ _ f => f)) (Kept.trans HK.out HK2.out (fun _ _ e => e) (fun _ _ f => f.elim))

end Go.Proofs.YtljlmfnbeofmmaaGreatDoor
