import Derived.Test.YtljlmfnbeofmmaaGreatDoorZpI
namespace Go.Proofs.YtljlmfnbeofmmaaGreatDoor
open Go.RowKit

structure En where
 n : ByteArray
 d : ByteArray

instance : Inhabited En := ⟨⟨⟨#[]⟩, ⟨#[]⟩⟩⟩

def Ents (w : World) (I : Nat → Prop) (a : Option Addr) (len : Nat) (E : Nat → En) : Prop :=
 ∀ j, j < len → ∃ b o, a = some ⟨b, o, none⟩ ∧ I b ∧ w.cell? ⟨b, o + j * 2, none⟩ = some (.string (E j).n) ∧ w.cell? ⟨b, o + j * 2 + 1, none⟩ = some (.string (E j).d)

theorem Ents.kept {F I : Nat → Prop} {w w' : World} {a : Option Addr} {len : Nat} {E : Nat → En} (h : Ents w I a len E) (hk : Kept F w w') (hF : ∀ b, I b → ¬ F b) : Ents w' I a len E := by
 intro j hj
 obtain ⟨b, o, h1, h2, h3, h4⟩ := h j hj
 exact ⟨b, o, h1, h2, hk.cell h3 (hF b h2), hk.cell h4 (hF b h2)⟩

theorem str_beq (s t : ByteArray) : (s.toList == t.toList) = decide (s = t) := by
 rw [Lib.toList_data, Lib.toList_data]
 by_cases h : s = t
 ·subst h; simp
 ·simp only [h, decide_false]
  refine beq_eq_false_iff_ne.2 (fun e => h ?_)
  cases s
  cases t
  simp only at e
  rw [Array.toList_inj] at e
  rw [e]

set_option maxHeartbeats 400000 in
theorem enamed_any (w : World) (y : En) (s : ByteArray) (g : Nat) (hg : w.cell? ⟨g, 0, none⟩ = some (.string s)) :
  Calls Tryz.prog 72 #[.agg #[.string y.n, .string y.d], .pointer (some ⟨g, 0, none⟩)] w fun e w' => e = .returned (.bool (decide (y.n = s))) ∧ Same w w' := by
 have hg9 : ∀ o, (w.alloc o).cell? ⟨g, 0, none⟩ = some (.string s) := fun o => (show Same w (w.alloc o) from (Kept.refl _ w).alloc o).cell hg (fun f => f)
 have hq := str_beq y.n s
 obtain ⟨B, hB⟩ : ∃ B, B = decide (y.n = s) := ⟨_, rfl⟩
 rw [← hB] at hq ⊢
 clear hB
 go_enter Tryz.func72, Tryz.ntmps72
 go_wp2_with fail
 go_ret
 exact ⟨rfl, (Kept.refl _ w).alloc _⟩

abbrev enamedV (g : Nat) : Value := .func (.func 72) #[] #[.pointer (some ⟨g, 0, none⟩)]

def anyN (E : Nat → En) (s : ByteArray) : Nat → Bool
 | 0 => false
 | n + 1 => anyN E s n || decide ((E n).n = s)

theorem anyN_at {E : Nat → En} {s : ByteArray} {n i : Nat} (hi : i < n) (h : (E i).n = s) : anyN E s n = true := by
 induction n with
 | zero => omega
 | succ n ih =>
  unfold anyN
  by_cases e : i < n
  ·rw [ih e]; rfl
  ·obtain rfl : i = n := by omega
   simp [h]

set_option maxRecDepth 100000 in
set_option maxHeartbeats 1000000 in
theorem eindex_any (w : World) (a : Option Addr) (len cap : Nat) (E : Nat → En) (s : ByteArray) (g : Nat) (I : Nat → Prop) (hs : Ents w I a len E) (hg : w.cell? ⟨g, 0, none⟩ = some (.string s)) (hn : len ≤ 10000000) :
  Calls Tryz.prog 108 #[.slice a len cap, enamedV g] w fun e w' => (∃ z : Int, e = .returned (.int .i64 z) ∧ decide (0 ≤ z) = anyN E s len) ∧ Same w w' := by
 have HS : Hid (Ents w I a len E) := hs
 have HG : Hid (w.cell? ⟨g, 0, none⟩ = some (.string s)) := hg
 clear hs hg
 go_enter Tryz.func108, Tryz.ntmps108
 go_wp2_with fail
 go_loopg [8] len (fun k z wr => ∃ i : Nat, len - i ≤ k ∧ i ≤ len ∧ z = .int .i64 (i : Nat) ∧ Hid (anyN E s i = false) ∧ Hid (Same w wr))
 case atStart => exact ⟨0, by omega, by omega, rfl, hid rfl, hid (Kept.refl _ _)⟩
 case round =>
  obtain ⟨i, hk, hil, rfl, HF, HK⟩ := hrel
  by_cases hlt : i < len
  ·have hli : decide (i < len) = true := by simp; omega
   obtain ⟨b, o, ha, _, hc0, hc1⟩ := HS.out i hlt
   subst ha
   have hc0 := HK.out.cell hc0 (fun f => f)
   have hc1 := HK.out.cell hc1 (fun f => f)
   obtain ⟨y, hy⟩ : ∃ y, y = E i := ⟨_, rfl⟩
   rw [← hy] at hc0 hc1
   have HY : Hid (y = E i) := hy
   have HC := enamed_any wr y s g (HK.out.cell HG.out (fun f => f))
   have hiw : IntKind.i64.wrap ((i : Int) + 1) = ((i + 1 : Nat) : Int) := by rw [IntKind.wrap_i64]; omega
   clear hy
   cases hb : decide (y.n = s) with
   | true =>
    rw [hb] at HC
    have HB : Hid (y.n = s) := hid (of_decide_eq_true hb)
    clear hb
    go_wp2_with fail
    refine HC.mono ?_
    rintro e w2 ⟨rfl, hk2⟩
    have HK2 : Hid (Same w w2) := hid (Same.trans HK.out hk2)
    clear hk2 HC
    go_wp2_with fail
    go_ret
    refine ⟨⟨_, rfl, ?_⟩, HK2.out⟩
    rw [anyN_at hlt (by rw [← HY.out]; exact HB.out)]
    simp
   | false =>
    rw [hb] at HC
    have HB : Hid (decide (y.n = s) = false) := hb
    clear hb
    go_wp2_with fail
    refine HC.mono ?_
    rintro e w2 ⟨rfl, hk2⟩
    have HK2 : Hid (Same w w2) := hid (Same.trans HK.out hk2)
    clear hk2 HC
    go_wp2_with fail
    go_roundg (gk - 1)
    case measure => omega
    case rel => exact ⟨i + 1, by omega, by omega, by go_num, hid (by unfold anyN; rw [HF.out, ← HY.out, HB.out]; rfl), HK2⟩
  ·have hli : decide (i < len) = false := by simp; omega
   obtain rfl : i = len := by omega
   go_wp2_with fail
   go_ret
   refine ⟨⟨_, rfl, ?_⟩, HK.out⟩
   rw [HF.out]
   simp

set_option maxHeartbeats 1000000 in
theorem econtains_any (w : World) (a : Option Addr) (len cap : Nat) (E : Nat → En) (s : ByteArray) (g : Nat) (I : Nat → Prop) (hs : Ents w I a len E) (hg : w.cell? ⟨g, 0, none⟩ = some (.string s)) (hn : len ≤ 10000000) :
  Calls Tryz.prog 71 #[.slice a len cap, enamedV g] w fun e w' => e = .returned (.bool (anyN E s len)) ∧ Same w w' := by
 have H := eindex_any w a len cap E s g I hs hg hn
 clear hs hg
 go_enter Tryz.func71, Tryz.ntmps71
 go_wp2_with fail
 refine H.mono ?_
 rintro e w2 ⟨⟨z, rfl, hz⟩, hk⟩
 have HZ : Hid (decide (0 ≤ z) = anyN E s len) := hz
 have HK : Hid (Same w w2) := hk
 clear hz hk H
 go_wp2_with fail
 go_ret
 exact ⟨by rw [← HZ.out]; rfl, HK.out⟩

end Go.Proofs.YtljlmfnbeofmmaaGreatDoor
