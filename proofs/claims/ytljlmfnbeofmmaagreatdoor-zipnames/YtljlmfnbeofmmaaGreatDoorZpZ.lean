import Derived.Test.YtljlmfnbeofmmaaGreatDoorZpY
import Derived.Test.YtljlmfnbeofmmaaGreatDoorZpQ
namespace Go.Proofs.YtljlmfnbeofmmaaGreatDoor
open Go.RowKit

theorem fstP_lt (p : Nat → Bool) (n i : Nat) : (fstP p n i < n + i) ↔ ∃ j, i ≤ j ∧ j < n + i ∧ p j = true := by
 induction n generalizing i with
 | zero => simp [fstP]; intro j h1 h2; omega
 | succ n ih =>
  unfold fstP
  by_cases h : p i = true
  ·rw [if_pos h]
   exact ⟨fun _ => ⟨i, Nat.le_refl _, by omega, h⟩, fun _ => by omega⟩
  ·rw [if_neg h, show n + 1 + i = n + (i + 1) by omega, ih (i + 1)]
   constructor
   ·rintro ⟨j, h1, h2, h3⟩; exact ⟨j, by omega, h2, h3⟩
   ·rintro ⟨j, h1, h2, h3⟩
    refine ⟨j, ?_, h2, h3⟩
    rcases Nat.lt_or_ge i j with h4 | h4
    ·omega
    ·exact absurd h3 (by rw [show j = i by omega]; exact h)

def nmsOf (M : Nat → Mk) (len : Nat) : List (List Nat) := (List.range len).map (fun j => (M j).name)

theorem fstP_names (M : Nat → Mk) (len : Nat) (s : List Nat) : decide (0 ≤ ixP (fun i => decide ((M i).name = s)) len) = decide (s ∈ nmsOf M len) := by
 have h := fstP_lt (fun i => decide ((M i).name = s)) len 0
 have h2 : s ∈ nmsOf M len ↔ ∃ j, j < len ∧ (M j).name = s := by simp [nmsOf]
 unfold ixP
 by_cases h3 : fstP (fun i => decide ((M i).name = s)) len 0 < len
 ·rw [if_pos h3]
  obtain ⟨j, _, h5, h6⟩ := h.1 h3
  have : s ∈ nmsOf M len := h2.2 ⟨j, by omega, of_decide_eq_true h6⟩
  simp [this]
 ·rw [if_neg h3]
  have : ¬ s ∈ nmsOf M len := fun h9 => by
   obtain ⟨j, h5, h6⟩ := h2.1 h9
   exact h3 (h.2 ⟨j, Nat.zero_le _, by omega, decide_eq_true h6⟩)
  simp [this]

theorem Tryz.enters138 : ∀ args w, (callFunc 138 args).run Tryz.prog w = .ok (.enter 138 args) w := enters_of Tryz.func138 (by kernel_rfl) rfl

set_option maxHeartbeats 1000000 in
theorem zcontains_any (w : World) (a : Option Addr) (len cap : Nat) (M : Nat → Mk) (V : Nat → Value) (g : Nat) (m : Mk) (hs : Itms w a len M V) (hn : len ≤ 10000000) (hg : LabBk w g m) (hb : ∀ b ∈ m.name, b < 256) (hM : ∀ i, i < len → ∀ b ∈ (M i).name, b < 256) :
  Calls Tryz.prog 139 #[.slice a len cap, .func (.func 138) #[] #[.pointer (some ⟨g, 0, none⟩)]] w fun e w' => e = .returned (.bool (decide (m.name ∈ nmsOf M len))) ∧ Same w w' := by
 have H := zindex_any w a len cap M V 138 g (fun i => decide ((M i).name = m.name)) hs hn Tryz.enters138 (fun i wx hi hk => named_any wx (M i) m (V i) g ((hg.kept hk).cells.2.2.2.2) (hM i hi) hb)
 have HZ := fstP_names M len m.name
 clear hs hg hb hM
 obtain ⟨z, hz⟩ : ∃ z, z = ixP (fun i => decide ((M i).name = m.name)) len := ⟨_, rfl⟩
 rw [← hz] at H HZ
 have HZ : Hid (decide (0 ≤ z) = decide (m.name ∈ nmsOf M len)) := HZ
 clear hz
 go_enter Tryz.func139, Tryz.ntmps139
 go_wp2_with fail
 refine H.mono ?_
 rintro e w2 ⟨rfl, hk⟩
 have HK : Hid (Same w w2) := hk
 clear hk H
 go_wp2_with fail
 go_ret
 exact ⟨by rw [← HZ.out]; rfl, HK.out⟩

def LblA (w w' : World) (n : Nat) (e : Ending) : Prop := (n = 0 → e = .returned (.tuple #[])) ∧ (n ≠ 0 → e = pan8 n) ∧ Same w w'

theorem LblA.ok {w w' : World} {n : Nat} {e : Ending} (h : n = 0) (he : e = .returned (.tuple #[])) (hk : Same w w') : LblA w w' n e := ⟨fun _ => he, fun h9 => absurd h h9, hk⟩

theorem LblA.no {w w' : World} {n k : Nat} {e : Ending} (h : n = k) (hk0 : k ≠ 0) (he : e = pan8 k) (hk : Same w w') : LblA w w' n e := ⟨fun h9 => absurd (h ▸ h9) hk0, fun _ => by rw [h]; exact he, hk⟩

set_option maxRecDepth 100000 in
set_option maxHeartbeats 1000000 in
theorem checkLabel_any (w : World) (m : Mk) (a : Option Addr) (len cap : Nat) (M : Nat → Mk) (V : Nat → Value) (hs : Itms w a len M V) (hn : len ≤ 10000000) (hb : ∀ b ∈ m.name, b < 256) (hM : ∀ i, i < len → ∀ b ∈ (M i).name, b < 256) (hx : Mxl w) :
  Calls Tryz.prog 93 #[.agg (mkZ m), .slice a len cap] w fun e w' => LblA w w' (chk8 m (nmsOf M len)) e := by
 obtain ⟨W1, hW1⟩ : ∃ W, W = w.alloc (.cells #[.int .u16 (m.way : Nat), .int .u32 (m.sum : Nat), .int .u32 (m.packed : Nat), .int .u32 (m.size : Nat), .string (txt m.name)] 60) := ⟨_, rfl⟩
 obtain ⟨mb, hmb⟩ : ∃ b, b = w.heap.size := ⟨_, rfl⟩
 have HK1 : Hid (Same w W1) := hid (by rw [hW1]; exact (Kept.refl _ w).alloc _)
 have HL1 : Hid (LabBk W1 mb m) := hid (by rw [hW1, hmb]; exact Blk.new w _ _)
 have HNM := name_any W1 (txt m.name) (hx.kept HK1.out (fun f => f))
 rw [sb_txt m.name hb] at HNM
 have HCT := fun wx (hk : Same w wx) (hl : LabBk wx mb m) => zcontains_any wx a len cap M V mb m (hs.kept hk) hn hl hb hM
 have HCT : Hid _ := hid HCT
 obtain ⟨N, hN⟩ : ∃ N, N = nmsOf M len := ⟨_, rfl⟩
 rw [← hN] at HCT ⊢
 clear hs hn hb hM hx hN
 unfold mkZ
 go_enter Tryz.func93, Tryz.ntmps93
 go_wp2_with fail
 rw [← hW1, ← hmb]
 clear hW1 hmb
 cases hnb : nam8 m.name with
 | false =>
  rw [hnb] at HNM
  have HE : Hid (chk8 m N = 80) := hid (by unfold chk8; rw [if_pos (.inl hnb)])
  clear hnb
  refine HNM.mono ?_
  rintro e w2 ⟨rfl, hk2⟩
  have HK2 : Hid (Same w w2) := hid (Same.trans HK1.out hk2)
  have HO := need_bad w2 80
  clear hk2 HNM
  go_wp2_with fail
  refine HO.mono ?_
  rintro e w3 ⟨rfl, hw3⟩
  subst hw3
  clear HO
  unfold pan8
  go_wp2_with fail
  exact ⟨rfl, LblA.no HE.out (by decide) rfl HK2.out⟩
 | true =>
  rw [hnb] at HNM
  refine HNM.mono ?_
  rintro e w2 ⟨rfl, hk2⟩
  have HK2 : Hid (Same w w2) := hid (Same.trans HK1.out hk2)
  have HL2 : Hid (LabBk w2 mb m) := hid (HL1.out.kept hk2)
  have HC2 := HCT.out w2 HK2.out HL2.out
  clear hk2 HNM HL1
  by_cases hmem : m.name ∈ N
  ·have HE : Hid (chk8 m N = 80) := hid (by unfold chk8; rw [if_pos (.inr hmem)])
   rw [decide_eq_true hmem] at HC2
   clear hmem hnb
   go_wp2_with fail
   refine HC2.mono ?_
   rintro e w3 ⟨rfl, hk3⟩
   have HK3 : Hid (Same w w3) := hid (Same.trans HK2.out hk3)
   have HO := need_bad w3 80
   clear hk3 HC2
   go_wp2_with fail
   refine HO.mono ?_
   rintro e w4 ⟨rfl, hw4⟩
   subst hw4
   clear HO
   unfold pan8
   go_wp2_with fail
   exact ⟨rfl, LblA.no HE.out (by decide) rfl HK3.out⟩
  ·have HE0 : Hid (¬ (nam8 m.name = false ∨ m.name ∈ N)) := hid (by rw [hnb]; simp [hmem])
   rw [decide_eq_false hmem] at HC2
   clear hmem hnb
   go_wp2_with fail
   refine HC2.mono ?_
   rintro e w3 ⟨rfl, hk3⟩
   have HK3 : Hid (Same w w3) := hid (Same.trans HK2.out hk3)
   obtain ⟨c0, c1, c2, c3, c4⟩ := (HL2.out.kept hk3).cells
   have HO := need_ok w3 (.int .i64 80)
   clear hk3 HC2
   go_wp2_with fail
   refine HO.mono ?_
   rintro e w4 ⟨rfl, hw4⟩
   subst hw4
   clear HO HCT
   have HE1 := HE0.out
   by_cases q0 : m.way = 0 ∨ m.way = 8
   ·have q0n : ¬ (m.way ≠ 0 ∧ m.way ≠ 8) := by omega
    have wb : (((m.way : Int) == 0) || ((m.way : Int) == 8)) = true := by rcases q0 with h | h <;> simp [h]
    rcases q0 with q0 | q0
    ·have w0 : ((m.way : Int) == 0) = true := by simp; omega
     have w8 : ((m.way : Int) == 8) = false := by simp; omega
     clear wb
     have HO := need_ok w4 (.int .i64 82)
     go_wp2_with fail
     refine HO.mono ?_
     rintro e w5 ⟨rfl, hw5⟩
     subst hw5
     clear HO
     by_cases q1 : 8192 < m.size
     ·have HE : Hid (chk8 m N = 87) := hid (by unfold chk8; rw [if_neg HE1, if_neg q0n, if_pos (.inl q1)])
      have s1 : decide ((m.size : Int) ≤ 8192) = false := by simp; omega
      have s1' : decide (m.size ≤ 8192) = false := by simp; omega
      clear q0n HE1
      have HO := need_bad w5 87
      go_wp2_with fail
      refine HO.mono ?_
      rintro e w6 ⟨rfl, hw6⟩
      subst hw6
      clear HO
      unfold pan8
      go_wp2_with fail
      exact ⟨rfl, LblA.no HE.out (by decide) rfl HK3.out⟩
     ·have s1 : decide ((m.size : Int) ≤ 8192) = true := by simp; omega
      have s1' : decide (m.size ≤ 8192) = true := by simp; omega
      by_cases q2 : 16384 < m.packed
      ·have HE : Hid (chk8 m N = 87) := hid (by unfold chk8; rw [if_neg HE1, if_neg q0n, if_pos (.inr q2)])
       have s2 : decide ((m.packed : Int) ≤ 16384) = false := by simp; omega
       have s2' : decide (m.packed ≤ 16384) = false := by simp; omega
       clear q0n HE1
       have HO := need_bad w5 87
       go_wp2_with fail
       refine HO.mono ?_
       rintro e w6 ⟨rfl, hw6⟩
       subst hw6
       clear HO
       unfold pan8
       go_wp2_with fail
       exact ⟨rfl, LblA.no HE.out (by decide) rfl HK3.out⟩
      ·have s2 : decide ((m.packed : Int) ≤ 16384) = true := by simp; omega
       have s2' : decide (m.packed ≤ 16384) = true := by simp; omega
       have q3 : ¬ (8192 < m.size ∨ 16384 < m.packed) := by omega
       have HO := need_ok w5 (.int .i64 87)
       go_wp2_with fail
       refine HO.mono ?_
       rintro e w6 ⟨rfl, hw6⟩
       subst hw6
       clear HO
       by_cases q4 : m.packed = m.size
       ·have HE : Hid (chk8 m N = 0) := hid (by unfold chk8; rw [if_neg HE1, if_neg q0n, if_neg q3, if_neg (fun h => h.2 q4)])
        have s4 : ((m.packed : Int) == (m.size : Int)) = true := by simp; omega
        clear q0n HE1 q3
        have HO := need_ok w6 (.int .i64 81)
        go_wp2_with fail
        refine HO.mono ?_
        rintro e w7 ⟨rfl, hw7⟩
        subst hw7
        clear HO
        go_wp2_with fail
        go_end0
        exact LblA.ok HE.out rfl HK3.out
       ·have HE : Hid (chk8 m N = 81) := hid (by unfold chk8; rw [if_neg HE1, if_neg q0n, if_neg q3, if_pos ⟨by omega, q4⟩])
        have s4 : ((m.packed : Int) == (m.size : Int)) = false := by simp; omega
        clear q0n HE1 q3
        have HO := need_bad w6 81
        go_wp2_with fail
        refine HO.mono ?_
        rintro e w7 ⟨rfl, hw7⟩
        subst hw7
        clear HO
        unfold pan8
        go_wp2_with fail
        exact ⟨rfl, LblA.no HE.out (by decide) rfl HK3.out⟩
    ·have w0 : ((m.way : Int) == 0) = false := by simp; omega
     have w8 : ((m.way : Int) == 8) = true := by simp; omega
     clear wb
     have HO := need_ok w4 (.int .i64 82)
     go_wp2_with fail
     refine HO.mono ?_
     rintro e w5 ⟨rfl, hw5⟩
     subst hw5
     clear HO
     by_cases q1 : 8192 < m.size
     ·have HE : Hid (chk8 m N = 87) := hid (by unfold chk8; rw [if_neg HE1, if_neg q0n, if_pos (.inl q1)])
      have s1 : decide ((m.size : Int) ≤ 8192) = false := by simp; omega
      have s1' : decide (m.size ≤ 8192) = false := by simp; omega
      clear q0n HE1
      have HO := need_bad w5 87
      go_wp2_with fail
      refine HO.mono ?_
      rintro e w6 ⟨rfl, hw6⟩
      subst hw6
      clear HO
      unfold pan8
      go_wp2_with fail
      exact ⟨rfl, LblA.no HE.out (by decide) rfl HK3.out⟩
     ·have s1 : decide ((m.size : Int) ≤ 8192) = true := by simp; omega
      have s1' : decide (m.size ≤ 8192) = true := by simp; omega
      by_cases q2 : 16384 < m.packed
      ·have HE : Hid (chk8 m N = 87) := hid (by unfold chk8; rw [if_neg HE1, if_neg q0n, if_pos (.inr q2)])
       have s2 : decide ((m.packed : Int) ≤ 16384) = false := by simp; omega
       have s2' : decide (m.packed ≤ 16384) = false := by simp; omega
       clear q0n HE1
       have HO := need_bad w5 87
       go_wp2_with fail
       refine HO.mono ?_
       rintro e w6 ⟨rfl, hw6⟩
       subst hw6
       clear HO
       unfold pan8
       go_wp2_with fail
       exact ⟨rfl, LblA.no HE.out (by decide) rfl HK3.out⟩
      ·have s2 : decide ((m.packed : Int) ≤ 16384) = true := by simp; omega
       have s2' : decide (m.packed ≤ 16384) = true := by simp; omega
       have q3 : ¬ (8192 < m.size ∨ 16384 < m.packed) := by omega
       have HO := need_ok w5 (.int .i64 87)
       go_wp2_with fail
       refine HO.mono ?_
       rintro e w6 ⟨rfl, hw6⟩
       subst hw6
       clear HO
       have HE : Hid (chk8 m N = 0) := hid (by unfold chk8; rw [if_neg HE1, if_neg q0n, if_neg q3, if_neg (fun h => h.1 q0)])
       clear q0n HE1 q3
       have HO := need_ok w6 (.int .i64 81)
       go_wp2_with fail
       refine HO.mono ?_
       rintro e w7 ⟨rfl, hw7⟩
       subst hw7
       clear HO
       go_wp2_with fail
       go_end0
       exact LblA.ok HE.out rfl HK3.out
   ·have HE : Hid (chk8 m N = 82) := hid (by unfold chk8; rw [if_neg HE1, if_pos (by omega)])
    have w0 : ((m.way : Int) == 0) = false := by simp; omega
    have w8 : ((m.way : Int) == 8) = false := by simp; omega
    clear HE1
    have HO := need_bad w4 82
    go_wp2_with fail
    refine HO.mono ?_
    rintro e w5 ⟨rfl, hw5⟩
    subst hw5
    clear HO
    unfold pan8
    go_wp2_with fail
    exact ⟨rfl, LblA.no HE.out (by decide) rfl HK3.out⟩

end Go.Proofs.YtljlmfnbeofmmaaGreatDoor
