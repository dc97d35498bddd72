/-
  Of the proof: parts Cln.
-/
import Derived.Lib.SliceRun
import Derived.Test.YtljlmfnbeofmmaaGreatDoorJ3

namespace Go.Proofs.YtljlmfnbeofmmaaGreatDoor
open Go.RowKit
theorem row_none (w : World) : Row (w.alloc (.cells #[] 5)) (.slice (some ⟨w.heap.size, 0, none⟩) 0 0) [] :=
 ⟨rfl, .inr ⟨w.heap.size, 0, #[], rfl, Nat.zero_le _, Blk.new w #[] _, Nat.le_refl _, Nat.zero_le _, rfl, rfl⟩⟩

set_option maxRecDepth 100000 in
set_option maxHeartbeats 1000000 in
theorem pclone_any (w : World) (v : Value) (I : Nat → Prop) (cs : List Nat) (hs : Src w I v cs) (hn : cs.length ≤ 2000000) :
  Calls Tryz.prog 111 #[v] w fun e w' => ∃ v', e = .returned v' ∧ Fresh w w' v' cs := by
 obtain ⟨ao, cap, rfl, hc⟩ := id hs
 have q22 : ∀ (w : World) (a : Option Addr) (n c n' c' : Nat), (binOp .eql 26 (.slice a n c) (.slice none n' c')).run Tryz.prog w = .ok (.bool a.isNone) w := fun w a n c n' c' => Lib.run_eql_slice_nil w _ _ a n c n' c' Tryz.underlying26
 cases ao with
 | none =>
  have e0 : cs = [] := Classical.byContradiction (fun h => by obtain ⟨_, _, e, _⟩ := hc h; cases e)
  subst e0
  clear hs hc
  go_enter Tryz.func111, Tryz.ntmps111
  go_wp2_with fail
  go_ret
  exact ⟨_, rfl, World.ownsRow_nil w 0 5 1, Kept.refl _ _, fun k e => by cases e⟩
 | some ad =>
  have HS : Hid (Src w I (.slice (some ad) cs.length cap) cs) := hs
  have HR0 : Hid (Row (w.alloc (.cells #[] 5)) (.slice (some ⟨w.heap.size, 0, none⟩) 0 0) []) := hid (row_none w)
  have HK0 : Hid (Same w (w.alloc (.cells #[] 5))) := hid ((Kept.refl _ w).alloc _)
  obtain ⟨L, hL⟩ : ∃ L, L = cs.length := ⟨_, rfl⟩
  have HL : Hid (L = cs.length) := hL
  rw [← hL] at HS hn ⊢
  clear hs hc hL
  go_enter Tryz.func111, Tryz.ntmps111
  have HLN : Hid (([] : List Nat).length + cs.length ≤ 1000000000000) := hid (by have := HL.out; simp; omega)
  go_wp2_with (at_builtin; refine wpList_append_any _ rfl (.tmp 5) (.tmp 6) rfl (.slice (some ⟨w.heap.size, 0, none⟩) 0 0) [] rfl HR0.out I (.slice (some ad) L cap) cs rfl (fun n c e => by cases e) (HS.out.kept HK0.out (fun _ _ _ f => f)) HLN.out ?_)
  intro v3 w3 hr3 hg3 ho3
  have HR3 : Hid (Row w3 v3 cs) := hid (by simpa using hr3)
  have HK3 : Hid (Same w w3) := hid (HK0.out.grown hg3 (fun j e => .inr (by
   have e1 : w.heap.size = j := by simpa [Value.ownBlock] using e
   omega)))
  have HO3 : Hid (∀ k, v3.ownBlock = some k → w.heap.size ≤ k) := hid (fun k e => by
   rcases ho3 with h9 | h9
   ·rw [h9] at e
    have e1 : w.heap.size = k := by simpa [Value.ownBlock] using e
    omega
   ·rw [h9] at e
    have e1 : w.heap.size + 1 = k := by simpa using e
    omega)
  obtain ⟨a3, cp3, hv3, _⟩ := hr3.shape
  clear hr3 hg3 ho3
  go_wp2_with fail
  go_ret
  exact ⟨_, rfl, HR3.out, HK3.out, HO3.out⟩

end Go.Proofs.YtljlmfnbeofmmaaGreatDoor
