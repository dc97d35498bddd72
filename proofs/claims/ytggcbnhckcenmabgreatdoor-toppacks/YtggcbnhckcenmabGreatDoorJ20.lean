/-
  Of the proof: parts MtK, MtV.
-/
import Derived.Laws.BytesArg
import Derived.Laws.StructEq
import Derived.Lib.SlBytesConst
import Derived.Test.YtggcbnhckcenmabGreatDoorJ12
import Derived.Test.YtggcbnhckcenmabGreatDoorJ19
import Derived.Test.YtggcbnhckcenmabGreatDoorJ13
import Derived.Test.YtggcbnhckcenmabGreatDoorJ11
import Derived.Test.YtggcbnhckcenmabGreatDoorJ3

namespace Go.Proofs.YtggcbnhckcenmabGreatDoor
open Go.RowKit

theorem mcell_mark (w : World) (C : Array Value) (t : TypeId) (fr : Nat × Nat) (j : Nat) : (w.alloc (.cells C t fr)).cell? ⟨w.heap.size, j, none⟩ = C[j]? := by
 have : (w.alloc (.cells C t fr)).heap[w.heap.size]? = some (.cells C t fr) := by
  show (w.heap.push _)[w.heap.size]? = _
  simp
 simp only [World.cell?, this]
 simp

theorem msrc_mark (w : World) (cs : List Nat) (n : Nat) (fr : Nat × Nat) (hn : cs.length = n) : Src (w.alloc (.cells (cs.map byteV).toArray 5 fr)) (fun k => k = w.heap.size) (.slice (some ⟨w.heap.size, 0, none⟩) n n) cs := by
 subst hn
 refine ⟨_, _, rfl, fun _ => ⟨_, _, rfl, rfl, fun j hj => ?_⟩⟩
 rw [Nat.zero_add, mcell_mark]
 simp [byteV, hj]

end Go.Proofs.YtggcbnhckcenmabGreatDoor

namespace Go.Proofs.YtggcbnhckcenmabGreatDoor
open Go.RowKit
def expC (ts : List TK) (m : Int) : Nat := if m < 0 ∨ 16384 < m then 1 else errT (measT m.toNat ts 0)
def expD (ts : List TK) (m : Int) : List Nat := if m < 0 ∨ 16384 < m then [] else match measT m.toNat ts 0 with
 | .ok _ => expT ts []
 | .error _ => []

theorem expD_le (ts : List TK) (m : Int) : (expD ts m).length ≤ 16384 := by
 unfold expD
 split
 ·simp
 ·split
  ·rename_i h1 n h2
   have h3 := expT_length (ts := ts) [] h2
   have := (measT_le h2 (Nat.zero_le _)).2
   omega
  ·simp

def ExpU (w w' : World) (e : Ending) (c : Nat) (bs : List Nat) : Prop := ∃ v', e = .returned (.tuple #[v', .int .i64 (c : Nat)]) ∧ Fresh w w' v' bs

theorem fresh_none {w w' : World} (h : Same w w') : Fresh w w' (.slice none 0 0) [] := ⟨World.ownsRow_nil w' 0 5 1, h, fun k e => by cases e⟩

theorem expU_of {w w' : World} {e : Ending} {ts : List TK} {m : Int} (hm : ¬ (m < 0 ∨ 16384 < m)) (h : ExpA w w' e ts (measT m.toNat ts 0)) : ExpU w w' e (expC ts m) (expD ts m) := by
 unfold expC expD
 rw [if_neg hm, if_neg hm]
 cases hc : measT m.toNat ts 0 with
 | error c =>
  rw [hc] at h
  obtain ⟨rfl, hk⟩ := h
  exact ⟨_, rfl, fresh_none hk⟩
 | ok n =>
  rw [hc] at h
  obtain ⟨v, rfl, hf⟩ := h
  exact ⟨_, rfl, hf⟩

theorem expU_bad {w w' : World} {e : Ending} {ts : List TK} {m : Int} (hm : m < 0 ∨ 16384 < m) (h : e = .returned (.tuple #[.slice none 0 0, .int .i64 1]) ∧ Same w w') : ExpU w w' e (expC ts m) (expD ts m) := by
 unfold expC expD
 rw [if_pos hm, if_pos hm]
 exact ⟨_, h.1, fresh_none h.2⟩

theorem mexp_un (w : World) (v : Value) (I : Nat → Prop) (ts : List TK) (m : Int) (hs : TkSrc w I v ts) (hlen : ts.length ≤ 10000000) :
  Calls Tryz.prog 15 #[v, .int .i64 m] w fun e w' => ExpU w w' e (expC ts m) (expD ts m) := by
 by_cases hm : m < 0 ∨ 16384 < m
 ·exact (mexp_bad w v m hm).mono (fun e w' h => expU_bad hm h)
 ·have h := mexp_any w v I ts m.toNat hs hlen (by omega)
  rw [show ((m.toNat : Nat) : Int) = m by omega] at h
  exact h.mono (fun e w' h => expU_of hm h)

end Go.Proofs.YtggcbnhckcenmabGreatDoor
