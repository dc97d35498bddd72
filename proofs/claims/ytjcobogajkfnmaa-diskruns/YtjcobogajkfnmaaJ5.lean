/-
  Of the proof: parts DkE.
-/
import Derived.Lib.Strings
import Derived.Test.YtjcobogajkfnmaaJ4

/-
  Layer 9: a change, done.
-/
namespace Go.Proofs.Ytjcobogajkfnmaa
open Go.RowKit Go.Maps

/-- Names behind a change. -/
def appN (c : Chg) (L : Nms) : Nms := if c.dst.size = 0 then delN c.src L else putN c.dst c.f (delN c.src L)

theorem appN_mem {c : Chg} {L : Nms} {p : ByteArray × Nat} (h : p ∈ appN c L) : p = (c.dst, c.f) ∨ p ∈ L := by
  unfold appN at h
  split at h
  · exact .inr (delN_mem h)
  · rcases putN_mem h with h | h
    · exact .inl h
    · exact .inr (delN_mem h)

theorem appN_len (c : Chg) (L : Nms) : (appN c L).length ≤ L.length + 1 := by
  unfold appN
  split
  · have := delN_len c.src L; omega
  · have := delN_len c.src L; have := putN_len c.dst c.f (delN c.src L); omega

theorem emp9 (s : ByteArray) : s.toList.isEmpty = decide (s.size = 0) := by
  rw [Lib.toList_data]
  have h2 : s.size = s.data.toList.length := by simp
  rw [h2]
  cases s.data.toList <;> simp

set_option maxRecDepth 100000 in
set_option maxHeartbeats 800000 in
theorem dapply_any (w : World) (b : Nat) (L : Nms) (h : Mp w b L) (c : Chg) (h1 : c.src.size ≤ 100000) (h2 : c.dst.size ≤ 100000) (hL : L.length ≤ 100000000) :
    Calls Try.prog 54 #[.agg #[.string c.src, .string c.dst, .pointer (some ⟨c.f, 0, none⟩)], .map (some b)] w fun e w' => e = .returned (.tuple #[]) ∧ Mp w' b (appN c L) ∧ Kept (· = b) w w' := by
  obtain ⟨src, dst, f⟩ := c
  have h1 : src.size ≤ 100000 := h1
  have h2 : dst.size ≤ 100000 := h2
  obtain ⟨wA, hwA⟩ : ∃ W, W = w.alloc (.cells #[.string src, .string dst, .pointer (some ⟨f, 0, none⟩)] 78) := ⟨_, rfl⟩
  have kA : Same w wA := by rw [hwA]; exact (Kept.refl _ w).alloc _
  have BA : Blk wA w.heap.size #[.string src, .string dst, .pointer (some ⟨f, 0, none⟩)] 78 := by rw [hwA]; exact Blk.new w _ _
  have hb := h.lt
  obtain ⟨xb, hxb⟩ : ∃ x, x = w.heap.size := ⟨_, rfl⟩
  rw [← hxb] at BA hb
  have hml : (100000 : Nat) ≤ maxLen := by decide
  have mA : Mp wA b L := h.kept kA (fun f => f)
  obtain ⟨wB, hdel, mB, kB⟩ := mA.del src (by omega) 0
  have BB := BA.kept kB (by omega)
  obtain ⟨wC, hput, mC, kC⟩ := mB.put dst (by omega) (by have := delN_len src L; omega) f
  have a0 : wA.cell? ⟨xb, 0, none⟩ = some (.string src) := BA.cell 0
  have c1 : wB.cell? ⟨xb, 1, none⟩ = some (.string dst) := BB.cell 1
  have c2 : wB.cell? ⟨xb, 2, none⟩ = some (.pointer (some ⟨f, 0, none⟩)) := BB.cell 2
  have hE := emp9 dst
  have HB : Hid (Mp wB b (delN src L) ∧ Kept (· = b) w wB) := hid ⟨mB, Kept.trans kA kB (fun _ _ f => f.elim) (fun _ _ e => e)⟩
  have HCC : Hid (Mp wC b (putN dst f (delN src L)) ∧ Kept (· = b) w wC) := hid ⟨mC, Kept.trans HB.out.2 kC (fun _ _ e => e) (fun _ _ e => e)⟩
  clear kA BA BB mA mB kB mC kC h h1 h2 hL hb hml
  by_cases hz : dst.size = 0
  · rw [decide_eq_true hz] at hE
    have HZ : Hid (appN ⟨src, dst, f⟩ L = delN src L) := hid (if_pos hz)
    clear hz hput
    go_enter Try.func54, Try.ntmps54
    go_wp2_with fail
    rw [← hwA, ← hxb]
    clear hwA hxb
    go_wp2_with fail
    rw [hdel]
    go_wp2_with fail
    go_end0
    exact ⟨rfl, by rw [HZ.out]; exact HB.out.1, HB.out.2⟩
  · rw [decide_eq_false hz] at hE
    have HZ : Hid (appN ⟨src, dst, f⟩ L = putN dst f (delN src L)) := hid (if_neg hz)
    clear hz
    go_enter Try.func54, Try.ntmps54
    go_wp2_with fail
    rw [← hwA, ← hxb]
    clear hwA hxb
    go_wp2_with fail
    rw [hdel]
    go_wp2_with fail
    go_end0
    exact ⟨rfl, by rw [HZ.out]; exact HCC.out.1, HCC.out.2⟩

end Go.Proofs.Ytjcobogajkfnmaa
