/-
  Layer 12, the reference: the order of keys.
-/
import Derived.Test.YthignkloecfcbaaCrB
import Derived.Test.YthignkloecfcbaaChDp
namespace Go.Proofs.Ythignkloecfcbaa
open Go.RowKit Go.Maps Go.Sort

def kT12 (k : Ky) : List UInt8 := k.1.tn.data.toList
def kA12 (k : Ky) : List UInt8 := k.1.ar.data.toList
def kE12 (k : Ky) : List UInt8 := k.2.s.data.toList

/-- Entries by their order. -/
def ltK12 (a b : Ky) : Prop := kT12 a < kT12 b ∨ (kT12 a = kT12 b ∧ (kA12 a < kA12 b ∨ (kA12 a = kA12 b ∧ kE12 a < kE12 b)))

theorem ltK12_irr (a : Ky) : ¬ ltK12 a a := fun h => by
  rcases h with h | ⟨_, h | ⟨_, h⟩⟩ <;> exact List.lt_irrefl _ h

theorem ltK12_trans {a b c : Ky} (h : ltK12 a b) (k : ltK12 b c) : ltK12 a c := by
  rcases h with h | ⟨h, h'⟩ <;> rcases k with k | ⟨k, k'⟩
  · exact .inl (List.lt_trans h k)
  · exact .inl (by rw [← k]; exact h)
  · exact .inl (by rw [h]; exact k)
  · refine .inr ⟨h.trans k, ?_⟩
    rcases h' with h' | ⟨h', h''⟩ <;> rcases k' with k' | ⟨k', k''⟩
    · exact .inl (List.lt_trans h' k')
    · exact .inl (by rw [← k']; exact h')
    · exact .inl (by rw [h']; exact k')
    · exact .inr ⟨h'.trans k', List.lt_trans h'' k''⟩

theorem ltK12_tri (a b : Ky) : ltK12 a b ∨ a = b ∨ ltK12 b a := by
  rcases list_tri (kT12 a) (kT12 b) with h | h | h
  · exact .inl (.inl h)
  · rcases list_tri (kA12 a) (kA12 b) with k | k | k
    · exact .inl (.inr ⟨h, .inl k⟩)
    · rcases list_tri (kE12 a) (kE12 b) with m | m | m
      · exact .inl (.inr ⟨h, .inr ⟨k, m⟩⟩)
      · exact .inr (.inl (Prod.ext (Bx.ext' (bytesC_inj h) (bytesC_inj k)) (Nm.ext' (bytesC_inj m))))
      · exact .inr (.inr (.inr ⟨h.symm, .inr ⟨k.symm, m⟩⟩))
    · exact .inr (.inr (.inr ⟨h.symm, .inl k⟩))
  · exact .inr (.inr (.inl h))

def bl12 (s t : ByteArray) : Bool := Op.bytesLess s.toList t.toList

theorem bl12_lt (s t : ByteArray) : bl12 s t = true ↔ s.data.toList < t.data.toList := by
  unfold bl12
  rw [bless12, Lib.toList_data, Lib.toList_data]

/-- Does a key stand ahead of another one? -/
def bef12 (a b : Ky) : Bool := if a.1.tn = b.1.tn then (if a.1.ar = b.1.ar then bl12 a.2.s b.2.s else bl12 a.1.ar b.1.ar) else bl12 a.1.tn b.1.tn

theorem bef12_iff (a b : Ky) : bef12 a b = true ↔ ltK12 a b := by
  unfold bef12 ltK12
  have e1 : kT12 a = kT12 b ↔ a.1.tn = b.1.tn := ⟨fun h => bytesC_inj h, fun h => by unfold kT12; rw [h]⟩
  have e2 : kA12 a = kA12 b ↔ a.1.ar = b.1.ar := ⟨fun h => bytesC_inj h, fun h => by unfold kA12; rw [h]⟩
  by_cases h1 : a.1.tn = b.1.tn
  · rw [if_pos h1]
    have h1' := e1.2 h1
    by_cases h2 : a.1.ar = b.1.ar
    · rw [if_pos h2, bl12_lt]
      have h2' := e2.2 h2
      constructor
      · intro e; exact .inr ⟨h1', .inr ⟨h2', e⟩⟩
      · rintro (e | ⟨_, e | ⟨_, e⟩⟩)
        · rw [h1'] at e; exact absurd e (List.lt_irrefl _)
        · rw [h2'] at e; exact absurd e (List.lt_irrefl _)
        · exact e
    · rw [if_neg h2, bl12_lt]
      constructor
      · intro e; exact .inr ⟨h1', .inl e⟩
      · rintro (e | ⟨_, e | ⟨e, _⟩⟩)
        · rw [h1'] at e; exact absurd e (List.lt_irrefl _)
        · exact e
        · exact absurd (e2.1 e) h2
  · rw [if_neg h1, bl12_lt]
    constructor
    · intro e; exact .inl e
    · rintro (e | ⟨e, _⟩)
      · exact e
      · exact absurd (e1.1 e) h1

set_option maxRecDepth 100000 in
set_option maxHeartbeats 1000000 in
theorem rless_any (w : World) (x y : Ky) : Calls Try.prog 55 #[.agg #[.string x.1.tn, .string x.1.ar, .string x.2.s], .agg #[.string y.1.tn, .string y.1.ar, .string y.2.s]] w fun e w' => e = .returned (.bool (bef12 x y)) ∧ Same w w' := by
  have hk : Same w ((w.alloc (.cells #[.string x.1.tn, .string x.1.ar, .string x.2.s] 36)).alloc (.cells #[.string y.1.tn, .string y.1.ar, .string y.2.s] 36)) := ((Kept.refl _ w).alloc _).alloc _
  have HK := hid hk
  clear hk
  have B1 : Blk ((w.alloc (.cells #[.string x.1.tn, .string x.1.ar, .string x.2.s] 36)).alloc (.cells #[.string y.1.tn, .string y.1.ar, .string y.2.s] 36)) w.heap.size #[.string x.1.tn, .string x.1.ar, .string x.2.s] 36 := (Blk.new w _ _).kept (F := fun _ => False) ((Kept.refl _ _).alloc _) (fun f => f)
  have a0 := B1.cell 0
  have a1 := B1.cell 1
  have a2 := B1.cell 2
  simp only [List.getElem?_toArray, List.getElem?_cons_zero, List.getElem?_cons_succ] at a0 a1 a2
  clear B1
  have s1 := streq12 x.1.tn y.1.tn
  have s2 := streq12 x.1.ar y.1.ar
  unfold bef12
  by_cases h1 : x.1.tn = y.1.tn
  · rw [if_pos h1]
    rw [decide_eq_true h1] at s1
    by_cases h2 : x.1.ar = y.1.ar
    · rw [if_pos h2]
      rw [decide_eq_true h2] at s2
      clear h1 h2
      go_enter Try.func55, Try.ntmps55
      go_wp2_with fail
      go_ret
      exact ⟨rfl, HK.out⟩
    · rw [if_neg h2]
      rw [decide_eq_false h2] at s2
      clear h1 h2
      go_enter Try.func55, Try.ntmps55
      go_wp2_with fail
      go_ret
      exact ⟨rfl, HK.out⟩
  · rw [if_neg h1]
    rw [decide_eq_false h1] at s1
    clear h1
    go_enter Try.func55, Try.ntmps55
    go_wp2_with fail
    go_ret
    exact ⟨rfl, HK.out⟩


end Go.Proofs.Ythignkloecfcbaa
