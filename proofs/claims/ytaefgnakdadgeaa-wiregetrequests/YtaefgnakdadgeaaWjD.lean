/-
  Layer 19, the reference: fields that are cut, one behind the other.
-/
import Derived.Test.YtaefgnakdadgeaaWjC
import Derived.Test.YtaefgnakdadgeaaWiZ
import Derived.Test.YtaefgnakdadgeaaWiLw
namespace Go.Proofs.Ytaefgnakdadgeaa
open Go.RowKit

/-- An object's fields are being cut: what is left of them, and what all comes to. -/
def GI {α : Type} (N : Nat) (w : World) (rb cb t : Nat) (cs0 : List Cel) (l : List Fd) (G : Option α) (F : List Cel × List Nat → Option α) : Prop :=
  ∃ cs y bad a cap, Ob w rb t cs ∧ Alike cs0 cs ∧ OKeep cs0 cs ∧ Ct19 N w cb y bad a cap ∧ ((bad = true ∧ G = none) ∨ (bad = false ∧ G = bnd8 (readL l cs y) F))

/-- What a field's cut tells. -/
def GnA {α : Type} (N : Nat) (w w' : World) (rb cb t : Nat) (cs0 : List Cel) (i : Nat) (l : List Fd) (G : Option α) (F : List Cel × List Nat → Option α) (e : Ending) : Prop :=
  ∃ (V : Nat) (o : Int), e = .returned (.int .i64 (V : Nat)) ∧ w'.cell? ⟨rb, i, none⟩ = some (.int .i64 o) ∧ w'.frozen? ⟨rb, i, none⟩ = false ∧ GI N (w'.setCell ⟨rb, i, none⟩ (.int .i64 (V : Nat))) rb cb t cs0 l G F ∧ Kept (fun k => k = cb ∨ k = rb) w (w'.setCell ⟨rb, i, none⟩ (.int .i64 (V : Nat)))

def GtA {α : Type} (N : Nat) (w w' : World) (rb cb t : Nat) (cs0 : List Cel) (i : Nat) (l : List Fd) (G : Option α) (F : List Cel × List Nat → Option α) (e : Ending) : Prop :=
  ∃ (T o : ByteArray), e = .returned (.string T) ∧ w'.cell? ⟨rb, i, none⟩ = some (.string o) ∧ w'.frozen? ⟨rb, i, none⟩ = false ∧ GI N (w'.setCell ⟨rb, i, none⟩ (.string T)) rb cb t cs0 l G F ∧ Kept (fun k => k = cb ∨ k = rb) w (w'.setCell ⟨rb, i, none⟩ (.string T))

theorem GI.num {α : Type} {N : Nat} {w : World} {rb cb t : Nat} {cs0 : List Cel} {i : Nat} {l : List Fd} {G : Option α} {F : List Cel × List Nat → Option α} (h : GI N w rb cb t cs0 (.num i :: l) G F) (hf : (Fd.num i).fits cs0) (hrc : rb ≠ cb) (hrN : N ≤ rb) :
    Calls Try.prog 36 #[.pointer (some ⟨cb, 0, none⟩)] w fun e w' => GnA N w w' rb cb t cs0 i l G F e := by
  obtain ⟨cs, y, bad, a, cap, ho, hal, hok, hct, hor⟩ := h
  refine (rnum19 N w cb y bad a cap hct).mono ?_
  rintro e w' ⟨V, y', bad', a', cap', rfl, hct', hk, hoc⟩
  obtain ⟨x, hx⟩ := hf.alike hal
  have ho' : Ob w' rb t cs := ho.kept hk hrc
  have hks : Kept (· = rb) w' (w'.setCell ⟨rb, i, none⟩ (.int .i64 (V : Nat))) := (Kept.refl (· = rb) w').setCell _ _ (.inl rfl)
  refine ⟨V, x, rfl, ho'.cell hx, ho'.frozen i, ⟨cs.set i (.n (V : Nat)), y', bad', a', cap', ho'.set i (.n (V : Nat)), hal.trans (alike_setn hx), fun j v hj => okeep_set (fun v e => by rw [hx] at e; simp at e) j v (hok j v hj), hct'.kept hks (fun e => hrc e.symm) (fun k hk e => by omega), ?_⟩, Kept.trans hk hks (fun _ _ f => .inl f) (fun _ _ f => .inr f)⟩
  rcases hor with ⟨hb, hg⟩ | ⟨hb, hg⟩
  · exact .inl ⟨hoc.1 hb, hg⟩
  · rcases hoc.2 hb with ⟨h1, h2⟩ | ⟨h1, h2⟩
    · refine .inr ⟨h1, ?_⟩
      rw [hg]
      simp only [readL]
      rw [readF_num, h2]
      rfl
    · refine .inl ⟨h1, ?_⟩
      rw [hg]
      simp only [readL]
      rw [readF_num, h2]
      rfl

theorem GI.txt {α : Type} {N : Nat} {w : World} {rb cb t : Nat} {cs0 : List Cel} {i m : Nat} {l : List Fd} {G : Option α} {F : List Cel × List Nat → Option α} (h : GI N w rb cb t cs0 (.txt i m :: l) G F) (hf : (Fd.txt i m).fits cs0) (hrc : rb ≠ cb) (hrN : N ≤ rb) :
    Calls Try.prog 37 #[.pointer (some ⟨cb, 0, none⟩), .int .i64 (m : Nat)] w fun e w' => GtA N w w' rb cb t cs0 i l G F e := by
  obtain ⟨cs, y, bad, a, cap, ho, hal, hok, hct, hor⟩ := h
  refine (rtxt19 N w cb y bad a cap m hct).mono ?_
  rintro e w' ⟨T, y', bad', a', cap', rfl, hct', hk, hoc⟩
  obtain ⟨⟨x, hx⟩, _⟩ := hf.alike hal
  have ho' : Ob w' rb t cs := ho.kept hk hrc
  have hks : Kept (· = rb) w' (w'.setCell ⟨rb, i, none⟩ (.string T)) := (Kept.refl (· = rb) w').setCell _ _ (.inl rfl)
  refine ⟨T, x, rfl, ho'.cell hx, ho'.frozen i, ⟨cs.set i (.s T), y', bad', a', cap', ho'.set i (.s T), hal.trans (alike_sets hx), fun j v hj => okeep_set (fun v e => by rw [hx] at e; simp at e) j v (hok j v hj), hct'.kept hks (fun e => hrc e.symm) (fun k hk e => by omega), ?_⟩, Kept.trans hk hks (fun _ _ f => .inl f) (fun _ _ f => .inr f)⟩
  rcases hor with ⟨hb, hg⟩ | ⟨hb, hg⟩
  · exact .inl ⟨hoc.1 hb, hg⟩
  · rcases hoc.2 hb with ⟨h1, h2⟩ | ⟨h1, h2⟩
    · refine .inr ⟨h1, ?_⟩
      rw [hg]
      simp only [readL]
      rw [readF_txt, h2]
      rfl
    · refine .inl ⟨h1, ?_⟩
      rw [hg]
      simp only [readL]
      rw [readF_txt, h2]
      rfl

end Go.Proofs.Ytaefgnakdadgeaa
