/-
  A scope with many labels that are gone to.
-/
import Derived.ScopeJumps
namespace Go.Proofs.Ytjjhjbmmhkcapaa

/-- As Q; by a goto: J of the label. -/
def Exit.jumps (J : Nat → Act → World → Prop) (Q : Exit → Act → World → Prop) : Exit → Act → World → Prop
  | .goto l, a, w => J l a w
  | e, a, w => Q e a w

theorem Exit.jumps_ret (J : Nat → Act → World → Prop) (Q : Exit → Act → World → Prop) (a : Act) (w : World) : Exit.jumps J Q .ret a w = Q .ret a w := rfl

variable {P : Program} {a : Act} {w : World} {Q : Exit → Act → World → Prop}

/-- From every label on, what holds there leads on, and lower. -/
def Passes (P : Program) (Q : Exit → Act → World → Prop) (c : Code) (J : Nat → Nat → Act → World → Prop) : Prop :=
  ∀ l m a w, J l m a w → ∃ rest, findLabel c l = some (.seq .skip rest) ∧ rest.wp P (Exit.jumps (fun l' a' w' => ∃ m', m' < m ∧ J l' m' a' w') Q) a w

theorem wp_scope_many {c : Code} (J : Nat → Nat → Act → World → Prop) (pass : Passes P Q c J)
    (first : Passes P Q c J → c.wp P (Exit.jumps (fun l a w => ∃ m, J l m a w) Q) a w) : (Code.scope c).wp P Q a w := by
  intro b k cs
  have key : ∀ m l a w, J l m a w → ∃ rest, findLabel c l = some (.seq .skip rest) ∧ ∃ e a' w', Q e a' w' ∧ Arrives P (lone (b.at a (.code (.seq .skip rest) :: .inScope c :: k)) cs w) b k cs e a' w' := by
    intro m
    induction m using Nat.strongRecOn with
    | _ m ih =>
      intro l a w hJ
      obtain ⟨rest, hf, hp⟩ := pass l m a w hJ
      refine ⟨rest, hf, ?_⟩
      have hp2 : (Code.seq .skip rest).wp P (Exit.jumps (fun l' a' w' => ∃ m', m' < m ∧ J l' m' a' w') Q) a w := wp_seq (wp_skip hp)
      obtain ⟨e, a₁, w₁, hq, harr⟩ := hp2 b (.inScope c :: k) cs
      cases e with
      | normal => exact ⟨.normal, a₁, w₁, hq, Steps.trans harr (.one step_inScope)⟩
      | exit id => exact ⟨.exit id, a₁, w₁, hq, fun k' hk => harr k' (by simp [exitTo, hk])⟩
      | goto l' =>
        obtain ⟨m', hlt, hJ'⟩ := hq
        obtain ⟨rest', hf', e₂, a₂, w₂, hq₂, harr₂⟩ := ih m' hlt l' a₁ w₁ hJ'
        have hg : gotoIn l' (.inScope c :: k) = some (.code (.seq .skip rest') :: .inScope c :: k) := by simp [gotoIn, hf']
        exact ⟨e₂, a₂, w₂, hq₂, .of_steps (harr _ hg) harr₂⟩
      | ret => exact ⟨_, a₁, w₁, hq, harr⟩
      | panic ch => exact ⟨_, a₁, w₁, hq, harr⟩
      | outgrown => exact ⟨_, a₁, w₁, hq, harr⟩
  obtain ⟨e, a₁, w₁, hq, harr⟩ := first pass b (.inScope c :: k) cs
  cases e with
  | normal => exact ⟨.normal, a₁, w₁, hq, .head step_scope (Steps.trans harr (.one step_inScope))⟩
  | exit id => exact ⟨.exit id, a₁, w₁, hq, fun k' hk => .head step_scope (harr k' (by simp [exitTo, hk]))⟩
  | goto l' =>
    obtain ⟨m, hJ⟩ := hq
    obtain ⟨rest', hf', e₂, a₂, w₂, hq₂, harr₂⟩ := key m l' a₁ w₁ hJ
    have hg : gotoIn l' (.inScope c :: k) = some (.code (.seq .skip rest') :: .inScope c :: k) := by simp [gotoIn, hf']
    exact ⟨e₂, a₂, w₂, hq₂, .of_steps (.head step_scope (harr _ hg)) harr₂⟩
  | ret => exact ⟨_, a₁, w₁, hq, .of_steps (.one step_scope) harr⟩
  | panic ch => exact ⟨_, a₁, w₁, hq, .of_steps (.one step_scope) harr⟩
  | outgrown => exact ⟨_, a₁, w₁, hq, .of_steps (.one step_scope) harr⟩

/-- The label is fallen into: as if it had been gone to. -/
theorem fall_in {c rest : Code} {J : Nat → Nat → Act → World → Prop} {l m : Nat}
    (pass : Passes P Q c J)
    (hf : findLabel c l = some (.seq .skip rest)) (h : J l m a w) : rest.wp P (Exit.jumps (fun l a w => ∃ m, J l m a w) Q) a w := by
  obtain ⟨r, hr, hp⟩ := pass l m a w h
  rw [hf] at hr
  injection hr with hr
  injection hr with _ hr
  subst hr
  refine wp_mono hp (fun e a w hq => ?_)
  cases e with
  | goto l' => obtain ⟨m', _, h'⟩ := hq; exact ⟨m', h'⟩
  | _ => exact hq

end Go.Proofs.Ytjjhjbmmhkcapaa
