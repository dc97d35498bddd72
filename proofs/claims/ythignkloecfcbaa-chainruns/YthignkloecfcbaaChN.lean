/-
  Layer 12: a chain pruned.
-/
import Derived.Test.YthignkloecfcbaaChK
import Derived.Test.YthignkloecfcbaaChL
namespace Go.Proofs.Ythignkloecfcbaa
open Go.RowKit Go.Maps Go.Sort

/-- How many go. -/
def goV (l : List Ver) (f : Int) : Nat := if (newV l f).there then upV l f - 1 else upV l f

theorem goV_le (l : List Ver) (f : Int) : goV l f ≤ l.length := by
  have := upV_le l f
  unfold goV
  split <;> omega

theorem goV_len (l : List Ver) (f : Int) : (pruV l f).length + goV l f = l.length := by
  have := goV_le l f
  show (l.drop (goV l f)).length + goV l f = l.length
  rw [List.length_drop]
  omega

set_option maxRecDepth 100000 in
set_option maxHeartbeats 1000000 in
theorem cprune_any {N : Nat} {w : World} {ρ : Nat → Nat} {c : Nat} {l : List Ver} (h : ChAt N w ρ c l) (hr : RisV l) (hl : l.length ≤ 100000) (hcc : ρ c ≠ 10 + c) (f : Int) :
    Calls Try.prog 52 #[.pointer (some ⟨c, 0, none⟩), .int .i64 f] w fun e w' => e = .returned (.int .i64 (goV l f : Nat)) ∧ ChB N w w' ρ c (pruV l f) := by
  have HU := upTo_any h hr hl f
  have HN : Hid (∀ w', Same w w' → Calls Try.prog 33 #[.pointer (some ⟨c, 0, none⟩), .int .i64 f] w' fun e w2 => e = .returned (verV (newV l f)) ∧ Same w' w2) := hid (fun w' hk => newest_any (h.same hk) hr hl f)
  obtain ⟨u, hu⟩ : ∃ u, u = upV l f := ⟨_, rfl⟩
  obtain ⟨g, hg⟩ : ∃ g, g = goV l f := ⟨_, rfl⟩
  obtain ⟨y, hy⟩ : ∃ y, y = newV l f := ⟨_, rfl⟩
  have hgl := goV_le l f
  have hth : y.there = true → u = g + 1 := fun e => by
    rw [hy] at e
    have h1 : goV l f = upV l f - 1 := if_pos e
    have h2 : upV l f ≠ 0 := fun e2 => by unfold newV at e; rw [if_pos e2] at e; cases e
    omega
  have hnt : y.there = false → u = g := fun e => by
    rw [hy] at e
    have h1 : goV l f = upV l f := if_neg (by rw [e]; decide)
    omega
  have hpr : pruV l f = l.drop g := by rw [hg]; rfl
  rw [← hu] at HU
  rw [← hy] at HN
  rw [← hg] at hgl ⊢
  rw [hpr]
  obtain ⟨v, hb, hrow, hown⟩ := h
  obtain ⟨ao, cap, hv, hao, _, hcap, _⟩ := hrow.shape
  obtain ⟨L, hL⟩ : ∃ L, L = l.length := ⟨_, rfl⟩
  rw [← hL] at hv hl hgl hcap
  subst hv
  have HBL : Hid (Blk w c #[.slice ao L cap] 90) := hb
  have HRO : Hid (RowC N 75 3 verE w (.slice ao L cap) l) := hrow
  have HOW : Hid (∀ k, (Value.slice ao L cap).ownBlock = some k → ρ k = 10 + c) := hown
  -- what Delete answers
  have HDL : Hid (∀ w', Same w w' → Calls Try.prog 61 #[.slice ao L cap, .int .i64 0, .int .i64 (g : Nat)] w' fun e w2 => ∃ a2 n2 c2, e = .returned (.slice a2 n2 c2) ∧ RowC N 75 3 verE w2 (.slice a2 n2 c2) (l.drop g) ∧ Kept (fun k => (Value.slice ao L cap).ownBlock = some k) w' w2 ∧ (∀ k, (Value.slice a2 n2 c2).ownBlock = some k → (Value.slice ao L cap).ownBlock = some k)) := hid (fun w' hk => by
    by_cases g0 : g = 0
    · subst g0
      refine (del_none w' ao L cap hcap).mono ?_
      rintro e w2 ⟨rfl, rfl⟩
      exact ⟨_, _, _, rfl, by rw [List.drop_zero]; exact HRO.out.kept hk (fun _ _ f => f), Kept.refl _ _, fun _ e => e⟩
    · obtain ⟨gb, hgb⟩ := hao (by intro e; rw [e] at hL; simp at hL; omega)
      subst hgb
      refine (del_any (HRO.out.kept hk (fun _ _ f => f)) (by omega) hgl hl).mono ?_
      rintro e w2 ⟨rfl, h1, h2⟩
      exact ⟨_, _, _, rfl, h1, h2.mono (fun k _ e => by rw [e]; rfl), fun _ e => e⟩)
  have HCN : Hid (¬ (Value.slice ao L cap).ownBlock = some c) := hid (fun e => hcc (hown c e))
  have d0 : w.cell? ⟨c, 0, none⟩ = some (.slice ao L cap) := hb.cell 0
  have HD0 := hid d0
  have fW := fieldW
  have HTH : Hid ((y.there = true → u = g + 1) ∧ (y.there = false → u = g)) := hid ⟨hth, hnt⟩
  have g9 : g ≤ 100000 := by omega
  clear hu hg hy hgl hth hnt hpr hb hrow hown hao hL hr hcc d0 hl hcap
  go_enter Try.func52, Try.ntmps52
  go_wp2_with fail
  refine HU.mono ?_
  rintro e w1 ⟨rfl, hk1⟩
  have HN1 := HN.out w1 hk1
  unfold verV at HN1
  have HK1 : Hid (Same w w1) := hk1
  clear HU hk1
  go_wp2_with fail
  refine HN1.mono ?_
  rintro e w2 ⟨rfl, hk2⟩
  have HK2 : Hid (Same w w2) := hid (HK1.out.trans hk2)
  clear HN1 hk2
  obtain ⟨bt, hbt⟩ : ∃ x, x = y.there := ⟨_, rfl⟩
  rw [← hbt] at HTH ⊢
  have d2 := HK2.out.cell HD0.out (fun f => f)
  have HDL2 := HDL.out w2 HK2.out
  cases bt with
  | true =>
    obtain rfl := HTH.out.1 rfl
    have q1 : ((g + 1 : Nat) : Int) - 1 = (g : Int) := by omega
    have q1w : IntKind.i64.wrap (g : Int) = (g : Int) := by rw [IntKind.wrap_i64]; omega
    clear hbt
    go_wp2_with fail
    refine HDL2.mono ?_
    rintro e w3 ⟨a2, n2, c2, rfl, h1, h2, h3⟩
    have b3 := HBL.out.kept (Kept.trans HK2.out h2 (fun _ _ f => f.elim) (fun _ _ e => e)) HCN.out
    have d3 := b3.cell 0
    have z3 := b3.frozen 0
    simp at d3
    have HF : Hid (RowC N 75 3 verE w3 (.slice a2 n2 c2) (l.drop g) ∧ Kept (fun k => (Value.slice ao L cap).ownBlock = some k) w w3 ∧ (∀ k, (Value.slice a2 n2 c2).ownBlock = some k → (Value.slice ao L cap).ownBlock = some k) ∧ Blk w3 c #[.slice ao L cap] 90) := hid ⟨h1, Kept.trans HK2.out h2 (fun _ _ f => f.elim) (fun _ _ e => e), h3, b3⟩
    clear h1 h2 h3 b3 HDL2
    go_wp2_with fail
    go_ret
    refine ⟨rfl, .slice a2 n2 c2, ?_, ?_, fun k e => .inl (HOW.out k (HF.out.2.2.1 k e)), ?_⟩
    · have h9 := HF.out.2.2.2.set 0 (.slice a2 n2 c2)
      simpa using h9
    · exact HF.out.1.kept (F := (· = c)) ((Kept.refl _ _).setCell _ _ (.inl rfl)) (fun j e e2 => by subst e2; exact HCN.out (HF.out.2.2.1 j e))
    · exact (HF.out.2.1.mono (G := fun k => k = c ∨ ρ k = 10 + c) (fun k _ e => .inr (HOW.out k e))).setCell _ _ (.inl (.inl rfl))
  | false =>
    obtain rfl := HTH.out.2 rfl
    clear hbt
    go_wp2_with fail
    refine HDL2.mono ?_
    rintro e w3 ⟨a2, n2, c2, rfl, h1, h2, h3⟩
    have b3 := HBL.out.kept (Kept.trans HK2.out h2 (fun _ _ f => f.elim) (fun _ _ e => e)) HCN.out
    have d3 := b3.cell 0
    have z3 := b3.frozen 0
    simp at d3
    have HF : Hid (RowC N 75 3 verE w3 (.slice a2 n2 c2) (l.drop u) ∧ Kept (fun k => (Value.slice ao L cap).ownBlock = some k) w w3 ∧ (∀ k, (Value.slice a2 n2 c2).ownBlock = some k → (Value.slice ao L cap).ownBlock = some k) ∧ Blk w3 c #[.slice ao L cap] 90) := hid ⟨h1, Kept.trans HK2.out h2 (fun _ _ f => f.elim) (fun _ _ e => e), h3, b3⟩
    clear h1 h2 h3 b3 HDL2
    go_wp2_with fail
    go_ret
    refine ⟨rfl, .slice a2 n2 c2, ?_, ?_, fun k e => .inl (HOW.out k (HF.out.2.2.1 k e)), ?_⟩
    · have h9 := HF.out.2.2.2.set 0 (.slice a2 n2 c2)
      simpa using h9
    · exact HF.out.1.kept (F := (· = c)) ((Kept.refl _ _).setCell _ _ (.inl rfl)) (fun j e e2 => by subst e2; exact HCN.out (HF.out.2.2.1 j e))
    · exact (HF.out.2.1.mono (G := fun k => k = c ∨ ρ k = 10 + c) (fun k _ e => .inr (HOW.out k e))).setCell _ _ (.inl (.inl rfl))

end Go.Proofs.Ythignkloecfcbaa
