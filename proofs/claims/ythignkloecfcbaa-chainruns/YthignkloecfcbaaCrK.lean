/-
  Layer 12, the reference: Dump.
-/
import Derived.Test.YthignkloecfcbaaCrF
import Derived.Test.YthignkloecfcbaaCrHa
import Derived.BigRegion
namespace Go.Proofs.Ythignkloecfcbaa
open Go.RowKit Go.Maps Go.Sort

/-- What the first keys say. -/
def visK (ks : List Ky) (g : Bx → Nm → ByteArray) : Bx → Nm → Option ByteArray := fun b n => if (b, n) ∈ ks then some (g b n) else none

theorem visK_succ (ks : List Ky) (g : Bx → Nm → ByteArray) (i : Nat) (hi : i < ks.length) : visK (ks.take (i + 1)) g = vis1 (visK (ks.take i) g) ks[i].1 ks[i].2 (g ks[i].1 ks[i].2) := by
  funext b n
  unfold visK vis1
  rw [List.take_succ_eq_append_getElem hi]
  by_cases e : b = ks[i].1 ∧ n = ks[i].2
  · rw [if_pos e, if_pos (List.mem_append.2 (.inr (List.mem_singleton.2 (Prod.ext e.1 e.2)))), e.1, e.2]
  · rw [if_neg e]
    show _ = (if (b, n) ∈ ks.take i then some (g b n) else none)
    by_cases e2 : (b, n) ∈ ks.take i
    · rw [if_pos e2, if_pos (List.mem_append.2 (.inl e2))]
    · rw [if_neg e2, if_neg (fun e3 => by
        rcases List.mem_append.1 e3 with e3 | e3
        · exact e2 e3
        · have := List.mem_singleton.1 e3
          exact e ⟨congrArg Prod.fst this, congrArg Prod.snd this⟩)]

theorem visK_lt {ks : List Ky} (h : ks.Pairwise ltK12) (g : Bx → Nm → ByteArray) (i : Nat) (hi : i < ks.length) : ∀ b' n', visK (ks.take i) g b' n' ≠ none → ltB b' ks[i].1 ∨ (b' = ks[i].1 ∧ bysN n' < bysN ks[i].2) := fun b' n' hv => by
  have hm : (b', n') ∈ ks.take i := by
    unfold visK at hv
    by_cases e : (b', n') ∈ ks.take i
    · exact e
    · rw [if_neg e] at hv; exact absurd rfl hv
  obtain ⟨j, hj, e⟩ := List.getElem_of_mem hm
  rw [List.length_take] at hj
  rw [List.getElem_take] at e
  have h1 := List.pairwise_iff_getElem.1 h j i (by omega) hi (by omega)
  rw [e] at h1
  exact ltK12_split h1

/-- Is an archive a new one behind these? -/
def newA (As : List Ad) (b : Bx) : Bool := match As.getLast? with
  | none => true
  | some x => !decide (x.b = b)

theorem newA_nil (b : Bx) : newA [] b = true := rfl
theorem newA_last (As : List Ad) (b : Bx) (m : Nat) (hm : As.length = m + 1) : newA As b = !decide ((As[m]'(by omega)).b = b) := by
  unfold newA
  have hne : As ≠ [] := fun e => by rw [e] at hm; simp at hm
  rw [List.getLast?_eq_some_getLast hne, List.getLast_eq_getElem]
  simp only [hm, Nat.add_sub_cancel]

/-- A dump of which the last archive has an entry more. -/
theorem DmAt.entry {B : Nat} {w w' : World} {g n cap : Nat} {As : List Ad} {x : Ad} {a' : Option Addr} {n' c' : Nat} {e : Ent} (h : DmAt B w (.slice (some ⟨g, 0, none⟩) n cap) (As ++ [x])) (hr : RowC B 58 2 enE2 w' (.slice a' n' c') (x.es ++ [e])) (hk : Kept (fun k => (adV x).ownBlock = some k) w w') (hb : ∀ j, (Value.slice a' n' c').ownBlock = some j → (adV x).ownBlock = some j ∨ w.heap.size ≤ j) :
    DmAt B (w'.setCell ⟨g, As.length * 3 + 2, none⟩ (.slice a' n' c')) (.slice (some ⟨g, 0, none⟩) n cap) (As ++ [⟨x.b, a', n', c', x.es ++ [e]⟩]) := by
  have hx : x ∈ As ++ [x] := List.mem_append.2 (.inr (List.mem_singleton.2 rfl))
  have hgx : ∀ y ∈ As ++ [x], ∀ j, (adV y).ownBlock = some j → j ≠ g := fun y hy j e1 e2 => rows_apart (h.ent y hy) h.row (by decide) j e1 (by rw [e2]; rfl)
  have hrow : RowC B 55 3 adE w' (.slice (some ⟨g, 0, none⟩) n cap) (As ++ [x]) := h.row.kept hk (fun k e1 e2 => hgx x hx k e2 (by simpa [Value.ownBlock] using e1.symm))
  have hset := hrow.setAd As.length ⟨x.b, a', n', c', x.es ++ [e]⟩ (by simp) (by simp)
  have es : (As ++ [x]).set As.length ⟨x.b, a', n', c', x.es ++ [e]⟩ = As ++ [⟨x.b, a', n', c', x.es ++ [e]⟩] := by rw [List.set_append_right _ _ (Nat.le_refl _), Nat.sub_self, List.set_cons_zero]
  rw [es] at hset
  have hgl : g < w.heap.size := h.row.lt (j := g) rfl
  have hks : Kept (· = g) w' (w'.setCell ⟨g, As.length * 3 + 2, none⟩ (.slice a' n' c')) := (Kept.refl (· = g) w').setCell _ _ (.inl rfl)
  have hap := List.pairwise_append.1 h.apt
  refine ⟨hset, fun y hy => ?_, List.pairwise_append.2 ⟨hap.1, List.pairwise_singleton _ _, fun y hy z hz k e1 e2 => ?_⟩⟩
  · rcases List.mem_append.1 hy with e1 | e1
    · have hy2 : y ∈ As ++ [x] := List.mem_append.2 (.inl e1)
      exact ((h.ent y hy2).kept hk (fun k e2 e3 => hap.2.2 y e1 x (List.mem_singleton.2 rfl) k e2 e3)).kept hks (fun k e2 => hgx y hy2 k e2)
    · rw [List.mem_singleton.1 e1]
      refine hr.kept hks (fun k e2 e3 => ?_)
      rcases hb k e2 with q | q
      · exact hgx x hx k q e3
      · omega
  · rw [List.mem_singleton.1 hz] at e2
    have hy2 : y ∈ As ++ [x] := List.mem_append.2 (.inl hy)
    rcases hb k e2 with q | q
    · exact hap.2.2 y hy x (List.mem_singleton.2 rfl) k e1 q
    · have := (h.ent y hy2).lt e1
      omega

/-- A dump with an archive more, without entries yet. -/
theorem DmAt.arch {B : Nat} {w w' : World} {v v' : Value} {As : List Ad} {b : Bx} (h : DmAt B w v As) (hr : RowC B 55 3 adE w' v' (As ++ [⟨b, none, 0, 0, []⟩])) (hk : Kept (fun k => v.ownBlock = some k) w w') : DmAt B w' v' (As ++ [⟨b, none, 0, 0, []⟩]) := by
  refine ⟨hr, fun y hy => ?_, List.pairwise_append.2 ⟨h.apt, List.pairwise_singleton _ _, fun y hy z hz k e1 e2 => ?_⟩⟩
  · rcases List.mem_append.1 hy with e1 | e1
    · exact (h.ent y e1).kept hk (fun k e2 => rows_apart (h.ent y e1) h.row (by decide) k e2)
    · rw [List.mem_singleton.1 e1]; exact RowC.nil
  · rw [List.mem_singleton.1 hz] at e2
    cases e2

/-- The dump ahead of an entry: its archive is the last one. -/
def DmL (B : Nat) (w : World) (v : Value) (As : List Ad) (b : Bx) (As' : List Ad) (x : Ad) : Prop := DmAt B w v (As' ++ [x]) ∧ x.b = b ∧ ((As = As' ++ [x]) ∨ (As = As' ∧ x.es = [] ∧ ∀ D0 y, adD As = D0 ++ [y] → ¬ y.1 = b))

theorem DmL.dm {B : Nat} {w : World} {v : Value} {As As' : List Ad} {b : Bx} {x : Ad} (h : DmL B w v As b As' x) {vis : Bx → Nm → Option ByteArray} (hd : IsDm vis (adD As)) {n : Nm} {d : ByteArray} (hlt : ∀ b' n', vis b' n' ≠ none → ltB b' b ∨ (b' = b ∧ bysN n' < bysN n)) (a' : Option Addr) (n' c' : Nat) : IsDm (vis1 vis b n d) (adD (As' ++ [⟨x.b, a', n', c', x.es ++ [(n, d)]⟩])) := by
  obtain ⟨_, hb, h3⟩ := h
  have hD : adD (As' ++ [⟨x.b, a', n', c', x.es ++ [(n, d)]⟩]) = adD As' ++ [(b, x.es ++ [(n, d)])] := by unfold adD; rw [List.map_append, ← hb]; rfl
  rw [hD]
  rcases h3 with e | ⟨e1, e2, e3⟩
  · have hD2 : adD As = adD As' ++ [(b, x.es)] := by rw [e]; unfold adD; rw [List.map_append, ← hb]; rfl
    rw [hD2] at hd
    exact hd.old hlt
  · rw [e2, ← e1]
    exact hd.fresh hlt e3

theorem newA_no {As : List Ad} {b : Bx} (h : newA As b = true) : ∀ D0 y, adD As = D0 ++ [y] → ¬ y.1 = b := fun D0 y e e2 => by
  unfold newA at h
  have hl : (adD As).getLast? = some y := by rw [e]; simp
  unfold adD at hl
  rw [List.getLast?_map] at hl
  cases hg : As.getLast? with
  | none => rw [hg] at hl; cases hl
  | some x =>
    rw [hg] at hl h
    simp only [Option.map_some, Option.some.injEq] at hl
    subst hl
    simp at h
    exact h e2

theorem newA_yes {As : List Ad} {b : Bx} (h : newA As b = false) : ∃ As' x, As = As' ++ [x] ∧ x.b = b := by
  unfold newA at h
  cases hg : As.getLast? with
  | none => rw [hg] at h; cases h
  | some x =>
    rw [hg] at h
    simp at h
    have hne : As ≠ [] := fun e => by rw [e] at hg; cases hg
    refine ⟨As.dropLast, x, ?_, h⟩
    rw [List.getLast?_eq_some_getLast hne] at hg
    injection hg with hg
    rw [← hg, List.dropLast_concat_getLast]

end Go.Proofs.Ythignkloecfcbaa
