import Derived.Test.YtljlmfnbeofmmaaGreatDoorHRange
namespace Go.Proofs.YtljlmfnbeofmmaaGreatDoor
open Go.RowKit Go.Shelf

attribute [local go_sem] Oper.semAt_some

def outP (ns : List Nat) (p : Nat → Nat) : List Nat := (List.range ns.length).map (fun s => if key ns s = 0 then 0 else p ((ris ns).idxOf s))

theorem outP_length (ns : List Nat) (p : Nat → Nat) : (outP ns p).length = ns.length := by simp [outP]

theorem idx_ris (ns : List Nat) (j : Nat) (h : j < (ris ns).length) : (ris ns).idxOf (ris ns)[j] = j := (ris_nodup ns).idxOf_getElem j h

theorem outP_get (ns : List Nat) (p : Nat → Nat) (j : Nat) (h : j < (ris ns).length) (hl : (ris ns)[j] < (outP ns p).length) : (outP ns p)[(ris ns)[j]] = p j := by
 have h0 := (mem_ris.1 (List.getElem_mem h)).2
 simp only [outP, List.getElem_map, List.getElem_range]
 rw [if_neg h0, idx_ris ns j h]

theorem outP_set (ns : List Nat) (p : Nat → Nat) (j v : Nat) (h : j < (ris ns).length) : (outP ns p).set (ris ns)[j] v = outP ns (fun i => if i = j then v else p i) := by
 unfold outP
 refine List.ext_getElem (by simp) (fun s h1 h2 => ?_)
 simp only [List.getElem_set, List.getElem_map, List.getElem_range]
 have h0 := (mem_ris.1 (List.getElem_mem h)).2
 by_cases e : (ris ns)[j] = s
 ·subst e
  rw [if_pos rfl, if_neg h0, idx_ris ns j h, if_pos rfl]
 ·rw [if_neg e]
  by_cases hk : key ns s = 0
  ·rw [if_pos hk, if_pos hk]
  ·rw [if_neg hk, if_neg hk]
   have hm : s ∈ ris ns := mem_ris.2 ⟨by simpa using h2, hk⟩
   rw [if_neg]
   intro hi
   apply e
   have hlt : (ris ns).idxOf s < (ris ns).length := List.idxOf_lt_length_of_mem hm
   have := List.getElem_idxOf hlt
   simp only [hi] at this
   exact this

theorem outP_congr (ns : List Nat) (p q : Nat → Nat) (h : ∀ i, i < (ris ns).length → p i = q i) : outP ns p = outP ns q := by
 unfold outP
 refine List.map_congr_left (fun s hs => ?_)
 by_cases hk : key ns s = 0
 ·rw [if_pos hk, if_pos hk]
 ·rw [if_neg hk, if_neg hk]
  have hm : s ∈ ris ns := mem_ris.2 ⟨by simpa using hs, hk⟩
  exact h _ (List.idxOf_lt_length_of_mem hm)

theorem outP_zero (ns : List Nat) : outP ns (fun _ => 0) = List.replicate ns.length 0 := by
 unfold outP
 simp [List.map_const']

theorem NRow.apartT {B B' : Nat} {w : World} {v v' : Value} {its : List (Nat × Bool)} {xs : List Nat} (h : TRow B w v its) (h' : NRow B' w v' xs) {j g : Nat} (hj : v.ownBlock = some j) (hg : v'.ownBlock = some g) : j ≠ g := by
 rintro rfl
 rcases h.2 with ⟨rfl, _⟩ | ⟨g1, c1, cur1, rfl, _, e1, _⟩
 ·simp [Value.ownBlock] at hj
 ·rcases h'.2 with ⟨rfl, _⟩ | ⟨g2, c2, cur2, rfl, _, e2, _⟩
  ·simp [Value.ownBlock] at hg
  ·simp [Value.ownBlock] at hj hg
   subst hj hg
   rw [e1] at e2
   simp at e2

theorem NRow.apartL {B B' : Nat} {w : World} {v v' : Value} {vs : List (Option Addr × Nat × Nat)} {xs : List Nat} (h : LRow B w v vs) (h' : NRow B' w v' xs) {j g : Nat} (hj : v.ownBlock = some j) (hg : v'.ownBlock = some g) : j ≠ g := by
 rintro rfl
 rcases h.2 with ⟨rfl, _⟩ | ⟨g1, c1, cur1, rfl, _, e1, _⟩
 ·simp [Value.ownBlock] at hj
 ·rcases h'.2 with ⟨rfl, _⟩ | ⟨g2, c2, cur2, rfl, _, e2, _⟩
  ·simp [Value.ownBlock] at hg
  ·simp [Value.ownBlock] at hj hg
   subst hj hg
   rw [e1] at e2
   simp at e2

structure LI (ns : List Nat) (most : Nat) (w3 : World) (go bt n cn : Nat) (k : Nat) (W : World) (T : Nat) (p : Nat → Nat) : Prop where
 ct : W.cell? ⟨bt, 0, none⟩ = some (.int .i64 (T : Nat))
 ft : W.frozen? ⟨bt, 0, none⟩ = false
 row : NRow 0 W (.slice (some ⟨go, 0, none⟩) n cn) (outP ns p)
 kept : Kept (fun j => j = go ∨ j = bt) w3 W
 hT : T ≤ 600
 hp : ∀ i, p i ≤ k
 more : k < most → T ≤ (lev (wsOf ns) (most - 1 - k)).length ∧ ∀ i, p i + gain (wsOf ns) (most - 1 - k) T i = gain (wsOf ns) (most - 1) (2 * (wsOf ns).length - 2) i
 done : k = most → ∀ i, p i = gain (wsOf ns) (most - 1) (2 * (wsOf ns).length - 2) i

theorem LI.own (ns : List Nat) (most : Nat) (w3 : World) (go bt n cn : Nat) : OwnFrom w3.heap.size (fun k W => ∃ T p, LI ns most w3 go bt n cn k W T p) := by
 rintro k W W' row ⟨T, p, h⟩ hg hr
 have hcells : ∀ b v, W.cell? ⟨b, 0, none⟩ = some v → some b ≠ row := by
  intro b v hc e
  obtain ⟨_, o, ho, hoc⟩ := hr b e.symm
  simp only [World.cell?, ho] at hc
  cases o <;> simp_all [Obj.isCells]
 have hgo : some go ≠ row := by
  intro e
  obtain ⟨_, o, ho, hoc⟩ := hr go e.symm
  rcases h.row.2 with ⟨e1, _⟩ | ⟨g2, c2, cur2, e1, _, e2, _⟩
  ·simp at e1
  ·simp only [Value.slice.injEq, Option.some.injEq, Addr.mk.injEq, and_true] at e1
   obtain ⟨rfl, _⟩ := e1
   rw [ho] at e2
   simp at e2
   subst e2
   simp [Obj.isCells] at hoc
 have hbt := hcells bt _ h.ct
 have hbl : bt < W.heap.size := World.block_lt_of_cell? W _ h.ct
 refine ⟨T, p, ?_, ?_, World.ownsRow.kept h.row hg (.inr hgo), h.kept.grown hg (fun j e => .inr (hr j e).1), h.hT, h.hp, h.more, h.done⟩
 ·exact hg.cell h.ct hbt
 ·exact (World.frozen?_of_block (hg.block bt hbl hbt)).trans h.ft

end Go.Proofs.YtljlmfnbeofmmaaGreatDoor
