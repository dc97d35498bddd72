import Derived.Test.YtljlmfnbeofmmaaGreatDoorHRow
namespace Go.Proofs.YtljlmfnbeofmmaaGreatDoor

abbrev Up (l : List Nat) : Prop := l.Pairwise (· ≤ ·)

def mg : List Nat → List Nat → List (Nat × Bool)
 | l, [] => l.map (fun a => (a, false))
 | l, p :: ps => (l.takeWhile (fun a => decide (a ≤ p))).map (fun a => (a, false)) ++ (p, true) :: mg (l.dropWhile (fun a => decide (a ≤ p))) ps

theorem fst_leaf (l : List Nat) : (l.map (fun a => (a, false))).map (·.1) = l := by
 induction l with
 | nil => rfl
 | cons a r ih => rw [List.map_cons, List.map_cons, ih]

theorem mg_nil (l : List Nat) : mg l [] = l.map (fun a => (a, false)) := by simp [mg]
theorem mg_leaf {a p : Nat} (l ps : List Nat) (h : a ≤ p) : mg (a :: l) (p :: ps) = (a, false) :: mg l (p :: ps) := by simp [mg, h]
theorem mg_pack {a p : Nat} (l ps : List Nat) (h : ¬ a ≤ p) : mg (a :: l) (p :: ps) = (p, true) :: mg (a :: l) ps := by simp [mg, h]
theorem mg_none (p : Nat) (ps : List Nat) : mg [] (p :: ps) = (p, true) :: mg [] ps := by simp [mg]

theorem mg_ind {motive : List Nat → List Nat → Prop} (h1 : ∀ l, motive l []) (h2 : ∀ a l p ps, a ≤ p → motive l (p :: ps) → motive (a :: l) (p :: ps))
  (h3 : ∀ a l p ps, ¬ a ≤ p → motive (a :: l) ps → motive (a :: l) (p :: ps)) (h4 : ∀ p ps, motive [] ps → motive [] (p :: ps)) (l ps : List Nat) : motive l ps := by
 induction ps generalizing l with
 | nil => exact h1 l
 | cons p ps ih =>
  induction l with
  | nil => exact h4 p ps (ih [])
  | cons a l ihl =>
   by_cases h : a ≤ p
   ·exact h2 a l p ps h ihl
   ·exact h3 a l p ps h (ih (a :: l))

theorem mg_leaves (l ps : List Nat) : ((mg l ps).filter (fun x => !x.2)).map (·.1) = l := by
 refine mg_ind (motive := fun l ps => ((mg l ps).filter (fun x => !x.2)).map (·.1) = l) ?_ ?_ ?_ ?_ l ps
 ·intro l
  rw [mg_nil, List.filter_eq_self.2 (by simp)]
  exact fst_leaf l
 ·intro a l p ps h ih; rw [mg_leaf _ _ h, List.filter_cons_of_pos (by simp), List.map_cons, ih]
 ·intro a l p ps h ih; rw [mg_pack _ _ h, List.filter_cons_of_neg (by simp), ih]
 ·intro p ps ih; rw [mg_none, List.filter_cons_of_neg (by simp), ih]

theorem mg_packs (l ps : List Nat) : ((mg l ps).filter (fun x => x.2)).map (·.1) = ps := by
 refine mg_ind (motive := fun l ps => ((mg l ps).filter (fun x => x.2)).map (·.1) = ps) ?_ ?_ ?_ ?_ l ps
 ·intro l; rw [mg_nil, List.filter_eq_nil_iff.2 (by simp)]; rfl
 ·intro a l p ps h ih; rw [mg_leaf _ _ h, List.filter_cons_of_neg (by simp), ih]
 ·intro a l p ps h ih; rw [mg_pack _ _ h, List.filter_cons_of_pos (by simp), List.map_cons, ih]
 ·intro p ps ih; rw [mg_none, List.filter_cons_of_pos (by simp), List.map_cons, ih]

theorem mg_perm (l ps : List Nat) : ((mg l ps).map (·.1)).Perm (l ++ ps) := by
 refine mg_ind (motive := fun l ps => ((mg l ps).map (·.1)).Perm (l ++ ps)) ?_ ?_ ?_ ?_ l ps
 ·intro l; rw [mg_nil, fst_leaf, List.append_nil]
 ·intro a l p ps h ih; rw [mg_leaf _ _ h]; exact ih.cons a
 ·intro a l p ps h ih
  rw [mg_pack _ _ h, List.map_cons]
  exact (ih.cons p).trans (List.perm_middle (l₁ := a :: l)).symm
 ·intro p ps ih; rw [mg_none]; exact ih.cons p

theorem mg_length (l ps : List Nat) : (mg l ps).length = l.length + ps.length := by
 have := (mg_perm l ps).length_eq
 simpa using this

theorem mg_up (l ps : List Nat) (hl : Up l) (hp : Up ps) : Up ((mg l ps).map (·.1)) := by
 revert hl hp
 refine mg_ind (motive := fun l ps => Up l → Up ps → Up ((mg l ps).map (·.1))) ?_ ?_ ?_ ?_ l ps
 ·intro l hl _; rw [mg_nil, fst_leaf]; exact hl
 ·intro a l p ps h ih hl hp
  have ha := List.pairwise_cons.1 hl
  have hb := List.pairwise_cons.1 hp
  rw [mg_leaf _ _ h, List.map_cons]
  refine List.pairwise_cons.2 ⟨fun x hx => ?_, ih ha.2 hp⟩
  rcases List.mem_append.1 ((mg_perm l (p :: ps)).mem_iff.1 hx) with h1 | h1
  ·exact ha.1 x h1
  ·rcases List.mem_cons.1 h1 with rfl | h1
   ·exact h
   ·exact Nat.le_trans h (hb.1 x h1)
 ·intro a l p ps h ih hl hp
  have ha := List.pairwise_cons.1 hl
  have hb := List.pairwise_cons.1 hp
  rw [mg_pack _ _ h, List.map_cons]
  refine List.pairwise_cons.2 ⟨fun x hx => ?_, ih hl hb.2⟩
  rcases List.mem_append.1 ((mg_perm (a :: l) ps).mem_iff.1 hx) with h1 | h1
  ·rcases List.mem_cons.1 h1 with rfl | h1
   ·omega
   ·have := ha.1 x h1; omega
  ·exact hb.1 x h1
 ·intro p ps ih hl hp
  have hb := List.pairwise_cons.1 hp
  rw [mg_none, List.map_cons]
  refine List.pairwise_cons.2 ⟨fun x hx => ?_, ih hl hb.2⟩
  rcases List.mem_append.1 ((mg_perm [] ps).mem_iff.1 hx) with h1 | h1
  ·simp at h1
  ·exact hb.1 x h1

def pk (X : List (Nat × Bool)) (T : Nat) : Nat := (X.take T).countP (fun x => x.2)
def lf (X : List (Nat × Bool)) (T : Nat) : Nat := (X.take T).countP (fun x => !x.2)

theorem pk_lf (X : List (Nat × Bool)) (T : Nat) (h : T ≤ X.length) : lf X T + pk X T = T := by
 have e : (X.take T).length = T := by simp; omega
 have := List.length_eq_countP_add_countP (fun x : Nat × Bool => x.2) (l := X.take T)
 have h2 : lf X T = (X.take T).countP (fun a => decide ¬(a.2 = true)) := by
  unfold lf
  congr 1
  funext x
  cases x.2 <;> rfl
 unfold pk at *
 omega

theorem mg_before (l ps : List Nat) (hl : Up l) (k T : Nat) (hk : k < ps.length) (hT : k + 1 ≤ pk (mg l ps) T) : l.countP (fun a => decide (a ≤ ps[k])) ≤ lf (mg l ps) T := by
 revert hl k T
 refine mg_ind (motive := fun l ps => Up l → ∀ (k T : Nat) (hk : k < ps.length), k + 1 ≤ pk (mg l ps) T → l.countP (fun a => decide (a ≤ ps[k])) ≤ lf (mg l ps) T) ?_ ?_ ?_ ?_ l ps
 ·intro l _ k T hk; simp at hk
 ·intro a l p ps h ih hl k T hk hT
  rw [mg_leaf _ _ h] at hT ⊢
  cases T with
  | zero => simp [pk] at hT
  | succ T =>
   have h1 : k + 1 ≤ pk (mg l (p :: ps)) T := by simpa [pk] using hT
   have h2 := ih (List.pairwise_cons.1 hl).2 k T hk h1
   have h3 : lf ((a, false) :: mg l (p :: ps)) (T + 1) = lf (mg l (p :: ps)) T + 1 := by simp [lf]
   rw [h3]
   have := List.countP_cons (p := fun a => decide (a ≤ (p :: ps)[k])) (a := a) (l := l)
   rw [this]
   split <;> omega
 ·intro a l p ps h ih hl k T hk hT
  rw [mg_pack _ _ h] at hT ⊢
  cases T with
  | zero => simp [pk] at hT
  | succ T =>
   have h3 : lf ((p, true) :: mg (a :: l) ps) (T + 1) = lf (mg (a :: l) ps) T := by simp [lf]
   rw [h3]
   cases k with
   | zero =>
    have : (a :: l).countP (fun x => decide (x ≤ (p :: ps)[0])) = 0 := by
     refine List.countP_eq_zero.2 (fun x hx hc => ?_)
     have hc : x ≤ p := by simpa using hc
     rcases List.mem_cons.1 hx with rfl | hx
     ·exact h hc
     ·have := (List.pairwise_cons.1 hl).1 x hx; omega
    rw [this]; omega
   | succ k =>
    have h1 : k + 1 ≤ pk (mg (a :: l) ps) T := by have h4 : k + 1 + 1 ≤ pk (mg (a :: l) ps) T + 1 := by simpa [pk] using hT
                                                  omega
    exact ih hl k T (by simpa using hk) h1
 ·intro p ps ih hl k T hk hT
  simp

def pairW : List Nat → List Nat
 | a :: b :: r => (a + b) :: pairW r
 | _ => []

theorem pairW_length : ∀ l : List Nat, (pairW l).length = l.length / 2
 | [] => rfl
 | [_] => by simp [pairW]
 | a :: b :: r => by simp only [pairW, List.length_cons, pairW_length r]; omega

theorem pairW_get : ∀ (l : List Nat) (k : Nat) (h : k < (pairW l).length), (pairW l)[k] = l[2 * k]'(by have := pairW_length l; omega) + l[2 * k + 1]'(by have := pairW_length l; omega)
 | [], k, h => by simp [pairW] at h
 | [_], k, h => by simp [pairW] at h
 | a :: b :: r, 0, h => by simp [pairW]
 | a :: b :: r, k + 1, h => by
  have h2 : k < (pairW r).length := by simpa [pairW] using h
  have := pairW_get r k h2
  simp only [pairW, List.getElem_cons_succ, this, show 2 * (k + 1) = 2 * k + 1 + 1 by omega]

theorem pairW_up (l : List Nat) (h : Up l) : Up (pairW l) := by
 refine List.pairwise_iff_getElem.2 (fun i j hi hj hij => ?_)
 rw [pairW_get l i hi, pairW_get l j hj]
 have hl := pairW_length l
 have g := fun (x y : Nat) (hx : x < l.length) (hy : y < l.length) (hxy : x < y) => List.pairwise_iff_getElem.1 h x y hx hy hxy
 have h1 := g (2 * i) (2 * j) (by omega) (by omega) (by omega)
 have h2 := g (2 * i + 1) (2 * j + 1) (by omega) (by omega) (by omega)
 omega

def lev (ws : List Nat) : Nat → List (Nat × Bool)
 | 0 => mg ws []
 | t + 1 => mg ws (pairW ((lev ws t).map (·.1)))

theorem lev_up (ws : List Nat) (h : Up ws) : ∀ t, Up ((lev ws t).map (·.1))
 | 0 => mg_up ws [] h List.Pairwise.nil
 | t + 1 => mg_up ws _ h (pairW_up _ (lev_up ws h t))

theorem lev_length_succ (ws : List Nat) (t : Nat) : (lev ws (t + 1)).length = ws.length + (lev ws t).length / 2 := by
 simp [lev, mg_length, pairW_length]

theorem lev_length_zero (ws : List Nat) : (lev ws 0).length = ws.length := by simp [lev, mg_nil]

theorem lev_length (ws : List Nat) (t : Nat) : 2 ^ t * (2 * ws.length) ≤ 2 ^ t * (lev ws t).length + ws.length + (2 ^ t - 1) ∧ (lev ws t).length ≤ 2 * ws.length := by
 induction t with
 | zero => rw [lev_length_zero]; simp; omega
 | succ t ih =>
  rw [lev_length_succ, Nat.pow_succ]
  have hp : 0 < 2 ^ t := Nat.two_pow_pos t
  generalize (lev ws t).length = L at *
  generalize ws.length = m at *
  generalize 2 ^ t = q at *
  have h1 : L ≤ 2 * (L / 2) + 1 := by omega
  have h2 : q * L ≤ q * (2 * (L / 2) + 1) := Nat.mul_le_mul_left _ h1
  have e1 : q * 2 * (2 * m) = 2 * (q * (2 * m)) := by rw [Nat.mul_assoc, ← Nat.mul_left_comm]
  have e2 : q * 2 * (m + L / 2) = q * (2 * m) + q * (2 * (L / 2)) := by rw [Nat.mul_assoc, ← Nat.mul_add]; congr 1; omega
  have e3 : q * (2 * (L / 2) + 1) = q * (2 * (L / 2)) + q := by rw [Nat.mul_add, Nat.mul_one]
  refine ⟨?_, by omega⟩
  omega

theorem lev_top (ws : List Nat) (t : Nat) (h : ws.length ≤ 2 ^ (t + 1)) : 2 * ws.length - 2 ≤ (lev ws t).length := by
 have h1 := (lev_length ws t).1
 have hp : 0 < 2 ^ t := Nat.two_pow_pos t
 rw [Nat.pow_succ] at h
 generalize (lev ws t).length = L at *
 generalize ws.length = m at *
 generalize 2 ^ t = q at *
 refine Classical.byContradiction (fun hc => ?_)
 have h2 : L + 3 ≤ 2 * m := by omega
 have h3 : q * (L + 3) ≤ q * (2 * m) := Nat.mul_le_mul_left _ h2
 rw [Nat.mul_add] at h3
 omega

theorem pk_le (ws : List Nat) (t T : Nat) : 2 * pk (lev ws (t + 1)) T ≤ (lev ws t).length := by
 have h1 : pk (lev ws (t + 1)) T ≤ (lev ws (t + 1)).countP (fun x => x.2) := by
  unfold pk
  exact List.Sublist.countP_le (List.take_sublist _ _)
 have h2 : (lev ws (t + 1)).countP (fun x => x.2) = (pairW ((lev ws t).map (·.1))).length := by
  rw [← mg_packs ws (pairW ((lev ws t).map (·.1))), List.length_map, List.countP_eq_length_filter]
  rfl
 rw [pairW_length, List.length_map] at h2
 omega

theorem pk_zero (ws : List Nat) (T : Nat) : pk (lev ws 0) T = 0 := by
 unfold pk
 refine List.countP_eq_zero.2 (fun x hx => ?_)
 have := List.mem_of_mem_take hx
 simp [lev, mg_nil] at this
 obtain ⟨a, _, rfl⟩ := this
 simp

theorem take_leaves (l ps : List Nat) (T : Nat) : (((mg l ps).take T).filter (fun x => !x.2)).map (·.1) = l.take (lf (mg l ps) T) := by
 have h := mg_leaves l ps
 have e : (mg l ps).filter (fun x => !x.2) = ((mg l ps).take T).filter (fun x => !x.2) ++ ((mg l ps).drop T).filter (fun x => !x.2) := by rw [← List.filter_append, List.take_append_drop]
 rw [e, List.map_append] at h
 generalize hA : (((mg l ps).take T).filter (fun x => !x.2)).map (·.1) = A at *
 have hl : lf (mg l ps) T = A.length := by rw [← hA, List.length_map, lf, List.countP_eq_length_filter]
 rw [hl, ← h, List.take_left']
 rfl

theorem lf_le (l ps : List Nat) (T : Nat) : lf (mg l ps) T ≤ l.length := by
 have h : lf (mg l ps) T ≤ (mg l ps).countP (fun x => !x.2) := by
  unfold lf
  exact List.Sublist.countP_le (List.take_sublist _ _)
 have h2 := congrArg List.length (mg_leaves l ps)
 rw [List.length_map, ← List.countP_eq_length_filter] at h2
 omega

theorem lev_lf_le (ws : List Nat) (t T : Nat) : lf (lev ws t) T ≤ ws.length := by
 cases t with
 | zero => exact lf_le ws [] T
 | succ t => exact lf_le ws _ T

theorem lf_down (ws : List Nat) (hu : Up ws) (t T : Nat) : lf (lev ws t) (2 * pk (lev ws (t + 1)) T) ≤ lf (lev ws (t + 1)) T := by
 generalize hp : pk (lev ws (t + 1)) T = p at *
 cases p with
 | zero => simp [lf]
 | succ p =>
  have hle := pk_le ws t T
  rw [hp] at hle
  have hpl : p < (pairW ((lev ws t).map (·.1))).length := by rw [pairW_length, List.length_map]; omega
  have h1 := mg_before ws (pairW ((lev ws t).map (·.1))) hu p T hpl (by rw [show mg ws (pairW ((lev ws t).map (·.1))) = lev ws (t + 1) from rfl, hp]; exact Nat.le_refl _)
  refine Nat.le_trans ?_ h1
  have hget := pairW_get ((lev ws t).map (·.1)) p hpl
  have hup := lev_up ws hu t
  have htl : ∃ ps, lev ws t = mg ws ps := by
   cases t with
   | zero => exact ⟨[], rfl⟩
   | succ t => exact ⟨_, rfl⟩
  obtain ⟨ps, hps⟩ := htl
  have hlv := take_leaves ws ps (2 * (p + 1))
  rw [← hps] at hlv
  have hall : ∀ a ∈ ws.take (lf (lev ws t) (2 * (p + 1))), decide (a ≤ (pairW ((lev ws t).map (·.1)))[p]) = true := by
   intro a ha
   rw [← hlv] at ha
   obtain ⟨x, hx, rfl⟩ := List.mem_map.1 ha
   have hx2 := (List.mem_filter.1 hx).1
   obtain ⟨j, hj, rfl⟩ := List.getElem_of_mem hx2
   simp only [List.length_take] at hj
   rw [List.getElem_take]
   have hlast : ((lev ws t)[j]'(by omega)).1 ≤ ((lev ws t).map (·.1))[2 * p + 1]'(by rw [List.length_map]; omega) := by
    by_cases e : j = 2 * p + 1
    ·subst e; simp
    ·have := List.pairwise_iff_getElem.1 hup j (2 * p + 1) (by rw [List.length_map]; omega) (by rw [List.length_map]; omega) (by omega)
     simpa using this
   simp only [decide_eq_true_eq]
   omega
  have h2 : (ws.take (lf (lev ws t) (2 * (p + 1)))).countP (fun a => decide (a ≤ (pairW ((lev ws t).map (·.1)))[p])) = lf (lev ws t) (2 * (p + 1)) := by
   rw [List.countP_eq_length.2 hall, List.length_take]
   have := lev_lf_le ws t (2 * (p + 1))
   omega
  rw [← h2]
  exact List.Sublist.countP_le (List.take_sublist _ _)

def gain (ws : List Nat) : Nat → Nat → Nat → Nat
 | 0, T, i => if i < lf (lev ws 0) T then 1 else 0
 | t + 1, T, i => (if i < lf (lev ws (t + 1)) T then 1 else 0) + gain ws t (2 * pk (lev ws (t + 1)) T) i

def wid (ws : List Nat) : Nat → Nat → Nat → Nat
 | 0, T, i => if i < lf (lev ws 0) T then 1 else 0
 | t + 1, T, i => (if i < lf (lev ws (t + 1)) T then 2 ^ (t + 1) else 0) + wid ws t (2 * pk (lev ws (t + 1)) T) i

theorem gain_le (ws : List Nat) (t T i : Nat) : gain ws t T i ≤ t + 1 := by
 induction t generalizing T with
 | zero => unfold gain; split <;> omega
 | succ t ih =>
  have := ih (2 * pk (lev ws (t + 1)) T)
  unfold gain
  split <;> omega

theorem gain_none (ws : List Nat) (hu : Up ws) (t T i : Nat) (h : lf (lev ws t) T ≤ i) : gain ws t T i = 0 ∧ wid ws t T i = 0 := by
 induction t generalizing T with
 | zero => unfold gain wid; rw [if_neg (by omega)]; exact ⟨rfl, rfl⟩
 | succ t ih =>
  have h2 := lf_down ws hu t T
  have := ih (2 * pk (lev ws (t + 1)) T) (by omega)
  unfold gain wid
  rw [if_neg (by omega), if_neg (by omega), this.1, this.2]
  exact ⟨rfl, rfl⟩

theorem wid_gain (ws : List Nat) (hu : Up ws) (t T i : Nat) : wid ws t T i + 2 ^ (t + 1 - gain ws t T i) = 2 ^ (t + 1) := by
 induction t generalizing T with
 | zero => unfold wid gain; split <;> simp
 | succ t ih =>
  by_cases h : i < lf (lev ws (t + 1)) T
  ·have := ih (2 * pk (lev ws (t + 1)) T)
   have hg := gain_le ws t (2 * pk (lev ws (t + 1)) T) i
   unfold wid gain
   rw [if_pos h, if_pos h, show t + 1 + 1 - (1 + gain ws t (2 * pk (lev ws (t + 1)) T) i) = t + 1 - gain ws t (2 * pk (lev ws (t + 1)) T) i by omega, Nat.pow_succ 2 (t + 1)]
   omega
  ·have := gain_none ws hu (t + 1) T i (by omega)
   rw [this.1, this.2]
   simp

def sumI (m : Nat) (f : Nat → Nat) : Nat := ((List.range m).map f).sum
theorem sumI_succ (m : Nat) (f : Nat → Nat) : sumI (m + 1) f = sumI m f + f m := by simp [sumI, List.range_succ]
theorem sumI_add (m : Nat) (f g : Nat → Nat) : sumI m (fun i => f i + g i) = sumI m f + sumI m g := by
 induction m with
 | zero => rfl
 | succ m ih => rw [sumI_succ, sumI_succ, sumI_succ, ih]; omega
theorem sumI_const (m c : Nat) : sumI m (fun _ => c) = m * c := by
 induction m with
 | zero => simp [sumI]
 | succ m ih => rw [sumI_succ, ih, Nat.add_mul, Nat.one_mul]
theorem sumI_congr (m : Nat) (f g : Nat → Nat) (h : ∀ i, i < m → f i = g i) : sumI m f = sumI m g := by
 unfold sumI
 congr 1
 exact List.map_congr_left (fun i hi => h i (by simpa using hi))
theorem sumI_first (m a c : Nat) (h : a ≤ m) : sumI m (fun i => if i < a then c else 0) = a * c := by
 induction m with
 | zero => have : a = 0 := by omega
           subst this; simp [sumI]
 | succ m ih =>
  rw [sumI_succ]
  by_cases e : a = m + 1
  ·subst e
   rw [sumI_congr m _ (fun _ => c) (fun i hi => if_pos (by omega)), sumI_const, if_pos (by omega), Nat.add_mul, Nat.one_mul]
  ·rw [ih (by omega), if_neg (by omega)]; omega
theorem wid_sum (ws : List Nat) (t T : Nat) (hT : T ≤ (lev ws t).length) : sumI ws.length (wid ws t T) = T * 2 ^ t := by
 induction t generalizing T with
 | zero =>
  have h1 := pk_lf (lev ws 0) T hT
  rw [pk_zero] at h1
  have e : wid ws 0 T = fun i => if i < lf (lev ws 0) T then 1 else 0 := by funext i; rfl
  rw [e, sumI_first _ _ _ (lev_lf_le ws 0 T)]
  simp; omega
 | succ t ih =>
  have h1 := pk_lf (lev ws (t + 1)) T hT
  have h2 := ih (2 * pk (lev ws (t + 1)) T) (pk_le ws t T)
  have e : wid ws (t + 1) T = fun i => (if i < lf (lev ws (t + 1)) T then 2 ^ (t + 1) else 0) + wid ws t (2 * pk (lev ws (t + 1)) T) i := by funext i; rfl
  rw [e, sumI_add, sumI_first _ _ _ (lev_lf_le ws (t + 1) T), h2]
  have e2 : 2 * pk (lev ws (t + 1)) T * 2 ^ t = pk (lev ws (t + 1)) T * 2 ^ (t + 1) := by rw [Nat.pow_succ, Nat.mul_comm 2, Nat.mul_assoc, Nat.mul_comm 2]
  rw [e2, ← Nat.add_mul, h1]

theorem gain_kraft (ws : List Nat) (hu : Up ws) (t : Nat) (h2 : 2 ≤ ws.length) (hm : ws.length ≤ 2 ^ (t + 1)) : sumI ws.length (fun i => 2 ^ (t + 1 - gain ws t (2 * ws.length - 2) i)) = 2 ^ (t + 1) := by
 have h1 := wid_sum ws t (2 * ws.length - 2) (lev_top ws t hm)
 have h3 : sumI ws.length (fun i => wid ws t (2 * ws.length - 2) i + 2 ^ (t + 1 - gain ws t (2 * ws.length - 2) i)) = ws.length * 2 ^ (t + 1) := by
  rw [sumI_congr _ _ (fun _ => 2 ^ (t + 1)) (fun i _ => wid_gain ws hu t _ i), sumI_const]
 rw [sumI_add] at h3
 have h4 : sumI ws.length (fun i => wid ws t (2 * ws.length - 2) i) = (2 * ws.length - 2) * 2 ^ t := h1
 rw [h4] at h3
 have e : (2 * ws.length - 2) * 2 ^ t = (ws.length - 1) * 2 ^ (t + 1) := by
  rw [show 2 * ws.length - 2 = (ws.length - 1) * 2 by omega, Nat.pow_succ, Nat.mul_assoc, Nat.mul_comm 2]
 rw [e] at h3
 have e2 : ws.length * 2 ^ (t + 1) = (ws.length - 1) * 2 ^ (t + 1) + 2 ^ (t + 1) := by
  conv => lhs; rw [show ws.length = (ws.length - 1) + 1 by omega, Nat.add_mul, Nat.one_mul]
 omega

theorem sumI_ge (m : Nat) (f : Nat → Nat) (i : Nat) (h : i < m) : f i ≤ sumI m f := by
 induction m with
 | zero => omega
 | succ m ih =>
  rw [sumI_succ]
  by_cases e : i = m
  ·subst e; omega
  ·have := ih (by omega); omega

theorem sumI_two (m : Nat) (f : Nat → Nat) (i j : Nat) (hij : i < j) (h : j < m) : f i + f j ≤ sumI m f := by
 induction m with
 | zero => omega
 | succ m ih =>
  rw [sumI_succ]
  by_cases e : j = m
  ·subst e; have := sumI_ge j f i hij; omega
  ·have := ih (by omega); omega

theorem gain_pos (ws : List Nat) (hu : Up ws) (t : Nat) (h2 : 2 ≤ ws.length) (hm : ws.length ≤ 2 ^ (t + 1)) (i : Nat) (hi : i < ws.length) : 1 ≤ gain ws t (2 * ws.length - 2) i := by
 refine Classical.byContradiction (fun hc => ?_)
 have h0 : gain ws t (2 * ws.length - 2) i = 0 := by omega
 have hk := gain_kraft ws hu t h2 hm
 have hpos := fun j => Nat.two_pow_pos (t + 1 - gain ws t (2 * ws.length - 2) j)
 by_cases e : i = 0
 ·have := sumI_two ws.length (fun i => 2 ^ (t + 1 - gain ws t (2 * ws.length - 2) i)) 0 1 (by omega) (by omega)
  have h3 := hpos 1
  subst e
  simp only [h0, Nat.sub_zero] at this
  omega
 ·have := sumI_two ws.length (fun i => 2 ^ (t + 1 - gain ws t (2 * ws.length - 2) i)) 0 i (by omega) hi
  have h3 := hpos 0
  simp only [h0, Nat.sub_zero] at this
  omega

end Go.Proofs.YtljlmfnbeofmmaaGreatDoor
