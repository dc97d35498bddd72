/-
  Layer 13: maps of whatever keys to whatever is read as data.
-/
import Derived.Test.YtjlkchjcmiljjaaDoorChA
namespace Go.Proofs.YtjlkchjcmiljjaaDoor
open Go.RowKit Go.Maps

/-- How a map's elements are read. -/
structure RdG {β : Type} (R : Value → Option (DataW Unit × List MemPlace)) (val : β → Value) (dv : β → DataW Unit) (nv : Value) (zd : DataW Unit) : Prop where
  say : ∀ x, R (val x) = some (dv x, [])
  inv : ∀ v x ps, R v = some (dv x, ps) → v = val x
  nmk : R nv = some (zd, [])
  ninv : ∀ v ps, R v = some (zd, ps) → v = nv

section
variable {κ β : Type} {kl : κ → Lit} {dv : β → DataW Unit}

def entG (kl : κ → Lit) (dv : β → DataW Unit) (p : κ × β) : Lit × DataW Unit := (kl p.1, dv p.2)

def mpG (kl : κ → Lit) (dv : β → DataW Unit) (L : List (κ × β)) : DataW Unit := .map (L.map (entG kl dv))

def getG [DecidableEq κ] (s : κ) (L : List (κ × β)) : Option β := (L.find? (fun p => decide (p.1 = s))).map (·.2)

def delG [DecidableEq κ] (s : κ) (L : List (κ × β)) : List (κ × β) := L.filter (fun p => !decide (p.1 = s))

def insG (kl : κ → Lit) (x : κ × β) : List (κ × β) → List (κ × β)
  | [] => [x]
  | y :: r => if (kl x.1).before (kl y.1) then x :: y :: r else y :: insG kl x r

def putG [DecidableEq κ] (kl : κ → Lit) (s : κ) (f : β) (L : List (κ × β)) : List (κ × β) := insG kl (s, f) (delG s L)

theorem mpG_ins (x : κ × β) (L : List (κ × β)) : DataW.insert (entG kl dv x) (L.map (entG kl dv)) = (insG kl x L).map (entG kl dv) := by
  induction L with
  | nil => rfl
  | cons y r ih =>
    rw [List.map_cons, DataW.insert, insG]
    by_cases h : (kl x.1).before (kl y.1) = true
    · rw [if_pos (by exact h), if_pos h]; rfl
    · rw [if_neg (by exact h), if_neg h, ih]; rfl

theorem filter_entG [DecidableEq κ] (hK : KL kl) (s : κ) (L : List (κ × β)) : (L.map (entG kl dv)).filter (fun p => !p.1.sameKey (kl s)) = (delG s L).map (entG kl dv) := by
  induction L with
  | nil => rfl
  | cons y r ih =>
    have e : (entG kl dv y).1.sameKey (kl s) = decide (y.1 = s) := hK.same y.1 s
    rw [List.map_cons, List.filter_cons, e]
    unfold delG at ih ⊢
    rw [List.filter_cons]
    split
    · rw [List.map_cons, ih]
    · exact ih

theorem mpG_put [DecidableEq κ] (hK : KL kl) (s : κ) (f : β) (L : List (κ × β)) : (mpG kl dv L).put (kl s) (dv f) = mpG kl dv (putG kl s f L) := by
  unfold mpG DataW.put putG
  simp only
  rw [filter_entG hK]
  congr 1
  exact mpG_ins (s, f) (delG s L)

theorem mpG_at [DecidableEq κ] (hK : KL kl) (s : κ) (L : List (κ × β)) (z : DataW Unit) : (mpG kl dv L).atKey (kl s) z = match getG s L with | some f => dv f | none => z := by
  unfold mpG DataW.atKey getG
  simp only
  induction L with
  | nil => rfl
  | cons y r ih =>
    have e : (entG kl dv y).1.sameKey (kl s) = decide (y.1 = s) := hK.same y.1 s
    rw [List.map_cons, List.find?_cons, List.find?_cons, e]
    cases decide (y.1 = s) with
    | true => rfl
    | false => exact ih

theorem mpG_has [DecidableEq κ] (hK : KL kl) (s : κ) (L : List (κ × β)) : Maps.has (mpG kl dv L) (kl s) = (getG s L).isSome := by
  unfold mpG Maps.has getG
  simp only
  induction L with
  | nil => rfl
  | cons y r ih =>
    have e : (entG kl dv y).1.sameKey (kl s) = decide (y.1 = s) := hK.same y.1 s
    rw [List.map_cons, List.any_cons, List.find?_cons, e]
    cases decide (y.1 = s) with
    | true => rfl
    | false => rw [Bool.false_or]; exact ih

theorem mpG_size (L : List (κ × β)) : Maps.size (mpG kl dv L) = L.length := by unfold mpG; rw [size_eq, List.length_map]

/-- A map. -/
def MpG (kt : TypeId) (R : Value → Option (DataW Unit × List MemPlace)) (kl : κ → Lit) (dv : β → DataW Unit) (w : World) (b : Nat) (L : List (κ × β)) : Prop := w.ownsMap Tryd.prog kt R b L.length (mpG kl dv L)

variable {kt : TypeId} {R : Value → Option (DataW Unit × List MemPlace)} {w : World} {b : Nat} {L : List (κ × β)} {val : β → Value} {nv : Value} {zd : DataW Unit}

theorem MpG.tight {n : Nat} (h : w.ownsMap Tryd.prog kt R b n (mpG kl dv L)) : MpG kt R kl dv w b L := by
  obtain ⟨es, clock, h1, h2, h3, h4⟩ := h
  refine ⟨es, clock, h1, h2, ?_, h4⟩
  have h5 := congrArg Maps.size h4
  rw [mpG_size] at h5
  rw [h5]
  simp [Maps.size, length_sorted]

theorem MpG.new (w : World) : MpG kt R kl dv (w.alloc (.map #[] 0)) w.heap.size [] := World.ownsMap_made w Tryd.prog kt R

theorem MpG.lt (h : MpG kt R kl dv w b L) : b < w.heap.size := World.ownsMap.lt h

theorem MpG.kept {F : Nat → Prop} {w' : World} (h : MpG kt R kl dv w b L) (hk : Kept F w w') (hF : ¬ F b) : MpG kt R kl dv w' b L := by
  obtain ⟨es, clock, h1, h2⟩ := h
  refine ⟨es, clock, ?_, h2⟩
  rw [hk.block b (Array.getElem?_eq_some_iff.1 h1).1 hF]
  exact h1

/-- v, ok := m[s]. -/
theorem MpG.look [DecidableEq κ] (h : MpG kt R kl dv w b L) (hK : KL kl) (hV : RdG R val dv nv zd) (K : Keyed Tryd.prog kt) (t e : TypeId) (ht : Tryd.prog.underlying t = some (.map kt e)) (hz : (zeroValue e).run Tryd.prog w = .ok nv w) (s : κ) (kv : Value) (hs : keyOf Tryd.prog kt kv = some (kl s)) :
    (Instr.lookup t (.map (some b)) kv true).run Tryd.prog w = .ok (.tuple #[(getG s L).elim nv val, .bool (getG s L).isSome]) w := by
  obtain ⟨v, ps, h1, h2⟩ := World.ownsMap.look_ok (t := t) h K ht hz (zd := zd) (zp := []) hV.nmk hs
  rw [mpG_at hK] at h2
  rw [h1, mpG_has hK]
  cases hg : getG s L with
  | none => rw [hg] at h2; rw [hV.ninv _ _ h2]; rfl
  | some f => rw [hg] at h2; rw [hV.inv _ _ _ h2]; rfl

/-- m[s] = f. -/
theorem MpG.put [DecidableEq κ] (h : MpG kt R kl dv w b L) (hK : KL kl) (hV : RdG R val dv nv zd) (K : Keyed Tryd.prog kt) (t e : TypeId) (ht : Tryd.prog.underlying t = some (.map kt e)) (s : κ) (kv : Value) (hs : keyOf Tryd.prog kt kv = some (kl s)) (hL : L.length ≤ 1000000000) (f : β) :
    ∃ w', (Instr.mapUpdate t (.map (some b)) kv (val f)).run Tryd.prog w = .ok () w' ∧ MpG kt R kl dv w' b (putG kl s f L) ∧ Kept (· = b) w w' := by
  obtain ⟨w', h1, h2, h3⟩ := World.ownsMap.store (t := t) h K ht (by unfold maxLen; omega) hs (d := dv f) (ps := []) (val := val f) (hV.say f)
  rw [mpG_put hK] at h2
  exact ⟨w', h1, MpG.tight h2, turnedK h3⟩

theorem MpG.len (h : MpG kt R kl dv w b L) (t e : TypeId) (ht : Tryd.prog.underlying t = some (.map kt e)) (ty : TypeId) : (Builtin.len_ #[t] ty #[.map (some b)]).run Tryd.prog w = .ok (.int .i64 (L.length : Nat)) w := by
  have := World.ownsMap.len (t := t) h ht ty
  rw [mpG_size] at this
  exact this

theorem MpG.apart (h : MpG kt R kl dv w b L) (K : Keyed Tryd.prog kt) : L.Pairwise (fun p q => p.1 ≠ q.1) := by
  obtain ⟨es, e, h1, _⟩ := World.ownsMap.canon h K
  unfold mpG at e
  simp only [DataW.map.injEq] at e
  rw [← e] at h1
  have h2 := List.pairwise_map.1 (apart_of_rising h1)
  exact h2.imp (fun h e => h (by show kl _ = kl _; rw [e]))

theorem delG_len [DecidableEq κ] (s : κ) (L : List (κ × β)) : (delG s L).length ≤ L.length := List.length_filter_le _ _

theorem insG_len (x : κ × β) (L : List (κ × β)) : (insG kl x L).length = L.length + 1 := by
  induction L with
  | nil => rfl
  | cons y r ih => rw [insG]; split <;> simp [ih]

theorem putG_len [DecidableEq κ] (s : κ) (f : β) (L : List (κ × β)) : 1 ≤ (putG kl s f L).length ∧ (putG kl s f L).length ≤ L.length + 1 := by
  unfold putG
  rw [insG_len]
  have := delG_len s L
  omega

theorem insG_mem {x p : κ × β} {L : List (κ × β)} : p ∈ insG kl x L ↔ p = x ∨ p ∈ L := by
  induction L with
  | nil => simp [insG]
  | cons y r ih =>
    rw [insG]
    split
    · simp
    · rw [List.mem_cons, ih, List.mem_cons]
      constructor
      · rintro (h | h | h)
        · exact .inr (.inl h)
        · exact .inl h
        · exact .inr (.inr h)
      · rintro (h | h | h)
        · exact .inr (.inl h)
        · exact .inl h
        · exact .inr (.inr h)

theorem putG_mem [DecidableEq κ] {s : κ} {f : β} {L : List (κ × β)} {p : κ × β} : p ∈ putG kl s f L ↔ p = (s, f) ∨ (p ∈ L ∧ p.1 ≠ s) := by
  unfold putG
  rw [insG_mem]
  unfold delG
  rw [List.mem_filter]
  simp

theorem getG_mem [DecidableEq κ] {s : κ} {L : List (κ × β)} {f : β} (h : getG s L = some f) : (s, f) ∈ L := by
  unfold getG at h
  cases hf : L.find? (fun p => decide (p.1 = s)) with
  | none => rw [hf] at h; cases h
  | some p =>
    rw [hf] at h
    simp only [Option.map_some, Option.some.injEq] at h
    have h1 := List.find?_some hf
    have h2 := List.mem_of_find?_eq_some hf
    simp only [decide_eq_true_eq] at h1
    rw [← h1, ← h]
    exact h2

theorem getG_none [DecidableEq κ] {s : κ} {L : List (κ × β)} (h : getG s L = none) {p : κ × β} (hp : p ∈ L) : p.1 ≠ s := by
  unfold getG at h
  rw [Option.map_eq_none_iff, List.find?_eq_none] at h
  have := h p hp
  simpa using this

/-- Where keys stand once, who stands there is who is found. -/
theorem getG_of_mem [DecidableEq κ] {s : κ} {L : List (κ × β)} {f : β} (ha : L.Pairwise (fun p q => p.1 ≠ q.1)) (h : (s, f) ∈ L) : getG s L = some f := by
  induction L with
  | nil => cases h
  | cons p L ih =>
    rw [List.pairwise_cons] at ha
    unfold getG
    rw [List.find?_cons]
    by_cases e : p.1 = s
    · rw [decide_eq_true e]
      rcases List.mem_cons.1 h with h | h
      · rw [← h]; rfl
      · exact absurd e (ha.1 _ h)
    · rw [decide_eq_false e]
      rcases List.mem_cons.1 h with h | h
      · exact absurd (by rw [← h]) e
      · exact ih ha.2 h

/-- Of whom nobody stands there. -/
theorem getG_eq_none [DecidableEq κ] {s : κ} {L : List (κ × β)} (h : ∀ p ∈ L, p.1 ≠ s) : getG s L = none := by
  cases hg : getG s L with
  | none => rfl
  | some f => exact absurd rfl (h _ (getG_mem hg))

theorem insG_apart {x : κ × β} {L : List (κ × β)} (ha : L.Pairwise (fun p q => p.1 ≠ q.1)) (hx : ∀ p ∈ L, p.1 ≠ x.1) : (insG kl x L).Pairwise (fun p q => p.1 ≠ q.1) := by
  induction L with
  | nil => simp [insG]
  | cons y r ih =>
    rw [insG]
    split
    · exact List.pairwise_cons.2 ⟨fun q hq e => hx q hq e.symm, ha⟩
    · rw [List.pairwise_cons] at ha ⊢
      refine ⟨fun q hq => ?_, ih ha.2 (fun p hp => hx p (List.mem_cons_of_mem _ hp))⟩
      rcases insG_mem.1 hq with rfl | h
      · exact hx y (List.mem_cons_self ..)
      · exact ha.1 q h

theorem putG_apart [DecidableEq κ] {s : κ} {f : β} {L : List (κ × β)} (ha : L.Pairwise (fun p q => p.1 ≠ q.1)) : (putG kl s f L).Pairwise (fun p q => p.1 ≠ q.1) := by
  refine insG_apart (List.Pairwise.filter _ ha) (fun p hp => ?_)
  unfold delG at hp
  have := (List.mem_filter.1 hp).2
  simpa using this

theorem getG_put [DecidableEq κ] {s t : κ} {f : β} {L : List (κ × β)} (ha : L.Pairwise (fun p q => p.1 ≠ q.1)) : getG t (putG kl s f L) = if s = t then some f else getG t L := by
  split
  · rename_i e
    subst e
    exact getG_of_mem (putG_apart ha) (putG_mem.2 (.inl rfl))
  · rename_i e
    cases hg : getG t L with
    | none => exact getG_eq_none (fun p hp => by
        rcases putG_mem.1 hp with rfl | h
        · exact e
        · exact getG_none hg h.1)
    | some g => exact getG_of_mem (putG_apart ha) (putG_mem.2 (.inr ⟨getG_mem hg, fun e2 => e e2.symm⟩))

end

end Go.Proofs.YtjlkchjcmiljjaaDoor
