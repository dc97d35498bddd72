/-
  Layer 17: mathematics: what tenants have, may have and have reserved.
-/
import Derived.Test.YtjlkchjcmiljjaaDoorTns
namespace Go.Proofs.YtjlkchjcmiljjaaDoor

/-- A use, or a change of one. -/
structure Us where
  b : Int
  e : Int
  deriving DecidableEq

instance : Inhabited Us := ⟨⟨0, 0⟩⟩

/-- A reservation: its number, whose it is, of what. -/
structure Hd where
  id : Nat
  ten : Nat
  m : Us

instance : Inhabited Hd := ⟨⟨0, 0, default⟩⟩

/-- A book's state: the uses, the reservations, the last one's number. -/
structure Sq where
  us : List Us
  hs : List Hd
  last : Nat

def Us.up (u : Us) : Us := ⟨max 0 u.b, max 0 u.e⟩
def Us.add (u v : Us) : Us := ⟨u.b + v.b, u.e + v.e⟩
def Us.sub (u v : Us) : Us := ⟨u.b - v.b, u.e - v.e⟩
/-- Both within these. -/
def Us.inn (u : Us) (l h : Int) : Prop := l ≤ u.b ∧ u.b ≤ h ∧ l ≤ u.e ∧ u.e ≤ h
instance (u : Us) (l h : Int) : Decidable (u.inn l h) := by unfold Us.inn; infer_instance
def Us.le (u v : Us) : Prop := u.b ≤ v.b ∧ u.e ≤ v.e
instance (u v : Us) : Decidable (u.le v) := by unfold Us.le; infer_instance

/-- All that is reserved for a tenant. -/
def heldL (k : Nat) : List Hd → Us
  | [] => ⟨0, 0⟩
  | h :: r => if h.ten = k then h.m.up.add (heldL k r) else heldL k r

theorem heldL_app (k : Nat) (l r : List Hd) : heldL k (l ++ r) = (heldL k l).add (heldL k r) := by
  induction l with
  | nil => simp [heldL, Us.add]
  | cons h t ih =>
    rw [List.cons_append, heldL, heldL, ih]
    split
    · simp only [Us.add, Us.mk.injEq]; constructor <;> omega
    · rfl

theorem heldL_pos (k : Nat) (l : List Hd) : 0 ≤ (heldL k l).b ∧ 0 ≤ (heldL k l).e := by
  induction l with
  | nil => simp [heldL]
  | cons h t ih =>
    rw [heldL]
    split
    · simp only [Us.add, Us.up]; omega
    · exact ih

/-- Where a tenant stands. -/
def idxT (xs : List Tn) (s : ByteArray) : Option Nat := xs.findIdx? (fun t => decide (t.n = s))

theorem idxT_some {xs : List Tn} {s : ByteArray} {k : Nat} (h : idxT xs s = some k) : ∃ t, xs[k]? = some t ∧ t.n = s := by
  unfold idxT at h
  rw [List.findIdx?_eq_some_iff_getElem] at h
  obtain ⟨hk, h1, _⟩ := h
  exact ⟨xs[k], List.getElem?_eq_getElem hk, by simpa using h1⟩

theorem idxT_lt {xs : List Tn} {s : ByteArray} {k : Nat} (h : idxT xs s = some k) : k < xs.length := by
  obtain ⟨t, ht, _⟩ := idxT_some h
  exact (List.getElem?_eq_some_iff.1 ht).1

theorem idxT_none {xs : List Tn} {s : ByteArray} (h : idxT xs s = none) : ∀ t ∈ xs, t.n ≠ s := by
  unfold idxT at h
  rw [List.findIdx?_eq_none_iff] at h
  intro t ht
  have := h t ht
  simpa using this

theorem GoodT.idx {xs : List Tn} (hg : GoodT xs) {k : Nat} {t : Tn} (h : xs[k]? = some t) : idxT xs t.n = some k := by
  unfold idxT
  obtain ⟨hk, ht⟩ := List.getElem?_eq_some_iff.1 h
  rw [List.findIdx?_eq_some_iff_getElem]
  refine ⟨hk, by simp [ht], fun j hj => ?_⟩
  have h2 := List.pairwise_iff_getElem.1 hg.2 j k (by omega) hk hj
  rw [ht] at h2
  simpa using h2

def mayT (xs : List Tn) (k : Nat) : Us := ⟨(xs.getD k default).b, (xs.getD k default).e⟩
def Sq.use (S : Sq) (k : Nat) : Us := S.us.getD k default
def Sq.held (S : Sq) (k : Nat) : Us := heldL k S.hs
/-- What is left. -/
def leftQ (xs : List Tn) (S : Sq) (k : Nat) : Us := (((mayT xs k).sub ((S.use k).add (S.held k)))).up

def Sq.set (S : Sq) (k : Nat) (u : Us) : Sq := { S with us := S.us.set k u }
def Sq.res (S : Sq) (k : Nat) (m : Us) : Sq := ⟨S.us, S.hs ++ [⟨S.last + 1, k, m⟩], S.last + 1⟩
def Sq.find (S : Sq) (id : Int) : Option Hd := S.hs.find? (fun h => decide ((h.id : Int) = id))
def Sq.gone (S : Sq) (id : Int) : Sq := { S with hs := S.hs.eraseP (fun h => decide ((h.id : Int) = id)) }

/-- What is always so. -/
structure Qv (xs : List Tn) (S : Sq) : Prop where
  good : GoodT xs
  n8 : xs.length ≤ 8
  len : S.us.length = xs.length
  use : ∀ k, k < xs.length → 0 ≤ (S.use k).b ∧ 0 ≤ (S.use k).e
  sum : ∀ k, k < xs.length → ((S.use k).add (S.held k)).le ⟨2000000000, 2000000000⟩
  hel : ∀ k, k < xs.length → (S.held k).le (mayT xs k)
  ids : ∀ h ∈ S.hs, 1 ≤ h.id ∧ h.id ≤ S.last ∧ h.ten < xs.length ∧ h.m.inn (-1000000000) 1000000000
  ap : S.hs.Pairwise (fun a b => a.id ≠ b.id)
  cnt : S.hs.length ≤ S.last

theorem GoodT.may {xs : List Tn} (hg : GoodT xs) {k : Nat} (hk : k < xs.length) : (mayT xs k).inn 0 1000000000 := by
  have h1 := hg.1 xs[k] (List.getElem_mem hk)
  unfold tnB shrB at h1
  simp only [Bool.and_eq_true, decide_eq_true_eq] at h1
  unfold mayT Us.inn
  rw [List.getD_eq_getElem?_getD, List.getElem?_eq_getElem hk]
  simp only [Option.getD_some]
  omega

theorem Qv.num {xs : List Tn} {S : Sq} (h : Qv xs S) {k : Nat} (hk : k < xs.length) : (mayT xs k).inn 0 1000000000 ∧ 0 ≤ (S.use k).b ∧ 0 ≤ (S.use k).e ∧ 0 ≤ (S.held k).b ∧ 0 ≤ (S.held k).e ∧ (S.use k).b + (S.held k).b ≤ 2000000000 ∧ (S.use k).e + (S.held k).e ≤ 2000000000 ∧ (S.held k).b ≤ (mayT xs k).b ∧ (S.held k).e ≤ (mayT xs k).e :=
  ⟨h.good.may hk, (h.use k hk).1, (h.use k hk).2, (heldL_pos k S.hs).1, (heldL_pos k S.hs).2, (h.sum k hk).1, (h.sum k hk).2, (h.hel k hk).1, (h.hel k hk).2⟩

/-- A new book's state. -/
def newS (n : Nat) : Sq := ⟨List.replicate n default, [], 0⟩

theorem newS_use (n k : Nat) : (newS n).use k = ⟨0, 0⟩ := by
  unfold newS Sq.use
  rw [List.getD_eq_getElem?_getD, List.getElem?_replicate]
  split <;> rfl

theorem Qv.new {xs : List Tn} (hg : GoodT xs) (h8 : xs.length ≤ 8) : Qv xs (newS xs.length) where
  good := hg
  n8 := h8
  len := by simp [newS]
  use := fun k _ => by rw [newS_use]; decide
  sum := fun k _ => by rw [newS_use, show (newS xs.length).held k = ⟨0, 0⟩ from rfl]; decide
  hel := fun k hk => by have := hg.may hk; exact ⟨this.1, this.2.2.1⟩
  ids := fun h hh => by cases hh
  ap := List.Pairwise.nil
  cnt := Nat.le_refl _

theorem Sq.use_set (S : Sq) (k j : Nat) (u : Us) (hk : k < S.us.length) : (S.set k u).use j = if k = j then u else S.use j := by
  unfold Sq.use Sq.set
  rw [List.getD_eq_getElem?_getD, List.getD_eq_getElem?_getD, List.getElem?_set]
  split
  · rename_i e; subst e; first | rfl | (rw [if_pos hk]; rfl)
  · rfl

theorem Qv.set {xs : List Tn} {S : Sq} (h : Qv xs S) {k : Nat} (hk : k < xs.length) {u : Us} (hu : u.inn 0 2000000000) (hs : (u.add (S.held k)).le ⟨2000000000, 2000000000⟩) : Qv xs (S.set k u) where
  good := h.good
  n8 := h.n8
  len := by rw [← h.len]; simp [Sq.set]
  use := fun j hj => by
    rw [S.use_set k j u (by rw [h.len]; exact hk)]
    split
    · exact ⟨hu.1, hu.2.2.1⟩
    · exact h.use j hj
  sum := fun j hj => by
    rw [S.use_set k j u (by rw [h.len]; exact hk), show (S.set k u).held j = S.held j from rfl]
    split
    · rename_i e; subst e; exact hs
    · exact h.sum j hj
  hel := h.hel
  ids := h.ids
  ap := h.ap
  cnt := h.cnt

theorem Sq.held_res (S : Sq) (k j : Nat) (m : Us) : (S.res k m).held j = if k = j then (S.held j).add m.up else S.held j := by
  unfold Sq.held Sq.res
  rw [heldL_app]
  simp only [heldL]
  split
  · simp [Us.add]
  · simp [Us.add]

theorem leftQ_le {xs : List Tn} {S : Sq} (h : Qv xs S) {k : Nat} (hk : k < xs.length) {m : Us} (hm : m.le (leftQ xs S k)) : ((S.held k).add m.up).le (mayT xs k) ∧ ((S.use k).add ((S.held k).add m.up)).le ⟨2000000000, 2000000000⟩ := by
  have h1 := h.num hk
  unfold leftQ Us.le at hm
  unfold Us.inn at h1
  simp only [Us.up, Us.sub, Us.add, Us.le] at hm ⊢
  omega

theorem Qv.res {xs : List Tn} {S : Sq} (h : Qv xs S) {k : Nat} (hk : k < xs.length) {m : Us} (hi : m.inn (-1000000000) 1000000000) (hm : m.le (leftQ xs S k)) : Qv xs (S.res k m) where
  good := h.good
  n8 := h.n8
  len := h.len
  use := h.use
  sum := fun j hj => by
    rw [S.held_res, show (S.res k m).use j = S.use j from rfl]
    split
    · rename_i e; subst e; exact (leftQ_le h hk hm).2
    · exact h.sum j hj
  hel := fun j hj => by
    rw [S.held_res]
    split
    · rename_i e; subst e; exact (leftQ_le h hk hm).1
    · exact h.hel j hj
  ids := fun x hx => by
    rcases List.mem_append.1 hx with hx | hx
    · have := h.ids x hx
      exact ⟨this.1, by have := this.2.1; simp only [Sq.res]; omega, this.2.2⟩
    · simp at hx
      subst hx
      exact ⟨by simp, by simp [Sq.res], hk, hi⟩
  ap := by
    rw [show (S.res k m).hs = S.hs ++ [⟨S.last + 1, k, m⟩] from rfl, List.pairwise_append]
    refine ⟨h.ap, by simp, fun a ha b hb e => ?_⟩
    simp at hb
    subst hb
    have := (h.ids a ha).2.1
    simp only at e
    omega
  cnt := by have := h.cnt; simp [Sq.res]; omega

theorem Sq.find_mem {S : Sq} {id : Int} {x : Hd} (h : S.find id = some x) : x ∈ S.hs ∧ (x.id : Int) = id :=
  ⟨List.mem_of_find?_eq_some h, by simpa using List.find?_some h⟩

/-- Where a reservation that is there stands. -/
theorem Sq.find_at {S : Sq} {id : Int} {x : Hd} (h : S.find id = some x) : ∃ l r, S.hs = l ++ x :: r ∧ (S.gone id).hs = l ++ r ∧ ∀ y ∈ l, (y.id : Int) ≠ id := by
  unfold Sq.find at h
  obtain ⟨h1, l, r, h2, h3⟩ := List.find?_eq_some_iff_append.1 h
  have hl : ∀ y ∈ l, (y.id : Int) ≠ id := fun y hy => by have := h3 y hy; simpa using this
  refine ⟨l, r, h2, ?_, hl⟩
  unfold Sq.gone
  simp only
  rw [h2, List.eraseP_append_right _ (fun y hy => by have := hl y hy; simpa using this), List.eraseP_cons_of_pos (p := fun h : Hd => decide ((h.id : Int) = id)) h1]

theorem Sq.held_gone {S : Sq} {id : Int} {x : Hd} (h : S.find id = some x) (k : Nat) : S.held k = if x.ten = k then ((S.gone id).held k).add x.m.up else (S.gone id).held k := by
  obtain ⟨l, r, h1, h2, _⟩ := Sq.find_at h
  unfold Sq.held
  rw [h1, h2, heldL_app, heldL_app, heldL]
  split
  · simp only [Us.add, Us.mk.injEq]; constructor <;> omega
  · rfl

theorem Qv.gone {xs : List Tn} {S : Sq} (h : Qv xs S) {id : Int} {x : Hd} (hx : S.find id = some x) : Qv xs (S.gone id) := by
  have hH := Sq.held_gone hx
  obtain ⟨l, r, h1, h2, _⟩ := Sq.find_at hx
  have hup : 0 ≤ x.m.up.b ∧ 0 ≤ x.m.up.e := by simp only [Us.up]; omega
  refine ⟨h.good, h.n8, h.len, h.use, fun j hj => ?_, fun j hj => ?_, fun y hy => ?_, ?_, ?_⟩
  · have := h.sum j hj
    rw [hH j] at this
    rw [show (S.gone id).use j = S.use j from rfl]
    split at this
    · simp only [Us.le, Us.add] at this ⊢; omega
    · exact this
  · have := h.hel j hj
    rw [hH j] at this
    split at this
    · simp only [Us.le, Us.add] at this ⊢; omega
    · exact this
  · refine h.ids y ?_
    rw [h2] at hy
    rw [h1]
    simp only [List.mem_append, List.mem_cons] at hy ⊢
    rcases hy with hy | hy
    · exact .inl hy
    · exact .inr (.inr hy)
  · rw [h2]
    have h3 := h.ap
    rw [h1] at h3
    exact h3.sublist (by simp)
  · have h3 := h.cnt
    rw [h1] at h3
    rw [h2, show (S.gone id).last = S.last from rfl]
    simp only [List.length_append, List.length_cons] at h3 ⊢
    omega

/-- What is taken is added to the use. -/
def Sq.take (S : Sq) (id : Int) (x : Hd) : Sq := (S.gone id).set x.ten ((S.use x.ten).add x.m).up

theorem Qv.take {xs : List Tn} {S : Sq} (h : Qv xs S) {id : Int} {x : Hd} (hx : S.find id = some x) : Qv xs (S.take id x) := by
  obtain ⟨hm, _⟩ := Sq.find_mem hx
  obtain ⟨_, _, ht, hi⟩ := h.ids x hm
  have h1 := h.num ht
  have h2 := (h.gone hx).num ht
  have hH := Sq.held_gone hx x.ten
  rw [if_pos rfl] at hH
  have hb : (S.held x.ten).b = ((S.gone id).held x.ten).b + x.m.up.b := by rw [hH]; rfl
  have he : (S.held x.ten).e = ((S.gone id).held x.ten).e + x.m.up.e := by rw [hH]; rfl
  unfold Us.inn at h1 h2 hi
  refine (h.gone hx).set ht ?_ ?_
  · simp only [Us.up, Us.add, Us.inn] at *; omega
  · simp only [Us.up, Us.add, Us.le] at *; omega

end Go.Proofs.YtjlkchjcmiljjaaDoor
