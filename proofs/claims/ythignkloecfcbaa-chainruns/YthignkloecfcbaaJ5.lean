/-
  Of the proof: parts ChW, ChB.
-/
import Derived.DeepKeys4
import Derived.WideKeyPair
import Derived.Sort.Grow
import Derived.Test.YthignkloecfcbaaJ4
import Derived.Test.YthignkloecfcbaaJ3

/-
  Layers 12 and 13: archives, names, writes, as keys and as rows.
-/
namespace Go.Proofs.Ythignkloecfcbaa
open Go.RowKit Go.Maps Go.Sort

theorem Try.laidOutC : laidOutB Try.prog = true := by kernel_rfl
theorem boxKey : Keyed Try.prog 62 := Keyed.of_law (deep_law_laid Try.laidOutC (m := 2) (by omega) (by decide +kernel) (by kernel_rfl) (by kernel_rfl))
theorem nameKey : Keyed Try.prog 9 := string_keyed Try.underlying9

/-- An archive: whose, and its name; texts that may be. -/
structure Bx where
  tn : ByteArray
  ar : ByteArray
  ok : tn.size ≤ maxLen ∧ ar.size ≤ maxLen
  deriving DecidableEq

theorem Bx.ext' {a b : Bx} (h1 : a.tn = b.tn) (h2 : a.ar = b.ar) : a = b := by
  cases a
  cases b
  simp only at h1 h2
  subst h1 h2
  rfl

def bxV (b : Bx) : Value := .agg #[.string b.tn, .string b.ar]

def kB (b : Bx) : Lit := .string (keyBytes [.string b.tn.data.toList, .string b.ar.data.toList])

theorem keyB (b : Bx) : keyOf Try.prog 62 (bxV b) = some (kB b) := by
  have hs0 : 0 < Try.prog.types.size := by decide +kernel
  have hsz : ∃ m, Try.prog.types.size = m + 1 := ⟨Try.prog.types.size - 1, by omega⟩
  have hkt : Try.prog.keyType 62 = true := by kernel_rfl
  have hc : Try.prog.cellsOf 62 = 2 := by kernel_rfl
  have hc1 : Try.prog.cellsOf 9 = 1 := by kernel_rfl
  obtain ⟨m, hm⟩ := hsz
  unfold keyOf bxV
  simp only [Try.underlying62]
  rw [if_pos (by simp [hkt, Value.formed, Try.underlying62, hc]), hm]
  unfold Program.keyLits
  simp only [Try.underlying62, Value.cells]
  rw [if_pos (by rw [hc]; exact ⟨rfl, by decide +kernel⟩)]
  simp [hc1, Program.keyLits, Try.underlying9, b.ok.1, b.ok.2, kB]

theorem klB : KL kB := ⟨fun a b h => by
    have h1 := boxKey.inj (keyB a) (by rw [h]; exact keyB b)
    simp only [bxV, Value.agg.injEq, Array.mk.injEq, List.cons.injEq, Value.string.injEq, and_true] at h1
    exact Bx.ext' h1.1 h1.2, fun a => ⟨_, rfl⟩⟩

/-- A name, as a key. -/
structure Nm where
  s : ByteArray
  ok : s.size ≤ maxLen
  deriving DecidableEq

theorem Nm.ext' {a b : Nm} (h : a.s = b.s) : a = b := by
  cases a
  cases b
  simp only at h
  subst h
  rfl

def nmV (n : Nm) : Value := .string n.s

def kN (n : Nm) : Lit := .string n.s.data.toList

theorem keyN (n : Nm) : keyOf Try.prog 9 (nmV n) = some (kN n) := Go.WideMaps.keyOf_string_mk Try.underlying9 n.ok

theorem klN : KL kN := ⟨fun a b h => by
    have h1 := nameKey.inj (keyN a) (by rw [h]; exact keyN b)
    simp only [nmV, Value.string.injEq] at h1
    exact Nm.ext' h1, fun a => ⟨_, rfl⟩⟩

/-- A write: of which entry, whether it is there, its data. -/
structure Wr where
  b : Bx
  n : Nm
  there : Bool
  data : ByteArray
  ok : data.size ≤ maxLen

def wrE (x : Wr) : List Value := [.string x.b.tn, .string x.b.ar, .string x.n.s, .bool x.there, .string x.data]
theorem wrE_ok : EncOk wrE 5 := ⟨fun _ => rfl, fun x u hu => by simp [wrE] at hu; rcases hu with rfl | rfl | rfl | rfl | rfl <;> rfl, by decide⟩

instance : Inhabited Bx := ⟨⟨⟨#[]⟩, ⟨#[]⟩, by decide⟩⟩

instance : Inhabited Nm := ⟨⟨⟨#[]⟩, by decide⟩⟩

instance : Inhabited Wr := ⟨⟨default, default, false, ⟨#[]⟩, by decide⟩⟩

theorem results_cellC {fn : Func} {p : Tmp} {ty : TypeId} (h : fn.results = #[.cell p ty]) (tmps : Array Value) (P : Program) (w : World) :
    (results fn tmps).run P w = ((asAddr (tmps.getD p undef)).run P w).andThen fun a w1 => (loadVar ty a).run P w1 := by
  simp only [results, h]
  simp [Sem.run_bind, Result.andThen]

theorem same_grow (w : World) (m : Nat) (os : Array Obj) : Same w (grow (w.drewN m) os) := ⟨rfl, rfl, rfl, by simp [World.drewN], fun k hk _ => by rw [heap_grow_old _ _ (by simpa [World.drewN] using hk)]; rfl⟩

def bysN (n : Nm) : List UInt8 := n.s.data.toList

theorem bysN_inj {a b : Nm} (h : bysN a = bysN b) : a = b := by
  unfold bysN at h
  refine Nm.ext' ?_
  cases ha : a.s
  cases hb : b.s
  rw [ha, hb] at h
  simp only at h
  rw [Array.toList_inj] at h
  rw [h]

end Go.Proofs.Ythignkloecfcbaa

/-
  Layer 12: a store as it lies in memory.
-/
namespace Go.Proofs.Ythignkloecfcbaa
open Go.RowKit Go.Maps

/-- Pointers and maps, by their blocks. -/
def ptC : Value → Option (DataW Unit × List MemPlace)
  | .pointer none => some (.nil, [])
  | .pointer (some ⟨b, 0, none⟩) => some (.lit (.int .i64 (b : Nat)), [])
  | _ => none

def mpC : Value → Option (DataW Unit × List MemPlace)
  | .map none => some (.nil, [])
  | .map (some b) => some (.lit (.int .i64 (b : Nat)), [])
  | _ => none

def ptA (b : Nat) : Value := .pointer (some ⟨b, 0, none⟩)
def mpA (b : Nat) : Value := .map (some b)

theorem rdP : RdV ptC ptA (.pointer none) := ⟨fun _ => rfl, fun v f ps h => by
    unfold ptC at h
    split at h
    · simp at h
    · simp only [Option.some.injEq, Prod.mk.injEq, DataW.lit.injEq, Lit.int.injEq, true_and] at h
      have h1 := Int.ofNat_inj.1 h.1
      rw [h1]; rfl
    · (cases h), rfl, fun v ps h => by
    unfold ptC at h
    split at h
    · rfl
    · simp at h
    · cases h⟩

theorem rdM : RdV mpC mpA (.map none) := ⟨fun _ => rfl, fun v f ps h => by
    unfold mpC at h
    split at h
    · simp at h
    · simp only [Option.some.injEq, Prod.mk.injEq, DataW.lit.injEq, Lit.int.injEq, true_and] at h
      have h1 := Int.ofNat_inj.1 h.1
      rw [h1]; rfl
    · (cases h), rfl, fun v ps h => by
    unfold mpC at h
    split at h
    · rfl
    · simp at h
    · cases h⟩

/-- A store's state: archives by their blocks, chains by theirs. -/
structure Cs where
  now : Int
  floor : Int
  bx : List (Bx × Nat)
  ar : Nat → List (Nm × Nat)
  vr : Nat → List Ver

/-- The chain of an entry. -/
def fndC (s : Cs) (b : Bx) (n : Nm) : Option Nat := (getK b s.bx).bind (fun a => getK n (s.ar a))

/-- The versions of an entry. -/
def vers (s : Cs) (b : Bx) (n : Nm) : List Ver := ((fndC s b n).map s.vr).getD []

/-- A chain in memory. -/
def ChAt (N : Nat) (w : World) (ρ : Nat → Nat) (c : Nat) (l : List Ver) : Prop := ∃ v, Blk w c #[v] 90 ∧ RowC N 75 3 verE w v l ∧ ∀ k, v.ownBlock = some k → ρ k = 10 + c

/-- What versions of an entry may be. -/
structure VerOk (now : Int) (l : List Ver) : Prop where
  ris : RisV l
  low : ∀ v ∈ l, 1 ≤ v.t ∧ v.t ≤ now
  gone : ∀ v ∈ l, v.there = false → v.data = ⟨#[]⟩
  big : ∀ v ∈ l, v.data.size ≤ maxLen

/-- A store in memory. What a block is to it: 1 the store, 2 its map, 3 an archive, 4 a chain, 10 and c: the versions of the chain c. -/
structure Ck (K N : Nat) (w : World) (p : Nat) (s : Cs) (ρ : Nat → Nat) (mb : Nat) : Prop where
  blk : Blk w p #[.int .i64 s.now, .int .i64 s.floor, .map (some mb)] 70
  bm : MpK 62 mpC kB w mb s.bx
  am : ∀ a, ρ a = 3 → MpK 9 ptC kN w a (s.ar a)
  cm : ∀ c, ρ c = 4 → ChAt N w ρ c (s.vr c)
  okv : ∀ c, ρ c = 4 → VerOk s.now (s.vr c)
  ba : ∀ x ∈ s.bx, ρ x.2 = 3
  ac : ∀ a, ρ a = 3 → ∀ x ∈ s.ar a, ρ x.2 = 4
  inja : ∀ x ∈ s.bx, ∀ y ∈ s.bx, x.2 = y.2 → x.1 = y.1
  injc : ∀ a, ρ a = 3 → ∀ a', ρ a' = 3 → ∀ x ∈ s.ar a, ∀ y ∈ s.ar a', x.2 = y.2 → a = a' ∧ x.1 = y.1
  rp : ρ p = 1
  rm : ρ mb = 2
  new : ∀ k, ρ k ≠ 0 → N ≤ k ∧ k < w.heap.size
  lens : s.bx.length ≤ K ∧ (∀ a, ρ a = 3 → (s.ar a).length ≤ K) ∧ ∀ c, ρ c = 4 → (s.vr c).length ≤ K
  big : K ≤ 100000
  nums : 0 ≤ s.floor ∧ s.floor ≤ s.now ∧ s.now ≤ 9223372036854775807

section
variable {K N : Nat} {w : World} {p : Nat} {s : Cs} {ρ : Nat → Nat} {mb : Nat}

theorem Ck.kept (h : Ck K N w p s ρ mb) {F : Nat → Prop} {w' : World} (hk : Kept F w w') (hF : ∀ k, F k → ρ k = 0) : Ck K N w' p s ρ mb := by
  have hn : ∀ k, ρ k ≠ 0 → ¬ F k := fun k h1 h2 => h1 (hF k h2)
  refine { h with blk := h.blk.kept hk (hn p (by rw [h.rp]; decide)), bm := h.bm.kept hk (hn mb (by rw [h.rm]; decide)), am := fun a ha => (h.am a ha).kept hk (hn a (by rw [ha]; decide)), cm := fun c hc => ?_, new := fun k hk2 => ⟨(h.new k hk2).1, Nat.lt_of_lt_of_le (h.new k hk2).2 hk.size⟩ }
  obtain ⟨v, h1, h2, h3⟩ := h.cm c hc
  exact ⟨v, h1.kept hk (hn c (by rw [hc]; decide)), h2.kept hk (fun k e => hn k (by rw [h3 k e]; omega)), h3⟩

theorem Ck.same (h : Ck K N w p s ρ mb) {w' : World} (hk : Same w w') : Ck K N w' p s ρ mb := h.kept hk (fun _ f => f.elim)

theorem Ck.apb (h : Ck K N w p s ρ mb) : s.bx.Pairwise (fun p q => p.1 ≠ q.1) := h.bm.apart boxKey
theorem Ck.apa (h : Ck K N w p s ρ mb) {a : Nat} (ha : ρ a = 3) : (s.ar a).Pairwise (fun p q => p.1 ≠ q.1) := (h.am a ha).apart nameKey

/-- The chain of an entry is one. -/
theorem Ck.fnd (h : Ck K N w p s ρ mb) {b : Bx} {n : Nm} {c : Nat} (hf : fndC s b n = some c) : ρ c = 4 := by
  unfold fndC at hf
  cases hg : getK b s.bx with
  | none => rw [hg] at hf; cases hf
  | some a =>
    rw [hg] at hf
    exact h.ac a (h.ba _ (getK_mem hg)) _ (getK_mem hf)

theorem Ck.vok (h : Ck K N w p s ρ mb) (b : Bx) (n : Nm) : VerOk s.now (vers s b n) := by
  unfold vers
  cases hf : fndC s b n with
  | none => exact ⟨List.Pairwise.nil, fun v hv => (by cases hv), fun v hv => (by cases hv), fun v hv => (by cases hv)⟩
  | some c => exact h.okv c (h.fnd hf)

/-- Two entries have not one chain. -/
theorem Ck.one (h : Ck K N w p s ρ mb) {b b' : Bx} {n n' : Nm} {c : Nat} (hf : fndC s b n = some c) (hf' : fndC s b' n' = some c) : b = b' ∧ n = n' := by
  unfold fndC at hf hf'
  cases hg : getK b s.bx with
  | none => rw [hg] at hf; cases hf
  | some a =>
    cases hg' : getK b' s.bx with
    | none => rw [hg'] at hf'; cases hf'
    | some a' =>
      rw [hg] at hf
      rw [hg'] at hf'
      have h1 := h.injc a (h.ba _ (getK_mem hg)) a' (h.ba _ (getK_mem hg')) _ (getK_mem hf) _ (getK_mem hf') rfl
      exact ⟨h.inja _ (getK_mem hg) _ (getK_mem hg') h1.1, h1.2⟩

end

end Go.Proofs.Ythignkloecfcbaa
