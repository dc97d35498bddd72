/-
  Layers 12 and 13: archives, names, writes, as keys and as rows.
-/
import Derived.Test.YthignkloecfcbaaChA
import Derived.Test.YthignkloecfcbaaSam
import Derived.DeepKeys4
import Derived.WideKeyPair
import Derived.Sort.Grow
namespace Go.Proofs.Ythignkloecfcbaa
open Go.RowKit Go.Maps Go.Sort

theorem Try.laidOutC : laidOutB Try.prog = true := by kernel_rfl
theorem boxKey : Keyed Try.prog 62 := Keyed.of_law (deep_law_laid Try.laidOutC (m := 2) (by omega) (by decide +kernel) (by kernel_rfl) (by kernel_rfl))
theorem nameKey : Keyed Try.prog 9 := string_keyed Try.underlying9

/-- An archive: whose, and its name; texts that may be. -/
structure Bx where
  tn : ByteArray
  ar : ByteArray
  ok : tn.size ≤ maxLen ∧ ar.size ≤ maxLen
  deriving DecidableEq

theorem Bx.ext' {a b : Bx} (h1 : a.tn = b.tn) (h2 : a.ar = b.ar) : a = b := by
  cases a
  cases b
  simp only at h1 h2
  subst h1 h2
  rfl

def bxV (b : Bx) : Value := .agg #[.string b.tn, .string b.ar]

def kB (b : Bx) : Lit := .string (keyBytes [.string b.tn.data.toList, .string b.ar.data.toList])

theorem keyB (b : Bx) : keyOf Try.prog 62 (bxV b) = some (kB b) := by
  have hs0 : 0 < Try.prog.types.size := by decide +kernel
  have hsz : ∃ m, Try.prog.types.size = m + 1 := ⟨Try.prog.types.size - 1, by omega⟩
  have hkt : Try.prog.keyType 62 = true := by kernel_rfl
  have hc : Try.prog.cellsOf 62 = 2 := by kernel_rfl
  have hc1 : Try.prog.cellsOf 9 = 1 := by kernel_rfl
  obtain ⟨m, hm⟩ := hsz
  unfold keyOf bxV
  simp only [Try.underlying62]
  rw [if_pos (by simp [hkt, Value.formed, Try.underlying62, hc]), hm]
  unfold Program.keyLits
  simp only [Try.underlying62, Value.cells]
  rw [if_pos (by rw [hc]; exact ⟨rfl, by decide +kernel⟩)]
  simp [hc1, Program.keyLits, Try.underlying9, b.ok.1, b.ok.2, kB]

theorem klB : KL kB := ⟨fun a b h => by
    have h1 := boxKey.inj (keyB a) (by rw [h]; exact keyB b)
    simp only [bxV, Value.agg.injEq, Array.mk.injEq, List.cons.injEq, Value.string.injEq, and_true] at h1
    exact Bx.ext' h1.1 h1.2, fun a => ⟨_, rfl⟩⟩

/-- A name, as a key. -/
structure Nm where
  s : ByteArray
  ok : s.size ≤ maxLen
  deriving DecidableEq

theorem Nm.ext' {a b : Nm} (h : a.s = b.s) : a = b := by
  cases a
  cases b
  simp only at h
  subst h
  rfl

def nmV (n : Nm) : Value := .string n.s

def kN (n : Nm) : Lit := .string n.s.data.toList

theorem keyN (n : Nm) : keyOf Try.prog 9 (nmV n) = some (kN n) := Go.WideMaps.keyOf_string_mk Try.underlying9 n.ok

theorem klN : KL kN := ⟨fun a b h => by
    have h1 := nameKey.inj (keyN a) (by rw [h]; exact keyN b)
    simp only [nmV, Value.string.injEq] at h1
    exact Nm.ext' h1, fun a => ⟨_, rfl⟩⟩

/-- A write: of which entry, whether it is there, its data. -/
structure Wr where
  b : Bx
  n : Nm
  there : Bool
  data : ByteArray
  ok : data.size ≤ maxLen

def wrE (x : Wr) : List Value := [.string x.b.tn, .string x.b.ar, .string x.n.s, .bool x.there, .string x.data]
theorem wrE_ok : EncOk wrE 5 := ⟨fun _ => rfl, fun x u hu => by simp [wrE] at hu; rcases hu with rfl | rfl | rfl | rfl | rfl <;> rfl, by decide⟩

instance : Inhabited Bx := ⟨⟨⟨#[]⟩, ⟨#[]⟩, by decide⟩⟩

instance : Inhabited Nm := ⟨⟨⟨#[]⟩, by decide⟩⟩

instance : Inhabited Wr := ⟨⟨default, default, false, ⟨#[]⟩, by decide⟩⟩

theorem results_cellC {fn : Func} {p : Tmp} {ty : TypeId} (h : fn.results = #[.cell p ty]) (tmps : Array Value) (P : Program) (w : World) :
    (results fn tmps).run P w = ((asAddr (tmps.getD p undef)).run P w).andThen fun a w1 => (loadVar ty a).run P w1 := by
  simp only [results, h]
  simp [Sem.run_bind, Result.andThen]

theorem same_grow (w : World) (m : Nat) (os : Array Obj) : Same w (grow (w.drewN m) os) := ⟨rfl, rfl, rfl, by simp [World.drewN], fun k hk _ => by rw [heap_grow_old _ _ (by simpa [World.drewN] using hk)]; rfl⟩

def bysN (n : Nm) : List UInt8 := n.s.data.toList

theorem bysN_inj {a b : Nm} (h : bysN a = bysN b) : a = b := by
  unfold bysN at h
  refine Nm.ext' ?_
  cases ha : a.s
  cases hb : b.s
  rw [ha, hb] at h
  simp only at h
  rw [Array.toList_inj] at h
  rw [h]

end Go.Proofs.Ythignkloecfcbaa
