/-
  Layer 13: a set as it lies in memory.
-/
import Derived.Test.YtlfibbghkdbomaaVaA
import Derived.Test.YtlfibbghkdbomaaChW
namespace Go.Proofs.Ytlfibbghkdbomaa
open Go.RowKit Go.Maps Go.Sort

/-- An entry's key. -/
abbrev Ke := Bx × Nm

theorem entKey : Keyed Try.prog 24 := Keyed.of_law (deep_law_laid Try.laidOutC (m := 3) (by omega) (by decide +kernel) (by kernel_rfl) (by kernel_rfl))

def keV (k : Ke) : Value := .agg #[.string k.1.tn, .string k.1.ar, .string k.2.s]

def kK (k : Ke) : Lit := .string (keyBytes [.string k.1.tn.data.toList, .string k.1.ar.data.toList, .string k.2.s.data.toList])

theorem keyE (k : Ke) : keyOf Try.prog 24 (keV k) = some (kK k) := by
  have hs0 : 0 < Try.prog.types.size := by decide +kernel
  have hsz : ∃ m, Try.prog.types.size = m + 1 := ⟨Try.prog.types.size - 1, by omega⟩
  have hkt : Try.prog.keyType 24 = true := by kernel_rfl
  have hc : Try.prog.cellsOf 24 = 3 := by kernel_rfl
  have hc1 : Try.prog.cellsOf 9 = 1 := by kernel_rfl
  obtain ⟨m, hm⟩ := hsz
  unfold keyOf keV
  simp only [Try.underlying24]
  rw [if_pos (by simp [hkt, Value.formed, Try.underlying24, hc]), hm]
  unfold Program.keyLits
  simp only [Try.underlying24, Value.cells]
  rw [if_pos (by rw [hc]; exact ⟨rfl, by decide +kernel⟩)]
  simp [hc1, Program.keyLits, Try.underlying9, k.1.ok.1, k.1.ok.2, k.2.ok, kK]

theorem klK : KL kK := ⟨fun a b h => by
    have h1 := entKey.inj (keyE a) (by rw [h]; exact keyE b)
    simp only [keV, Value.agg.injEq, Array.mk.injEq, List.cons.injEq, Value.string.injEq, and_true] at h1
    exact Prod.ext (Bx.ext' h1.1 h1.2.1) (Nm.ext' h1.2.2), fun a => ⟨_, rfl⟩⟩

/-- Whose key a write has. -/
def keO (r : Wr) : Ke := (r.b, r.n)

theorem Wr.ext' {a b : Wr} (h1 : keO a = keO b) (h2 : a.there = b.there) (h3 : a.data = b.data) : a = b := by
  cases a
  cases b
  simp only [keO, Prod.mk.injEq] at h1
  obtain ⟨h1, h4⟩ := h1
  simp only at h1 h2 h3 h4
  subst h1 h2 h3 h4
  rfl

def wrV (r : Wr) : Value := .agg (wrE r).toArray

/-- How a write is read. -/
def wrR : Value → Option (DataW Unit × List MemPlace)
  | .agg ⟨[.string a, .string b, .string c, .bool t, .string d]⟩ => some (.agg [.lit (.string a.data.toList), .lit (.string b.data.toList), .lit (.string c.data.toList), .lit (.bool t), .lit (.string d.data.toList)], [])
  | _ => none

def wrD (r : Wr) : DataW Unit := .agg [.lit (.string r.b.tn.data.toList), .lit (.string r.b.ar.data.toList), .lit (.string r.n.s.data.toList), .lit (.bool r.there), .lit (.string r.data.data.toList)]

theorem bytes_inj {a b : ByteArray} (h : a.data.toList = b.data.toList) : a = b := by
  cases a
  cases b
  simp only at h
  rw [Array.toList_inj] at h
  rw [h]

/-- The write that says nothing. -/
def wr0 : Wr := ⟨⟨⟨#[]⟩, ⟨#[]⟩, by decide⟩, ⟨⟨#[]⟩, by decide⟩, false, ⟨#[]⟩, by decide⟩

theorem wrR_inv (v : Value) (x : Wr) (ps : List MemPlace) (h : wrR v = some (wrD x, ps)) : v = wrV x := by
  unfold wrR at h
  split at h
  · simp only [wrD, Option.some.injEq, Prod.mk.injEq, DataW.agg.injEq, List.cons.injEq, DataW.lit.injEq, Lit.string.injEq, Lit.bool.injEq, and_true] at h
    obtain ⟨⟨h1, h2, h3, h4, h5⟩, _⟩ := h
    rw [bytes_inj h1, bytes_inj h2, bytes_inj h3, h4, bytes_inj h5]
    rfl
  · cases h

theorem rdW : RdG wrR wrV wrD (wrV wr0) (wrD wr0) := ⟨fun _ => rfl, wrR_inv, rfl, fun v ps h => wrR_inv v wr0 ps h⟩

def unV (_ : Unit) : Value := .agg #[]
def unD (_ : Unit) : DataW Unit := .agg []

theorem rdU : RdG unitElem unV unD (.agg #[]) (.agg []) := ⟨fun _ => unitElem_mk, fun _ _ _ h => (unitElem_inv h).1, unitElem_mk, fun _ _ h => (unitElem_inv h).1⟩

/-- A set's state: its snapshot, what is noted as read, as listed, what is staged. -/
structure Vst where
  t : Int
  rd : List (Ke × Unit)
  ls : List (Bx × Unit)
  st : List (Ke × Wr)

/-- A set in memory. -/
structure Vk (K : Nat) (w : World) (p mr ml ms : Nat) (s : Vst) : Prop where
  blk : Blk w p #[.int .i64 s.t, .map (some mr), .map (some ml), .map (some ms)] 64
  rm : MpG 24 unitElem kK unD w mr s.rd
  lm : MpG 26 unitElem kB unD w ml s.ls
  sm : MpG 24 wrR kK wrD w ms s.st
  own : ∀ x ∈ s.st, keO x.2 = x.1
  ne : mr ≠ ml ∧ mr ≠ ms ∧ ml ≠ ms
  lens : s.rd.length ≤ K ∧ s.ls.length ≤ K ∧ s.st.length ≤ K
  big : K ≤ 100000

section
variable {K : Nat} {w : World} {p mr ml ms : Nat} {s : Vst}

theorem Vk.kept (h : Vk K w p mr ml ms s) {F : Nat → Prop} {w' : World} (hk : Kept F w w') (h1 : ¬ F p) (h2 : ¬ F mr) (h3 : ¬ F ml) (h4 : ¬ F ms) : Vk K w' p mr ml ms s :=
  { h with blk := h.blk.kept hk h1, rm := h.rm.kept hk h2, lm := h.lm.kept hk h3, sm := h.sm.kept hk h4 }

theorem Vk.same (h : Vk K w p mr ml ms s) {w' : World} (hk : Same w w') : Vk K w' p mr ml ms s := h.kept hk (fun f => f) (fun f => f) (fun f => f) (fun f => f)

theorem blk_ne_map {cs : Array Value} {t : TypeId} {m : Nat} {κ β : Type} {kl : κ → Lit} {dv : β → DataW Unit} {kt : TypeId} {R : Value → Option (DataW Unit × List MemPlace)} {L : List (κ × β)} (h : Blk w p cs t) (hm : MpG kt R kl dv w m L) : p ≠ m := by
  intro e
  obtain ⟨es, cl, h1, _⟩ := hm
  unfold Blk at h
  rw [e, h1] at h
  cases h

theorem Vk.nep (h : Vk K w p mr ml ms s) : p ≠ mr ∧ p ≠ ml ∧ p ≠ ms := ⟨blk_ne_map h.blk h.rm, blk_ne_map h.blk h.lm, blk_ne_map h.blk h.sm⟩

theorem Vk.apr (h : Vk K w p mr ml ms s) : s.rd.Pairwise (fun p q => p.1 ≠ q.1) := h.rm.apart entKey
theorem Vk.apl (h : Vk K w p mr ml ms s) : s.ls.Pairwise (fun p q => p.1 ≠ q.1) := h.lm.apart boxKey
theorem Vk.aps (h : Vk K w p mr ml ms s) : s.st.Pairwise (fun p q => p.1 ≠ q.1) := h.sm.apart entKey

end

theorem zeroNo (w : World) : (zeroValue 78).run Try.prog w = .ok (.agg #[]) w := by kernel_rfl
theorem zeroWr (w : World) : (zeroValue 51).run Try.prog w = .ok (wrV wr0) w := by kernel_rfl

section
variable {K : Nat} {w : World} {p mr ml ms : Nat} {s : Vst}

theorem Vk.lookR (h : Vk K w p mr ml ms s) (k : Ke) : (Instr.lookup 60 (.map (some mr)) (.agg #[.string k.1.tn, .string k.1.ar, .string k.2.s]) true).run Try.prog w = .ok (.tuple #[.agg #[], .bool (getG k s.rd).isSome]) w := by
  have h1 := h.rm.look klK rdU entKey 60 78 Try.underlying60 (zeroNo w) k (keV k) (keyE k)
  rw [show (Value.agg #[.string k.1.tn, .string k.1.ar, .string k.2.s]) = keV k from rfl, h1]
  cases getG k s.rd <;> rfl

theorem Vk.lookL (h : Vk K w p mr ml ms s) (b : Bx) : (Instr.lookup 61 (.map (some ml)) (.agg #[.string b.tn, .string b.ar]) true).run Try.prog w = .ok (.tuple #[.agg #[], .bool (getG b s.ls).isSome]) w := by
  have h1 := h.lm.look klB rdU boxKey 61 78 Try.underlying61 (zeroNo w) b (bxV b) (keyB b)
  rw [show (Value.agg #[.string b.tn, .string b.ar]) = bxV b from rfl, h1]
  cases getG b s.ls <;> rfl

theorem Vk.lookS (h : Vk K w p mr ml ms s) (k : Ke) : (Instr.lookup 62 (.map (some ms)) (.agg #[.string k.1.tn, .string k.1.ar, .string k.2.s]) true).run Try.prog w = .ok (.tuple #[.agg (wrE ((getG k s.st).getD wr0)).toArray, .bool (getG k s.st).isSome]) w := by
  have h1 := h.sm.look klK rdW entKey 62 51 Try.underlying62 (zeroWr w) k (keV k) (keyE k)
  rw [show (Value.agg #[.string k.1.tn, .string k.1.ar, .string k.2.s]) = keV k from rfl, h1]
  cases getG k s.st <;> rfl

theorem Vk.putR (h : Vk K w p mr ml ms s) (k : Ke) (hK : K + 1 ≤ 100000) : ∃ w', (Instr.mapUpdate 60 (.map (some mr)) (.agg #[.string k.1.tn, .string k.1.ar, .string k.2.s]) (.agg #[])).run Try.prog w = .ok () w' ∧ Vk (K + 1) w' p mr ml ms { s with rd := putG kK k () s.rd } ∧ Kept (· = mr) w w' := by
  have hl := h.lens
  obtain ⟨w', h1, h2, h3⟩ := h.rm.put klK rdU entKey 60 78 Try.underlying60 k (keV k) (keyE k) (by have := h.big; omega) ()
  have hp := putG_len (kl := kK) k () s.rd
  refine ⟨w', h1, { blk := h.blk.kept h3 h.nep.1, rm := h2, lm := h.lm.kept h3 (fun e => h.ne.1 e.symm), sm := h.sm.kept h3 (fun e => h.ne.2.1 e.symm), own := h.own, ne := h.ne, lens := ⟨by show (putG kK k () s.rd).length ≤ K + 1; omega, by show s.ls.length ≤ K + 1; omega, by show s.st.length ≤ K + 1; omega⟩, big := hK }, h3⟩

theorem Vk.putL (h : Vk K w p mr ml ms s) (b : Bx) (hK : K + 1 ≤ 100000) : ∃ w', (Instr.mapUpdate 61 (.map (some ml)) (.agg #[.string b.tn, .string b.ar]) (.agg #[])).run Try.prog w = .ok () w' ∧ Vk (K + 1) w' p mr ml ms { s with ls := putG kB b () s.ls } ∧ Kept (· = ml) w w' := by
  have hl := h.lens
  obtain ⟨w', h1, h2, h3⟩ := h.lm.put klB rdU boxKey 61 78 Try.underlying61 b (bxV b) (keyB b) (by have := h.big; omega) ()
  have hp := putG_len (kl := kB) b () s.ls
  refine ⟨w', h1, { blk := h.blk.kept h3 h.nep.2.1, rm := h.rm.kept h3 h.ne.1, lm := h2, sm := h.sm.kept h3 (fun e => h.ne.2.2 e.symm), own := h.own, ne := h.ne, lens := ⟨by show s.rd.length ≤ K + 1; omega, by show (putG kB b () s.ls).length ≤ K + 1; omega, by show s.st.length ≤ K + 1; omega⟩, big := hK }, h3⟩

theorem Vk.putS (h : Vk K w p mr ml ms s) (r : Wr) (hK : K + 1 ≤ 100000) : ∃ w', (Instr.mapUpdate 62 (.map (some ms)) (.agg #[.string r.b.tn, .string r.b.ar, .string r.n.s]) (.agg #[.string r.b.tn, .string r.b.ar, .string r.n.s, .bool r.there, .string r.data])).run Try.prog w = .ok () w' ∧ Vk (K + 1) w' p mr ml ms { s with st := putG kK (keO r) r s.st } ∧ Kept (· = ms) w w' := by
  have hl := h.lens
  obtain ⟨w', h1, h2, h3⟩ := h.sm.put klK rdW entKey 62 51 Try.underlying62 (keO r) (keV (keO r)) (keyE (keO r)) (by have := h.big; omega) r
  have hp := putG_len (kl := kK) (keO r) r s.st
  refine ⟨w', h1, { blk := h.blk.kept h3 h.nep.2.2, rm := h.rm.kept h3 h.ne.2.1, lm := h.lm.kept h3 h.ne.2.2, sm := h2, own := fun x hx => ?_, ne := h.ne, lens := ⟨by show s.rd.length ≤ K + 1; omega, by show s.ls.length ≤ K + 1; omega, by show (putG kK (keO r) r s.st).length ≤ K + 1; omega⟩, big := hK }, h3⟩
  rcases putG_mem.1 hx with rfl | h5
  · rfl
  · exact h.own x h5.1

end

end Go.Proofs.Ytlfibbghkdbomaa
