/-
  Layer 16: what the rows list, and a world that holds it.
-/
import Derived.Test.YtfhfnkhiomahfaaGreatDoorRows
import Derived.Test.YtfhfnkhiomahfaaGreatDoorTkA
import Derived.Lib.LaidTab
import Derived.LaidLaws
import Derived.LaidSub
import Derived.Shelf.Vars
import Derived.WalkKit
namespace Go.Proofs.YtfhfnkhiomahfaaGreatDoor
open Go.RowKit

theorem Tryz.gRnd : Tryz.prog.globalNamed "haversack/hmac.rounds" = some 2 := by kernel_rfl
theorem Tryz.gRndType : (Tryz.prog.globals[2]?).map (·.type) = some 153 := by kernel_rfl
theorem Tryz.cellsRnd : Tryz.prog.cellsOf 153 = 64 := by kernel_rfl
theorem Tryz.cellsRnd1 : Tryz.prog.cellsOf 124 = 1 := by kernel_rfl
theorem Tryz.gPow : Tryz.prog.globalNamed "internal/strconv.uint64pow10" = some 4 := by kernel_rfl
theorem Tryz.gPowType : (Tryz.prog.globals[4]?).map (·.type) = some 168 := by kernel_rfl
theorem Tryz.cellsPow : Tryz.prog.cellsOf 168 = 20 := by kernel_rfl
theorem Tryz.cellsPow1 : Tryz.prog.cellsOf 126 = 1 := by kernel_rfl
theorem Tryz.gSyn : Tryz.prog.globalNamed "strconv.ErrSyntax" = some 0 := by kernel_rfl
theorem Tryz.gSynType : (Tryz.prog.globals[0]?).map (·.type) = some 62 := by kernel_rfl
theorem Tryz.gRng : Tryz.prog.globalNamed "strconv.ErrRange" = some 1 := by kernel_rfl
theorem Tryz.gRngType : (Tryz.prog.globals[1]?).map (·.type) = some 62 := by kernel_rfl

def rndI : List Int := kL.map fun (x : Nat) => (x : Int)

theorem rnd_same : ∀ i, i < 64 → rndI.getD i 0 = ((kL.getD i 0 : Nat) : Int) := by decide

/-- What the rows list. -/
abbrev laid16 : List (String × DataW Unit) := [("math/bits.deBruijn32tab", Rows.laid_math_bits_deBruijn32tab), ("math/bits.deBruijn64tab", Rows.laid_math_bits_deBruijn64tab), ("haversack/hmac.rounds", Rows.laid_haversack_hmac_rounds), ("internal/strconv.uint64pow10", Rows.laid_internal_strconv_uint64pow10), ("unicode/utf8.acceptRanges", Rows.laid_unicode_utf8_acceptRanges), ("strconv.ErrRange", Rows.laid_strconv_ErrRange), ("strconv.ErrSyntax", Rows.laid_strconv_ErrSyntax), ("unicode/utf8.first", Rows.laid_unicode_utf8_first)]

theorem iface16 {W : World} {n nm : String} {g : Nat} {d : DataW Unit} (hg : Tryz.prog.globalNamed n = some g) (hty : (Tryz.prog.globals[g]?).map (·.type) = some 62) (h : laidMet Tryz.prog [(n, .iface nm d)] W) : ∃ ev, W.cell? ⟨g, 0, none⟩ = some ev ∧ (ev = .nilIface ∨ ∃ te pe, ev = .iface te pe) := by
  obtain ⟨ps, ⟨g0, t0, cs0, f0, p0, q0, hg0, ht0, hv0, hd0, _⟩, _⟩ := h
  obtain rfl := Option.some.inj (hg.symm.trans hg0)
  obtain rfl := Option.some.inj (hty.symm.trans ht0)
  obtain ⟨l0⟩ := cs0
  obtain ⟨f1, u, v, e, _⟩ := iface_of_trod Tryz.underlying62 hd0
  have e2 : l0 = [.iface u v] := e
  subst e2
  exact ⟨_, by simpa using World.var?_cell hg hv0 0, .inr ⟨_, _, rfl⟩⟩

theorem mxl16_of {W : World} (h : W.ShapedOpen Tryz.prog) : Mxl W := cell_of_shapedOpen_int (g := 3) (t := 3) (zero := #[.int .i64 0]) h (by decide +kernel) (by kernel_rfl) rfl (by kernel_rfl) (by kernel_rfl) Tryz.underlying3

theorem w6_of {W : World} (h : laidMetH Tryz.prog laid16 W) (hS : W.ShapedOpen Tryz.prog) : W6 W := by
  have h1 : laidMetH Tryz.prog [("haversack/hmac.rounds", Rows.laid_haversack_hmac_rounds)] W := laidMetH.filter (fun x => x.1 == "haversack/hmac.rounds") h
  have h2 : laidMetH Tryz.prog [("internal/strconv.uint64pow10", Rows.laid_internal_strconv_uint64pow10)] W := laidMetH.filter (fun x => x.1 == "internal/strconv.uint64pow10") h
  have h3 : laidMetH Tryz.prog [("strconv.ErrSyntax", Rows.laid_strconv_ErrSyntax)] W := laidMetH.filter (fun x => x.1 == "strconv.ErrSyntax") h
  have h4 : laidMetH Tryz.prog [("strconv.ErrRange", Rows.laid_strconv_ErrRange)] W := laidMetH.filter (fun x => x.1 == "strconv.ErrRange") h
  have ht : Lib.TabIs Tryz.prog W "haversack/hmac.rounds" .u32 rndI := Lib.tabIs_of_head (rest := []) Tryz.gRnd Tryz.gRndType Tryz.underlying153 Tryz.underlying124 Tryz.cellsRnd1 Tryz.cellsRnd h1
  refine ⟨fun i hi => ?_, mxl16_of hS, Lib.tabIs_of_head (rest := []) Tryz.gPow Tryz.gPowType Tryz.underlying168 Tryz.underlying126 Tryz.cellsPow1 Tryz.cellsPow h2, iface16 Tryz.gSyn Tryz.gSynType h3, iface16 Tryz.gRng Tryz.gRngType h4⟩
  have hc := ht.cell Tryz.gRnd i (by simpa [rndI, kL] using hi)
  rw [hc]
  congr 2
  exact rnd_same i hi

/-- A datum's numbers, in their order. -/
def flatD : DataW Unit → List Value
  | .agg l => l.flatMap fun
    | .agg m => m.flatMap fun
      | .lit (.int k n) => [.int k n]
      | _ => []
    | .lit (.int k n) => [.int k n]
    | _ => []
  | _ => []

def layAt (d : DataW Unit) : Obj → Obj
  | .cells _ t frozen => .cells (flatD d).toArray t frozen
  | o => o

def layErr (a : Addr) : Obj → Obj
  | .cells _ t frozen => .cells #[.iface 164 (.pointer (some a))] t frozen
  | o => o

abbrev rngS : ByteArray := { data := #[118, 97, 108, 117, 101, 32, 111, 117, 116, 32, 111, 102, 32, 114, 97, 110, 103, 101] }
abbrev synS : ByteArray := { data := #[105, 110, 118, 97, 108, 105, 100, 32, 115, 121, 110, 116, 97, 120] }

noncomputable def low16 : Nat := (World.holding Tryz.prog default ⟨#[], #[], []⟩).heap.size

/-- A world for the witness: the settled one, the tables and errors holding what their initialisers lay. -/
noncomputable def laidWorld16 (os : Os) : World :=
  let w0 := World.holding Tryz.prog os ⟨#[.cells #[.string rngS] 166, .cells #[.string synS] 166], #[], []⟩
  { w0 with heap := (((((((w0.heap.modify 2 (layAt Rows.laid_haversack_hmac_rounds)).modify 6 (layAt Rows.laid_unicode_utf8_acceptRanges)).modify 5 (layAt Rows.laid_unicode_utf8_first)).modify 7 (layAt Rows.laid_math_bits_deBruijn32tab)).modify 8 (layAt Rows.laid_math_bits_deBruijn64tab)).modify 4 (layAt Rows.laid_internal_strconv_uint64pow10)).modify 1 (layErr ⟨low16, 0, none⟩)).modify 0 (layErr ⟨low16 + 1, 0, none⟩) }

end Go.Proofs.YtfhfnkhiomahfaaGreatDoor
