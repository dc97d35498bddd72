/-
  Layer 16: what the world holds; numbers as texts.
-/
import Derived.Test.YtfhfnkhiomahfaaGreatDoorHmL
import Derived.Test.YtfhfnkhiomahfaaGreatDoorSho
import Derived.Test.YtfhfnkhiomahfaaGreatDoorTxtW
import Derived.Test.YtfhfnkhiomahfaaGreatDoorTkM
import Derived.Test.YtfhfnkhiomahfaaGreatDoorTkShelf
import Derived.Lib.SmallJoins
import Derived.Laws.Concat
namespace Go.Proofs.YtfhfnkhiomahfaaGreatDoor
open Go.RowKit Go.Shelf

/-- What texts and numbers need of the world: the rounds' numbers, the table of powers, the errors of strconv, what strings.Index looks at. -/
structure W6 (w : World) : Prop where
  tab : Tab15 w
  mxl : Mxl w
  pow : Lib.TabIs Tryz.prog w "internal/strconv.uint64pow10" .u64 Lib.pow10Tab
  syn : ∃ ev, w.cell? ⟨0, 0, none⟩ = some ev ∧ (ev = .nilIface ∨ ∃ te pe, ev = .iface te pe)
  rng : ∃ ev, w.cell? ⟨1, 0, none⟩ = some ev ∧ (ev = .nilIface ∨ ∃ te pe, ev = .iface te pe)

theorem W6.same {w w' : World} (h : W6 w) (hk : Same w w') : W6 w' := by
  obtain ⟨h0, h1, h2, ⟨e1, h3, h4⟩, e2, h5, h6⟩ := h
  exact ⟨h0.kept hk (fun f => f), h1.kept hk (fun f => f), Go.Joins.tab_stays (g := 4) (by kernel_rfl) h2 (Kept.below hk (Nat.le_refl _) (fun _ _ f => f)) (Nat.le_refl _), ⟨e1, hk.cell h3 (fun f => f), h4⟩, e2, hk.cell h5 (fun f => f), h6⟩

/-- What is written lies behind all of that. -/
theorem W6.then {w w1 w' : World} {F : Nat → Prop} (h : W6 w) (hk : Same w w1) (hk1 : Kept F w1 w') (hF : ∀ x, x < w.heap.size → ¬ F x) : W6 w' := h.same (hk.then hk1 hF)

theorem grow_same16 (w : World) (k : Nat) (os : Array Obj) : Same w (Go.Sort.grow (w.drewN k) os) := ⟨rfl, rfl, rfl, by simp [Go.Sort.grow], fun j hj _ => by
  simp only [Go.Sort.grow]
  rw [Array.getElem?_append_left (by simpa using hj)]
  rfl⟩

def tx6 (l : List UInt8) : ByteArray := ⟨l.toArray⟩

theorem tx6_size (l : List UInt8) : (tx6 l).size = l.length := by simp [tx6, ByteArray.size]

theorem tx6_data (l : List UInt8) : (tx6 l).data.toList = l := by simp [tx6]

theorem tx6_of (s : ByteArray) : tx6 s.data.toList = s := by cases s; simp [tx6]

theorem tx6_app (a b : List UInt8) : tx6 a ++ tx6 b = tx6 (a ++ b) := by
  apply ByteArray.ext
  rw [ByteArray.data_append]
  simp [tx6]

theorem itoa6_any (w : World) (h : W6 w) (n : Int) (h0 : -9223372036854775808 ≤ n) (h1 : n ≤ 9223372036854775807) :
    Calls Tryz.prog 43 #[.int .i64 n] w fun e w' => e = .returned (.string (tx6 (Lib.itoa n))) ∧ Same w w' :=
  (Any.strconv_Itoa Tryz.itoa16 n h0 h1 w h.pow).mono fun e w' ⟨he, k, os, hw⟩ => ⟨he, by rw [hw]; exact grow_same16 w k os⟩

theorem below_same16 {w w' : World} (h : Below w.heap.size w w') : Same w w' := ⟨h.os, h.tape, h.output, h.size, fun k hk _ => h.block k hk⟩

theorem atoi6_any (w : World) (hv : W6 w) (s : ByteArray) (hs : s.size ≤ 100000000) :
    Calls Tryz.prog 32 #[.string s] w fun e w' => (∃ ev, e = .returned (.tuple #[.int .i64 (atR s.data.toList), ev])) ∧ Same w w' := by
  unfold atR
  cases h : Lib.atoiAll s.data.toList with
  | ok v =>
    refine (Any.strconv_Atoi_ok Tryz.atoi16 s (by omega) v h w).mono (fun e w' hh => ?_)
    obtain ⟨rfl, h2⟩ := hh
    refine ⟨⟨.nilIface, rfl⟩, ?_⟩
    rcases h2 with rfl | ⟨t, rfl⟩
    · exact Kept.refl _ _
    · exact below_same16 (Go.Joins.below_bytesWorld w.heap.size w _ t (Nat.le_refl _))
  | «syntax» =>
    obtain ⟨ev, h1, h2⟩ := hv.syn
    refine (Any.strconv_Atoi_syntax Tryz.atoi16 s (by omega) h ev w h1 h2).mono (fun e w' hh => ?_)
    obtain ⟨N, rfl, _, _, h3⟩ := hh
    exact ⟨⟨_, rfl⟩, below_same16 h3⟩
  | range =>
    obtain ⟨ev, h1, h2⟩ := hv.rng
    refine (Any.strconv_Atoi_range Tryz.atoi16 s (by omega) h ev w h1 h2).mono (fun e w' hh => ?_)
    obtain ⟨N, rfl, _, _, h3⟩ := hh
    exact ⟨⟨_, rfl⟩, below_same16 h3⟩

theorem Tryz.extra16 : Builder.Extra Tryz.prog Tryz.join16_ren where
  sizeBuilder := by kernel_rfl
  liesBuilder := by kernel_rfl
  t5 := Tryz.underlying5
  a5 := by intro w; kernel_rfl
  z5 := by intro w; kernel_rfl
  v5 := by intro w; kernel_rfl
  infoByte := by kernel_rfl
  cellsByte := by kernel_rfl
  sizeByte := by kernel_rfl
  neB5 := by decide

end Go.Proofs.YtfhfnkhiomahfaaGreatDoor
