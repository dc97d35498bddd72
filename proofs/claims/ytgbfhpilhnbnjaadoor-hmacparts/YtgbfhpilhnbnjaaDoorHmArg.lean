/-
  Arguments: bytes, arrays of bytes, lists of truths, rows of bytes.
-/
import Derived.Test.YtgbfhpilhnbnjaaDoorArgs
import Derived.Test.YtgbfhpilhnbnjaaDoorHmQ
import Derived.Deep.Slices
import Derived.Deep.Grids
namespace Go.Proofs.YtgbfhpilhnbnjaaDoor
open Go.ChangeShapes Go.WideShapes Go.ChangeAt Go.RowKit Go.Deep

theorem IsRow.arg15 {w : World} {a : Option Addr} {len cap : Nat} {zs : List Int} (h : IsRow .u8 w a len cap zs) : ∃ bs, Arg15 w (.slice a len cap) bs ∧ bs.length = len := by
  obtain ⟨bs, hs, hl, hb⟩ := h.src
  refine ⟨bs, ⟨hs, fun a' n c e => ?_, fun n c e => ?_, hb⟩, hl⟩
  · injection e with e1 e2 e3
    rcases h with ⟨_, h2, h3, _⟩ | ⟨x, _, h2, _⟩
    · omega
    · omega
  · injection e with e1 e2 e3
    rcases h with ⟨_, h2, h3, _⟩ | ⟨x, h1, _⟩
    · omega
    · rw [h1] at e1; cases e1

theorem okWide_arr15 {t e : TypeId} {n : Nat} {W : World} {r : Reach} {b0 : Nat} {v : Value} (ht : Tryd.prog.underlying t = some (.array n e)) (h : Value.okWide Tryd.prog W r b0 t v) : ∃ cs, v = .agg cs ∧ cs.size = Tryd.prog.cellsOf t := by
  simp only [Value.okWide, ht] at h
  obtain ⟨cs, h1, h2, _⟩ := h
  exact ⟨cs, h1, h2⟩

theorem Tryd.cells32 : Tryd.prog.cellsOf 24 = 32 := by kernel_rfl
theorem Tryd.cellsU8 : Tryd.prog.cellsOf 5 = 1 := by kernel_rfl

theorem arr_of {H : Type} {enc : TypeId × Value → H} {W : World} {fuel : Nat} {cs : Array Value} {x : DataW H × List MemPlace} (hsz : cs.size = 32) (h : DataW.trod enc Tryd.prog W 0 (fun _ => true) true fuel 24 cs.toList = some x) :
    ∃ xs : List Nat, cs = (xs.map byteV).toArray ∧ xs.length = 32 ∧ ∀ x ∈ xs, x < 256 := by
  obtain ⟨ys, m, _, _, _, hl, hel⟩ := DataW.trod_array Tryd.underlying24 h
  have key : ∀ i, ∃ n : Nat, n < 256 ∧ (i < 32 → cs[i]? = some (.int .u8 (n : Nat))) := by
    intro i
    by_cases hi : i < 32
    · have h1 := hel i hi
      rw [List.getElem?_eq_getElem (by omega)] at h1
      obtain ⟨n, hn, _, hw⟩ := DataW.trod_int Tryd.underlying5 h1
      have hb := bounds_u8 hw
      rw [Tryd.cellsU8, Nat.mul_one] at hn
      refine ⟨n.toNat, by omega, fun _ => ?_⟩
      have h2 : (cs.toList.drop i)[0]? = some (.int .u8 n) := by
        have h3 : ((cs.toList.drop i).take 1)[0]? = some (.int .u8 n) := by rw [hn]; rfl
        rwa [List.getElem?_take_of_lt (by omega)] at h3
      rw [List.getElem?_drop, Nat.add_zero, Array.getElem?_toList] at h2
      rw [h2]
      congr 2
      omega
    · exact ⟨0, by omega, fun h => absurd h hi⟩
  obtain ⟨f, hf⟩ := Classical.axiomOfChoice key
  refine ⟨(List.range 32).map f, ?_, by simp, ?_⟩
  · apply Array.ext_getElem?
    intro i
    by_cases hi : i < 32
    · rw [(hf i).2 hi]
      simp [byteV, hi]
    · rw [Array.getElem?_eq_none (by omega)]
      rw [Array.getElem?_eq_none (by simp; omega)]
  · intro x hx
    obtain ⟨i, _, rfl⟩ := List.mem_map.1 hx
    exact (hf i).1

end Go.Proofs.YtgbfhpilhnbnjaaDoor
