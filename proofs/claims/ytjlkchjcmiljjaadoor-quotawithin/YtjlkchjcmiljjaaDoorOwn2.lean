/-
  make and copy over rows of bytes; a slice of bytes that is read.
-/
import Derived.Test.YtjlkchjcmiljjaaDoorOwn
namespace Go.Proofs.YtjlkchjcmiljjaaDoor
open Go.RowKit

theorem Tryd.size8 : (Tryd.prog.info? 5).map (·.size) = some 1 := by kernel_rfl

/-- A slice of bytes that can be read; its block fits I. -/
def Src (w : World) (I : Nat → Prop) (v : Value) (cs : List Nat) : Prop :=
  ∃ ao cap, v = .slice ao cs.length cap ∧ (cs ≠ [] → ∃ b o, ao = some ⟨b, o, none⟩ ∧ I b ∧ ∀ j (_ : j < cs.length), w.cell? ⟨b, o + j, none⟩ = some (.int .u8 (cs[j] : Nat)))

theorem Src.ofRow {w : World} {v : Value} {bs : List Nat} (h : Row w v bs) : Src w (fun k => v.ownBlock = some k) v bs := by
  obtain ⟨ao, cap, hv, hg⟩ := h.shape
  refine ⟨ao, cap, hv, fun hne => ?_⟩
  obtain ⟨g, hg⟩ := hg hne
  subst hg hv
  refine ⟨g, 0, rfl, rfl, fun j hj => ?_⟩
  rw [Nat.zero_add]
  exact Row.cell h j hj

theorem Src.mono {w : World} {I J : Nat → Prop} {v : Value} {cs : List Nat} (h : Src w I v cs) (hJ : ∀ k, I k → J k) : Src w J v cs := by
  obtain ⟨ao, cap, hv, hc⟩ := h
  refine ⟨ao, cap, hv, fun hne => ?_⟩
  obtain ⟨b, o, h1, h2, h3⟩ := hc hne
  exact ⟨b, o, h1, hJ b h2, h3⟩

theorem Src.kept {F I : Nat → Prop} {w w' : World} {v : Value} {cs : List Nat} (h : Src w I v cs) (hk : Kept F w w') (hn : ∀ k, I k → k < w.heap.size → ¬ F k) : Src w' I v cs := by
  obtain ⟨ao, cap, hv, hc⟩ := h
  refine ⟨ao, cap, hv, fun hne => ?_⟩
  obtain ⟨b, o, h1, h2, h3⟩ := hc hne
  have hlen : 0 < cs.length := List.length_pos_iff.2 hne
  have hb : b < w.heap.size := World.block_lt_of_cell? w _ (h3 0 hlen)
  exact ⟨b, o, h1, h2, fun j hj => hk.cell (h3 j hj) (hn b h2 hb)⟩

/-- A source as append and copy ask for it. -/
theorem Src.at {w : World} {I : Nat → Prop} {ao : Option Addr} {n cap : Nat} {cs : List Nat} (h : Src w I (.slice ao n cap) cs) : n = cs.length ∧ (cs ≠ [] → ∃ a, ao = some a ∧ BytesAt w a cs) := by
  obtain ⟨ao', cap', hv, hc⟩ := h
  injection hv with h1 h2 h3
  subst h1
  refine ⟨h2, fun hne => ?_⟩
  obtain ⟨b, o, h4, _, h6⟩ := hc hne
  refine ⟨_, h4, fun j u hu => ?_⟩
  obtain ⟨hj, hu⟩ := List.getElem?_eq_some_iff.1 hu
  rw [addAt, h6 j (by simpa using hj), ← hu]
  simp [byteV]

theorem row_mk {w : World} {g n cap : Nat} {xs : List Value} {bs : List Nat} (h : w.ownsRow 0 5 1 (.slice (some ⟨g, 0, none⟩) n cap) n xs) (hx : xs = bs.map byteV) : Row w (.slice (some ⟨g, 0, none⟩) n cap) bs := by
  subst hx
  have := h.1
  simp at this
  unfold Row
  rw [this]
  exact h





/-- One byte that was just laid, as a number that was reckoned. -/
theorem bytesAt_int (w : World) (z : Int) (n : Nat) (h : z = (n : Nat)) : BytesAt (w.alloc (.cells #[.int .u8 z] 5)) ⟨w.heap.size, 0, none⟩ [n] := by
  subst h; exact bytesAt_new w n

end Go.Proofs.YtjlkchjcmiljjaaDoor
