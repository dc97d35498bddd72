/-
  A text as bytes, bytes as a text.
-/
import Derived.Test.YtaefgnakdadgeaaTxt
import Derived.Test.YtaefgnakdadgeaaBlk
import Derived.Test.YtaefgnakdadgeaaSam
import Derived.Laws.BytesArg
import Derived.Laws.IdiomStrings
import Derived.Laws.AppendOwn
namespace Go.Proofs.Ytaefgnakdadgeaa
open Go.RowKit

theorem str8 {w : World} {I : Nat → Prop} {a : Option Addr} {n c : Nat} {x : List Nat} (h : Src w I (.slice a n c) x) (hn : x.length = n) : (convert 26 9 (.slice a n c)).run Try.prog w = .ok (.string (txt x)) w := by
  obtain ⟨ao, cap, e, hs⟩ := h
  simp only [Value.slice.injEq] at e
  obtain ⟨rfl, _, rfl⟩ := e
  subst hn
  cases hx : x with
  | nil =>
    cases a with
    | none => exact run_convert_bytes_nil (P := Try.prog) w 26 5 Try.underlying26 Try.underlying5 0 c 9 Try.underlying9
    | some ad =>
      rw [run_convert_bytes_string w 26 9 5 _ _ c Try.underlying26 Try.underlying5 Try.underlying9]
      exact run_bytesToString (P := Try.prog) w ad 0 c [] (run_loadCells_list (P := Try.prog) w ad [] (fun j v hj => by simp at hj))
  | cons b r =>
    obtain ⟨g, o, h1, _, h3⟩ := hs (by rw [hx]; simp)
    rw [← hx]
    subst h1
    have h := run_convert_bytes_arg (P := Try.prog) w 26 5 Try.underlying26 Try.underlying5 g o x.length c (x.map (fun b => ((b : Nat) : Int))) (by simp) (fun i hi => by rw [h3 i hi]; simp [List.getD, hi]) 9 Try.underlying9
    rw [h]
    have e : strOfNums (x.map (fun b => ((b : Nat) : Int))) = txt x := by
      unfold strOfNums txt
      rw [List.map_map]
      rfl
    rw [e]

/-- []byte(s). -/
theorem bytes8 (w : World) (s : ByteArray) : ∃ G w', (convert 9 26 (.string s)).run Try.prog w = .ok (.slice (some ⟨w.heap.size, 0, none⟩) s.size G) w' ∧ Same w w' ∧ Src w' (fun k => k = w.heap.size) (.slice (some ⟨w.heap.size, 0, none⟩) s.size G) (sb s) ∧ w'.heap.size = w.heap.size + 1 := by
  refine ⟨_, _, run_bytes_of_string (P := Try.prog) w 9 26 5 s Try.underlying9 Try.underlying26 Try.underlying5, ((Kept.refl _ w).drew).alloc _, ?_, by simp⟩
  refine ⟨some ⟨w.heap.size, 0, none⟩, _, by rw [sb_size], fun _ => ⟨w.heap.size, 0, rfl, rfl, ?_⟩⟩
  intro j hj
  have hj2 : j < s.data.size := by rw [sb_size] at hj; exact hj
  rw [Nat.zero_add]
  have hb : (w.drew.alloc (Obj.cells (bytesRow s (grownCap w s.size 0 5)) 5 ((bytesRow s (grownCap w s.size 0 5)).size, (bytesRow s (grownCap w s.size 0 5)).size + 1))).cell? ⟨w.heap.size, j, none⟩ = (bytesRow s (grownCap w s.size 0 5))[j]? := by
    have h9 : ∀ (W : World) (C : Array Value) (t : TypeId) (z : Nat × Nat), (W.alloc (.cells C t z)).cell? ⟨W.heap.size, j, none⟩ = C[j]? := by
      intro W C t z
      unfold World.alloc
      simp [World.cell?]
    exact h9 w.drew _ _ _
  rw [hb]
  unfold bytesRow
  rw [Array.getElem?_append_left (by simpa using hj2)]
  simp only [sb, Array.getElem?_map, List.getElem_map, Array.getElem_toList]
  rw [Array.getElem?_eq_getElem hj2]
  rfl

/-- The same, and how much room there is. -/
theorem bytes16 (w : World) (s : ByteArray) : ∃ G w', (convert 9 26 (.string s)).run Try.prog w = .ok (.slice (some ⟨w.heap.size, 0, none⟩) s.size G) w' ∧ Same w w' ∧ Src w' (fun k => k = w.heap.size) (.slice (some ⟨w.heap.size, 0, none⟩) s.size G) (sb s) ∧ w'.heap.size = w.heap.size + 1 ∧ s.size ≤ G := by
  obtain ⟨G, w', h1, h2, h3, h4⟩ := bytes8 w s
  have h5 := run_bytes_of_string (P := Try.prog) w 9 26 5 s Try.underlying9 Try.underlying26 Try.underlying5
  rw [h1] at h5
  injection h5 with h5 _
  injection h5 with _ _ h5
  exact ⟨G, w', h1, h2, h3, h4, by rw [h5]; exact grownCap_ge _ _ _ _⟩

end Go.Proofs.Ytaefgnakdadgeaa
