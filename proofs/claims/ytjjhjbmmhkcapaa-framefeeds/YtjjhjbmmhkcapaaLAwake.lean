/-
  The law's 'awake': the document's examples.
-/
import Derived.Test.YtjjhjbmmhkcapaaLGets
import Derived.Test.YtjjhjbmmhkcapaaLSum
import Derived.Lib.SlBytesConst
namespace Go.Proofs.Ytjjhjbmmhkcapaa
open Go.RowKit Go.Shelf

/-- Blocks from N on. -/
def Above (N k : Nat) : Prop := N ≤ k

theorem Fresh.src {w w' : World} {v : Value} {bs : List Nat} (h : Fresh w w' v bs) : Src w' (Above w.heap.size) v bs := (Src.ofRow h.row).mono h.new

theorem Row.room {w : World} {v : Value} {bs : List Nat} (h : Row w v bs) : ∀ a n c, v = .slice a n c → n ≤ c := by
  intro a n c e
  rcases h.2 with ⟨e', hn⟩ | ⟨g, cap, cur, e', _, _, hnc, _⟩
  · rw [e] at e'; injection e' with _ e1 e2; omega
  · rw [e] at e'; injection e' with _ e1 e2; omega

theorem Fresh.bel {w0 w1 : World} {v : Value} {bs : List Nat} {w : World} (h : Fresh w w0 v bs) (hb : Below w0.heap.size w0 w1) : Fresh w w1 v bs := h.later (F := fun _ => False) (Kept.ofBelow hb) (fun _ e => e.elim)

theorem Below.ofFresh {w w' : World} {v : Value} {bs : List Nat} (h : Fresh w w' v bs) : Below w.heap.size w w' := h.kept.below (Nat.le_refl _) (fun _ _ e => e)

/-- A literal row of bytes. -/
theorem src_lit (w : World) (cs : List Nat) (n : Nat) (hn : cs.length = n) : Src (w.alloc (.cells (cs.map byteV).toArray 5)) (fun k => k = w.heap.size) (.slice (some ⟨w.heap.size, 0, none⟩) n n) cs := by
  subst hn
  refine ⟨_, _, rfl, fun _ => ⟨_, _, rfl, rfl, fun j hj => ?_⟩⟩
  simp [byteV, hj]



theorem sum_at {V : Int} (w : World) (v : Value) (I : Nat → Prop) (cs : List Nat) (hsrc : Src w I v cs) (hb : ∀ b ∈ cs, b < 256) (hlen : cs.length ≤ 100000000) (hV : V = (more 0 cs : Nat)) :
    Calls Try.prog 24 #[v] w fun e w' => e = .returned (.int .u32 V) ∧ Below w.heap.size w w' := by
  subst hV
  refine (lsum_any w v I cs hsrc hb hlen).mono ?_
  rintro e w' ⟨rfl, rfl⟩
  exact ⟨rfl, Below.refl _ _⟩

theorem more_at {S V : Int} (w : World) (v : Value) (I : Nat → Prop) (cs : List Nat) (s : Nat) (hsrc : Src w I v cs) (hb : ∀ b ∈ cs, b < 256) (hlen : cs.length ≤ 100000000) (hS : S = (s : Nat)) (hs : s < 4294967296) (hV : V = (more s cs : Nat)) :
    Calls Try.prog 34 #[.int .u32 S, v] w fun e w' => e = .returned (.int .u32 V) ∧ Below w.heap.size w w' := by
  subst hV hS
  refine (lmore_any w v I cs hsrc hb s hs hlen).mono ?_
  rintro e w' ⟨rfl, rfl⟩
  exact ⟨rfl, Below.refl _ _⟩

theorem sum9 : more 0 [49, 50, 51, 52, 53, 54, 55, 56, 57] = 3421780262 := by decide +kernel
theorem sum4 : more 0 [49, 50, 51, 52] = 2615402659 := by decide +kernel
theorem sum5 : more 2615402659 [53, 54, 55, 56, 57] = 3421780262 := by decide +kernel

theorem Fresh.alloc {w w' : World} {v : Value} {bs : List Nat} (h : Fresh w w' v bs) (o : Obj) : Fresh w (w'.alloc o) v bs := h.later (F := fun _ => False) ((Kept.refl _ w').alloc o) (fun _ e => e.elim)
theorem Fresh.drewN {w w' : World} {v : Value} {bs : List Nat} (h : Fresh w w' v bs) (m : Nat) : Fresh w (w'.drewN m) v bs := h.later (F := fun _ => False) ((Kept.refl _ w').drewN m) (fun _ e => e.elim)



theorem cell_mark (w : World) (C : Array Value) (t : TypeId) (fr : Nat × Nat) (j : Nat) : (w.alloc (.cells C t fr)).cell? ⟨w.heap.size, j, none⟩ = C[j]? := by
  have : (w.alloc (.cells C t fr)).heap[w.heap.size]? = some (.cells C t fr) := by
    show (w.heap.push _)[w.heap.size]? = _
    simp
  simp only [World.cell?, this]
  simp

/-- A constant text's bytes. -/
theorem src_mark (w : World) (cs : List Nat) (n : Nat) (fr : Nat × Nat) (hn : cs.length = n) : Src (w.alloc (.cells (cs.map byteV).toArray 5 fr)) (fun k => k = w.heap.size) (.slice (some ⟨w.heap.size, 0, none⟩) n n) cs := by
  subst hn
  refine ⟨_, _, rfl, fun _ => ⟨_, _, rfl, rfl, fun j hj => ?_⟩⟩
  rw [Nat.zero_add, cell_mark]
  simp [byteV, hj]



end Go.Proofs.Ytjjhjbmmhkcapaa
