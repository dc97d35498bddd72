/-
  Layer 19: a response's fields.
-/
import Derived.Test.YtaefgnakdadgeaaWiM
namespace Go.Proofs.Ytaefgnakdadgeaa
open Go.RowKit

/-- A response, but its names. -/
structure Rs where
  c : Int
  x : Int
  a : Int
  z : Int
  d : ByteArray
  b : Int
  e : Int

/-- A response's cells, with its names' value. -/
def Rs.cs (r : Rs) (v : Value) : List Cel := [.n r.c, .n r.x, .n r.a, .n r.z, .s r.d, .o v, .n r.b, .n r.e]

def rsV (r : Rs) (v : Value) : Array Value := #[.int .i64 r.c, .int .i64 r.x, .int .i64 r.a, .int .i64 r.z, .string r.d, v, .int .i64 r.b, .int .i64 r.e]

/-- The fields that a response has. -/
def fdR : List Fd := [.num 1, .num 2, .num 3, .num 6, .num 7, .txt 4 16384]

theorem fdR_fits (r : Rs) (v : Value) : ∀ f ∈ fdR, f.fits (r.cs v) := by
  have hn : ∀ i x, (r.cs v)[i]? = some (.n x) → (Fd.num i).fits (r.cs v) := fun i x h => ⟨x, h⟩
  have ht : ∀ i m x, (r.cs v)[i]? = some (.s x) → m ≤ 16384 → (Fd.txt i m).fits (r.cs v) := fun i m x h h2 => ⟨⟨x, h⟩, h2⟩
  have g1 := hn 1 r.x rfl
  have g2 := hn 2 r.a rfl
  have g3 := hn 3 r.z rfl
  have g4 := ht 4 16384 r.d rfl (by decide)
  have g6 := hn 6 r.b rfl
  have g7 := hn 7 r.e rfl
  unfold fdR
  simp only [List.mem_cons, List.not_mem_nil, or_false, forall_eq_or_imp, forall_eq, g1, g2, g3, g4, g6, g7, and_self]

set_option maxRecDepth 100000 in
set_option maxHeartbeats 1000000 in
theorem resf_any (w : World) (p : Nat) :
    Calls Try.prog 38 #[.pointer (some ⟨p, 0, none⟩)] w fun e w' => FdsA w w' p fdR e := by
  go_enter Try.func38, Try.ntmps38
  go_wp2_with fail
  go_region
  all_goals
    go_wp2_with fail
    go_ret
    first
      | exact fdsA_row (W := w) rfl (Kept.refl _ w) [fdV p (.num 1), fdV p (.num 2), fdV p (.num 3), fdV p (.num 6), fdV p (.num 7), fdV p (.txt 4 16384)] rfl
      | exact fdsA_row (W := w.drew) rfl ((Kept.refl _ w).drew) [fdV p (.num 1), fdV p (.num 2), fdV p (.num 3), fdV p (.num 6), fdV p (.num 7), fdV p (.txt 4 16384)] rfl

end Go.Proofs.Ytaefgnakdadgeaa
