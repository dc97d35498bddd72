/-
  Layer 19's laws: small things.
-/
import Derived.Test.YtaefgnakdadgeaaWiT
import Derived.Test.YtaefgnakdadgeaaWiW
import Derived.Test.YtaefgnakdadgeaaArgs
namespace Go.Proofs.Ytaefgnakdadgeaa
open Go.RowKit

/-- Bytes that came in. -/
structure Bs19 (w : World) (a : Option Addr) (n cap : Nat) (bs : List Nat) : Prop where
  src : Src w (fun k => k < w.heap.size) (.slice a n cap) bs
  room : n ≤ cap
  len : n = bs.length
  byte : ∀ b ∈ bs, b < 256

theorem IsRow.bs19 {w : World} {a : Option Addr} {len cap : Nat} {zs : List Int} (h : IsRow .u8 w a len cap zs) : ∃ bs, Bs19 w a len cap bs := by
  obtain ⟨bs, hs, hl, hb⟩ := h.src
  refine ⟨bs, hs, ?_, hl.symm, hb⟩
  rcases h with ⟨_, h2, h3, _⟩ | ⟨x, _, h2, _⟩
  · omega
  · omega

theorem Bs19.in19 {w : World} {a : Option Addr} {n cap : Nat} {bs : List Nat} (h : Bs19 w a n cap bs) (hn : n ≤ 2000000) : In19 w a n cap bs := ⟨h.src, h.room, by rw [← h.len]; exact hn, h.byte⟩

theorem below19 {w w' : World} (h : Same w w') : Below w.heap.size w w' := h.below (Nat.le_refl _) (fun _ _ f => f)

/-- A request in new memory. -/
theorem obQ (w : World) (q : Rq) : Ob (w.alloc (.cells #[.int .i64 q.k, .int .i64 q.x, .string q.a, .string q.e, .string q.d, .int .i64 q.f, .int .i64 q.m, .string q.o] 24)) w.heap.size 24 q.cs := Blk.new w (rqV q) _

theorem obR (w : World) (r : Rs) (v : Value) : Ob (w.alloc (.cells #[.int .i64 r.c, .int .i64 r.x, .int .i64 r.a, .int .i64 r.z, .string r.d, v, .int .i64 r.b, .int .i64 r.e] 40)) w.heap.size 40 (r.cs v) := Blk.new w (rsV r v) _

end Go.Proofs.Ytaefgnakdadgeaa
