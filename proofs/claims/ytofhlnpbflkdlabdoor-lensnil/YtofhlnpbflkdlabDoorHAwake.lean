/-
  The law's 'awake': the document's examples.
-/
import Derived.Test.YtofhlnpbflkdlabDoorHLim
import Derived.Test.YtofhlnpbflkdlabDoorHNew
namespace Go.Proofs.YtofhlnpbflkdlabDoor
open Go.RowKit

/-- A literal row of ints. -/
theorem src_ints (w : World) (zs : List Int) (n : Nat) (hn : zs.length = n) : SrcE intV (w.alloc (.cells (zs.map intV).toArray 3)) (fun k => k = w.heap.size) (.slice (some ⟨w.heap.size, 0, none⟩) n n) zs := by
  subst hn
  refine ⟨_, _, rfl, Nat.le_refl _, fun _ => ⟨_, _, rfl, rfl, fun j hj => ?_⟩⟩
  simp [hj]

/-- A literal row of bytes. -/
theorem src_bytes (w : World) (cs : List Nat) (n : Nat) (hn : cs.length = n) : Src (w.alloc (.cells (cs.map byteV).toArray 5)) (fun k => k = w.heap.size) (.slice (some ⟨w.heap.size, 0, none⟩) n n) cs := by
  subst hn
  refine ⟨_, _, rfl, fun _ => ⟨_, _, rfl, rfl, fun j hj => ?_⟩⟩
  simp [byteV, hj]

theorem rest_lt (bs : List Nat) (hb : ∀ b ∈ bs, b < 256) (c : Nat) (hc : c ≤ 8 * bs.length) : n256 bs / 2 ^ c < 2 ^ (8 * bs.length - c) := by
  have h := n256_lt bs hb
  rw [pow8] at h
  refine (Nat.div_lt_iff_lt_mul (Nat.two_pow_pos c)).2 ?_
  rw [← Nat.pow_add, show 8 * bs.length - c + c = 8 * bs.length by omega]
  exact h

/-- Next, where a code comes. -/
theorem next_is (w : World) (d : Nat) (vc vs : Value) (ns : List Nat) (p c : Nat) (s : Value) (bs : List Nat) (hd : Dec w d vc vs ns) (hm : mxL ns ≤ 15) (hns : ns.length ≤ 288) (hs : St w p s bs c) (hc : c ≤ 8 * bs.length) (hlen : bs.length ≤ 100000000) (hdis : ∀ k, DF d vc vs k → ¬ Fp p s k)
    (y : Nat) (hy : y ∈ ris ns) (hl : key ns y ≤ 8 * bs.length - c) (hf : rv (key ns y) (n256 bs / 2 ^ c) = codeOf ns y) :
    Calls Tryd.prog 55 #[.pointer (some ⟨d, 0, none⟩), .pointer (some ⟨p, 0, none⟩)] w fun e w' => e = .returned (.tuple #[.int .i64 (y : Nat), .int .i64 0]) ∧ St w' p s bs (c + key ns y) ∧ Kept (· = p) w w' := by
  refine (next_any w d vc vs ns p c s bs hd hm hns hs hc hlen hdis).mono ?_
  rintro e w' ⟨⟨sym, long, er, rfl, hans, hst⟩, hk⟩
  obtain ⟨rfl, rfl, rfl⟩ := Ans.unique (fun x => Nat.le_trans (key_le_mx ns x) hm) (rest_lt bs hs.byte c hc) hans hm hy hl hf
  exact ⟨rfl, hst, hk⟩

theorem ex_lim : limL [5, 1, 1, 1] 2 = [2, 2, 2, 2] := by decide +kernel
theorem ex_codes : codesL [2, 1, 3, 3] = [1, 0, 3, 7] := by decide +kernel



end Go.Proofs.YtofhlnpbflkdlabDoor
