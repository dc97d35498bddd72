/-
  The program's Sum, the calls of no hash, blockOf, padded, Mac, Same.
-/
import Derived.Test.YtfhfnkhiomahfaaGreatDoorHmI
namespace Go.Proofs.YtfhfnkhiomahfaaGreatDoor
open Go.RowKit

set_option maxRecDepth 100000 in
set_option maxHeartbeats 400000 in
theorem psum_any (w : World) (v : Value) (I : Nat → Prop) (bs : List Nat) (hsrc : Src w I v bs) (hI : ∀ k, I k → k < w.heap.size) (hcap : ∀ a n c, v = .slice a n c → n ≤ c) (hb : ∀ x ∈ bs, x < 256) (hT : Tab15 w) (hlen : bs.length ≤ 400000000) :
    Calls Tryz.prog 85 #[v] w fun e w' => e = .returned (.agg ((shaF bs).map byteV).toArray) ∧ Same w w' := by
  have HS := hid hsrc
  have HI := hid hI
  have HC := hid hcap
  have HBY := hid hb
  have HT := hid hT
  have HLE := hid hlen
  clear hsrc hI hcap hb hT hlen
  go_enter Tryz.func85, Tryz.ntmps85
  go_wp2_with (first
    | (with_reducible refine at_alloc 86 2 ?_; refine wpl_alloc 86 _ Tryz.zero32 ?_; intro w2 g2 hB2 hk2 hg2 hl2; have HB2 := hid hB2; have HK2 := hid hk2; clear hB2 hk2))
  refine (hnew_any w2).mono ?_
  rintro e w3 ⟨p, rfl, hH3, hk3, hp⟩
  have H3 := hid hH3
  have HK3 := hid hk3
  have HT3 := hid ((HT.out.kept HK2.out (fun f => f)).kept hk3 (fun f => f))
  have HPN : Hid (p ≠ 2) := hid (by have := (HT.out.kept HK2.out (fun f => f)).lt; omega)
  have hsz2 := HK2.out.size
  have HW := hwrite_any w3 p [] v I bs hH3 ((HS.out.kept HK2.out (fun _ _ _ f => f)).kept hk3 (fun _ _ _ f => f)) (fun k hk e => by have := HI.out k hk; omega) HC.out HBY.out HT3.out HPN.out (by have := HLE.out; simp; omega)
  clear hH3 hk3
  go_wp2_with fail
  refine HW.mono ?_
  rintro e w4 ⟨⟨u, rfl⟩, hH4, hk4⟩
  have HK4 := hid hk4
  have HU := hsum_any w4 p ([] ++ bs) hH4 (HT3.out.kept hk4 (fun e => HPN.out e.symm)) (by have := HLE.out; simp; omega)
  clear hH4 hk4 HW
  go_wp2_with fail
  refine HU.mono ?_
  rintro e w5 ⟨rfl, hk5⟩
  have HK5 := hid hk5
  clear hk5 HU
  rw [List.nil_append]
  have HK25 : Hid (Same w2 w5) := hid ((HK3.out.then HK4.out (fun x hx e => by omega)).trans HK5.out)
  go_wp2_with (first
    | (with_reducible refine at_store 86 2 ?_; refine wpl_store 86 32 Tryz.size32 rfl (cells := (shaF bs).map byteV) rfl (HB2.out.kept HK25.out (fun f => f)) (by simp) (by simp [shaF_length]) (byteV_one _) ?_; intro w9 hB9 hk9 hs9; have HB9 := hid hB9; have HK9 := hid hk9; clear hB9 hk9 hs9))
  refine bodyPost_ret (results_cell15 rfl 32 _ Tryz.underlying86 rfl Tryz.size32 _ rfl HB9.out (by simp [shaF_length])) rfl ?_
  exact ⟨rfl, (HK2.out.trans HK25.out).then HK9.out (fun x hx e => by omega)⟩

set_option maxRecDepth 100000 in
theorem Tryz.built32 (w : World) : (Instr.build 86 #[]).run Tryz.prog w = .ok (.agg ((List.replicate 32 0).map byteV).toArray) w := by kernel_rfl
theorem built32_at (a : Act) (w : World) : (Instr.build 86 ((#[] : Array (Nat × Operand)).map fun (i, x) => (i, a.eval x))).run Tryz.prog w = .ok (.agg ((List.replicate 32 0).map byteV).toArray) w := by
  have e : ((#[] : Array (Nat × Operand)).map fun (i, x) => (i, a.eval x)) = #[] := by simp
  rw [e]
  exact Tryz.built32 w

set_option maxRecDepth 100000 in
set_option maxHeartbeats 400000 in
theorem hsum_nil (w : World) : Calls Tryz.prog 62 #[.pointer none] w fun e w' => e = .returned (.agg ((List.replicate 32 0).map byteV).toArray) ∧ Same w w' := by
  go_enter Tryz.func62, Tryz.ntmps62
  go_wp2_with (first
    | (with_reducible refine at_alloc 86 2 ?_; refine wpl_alloc 86 _ Tryz.zero32 ?_; intro w2 g2 hB2 hk2 hg2 hl2; have HB2 := hid hB2; have HK2 := hid hk2; clear hB2 hk2)
    | (with_reducible refine at_build 86 ?_; refine wpl_build 86 (.agg ((List.replicate 32 0).map byteV).toArray) (built32_at _ _) ?_)
    | (with_reducible refine at_store 86 2 ?_; refine wpl_store 86 32 Tryz.size32 rfl (cells := (List.replicate 32 0).map byteV) rfl HB2.out (by simp) (by simp) (byteV_one _) ?_; intro w9 hB9 hk9 hs9; have HB9 := hid hB9; have HK9 := hid hk9; clear hB9 hk9 hs9))
  refine bodyPost_ret (results_cell15 rfl 32 _ Tryz.underlying86 rfl Tryz.size32 _ rfl HB9.out (by simp)) rfl ?_
  exact ⟨rfl, HK2.out.then HK9.out (fun x hx e => by omega)⟩

set_option maxRecDepth 100000 in
set_option maxHeartbeats 400000 in
theorem hwrite_nil (w : World) (v : Value) : Calls Tryz.prog 61 #[.pointer none, v] w fun e w' => (∃ u, e = .returned u) ∧ w' = w := by
  go_enter Tryz.func61, Tryz.ntmps61
  go_wp2_with fail
  refine bodyPost_ret (results_none rfl _ _ _) rfl ?_
  exact ⟨⟨_, rfl⟩, rfl⟩

end Go.Proofs.YtfhfnkhiomahfaaGreatDoor
