import Derived.Test.YtljlmfnbeofmmaaGreatDoorZqA
namespace Go.Proofs.YtljlmfnbeofmmaaGreatDoor
open Go.RowKit

set_option maxRecDepth 100000 in
set_option maxHeartbeats 400000 in
theorem info_any (w : World) (m : Mk) (v : Value) (hm : MkOk m) :
  Calls Tryz.prog 52 #[.agg (itZ m v)] w fun e w' => e = .returned (.agg #[.string (txt m.name), .int .i64 (m.size : Nat), .int .i64 (m.packed : Nat), .int .u32 (m.sum : Nat), .int .i64 (m.way : Nat)]) ∧ Same w w' := by
 have h1 : IntKind.i64.wrap (m.size : Int) = (m.size : Int) := by rw [IntKind.wrap_i64]; have := hm.size; omega
 have h2 : IntKind.i64.wrap (m.packed : Int) = (m.packed : Int) := by rw [IntKind.wrap_i64]; have := hm.packed; omega
 have h3 : IntKind.i64.wrap (m.way : Int) = (m.way : Int) := by rw [IntKind.wrap_i64]; have := hm.way; omega
 clear hm
 unfold itZ
 go_enter Tryz.func52, Tryz.ntmps52
 go_wp2_with fail
 obtain ⟨wz, hwz⟩ : ∃ W, W = (w.alloc (.cells #[.int .u16 (m.way : Nat), .int .u32 (m.sum : Nat), .int .u32 (m.packed : Nat), .int .u32 (m.size : Nat), .string (txt m.name), v] 78)).alloc (.cells #[.string (txt m.name), .int .i64 (m.size : Nat), .int .i64 (m.packed : Nat), .int .u32 (m.sum : Nat), .int .i64 (m.way : Nat)] 50) := ⟨_, rfl⟩
 have hb := Blk.new (w.alloc (.cells #[.int .u16 (m.way : Nat), .int .u32 (m.sum : Nat), .int .u32 (m.packed : Nat), .int .u32 (m.size : Nat), .string (txt m.name), v] 78)) #[.string (txt m.name), .int .i64 (m.size : Nat), .int .i64 (m.packed : Nat), .int .u32 (m.sum : Nat), .int .i64 (m.way : Nat)] 50
 rw [World.size_alloc, ← hwz] at hb
 have hk : Same w wz := by rw [hwz]; exact ((Kept.refl _ w).alloc _).alloc _
 have z0 := hb.cell 0
 have z1 := hb.cell 1
 have z2 := hb.cell 2
 have z3 := hb.cell 3
 have z4 := hb.cell 4
 simp at z0 z1 z2 z3 z4
 rw [← hwz]
 refine bodyPost_ret (v := .agg #[.string (txt m.name), .int .i64 (m.size : Nat), .int .i64 (m.packed : Nat), .int .u32 (m.sum : Nat), .int .i64 (m.way : Nat)]) (by rw [results_cell8 rfl]; simp [go_sem, z0, z1, z2, z3, z4]) rfl ?_
 exact ⟨rfl, hk⟩

set_option maxRecDepth 100000 in
set_option maxHeartbeats 400000 in
theorem gaveNone_any (w : World) :
  Calls Tryz.prog 50 #[.nilIface] w fun e w' => e = .returned (.int .i64 0) ∧ w' = w := by
 go_enter Tryz.func50, Tryz.ntmps50
 go_wp2_with fail
 go_ret
 exact ⟨rfl, rfl⟩

theorem Tryz.asErrno (v : Value) (w : World) : (Instr.typeAssert (.iface 27 v) 20 27 false).run Tryz.prog w = .ok v w := by kernel_rfl

set_option maxRecDepth 100000 in
set_option maxHeartbeats 400000 in
theorem gaveSome_any (w : World) (n : Nat) :
  Calls Tryz.prog 50 #[.iface 27 (.int .i64 (n : Nat))] w fun e w' => e = .returned (.int .i64 (n : Nat)) ∧ w' = w := by
 have hta := Tryz.asErrno (.int .i64 (n : Nat)) w
 go_enter Tryz.func50, Tryz.ntmps50
 go_wp2_with fail
 go_ret
 exact ⟨rfl, rfl⟩

end Go.Proofs.YtljlmfnbeofmmaaGreatDoor
