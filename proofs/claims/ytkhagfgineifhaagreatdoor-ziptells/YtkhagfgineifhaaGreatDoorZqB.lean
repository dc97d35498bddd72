import Derived.Test.YtkhagfgineifhaaGreatDoorZqA
set_option maxHeartbeats 400000
set_option maxRecDepth 100000
namespace Go.Proofs.YtkhagfgineifhaaGreatDoor
open Go.RowKit
theorem GG(w:World)(m:Mk)(v:Value)(hm:gN m):
  Calls Tryz.prog 23 #[.agg (jr m v)] w λe w'=>e=.returned (.agg #[.string (bH m.name),.int .i64 (m.size:Nat),.int .i64 (m.packed:Nat),.int .u32 (m.sum:Nat),.int .i64 (m.way:Nat)])/\Same w w':=by
 have h1:IntKind.i64.wrap (m.size:Int)=(m.size:Int):=by rw[IntKind.wrap_i64];have:=hm.size;omega
 have h2:IntKind.i64.wrap (m.packed:Int)=(m.packed:Int):=by rw[IntKind.wrap_i64];have:=hm.packed;omega
 have h3:IntKind.i64.wrap (m.way:Int)=(m.way:Int):=by rw[IntKind.wrap_i64];have:=hm.way;omega
 clear hm;unfold jr;go_enter Tryz.func23,Tryz.ntmps23;go_wp2_with fail;obtain⟨wz,oW⟩:∃W,W=(w.alloc (.cells #[.int .u16 (m.way:Nat),.int .u32 (m.sum:Nat),.int .u32 (m.packed:Nat),.int .u32 (m.size:Nat),.string (bH m.name),v] 60)).alloc (.cells #[.string (bH m.name),.int .i64 (m.size:Nat),.int .i64 (m.packed:Nat),.int .u32 (m.sum:Nat),.int .i64 (m.way:Nat)] 34):=⟨_,rfl⟩
 have hb:=Blk.new (w.alloc (.cells #[.int .u16 (m.way:Nat),.int .u32 (m.sum:Nat),.int .u32 (m.packed:Nat),.int .u32 (m.size:Nat),.string (bH m.name),v] 60)) #[.string (bH m.name),.int .i64 (m.size:Nat),.int .i64 (m.packed:Nat),.int .u32 (m.sum:Nat),.int .i64 (m.way:Nat)] 34;rw[World.size_alloc,<-oW]at hb;have hk:Same w wz:=by rw[oW];exact((Kept.refl _ w).alloc _).alloc _
 have z0:=hb.cell 0;have z1:=hb.cell 1;have z2:=hb.cell 2;have z3:=hb.cell 3;have z4:=hb.cell 4;simp at z0 z1 z2 z3 z4;rw[<-oW];refine bodyPost_ret (v:=.agg #[.string (bH m.name),.int .i64 (m.size:Nat),.int .i64 (m.packed:Nat),.int .u32 (m.sum:Nat),.int .i64 (m.way:Nat)]) (by rw[lJ rfl];simp[go_sem,z0,z1,z2,z3,z4]) rfl ?_;exact⟨rfl,hk⟩
theorem ju(w:World):
  Calls Tryz.prog 21 #[.nilIface] w λe w'=>e=.returned (.int .i64 0)/\w'=w:=by
 go_enter Tryz.func21,Tryz.ntmps21;go_wp2_with fail;go_ret;exact⟨rfl,rfl⟩
theorem Tryz.asErrno(v:Value)(w:World):(Instr.typeAssert (.iface 26 v) 20 26 false).run Tryz.prog w=.ok v w:=by kernel_rfl
theorem jz(w:World)(n:Nat):
  Calls Tryz.prog 21 #[.iface 26 (.int .i64 (n:Nat))] w λe w'=>e=.returned (.int .i64 (n:Nat))/\w'=w:=by
 have NE:=Tryz.asErrno (.int .i64 (n:Nat)) w;go_enter Tryz.func21,Tryz.ntmps21;go_wp2_with fail;go_ret;exact⟨rfl,rfl⟩
end Go.Proofs.YtkhagfgineifhaaGreatDoor
