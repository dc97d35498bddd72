import Derived.Test.YtkhagfgineifhaaGreatDoorInPq
set_option maxHeartbeats 1000000
namespace Go.Proofs.YtkhagfgineifhaaGreatDoor
open Go.RowKit
theorem CF(w:World)(h most:Nat)(vl bv va:Value)(gone e:Nat)(hs:Sm w h most vl bv va gone e):Calls Tryz.prog 99 #[.pointer (some ⟨h,0,none⟩)] w λx w'=>x=.returned (.bool (e==0))/\∃m,w'=w.drewN m:=by
 have c5:w.cell? ⟨h,5,none⟩=some (.int .i64 (e:Nat)):=hs.cell 5;have hE:((e:Int)==0)=(e==0):=by rw[Bool.eq_iff_iff];simp
 generalize (e==0)=eb at hE;clear hs;go_enter Tryz.func99,Tryz.ntmps99;go_wp2_with fail;go_ret;exact⟨rfl,0,rfl⟩
theorem lU(w:World)(h most:Nat)(vl bv va:Value)(gone e:Nat)(hs:Sm w h most vl bv va gone e):Calls Tryz.prog 77 #[.pointer (some ⟨h,0,none⟩)] w λx w'=>x=.returned (.int .i64 (e:Nat))/\w'=w:=by have c5:w.cell? ⟨h,5,none⟩=some (.int .i64 (e:Nat)):=hs.cell 5;clear hs;go_enter Tryz.func77,Tryz.ntmps77;go_wp2_with fail;go_ret;exact⟨rfl,rfl⟩
theorem Ac(w:World)(m:Nat)(h:m<=16384):Calls Tryz.prog 75 #[.int .i64 (m:Nat)] w λx w'=>x=.returned (.tuple #[.pointer (some ⟨w.heap.size,0,none⟩),.int .i64 0])/\Sm w' w.heap.size m (.slice none 0 0) (.pointer none) (.slice none 0 0) 0 55/\Same w w':=by
 have h0:¬(m:Int)<0:=by omega
 have h1:¬(16384:Int)<(m:Int):=by omega
 go_enter Tryz.func75,Tryz.ntmps75;go_wp2_with fail;go_ret2;exact⟨rfl,Blk.new w _ _,(Kept.refl _ w).alloc _⟩
end Go.Proofs.YtkhagfgineifhaaGreatDoor
