import Derived.Test.YtggcbnhckcenmaaGreatDoorInPq
namespace Go.Proofs.YtggcbnhckcenmaaGreatDoor
open Go.RowKit
set_option maxHeartbeats 1000000 in
theorem pdone_any(w:World)(h most:Nat)(vl bv va:Value)(gone e:Nat)(hs:Sm w h most vl bv va gone e):Calls Tryz.prog 30 #[.pointer (some ⟨h,0,none⟩)] w fun x w'=>x=.returned (.bool (e==0))∧∃m,w'=w.drewN m:=by
 have c5:w.cell? ⟨h,5,none⟩=some (.int .i64 (e:Nat)):=hs.cell 5
 have hE:((e:Int)==0)=(e==0):=by rw[Bool.eq_iff_iff];simp
 generalize (e==0)=eb at hE
 clear hs
 go_enter Tryz.func30,Tryz.ntmps30
 go_wp2_with fail
 go_ret
 exact⟨rfl,0,rfl⟩

set_option maxHeartbeats 1000000 in
theorem pclose_any(w:World)(h most:Nat)(vl bv va:Value)(gone e:Nat)(hs:Sm w h most vl bv va gone e):Calls Tryz.prog 49 #[.pointer (some ⟨h,0,none⟩)] w fun x w'=>x=.returned (.int .i64 (e:Nat))∧w'=w:=by
 have c5:w.cell? ⟨h,5,none⟩=some (.int .i64 (e:Nat)):=hs.cell 5
 clear hs
 go_enter Tryz.func49,Tryz.ntmps49
 go_wp2_with fail
 go_ret
 exact⟨rfl,rfl⟩

set_option maxHeartbeats 1000000 in
theorem pnewS_good(w:World)(m:Nat)(h:m≤16384):Calls Tryz.prog 28 #[.int .i64 (m:Nat)] w fun x w'=>x=.returned (.tuple #[.pointer (some ⟨w.heap.size,0,none⟩),.int .i64 0])∧Sm w' w.heap.size m (.slice none 0 0) (.pointer none) (.slice none 0 0) 0 55∧Same w w':=by
 have h0:¬(m:Int)<0:=by omega
 have h1:¬(16384:Int)<(m:Int):=by omega
 go_enter Tryz.func28,Tryz.ntmps28
 go_wp2_with fail
 go_ret2
 exact⟨rfl,Blk.new w _ _,(Kept.refl _ w).alloc _⟩

end Go.Proofs.YtggcbnhckcenmaaGreatDoor
