/-
  Of the proof: parts TzI.
-/
import Derived.Test.YtcfociogljhbiaaGreatDoorJ33
import Derived.Test.YtcfociogljhbiaaGreatDoorJ38

namespace Go.Proofs.YtcfociogljhbiaaGreatDoor
open Go.RowKit Go.Maps Go.Sort Go.Shelf

set_option maxRecDepth 100000 in
set_option maxHeartbeats 2000000 in
theorem largeL14(w:World)(ao:Option Addr)(n c:Nat)(As:List Ad)(h:ArcI w (fun k=>k<w.heap.size) (.slice ao n c) As)(a:Option Addr)(m cap:Nat)(hb:n≤1152921504606846976∧m≤1152921504606846976∧∀x∈As,x.n≤1152921504606846976):Calls Tryz.prog 8 #[.slice ao n c,.slice a m cap] w fun e w'=>(∃b,e=.returned (.bool b)∧(b=false→n+m+(wrsOf14 As).length≤4096))∧Same w w':=by
 have HA:=hid h
 have HB:=hid hb
 have HN:Hid (n=As.length):=hid h.len3
 have hw:IntKind.i64.wrap ((n:Int)+(m:Int))=((n+m:Nat):Int):=by rw[IntKind.wrap_i64];omega
 clear h hb
 go_enter Tryz.func8,Tryz.ntmps8
 go_wp2_with fail
 go_loopg [5,6] (n+1) (fun q y z wr=>∃(i s:Nat),y=.int .i64 (s:Nat)∧z=.int .i64 (i:Nat)∧i≤n∧n-i<q∧Hid (s=n+m+(wrsOf14 (As.take i)).length∧s≤3458764513820540928+4096∧Same w wr))
 case atStart=>exact⟨0,n+m,by go_num,rfl,by omega,by omega,hid ⟨by rw[List.take_zero];rfl,by have:=HB.out;omega,Kept.refl _ _⟩⟩
 case round=>
  obtain⟨i,s,rfl,rfl,hi,hiq,HI⟩:=hrel
  by_cases hlt:i<n
  ·have f1:decide ((i:Int)<(n:Int))=true:=by simp;omega
   have f2:decide (i<n)=true:=by simp;omega
   by_cases hs:s≤4096
   ·have g1:decide ((s:Int)≤4096)=true:=decide_eq_true (by omega)
    obtain⟨b,o,x,rfl,hx,_,_,k2,hes⟩:=HA.out.at3 i hlt
    have k2:=HI.out.2.2.cell k2 (fun f=>f)
    have c1:(0:Int)≤(i:Int):=by omega
    have c2:(i:Int)<(n:Int):=by omega
    have hiw:IntKind.i64.wrap ((i:Int)+1)=((i+1:Nat):Int):=by rw[IntKind.wrap_i64];have:=HB.out;omega
    obtain⟨hi9,e9⟩:=List.getElem?_eq_some_iff.1 hx
    have HX:Hid (x.n≤1152921504606846976∧(wrsOf14 (As.take (i+1))).length=(wrsOf14 (As.take i)).length+x.n):=hid ⟨HB.out.2.2 x (List.mem_of_getElem? hx),by rw[wrsOf14_take As i hi9,e9,List.length_append,List.length_map,←hes.len2]⟩
    have hsw:IntKind.i64.wrap ((s:Int)+(x.n:Int))=((s+x.n:Nat):Int):=by rw[IntKind.wrap_i64];have:=HX.out;omega
    have HLT:Hid (i<n∧s≤4096):=hid ⟨hlt,hs⟩
    clear hx hi9 e9 hes hlt hs
    go_wp2_with fail
    go_roundg (gk-1)
    case measure=>have:=HLT.out;omega
    case rel=>exact⟨i+1,s+x.n,by go_num,by go_num,by have:=HLT.out;omega,by have:=HLT.out;omega,hid ⟨by rw[HX.out.2,HI.out.1];omega,by have:=HX.out;have:=HLT.out;omega,HI.out.2.2⟩⟩
   ·have g1:decide ((s:Int)≤4096)=false:=decide_eq_false (by omega)
    have g2:decide ((4096:Int)<(s:Int))=true:=decide_eq_true (by omega)
    clear hlt hs
    go_wp2_with fail
    go_ret
    exact⟨⟨true,rfl,fun e=>by cases e⟩,HI.out.2.2⟩
  ·have f1:decide ((i:Int)<(n:Int))=false:=by simp;omega
   have f2:decide (i<n)=false:=by simp;omega
   have HT:Hid (As.take i=As):=hid (List.take_of_length_le (by have:=HN.out;omega))
   by_cases hs:s≤4096
   ·have g2:decide ((4096:Int)<(s:Int))=false:=decide_eq_false (by omega)
    have HS:=hid hs
    clear hlt hs
    go_wp2_with fail
    go_ret
    exact⟨⟨false,rfl,fun _=>by have h9:=HI.out.1;rw[HT.out]at h9;have:=HS.out;omega⟩,HI.out.2.2⟩
   ·have g2:decide ((4096:Int)<(s:Int))=true:=decide_eq_true (by omega)
    clear hlt hs
    go_wp2_with fail
    go_ret
    exact⟨⟨true,rfl,fun e=>by cases e⟩,HI.out.2.2⟩

end Go.Proofs.YtcfociogljhbiaaGreatDoor
