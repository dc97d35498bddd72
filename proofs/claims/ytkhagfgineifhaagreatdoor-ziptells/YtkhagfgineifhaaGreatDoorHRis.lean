import Derived.Test.YtkhagfgineifhaaGreatDoorHStab
import Derived.Test.YtkhagfgineifhaaGreatDoorSam
set_option maxHeartbeats 2000000
namespace Go.Proofs.YtkhagfgineifhaaGreatDoor
open Go.RowKit
theorem vJ(w:World)(ao:Option Addr)(cap:Nat)(cv:Value):
  Calls Tryz.prog 196 #[.slice ao 0 cap,.int .i64 0,cv] w λe w'=>(∃v,e=.returned v)/\w'=w:=by
 have HI:Calls Tryz.prog 202 #[.slice ao 0 cap,.int .i64 0,.int .i64 0,cv] w λe w'=>(∃v,e=.returned v)/\w'=w:=by
  go_enter Tryz.func202,Tryz.ntmps202;go_wp2_with fail;go_loopg [8] 1 (λ_ z wr=>z=.int .i64 1/\wr=w)
  case atStart=>exact⟨rfl,rfl⟩
  case round=>
   obtain⟨rfl,rfl⟩:=hrel;go_wp2_with fail;go_end0;exact⟨⟨_,rfl⟩,rfl⟩
 go_enter Tryz.func196,Tryz.ntmps196;go_wp2_with fail;go_loopg [7,8] 1 (λ_ z y wr=>z=.int .i64 0/\y=.int .i64 20/\wr=w)
 case atStart=>exact⟨rfl,rfl,rfl⟩
 case round=>
  obtain⟨rfl,rfl,rfl⟩:=hrel;go_wp2_with fail;refine HI.mono ?_;rintro e w2 ⟨⟨v,rfl⟩,rfl⟩;go_wp2_with fail;go_loopg [6] 1 (λ_ z wx=>z=.int .i64 20/\wx=w2)
  case atStart=>exact⟨rfl,rfl⟩
  case round=>
   obtain⟨rfl,rfl⟩:=hrel;go_wp2_with fail;go_end0;exact⟨⟨_,rfl⟩,rfl⟩
theorem DB(w:World)(ao:Option Addr)(cap:Nat)(cv:Value):
  Calls Tryz.prog 179 #[.slice ao 0 cap,cv] w λe w'=>(∃v,e=.returned v)/\w'=w:=by
 have H:=vJ w ao cap cv;go_enter Tryz.func179,Tryz.ntmps179;go_wp2_with fail;refine H.mono ?_;rintro e w2 ⟨⟨v,rfl⟩,rfl⟩;go_wp2_with fail;go_end0;exact⟨⟨_,rfl⟩,rfl⟩
theorem Gg(w:World)(B g n cap bx:Nat)(I:Nat→Prop)(ns d:List Nat)(hM:Mem w B g n cap bx I ns d)(hd:d.Pairwise (· < ·))(hm:∀x∈d,x<ns.length):
  Calls Tryz.prog 179 #[.slice (some ⟨g,0,none⟩) n cap,oZ bx] w λe w'=>(∃v,e=.returned v)/\∃d',d'.Perm d/\Sorted ns d'/\Mem w' B g n cap bx I ns d'/\Kept (·=g) w w':=by
 have H:=AJ w B g n cap bx I ns d hM hd hm;clear hM hd hm;go_enter Tryz.func179,Tryz.ntmps179;go_wp2_with fail;refine H.mono ?_;rintro e w2 ⟨⟨v,rfl⟩,h⟩;have HH:Hid (∃d',d'.Perm d/\Sorted ns d'/\Mem w2 B g n cap bx I ns d'/\Kept (·=g) w w2):=h;clear h H;go_wp2_with fail;go_end0;exact⟨⟨_,rfl⟩,HH.out⟩
def cW(ns:List Nat)(i:Nat):List Nat:=(List.range i).filter (λs=>key ns s != 0)
theorem fO(ns:List Nat)(i:Nat):cW ns (i+1)=cW ns i++(if key ns i=0 then []else [i]):=by unfold cW;rw[List.range_succ,List.filter_append];congr 1;by_cases h:key ns i=0<;>simp[h]
theorem se(ns:List Nat)(i:Nat):(cW ns i).length<=i:=by have:=List.length_filter_le (λs=>key ns s != 0) (List.range i);simpa[cW]using this
structure Ml(w w':World)(v:Value)(xs:List Nat):Prop where
 row:NRow w.heap.size w' v xs
 same:Same w w'
theorem lW(w:World)(v:Value)(I:Nat→Prop)(ns:List Nat)(hs:SrcE am w I v ns)(hn:ns.length≤1000000):
  Calls Tryz.prog 151 #[v] w λe w'=>∃v',e=.returned v'/\Ml w w' v' (aD ns):=by
 obtain⟨ao,cap,rfl,_,_⟩:=id hs;have CB:=hs.low;have HS:Hid (SrcE am w (λk=>I k/\k<w.heap.size) (.slice ao ns.length cap) ns):=CB;clear hs CB;go_enter Tryz.func151,Tryz.ntmps151;go_wp2_with fail;go_loopg [3,8] ns.length (λq zo zi wr=>∃(i:Nat),ns.length-i<=q/\i<=ns.length/\zi=.int .i64 (i:Nat)/\Hid (NRow (w.heap.size+1) wr zo (cW ns i))/\Hid (Kept (λ_=>False) (w.alloc (.cells #[.slice ao ns.length cap] 143)) wr))
 case atStart=>exact⟨0,by omega,by omega,rfl,RowE.nil,Kept.refl _ _⟩
 case round=>
  obtain⟨i,hq,yK,rfl,HR,HK⟩:=hrel;have HK0:Hid (Same w wr):=hid (Same.trans ((Kept.refl _ w).alloc _) HK.out);have dA:w.heap.size+1<=wr.heap.size:=(by have:=HK.out.size;simpa using this);by_cases hlt:i<ns.length
  ·obtain⟨b,o,eS,e,_,_,hc⟩:=(HS.out.same HK0.out).get i hlt;simp only[Value.slice.injEq]at e;obtain⟨rfl,_,rfl⟩:=e;rw[<-aZ hlt]at hc;unfold am at hc;by_cases h0:key ns i=0
   ·rw[h0]at hc;have HE:Hid (cW ns (i+1)=cW ns i):=hid (by rw[fO,if_pos h0,List.append_nil]);clear h0;go_wp2_with fail;go_roundg (gk-1)
    case measure=>omega
    case rel=>exact⟨i+1,by omega,by omega,by go_num,hid (by rw[HE.out];exact HR.out),HK⟩
   ·obtain⟨z,hz⟩:∃z,z=key ns i:=⟨_,rfl⟩
    rw[<-hz]at hc h0;have hd:((z:Int) != 0)=true:=(by simp;omega);have HE:Hid (cW ns (i+1)=cW ns i++[i]):=hid (by rw[fO,if_neg (by omega)]);have HL:Hid ((cW ns i).length+[i].length<=1000000000):=hid (by have:=se ns i;simp;omega);clear hz;go_wp2_with (at_builtin;refine aY _ am dK (w.heap.size+1) 143 3 (am 0) 8 Tryz.underlying143 Tryz.infoN rfl (by decide) rfl (.tmp 15) (.tmp 17) rfl u3 (cW ns i) rfl (World.ownsRow.alloc HR.out _) ⟨wr.heap.size,0,none⟩ 1 1 [i] rfl rfl (bA _ _ _) HL.out (by simp;omega) ?_;intro v' w1 hrow mw);have HR1:Hid (NRow (w.heap.size+1) w1 v' (cW ns i++[i])):=hrow;have HK1:Hid (Kept (λ_=>False) (w.alloc (.cells #[.slice (some ⟨b,o,none⟩) ns.length cap] 143)) w1):=hid ((HK.out.alloc _).grown mw (λk e=>.inr (by have:=HR.out.ge e;simpa using this)));clear hrow mw;go_wp2_with fail;go_roundg (gk-1)
    case measure=>omega
    case rel=>exact⟨i+1,by omega,by omega,by go_num,hid (by rw[HE.out];exact HR1.out),HK1⟩
  ·have hi:i=ns.length:=(by omega);subst hi;have M8:wr.cell? ⟨w.heap.size,0,none⟩=some (.slice ao ns.length cap):=HK.out.cell (by simp) (λh=>h);have hu:cW ns ns.length=eU ns:=rfl;have HR1:Hid (NRow (w.heap.size+1) wr u3 (eU ns)):=HR;clear HR hu;by_cases fB:eU ns=[]
   ·obtain⟨Vm,eS,rfl,_⟩:=HR1.out.shape;have h0:(eU ns).length=0:=(by rw[fB];rfl);have HR2:=HR1;rw[h0]at HR2 ⊢;have HC:=DB wr Vm eS (oZ w.heap.size);have HNIL:Hid (eU ns=[]):=fB;clear h0 fB hlt M8;go_wp2_with fail;refine HC.mono ?_;rintro e w2 ⟨⟨vv,rfl⟩,rfl⟩;go_wp2_with fail;go_ret;have e0:aD ns=eU ns:=List.Perm.eq_nil (by have:=fP ns;rw[HNIL.out]at this;exact this) |>.trans HNIL.out.symm;exact⟨_,rfl,by rw[e0];exact RowE.base HR2.out (by omega),HK0.out⟩
   ·obtain⟨g,eS,rfl,pL,nN,_⟩:=HR1.out.some fB;have HM:Mem wr (w.heap.size+1) g (eU ns).length eS w.heap.size (λk=>I k/\k<w.heap.size) ns (eU ns):=
     ⟨HR1.out,⟨_,M8,HS.out.same HK0.out⟩,by omega,λk hk=>by omega,by have:=ny ns;omega,hn⟩
    have HC:=Gg wr _ _ _ _ _ _ _ _ HM (wn ns) (λx hx=>(sN.1 hx).1);clear HM fB hlt M8;generalize (eU ns).length=un at *
    go_wp2_with fail;refine HC.mono ?_;rintro e w2 ⟨⟨vv,rfl⟩,d',p1,s1,hm1,hk1⟩;have HN:Hid (Ml w w2 (.slice (some ⟨g,0,none⟩) un eS) (aD ns)):=hid (by
     refine⟨?_,HK0.out.then hk1 (λx hx e=>by omega)⟩;rw[<-Mb s1 p1];exact RowE.base hm1.row (by omega))
    clear p1 s1 hm1 hk1 HC;go_wp2_with fail;go_ret;exact⟨_,rfl,HN.out⟩
end Go.Proofs.YtkhagfgineifhaaGreatDoor
