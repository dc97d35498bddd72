import Derived.Test.YtkhagfgineifhaaGreatDoorZsT
import Derived.Test.YtkhagfgineifhaaGreatDoorZrL
import Derived.Test.YtkhagfgineifhaaGreatDoorHArgs
import Derived.Deep.QuietTactic
import Derived.BigQuiet
set_option maxHeartbeats 1000000
set_option maxRecDepth 100000
namespace Go.Proofs.YtkhagfgineifhaaGreatDoor
open Go.RowKit
theorem y3{B1 B2:Nat}(w:World)(a b:Option Addr)(n m c1 c2:Nat)(M:List Mk)(h1:RowC B1 34 5 jM w (.slice a n c1) M)(h2:RowC B2 34 5 jM w (.slice b m c2) M)(hl:M.length≤1000):
  Calls Tryz.prog 10 #[.slice a n c1,.slice b m c2] w λe w'=>e=.returned (.bool true)/\Same w w':=by
 have hn:n=M.length:=by obtain⟨_,_,e,_⟩:=h1.shape;simp only[Value.slice.injEq]at e;exact e.2.1
 have hm:m=n:=by obtain⟨_,_,e,_⟩:=h2.shape;simp only[Value.slice.injEq]at e;rw[hn];exact e.2.1
 subst hm;have HA:Hid (RowC B1 34 5 jM w (.slice a m c1) M/\RowC B2 34 5 jM w (.slice b m c2) M/\m=M.length/\M.length<=1000):=hid ⟨h1,h2,hn,hl⟩;clear h1 h2 hn hl;have q0:((m:Int) != (m:Int))=false:=by simp
 go_enter Tryz.func10,Tryz.ntmps10;go_wp2_with fail;go_loopg [5] m (λqq z wr=>∃i:Nat,z=.int .i64 (i:Nat)/\i<=m/\m-i<=qq/\Hid (Same w wr))
 case atStart=>exact⟨0,rfl,by omega,by omega,hid (Kept.refl _ _)⟩
 case round=>
  obtain⟨i,rfl,hi,Lv,HI⟩:=hrel;by_cases hlt:i<m
  ·have b1:decide (i<m)=true:=(by simp;omega);have yr:i<M.length:=(by have:=HA.out;omega);obtain⟨g,p1,hv,_,hc⟩:=HA.out.1.at8 um i yr;obtain⟨g',p2,iO,_,EB⟩:=HA.out.2.1.at8 um i yr;simp only[Value.slice.injEq]at hv iO;have e1:=hv.1;have e2:=iO.1;clear hv iO;subst e1 e2;obtain⟨x,hx⟩:∃x,x=M[i]:=⟨_,rfl⟩
   rw[<-hx]at hc EB;obtain⟨t,ht⟩:∃t,t=bH x.name:=⟨_,rfl⟩
   obtain⟨s,hs⟩:∃s,s=x.size:=⟨_,rfl⟩
   obtain⟨pk,Bg⟩:∃s,s=x.packed:=⟨_,rfl⟩
   obtain⟨sm,gp⟩:∃s,s=x.sum:=⟨_,rfl⟩
   obtain⟨wy,MD⟩:∃s,s=x.way:=⟨_,rfl⟩
   have HC:∀k u,(∀i',i'<5->w.cell? ⟨k,i*5+i',none⟩=(jM x)[i']?)->(jM x)[u]?≠none->u<5->wr.cell? ⟨k,i*5+u,none⟩=(jM x)[u]?:=λk u h _ hu=>by
    have h9:=h u hu;cases hh:(jM x)[u]? with
    | none=>contradiction
    | some y=>rw[hh]at h9;exact HI.out.cell h9 (λf=>f)
   have k0:wr.cell? ⟨g,i*5,none⟩=some (.string t):=(by rw[ht];exact HC g 0 hc (by simp[jM]) (by decide));have k1:wr.cell? ⟨g,i*5+1,none⟩=some (.int .i64 (s:Nat)):=(by rw[hs];exact HC g 1 hc (by simp[jM]) (by decide));have k2:wr.cell? ⟨g,i*5+2,none⟩=some (.int .i64 (pk:Nat)):=(by rw[Bg];exact HC g 2 hc (by simp[jM]) (by decide));have k3:wr.cell? ⟨g,i*5+3,none⟩=some (.int .u32 (sm:Nat)):=(by rw[gp];exact HC g 3 hc (by simp[jM]) (by decide));have k4:wr.cell? ⟨g,i*5+4,none⟩=some (.int .i64 (wy:Nat)):=(by rw[MD];exact HC g 4 hc (by simp[jM]) (by decide));have l0:wr.cell? ⟨g',i*5,none⟩=some (.string t):=(by rw[ht];exact HC g' 0 EB (by simp[jM]) (by decide));have l1:wr.cell? ⟨g',i*5+1,none⟩=some (.int .i64 (s:Nat)):=(by rw[hs];exact HC g' 1 EB (by simp[jM]) (by decide));have l2:wr.cell? ⟨g',i*5+2,none⟩=some (.int .i64 (pk:Nat)):=(by rw[Bg];exact HC g' 2 EB (by simp[jM]) (by decide));have l3:wr.cell? ⟨g',i*5+3,none⟩=some (.int .u32 (sm:Nat)):=(by rw[gp];exact HC g' 3 EB (by simp[jM]) (by decide));have l4:wr.cell? ⟨g',i*5+4,none⟩=some (.int .i64 (wy:Nat)):=(by rw[MD];exact HC g' 4 EB (by simp[jM]) (by decide));have i1:(0:Int)<=(i:Int):=(by omega);have i2:(i:Int)<(m:Int):=(by omega);have EP:IntKind.i64.wrap ((i:Int)+1)=((i+1:Nat):Int):=(by rw[IntKind.wrap_i64];have:=HA.out;omega);have HX:Hid (i<m):=hlt;clear HC hc EB ht hs Bg gp MD hx hlt yr;go_wp2_with fail;go_quiet (fail);go_wp2_with fail;go_roundg (gk-1)
   case measure=>have:=HX.out;omega
   case rel=>exact⟨i+1,by go_num,by have:=HX.out;omega,by have:=HX.out;omega,hid (HI.out.drewN _)⟩
  ·have b1:decide (i<m)=false:=(by simp;omega);go_wp2_with fail;go_ret;exact⟨rfl,HI.out⟩
end Go.Proofs.YtkhagfgineifhaaGreatDoor
