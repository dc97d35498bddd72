import Derived.Test.YtkhagfgineifhaaGreatDoorZqM
import Derived.Test.YtkhagfgineifhaaGreatDoorZqK
namespace Go.Proofs.YtkhagfgineifhaaGreatDoor
theorem vI{a b:List Nat}{n:Nat}(ha:n<=a.length)(hb:n<=b.length):n<=(bX a b).length:=by unfold bX;split<;>assumption
theorem Jr(ts:List TK):17<=(rY ts).length:=by
 unfold rY kW bB;simp only[List.length_append,List.length_cons,List.length_nil];have h1:∀v n,(aj v n).length=n:=λv n=>af v n
 rw[h1,h1,h1];omega
theorem AE{data bs:List Nat}(h:PDef data bs)(hf:17<=(dG (cT data)).length):¬bs.length<3:=by obtain⟨x2,x3,rfl,h2,h3⟩:=h;have g2:=h2.1.len;have g3:=h3.1.1.len;have g4:=Jr (cT data);have:3<=(bX (bX (bE data) x2) x3).length:=vI (vI (by simp[bE]) (by omega)) (by omega);omega
theorem J4:17<=(dG (cT [111,110,101])).length:=by decide +kernel
theorem Kr:17<=(dG (cT [116,119,111])).length:=by decide +kernel
def GI:ByteArray:=⟨#[111,110,101]⟩
def Hu:ByteArray:=⟨#[116,119,111]⟩
def a8:ByteArray:=⟨#[97]⟩
def NC:ByteArray:=⟨#[98,47,99]⟩
def Le:ByteArray:=⟨#[]⟩
def I3(j:Nat):En:=if j=0 then⟨a8,GI⟩ else⟨NC,Hu⟩
def Qi(_:Nat):En:=⟨a8,Le⟩
theorem pF:fT I3 2=0:=by decide +kernel
theorem Bh:fT Qi 2=80:=by decide +kernel
theorem tB{y:En}{bs:List Nat}(h:PDef (sb y.d) bs)(hd:y.d.size=3)(hf:17<=(dG (cT (sb y.d))).length):(dZ y bs).way=0/\df ⟨dZ y bs,d8 y bs⟩=.ok (sb y.d):=by
 have h3:=AE h hf;have e1:(dZ y bs).way=0:=by simp only[dZ];rw[if_neg (by omega)]
 have e2:d8 y bs=sb y.d:=by simp only[d8];rw[if_neg (by omega)]
 refine⟨e1,?_⟩;unfold df;rw[if_neg (by rw[e1];decide)];simp only;rw[e2,show(dZ y bs).sum=more 0 (sb y.d)from rfl,if_pos rfl]
theorem JF{L:List It}(h:lD I3 2 L):(∀y∈L,y.lab.way=0)/\fV (bT L)=.ok L/\EY (bT L)=.ok [(sb a8,sb GI),(sb NC,sb Hu)]:=by
 obtain⟨hl,hj⟩:=h
 match L,hl with
 | [x0,x1],_=>
  obtain⟨b0,p0,e0⟩:=hj 0 x0 rfl;obtain⟨b1,p1,e1⟩:=hj 1 x1 rfl;have t0:=tB (y:=I3 0) p0 rfl J4;have t1:=tB (y:=I3 1) p1 rfl Kr;rw[<-e0]at t0;rw[<-e1]at t1;have Cs:=xe (E:=I3) (len:=2) (L:=[x0,x1]) ⟨rfl,hj⟩ pF;have Wx:x0.lab.way=0:=(by have:=t0.1;rw[e0];exact this);have Xh:x1.lab.way=0:=(by have:=t1.1;rw[e1];exact this);refine⟨λy hy=>?_,Cs,?_⟩
  ·simp only[List.mem_cons,List.not_mem_nil,or_false]at hy;rcases hy with rfl | rfl
   ·exact Wx
   ·exact Xh
  ·unfold EY;rw[Cs];simp only[io,t0.2,t1.2];have n0:x0.lab.name=sb a8:=(by rw[e0];rfl);have n1:x1.lab.name=sb NC:=(by rw[e1];rfl);rw[n0,n1];rfl
theorem Mf{E:Nat->En}{L:List It}(h:lD E 0 L):bT L=eO 0 0 0:=by have:L=[]:=List.eq_nil_of_length_eq_zero h.1;subst this;rfl
theorem Mm:fV (eO 0 0 0++[0])=.error 81:=by
 have h1:(eO 0 0 0++[0]).length=23:=by decide +kernel
 have h2:nF ((eO 0 0 0++[0]).drop 1)=none:=by decide +kernel
 unfold fV;rw[h1,if_neg (by decide),if_neg (by decide),en h2]
end Go.Proofs.YtkhagfgineifhaaGreatDoor
