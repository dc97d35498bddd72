import Derived.Test.YtkhagfgineifhaaGreatDoorHRis
set_option maxHeartbeats 2000000
set_option maxRecDepth 100000
namespace Go.Proofs.YtkhagfgineifhaaGreatDoor
open Go.RowKit
def d6(lo hi z:Int):Bool:=decide (z<lo) || decide (hi<z)
theorem Ds(w:World)(p q:Nat)(lo hi z:Int)(hp:w.cell? ⟨p,0,none⟩=some (.int .i64 lo))(hq:w.cell? ⟨q,0,none⟩=some (.int .i64 hi)):
  Calls Tryz.prog 178 #[.int .i64 z,.pointer (some ⟨p,0,none⟩),.pointer (some ⟨q,0,none⟩)] w λe w'=>e=.returned (.bool (d6 lo hi z))/\∃m,w'=w.drewN m:=by
 go_enter Tryz.func178,Tryz.ntmps178;by_cases h:z<lo
 ·go_wp2_with fail;go_ret;exact⟨by simp[d6,h],0,rfl⟩
 ·go_wp2_with fail;go_ret;have h':decide (z<lo)=false:=(by simp;omega);exact⟨by simp only[d6,h',Bool.false_or];rfl,0,rfl⟩
abbrev FN(p q:Nat):Value:=.func (.func 178) #[] #[.pointer (some ⟨p,0,none⟩),.pointer (some ⟨q,0,none⟩)]
theorem D8(w:World)(v:Value)(I:Nat→Prop)(zs:List Int)(p q:Nat)(lo hi:Int)(hs:SrcE bI w I v zs)(hn:zs.length≤1000000)(hp:w.cell? ⟨p,0,none⟩=some (.int .i64 lo))(hq:w.cell? ⟨q,0,none⟩=some (.int .i64 hi)):
  Calls Tryz.prog 184 #[v,FN p q] w λe w'=>(∃z:Int,e=.returned (.int .i64 z)/\decide (0<=z)=zs.any (d6 lo hi))/\Same w w':=by
 obtain⟨ao,cap,rfl,_,_⟩:=id hs;have HS:Hid (SrcE bI w I (.slice ao zs.length cap) zs):=hs;clear hs;go_enter Tryz.func184,Tryz.ntmps184;go_wp2_with fail;go_loopg [8] zs.length (λk z wr=>∃i:Nat,zs.length-i<=k/\i<=zs.length/\z=.int .i64 (i:Nat)/\Hid ((zs.take i).any (d6 lo hi)=false)/\Hid (Same w wr))
 case atStart=>exact⟨0,by omega,by omega,rfl,hid (by simp),Kept.refl _ _⟩
 case round=>
  obtain⟨i,hk,yr,rfl,HF,HK⟩:=hrel;by_cases hlt:i<zs.length
  ·obtain⟨b,o,eS,e,_,_,hc⟩:=(HS.out.same HK.out).get i hlt;simp only[Value.slice.injEq]at e;obtain⟨rfl,_,rfl⟩:=e;obtain⟨x,hx⟩:∃x,x=zs[i]:=⟨_,rfl⟩
   rw[<-hx]at hc;unfold bI at hc;have HX:Hid (x=zs[i]):=hx;have HC:=Ds wr p q lo hi x (HK.out.cell hp (λh=>h)) (HK.out.cell hq (λh=>h));clear hx;cases hb:d6 lo hi x with
   | true=>
    rw[hb]at HC;have HB:Hid (d6 lo hi x=true):=hb;clear hb;go_wp2_with fail;refine HC.mono ?_;rintro e w2 ⟨rfl,m,rfl⟩;go_wp2_with fail;go_ret;refine⟨⟨_,rfl,?_⟩,HK.out.drewN _⟩;have h1:zs.any (d6 lo hi)=true:=List.any_eq_true.2 ⟨x,by rw[HX.out];exact List.getElem_mem _,HB.out⟩;rw[h1];simp
   | false=>
    rw[hb]at HC;have HB:Hid (d6 lo hi x=false):=hb;clear hb;go_wp2_with fail;refine HC.mono ?_;rintro e w2 ⟨rfl,m,rfl⟩;go_wp2_with fail;go_roundg (gk-1)
    case measure=>omega
    case rel=>
     refine⟨i+1,by omega,by omega,by go_num,hid ?_,HK.out.drewN _⟩;rw[List.take_succ_eq_append_getElem hlt,List.any_append,HF.out,<-HX.out];simp[HB.out]
  ·have:i=zs.length:=(by omega);subst this;go_wp2_with fail;go_ret;refine⟨⟨_,rfl,?_⟩,HK.out⟩;have h:=HF.out;rw[List.take_of_length_le (Nat.le_refl _)]at h;rw[h];simp
theorem uP(w:World)(v:Value)(I:Nat→Prop)(zs:List Int)(p q:Nat)(lo hi:Int)(hs:SrcE bI w I v zs)(hn:zs.length≤1000000)(hp:w.cell? ⟨p,0,none⟩=some (.int .i64 lo))(hq:w.cell? ⟨q,0,none⟩=some (.int .i64 hi)):
  Calls Tryz.prog 155 #[v,FN p q] w λe w'=>e=.returned (.bool (zs.any (d6 lo hi)))/\Same w w':=by
 have H:=D8 w v I zs p q lo hi hs hn hp hq;clear hs hp hq;go_enter Tryz.func155,Tryz.ntmps155;go_wp2_with fail;refine H.mono ?_;rintro e w2 ⟨⟨z,rfl,hz⟩,hk⟩;have HZ:Hid (decide (0<=z)=zs.any (d6 lo hi)):=hz;have HK:Hid (Same w w2):=hk;clear hz hk H;go_wp2_with fail;go_ret;refine⟨?_,HK.out⟩;rw[<-HZ.out];rfl
def eC(zs:List Int)(lo hi:Int):Bool:=decide (0<zs.length) && decide (zs.length<=288) && !(zs.any (d6 lo hi))
theorem BK(w:World)(v:Value)(I:Nat→Prop)(zs:List Int)(lo hi:Int)(hs:SrcE bI w I v zs)(hn:zs.length≤1000000):
  Calls Tryz.prog 150 #[v,.int .i64 lo,.int .i64 hi] w λe w'=>e=.returned (.bool (eC zs lo hi))/\Same w w':=by
 obtain⟨ao,cap,rfl,_,_⟩:=id hs;have hk0:Same w ((w.alloc (.cells #[.int .i64 lo] 3)).alloc (.cells #[.int .i64 hi] 3)):=((Kept.refl _ w).alloc _).alloc _;have HC:=uP ((w.alloc (.cells #[.int .i64 lo] 3)).alloc (.cells #[.int .i64 hi] 3)) _ I zs w.heap.size (w.heap.size+1) lo hi (hs.same hk0) hn (by simp) (by
  have:=World.size_alloc w (.cells #[.int .i64 lo] 3);rw[<-this];simp)
 have HK0:Hid (Same w ((w.alloc (.cells #[.int .i64 lo] 3)).alloc (.cells #[.int .i64 hi] 3))):=hk0;clear hs hk0;go_enter Tryz.func150,Tryz.ntmps150;by_cases h0:0<zs.length
 ·by_cases h1:zs.length<=288
  ·have Y0:decide (0<zs.length)=true:=(by simp[h0]);have YM:decide (zs.length<=288)=true:=(by simp[h1]);go_wp2_with fail;refine HC.mono ?_;rintro e w2 ⟨rfl,hk⟩;have HK:Hid (Same w w2):=hid (HK0.out.trans hk);clear hk HC;go_wp2_with fail;go_ret;exact⟨by simp[eC,h0,h1],HK.out⟩
  ·go_wp2_with fail;go_ret;exact⟨by simp[eC,h1],HK0.out⟩
 ·go_wp2_with fail;go_ret;exact⟨by simp[eC,h0],HK0.out⟩
def eM(n:Nat):Nat:=if n=0 then 0 else 2 ^ (15-n)
def measure(ns:List Nat):Nat:=(ns.map eM).sum
def dE(ns:List Nat):Nat:=ns.countP (λn=>n != 0)
def bw(ns:List Nat):Nat:=if 32768<measure ns then 30 else if measure ns=32768 then 0 else if dE ns=1/\measure ns=16384 then 0 else 31
def chk(zs:List Int):Nat:=if eC zs 0 15=true then bw (zs.map Int.toNat)else 1
theorem oh{zs:List Int}{hi:Int}(h:eC zs 0 hi=true):((zs.map Int.toNat).map am=zs.map bI)/\0<zs.length/\zs.length<=288/\∀n∈zs.map Int.toNat,(n:Int)<=hi:=by
 simp only[eC,Bool.and_eq_true,decide_eq_true_eq,Bool.not_eq_true',List.any_eq_false]at h;obtain⟨⟨h1,h2⟩,h3⟩:=h;have h4:∀z∈zs,0<=z/\z<=hi:=λz hz=>by have:=h3 z hz;simp[d6]at this;omega
 refine⟨?_,h1,h2,?_⟩
 ·rw[List.map_map];refine List.map_congr_left (λz hz=>?_);simp only[Function.comp,am,bI];rw[Int.toNat_of_nonneg (h4 z hz).1]
 ·intro n hn;obtain⟨z,hz,rfl⟩:=List.mem_map.1 hn;have:=h4 z hz;omega
theorem mW(ns:List Nat)(n:Nat):measure (ns++[n])=measure ns+eM n:=by simp[measure]
theorem qe(ns:List Nat)(n:Nat):dE (ns++[n])=dE ns+(if n=0 then 0 else 1):=by by_cases h:n=0<;>simp[dE,h]
theorem JB(n:Nat):eM n<=16384:=by
 unfold eM;split
 ·omega
 ·exact Nat.le_trans (Nat.pow_le_pow_right (by omega) (show 15-n<=14 by omega)) (by decide)
theorem measure_le(ns:List Nat):measure ns<=16384*ns.length:=by
 induction ns with
 | nil=>simp[measure]
 | cons a r ih=>have:=JB a;simp[measure]at *;omega
theorem F2(ns:List Nat):dE ns<=ns.length:=List.countP_le_length
theorem zB{n:Nat}(h0:n≠0)(h:n<=15):eM n=32768 / 2 ^ n:=by unfold eM;rw[if_neg h0,show(32768:Nat)=2 ^ 15 by rfl,Nat.pow_div h (by omega)]
theorem kL(w:World)(v:Value)(I:Nat→Prop)(zs:List Int)(hs:SrcE bI w I v zs)(hn:zs.length≤1000000):
  Calls Tryz.prog 173 #[v] w λe w'=>e=.returned (.int .i64 (chk zs:Nat))/\Same w w':=by
 obtain⟨ao,cap,rfl,_,_⟩:=id hs;have HC:=BK w _ I zs 0 15 hs hn;have HS:Hid (SrcE bI w I (.slice ao zs.length cap) zs):=hs;clear hs;go_enter Tryz.func173,Tryz.ntmps173;go_wp2_with fail;refine HC.mono ?_;rintro e w2 ⟨rfl,hk⟩;have HK:Hid (Same w w2):=hk;clear hk HC;cases hok:eC zs 0 15 with
 | false=>
  go_wp2_with fail;go_ret;exact⟨by simp[chk,hok],HK.out⟩
 | true=>
  obtain⟨e1,h0,KE,h15⟩:=oh hok;have HCH:Hid (chk zs=bw (zs.map Int.toNat)):=hid (by simp[chk,hok]);have hl:(zs.map Int.toNat).length=zs.length:=(by simp);have HS2:Hid (SrcE am w I (.slice ao zs.length cap) (zs.map Int.toNat)):=hid (SrcE.recode HS.out e1);generalize zs.map Int.toNat=ns at *
  rw[<-hl]at HS2 KE h0 ⊢;clear hl hok e1 HS hn;have H15:Hid (∀n∈ns,(n:Int)<=15):=h15;clear h15;go_wp2_with fail;go_loopg [3,4,13] ns.length (λq zm zu zi wr=>∃(i m u:Nat),ns.length-i<=q/\i<=ns.length/\m<=16384*288/\u<=288/\zi=.int .i64 (i:Nat)/\zm=.int .i64 (m:Nat)/\zu=.int .i64 (u:Nat)/\wr=w2/\Hid (m=measure (ns.take i)/\u=dE (ns.take i)))
  case atStart=>exact⟨0,0,0,by omega,by omega,by omega,by omega,rfl,rfl,rfl,rfl,⟨rfl,rfl⟩⟩
  case round=>
   obtain⟨i,m,u,hq,hi,hm,hu,rfl,rfl,rfl,rfl,HF⟩:=hrel;by_cases hlt:i<ns.length
   ·obtain⟨b,o,eS,e,_,_,hc⟩:=(HS2.out.same HK.out).get i hlt;simp only[Value.slice.injEq]at e;obtain⟨rfl,_,rfl⟩:=e;obtain⟨x,hx⟩:∃x,x=ns[i]:=⟨_,rfl⟩
    rw[<-hx]at hc;unfold am at hc;have Rv:x<=15:=(by have:=H15.out x (by rw[hx];exact List.getElem_mem _);omega);have ip:measure (ns.take (i+1))=measure (ns.take i)+eM x:=(by rw[List.take_succ_eq_append_getElem hlt,mW,hx]);have yB:dE (ns.take (i+1))=dE (ns.take i)+(if x=0 then 0 else 1):=(by rw[List.take_succ_eq_append_getElem hlt,qe,hx]);have hb1:measure (ns.take (i+1))<=16384*288:=Nat.le_trans (measure_le _) (Nat.mul_le_mul_left _ (by simp;omega));have hb2:dE (ns.take (i+1))<=288:=Nat.le_trans (F2 _) (by simp;omega);clear hx;by_cases yH:x=0
    ·rw[if_pos yH]at yB;have LR:eM x=0:=(by simp[eM,yH]);rw[LR]at ip;have HF2:Hid (measure (ns.take (i+1))=measure (ns.take i)/\dE (ns.take (i+1))=dE (ns.take i)):=⟨ip,yB⟩
     clear ip yB LR hb1 hb2;rw[yH]at hc;go_wp2_with fail;go_roundg (gk-1)
     case measure=>omega
     case rel=>exact⟨i+1,m,u,by omega,by omega,hm,hu,by go_num,rfl,rfl,rfl,hid (by rw[HF2.out.1,HF2.out.2];exact HF.out)⟩
    ·rw[if_neg yH]at yB;have uT:0<x:=(by omega);have Q2:((32768:Int) / 2 ^ x)=((eM x:Nat):Int):=(by rw[zB yH Rv];simp);have HF2:Hid (measure (ns.take (i+1))=m+eM x/\dE (ns.take (i+1))=u+1):=hid ⟨by rw[ip,HF.out.1],by rw[yB,HF.out.2]⟩;have hb3:m+eM x<=16384*288:=(by rw[<-HF2.out.1];exact hb1);have hb4:u+1<=288:=(by rw[<-HF2.out.2];exact hb2);clear ip yB hb1 hb2 yH;generalize eM x=ux at *
     go_wp2_with fail;go_roundg (gk-1)
     case measure=>omega
     case rel=>exact⟨i+1,m+ux,u+1,by omega,by omega,hb3,hb4,by go_num,by go_num,by go_num,rfl,hid ⟨HF2.out.1.symm,HF2.out.2.symm⟩⟩
   ·have:i=ns.length:=(by omega);subst this;have Pi:m=measure ns:=(by have:=HF.out.1;rw[List.take_of_length_le (Nat.le_refl _)]at this;exact this);have UF:u=dE ns:=(by have:=HF.out.2;rw[List.take_of_length_le (Nat.le_refl _)]at this;exact this);have HU:Hid (m=measure ns/\u=dE ns):=⟨Pi,UF⟩
    clear Pi UF HF;by_cases hover:32768<m
    ·by_cases O1:u=1
     ·go_wp2_with fail;go_ret;refine⟨?_,HK.out⟩;rw[HCH.out,bw,<-HU.out.1,if_pos hover];rfl
     ·have hd:((u:Int)==1)=false:=(by simp;omega);go_wp2_with fail;go_ret;refine⟨?_,HK.out⟩;rw[HCH.out,bw,<-HU.out.1,if_pos hover];rfl
    ·by_cases LR:m<32768
     ·by_cases O1:u=1
      ·by_cases hh:m=16384
       ·go_wp2_with fail;go_ret;refine⟨?_,HK.out⟩;rw[HCH.out,bw,<-HU.out.1,<-HU.out.2,if_neg hover,if_neg (by omega),if_pos ⟨O1,hh⟩];rfl
       ·have hd:((m:Int)==16384)=false:=(by simp;omega);have HV:Hid (bw ns=31):=hid (by rw[bw,<-HU.out.1,<-HU.out.2,if_neg hover,if_neg (by omega),if_neg (λh=>hh h.2)]);have b1:decide ((32768:Int)<(m:Int))=false:=(by simp;omega);have b2:decide ((m:Int)<32768)=true:=(by simp;omega);clear hh LR hover;go_wp2_with fail;go_ret;refine⟨?_,HK.out⟩;rw[HCH.out,HV.out];rfl
      ·have hd:((u:Int)==1)=false:=(by simp;omega);have HV:Hid (bw ns=31):=hid (by rw[bw,<-HU.out.1,<-HU.out.2,if_neg hover,if_neg (by omega),if_neg (λh=>O1 h.1)]);have b1:decide ((32768:Int)<(m:Int))=false:=(by simp;omega);have b2:decide ((m:Int)<32768)=true:=(by simp;omega);clear LR hover O1;go_wp2_with fail;go_ret;refine⟨?_,HK.out⟩;rw[HCH.out,HV.out];rfl
     ·have hm3:m=32768:=(by omega);by_cases O1:u=1
      ·go_wp2_with fail;go_ret;refine⟨?_,HK.out⟩;rw[HCH.out,bw,<-HU.out.1,<-HU.out.2,if_neg hover,if_pos hm3];rfl
      ·have hd:((u:Int)==1)=false:=(by simp;omega);go_wp2_with fail;go_ret;refine⟨?_,HK.out⟩;rw[HCH.out,bw,<-HU.out.1,<-HU.out.2,if_neg hover,if_pos hm3];rfl
end Go.Proofs.YtkhagfgineifhaaGreatDoor
