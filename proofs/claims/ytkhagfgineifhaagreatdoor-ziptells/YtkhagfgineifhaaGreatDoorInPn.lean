import Derived.Test.YtkhagfgineifhaaGreatDoorInPt
set_option maxHeartbeats 400000
namespace Go.Proofs.YtkhagfgineifhaaGreatDoor
open Go.RowKit
theorem tq(hd wd x:Nat)(h8:hd<=8)(hw:wd<=13)(hx:x<2 ^ wd):∃pw,(hd:Int)*2 ^ wd=((pw:Nat):Int)/\hd*2 ^ wd=pw/\pw<=65536/\x<=8192:=by
 have hp:2 ^ wd<=2 ^ 13:=Nat.pow_le_pow_right (by decide) hw;have Xg:(2:Nat) ^ 13=8192:=by decide
 rw[Xg]at hp;refine⟨hd*2 ^ wd,by simp,rfl,?_,by omega⟩;exact Nat.le_trans (Nat.mul_le_mul h8 hp) (by decide)
theorem Re(y:Nat)(hlt:¬y<4)(hy:y<=29):∃wd qd rm hd:Nat,wd=y / 4-1/\wd<=13/\qd<=15/\(y:Int) / 4=(qd:Int)/\(qd:Int)-1=(wd:Int)/\(y:Int) % 4=(rm:Int)/\(4:Int)+(rm:Int)=(hd:Int)/\hd=4+y % 4/\rm<=3/\hd<=8:=
 ⟨y / 4-1,y / 4,y % 4,4+y % 4,rfl,by omega,by omega,by omega,by omega,by omega,by omega,rfl,by omega,by omega⟩
theorem CY(w:World)(p c y:Nat)(s:Value)(bs:List Nat)(hs:St w p s bs c)(hc:c≤8*bs.length)(ag:bs.length≤100000000)(hy:y≤29):
  Calls Tryz.prog 192 #[.pointer (some ⟨p,0,none⟩),.int .i64 (y:Nat),.int .i64 4] w λe w'=>NumA w' p s bs e (cY (ae bs) c y 4)/\Kept (·=p) w w':=by
 have HS:Hid (St w p s bs c):=hs;by_cases hlt:y<4
 ·have HE:Hid (cY (ae bs) c y 4=.ok (y,c)):=hid (by unfold cY;rw[if_pos hlt]);have HC:Hid (c<=8*bs.length):=hc;have Ck:decide ((y:Int)<4)=true:=(by simp;omega);clear hs hc hlt;go_enter Tryz.func192,Tryz.ntmps192;go_wp2_with fail;go_ret2;rw[HE.out];exact⟨⟨rfl,HC.out,HS.out⟩,Kept.refl _ _⟩
 ·have Ck:decide ((y:Int)<4)=false:=(by simp;omega);obtain⟨wd,qd,rm,hd,my,Nu,SS,RD,Ot,M0,Nc,Cl,Tl,Nr⟩:=Re y hlt hy;have HT:=fj w p c wd s bs hs hc ag (by omega);have HW:Hid (wd=y / 4-1):=my;have HHD:Hid (hd=4+y % 4):=Cl;clear hs hc my Cl;cases ht:iF (ae bs) c wd with
  | error er=>
   rw[ht]at HT;have HE:Hid (cY (ae bs) c y 4=.error er):=hid (by unfold cY;rw[if_neg hlt,<-HW.out,bO ht]);clear ht hlt M0 Nc;go_enter Tryz.func192,Tryz.ntmps192;go_wp2_with fail;refine HT.mono ?_;rintro e w2 ⟨hn2,hk2⟩;obtain⟨rfl,cE,hst⟩:=hn2.err;have lL:((er:Int) != 0)=true:=(by simp;omega);have HST:Hid (∃c',c'<=8*bs.length/\St w2 p s bs c'):=hst;have HK2:Hid (Kept (·=p) w w2):=hk2;have HER2:Hid (er≠0):=cE;clear hn2 hst hk2 HT cE;go_wp2_with fail;go_ret2;rw[HE.out];exact⟨⟨rfl,HER2.out,HST.out⟩,HK2.out⟩
  | ok x=>
   obtain⟨x,c2⟩:=x;rw[ht]at HT;obtain⟨pw,Lz,On,sg,sq⟩:=tq hd wd x Nr Nu (by rw[(d7 ht).1];exact bY _ (ay bs) _ _);obtain⟨z,hz⟩:∃z,z=pw+x:=⟨_,rfl⟩
   have HE:Hid (cY (ae bs) c y 4=.ok (z,c2)):=hid (by unfold cY;rw[if_neg hlt,<-HW.out,aF ht,hz,<-On,<-HHD.out]);have HPI:Hid ((hd:Int)*2 ^ wd=(pw:Int)):=Lz;clear ht hlt On Lz;have UQ:(pw:Int)+(x:Int)=(z:Int):=(by omega);have OG:z<=100000:=(by omega);have HSH:Hid (wrap64 ((hd:Int)*2 ^ wd)=(pw:Int)):=hid (by rw[HPI.out];unfold wrap64;omega);clear hz sg sq HPI;have Q2:=HSH.out;go_enter Tryz.func192,Tryz.ntmps192;go_wp2_with fail;refine HT.mono ?_;rintro e w2 ⟨hn2,hk2⟩;obtain⟨rfl,cS,hst⟩:=hn2.ok;have HST:Hid (St w2 p s bs c2):=hst;have HC2:Hid (c2<=8*bs.length):=cS;have HK2:Hid (Kept (·=p) w w2):=hk2;clear hn2 hst hk2 HT cS;go_wp2_with fail;go_ret2;rw[HE.out];exact⟨⟨rfl,HC2.out,HST.out⟩,HK2.out⟩
theorem Rh(y:Nat)(hlt:¬y<2)(hy:y<=29):∃wd qd rm hd:Nat,wd=y / 2-1/\wd<=13/\qd<=15/\(y:Int) / 2=(qd:Int)/\(qd:Int)-1=(wd:Int)/\(y:Int) % 2=(rm:Int)/\(2:Int)+(rm:Int)=(hd:Int)/\hd=2+y % 2/\rm<=3/\hd<=8:=
 ⟨y / 2-1,y / 2,y % 2,2+y % 2,rfl,by omega,by omega,by omega,by omega,by omega,by omega,rfl,by omega,by omega⟩
theorem sU(w:World)(p c y:Nat)(s:Value)(bs:List Nat)(hs:St w p s bs c)(hc:c≤8*bs.length)(ag:bs.length≤100000000)(hy:y≤29):
  Calls Tryz.prog 192 #[.pointer (some ⟨p,0,none⟩),.int .i64 (y:Nat),.int .i64 2] w λe w'=>NumA w' p s bs e (cY (ae bs) c y 2)/\Kept (·=p) w w':=by
 have HS:Hid (St w p s bs c):=hs;by_cases hlt:y<2
 ·have HE:Hid (cY (ae bs) c y 2=.ok (y,c)):=hid (by unfold cY;rw[if_pos hlt]);have HC:Hid (c<=8*bs.length):=hc;have Ck:decide ((y:Int)<2)=true:=(by simp;omega);clear hs hc hlt;go_enter Tryz.func192,Tryz.ntmps192;go_wp2_with fail;go_ret2;rw[HE.out];exact⟨⟨rfl,HC.out,HS.out⟩,Kept.refl _ _⟩
 ·have Ck:decide ((y:Int)<2)=false:=(by simp;omega);obtain⟨wd,qd,rm,hd,my,Nu,SS,RD,Ot,M0,Nc,Cl,Tl,Nr⟩:=Rh y hlt hy;have HT:=fj w p c wd s bs hs hc ag (by omega);have HW:Hid (wd=y / 2-1):=my;have HHD:Hid (hd=2+y % 2):=Cl;clear hs hc my Cl;cases ht:iF (ae bs) c wd with
  | error er=>
   rw[ht]at HT;have HE:Hid (cY (ae bs) c y 2=.error er):=hid (by unfold cY;rw[if_neg hlt,<-HW.out,bO ht]);clear ht hlt M0 Nc;go_enter Tryz.func192,Tryz.ntmps192;go_wp2_with fail;refine HT.mono ?_;rintro e w2 ⟨hn2,hk2⟩;obtain⟨rfl,cE,hst⟩:=hn2.err;have lL:((er:Int) != 0)=true:=(by simp;omega);have HST:Hid (∃c',c'<=8*bs.length/\St w2 p s bs c'):=hst;have HK2:Hid (Kept (·=p) w w2):=hk2;have HER2:Hid (er≠0):=cE;clear hn2 hst hk2 HT cE;go_wp2_with fail;go_ret2;rw[HE.out];exact⟨⟨rfl,HER2.out,HST.out⟩,HK2.out⟩
  | ok x=>
   obtain⟨x,c2⟩:=x;rw[ht]at HT;obtain⟨pw,Lz,On,sg,sq⟩:=tq hd wd x Nr Nu (by rw[(d7 ht).1];exact bY _ (ay bs) _ _);obtain⟨z,hz⟩:∃z,z=pw+x:=⟨_,rfl⟩
   have HE:Hid (cY (ae bs) c y 2=.ok (z,c2)):=hid (by unfold cY;rw[if_neg hlt,<-HW.out,aF ht,hz,<-On,<-HHD.out]);have HPI:Hid ((hd:Int)*2 ^ wd=(pw:Int)):=Lz;clear ht hlt On Lz;have UQ:(pw:Int)+(x:Int)=(z:Int):=(by omega);have OG:z<=100000:=(by omega);have HSH:Hid (wrap64 ((hd:Int)*2 ^ wd)=(pw:Int)):=hid (by rw[HPI.out];unfold wrap64;omega);clear hz sg sq HPI;have Q2:=HSH.out;go_enter Tryz.func192,Tryz.ntmps192;go_wp2_with fail;refine HT.mono ?_;rintro e w2 ⟨hn2,hk2⟩;obtain⟨rfl,cS,hst⟩:=hn2.ok;have HST:Hid (St w2 p s bs c2):=hst;have HC2:Hid (c2<=8*bs.length):=cS;have HK2:Hid (Kept (·=p) w w2):=hk2;clear hn2 hst hk2 HT cS;go_wp2_with fail;go_ret2;rw[HE.out];exact⟨⟨rfl,HC2.out,HST.out⟩,HK2.out⟩
end Go.Proofs.YtkhagfgineifhaaGreatDoor
