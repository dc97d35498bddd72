import Derived.Test.YtkhagfgineifhaaGreatDoorHLen2
import Derived.Test.YtkhagfgineifhaaGreatDoorHChk
set_option maxHeartbeats 2000000
set_option maxRecDepth 100000
namespace Go.Proofs.YtkhagfgineifhaaGreatDoor
open Go.RowKit
def dS(ns:List Nat)(most:Nat):List Nat:=
 if (aD ns).length<=1 then dP ns (λ_=>1)else dP ns (ev (aQ ns) (most-1) (2*(aQ ns).length-2))
theorem iw(ns:List Nat)(most:Nat):(dS ns most).length=ns.length:=by unfold dS;split<;>exact oO _ _
theorem FB(k:Nat)(h:k<=15):wrap64 ((2:Int) ^ k)=((2 ^ k:Nat):Int):=by
 have h1:(2:Int) ^ k=((2 ^ k:Nat):Int):=by simp
 have h2:2 ^ k<=2 ^ 15:=Nat.pow_le_pow_right (by omega) h;have h3:(2:Nat) ^ 15=32768:=by decide
 rw[h1];generalize 2 ^ k=q at *
 unfold wrap64;omega
theorem qm(w:World)(v:Value)(I:Nat→Prop)(zs:List Int)(ns:List Nat)(most:Nat)(hs:SrcE bI w I v zs)(hok:eC zs 0 1000000000000=true)(hns:ns=zs.map Int.toNat)(h1:1≤most)(h15:most≤15)(cL:(aD ns).length≤2 ^ most):
  Calls Tryz.prog 123 #[v,.int .i64 (most:Nat)] w λe w'=>(∃g n cap,e=.returned (.tuple #[.slice (some ⟨g,0,none⟩) n cap,.int .i64 0])/\NRow 0 w' (.slice (some ⟨g,0,none⟩) n cap) (dS ns most)/\w.heap.size<=g)/\Same w w':=by
 obtain⟨eN,h0,KE,mr⟩:=oh hok;have HC:=BK w v I zs 0 1000000000000 hs (by omega);rw[hok]at HC;rw[<-hns]at eN mr;obtain⟨av,capv,A1,ic,gh⟩:=id hs;clear ic gh;subst A1;have HS:Hid (SrcE am w (λk=>I k/\k<w.heap.size) (.slice av zs.length capv) ns):=hid (hs.recode eN).low;have rO:zs.length=ns.length:=by rw[hns];simp
 have uW:(aD ns).length<=288:=by have:=cJ ns;omega
 have HLE:Hid (∀n∈ns,n<=1000000000000):=hid (λn hn=>by have:=mr n hn;omega);have g1:decide ((most:Int)<1)=false:=by simp;omega
 have g2:decide ((15:Int)<(most:Int))=false:=by simp;omega
 clear hs hok eN mr hns;generalize zs.length=n at *
 have HN:Hid (n=ns.length):=rO;clear rO;go_enter Tryz.func123,Tryz.ntmps123;go_wp2_with fail;refine HC.mono ?_;rintro e w2 ⟨rfl,hk⟩;have HK:Hid (Same w w2):=hk;clear hk HC;have HRI:=lW w2 _ _ ns (HS.out.same HK.out) (by have:=HN.out;omega);go_wp2_with fail;refine HRI.mono ?_;rintro e w3 ⟨v3,rfl,hn3⟩;obtain⟨a3,c3,sk,_⟩:=hn3.row.shape;subst sk;have HK3:Hid (Same w w3):=hid (Same.trans HK.out hn3.same);have HN3:Hid (NRow w2.heap.size w3 (.slice a3 (aD ns).length c3) (aD ns)):=hid hn3.row;have hs2:=HK.out.size;have hs3:=HK3.out.size;clear hn3 HRI;obtain⟨rl,MW⟩:∃rl,rl=(aD ns).length:=⟨_,rfl⟩
 have HRL:Hid (rl=(aD ns).length):=MW;rw[<-MW]at HN3 uW cL ⊢;clear MW;obtain⟨pw,ml⟩:∃pw,pw=2 ^ most:=⟨_,rfl⟩
 have WR:=FB most h15;rw[<-ml]at WR;have HPW:Hid (pw=2 ^ most):=ml;rw[<-ml]at cL;clear ml;have Jg:decide (pw<rl)=false:=by simp;omega
 by_cases pM:rl=0
 ·have HF:Hid (dS ns most=List.replicate n 0):=hid (by
   unfold dS;rw[<-HRL.out,if_pos (by omega),HN.out,<-on];exact jt ns _ _ (λi hi=>by rw[<-HRL.out]at hi;omega))
  go_wp2_with (at_make;refine dm _ am 0 w3.heap.size 143 3 8 Tryz.underlying143 Tryz.infoN rfl (by decide) rfl _ _ rfl _ _ _ _ n rfl rfl rfl rfl (by omega) (Nat.le_refl _) ?_;intro w4 hr4 pO oF;have HR4:Hid (NRow w3.heap.size w4 (.slice (some ⟨w3.heap.size,0,none⟩) n n) (List.replicate n 0)):=hr4;have HK4:Hid (Same w3 w4):=hid ((Kept.refl _ w3).grown pO (by simp));clear hr4 pO)
  go_ret2;exact⟨⟨_,_,_,rfl,by rw[HF.out];exact RowE.base HR4.out (Nat.zero_le _),by omega⟩,Same.trans HK3.out HK4.out⟩
 ·have IV:((rl:Int)==0)=false:=(by simp;omega);by_cases hr1:rl=1
  ·have Cq:((rl:Int)==1)=true:=(by simp;omega);have yO:0<(aD ns).length:=(by have:=HRL.out;omega);obtain⟨s,hs⟩:∃s,s=(aD ns)[0]:=⟨_,rfl⟩
   have hsr:=aW.1 (by rw[hs];exact List.getElem_mem _:s∈aD ns);have Jj:s<n:=(by have:=HN.out;omega);obtain⟨b,o,cap',e5,_,_,c5⟩:=(SrcE.ofRow HN3.out).get 0 yO;simp only[Value.slice.injEq]at e5;obtain⟨rfl,jC,rfl⟩:=e5;clear jC;rw[<-hs]at c5;unfold am at c5;rw[Nat.add_zero]at c5;have HR5:Hid (∀w4,NRow w3.heap.size w4 (.slice (some ⟨w3.heap.size,0,none⟩) n n) (List.replicate n 0)->NRow w3.heap.size (w4.setCell ⟨w3.heap.size,s,none⟩ (.int .i64 1)) (.slice (some ⟨w3.heap.size,0,none⟩) n n) (dS ns most)):=hid (by
    intro w4 hr4;have h:=hr4.lay s 1;rw[HN.out,<-on,hs,wo ns _ 0 1 yO,<-hs,<-HN.out]at h;unfold dS;rw[<-HRL.out,if_pos (by omega),jt ns (λ_=>1) (λi=>if i=0 then 1 else 0) (λi hi=>by rw[<-HRL.out]at hi;rw[if_pos (show i=0 by omega)])];exact h)
   clear hs hsr IV pM;have kY:0<rl:=(by omega);clear hr1;go_wp2_with (at_make;refine dm _ am 0 w3.heap.size 143 3 8 Tryz.underlying143 Tryz.infoN rfl (by decide) rfl _ _ rfl _ _ _ _ n rfl rfl rfl rfl (by omega) (Nat.le_refl _) ?_;intro w4 hr4 pO oF;have HR4:Hid (NRow w3.heap.size w4 (.slice (some ⟨w3.heap.size,0,none⟩) n n) (List.replicate n 0)):=hr4;have HK4:Hid (Same w3 w4):=hid ((Kept.refl _ w3).grown pO (by simp));have c6:=HK4.out.cell c5 (λh=>h);have cy:w4.cell? ⟨w3.heap.size,s,none⟩=some (.int .i64 0):=(hr4.cell s (by simpa using Jj)).trans (by simp[am]);have fy:=hr4.frozen s;clear hr4 pO);go_ret2;exact⟨⟨_,_,_,rfl,RowE.base (HR5.out w4 HR4.out) (Nat.zero_le _),by omega⟩,Same.then (Same.trans HK3.out HK4.out) ((Kept.refl (·=w3.heap.size) w4).setCell ⟨w3.heap.size,s,none⟩ _ (.inl rfl)) (λx hx e=>by omega)⟩
  ·have Cq:((rl:Int)==1)=false:=(by simp;omega);have ip:2<=(aD ns).length:=(by have:=HRL.out;omega);have Io:ns.length<=288:=(by have:=HN.out;omega);go_wp2_with (at_make;refine dm _ am 0 w3.heap.size 143 3 8 Tryz.underlying143 Tryz.infoN rfl (by decide) rfl _ _ rfl _ _ _ _ n rfl rfl rfl rfl (by omega) (Nat.le_refl _) ?_;intro w4 hr4 pO oF;have HR4:Hid (NRow w3.heap.size w4 (.slice (some ⟨w3.heap.size,0,none⟩) n n) (List.replicate n 0)):=hr4;have HK4:Hid (Same w3 w4):=hid ((Kept.refl _ w3).grown pO (by simp));clear hr4 pO);have HLV:=zC w4 (.slice a3 rl c3) (.slice av n capv) (λk=>(I k/\k<w.heap.size)\/(Value.slice a3 rl c3).ownBlock=some k) ns most (SrcE.mono (SrcE.ofRow (HN3.out.same HK4.out)) (λk h=>.inr h)) (SrcE.mono (HS.out.same (Same.trans HK3.out HK4.out)) (λk h=>.inl h))
    (by intro e;rw[e]at ip;simp at ip) Io HLE.out h1 h15
   refine HLV.mono ?_;rintro e w5 ⟨⟨gl,capl,vs,rfl,IP,Lo,ey⟩,hk5⟩;have HLN:=t7 w5 ns most w3.heap.size n n gl capl (.slice a3 rl c3) (fun k=>(Value.slice a3 rl c3).ownBlock=some k) w4.heap.size w3.heap.size vs (HR4.out.same hk5) HN.out Io (SrcE.ofRow ((HN3.out.same HK4.out).same hk5)) (fun k hk e=>by
     have h1:=HN3.out.lt hk;omega) IP Lo ip h1 h15 (by rw[<-HRL.out,<-HPW.out];exact cL)
   have HK5:Hid (Same w4 w5):=hk5;clear IP Lo hk5 HLV;go_wp2_with fail;refine HLN.mono ?_;rintro e w6 ⟨⟨v6,rfl⟩,hr6,hk6⟩;have HR6:Hid (NRow 0 w6 (.slice (some ⟨w3.heap.size,0,none⟩) n n) (dS ns most)):=hid (by
    unfold dS;rw[if_neg (by omega)];exact hr6)
   have HK6:Hid (Same w w6):=hid (Same.then (Same.trans HK3.out (Same.trans HK4.out HK5.out)) hk6 (λx hx e=>by omega));clear hr6 hk6 HLN;go_wp2_with fail;go_ret2;exact⟨⟨_,_,_,rfl,HR6.out,by omega⟩,HK6.out⟩
end Go.Proofs.YtkhagfgineifhaaGreatDoor
