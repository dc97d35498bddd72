import Derived.Test.YtkhagfgineifhaaGreatDoorHMerge
set_option maxHeartbeats 2000000
set_option maxRecDepth 100000
namespace Go.Proofs.YtkhagfgineifhaaGreatDoor
open Go.RowKit
theorem Tryz.infoL:(Tryz.prog.info? 259).map (λi=>(i.zero,i.size,i.bytes))=some (some (I6 (none,0,0)),1,24):=by kernel_rfl
abbrev rZ(B:Nat):=RowE B 259 I6
theorem zM(ws:List Nat)(M:Nat)(h:∀x∈ws,x<=M)(t:Nat):∀x∈cM ws t,x.1<=2 ^ t*M:=by
 induction t with
 | zero=>
  intro x hx;simp[cM,iE]at hx;obtain⟨a,ha,rfl⟩:=hx;simpa using h a ha
 | succ t ih=>
  intro x hx;have ic:x.1∈(mg ws (cR ((cM ws t).map (·.1)))).map (·.1):=List.mem_map.2 ⟨x,hx,rfl⟩;have h1:1*M<=2 ^ (t+1)*M:=Nat.mul_le_mul_right _ (Nat.two_pow_pos _);rcases List.mem_append.1 ((mK _ _).mem_iff.1 ic)with h2 | h2
  ·have:=h _ h2;omega
  ·obtain⟨k,hk,e⟩:=List.getElem_of_mem h2;have hl:=b6 ((cM ws t).map (·.1));rw[List.length_map]at hl;rw[gD _ _ hk]at e;have a1:=ih _ (List.getElem_mem (show 2*k<(cM ws t).length by omega));have a2:=ih _ (List.getElem_mem (show 2*k+1<(cM ws t).length by omega));simp only[List.getElem_map]at e;have e2:2 ^ (t+1)*M=2 ^ t*M+2 ^ t*M:=(by rw[Nat.pow_succ,Nat.mul_assoc,Nat.mul_comm 2 M,<-Nat.mul_assoc];omega);omega
theorem LZ(ns:List Nat)(hk:∀n∈ns,n<=1000000000000)(t:Nat)(ht:t<=15):∀x∈cM (aQ ns) t,x.1<=40000000000000000:=by
 intro x hx;have h1:=zM (aQ ns) 1000000000000 (by
  intro y hy;obtain⟨s,hs,rfl⟩:=List.mem_map.1 hy;have:=(aW.1 hs).1;rw[aZ this];exact hk _ (List.getElem_mem _)) t x hx
 have h2:2 ^ t<=2 ^ 15:=Nat.pow_le_pow_right (by omega) ht;have h3:(2:Nat) ^ 15=32768:=by decide
 have h4:2 ^ t*1000000000000<=32768*1000000000000:=Nat.mul_le_mul_right _ (by omega);omega
def Levs(B:Nat)(w:World)(ns:List Nat)(vs:List (Option Addr×Nat×Nat)):Prop:=∀t (h:t<vs.length),TRow B w (I6 vs[t]) (cM (aQ ns) t)
theorem Levs.kept{F:Nat->Prop}{B:Nat}{w w':World}{ns:List Nat}{vs:List (Option Addr×Nat×Nat)}(h:Levs B w ns vs)(hk:Kept F w w')(hF:∀k,B<=k->k<w.heap.size->¬F k):Levs B w' ns vs:=
 λt ht=>(h t ht).kept hk (λk e=>hF k ((h t ht).ge e) ((h t ht).lt e))
theorem TRow.apart{B B':Nat}{w:World}{v v':Value}{its:List (Nat×Bool)}{vs:List (Option Addr×Nat×Nat)}(h:TRow B w v its)(h':rZ B' w v' vs){j g:Nat}(hj:v.ownBlock=some j)(hg:v'.ownBlock=some g):j≠g:=by
 rintro rfl;rcases h.2 with⟨rfl,_⟩ | ⟨g1,c1,PW,rfl,_,e1,_⟩
 ·simp[Value.ownBlock]at hj
 ·rcases h'.2 with⟨rfl,_⟩ | ⟨g2,c2,M7,rfl,_,e2,_⟩
  ·simp[Value.ownBlock]at hg
  ·simp[Value.ownBlock]at hj hg;subst hj hg;rw[e1]at e2;simp at e2
theorem zC(w:World)(vu vc:Value)(I:Nat→Prop)(ns:List Nat)(most:Nat)(hu:SrcE am w I vu (aD ns))(hc:SrcE am w I vc ns)(bm:aD ns≠[])(hns:ns.length≤288)(hk:∀n∈ns,n≤1000000000000)(hm1:1≤most)(hm:most≤15):
  Calls Tryz.prog 153 #[vc,vu,.int .i64 (most:Nat)] w λe w'=>(∃g cap vs,e=.returned (.slice (some ⟨g,0,none⟩) most cap)/\rZ w.heap.size w' (.slice (some ⟨g,0,none⟩) most cap) vs/\Levs w.heap.size w' ns vs/\most<=cap)/\Same w w':=by
 obtain⟨au,capu,N9,ic,gh⟩:=id hu;obtain⟨ac,capc,Qo,N6,EI⟩:=id hc;clear ic gh N6 EI;obtain⟨nu,vx⟩:∃nu,nu=(aD ns).length:=⟨_,rfl⟩
 obtain⟨nc,Fb⟩:∃nc,nc=ns.length:=⟨_,rfl⟩
 rw[<-vx]at N9;rw[<-Fb]at Qo;subst N9 Qo;clear vx Fb;generalize hVU:Value.slice au nu capu=vu at *
 generalize hVC:Value.slice ac nc capc=vc at *
 have hk0:Same w ((w.alloc (.cells #[vc] 143)).alloc (.cells #[vu] 143)):=((Kept.refl _ w).alloc _).alloc _;have hz:(w.alloc (.cells #[vc] 143)).heap.size=w.heap.size+1:=by simp
 obtain⟨w1,hw1⟩:∃w1,w1=(w.alloc (.cells #[vc] 143)).alloc (.cells #[vu] 143):=⟨_,rfl⟩
 have iN:w.heap.size+2<=w1.heap.size:=by rw[hw1];simp
 have HB:Hid (Box2 w1 (w.heap.size+1) w.heap.size vu vc I ns):=hid (by
  rw[hw1];refine⟨?_,?_,hu.same hk0,hc.same hk0⟩
  ·rw[<-hz];simp
  ·simp)
 have HK0:Hid (Same w w1):=hid (by rw[hw1];exact hk0);have HM:=λwx (h:Same w1 wx)=>fun(its:List (Nat×Bool)) (v:Value)=>fun(hr:TRow 0 wx v its) (h1:its.length<=1000) (h2:∀x∈its,x.1<=40000000000000000)=>Em wx 0 _ _ vu vc I ns its v (HB.out.same h) bm hns hr h1 h2 hk
 have HMM:Hid (∀wx,Same w1 wx->∀(its:List (Nat×Bool)) (v:Value),TRow 0 wx v its->its.length<=1000->(∀x∈its,x.1<=40000000000000000)->Calls Tryz.prog 183 #[v,.pointer (some ⟨w.heap.size+1,0,none⟩),.pointer (some ⟨w.heap.size,0,none⟩)] wx λe w'=>∃v',e=.returned v'/\TRow wx.heap.size w' v' (mg (aQ ns) (cR (its.map (·.1))))/\Same wx w'):=HM;have HLEN:Hid (∀t,(cM (aQ ns) t).length<=1000):=hid (λt=>by
  have h1:=(me (aQ ns) t).2;have h2:=cJ ns;rw[bj]at h1;omega)
 have HOK:Hid (∀t,t<=15->∀x∈cM (aQ ns) t,x.1<=40000000000000000):=hid (λt ht=>LZ ns hk t ht);clear hk0 HM hu hc hk hz;have HC0:=HMM.out w1 (Kept.refl _ _) [] (.slice none 0 0) TRow.nil (by simp) (by simp);subst hVU hVC;go_enter Tryz.func153,Tryz.ntmps153;go_wp2_with fail;rw[<-hw1];clear hw1;refine HC0.mono ?_;rintro e w2 ⟨v2,rfl,hr2,hk2⟩;obtain⟨a2,c2,rL,_,_⟩:=hr2.shape;subst rL;have HR2:Hid (TRow w.heap.size w2 (.slice a2 (mg (aQ ns) (cR (List.map (λx:Nat×Bool=>x.1) []))).length c2) (cM (aQ ns) 0)):=hid (by
  refine⟨hr2.1,?_⟩;rcases hr2.2 with h | ⟨g,cap,cur,e,hb,rest⟩
  ·exact .inl h
  ·exact .inr ⟨g,cap,cur,e,by omega,rest⟩)
 have HK2:Hid (Same w1 w2):=hk2;have lr:=hk2.size;clear hr2 hk2 HC0;generalize (mg (aQ ns) (cR (List.map (λx:Nat×Bool=>x.1) []))).length=n2 at HR2 ⊢;go_wp2_with fail;go_loopg [8] most (λq z wr=>∃(k cap g:Nat) (vs:List (Option Addr×Nat×Nat)),most-k<=q/\1<=k/\k<=most/\k<=cap/\z=.slice (some ⟨g,0,none⟩) k cap/\Hid (rZ w1.heap.size wr (.slice (some ⟨g,0,none⟩) k cap) vs)/\Hid (Levs w.heap.size wr ns vs)/\Hid (Same w1 wr))
 case atStart=>
  have hk3:Same w2 (w2.alloc (.cells #[.slice a2 n2 c2] 259)):=(Kept.refl _ w2).alloc _;have hrow:rZ w1.heap.size (w2.alloc (.cells #[.slice a2 n2 c2] 259)) (.slice (some ⟨w2.heap.size,0,none⟩) 1 1) [(a2,n2,c2)]:=
   ⟨rfl,.inr ⟨w2.heap.size,1,#[.slice a2 n2 c2],rfl,lr,heap_alloc_new w2 _,Nat.le_refl _,by simp only[maxLen];omega,rfl,rfl⟩⟩
  refine⟨1,1,w2.heap.size,[(a2,n2,c2)],by omega,by omega,by omega,by omega,rfl,hrow,?_,Same.trans HK2.out hk3⟩;refine hid (λt ht=>?_);have:t=0:=(by simpa using ht);subst this;exact TRow.kept HR2.out hk3 (λ_ _ h=>h)
 case round=>
  obtain⟨k,cap,g,vs,hq,hk1,YZ,Ff,rfl,HR,HL,HK⟩:=hrel;clear HR2 HK2;have I9:vs.length=k:=HR.out.len;by_cases hlt:k<most
  ·have cw:k-1<vs.length:=(by omega);obtain⟨la,ln,lc,hl⟩:∃la ln lc,vs[k-1]=(la,ln,lc):=⟨_,_,_,rfl⟩
   have cl:wr.cell? ⟨g,k-1,none⟩=some (.slice la ln lc):=(by rw[HR.out.cell (k-1) cw,hl];rfl);have htr:TRow 0 wr (.slice la ln lc) (cM (aQ ns) (k-1)):=by
    have h:=HL.out (k-1) cw;rw[hl]at h;refine⟨h.1,?_⟩;rcases h.2 with h | ⟨g,cap,cur,e,hb,rest⟩
    ·exact .inl h
    ·exact .inr ⟨g,cap,cur,e,Nat.zero_le _,rest⟩
   have HC:=HMM.out wr HK.out _ _ htr (HLEN.out _) (HOK.out _ (by omega));have jE:((k:Int)-1)=((k-1:Nat):Int):=(by omega);have Yc:vs.length<=15:=(by omega);have HVL:Hid (vs.length=k):=I9;clear htr hl cw I9;go_wp2_with fail;refine HC.mono ?_;rintro e w3 ⟨v3,rfl,hr3,hk3⟩;obtain⟨a3,c3,sk,_,_⟩:=hr3.shape;subst sk;have e3:mg (aQ ns) (cR ((cM (aQ ns) (k-1)).map (·.1)))=cM (aQ ns) k:=by
    conv=>rhs;rw[show k=(k-1)+1 by omega]
    rfl
   rw[e3]at hr3 ⊢;have hs3:=hk3.size;have hs1:=HK.out.size;have HR3:Hid (TRow wr.heap.size w3 (.slice a3 (cM (aQ ns) k).length c3) (cM (aQ ns) k)):=hr3;have HK3:Hid (Same wr w3):=hk3;have HRo:Hid (rZ w1.heap.size w3 (.slice (some ⟨g,0,none⟩) k cap) vs):=hid (HR.out.same hk3);have HLo:Hid (Levs w.heap.size w3 ns vs):=hid (HL.out.kept hk3 (λ_ _ _ h=>h));have U6:g<wr.heap.size:=HR.out.lt rfl;clear hr3 hk3 e3 HC HR HL cl;generalize (cM (aQ ns) k).length=n3 at *
   go_wp2_with (at_builtin;refine aY _ I6 Kb w1.heap.size 221 259 (I6 (none,0,0)) 24 Tryz.underlying221 Tryz.infoL rfl (by decide) rfl (.tmp 17) (.tmp 26) rfl (.slice (some ⟨g,0,none⟩) k cap) vs rfl (World.ownsRow.alloc HRo.out _) ⟨w3.heap.size,0,none⟩ 1 1 [(a3,n3,c3)] rfl rfl (bA _ _ _) (by simp;omega) (by simp;omega) ?_;intro v' w4 hrow mw)
   obtain⟨g4,sf,Je,pO,Yl,jV⟩:=RowE.some hrow (by simp);rw[show(vs++[(a3,n3,c3)]).length=k+1 by simp[HVL.out]]at Je jV;subst Je;have Ji:Kept (·=g) w3 w4:=Kept.grown ((Kept.refl _ w3).alloc _) mw (λj e=>by simp[Value.ownBlock]at e;exact .inl e.symm);have Xx:w1.heap.size<=g:=HRo.out.ge rfl;have HR5:Hid (rZ w1.heap.size w4 (.slice (some ⟨g4,0,none⟩) (k+1) sf) (vs++[(a3,n3,c3)])):=hrow;have HK5:Hid (Same w1 w4):=hid (Same.then (Same.trans HK.out HK3.out) Ji (λx hx e=>by omega));have HL5:Hid (Levs w.heap.size w4 ns (vs++[(a3,n3,c3)])):=hid (by
    intro t ht;by_cases h:t<vs.length
    ·rw[List.getElem_append_left h];exact TRow.kept (HLo.out t h) Ji (λj hj e=>TRow.apart (HLo.out t h) HRo.out hj (g:=g) rfl e)
    ·have htk:t=k:=(by rw[List.length_append]at ht;simp at ht;have:=HVL.out;omega);rw[List.getElem_append_right (by omega)];subst htk;simp only[HVL.out,Nat.sub_self,List.getElem_cons_zero];have h3:=TRow.kept HR3.out Ji (λj hj e=>TRow.apart HR3.out HRo.out hj (g:=g) rfl e);refine⟨h3.1,?_⟩;rcases h3.2 with h | ⟨g,cap,cur,e,hb,rest⟩
     ·exact .inl h
     ·exact .inr ⟨g,cap,cur,e,by omega,rest⟩)
   clear hrow mw Ji HRo HLo HR3;go_wp2_with fail;go_roundg (gk-1)
   case measure=>omega
   case rel=>exact⟨k+1,sf,g4,vs++[(a3,n3,c3)],by omega,by omega,by omega,jV,rfl,HR5,HL5,HK5⟩
  ·have hk2:k=most:=(by omega);subst hk2;go_wp2_with fail;go_ret;exact⟨⟨g,cap,vs,rfl,RowE.base HR.out (by omega),HL.out,Ff⟩,Same.trans HK0.out HK.out⟩
end Go.Proofs.YtkhagfgineifhaaGreatDoor
