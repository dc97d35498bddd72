import Derived.Deep.RegionHeld3
import Derived.Lib.SliceRun
import Derived.Test.YtllcnlnbpikhdaaGreatDoorJ34
set_option maxHeartbeats 4000000
set_option maxRecDepth 100000
namespace Go.Proofs.YtllcnlnbpikhdaaGreatDoor
open Go.RowKit
theorem Gm{ns ls:List Nat}{N:Nat}:∀(f:Nat) (l m:List Nat) (c c':Nat),bz ns ls N f l c=.ok (m,c')->(∀x∈l,x<=15)->l.length<=N->N-l.length<=f->m.length=N/\c<=c':=by
 intro f
 induction f with
 | zero=>
  intro l m c c' h h15 hl hf;rw[kt (by omega)]at h;simp only[Except.ok.injEq,Prod.mk.injEq]at h;obtain⟨rfl,rfl⟩:=h;omega
 | succ f ih=>
  intro l m c c' h h15 hl hf;by_cases hlt:l.length<N
  ·cases hs:df ns ls c with
   | error e=>rw[rV hlt hs]at h;cases h
   | ok r=>
    obtain⟨⟨sy,x⟩,c2⟩:=r;rw[lL hlt hs]at h;cases hw:et l ((sy:Int),(x:Int)) N with
    | none=>rw[hw]at h;cases h
    | some m2=>
     rw[hw]at h;have hg:=ie hw h15;have h2:=ih m2 m c2 c' h hg.2.2 hg.2.1 (by omega);have h3:=pT hs;exact⟨h2.1,by omega⟩
  ·rw[kt (by omega)]at h;simp only[Except.ok.injEq,Prod.mk.injEq]at h;obtain⟨rfl,rfl⟩:=h;omega
theorem DC(w:World)(t:TypeId)(B:Nat)(hB:B<=w.heap.size):RowE B t am (w.alloc (.cells #[] t)) (.slice (some ⟨w.heap.size,0,none⟩) 0 0) []:=
 ⟨rfl,.inr ⟨w.heap.size,0,#[],rfl,hB,Blk.new w #[] t,Nat.le_refl _,Nat.zero_le _,rfl,rfl⟩⟩
theorem pK(w:World)(v:Value)(I:Nat→Prop)(ns:List Nat)(hs:SrcE am w I v ns)(hn:ns.length≤1000000):
  Calls Tryz.prog 202 #[v] w λe w'=>∃v',e=.returned v'/\Ld w w' v' ns:=by
 obtain⟨ao,cap,rfl,cj,hc⟩:=id hs;have Tk:∀(w:World) (a:Option Addr) (n c n' c':Nat),(binOp .eql 138 (.slice a n c) (.slice none n' c')).run Tryz.prog w=.ok (.bool a.isNone) w:=λw a n c n' c'=>Lib.run_eql_slice_nil w _ _ a n c n' c' Tryz.underlying138
 cases ao with
 | none=>
  have e0:ns=[]:=Classical.byContradiction (λh=>by obtain⟨_,_,e,_⟩:=hc h;cases e);subst e0;clear hs hc;go_enter Tryz.func202,Tryz.ntmps202;go_wp2_with fail;go_ret;exact⟨_,rfl,RowE.nil,Kept.refl _ _⟩
 | some ad=>
  have HS:Hid (SrcE am w I (.slice (some ad) ns.length cap) ns):=hs;have HR0:Hid (NRow w.heap.size (w.alloc (.cells #[] 3)) (.slice (some ⟨w.heap.size,0,none⟩) 0 0) []):=hid (DC w _ _ (Nat.le_refl _));have HK0:Hid (Same w (w.alloc (.cells #[] 3))):=hid ((Kept.refl _ w).alloc _);obtain⟨L,hL⟩:∃L,L=ns.length:=⟨_,rfl⟩
  have HL:Hid (L=ns.length):=hL;rw[<-hL]at HS hn ⊢;clear hs hc hL cj;go_enter Tryz.func202,Tryz.ntmps202;go_wp2_with (at_builtin;refine lS _ w.heap.size rfl (.tmp 5) (.tmp 6) rfl _ [] rfl HR0.out _ (some ad) L cap ns rfl (HS.out.same HK0.out) (λe=>by cases e) (by have:=HL.out;simp;omega) (by simp) ?_;intro v3 w3 hr3 jH;have HR3:Hid (NRow w.heap.size w3 v3 ns):=hid (by simpa using hr3);have HK3:Hid (Same w w3):=hid (HK0.out.grown jH (λj e=>.inr (HR0.out.ge e)));clear hr3 jH);go_ret;exact⟨_,rfl,HR3.out,HK3.out⟩
def K7(w w':World)(p:Nat)(s:Value)(bs:List Nat)(c:Nat)(e:Ending):Except Nat ((List Nat×List Nat)×Nat)->Prop
 | .error er=>e=.returned (.tuple #[.slice none 0 0,.slice none 0 0,.int .i64 (er:Nat)])/\er≠0/\∃c',c<=c'/\c'<=8*bs.length/\St w' p s bs c'
 | .ok (x,n)=>(∃va vb,e=.returned (.tuple #[va,vb,.int .i64 0])/\NRow w.heap.size w' va x.1/\NRow w.heap.size w' vb x.2)/\c+n<=8*bs.length/\St w' p s bs (c+n)
theorem DQ(w:World)(p c:Nat)(s:Value)(bs:List Nat)(hs:St w p s bs c)(hc:c≤8*bs.length)(ag:bs.length≤100000000)(hT:Tab w)(Ic:p≠0):
  Calls Tryz.prog 194 #[.pointer (some ⟨p,0,none⟩)] w λe w'=>K7 w w' p s bs c e (bZ (ae bs) c)/\Kept (·=p) w w':=by
 obtain⟨W,hW⟩:∃W,W=w.alloc (.cells #[.int .i64 5,.int .i64 5,.int .i64 4] 3):=⟨_,rfl⟩
 have hk0:Same w W:=by rw[hW];exact(Kept.refl _ w).alloc _
 have lY:p<w.heap.size:=hs.lt;have hsrc:SrcE am W (λk=>k=w.heap.size) (.slice (some ⟨w.heap.size,0,none⟩) 3 3) [5,5,4]:=by rw[hW];exact EI w [5,5,4] 3 rfl
 have HTK:=rY W p c s bs _ _ [5,5,4] (hs.kept hk0 (λ_ _ f=>f)) hc ag hsrc (λk e=>by omega) (by decide) (by decide);have HK0:Hid (Same w W):=hk0;have HT0:Hid (Tab W):=hid (hT.kept hk0 (λf=>f));have HP:Hid (∀k,Fp p s k->k<w.heap.size):=hid (λk h=>hs.fp_lt h);obtain⟨ls,xZ⟩:∃ls,ls=ae bs:=⟨_,rfl⟩
 have yf:ls.length=8*bs.length:=by rw[xZ,aq]
 have JX:∀b∈ls,b<2:=by rw[xZ];exact az bs
 have fO:=bV ls JX c 5;have fX:=bV ls JX (c+5) 5;have MH:=bV ls JX (c+10) 4;obtain⟨x1,Ki⟩:∃x,x=aW ls c 5:=⟨_,rfl⟩
 obtain⟨x2,J8⟩:∃x,x=aW ls (c+5) 5:=⟨_,rfl⟩
 obtain⟨x3,Kb⟩:∃x,x=aW ls (c+10) 4:=⟨_,rfl⟩
 rw[<-Ki]at fO;rw[<-J8]at fX;rw[<-Kb]at MH;have HNUM:Hid (bT (ae bs) c [5,5,4]=[x1,x2,x3]):=hid (by rw[Ki,J8,Kb,xZ];rfl);obtain⟨li,rj⟩:∃x,x=x1+257:=⟨_,rfl⟩
 obtain⟨di,hdi⟩:∃x,x=x2+1:=⟨_,rfl⟩
 obtain⟨come,te⟩:∃x,x=x3+4:=⟨_,rfl⟩
 have HRF:Hid (bZ ls c=if 8*bs.length<c+14 then .error 10 else if 286<li∨30<di then .error 40 else if 8*bs.length<c+14+3*come then .error 10
   else if bm (aL ls (c+14) come)≠0 then .error (bm (aL ls (c+14) come))
   else match bz (aL ls (c+14) come) ls (li+di) (li+di) [] (c+14+3*come) with
    | .error e=>.error e
    | .ok (l,c2)=>.ok ((l.take li,l.drop li),c2-c)):=hid (by rw[rj,hdi,te,Ki,J8,Kb,<-yf];rfl)
 have Wd:(x1:Int)+257=(li:Int):=by omega
 have Xp:(x2:Int)+1=(di:Int):=by omega
 have Ux:(x3:Int)+4=(come:Int):=by omega
 have Vl:IntKind.i64.wrap (li:Int)=(li:Int):=by rw[IntKind.wrap_i64];omega
 have VQ:IntKind.i64.wrap (di:Int)=(di:Int):=by rw[IntKind.wrap_i64];omega
 have VY:IntKind.i64.wrap (come:Int)=(come:Int):=by rw[IntKind.wrap_i64];omega
 have O7:come<=19:=by omega
 have Vn:li<=300:=by omega
 have Wu:di<=40:=by omega
 have Vp:1<=di:=by omega
 have HLS:Hid (ls=ae bs):=xZ;rw[<-xZ];clear hs hT hk0 hsrc xZ yf JX fO fX MH Ki J8 Kb rj hdi te;go_enter Tryz.func194,Tryz.ntmps194;go_wp2_with fail;rw[<-hW];clear hW;refine HTK.mono ?_;rintro e w2 ⟨MX,hk2⟩;have HK2:Hid (Kept (·=p) w w2):=hid (Kept.trans (HK0.out.mono (λ_ _ f=>f.elim)) hk2 (λ_ _ h=>h) (λ_ _ h=>h));have HT2:Hid (Tab w2):=hid (HT0.out.kept hk2 (λe=>Ic e.symm));have Oe:=HK0.out.size;have kV:=HK2.out.size;clear hk2 HTK HT0;rcases MX with⟨cJ,⟨v2,rfl,hr2⟩,hs2⟩ | ⟨ei,rfl,c',eH,cm,hs2⟩
 ·rw[HNUM.out]at hr2;have Av:c+14<=8*bs.length:=(by simpa using cJ);have HS2:Hid (St w2 p s bs (c+14)):=hid (by simpa using hs2);obtain⟨a2,eG,oe,td,_⟩:=hr2.shape;obtain⟨g2,rfl⟩:=td (by simp);subst oe;have d1:w2.cell? ⟨g2,0,none⟩=some (.int .i64 (x1:Nat)):=hr2.cell 0 (by simp);have d2:w2.cell? ⟨g2,1,none⟩=some (.int .i64 (x2:Nat)):=hr2.cell 1 (by simp);have d3:w2.cell? ⟨g2,2,none⟩=some (.int .i64 (x3:Nat)):=hr2.cell 2 (by simp);have WJ:g2≠p:=(by have:=hr2.ge (k:=g2) rfl;omega);clear cJ hs2 hr2 td;by_cases kh:286<li\/30<di
  ·have HE:Hid (bZ ls c=.error 40):=hid (by rw[HRF.out,if_neg (by omega),if_pos kh]);by_cases ur:286<li
   ·have BX:decide ((286:Int)<(li:Int))=true:=(by simp;omega);clear kh ur;go_wp2_with fail;go_quiet (fail);go_wp2_with fail;refine bodyPost_ret (v:=.tuple #[.slice none 0 0,.slice none 0 0,.int .i64 40]) (by simp[results,Tryz.results194,go_sem]) rfl ?_;refine⟨?_,HK2.out.drewN _⟩;rw[HE.out];exact⟨rfl,by decide,c+14,by omega,Av,HS2.out.drewN _⟩
   ·have BX:decide ((286:Int)<(li:Int))=false:=(by simp;omega);have yk:decide ((30:Int)<(di:Int))=true:=(by simp;omega);clear kh ur;go_wp2_with fail;go_quiet (fail);go_wp2_with fail;refine bodyPost_ret (v:=.tuple #[.slice none 0 0,.slice none 0 0,.int .i64 40]) (by simp[results,Tryz.results194,go_sem]) rfl ?_;refine⟨?_,HK2.out.drewN _⟩;rw[HE.out];exact⟨rfl,by decide,c+14,by omega,Av,HS2.out.drewN _⟩
  ·have HRF2:Hid (bZ ls c=if 8*bs.length<c+14+3*come then .error 10
     else if bm (aL ls (c+14) come)≠0 then .error (bm (aL ls (c+14) come))
     else match bz (aL ls (c+14) come) ls (li+di) (li+di) [] (c+14+3*come) with
      | .error e=>.error e
      | .ok (l,c2)=>.ok ((l.take li,l.drop li),c2-c)):=hid (by rw[HRF.out,if_neg (by omega),if_neg kh])
   have BX:decide ((286:Int)<(li:Int))=false:=(by simp;omega);have yk:decide ((30:Int)<(di:Int))=false:=(by simp;omega);have HCO:=λq=>yE (w2.drewN q) p (c+14) s bs come (HS2.out.drewN q) Av ag O7 (HT2.out.kept ((Kept.refl (λ_=>False) w2).drewN q) (λf=>f)) Ic
   clear kh HRF;go_wp2_with fail;go_quiet (fail);go_wp2_with fail;refine(HCO _).mono ?_;rintro e w4 ⟨KU,hk4⟩;have Ot:Kept (·=p) w2 w4:=⟨hk4.os,hk4.tape,hk4.output,hk4.size,hk4.block⟩
   have HK4:Hid (Kept (·=p) w w4):=hid (Kept.trans HK2.out Ot (λ_ _ h=>h) (λ_ _ h=>h));have D8:=HK4.out.size;clear HCO hk4 Ot d1 d2 d3;rcases KU with⟨ei,rfl,c',eH,cm,on⟩ | ⟨cJ,on,⟨yo,rfl⟩ | ⟨yo,d,vc,vs,rfl,fI,yc⟩⟩
   ·have HE:Hid (bZ ls c=.error 10):=hid (by rw[HRF2.out,if_pos (by omega)]);have HS4:Hid (St w4 p s bs c'):=on;have om:c<=c':=(by omega);clear ei on;go_wp2_with fail;refine bodyPost_ret (v:=.tuple #[.slice none 0 0,.slice none 0 0,.int .i64 10]) (by simp[results,Tryz.results194,go_sem]) rfl ?_;refine⟨?_,HK4.out⟩;rw[HE.out];exact⟨rfl,by decide,c',om,cm,HS4.out⟩
   ·obtain⟨er,cw⟩:∃er,er=bm (aL (ae bs) (c+14) come):=⟨_,rfl⟩
    rw[<-cw]at yo ⊢;have HE:Hid (bZ ls c=.error er):=hid (by rw[HRF2.out,if_neg (by omega),HLS.out,<-cw,if_pos yo]);have HS4:Hid (St w4 p s bs (c+14+3*come)):=on;have l9:((er:Int) != 0)=true:=(by simp;omega);have HER:Hid (er≠0):=yo;clear on yo cw;go_wp2_with fail;refine bodyPost_ret (v:=.tuple #[.slice none 0 0,.slice none 0 0,.int .i64 (er:Nat)]) (by simp[results,Tryz.results194,go_sem]) rfl ?_;refine⟨?_,HK4.out⟩;rw[HE.out];exact⟨rfl,HER.out,c+14+3*come,by omega,cJ,HS4.out⟩
   ·obtain⟨N,hN⟩:∃N,N=li+di:=⟨_,rfl⟩
    have Wy:(li:Int)+(di:Int)=(N:Int):=(by omega);have Yb:IntKind.i64.wrap (N:Int)=(N:Int):=(by rw[IntKind.wrap_i64];omega);have Yk:N<=340:=(by omega);have HRF3:Hid (bZ ls c=match bz (aL (ae bs) (c+14) come) (ae bs) N N [] (c+14+3*come) with
      | .error e=>.error e
      | .ok (l,c2)=>.ok ((l.take li,l.drop li),c2-c)):=hid (by rw[HRF2.out,if_neg (by omega),HLS.out,if_neg (by rw[yo];simp),<-hN])
    have fq:=dk (ae bs) (c+14) come;have JQ:=nD (ae bs) (az bs) (c+14) come;have HBD:=yO w4 d vc vs _ _ p (c+14+3*come) s bs N (ql _ fq JQ yo) fI on cJ ag (λk h hf=>by have h1:=yc k h;have h2:=HP.out k hf;have h3:(w2.drewN nq).heap.size=w2.heap.size:=rfl;omega) (by omega);have HNLI:Hid (li<N):=hid (by omega);clear fq JQ yo fI yc on HRF2 hN;cases JS:bz (aL (ae bs) (c+14) come) (ae bs) N N [] (c+14+3*come) with
    | error er=>
     rw[JS]at HBD;have HE:Hid (bZ ls c=.error er):=hid (by rw[HRF3.out,JS]);clear JS HRF3;go_wp2_with fail;refine HBD.mono ?_;rintro e w5 ⟨⟨rfl,cw,c',eH,cm,KF⟩,hk5⟩;have HS5:Hid (St w5 p s bs c'):=KF;have HK5:Hid (Kept (·=p) w w5):=hid (Kept.trans HK4.out hk5 (λ_ _ h=>h) (λ_ _ h=>h));have l9:((er:Int) != 0)=true:=(by simp;omega);have HER:Hid (er≠0):=cw;have om:c<=c':=(by omega);clear KF hk5 cw HBD;go_wp2_with fail;refine bodyPost_ret (v:=.tuple #[.slice none 0 0,.slice none 0 0,.int .i64 (er:Nat)]) (by simp[results,Tryz.results194,go_sem]) rfl ?_;refine⟨?_,HK5.out⟩;rw[HE.out];exact⟨rfl,HER.out,c',om,cm,HS5.out⟩
    | ok r=>
     obtain⟨l,c2⟩:=r;rw[JS]at HBD;have HE:Hid (bZ ls c=.ok ((l.take li,l.drop li),c2-c)):=hid (by rw[HRF3.out,JS]);obtain⟨MC,Uq⟩:=Gm N [] l _ c2 JS (by simp) (by simp) (by simp);have HLN:Hid (l.length=N):=MC;clear JS HRF3;go_wp2_with fail;refine HBD.mono ?_;rintro e w5 ⟨⟨⟨v5,rfl,hr5⟩,Kj,KF⟩,hk5⟩;have HS5:Hid (St w5 p s bs c2):=KF;have HK5:Hid (Kept (·=p) w w5):=hid (Kept.trans HK4.out hk5 (λ_ _ h=>h) (λ_ _ h=>h));have JY:=HK5.out.size;have Q7:l≠[]:=λe=>by rw[e]at MC;simp at MC;omega
     obtain⟨a5,gV,fJ,d8,_⟩:=hr5.shape;obtain⟨g5,rfl⟩:=d8 Q7;subst fJ;have N7:l.length<=gV:=(by obtain⟨_,_,e,_,_,h,_⟩:=hr5.shape;simp only[Value.slice.injEq]at e;obtain⟨_,_,rfl⟩:=e;exact h);have hsr:SrcE am w5 _ (.slice (some ⟨g5,0,none⟩) l.length gV) l:=SrcE.ofRow hr5;have Vr:li<N:=HNLI.out;have Qv:¬gV=li:=(by omega);have hA:=hsr.part li (by omega);have hB:=hsr.tail2 li (by omega);rw[MC,Nat.zero_add,if_neg Qv]at hB;rw[MC]at N7 ⊢;obtain⟨M,hM⟩:∃M,M=N-li:=⟨_,rfl⟩
     have YL:(N:Int)-(li:Int)=(M:Int):=(by omega);have HCA:Hid (∀W,Same w5 W->Calls Tryz.prog 202 #[.slice (some ⟨g5,0,none⟩) li gV] W λe w'=>∃v',e=.returned v'/\Ld W w' v' (l.take li)):=hid (λW hk=>pK W _ _ _ (hA.same hk) (by simp;omega));have HCB:Hid (∀W,Same w5 W->Calls Tryz.prog 202 #[.slice (some ⟨g5,li,none⟩) (N-li) (gV-li)] W λe w'=>∃v',e=.returned v'/\Ld W w' v' (l.drop li)):=hid (λW hk=>pK W _ _ _ (hB.same hk) (by simp;omega));have i1:(0:Int)<=(li:Int):=(by omega);have i2:(li:Int)<=(N:Int):=(by omega);have i3:(li:Int)<=(gV:Int):=(by omega);clear KF hk5 HBD hr5 d8 hA hB hsr MC hM;go_wp2_with fail;go_region_held3 (λ_=>True) (first | trivial | go_keep)
      (first
       | (go_at_call 202;refine(HCB.out _ (Same.trans ((Kept.refl _ w5).drew) hnA.same)).mono ?_;rintro e w7 ⟨vB,rfl,hnB⟩)
       | (go_at_call 202;refine(HCA.out _ ((Kept.refl _ w5).drew)).mono ?_;rintro e w6 ⟨vA,rfl,hnA⟩))
     all_goals
      go_wp2_with fail;refine bodyPost_ret (v:=.tuple #[vA,vB,.int .i64 0]) (by simp[results,Tryz.results194,go_sem]) rfl ?_;have Tm:Same w5 w7:=Same.trans (Same.trans ((Kept.refl _ w5).drew) hnA.same) hnB.same;refine⟨?_,Kept.trans HK5.out Tm (λ_ _ h=>h) (λ_ _ f=>f.elim)⟩;rw[HE.out];have h6:=hnA.same.size;have h5:w5.drew.heap.size=w5.heap.size:=rfl;refine⟨⟨vA,vB,rfl,RowE.base (hnA.row.same hnB.same) (by omega),RowE.base hnB.row (by omega)⟩,by omega,?_⟩;have e:c+(c2-c)=c2:=(by omega);rw[e];exact HS5.out.kept Tm (λ_ _ f=>f)
 ·have HE:Hid (bZ ls c=.error 10):=hid (by rw[HRF.out,if_pos (by simpa using ei)]);have HS2:Hid (St w2 p s bs c'):=hs2;clear ei hs2;go_wp2_with fail;refine bodyPost_ret (v:=.tuple #[.slice none 0 0,.slice none 0 0,.int .i64 10]) (by simp[results,Tryz.results194,go_sem]) rfl ?_;refine⟨?_,HK2.out⟩;rw[HE.out];exact⟨rfl,by decide,c',eH,cm,HS2.out⟩
def Lk(w w':World)(p:Nat)(s:Value)(bs:List Nat)(c:Nat)(e:Ending):Except Nat ((List Nat×List Nat)×Nat)->Prop
 | .error er=>e=.returned (.tuple #[.slice none 0 0,.slice none 0 0,.int .i64 (er:Nat)])/\er≠0/\St w' p s bs c
 | .ok (x,n)=>(∃va vb,e=.returned (.tuple #[va,vb,.int .i64 0])/\NRow w.heap.size w' va x.1/\NRow w.heap.size w' vb x.2)/\c+n<=8*bs.length/\St w' p s bs (c+n)
theorem DS(w:World)(p c:Nat)(s:Value)(bs:List Nat)(hs:St w p s bs c)(hc:c≤8*bs.length)(ag:bs.length≤100000000)(hT:Tab w)(Ic:p≠0):
  Calls Tryz.prog 183 #[.pointer (some ⟨p,0,none⟩)] w λe w'=>Lk w w' p s bs c e (bZ (ae bs) c)/\Kept (·=p) w w':=by
 have HG:=cW p c s bs w hs;have HH:=DQ w p c s bs hs hc ag hT Ic;clear hs hT;go_enter Tryz.func183,Tryz.ntmps183;cases hrf:bZ (ae bs) c with
 | error er=>
  rw[hrf]at HH;clear hrf;go_wp2_with fail;refine HG.mono ?_;rintro e w1 ⟨rfl,hw1⟩;subst hw1;clear HG;go_wp2_with fail;refine HH.mono ?_;rintro e w2 ⟨⟨rfl,cw,c',eH,cm,hs2⟩,hk2⟩;have l9:((er:Int) != 0)=true:=(by simp;omega);have HER:Hid (er≠0):=cw;have HK2:Hid (Kept (·=p) w1 w2):=hk2;have HG2:=cW p c' s bs w2 hs2;obtain⟨m,hm⟩:∃m,m=c'-c:=⟨_,rfl⟩
  have R4:(c':Int)-(c:Int)=(m:Int):=(by omega);have X8:IntKind.i64.wrap (m:Int)=(m:Int):=(by rw[IntKind.wrap_i64];omega);have HBK:=n8 p c' m s bs w2 hs2 (by omega) (by omega);have KQ:c'-m=c:=(by omega);rw[KQ]at HBK;clear hs2 hk2 cw HH hm KQ;go_wp2_with fail;refine HG2.mono ?_;rintro e w3 ⟨rfl,hw3⟩;subst hw3;clear HG2;go_wp2_with fail;refine HBK.mono ?_;rintro e w4 ⟨rfl,on,hk4⟩;have HS4:Hid (St w4 p s bs c):=on;have HK4:Hid (Kept (·=p) w1 w4):=hid (Kept.trans HK2.out hk4 (λ_ _ h=>h) (λ_ _ h=>h));clear on hk4 HBK;go_wp2_with fail;refine bodyPost_ret (v:=.tuple #[.slice none 0 0,.slice none 0 0,.int .i64 (er:Nat)]) (by simp[results,Tryz.results183,go_sem]) rfl ?_;exact⟨⟨rfl,HER.out,HS4.out⟩,HK4.out⟩
 | ok r=>
  obtain⟨x,n⟩:=r;rw[hrf]at HH;clear hrf;go_wp2_with fail;refine HG.mono ?_;rintro e w1 ⟨rfl,hw1⟩;subst hw1;clear HG;go_wp2_with fail;refine HH.mono ?_;rintro e w2 ⟨⟨⟨va,vb,rfl,On,Ew⟩,cm,hs2⟩,hk2⟩;have HRA:Hid (NRow w1.heap.size w2 va x.1):=On;have HRB:Hid (NRow w1.heap.size w2 vb x.2):=Ew;have HS2:Hid (St w2 p s bs (c+n)):=hs2;have HK2:Hid (Kept (·=p) w1 w2):=hk2;clear On Ew hs2 hk2 HH;go_wp2_with fail;refine bodyPost_ret (v:=.tuple #[va,vb,.int .i64 0]) (by simp[results,Tryz.results183,go_sem]) rfl ?_;exact⟨⟨⟨va,vb,rfl,HRA.out,HRB.out⟩,cm,HS2.out⟩,HK2.out⟩
end Go.Proofs.YtllcnlnbpikhdaaGreatDoor
