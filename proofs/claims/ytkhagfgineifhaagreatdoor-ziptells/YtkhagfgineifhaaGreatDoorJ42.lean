import Derived.Deep.RegionHeld3
import Derived.Lib.SliceRun
import Derived.Test.YtkhagfgineifhaaGreatDoorJ34
set_option maxHeartbeats 4000000
set_option maxRecDepth 100000
namespace Go.Proofs.YtkhagfgineifhaaGreatDoor
open Go.RowKit
theorem G1{ns ls:List Nat}{N:Nat}:∀(f:Nat) (l m:List Nat) (c c':Nat),bC ns ls N f l c=.ok (m,c')->(∀x∈l,x<=15)->l.length<=N->N-l.length<=f->m.length=N/\c<=c':=by
 intro f
 induction f with
 | zero=>
  intro l m c c' h h15 hl hf;rw[kE (by omega)]at h;simp only[Except.ok.injEq,Prod.mk.injEq]at h;obtain⟨rfl,rfl⟩:=h;omega
 | succ f ih=>
  intro l m c c' h h15 hl hf;by_cases hlt:l.length<N
  ·cases hs:dg ns ls c with
   | error e=>rw[sR hlt hs]at h;cases h
   | ok r=>
    obtain⟨⟨sy,x⟩,c2⟩:=r;rw[l9 hlt hs]at h;cases hw:ez l ((sy:Int),(x:Int)) N with
    | none=>rw[hw]at h;cases h
    | some m2=>
     rw[hw]at h;have hg:=iA hw h15;have h2:=ih m2 m c2 c' h hg.2.2 hg.2.1 (by omega);have h3:=rH hs;exact⟨h2.1,by omega⟩
  ·rw[kE (by omega)]at h;simp only[Except.ok.injEq,Prod.mk.injEq]at h;obtain⟨rfl,rfl⟩:=h;omega
theorem DD(w:World)(t:TypeId)(B:Nat)(hB:B<=w.heap.size):RowE B t am (w.alloc (.cells #[] t)) (.slice (some ⟨w.heap.size,0,none⟩) 0 0) []:=
 ⟨rfl,.inr ⟨w.heap.size,0,#[],rfl,hB,Blk.new w #[] t,Nat.le_refl _,Nat.zero_le _,rfl,rfl⟩⟩
theorem rd(w:World)(v:Value)(I:Nat→Prop)(ns:List Nat)(hs:SrcE am w I v ns)(hn:ns.length≤1000000):
  Calls Tryz.prog 207 #[v] w λe w'=>∃v',e=.returned v'/\Ml w w' v' ns:=by
 obtain⟨ao,cap,rfl,cD,hc⟩:=id hs;have Tz:∀(w:World) (a:Option Addr) (n c n' c':Nat),(binOp .eql 143 (.slice a n c) (.slice none n' c')).run Tryz.prog w=.ok (.bool a.isNone) w:=λw a n c n' c'=>Lib.run_eql_slice_nil w _ _ a n c n' c' Tryz.underlying143
 cases ao with
 | none=>
  have e0:ns=[]:=Classical.byContradiction (λh=>by obtain⟨_,_,e,_⟩:=hc h;cases e);subst e0;clear hs hc;go_enter Tryz.func207,Tryz.ntmps207;go_wp2_with fail;go_ret;exact⟨_,rfl,RowE.nil,Kept.refl _ _⟩
 | some ad=>
  have HS:Hid (SrcE am w I (.slice (some ad) ns.length cap) ns):=hs;have HR0:Hid (NRow w.heap.size (w.alloc (.cells #[] 3)) (.slice (some ⟨w.heap.size,0,none⟩) 0 0) []):=hid (DD w _ _ (Nat.le_refl _));have HK0:Hid (Same w (w.alloc (.cells #[] 3))):=hid ((Kept.refl _ w).alloc _);obtain⟨L,hL⟩:∃L,L=ns.length:=⟨_,rfl⟩
  have HL:Hid (L=ns.length):=hL;rw[<-hL]at HS hn ⊢;clear hs hc hL cD;go_enter Tryz.func207,Tryz.ntmps207;go_wp2_with (at_builtin;refine md _ w.heap.size rfl (.tmp 5) (.tmp 6) rfl _ [] rfl HR0.out _ (some ad) L cap ns rfl (HS.out.same HK0.out) (λe=>by cases e) (by have:=HL.out;simp;omega) (by simp) ?_;intro v3 w3 hr3 jW;have HR3:Hid (NRow w.heap.size w3 v3 ns):=hid (by simpa using hr3);have HK3:Hid (Same w w3):=hid (HK0.out.grown jW (λj e=>.inr (HR0.out.ge e)));clear hr3 jW);go_ret;exact⟨_,rfl,HR3.out,HK3.out⟩
def Mu(w w':World)(p:Nat)(s:Value)(bs:List Nat)(c:Nat)(e:Ending):Except Nat ((List Nat×List Nat)×Nat)->Prop
 | .error er=>e=.returned (.tuple #[.slice none 0 0,.slice none 0 0,.int .i64 (er:Nat)])/\er≠0/\∃c',c<=c'/\c'<=8*bs.length/\St w' p s bs c'
 | .ok (x,n)=>(∃va vb,e=.returned (.tuple #[va,vb,.int .i64 0])/\NRow w.heap.size w' va x.1/\NRow w.heap.size w' vb x.2)/\c+n<=8*bs.length/\St w' p s bs (c+n)
theorem DZ(w:World)(p c:Nat)(s:Value)(bs:List Nat)(hs:St w p s bs c)(hc:c≤8*bs.length)(ag:bs.length≤100000000)(hT:Tab w)(Ij:p≠0):
  Calls Tryz.prog 199 #[.pointer (some ⟨p,0,none⟩)] w λe w'=>Mu w w' p s bs c e (b8 (ae bs) c)/\Kept (·=p) w w':=by
 obtain⟨W,hW⟩:∃W,W=w.alloc (.cells #[.int .i64 5,.int .i64 5,.int .i64 4] 3):=⟨_,rfl⟩
 have hk0:Same w W:=by rw[hW];exact(Kept.refl _ w).alloc _
 have ml:p<w.heap.size:=hs.lt;have hsrc:SrcE am W (λk=>k=w.heap.size) (.slice (some ⟨w.heap.size,0,none⟩) 3 3) [5,5,4]:=by rw[hW];exact G7 w [5,5,4] 3 rfl
 have HTK:=tE W p c s bs _ _ [5,5,4] (hs.kept hk0 (λ_ _ f=>f)) hc ag hsrc (λk e=>by omega) (by decide) (by decide);have HK0:Hid (Same w W):=hk0;have HT0:Hid (Tab W):=hid (hT.kept hk0 (λf=>f));have HP:Hid (∀k,Fp p s k->k<w.heap.size):=hid (λk h=>hs.fp_lt h);obtain⟨ls,yw⟩:∃ls,ls=ae bs:=⟨_,rfl⟩
 have yp:ls.length=8*bs.length:=by rw[yw,aB]
 have K1:∀b∈ls,b<2:=by rw[yw];exact ay bs
 have ic:=bY ls K1 c 5;have gh:=bY ls K1 (c+5) 5;have N6:=bY ls K1 (c+10) 4;obtain⟨x1,KV⟩:∃x,x=aX ls c 5:=⟨_,rfl⟩
 obtain⟨x2,KS⟩:∃x,x=aX ls (c+5) 5:=⟨_,rfl⟩
 obtain⟨x3,KK⟩:∃x,x=aX ls (c+10) 4:=⟨_,rfl⟩
 rw[<-KV]at ic;rw[<-KS]at gh;rw[<-KK]at N6;have HNUM:Hid (bV (ae bs) c [5,5,4]=[x1,x2,x3]):=hid (by rw[KV,KS,KK,yw];rfl);obtain⟨li,nM⟩:∃x,x=x1+257:=⟨_,rfl⟩
 obtain⟨di,hdi⟩:∃x,x=x2+1:=⟨_,rfl⟩
 obtain⟨come,tR⟩:∃x,x=x3+4:=⟨_,rfl⟩
 have HRF:Hid (b8 ls c=if 8*bs.length<c+14 then .error 10 else if 286<li∨30<di then .error 40 else if 8*bs.length<c+14+3*come then .error 10
   else if bw (aM ls (c+14) come)≠0 then .error (bw (aM ls (c+14) come))
   else match bC (aM ls (c+14) come) ls (li+di) (li+di) [] (c+14+3*come) with
    | .error e=>.error e
    | .ok (l,c2)=>.ok ((l.take li,l.drop li),c2-c)):=hid (by rw[nM,hdi,tR,KV,KS,KK,<-yp];rfl)
 have Wu:(x1:Int)+257=(li:Int):=by omega
 have Ys:(x2:Int)+1=(di:Int):=by omega
 have Yy:(x3:Int)+4=(come:Int):=by omega
 have VI:IntKind.i64.wrap (li:Int)=(li:Int):=by rw[IntKind.wrap_i64];omega
 have VX:IntKind.i64.wrap (di:Int)=(di:Int):=by rw[IntKind.wrap_i64];omega
 have V5:IntKind.i64.wrap (come:Int)=(come:Int):=by rw[IntKind.wrap_i64];omega
 have O8:come<=19:=by omega
 have VE:li<=300:=by omega
 have Vk:di<=40:=by omega
 have Vw:1<=di:=by omega
 have HLS:Hid (ls=ae bs):=yw;rw[<-yw];clear hs hT hk0 hsrc yw yp K1 ic gh N6 KV KS KK nM hdi tR;go_enter Tryz.func199,Tryz.ntmps199;go_wp2_with fail;rw[<-hW];clear hW;refine HTK.mono ?_;rintro e w2 ⟨NE,hk2⟩;have HK2:Hid (Kept (·=p) w w2):=hid (Kept.trans (HK0.out.mono (λ_ _ f=>f.elim)) hk2 (λ_ _ h=>h) (λ_ _ h=>h));have HT2:Hid (Tab w2):=hid (HT0.out.kept hk2 (λe=>Ij e.symm));have Qb:=HK0.out.size;have lr:=HK2.out.size;clear hk2 HTK HT0;rcases NE with⟨cL,⟨v2,rfl,hr2⟩,hs2⟩ | ⟨fz,rfl,c',fF,cS,hs2⟩
 ·rw[HNUM.out]at hr2;have A8:c+14<=8*bs.length:=(by simpa using cL);have HS2:Hid (St w2 p s bs (c+14)):=hid (by simpa using hs2);obtain⟨a2,eS,rL,nN,_⟩:=hr2.shape;obtain⟨g2,rfl⟩:=nN (by simp);subst rL;have d1:w2.cell? ⟨g2,0,none⟩=some (.int .i64 (x1:Nat)):=hr2.cell 0 (by simp);have d2:w2.cell? ⟨g2,1,none⟩=some (.int .i64 (x2:Nat)):=hr2.cell 1 (by simp);have d3:w2.cell? ⟨g2,2,none⟩=some (.int .i64 (x3:Nat)):=hr2.cell 2 (by simp);have Wp:g2≠p:=(by have:=hr2.ge (k:=g2) rfl;omega);clear cL hs2 hr2 nN;by_cases fW:286<li\/30<di
  ·have HE:Hid (b8 ls c=.error 40):=hid (by rw[HRF.out,if_neg (by omega),if_pos fW]);by_cases vf:286<li
   ·have Ck:decide ((286:Int)<(li:Int))=true:=(by simp;omega);clear fW vf;go_wp2_with fail;go_quiet (fail);go_wp2_with fail;refine bodyPost_ret (v:=.tuple #[.slice none 0 0,.slice none 0 0,.int .i64 40]) (by simp[results,Tryz.results199,go_sem]) rfl ?_;refine⟨?_,HK2.out.drewN _⟩;rw[HE.out];exact⟨rfl,by decide,c+14,by omega,A8,HS2.out.drewN _⟩
   ·have Ck:decide ((286:Int)<(li:Int))=false:=(by simp;omega);have EZ:decide ((30:Int)<(di:Int))=true:=(by simp;omega);clear fW vf;go_wp2_with fail;go_quiet (fail);go_wp2_with fail;refine bodyPost_ret (v:=.tuple #[.slice none 0 0,.slice none 0 0,.int .i64 40]) (by simp[results,Tryz.results199,go_sem]) rfl ?_;refine⟨?_,HK2.out.drewN _⟩;rw[HE.out];exact⟨rfl,by decide,c+14,by omega,A8,HS2.out.drewN _⟩
  ·have HRF2:Hid (b8 ls c=if 8*bs.length<c+14+3*come then .error 10
     else if bw (aM ls (c+14) come)≠0 then .error (bw (aM ls (c+14) come))
     else match bC (aM ls (c+14) come) ls (li+di) (li+di) [] (c+14+3*come) with
      | .error e=>.error e
      | .ok (l,c2)=>.ok ((l.take li,l.drop li),c2-c)):=hid (by rw[HRF.out,if_neg (by omega),if_neg fW])
   have Ck:decide ((286:Int)<(li:Int))=false:=(by simp;omega);have EZ:decide ((30:Int)<(di:Int))=false:=(by simp;omega);have HCO:=λq=>Ak (w2.drewN q) p (c+14) s bs come (HS2.out.drewN q) A8 ag O8 (HT2.out.kept ((Kept.refl (λ_=>False) w2).drewN q) (λf=>f)) Ij
   clear fW HRF;go_wp2_with fail;go_quiet (fail);go_wp2_with fail;refine(HCO _).mono ?_;rintro e w4 ⟨PY,hk4⟩;have Ow:Kept (·=p) w2 w4:=⟨hk4.os,hk4.tape,hk4.output,hk4.size,hk4.block⟩
   have HK4:Hid (Kept (·=p) w w4):=hid (Kept.trans HK2.out Ow (λ_ _ h=>h) (λ_ _ h=>h));have ES:=HK4.out.size;clear HCO hk4 Ow d1 d2 d3;rcases PY with⟨fz,rfl,c',fF,cS,oF⟩ | ⟨cL,oF,⟨yS,rfl⟩ | ⟨yS,d,vc,vs,rfl,fR,yA⟩⟩
   ·have HE:Hid (b8 ls c=.error 10):=hid (by rw[HRF2.out,if_pos (by omega)]);have HS4:Hid (St w4 p s bs c'):=oF;have mv:c<=c':=(by omega);clear fz oF;go_wp2_with fail;refine bodyPost_ret (v:=.tuple #[.slice none 0 0,.slice none 0 0,.int .i64 10]) (by simp[results,Tryz.results199,go_sem]) rfl ?_;refine⟨?_,HK4.out⟩;rw[HE.out];exact⟨rfl,by decide,c',mv,cS,HS4.out⟩
   ·obtain⟨er,cE⟩:∃er,er=bw (aM (ae bs) (c+14) come):=⟨_,rfl⟩
    rw[<-cE]at yS ⊢;have HE:Hid (b8 ls c=.error er):=hid (by rw[HRF2.out,if_neg (by omega),HLS.out,<-cE,if_pos yS]);have HS4:Hid (St w4 p s bs (c+14+3*come)):=oF;have lL:((er:Int) != 0)=true:=(by simp;omega);have HER:Hid (er≠0):=yS;clear oF yS cE;go_wp2_with fail;refine bodyPost_ret (v:=.tuple #[.slice none 0 0,.slice none 0 0,.int .i64 (er:Nat)]) (by simp[results,Tryz.results199,go_sem]) rfl ?_;refine⟨?_,HK4.out⟩;rw[HE.out];exact⟨rfl,HER.out,c+14+3*come,by omega,cL,HS4.out⟩
   ·obtain⟨N,hN⟩:∃N,N=li+di:=⟨_,rfl⟩
    have Xt:(li:Int)+(di:Int)=(N:Int):=(by omega);have YV:IntKind.i64.wrap (N:Int)=(N:Int):=(by rw[IntKind.wrap_i64];omega);have YQ:N<=340:=(by omega);have HRF3:Hid (b8 ls c=match bC (aM (ae bs) (c+14) come) (ae bs) N N [] (c+14+3*come) with
      | .error e=>.error e
      | .ok (l,c2)=>.ok ((l.take li,l.drop li),c2-c)):=hid (by rw[HRF2.out,if_neg (by omega),HLS.out,if_neg (by rw[yS];simp),<-hN])
    have ey:=dt (ae bs) (c+14) come;have K5:=nR (ae bs) (ay bs) (c+14) come;have HBD:=Au w4 d vc vs _ _ p (c+14+3*come) s bs N (qK _ ey K5 yS) fR oF cL ag (λk h hf=>by have h1:=yA k h;have h2:=HP.out k hf;have h3:(w2.drewN nq).heap.size=w2.heap.size:=rfl;omega) (by omega);have HNLI:Hid (li<N):=hid (by omega);clear ey K5 yS fR yA oF HRF2 hN;cases KB:bC (aM (ae bs) (c+14) come) (ae bs) N N [] (c+14+3*come) with
    | error er=>
     rw[KB]at HBD;have HE:Hid (b8 ls c=.error er):=hid (by rw[HRF3.out,KB]);clear KB HRF3;go_wp2_with fail;refine HBD.mono ?_;rintro e w5 ⟨⟨rfl,cE,c',fF,cS,Ls⟩,hk5⟩;have HS5:Hid (St w5 p s bs c'):=Ls;have HK5:Hid (Kept (·=p) w w5):=hid (Kept.trans HK4.out hk5 (λ_ _ h=>h) (λ_ _ h=>h));have lL:((er:Int) != 0)=true:=(by simp;omega);have HER:Hid (er≠0):=cE;have mv:c<=c':=(by omega);clear Ls hk5 cE HBD;go_wp2_with fail;refine bodyPost_ret (v:=.tuple #[.slice none 0 0,.slice none 0 0,.int .i64 (er:Nat)]) (by simp[results,Tryz.results199,go_sem]) rfl ?_;refine⟨?_,HK5.out⟩;rw[HE.out];exact⟨rfl,HER.out,c',mv,cS,HS5.out⟩
    | ok r=>
     obtain⟨l,c2⟩:=r;rw[KB]at HBD;have HE:Hid (b8 ls c=.ok ((l.take li,l.drop li),c2-c)):=hid (by rw[HRF3.out,KB]);obtain⟨NJ,Wg⟩:=G1 N [] l _ c2 KB (by simp) (by simp) (by simp);have HLN:Hid (l.length=N):=NJ;clear KB HRF3;go_wp2_with fail;refine HBD.mono ?_;rintro e w5 ⟨⟨⟨v5,rfl,hr5⟩,UR,Ls⟩,hk5⟩;have HS5:Hid (St w5 p s bs c2):=Ls;have HK5:Hid (Kept (·=p) w w5):=hid (Kept.trans HK4.out hk5 (λ_ _ h=>h) (λ_ _ h=>h));have KG:=HK5.out.size;have SD:l≠[]:=λe=>by rw[e]at NJ;simp at NJ;omega
     obtain⟨a5,ia,gt,ef,_⟩:=hr5.shape;obtain⟨g5,rfl⟩:=ef SD;subst gt;have Pk:l.length<=ia:=(by obtain⟨_,_,e,_,_,h,_⟩:=hr5.shape;simp only[Value.slice.injEq]at e;obtain⟨_,_,rfl⟩:=e;exact h);have hsr:SrcE am w5 _ (.slice (some ⟨g5,0,none⟩) l.length ia) l:=SrcE.ofRow hr5;have V7:li<N:=HNLI.out;have Sr:¬ia=li:=(by omega);have hA:=hsr.part li (by omega);have hB:=hsr.tail2 li (by omega);rw[NJ,Nat.zero_add,if_neg Sr]at hB;rw[NJ]at Pk ⊢;obtain⟨M,hM⟩:∃M,M=N-li:=⟨_,rfl⟩
     have Zu:(N:Int)-(li:Int)=(M:Int):=(by omega);have HCA:Hid (∀W,Same w5 W->Calls Tryz.prog 207 #[.slice (some ⟨g5,0,none⟩) li ia] W λe w'=>∃v',e=.returned v'/\Ml W w' v' (l.take li)):=hid (λW hk=>rd W _ _ _ (hA.same hk) (by simp;omega));have HCB:Hid (∀W,Same w5 W->Calls Tryz.prog 207 #[.slice (some ⟨g5,li,none⟩) (N-li) (ia-li)] W λe w'=>∃v',e=.returned v'/\Ml W w' v' (l.drop li)):=hid (λW hk=>rd W _ _ _ (hB.same hk) (by simp;omega));have i1:(0:Int)<=(li:Int):=(by omega);have i2:(li:Int)<=(N:Int):=(by omega);have i3:(li:Int)<=(ia:Int):=(by omega);clear Ls hk5 HBD hr5 ef hA hB hsr NJ hM;go_wp2_with fail;go_region_held3 (λ_=>True) (first | trivial | go_keep)
      (first
       | (go_at_call 207;refine(HCB.out _ (Same.trans ((Kept.refl _ w5).drew) hnA.same)).mono ?_;rintro e w7 ⟨vB,rfl,hnB⟩)
       | (go_at_call 207;refine(HCA.out _ ((Kept.refl _ w5).drew)).mono ?_;rintro e w6 ⟨vA,rfl,hnA⟩))
     all_goals
      go_wp2_with fail;refine bodyPost_ret (v:=.tuple #[vA,vB,.int .i64 0]) (by simp[results,Tryz.results199,go_sem]) rfl ?_;have Uc:Same w5 w7:=Same.trans (Same.trans ((Kept.refl _ w5).drew) hnA.same) hnB.same;refine⟨?_,Kept.trans HK5.out Uc (λ_ _ h=>h) (λ_ _ f=>f.elim)⟩;rw[HE.out];have h6:=hnA.same.size;have h5:w5.drew.heap.size=w5.heap.size:=rfl;refine⟨⟨vA,vB,rfl,RowE.base (hnA.row.same hnB.same) (by omega),RowE.base hnB.row (by omega)⟩,by omega,?_⟩;have e:c+(c2-c)=c2:=(by omega);rw[e];exact HS5.out.kept Uc (λ_ _ f=>f)
 ·have HE:Hid (b8 ls c=.error 10):=hid (by rw[HRF.out,if_pos (by simpa using fz)]);have HS2:Hid (St w2 p s bs c'):=hs2;clear fz hs2;go_wp2_with fail;refine bodyPost_ret (v:=.tuple #[.slice none 0 0,.slice none 0 0,.int .i64 10]) (by simp[results,Tryz.results199,go_sem]) rfl ?_;refine⟨?_,HK2.out⟩;rw[HE.out];exact⟨rfl,by decide,c',fF,cS,HS2.out⟩
def LX(w w':World)(p:Nat)(s:Value)(bs:List Nat)(c:Nat)(e:Ending):Except Nat ((List Nat×List Nat)×Nat)->Prop
 | .error er=>e=.returned (.tuple #[.slice none 0 0,.slice none 0 0,.int .i64 (er:Nat)])/\er≠0/\St w' p s bs c
 | .ok (x,n)=>(∃va vb,e=.returned (.tuple #[va,vb,.int .i64 0])/\NRow w.heap.size w' va x.1/\NRow w.heap.size w' vb x.2)/\c+n<=8*bs.length/\St w' p s bs (c+n)
theorem DW(w:World)(p c:Nat)(s:Value)(bs:List Nat)(hs:St w p s bs c)(hc:c≤8*bs.length)(ag:bs.length≤100000000)(hT:Tab w)(Ij:p≠0):
  Calls Tryz.prog 190 #[.pointer (some ⟨p,0,none⟩)] w λe w'=>LX w w' p s bs c e (b8 (ae bs) c)/\Kept (·=p) w w':=by
 have HG:=cU p c s bs w hs;have HH:=DZ w p c s bs hs hc ag hT Ij;clear hs hT;go_enter Tryz.func190,Tryz.ntmps190;cases hrf:b8 (ae bs) c with
 | error er=>
  rw[hrf]at HH;clear hrf;go_wp2_with fail;refine HG.mono ?_;rintro e w1 ⟨rfl,hw1⟩;subst hw1;clear HG;go_wp2_with fail;refine HH.mono ?_;rintro e w2 ⟨⟨rfl,cE,c',fF,cS,hs2⟩,hk2⟩;have lL:((er:Int) != 0)=true:=(by simp;omega);have HER:Hid (er≠0):=cE;have HK2:Hid (Kept (·=p) w1 w2):=hk2;have HG2:=cU p c' s bs w2 hs2;obtain⟨m,hm⟩:∃m,m=c'-c:=⟨_,rfl⟩
  have Tj:(c':Int)-(c:Int)=(m:Int):=(by omega);have YL:IntKind.i64.wrap (m:Int)=(m:Int):=(by rw[IntKind.wrap_i64];omega);have HBK:=om p c' m s bs w2 hs2 (by omega) (by omega);have LM:c'-m=c:=(by omega);rw[LM]at HBK;clear hs2 hk2 cE HH hm LM;go_wp2_with fail;refine HG2.mono ?_;rintro e w3 ⟨rfl,hw3⟩;subst hw3;clear HG2;go_wp2_with fail;refine HBK.mono ?_;rintro e w4 ⟨rfl,oF,hk4⟩;have HS4:Hid (St w4 p s bs c):=oF;have HK4:Hid (Kept (·=p) w1 w4):=hid (Kept.trans HK2.out hk4 (λ_ _ h=>h) (λ_ _ h=>h));clear oF hk4 HBK;go_wp2_with fail;refine bodyPost_ret (v:=.tuple #[.slice none 0 0,.slice none 0 0,.int .i64 (er:Nat)]) (by simp[results,Tryz.results190,go_sem]) rfl ?_;exact⟨⟨rfl,HER.out,HS4.out⟩,HK4.out⟩
 | ok r=>
  obtain⟨x,n⟩:=r;rw[hrf]at HH;clear hrf;go_wp2_with fail;refine HG.mono ?_;rintro e w1 ⟨rfl,hw1⟩;subst hw1;clear HG;go_wp2_with fail;refine HH.mono ?_;rintro e w2 ⟨⟨⟨va,vb,rfl,O5,Fd⟩,cS,hs2⟩,hk2⟩;have HRA:Hid (NRow w1.heap.size w2 va x.1):=O5;have HRB:Hid (NRow w1.heap.size w2 vb x.2):=Fd;have HS2:Hid (St w2 p s bs (c+n)):=hs2;have HK2:Hid (Kept (·=p) w1 w2):=hk2;clear O5 Fd hs2 hk2 HH;go_wp2_with fail;refine bodyPost_ret (v:=.tuple #[va,vb,.int .i64 0]) (by simp[results,Tryz.results190,go_sem]) rfl ?_;exact⟨⟨⟨va,vb,rfl,HRA.out,HRB.out⟩,cS,HS2.out⟩,HK2.out⟩
end Go.Proofs.YtkhagfgineifhaaGreatDoor
