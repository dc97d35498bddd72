import Derived.Deep.RegionHeld3
import Derived.Lib.SliceRun
import Derived.Test.YtljlmfnbeofmmaaGreatDoorJ34
set_option maxHeartbeats 4000000
set_option maxRecDepth 100000
namespace Go.Proofs.YtljlmfnbeofmmaaGreatDoor
open Go.RowKit
theorem GF{ns ls:List Nat}{N:Nat}:∀(f:Nat) (l m:List Nat) (c c':Nat),bD ns ls N f l c=.ok (m,c')->(∀x∈l,x<=15)->l.length<=N->N-l.length<=f->m.length=N/\c<=c':=by
 intro f
 induction f with
 | zero=>
  intro l m c c' h h15 hl hf;rw[kX (by omega)]at h;simp only[Except.ok.injEq,Prod.mk.injEq]at h;obtain⟨rfl,rfl⟩:=h;omega
 | succ f ih=>
  intro l m c c' h h15 hl hf;by_cases hlt:l.length<N
  ·cases hs:dA ns ls c with
   | error e=>rw[tc hlt hs]at h;cases h
   | ok r=>
    obtain⟨⟨sy,x⟩,c2⟩:=r;rw[mz hlt hs]at h;cases hw:eI l ((sy:Int),(x:Int)) N with
    | none=>rw[hw]at h;cases h
    | some m2=>
     rw[hw]at h;have hg:=iF hw h15;have h2:=ih m2 m c2 c' h hg.2.2 hg.2.1 (by omega);have h3:=qK hs;exact⟨h2.1,by omega⟩
  ·rw[kX (by omega)]at h;simp only[Except.ok.injEq,Prod.mk.injEq]at h;obtain⟨rfl,rfl⟩:=h;omega
theorem Do(w:World)(t:TypeId)(B:Nat)(hB:B<=w.heap.size):RowE B t am (w.alloc (.cells #[] t)) (.slice (some ⟨w.heap.size,0,none⟩) 0 0) []:=
 ⟨rfl,.inr ⟨w.heap.size,0,#[],rfl,hB,Blk.new w #[] t,Nat.le_refl _,Nat.zero_le _,rfl,rfl⟩⟩
theorem qw(w:World)(v:Value)(I:Nat→Prop)(ns:List Nat)(hs:SrcE am w I v ns)(hn:ns.length≤1000000):
  Calls Tryz.prog 261 #[v] w λe w'=>∃v',e=.returned v'/\L7 w w' v' ns:=by
 obtain⟨ao,cap,rfl,cE,hc⟩:=id hs;have UI:∀(w:World) (a:Option Addr) (n c n' c':Nat),(binOp .eql 117 (.slice a n c) (.slice none n' c')).run Tryz.prog w=.ok (.bool a.isNone) w:=λw a n c n' c'=>Lib.run_eql_slice_nil w _ _ a n c n' c' Tryz.underlying117
 cases ao with
 | none=>
  have e0:ns=[]:=Classical.byContradiction (λh=>by obtain⟨_,_,e,_⟩:=hc h;cases e);subst e0;clear hs hc;go_enter Tryz.func261,Tryz.ntmps261;go_wp2_with fail;go_ret;exact⟨_,rfl,RowE.nil,Kept.refl _ _⟩
 | some ad=>
  have HS:Hid (SrcE am w I (.slice (some ad) ns.length cap) ns):=hs;have HR0:Hid (NRow w.heap.size (w.alloc (.cells #[] 3)) (.slice (some ⟨w.heap.size,0,none⟩) 0 0) []):=hid (Do w _ _ (Nat.le_refl _));have HK0:Hid (Same w (w.alloc (.cells #[] 3))):=hid ((Kept.refl _ w).alloc _);obtain⟨L,hL⟩:∃L,L=ns.length:=⟨_,rfl⟩
  have HL:Hid (L=ns.length):=hL;rw[<-hL]at HS hn ⊢;clear hs hc hL cE;go_enter Tryz.func261,Tryz.ntmps261;go_wp2_with (at_builtin;refine mE _ w.heap.size rfl (.tmp 5) (.tmp 6) rfl _ [] rfl HR0.out _ (some ad) L cap ns rfl (HS.out.same HK0.out) (λe=>by cases e) (by have:=HL.out;simp;omega) (by simp) ?_;intro v3 w3 hr3 ke;have HR3:Hid (NRow w.heap.size w3 v3 ns):=hid (by simpa using hr3);have HK3:Hid (Same w w3):=hid (HK0.out.grown ke (λj e=>.inr (HR0.out.ge e)));clear hr3 ke);go_ret;exact⟨_,rfl,HR3.out,HK3.out⟩
def Mf(w w':World)(p:Nat)(s:Value)(bs:List Nat)(c:Nat)(e:Ending):Except Nat ((List Nat×List Nat)×Nat)->Prop
 | .error er=>e=.returned (.tuple #[.slice none 0 0,.slice none 0 0,.int .i64 (er:Nat)])/\er≠0/\∃c',c<=c'/\c'<=8*bs.length/\St w' p s bs c'
 | .ok (x,n)=>(∃va vb,e=.returned (.tuple #[va,vb,.int .i64 0])/\NRow w.heap.size w' va x.1/\NRow w.heap.size w' vb x.2)/\c+n<=8*bs.length/\St w' p s bs (c+n)
theorem DI(w:World)(p c:Nat)(s:Value)(bs:List Nat)(hs:St w p s bs c)(hc:c≤8*bs.length)(ag:bs.length≤100000000)(hT:Tab w)(Hz:p≠0):
  Calls Tryz.prog 254 #[.pointer (some ⟨p,0,none⟩)] w λe w'=>Mf w w' p s bs c e (cf (ae bs) c)/\Kept (·=p) w w':=by
 obtain⟨W,hW⟩:∃W,W=w.alloc (.cells #[.int .i64 5,.int .i64 5,.int .i64 4] 3):=⟨_,rfl⟩
 have hk0:Same w W:=by rw[hW];exact(Kept.refl _ w).alloc _
 have mI:p<w.heap.size:=hs.lt;have hsrc:SrcE am W (λk=>k=w.heap.size) (.slice (some ⟨w.heap.size,0,none⟩) 3 3) [5,5,4]:=by rw[hW];exact Fu w [5,5,4] 3 rfl
 have HTK:=tv W p c s bs _ _ [5,5,4] (hs.kept hk0 (λ_ _ f=>f)) hc ag hsrc (λk e=>by omega) (by decide) (by decide);have HK0:Hid (Same w W):=hk0;have HT0:Hid (Tab W):=hid (hT.kept hk0 (λf=>f));have HP:Hid (∀k,Fp p s k->k<w.heap.size):=hid (λk h=>hs.fp_lt h);obtain⟨ls,yn⟩:∃ls,ls=ae bs:=⟨_,rfl⟩
 have yt:ls.length=8*bs.length:=by rw[yn,aC]
 have K0:∀b∈ls,b<2:=by rw[yn];exact ay bs
 have ip:=bY ls K0 c 5;have f8:=bY ls K0 (c+5) 5;have MT:=bY ls K0 (c+10) 4;obtain⟨x1,KT⟩:∃x,x=aW ls c 5:=⟨_,rfl⟩
 obtain⟨x2,KU⟩:∃x,x=aW ls (c+5) 5:=⟨_,rfl⟩
 obtain⟨x3,KQ⟩:∃x,x=aW ls (c+10) 4:=⟨_,rfl⟩
 rw[<-KT]at ip;rw[<-KU]at f8;rw[<-KQ]at MT;have HNUM:Hid (bW (ae bs) c [5,5,4]=[x1,x2,x3]):=hid (by rw[KT,KU,KQ,yn];rfl);obtain⟨li,mM⟩:∃x,x=x1+257:=⟨_,rfl⟩
 obtain⟨di,hdi⟩:∃x,x=x2+1:=⟨_,rfl⟩
 obtain⟨come,tF⟩:∃x,x=x3+4:=⟨_,rfl⟩
 have HRF:Hid (cf ls c=if 8*bs.length<c+14 then .error 10 else if 286<li∨30<di then .error 40 else if 8*bs.length<c+14+3*come then .error 10
   else if bA (aO ls (c+14) come)≠0 then .error (bA (aO ls (c+14) come))
   else match bD (aO ls (c+14) come) ls (li+di) (li+di) [] (c+14+3*come) with
    | .error e=>.error e
    | .ok (l,c2)=>.ok ((l.take li,l.drop li),c2-c)):=hid (by rw[mM,hdi,tF,KT,KU,KQ,<-yt];rfl)
 have XP:(x1:Int)+257=(li:Int):=by omega
 have XG:(x2:Int)+1=(di:Int):=by omega
 have Wi:(x3:Int)+4=(come:Int):=by omega
 have XV:IntKind.i64.wrap (li:Int)=(li:Int):=by rw[IntKind.wrap_i64];omega
 have X7:IntKind.i64.wrap (di:Int)=(di:Int):=by rw[IntKind.wrap_i64];omega
 have VC:IntKind.i64.wrap (come:Int)=(come:Int):=by rw[IntKind.wrap_i64];omega
 have O2:come<=19:=by omega
 have Wk:li<=300:=by omega
 have XA:di<=40:=by omega
 have Xd:1<=di:=by omega
 have HLS:Hid (ls=ae bs):=yn;rw[<-yn];clear hs hT hk0 hsrc yn yt K0 ip f8 MT KT KU KQ mM hdi tF;go_enter Tryz.func254,Tryz.ntmps254;go_wp2_with fail;rw[<-hW];clear hW;refine HTK.mono ?_;rintro e w2 ⟨N0,hk2⟩;have HK2:Hid (Kept (·=p) w w2):=hid (Kept.trans (HK0.out.mono (λ_ _ f=>f.elim)) hk2 (λ_ _ h=>h) (λ_ _ h=>h));have HT2:Hid (Tab w2):=hid (HT0.out.kept hk2 (λe=>Hz e.symm));have PD:=HK0.out.size;have lO:=HK2.out.size;clear hk2 HTK HT0;rcases N0 with⟨cQ,⟨v2,rfl,hr2⟩,hs2⟩ | ⟨fB,rfl,c',eS,cS,hs2⟩
 ·rw[HNUM.out]at hr2;have Bc:c+14<=8*bs.length:=(by simpa using cQ);have HS2:Hid (St w2 p s bs (c+14)):=hid (by simpa using hs2);obtain⟨a2,eV,rL,rK,_⟩:=hr2.shape;obtain⟨g2,rfl⟩:=rK (by simp);subst rL;have d1:w2.cell? ⟨g2,0,none⟩=some (.int .i64 (x1:Nat)):=hr2.cell 0 (by simp);have d2:w2.cell? ⟨g2,1,none⟩=some (.int .i64 (x2:Nat)):=hr2.cell 1 (by simp);have d3:w2.cell? ⟨g2,2,none⟩=some (.int .i64 (x3:Nat)):=hr2.cell 2 (by simp);have Xk:g2≠p:=(by have:=hr2.ge (k:=g2) rfl;omega);clear cQ hs2 hr2 rK;by_cases fX:286<li\/30<di
  ·have HE:Hid (cf ls c=.error 40):=hid (by rw[HRF.out,if_neg (by omega),if_pos fX]);by_cases mK:286<li
   ·have Ct:decide ((286:Int)<(li:Int))=true:=(by simp;omega);clear fX mK;go_wp2_with fail;go_quiet (fail);go_wp2_with fail;refine bodyPost_ret (v:=.tuple #[.slice none 0 0,.slice none 0 0,.int .i64 40]) (by simp[results,Tryz.results254,go_sem]) rfl ?_;refine⟨?_,HK2.out.drewN _⟩;rw[HE.out];exact⟨rfl,by decide,c+14,by omega,Bc,HS2.out.drewN _⟩
   ·have Ct:decide ((286:Int)<(li:Int))=false:=(by simp;omega);have ET:decide ((30:Int)<(di:Int))=true:=(by simp;omega);clear fX mK;go_wp2_with fail;go_quiet (fail);go_wp2_with fail;refine bodyPost_ret (v:=.tuple #[.slice none 0 0,.slice none 0 0,.int .i64 40]) (by simp[results,Tryz.results254,go_sem]) rfl ?_;refine⟨?_,HK2.out.drewN _⟩;rw[HE.out];exact⟨rfl,by decide,c+14,by omega,Bc,HS2.out.drewN _⟩
  ·have HRF2:Hid (cf ls c=if 8*bs.length<c+14+3*come then .error 10
     else if bA (aO ls (c+14) come)≠0 then .error (bA (aO ls (c+14) come))
     else match bD (aO ls (c+14) come) ls (li+di) (li+di) [] (c+14+3*come) with
      | .error e=>.error e
      | .ok (l,c2)=>.ok ((l.take li,l.drop li),c2-c)):=hid (by rw[HRF.out,if_neg (by omega),if_neg fX])
   have Ct:decide ((286:Int)<(li:Int))=false:=(by simp;omega);have ET:decide ((30:Int)<(di:Int))=false:=(by simp;omega);have HCO:=λq=>y3 (w2.drewN q) p (c+14) s bs come (HS2.out.drewN q) Bc ag O2 (HT2.out.kept ((Kept.refl (λ_=>False) w2).drewN q) (λf=>f)) Hz
   clear fX HRF;go_wp2_with fail;go_quiet (fail);go_wp2_with fail;refine(HCO _).mono ?_;rintro e w4 ⟨O8,hk4⟩;have Pm:Kept (·=p) w2 w4:=⟨hk4.os,hk4.tape,hk4.output,hk4.size,hk4.block⟩
   have HK4:Hid (Kept (·=p) w w4):=hid (Kept.trans HK2.out Pm (λ_ _ h=>h) (λ_ _ h=>h));have EF:=HK4.out.size;clear HCO hk4 Pm d1 d2 d3;rcases O8 with⟨fB,rfl,c',eS,cS,oK⟩ | ⟨cQ,oK,⟨yP,rfl⟩ | ⟨yP,d,vc,vs,rfl,fT,yv⟩⟩
   ·have HE:Hid (cf ls c=.error 10):=hid (by rw[HRF2.out,if_pos (by omega)]);have HS4:Hid (St w4 p s bs c'):=oK;have mL:c<=c':=(by omega);clear fB oK;go_wp2_with fail;refine bodyPost_ret (v:=.tuple #[.slice none 0 0,.slice none 0 0,.int .i64 10]) (by simp[results,Tryz.results254,go_sem]) rfl ?_;refine⟨?_,HK4.out⟩;rw[HE.out];exact⟨rfl,by decide,c',mL,cS,HS4.out⟩
   ·obtain⟨er,cF⟩:∃er,er=bA (aO (ae bs) (c+14) come):=⟨_,rfl⟩
    rw[<-cF]at yP ⊢;have HE:Hid (cf ls c=.error er):=hid (by rw[HRF2.out,if_neg (by omega),HLS.out,<-cF,if_pos yP]);have HS4:Hid (St w4 p s bs (c+14+3*come)):=oK;have md:((er:Int) != 0)=true:=(by simp;omega);have HER:Hid (er≠0):=yP;clear oK yP cF;go_wp2_with fail;refine bodyPost_ret (v:=.tuple #[.slice none 0 0,.slice none 0 0,.int .i64 (er:Nat)]) (by simp[results,Tryz.results254,go_sem]) rfl ?_;refine⟨?_,HK4.out⟩;rw[HE.out];exact⟨rfl,HER.out,c+14+3*come,by omega,cQ,HS4.out⟩
   ·obtain⟨N,hN⟩:∃N,N=li+di:=⟨_,rfl⟩
    have V4:(li:Int)+(di:Int)=(N:Int):=(by omega);have YB:IntKind.i64.wrap (N:Int)=(N:Int):=(by rw[IntKind.wrap_i64];omega);have ZO:N<=340:=(by omega);have HRF3:Hid (cf ls c=match bD (aO (ae bs) (c+14) come) (ae bs) N N [] (c+14+3*come) with
      | .error e=>.error e
      | .ok (l,c2)=>.ok ((l.take li,l.drop li),c2-c)):=hid (by rw[HRF2.out,if_neg (by omega),HLS.out,if_neg (by rw[yP];simp),<-hN])
    have fJ:=dC (ae bs) (c+14) come;have KJ:=og (ae bs) (ay bs) (c+14) come;have HBD:=zq w4 d vc vs _ _ p (c+14+3*come) s bs N (qi _ fJ KJ yP) fT oK cQ ag (λk h hf=>by have h1:=yv k h;have h2:=HP.out k hf;have h3:(w2.drewN nq).heap.size=w2.heap.size:=rfl;omega) (by omega);have HNLI:Hid (li<N):=hid (by omega);clear fJ KJ yP fT yv oK HRF2 hN;cases K2:bD (aO (ae bs) (c+14) come) (ae bs) N N [] (c+14+3*come) with
    | error er=>
     rw[K2]at HBD;have HE:Hid (cf ls c=.error er):=hid (by rw[HRF3.out,K2]);clear K2 HRF3;go_wp2_with fail;refine HBD.mono ?_;rintro e w5 ⟨⟨rfl,cF,c',eS,cS,Ln⟩,hk5⟩;have HS5:Hid (St w5 p s bs c'):=Ln;have HK5:Hid (Kept (·=p) w w5):=hid (Kept.trans HK4.out hk5 (λ_ _ h=>h) (λ_ _ h=>h));have md:((er:Int) != 0)=true:=(by simp;omega);have HER:Hid (er≠0):=cF;have mL:c<=c':=(by omega);clear Ln hk5 cF HBD;go_wp2_with fail;refine bodyPost_ret (v:=.tuple #[.slice none 0 0,.slice none 0 0,.int .i64 (er:Nat)]) (by simp[results,Tryz.results254,go_sem]) rfl ?_;refine⟨?_,HK5.out⟩;rw[HE.out];exact⟨rfl,HER.out,c',mL,cS,HS5.out⟩
    | ok r=>
     obtain⟨l,c2⟩:=r;rw[K2]at HBD;have HE:Hid (cf ls c=.ok ((l.take li,l.drop li),c2-c)):=hid (by rw[HRF3.out,K2]);obtain⟨NE,Vi⟩:=GF N [] l _ c2 K2 (by simp) (by simp) (by simp);have HLN:Hid (l.length=N):=NE;clear K2 HRF3;go_wp2_with fail;refine HBD.mono ?_;rintro e w5 ⟨⟨⟨v5,rfl,hr5⟩,T7,Ln⟩,hk5⟩;have HS5:Hid (St w5 p s bs c2):=Ln;have HK5:Hid (Kept (·=p) w w5):=hid (Kept.trans HK4.out hk5 (λ_ _ h=>h) (λ_ _ h=>h));have KF:=HK5.out.size;have RF:l≠[]:=λe=>by rw[e]at NE;simp at NE;omega
     obtain⟨a5,iq,gC,ej,_⟩:=hr5.shape;obtain⟨g5,rfl⟩:=ej RF;subst gC;have Ov:l.length<=iq:=(by obtain⟨_,_,e,_,_,h,_⟩:=hr5.shape;simp only[Value.slice.injEq]at e;obtain⟨_,_,rfl⟩:=e;exact h);have hsr:SrcE am w5 _ (.slice (some ⟨g5,0,none⟩) l.length iq) l:=SrcE.ofRow hr5;have Yl:li<N:=HNLI.out;have S6:¬iq=li:=(by omega);have hA:=hsr.part li (by omega);have hB:=hsr.tail2 li (by omega);rw[NE,Nat.zero_add,if_neg S6]at hB;rw[NE]at Ov ⊢;obtain⟨M,hM⟩:∃M,M=N-li:=⟨_,rfl⟩
     have YW:(N:Int)-(li:Int)=(M:Int):=(by omega);have HCA:Hid (∀W,Same w5 W->Calls Tryz.prog 261 #[.slice (some ⟨g5,0,none⟩) li iq] W λe w'=>∃v',e=.returned v'/\L7 W w' v' (l.take li)):=hid (λW hk=>qw W _ _ _ (hA.same hk) (by simp;omega));have HCB:Hid (∀W,Same w5 W->Calls Tryz.prog 261 #[.slice (some ⟨g5,li,none⟩) (N-li) (iq-li)] W λe w'=>∃v',e=.returned v'/\L7 W w' v' (l.drop li)):=hid (λW hk=>qw W _ _ _ (hB.same hk) (by simp;omega));have i1:(0:Int)<=(li:Int):=(by omega);have i2:(li:Int)<=(N:Int):=(by omega);have i3:(li:Int)<=(iq:Int):=(by omega);clear Ln hk5 HBD hr5 ej hA hB hsr NE hM;go_wp2_with fail;go_region_held3 (λ_=>True) (first | trivial | go_keep)
      (first
       | (go_at_call 261;refine(HCB.out _ (Same.trans ((Kept.refl _ w5).drew) hnA.same)).mono ?_;rintro e w7 ⟨vB,rfl,hnB⟩)
       | (go_at_call 261;refine(HCA.out _ ((Kept.refl _ w5).drew)).mono ?_;rintro e w6 ⟨vA,rfl,hnA⟩))
     all_goals
      go_wp2_with fail;refine bodyPost_ret (v:=.tuple #[vA,vB,.int .i64 0]) (by simp[results,Tryz.results254,go_sem]) rfl ?_;have TP:Same w5 w7:=Same.trans (Same.trans ((Kept.refl _ w5).drew) hnA.same) hnB.same;refine⟨?_,Kept.trans HK5.out TP (λ_ _ h=>h) (λ_ _ f=>f.elim)⟩;rw[HE.out];have h6:=hnA.same.size;have h5:w5.drew.heap.size=w5.heap.size:=rfl;refine⟨⟨vA,vB,rfl,RowE.base (hnA.row.same hnB.same) (by omega),RowE.base hnB.row (by omega)⟩,by omega,?_⟩;have e:c+(c2-c)=c2:=(by omega);rw[e];exact HS5.out.kept TP (λ_ _ f=>f)
 ·have HE:Hid (cf ls c=.error 10):=hid (by rw[HRF.out,if_pos (by simpa using fB)]);have HS2:Hid (St w2 p s bs c'):=hs2;clear fB hs2;go_wp2_with fail;refine bodyPost_ret (v:=.tuple #[.slice none 0 0,.slice none 0 0,.int .i64 10]) (by simp[results,Tryz.results254,go_sem]) rfl ?_;refine⟨?_,HK2.out⟩;rw[HE.out];exact⟨rfl,by decide,c',eS,cS,HS2.out⟩
def Mo(w w':World)(p:Nat)(s:Value)(bs:List Nat)(c:Nat)(e:Ending):Except Nat ((List Nat×List Nat)×Nat)->Prop
 | .error er=>e=.returned (.tuple #[.slice none 0 0,.slice none 0 0,.int .i64 (er:Nat)])/\er≠0/\St w' p s bs c
 | .ok (x,n)=>(∃va vb,e=.returned (.tuple #[va,vb,.int .i64 0])/\NRow w.heap.size w' va x.1/\NRow w.heap.size w' vb x.2)/\c+n<=8*bs.length/\St w' p s bs (c+n)
theorem CF(w:World)(p c:Nat)(s:Value)(bs:List Nat)(hs:St w p s bs c)(hc:c≤8*bs.length)(ag:bs.length≤100000000)(hT:Tab w)(Hz:p≠0):
  Calls Tryz.prog 247 #[.pointer (some ⟨p,0,none⟩)] w λe w'=>Mo w w' p s bs c e (cf (ae bs) c)/\Kept (·=p) w w':=by
 have HG:=da p c s bs w hs;have HH:=DI w p c s bs hs hc ag hT Hz;clear hs hT;go_enter Tryz.func247,Tryz.ntmps247;cases hrf:cf (ae bs) c with
 | error er=>
  rw[hrf]at HH;clear hrf;go_wp2_with fail;refine HG.mono ?_;rintro e w1 ⟨rfl,hw1⟩;subst hw1;clear HG;go_wp2_with fail;refine HH.mono ?_;rintro e w2 ⟨⟨rfl,cF,c',eS,cS,hs2⟩,hk2⟩;have md:((er:Int) != 0)=true:=(by simp;omega);have HER:Hid (er≠0):=cF;have HK2:Hid (Kept (·=p) w1 w2):=hk2;have HG2:=da p c' s bs w2 hs2;obtain⟨m,hm⟩:∃m,m=c'-c:=⟨_,rfl⟩
  have Su:(c':Int)-(c:Int)=(m:Int):=(by omega);have ZM:IntKind.i64.wrap (m:Int)=(m:Int):=(by rw[IntKind.wrap_i64];omega);have HBK:=oe p c' m s bs w2 hs2 (by omega) (by omega);have Lm:c'-m=c:=(by omega);rw[Lm]at HBK;clear hs2 hk2 cF HH hm Lm;go_wp2_with fail;refine HG2.mono ?_;rintro e w3 ⟨rfl,hw3⟩;subst hw3;clear HG2;go_wp2_with fail;refine HBK.mono ?_;rintro e w4 ⟨rfl,oK,hk4⟩;have HS4:Hid (St w4 p s bs c):=oK;have HK4:Hid (Kept (·=p) w1 w4):=hid (Kept.trans HK2.out hk4 (λ_ _ h=>h) (λ_ _ h=>h));clear oK hk4 HBK;go_wp2_with fail;refine bodyPost_ret (v:=.tuple #[.slice none 0 0,.slice none 0 0,.int .i64 (er:Nat)]) (by simp[results,Tryz.results247,go_sem]) rfl ?_;exact⟨⟨rfl,HER.out,HS4.out⟩,HK4.out⟩
 | ok r=>
  obtain⟨x,n⟩:=r;rw[hrf]at HH;clear hrf;go_wp2_with fail;refine HG.mono ?_;rintro e w1 ⟨rfl,hw1⟩;subst hw1;clear HG;go_wp2_with fail;refine HH.mono ?_;rintro e w2 ⟨⟨⟨va,vb,rfl,Qe,EX⟩,cS,hs2⟩,hk2⟩;have HRA:Hid (NRow w1.heap.size w2 va x.1):=Qe;have HRB:Hid (NRow w1.heap.size w2 vb x.2):=EX;have HS2:Hid (St w2 p s bs (c+n)):=hs2;have HK2:Hid (Kept (·=p) w1 w2):=hk2;clear Qe EX hs2 hk2 HH;go_wp2_with fail;refine bodyPost_ret (v:=.tuple #[va,vb,.int .i64 0]) (by simp[results,Tryz.results247,go_sem]) rfl ?_;exact⟨⟨⟨va,vb,rfl,HRA.out,HRB.out⟩,cS,HS2.out⟩,HK2.out⟩
end Go.Proofs.YtljlmfnbeofmmaaGreatDoor
