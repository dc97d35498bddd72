import Derived.WalkMore
import Derived.Deep.RegionHeld3
import Derived.Test.YtllcnlnbpikhdaaGreatDoorJ43
import Derived.Test.YtllcnlnbpikhdaaGreatDoorJ12
set_option maxHeartbeats 8000000
set_option maxRecDepth 100000
namespace Go.Proofs.YtllcnlnbpikhdaaGreatDoor
open Go.RowKit
theorem Fj{ls:List Nat}(hb:∀b∈ls,b<2){c c':Nat}{b:Bk}(h:ez ls c=.ok (b,c')):c+3<=c':=by obtain⟨l,c1,h1,h⟩:=aI.1 h;obtain⟨k,c2,h2,h⟩:=aI.1 h;have a1:=dY h1;have a2:=dY h2;have:=(xA ls hb (l==1) c2 k (by omega)).ge _ _ h;omega
theorem Jh{ns ls:List Nat}{c last y c':Nat}(h:nE ns ls c last=.ok (y,c')):c<c':=by
 rcases dt h with⟨h1,_⟩ | ⟨h1,_⟩ | ⟨y1,k1,hn,⟨_,h1⟩ | ⟨_,h1⟩⟩
 ·cases h1
 ·cases h1
 ·cases h1
 ·simp only[Except.ok.injEq,Prod.mk.injEq]at h1;have:=sj hn;omega
theorem sA{ls:List Nat}(hb:∀b∈ls,b<2){k k':Bk}{t:Tok}{c c':Nat}(hk:nZ (some k))(hc:c<=ls.length)(h:bA ls k c=.ok ((t,k'),c'))(ht:t≠.fin):c<c':=by
 cases k with
 | raw last left=>
  cases left with
  | zero=>
   rw[gD]at h;simp only[Except.ok.injEq,Prod.mk.injEq]at h;exact absurd h.1.1.symm ht
  | succ n=>
   rw[ec]at h;obtain⟨v,c2,h1,h⟩:=aI.1 h;simp only[Except.ok.injEq,Prod.mk.injEq]at h;have:=dY h1;omega
 | sym last lit dist=>
  rw[ea]at h;obtain⟨y,c2,h1,h⟩:=aI.1 h;have a1:=Jh h1;have a2:=((tE (show OkL lit dist from hk).lit.pf ls hb c 285 hc).ge _ _ h1).2;unfold jl at h;split at h
  ·simp only[Except.ok.injEq,Prod.mk.injEq]at h;omega
  ·split at h
   ·simp only[Except.ok.injEq,Prod.mk.injEq]at h;omega
   ·obtain⟨x,c3,h2,h⟩:=aI.1 h;simp only[Except.ok.injEq,Prod.mk.injEq]at h;have:=(qv (show OkL lit dist from hk).pf ls hb c2 y a2).ge _ _ h2;omega
theorem BkP.last0{O:Nat->Prop}{w:World}{b:Nat}{k:Bk}(h:BkP w b O k):w.cell? ⟨b,0,none⟩=some (.bool k.last):=by
 cases k with
 | raw last left=>exact h.1.cell 0
 | sym last lit dist=>obtain⟨j,h1,_⟩:=h;exact h1.cell 0
def ms(L:Nat)(s:Ps):Nat:=2*(L-s.c)+(match s.bk with | none=>0 | some _=>1)
def Np:Tok->Prop
 | .fin=>True
 | .byte b=>b<256
 | .copy n far=>3<=n/\n<=258/\1<=far/\far<=40000
theorem sg{ls:List Nat}(hb:∀b∈ls,b<2){k k':Bk}{t:Tok}{c c':Nat}(h:bA ls k c=.ok ((t,k'),c')):Np t:=by
 cases k with
 | raw last left=>
  cases left with
  | zero=>
   rw[gD]at h;simp only[Except.ok.injEq,Prod.mk.injEq]at h;obtain⟨⟨rfl,_⟩,_⟩:=h;exact trivial
  | succ n=>
   rw[ec]at h;obtain⟨v,c2,h1,h⟩:=aI.1 h;simp only[Except.ok.injEq,Prod.mk.injEq]at h;obtain⟨⟨rfl,_⟩,_⟩:=h;show v<256;rw[(dY h1).1];exact bV _ hb _ _
 | sym last lit dist=>
  rw[ea]at h;obtain⟨y,c2,h1,h⟩:=aI.1 h;have hy:y<=285:=by
   rcases dt h1 with⟨h2,_⟩ | ⟨h2,_⟩ | ⟨y1,k1,hn,⟨_,h2⟩ | ⟨_,h2⟩⟩
   ·cases h2
   ·cases h2
   ·cases h2
   ·simp only[Except.ok.injEq,Prod.mk.injEq]at h2;omega
  unfold jl at h;split at h
  ·simp only[Except.ok.injEq,Prod.mk.injEq]at h;obtain⟨⟨rfl,_⟩,_⟩:=h;assumption
  ·split at h
   ·simp only[Except.ok.injEq,Prod.mk.injEq]at h;obtain⟨⟨rfl,_⟩,_⟩:=h;exact trivial
   ·obtain⟨x,c3,h2,h⟩:=aI.1 h;simp only[Except.ok.injEq,Prod.mk.injEq]at h;obtain⟨⟨rfl,_⟩,_⟩:=h;obtain⟨n,c4,h3,h2⟩:=aI.1 h2;obtain⟨z,c5,h4,h2⟩:=aI.1 h2;obtain⟨d,c6,h5,h2⟩:=aI.1 h2;simp only[Except.ok.injEq,Prod.mk.injEq]at h2;obtain⟨rfl,_⟩:=h2;have hl:=A0 hb hy (by omega) h3;have hz:z<=29:=by
     unfold mw at h4;split at h4
     ·cases h4
     ·rcases dt h4 with⟨h2,_⟩ | ⟨h2,_⟩ | ⟨y1,k1,hn,⟨_,h2⟩ | ⟨_,h2⟩⟩
      ·cases h2
      ·cases h2
      ·cases h2
      ·simp only[Except.ok.injEq,Prod.mk.injEq]at h2;omega
    have hd:=qT hb hz h5;exact⟨hl.1,hl.2,by show 1<=1+d;omega,by show 1+d<=40000;omega⟩
def Leads(ls:List Nat)(most:Nat)(start cur:Ps):Prop:=∀t er,Ends ls most cur t er->Ends ls most start t er
theorem Leads.next{ls:List Nat}{most:Nat}{start cur cur':Ps}(h:Leads ls most start cur)(hs:jF ls most cur=.ok (cur',false)):Leads ls most start cur':=λt er he=>h t er (.step hs he)
theorem rQ(w:World)(b p c:Nat)(s:Value)(bs:List Nat)(k:Bk)(O:Nat→Prop)(hB:BkP w b O k)(Kw:∀j,O j→j<w.heap.size)(hO:∀j,O j→¬Fp p s j)(hbp:¬Fp p s b)(hok:nZ (some k))(hs:St w p s bs c)(hc:c≤8*bs.length)(ag:bs.length≤100000000):
  Calls Tryz.prog 125 #[.pointer (some ⟨b,0,none⟩),.pointer (some ⟨p,0,none⟩)] w λe w'=>StepPA w' b p s bs O k e (bA (ae bs) k c)/\Kept (λj=>j=p\/j=b) w w':=by
 cases k with
 | raw last left=>exact Cf w b p c s bs last left O hB Kw hbp hs hc ag
 | sym last lit dist=>exact Cd w b p c s bs last lit dist O hB Kw hO hbp hok hs hc ag
theorem DO(w0:World)(ρ0:bP)(h most e:Nat)(va:Value)(bs:List Nat)(start:Ps)(Pm PU:Value)(hs:SI w0 ρ0 h most e va bs start Pm PU)(hn:∀j,ρ0 j=0∨dg (ρ0 j))(h7:start.c≤7)(ag:bs.length≤2000000):
  Calls Tryz.prog 88 #[.pointer (some ⟨h,0,none⟩)] w0 λx w'=>∃er t ρ vl bv out gone,x=.returned (.int .i64 (er:Nat))/\Nj w0 w' ρ0 h most e va bs start er t ρ vl bv out gone:=by
 have HNR:=ru va _ bs w0 (Src.ofRow hs.ah) (by omega) hs.by'
 have c3:=hs.sm.cell 3;obtain⟨aa,capa,At,_⟩:=hs.ah.shape;subst At;simp at c3;have HS:Hid (SI w0 ρ0 h most e (.slice aa bs.length capa) bs start Pm PU):=hs;have HN:Hid (∀j,ρ0 j=0\/dg (ρ0 j)):=hn;have Xl:=hs.len;obtain⟨LB,lA⟩:∃L,L=bs.length:=⟨_,rfl⟩
 rw[<-lA]at c3 HNR;have HLB:Hid (LB=bs.length):=lA;clear hs hn lA;go_enter Tryz.func88,Tryz.ntmps88;go_wp2_with fail;go_step3;go_wp2_with fail;refine HNR.mono ?_;rintro x w1 ⟨r,sr,rfl,hst1,hk1,Ex⟩;have HK1:Hid (Same w0 w1):=hk1;have HFP:Hid (∀k,Fp r sr k->w0.heap.size<=k):=Ex;have HT:=f8 r 0 start.c sr bs w1 hst1 (by omega) (by omega) (by omega);obtain⟨g0,GW⟩:∃g,g=start.c:=⟨_,rfl⟩
 have HFL:Hid (∀k,Fp r sr k->k<w1.heap.size):=hid (λk hk=>hst1.fp_lt hk);have c4:w1.cell? ⟨h,4,none⟩=some (.int .i64 (g0:Nat)):=by rw[GW];exact hk1.cell (HS.out.sm.cell 4) (λf=>f)
 rw[<-GW]at HT h7 Xl;have HG0:Hid (g0=start.c):=GW;generalize aN bs / 2 ^ 0 % 2 ^ g0=tk0 at HT;clear hst1 hk1 Ex HNR GW;go_wp2_with fail;refine HT.mono ?_;rintro x w2 ⟨rfl,uv,hk2⟩;have HST2:Hid (St w2 r sr bs g0):=hid (by rw[Nat.zero_add]at uv;exact uv);have HK2:Hid (Kept (·=r) w1 w2):=hk2;have HON:=Dz w2;clear uv hk2 HT;go_wp2_with fail;refine HON.mono ?_;rintro x w3 ⟨rfl,Ha,hk3,_⟩;obtain⟨bx,hbx⟩:∃b,b=w2.heap.size+1:=⟨_,rfl⟩
 obtain⟨fx,RN⟩:∃b,b=w2.heap.size:=⟨_,rfl⟩
 have HR0:Hid (∃ρ,RI w0 w3 ρ0 ρ h r bx fx sr most e (.slice aa bs.length capa) bs start Pm PU):=hid (by
  rw[hbx,RN];exact RI.start HS.out HN.out HK1.out HFP.out (by rw[<-HG0.out];exact HST2.out) HK2.out (λk hk=>Nat.lt_of_lt_of_le (HFL.out k hk) HK2.out.size) Ha hk3)
 rw[<-hbx,<-RN];clear Ha hk3 HON hbx RN HK1 HFP HFL HST2 HK2 c3 c4 HG0;go_wp2_with fail;go_step3;go_wp2_with fail;obtain⟨L8,VL⟩:∃L,L=8*bs.length:=⟨_,rfl⟩
 have HL8:Hid (L8=(ae bs).length):=hid (by rw[VL,aq]);have HLEN:Hid (bs.length<=100000000):=hid (by omega);go_loopg [5] (2*L8+1) (λq z wr=>∃(cur:Ps) (ρ:bP) (vl bv:Value),ms L8 cur<=q/\Hid (RI w0 wr ρ0 ρ h r bx fx sr most e (.slice aa bs.length capa) bs cur vl bv)/\Hid (Leads (ae bs) most start cur)/\Hid (start.out.length<=cur.out.length))
 case atStart=>
  obtain⟨ρ,hr⟩:=HR0.out;refine⟨start,ρ,Pm,PU,?_,hr,hid (λ_ _ x=>x),hid (Nat.le_refl _)⟩;unfold ms;split<;>omega
 case round=>
  clear HR0 HS;obtain⟨cur,ρ,vl,bv,hq,HR,HLD,HMO⟩:=hrel;obtain⟨G,hG⟩:∃G,G=gk:=⟨_,rfl⟩
  cases hbk:cur.bk with
  | none=>
   have Oq:bv=.pointer none:=(by have:=HR.out.si.bk;rw[hbk]at this;exact this);subst Oq;have d2:wr.cell? ⟨h,2,none⟩=some (.pointer none):=HR.out.si.sm.cell 2;have HBG:=zQ wr r cur.c sr bs bx fx _ HR.out.st HR.out.si.len HLEN.out HR.out.bx;cases hbe:ez (ae bs) cur.c with
   | error er=>
    rw[hbe]at HBG;have HE:Hid (jF (ae bs) most cur=.error er):=hid (fV hbk hbe);clear hbe;go_wp2_with fail;refine HBG.mono ?_;rintro x w4 ⟨hb4,hk4⟩;obtain⟨rfl,cw,_⟩:=hb4.err;have l9:((er:Int) != 0)=true:=(by simp;omega);have HKB:Hid (Kept (λj=>j=r\/j=bx) wr w4):=hk4;have HER:Hid (er≠0):=cw;clear hb4 hk4 cw HBG;go_wp2_with fail;rw[Exit.noGoto_ret];go_ret;exact⟨er,cur,_,_,_,_,_,rfl,HR.out.stops HKB.out HER.out (HLD.out _ _ (.stop HE.out)) HMO.out⟩
   | ok x=>
    obtain⟨k,c4⟩:=x;rw[hbe]at HBG;have HE:Hid (jF (ae bs) most cur=.ok (⟨c4,cur.out,some k⟩,false)):=hid (dF hbk hbe);have Kk:=Fj (az bs) hbe;have HBE:Hid (ez (ae bs) cur.c=.ok (k,c4)):=hbe;clear hbe;go_wp2_with fail;refine HBG.mono ?_;rintro x w4 ⟨hb4,hk4⟩;obtain⟨⟨b,O',rfl,KY,Iw,hnb,OG,ju,l7⟩,js,hst4⟩:=hb4.ok;have HR4:Hid (∃ρ',RI w0 ((w4.setCell ⟨h,2,none⟩ (.pointer (some ⟨b,0,none⟩))).setCell ⟨h,4,none⟩ (.int .i64 (c4:Nat))) ρ0 ρ' h r bx fx sr most e (.slice aa bs.length capa) bs ⟨c4,cur.out,some k⟩ vl (.pointer (some ⟨b,0,none⟩))):=hid (HR.out.begun KY Iw hnb OG l7 hst4 hk4 ⟨by rw[aq];exact js,BJ HBE.out⟩);have HGO:=cW r c4 sr bs w4 hst4;have NI:Hid (Leads (ae bs) most start ⟨c4,cur.out,some k⟩):=hid (HLD.out.next HE.out);have Ir:h≠r/\h≠bx:=⟨λe1=>by have:=HR.out.si.r1;rw[e1,HR.out.r5]at this;omega,λe1=>by have:=HR.out.si.r1;rw[e1,HR.out.r7]at this;omega⟩
    have HS4:Hid (Sm w4 h most vl (.pointer none) (.slice aa bs.length capa) cur.c e):=hid (HR.out.si.sm.kept hk4 (λf=>by rcases f with f | f;exact Ir.1 f;exact Ir.2 f));have e2:w4.cell? ⟨h,2,none⟩=some (.pointer none):=HS4.out.cell 2;have f2:w4.frozen? ⟨h,2,none⟩=false:=HS4.out.frozen 2;have e4:(w4.setCell ⟨h,2,none⟩ (.pointer (some ⟨b,0,none⟩))).cell? ⟨h,4,none⟩=some (.int .i64 (cur.c:Nat)):=(HS4.out.two _).cell 4;have f4:(w4.setCell ⟨h,2,none⟩ (.pointer (some ⟨b,0,none⟩))).frozen? ⟨h,4,none⟩=false:=(HS4.out.two _).frozen 4;have Rm:ms L8 ⟨c4,cur.out,some k⟩<=G:=(by have h1:ms L8 ⟨c4,cur.out,some k⟩=2*(L8-c4)+1:=rfl;have h2:ms L8 cur=2*(L8-cur.c):=(by unfold ms;rw[hbk];rfl);have h3:c4<=L8:=(by have:=HL8.out;rw[aq]at this;omega);omega);have HI:Hid (∃(cur:Ps) (ρ:bP) (vl bv:Value) (k:Bk),cur.bk=some k/\ms L8 cur<=G/\Hid (RI w0 ((w4.setCell ⟨h,2,none⟩ (.pointer (some ⟨b,0,none⟩))).setCell ⟨h,4,none⟩ (.int .i64 (c4:Nat))) ρ0 ρ h r bx fx sr most e (.slice aa bs.length capa) bs cur vl bv)/\Hid (Leads (ae bs) most start cur)/\Hid (start.out.length<=cur.out.length)):=hid (by
     obtain⟨ρ4,hr4⟩:=HR4.out;exact⟨_,ρ4,_,_,k,rfl,Rm,hr4,NI,HMO⟩)
    clear hb4 hk4 KY Iw hnb OG ju l7 js hst4 HBG HR4 NI HR HLD HMO Rm;go_wp2_with fail;refine HGO.mono ?_;rintro x w5 ⟨rfl,l5⟩;subst l5;clear HGO;go_wp2_with fail;go_loopg [7] G (λq z wr=>∃(cur:Ps) (ρ:bP) (vl bv:Value) (k:Bk),cur.bk=some k/\ms L8 cur<=q/\q<=G/\Hid (RI w0 wr ρ0 ρ h r bx fx sr most e (.slice aa bs.length capa) bs cur vl bv)/\Hid (Leads (ae bs) most start cur)/\Hid (start.out.length<=cur.out.length))
    case atStart=>
     obtain⟨cur,ρ,vl,bv,k,h1,h2,h3,h4,h5⟩:=HI.out;exact⟨cur,ρ,vl,bv,k,h1,h2,Nat.le_refl _,h3,h4,h5⟩
    case round=>
     clear HI;obtain⟨cur,ρ,vl,bv,k,hbk,hq,Vq,HR,HLD,HMO⟩:=hrel;have oJ:=HR.out.si.bk;rw[hbk]at oJ;obtain⟨b,rfl,KY,hb3⟩:=oJ;have d2:wr.cell? ⟨h,2,none⟩=some (.pointer (some ⟨b,0,none⟩)):=HR.out.si.sm.cell 2;have Ap:nZ (some k):=(by rw[<-hbk];exact HR.out.si.ok.bk);have HBOK:Hid (nZ (some k)):=Ap;have HSP:=rQ wr b r cur.c sr bs k (λj=>ρ j=4) KY (λj hj=>HR.out.si.lt j (by omega)) (λj hj hf=>by have:=HR.out.fp hf;omega) (λhf=>by have:=HR.out.fp hf;omega) Ap HR.out.st HR.out.si.len HLEN.out;have Eh:h≠b:=λe1=>by have:=HR.out.si.r1;rw[e1,hb3]at this;cases this
     have Hi:h≠r:=λe1=>by have:=HR.out.si.r1;rw[e1,HR.out.r5]at this;cases this
     have Uf:cur.c<=L8:=(by have:=HR.out.si.ok.le;rw[<-HL8.out]at this;exact this);have RQ:ms L8 cur=2*(L8-cur.c)+1:=(by unfold ms;rw[hbk]);clear KY Ap;cases hsp:bA (ae bs) k cur.c with
     | error er=>
      rw[hsp]at HSP;have HE:Hid (jF (ae bs) most cur=.error er):=hid (en hbk hsp);clear hsp;go_wp2_with fail;refine HSP.mono ?_;rintro x w4 ⟨hb4,hk4⟩;obtain⟨rfl,cw,eE,_⟩:=hb4.err;have l9:((er:Int) != 0)=true:=(by simp;omega);have HKB:Hid (Kept (λj=>j=r\/j=b) wr w4):=hk4;have HBK4:Hid (BkP w4 b (λj=>ρ j=4) k):=eE;have HER:Hid (er≠0):=cw;clear hb4 hk4 cw HSP eE;go_wp2_with fail;rw[Exit.noGoto_ret];go_ret;have B9:Same w4 (w4.alloc (.cells #[.int .u8 0,.int .i64 0,.int .i64 0] 133)):=(Kept.refl _ w4).alloc _;exact⟨er,cur,_,_,_,_,_,rfl,HR.out.stays rfl hbk hb3 (HBK4.out.kept B9 (λ_ _ f=>f) (λf=>f)) (Kept.trans HKB.out B9 (λ_ _ f=>f) (λ_ _ f=>f.elim)) HER.out (HLD.out _ _ (.stop HE.out)) HMO.out⟩
     | ok x=>
      obtain⟨⟨t,k'⟩,c4⟩:=x;rw[hsp]at HSP;have BP:=pz hsp HBOK.out;have htk:=sg (az bs) hsp;have MD:=(kC (ae bs) (az bs) k cur.c HBOK.out HR.out.si.ok.le).ge _ _ hsp;have HSE:Hid (jF (ae bs) most cur=Ep most cur k ((t,k'),c4)):=hid (b8 hbk hsp);have HADV:Hid (t≠.fin->cur.c<c4):=hid (λht=>sA (az bs) HBOK.out HR.out.si.ok.le hsp ht);rw[<-HL8.out]at MD;clear hsp;cases t with
      | fin=>
       have HL:Hid (k'.last=k.last):=BP.2;clear htk HADV;cases ce:k.last with
       | true=>
        have HE:Hid (jF (ae bs) most cur=.ok (⟨c4,cur.out,some k'⟩,true)):=hid (by rw[HSE.out,jf,ce,if_pos rfl]);have HLT:Hid (k'.last=true):=hid (HL.out.trans ce);clear ce HSE;go_wp2_with fail;refine HSP.mono ?_;rintro x w4 ⟨hb4,hk4⟩;obtain⟨rfl,eE,js,hst4⟩:=hb4.ok;have HKB:Hid (Kept (λj=>j=r\/j=b) wr w4):=hk4;have HBK4:Hid (BkP w4 b (λj=>ρ j=4) k'):=eE;have HST4:Hid (St w4 r sr bs c4):=hst4;have HC4:Hid (c4<=8*bs.length):=js;have HGO:=cW r c4 sr bs (w4.alloc (.cells #[.int .u8 0,.int .i64 0,.int .i64 0] 133)) (hst4.kept ((Kept.refl (λ_=>False) w4).alloc _) (λ_ _ f=>f));have HS4:Hid (Sm w4 h most vl (.pointer (some ⟨b,0,none⟩)) (.slice aa bs.length capa) cur.c e):=hid (HR.out.si.sm.kept HKB.out (λf=>by rcases f with f | f;exact Hi f;exact Eh f));have e4:(w4.alloc (.cells #[.int .u8 0,.int .i64 0,.int .i64 0] 133)).cell? ⟨h,4,none⟩=some (.int .i64 (cur.c:Nat)):=(HS4.out.kept ((Kept.refl (λ_=>False) w4).alloc _) (λf=>f)).cell 4;have f4:(w4.alloc (.cells #[.int .u8 0,.int .i64 0,.int .i64 0] 133)).frozen? ⟨h,4,none⟩=false:=(HS4.out.kept ((Kept.refl (λ_=>False) w4).alloc _) (λf=>f)).frozen 4;have HS6:Hid (Sm ((w4.setCell ⟨h,4,none⟩ (.int .i64 (c4:Nat))).alloc (.cells #[.int .u8 0,.int .i64 0,.int .i64 0] 133)) h most vl (.pointer (some ⟨b,0,none⟩)) (.slice aa bs.length capa) c4 e):=hid ((HS4.out.four c4).kept ((Kept.refl (λ_=>False) _).alloc _) (λf=>f));have g2:((w4.setCell ⟨h,4,none⟩ (.int .i64 (c4:Nat))).alloc (.cells #[.int .u8 0,.int .i64 0,.int .i64 0] 133)).cell? ⟨h,2,none⟩=some (.pointer (some ⟨b,0,none⟩)):=HS6.out.cell 2;have z2:((w4.setCell ⟨h,4,none⟩ (.int .i64 (c4:Nat))).alloc (.cells #[.int .u8 0,.int .i64 0,.int .i64 0] 133)).frozen? ⟨h,2,none⟩=false:=HS6.out.frozen 2;have HKH:Hid (Kept (·=h) w4 ((w4.setCell ⟨h,4,none⟩ (.int .i64 (c4:Nat))).alloc (.cells #[.int .u8 0,.int .i64 0,.int .i64 0] 133))):=hid (((Kept.refl (·=h) w4).setCell ⟨h,4,none⟩ _ (.inl rfl)).alloc _);have Ms:h<w4.heap.size:=HS4.out.lt;clear hb4 hk4 eE js hst4 HSP;simp only[oQ,jx,cE];go_wp2_with fail;refine HGO.mono ?_;rintro x w6 ⟨rfl,hw6⟩;subst hw6;clear HGO;have b0:((w4.setCell ⟨h,4,none⟩ (.int .i64 (c4:Nat))).alloc (.cells #[.int .u8 0,.int .i64 0,.int .i64 0] 133)).cell? ⟨b,0,none⟩=some (.bool true):=(by have:=(HBK4.out.kept HKH.out (λj hj e1=>by have:=HR.out.si.r1;rw[<-e1]at this;omega) (λe1=>Eh e1.symm)).last0;rw[HLT.out]at this;exact this);have HAL:=lW r c4 sr bs _ (HST4.out.kept HKH.out (λj hj e1=>by have:=HR.out.fp hj;rw[e1,HR.out.si.r1]at this;omega)) (by have:=HC4.out;have:=HLEN.out;omega);go_wp2_with fail;refine HAL.mono ?_;rintro x w7 ⟨rfl,AG,dh⟩;obtain⟨cc,om⟩:∃cc,cc=(c4+7) / 8*8:=⟨_,rfl⟩
        rw[<-om]at AG;have HGO:=cW r cc sr bs w7 AG;have HS7:Hid (Sm w7 h most vl (.pointer (some ⟨b,0,none⟩)) (.slice aa bs.length capa) c4 e):=hid (HS6.out.kept dh Hi);have e7:w7.cell? ⟨h,4,none⟩=some (.int .i64 (c4:Nat)):=HS7.out.cell 4;have f7:w7.frozen? ⟨h,4,none⟩=false:=HS7.out.frozen 4;have HK7:Hid (Kept (·=r) ((w4.setCell ⟨h,4,none⟩ (.int .i64 (c4:Nat))).alloc (.cells #[.int .u8 0,.int .i64 0,.int .i64 0] 133)) w7):=dh;have HCC:Hid (cc=(c4+7) / 8*8):=om;clear AG dh HAL om;go_wp2_with fail;refine HGO.mono ?_;rintro x w8 ⟨rfl,Ml⟩;subst Ml;clear HGO;go_wp2_with fail;rw[Exit.noGoto_ret];go_ret;have kI:Kept (·=h) w8 (w8.setCell ⟨h,4,none⟩ (.int .i64 (cc:Nat))):=(Kept.refl (·=h) w8).setCell ⟨h,4,none⟩ _ (.inl rfl);have G6:Kept (λj=>j=r\/j=b\/j=h) wr (w8.setCell ⟨h,4,none⟩ (.int .i64 (cc:Nat))):=Kept.trans (Kept.trans (H:=λj=>j=r\/j=b\/j=h) (Kept.trans (H:=λj=>j=r\/j=b\/j=h) HKB.out HKH.out (λ_ _ f=>by rcases f with f | f;exact .inl f;exact .inr (.inl f)) (λ_ _ f=>.inr (.inr f))) HK7.out (λ_ _ f=>f) (λ_ _ f=>.inl f)) kI (λ_ _ f=>f) (λ_ _ f=>.inr (.inr f));exact⟨0,⟨c4,cur.out,some k'⟩,_,_,_,_,_,rfl,HR.out.halts hb3 G6 (HS7.out.four cc) (by have:=HC4.out;have:=HCC.out;omega) (by decide) (HLD.out _ _ (.done HE.out)) HMO.out (λ_=>⟨rfl,HCC.out⟩)⟩
       | false=>
        have HE:Hid (jF (ae bs) most cur=.ok (⟨c4,cur.out,none⟩,false)):=hid (by rw[HSE.out,jf,ce,if_neg (by decide)]);have HLT:Hid (k'.last=false):=hid (HL.out.trans ce);clear ce HSE;go_wp2_with fail;refine HSP.mono ?_;rintro x w4 ⟨hb4,hk4⟩;obtain⟨rfl,eE,js,hst4⟩:=hb4.ok;have HKB:Hid (Kept (λj=>j=r\/j=b) wr w4):=hk4;have HBK4:Hid (BkP w4 b (λj=>ρ j=4) k'):=eE;have HST4:Hid (St w4 r sr bs c4):=hst4;have HC4:Hid (c4<=8*bs.length):=js;have HGO:=cW r c4 sr bs (w4.alloc (.cells #[.int .u8 0,.int .i64 0,.int .i64 0] 133)) (hst4.kept ((Kept.refl (λ_=>False) w4).alloc _) (λ_ _ f=>f));have HS4:Hid (Sm w4 h most vl (.pointer (some ⟨b,0,none⟩)) (.slice aa bs.length capa) cur.c e):=hid (HR.out.si.sm.kept HKB.out (λf=>by rcases f with f | f;exact Hi f;exact Eh f));have e4:(w4.alloc (.cells #[.int .u8 0,.int .i64 0,.int .i64 0] 133)).cell? ⟨h,4,none⟩=some (.int .i64 (cur.c:Nat)):=(HS4.out.kept ((Kept.refl (λ_=>False) w4).alloc _) (λf=>f)).cell 4;have f4:(w4.alloc (.cells #[.int .u8 0,.int .i64 0,.int .i64 0] 133)).frozen? ⟨h,4,none⟩=false:=(HS4.out.kept ((Kept.refl (λ_=>False) w4).alloc _) (λf=>f)).frozen 4;have HS6:Hid (Sm ((w4.setCell ⟨h,4,none⟩ (.int .i64 (c4:Nat))).alloc (.cells #[.int .u8 0,.int .i64 0,.int .i64 0] 133)) h most vl (.pointer (some ⟨b,0,none⟩)) (.slice aa bs.length capa) c4 e):=hid ((HS4.out.four c4).kept ((Kept.refl (λ_=>False) _).alloc _) (λf=>f));have g2:((w4.setCell ⟨h,4,none⟩ (.int .i64 (c4:Nat))).alloc (.cells #[.int .u8 0,.int .i64 0,.int .i64 0] 133)).cell? ⟨h,2,none⟩=some (.pointer (some ⟨b,0,none⟩)):=HS6.out.cell 2;have z2:((w4.setCell ⟨h,4,none⟩ (.int .i64 (c4:Nat))).alloc (.cells #[.int .u8 0,.int .i64 0,.int .i64 0] 133)).frozen? ⟨h,2,none⟩=false:=HS6.out.frozen 2;have HKH:Hid (Kept (·=h) w4 ((w4.setCell ⟨h,4,none⟩ (.int .i64 (c4:Nat))).alloc (.cells #[.int .u8 0,.int .i64 0,.int .i64 0] 133))):=hid (((Kept.refl (·=h) w4).setCell ⟨h,4,none⟩ _ (.inl rfl)).alloc _);have Ms:h<w4.heap.size:=HS4.out.lt;clear hb4 hk4 eE js hst4 HSP;simp only[oQ,jx,cE];go_wp2_with fail;refine HGO.mono ?_;rintro x w6 ⟨rfl,hw6⟩;subst hw6;clear HGO;have b0:((w4.setCell ⟨h,4,none⟩ (.int .i64 (c4:Nat))).alloc (.cells #[.int .u8 0,.int .i64 0,.int .i64 0] 133)).cell? ⟨b,0,none⟩=some (.bool false):=(by have:=(HBK4.out.kept HKH.out (λj hj e1=>by have:=HR.out.si.r1;rw[<-e1]at this;omega) (λe1=>Eh e1.symm)).last0;rw[HLT.out]at this;exact this);go_wp2_with fail;go_roundg (G-1)
        case measure=>omega
        case rel=>
         refine⟨⟨c4,cur.out,none⟩,ρ,vl,_,?_,(HR.out.ended hb3 HST4.out HKB.out HC4.out).same ((Kept.refl _ _).alloc _),hid (HLD.out.next HE.out),HMO⟩;have h1:ms L8 ⟨c4,cur.out,none⟩=2*(L8-c4):=rfl;omega
      | byte v=>
       have Kk:=HADV.out (by intro h9;cases h9);have HV:Hid (v<256):=htk;clear htk HADV;go_wp2_with fail;refine HSP.mono ?_;rintro x w4 ⟨hb4,hk4⟩;obtain⟨rfl,eE,js,hst4⟩:=hb4.ok;have HKB:Hid (Kept (λj=>j=r\/j=b) wr w4):=hk4;have HBK4:Hid (BkP w4 b (λj=>ρ j=4) k'):=eE;have HST4:Hid (St w4 r sr bs c4):=hst4;have HC4:Hid (c4<=8*bs.length):=js;have HGO:=cW r c4 sr bs (w4.alloc (.cells #[.int .u8 (v:Nat),.int .i64 0,.int .i64 0] 133)) (hst4.kept ((Kept.refl (λ_=>False) w4).alloc _) (λ_ _ f=>f));have HS4:Hid (Sm w4 h most vl (.pointer (some ⟨b,0,none⟩)) (.slice aa bs.length capa) cur.c e):=hid (HR.out.si.sm.kept HKB.out (λf=>by rcases f with f | f;exact Hi f;exact Eh f));have e4:(w4.alloc (.cells #[.int .u8 (v:Nat),.int .i64 0,.int .i64 0] 133)).cell? ⟨h,4,none⟩=some (.int .i64 (cur.c:Nat)):=(HS4.out.kept ((Kept.refl (λ_=>False) w4).alloc _) (λf=>f)).cell 4;have f4:(w4.alloc (.cells #[.int .u8 (v:Nat),.int .i64 0,.int .i64 0] 133)).frozen? ⟨h,4,none⟩=false:=(HS4.out.kept ((Kept.refl (λ_=>False) w4).alloc _) (λf=>f)).frozen 4;have HS6:Hid (Sm ((w4.setCell ⟨h,4,none⟩ (.int .i64 (c4:Nat))).alloc (.cells #[.int .u8 (v:Nat),.int .i64 0,.int .i64 0] 133)) h most vl (.pointer (some ⟨b,0,none⟩)) (.slice aa bs.length capa) c4 e):=hid ((HS4.out.four c4).kept ((Kept.refl (λ_=>False) _).alloc _) (λf=>f));have g2:((w4.setCell ⟨h,4,none⟩ (.int .i64 (c4:Nat))).alloc (.cells #[.int .u8 (v:Nat),.int .i64 0,.int .i64 0] 133)).cell? ⟨h,2,none⟩=some (.pointer (some ⟨b,0,none⟩)):=HS6.out.cell 2;have z2:((w4.setCell ⟨h,4,none⟩ (.int .i64 (c4:Nat))).alloc (.cells #[.int .u8 (v:Nat),.int .i64 0,.int .i64 0] 133)).frozen? ⟨h,2,none⟩=false:=HS6.out.frozen 2;have HKH:Hid (Kept (·=h) w4 ((w4.setCell ⟨h,4,none⟩ (.int .i64 (c4:Nat))).alloc (.cells #[.int .u8 (v:Nat),.int .i64 0,.int .i64 0] 133))):=hid (((Kept.refl (·=h) w4).setCell ⟨h,4,none⟩ _ (.inl rfl)).alloc _);have Ms:h<w4.heap.size:=HS4.out.lt;clear hb4 hk4 eE js hst4 HSP;simp only[oQ,jx];go_wp2_with fail;refine HGO.mono ?_;rintro x w6 ⟨rfl,hw6⟩;subst hw6;clear HGO;have HLY:=sO ((w4.setCell ⟨h,4,none⟩ (.int .i64 (c4:Nat))).alloc (.cells #[.int .u8 (v:Nat),.int .i64 0,.int .i64 0] 133)) h most vl (.pointer (some ⟨b,0,none⟩)) (.slice aa bs.length capa) c4 e cur.out v HS6.out (HR.out.si.row.kept (Kept.trans (H:=λj=>j=r\/j=b\/j=h) HKB.out HKH.out (λ_ _ f=>by rcases f with f | f;exact .inl f;exact .inr (.inl f)) (λ_ _ f=>.inr (.inr f))) (λj hj f=>by
        have:=HR.out.si.r2 j hj;rcases f with rfl | rfl | rfl
        ·have:=HR.out.r5;omega
        ·omega
        ·have:=HR.out.si.r1;omega)) HR.out.si.neh HR.out.si.mo HR.out.si.ol
       cases hly:dA most cur.out (.byte v) with
       | error er=>
        rw[hly]at HLY;have bh:=mE hly;have HE:Hid (jF (ae bs) most cur=.error er):=hid (by rw[HSE.out];exact mf (by intro h9;cases h9) hly);clear hly HSE;go_wp2_with fail;refine HLY.mono ?_;rintro x w7 ⟨rfl,cw,dh⟩;have l9:((er:Int) != 0)=true:=(by simp;omega);have HK7:Hid (Same ((w4.setCell ⟨h,4,none⟩ (.int .i64 (c4:Nat))).alloc (.cells #[.int .u8 (v:Nat),.int .i64 0,.int .i64 0] 133)) w7):=dh;have HNE:Hid (er≠55):=hid (by omega);clear dh HLY cw bh;go_wp2_with fail;rw[Exit.noGoto_ret];go_ret;have G6:Kept (λj=>j=r\/j=b\/j=h) wr w7:=Kept.trans (Kept.trans (H:=λj=>j=r\/j=b\/j=h) HKB.out HKH.out (λ_ _ f=>by rcases f with f | f;exact .inl f;exact .inr (.inl f)) (λ_ _ f=>.inr (.inr f))) HK7.out (λ_ _ f=>f) (λ_ _ f=>f.elim);exact⟨er,cur,_,_,_,_,_,rfl,HR.out.halts hb3 G6 (HS6.out.kept HK7.out (λf=>f)) HC4.out HNE.out (HLD.out _ _ (.stop HE.out)) HMO.out (λe0=>absurd (HE.out) (λh9=>uc (az bs) HR.out.si.ok h9 e0))⟩
       | ok out=>
        rw[hly]at HLY;have lB:=mH hly;have HE:Hid (jF (ae bs) most cur=.ok (⟨c4,out,some k'⟩,false)):=hid (by rw[HSE.out];exact j9 (by intro h9;cases h9) hly);clear hly HSE;go_wp2_with fail;refine HLY.mono ?_;rintro x w7 ⟨rfl,⟨vl',rd,kf,ki⟩,dh⟩;have HRN:Hid (∃ρ',RI w0 w7 ρ0 ρ' h r bx fx sr most e (.slice aa bs.length capa) bs ⟨c4,out,some k'⟩ vl' (.pointer (some ⟨b,0,none⟩))):=hid (HR.out.laid rfl hb3 HBK4.out HST4.out HKB.out HKH.out rd kf ki dh (lB.2.1 HR.out.si.ol) ⟨by rw[aq];exact HC4.out,BP.1⟩);have HMN:Hid (start.out.length<=out.length):=hid (Nat.le_trans HMO.out lB.1);clear rd kf ki dh HLY lB;go_wp2_with fail;go_roundg (gk-1)
        case measure=>omega
        case rel=>
         obtain⟨ρ',hr'⟩:=HRN.out;refine⟨⟨c4,out,some k'⟩,ρ',vl',_,k',rfl,?_,by omega,hr',hid (HLD.out.next HE.out),HMN⟩;have h1:ms L8 ⟨c4,out,some k'⟩=2*(L8-c4)+1:=rfl;omega
      | copy n far=>
       have Kk:=HADV.out (by intro h9;cases h9);obtain⟨hn3,BU,hf1,hf4⟩:3<=n/\n<=258/\1<=far/\far<=40000:=htk;clear HADV;go_wp2_with fail;refine HSP.mono ?_;rintro x w4 ⟨hb4,hk4⟩;obtain⟨rfl,eE,js,hst4⟩:=hb4.ok;have HKB:Hid (Kept (λj=>j=r\/j=b) wr w4):=hk4;have HBK4:Hid (BkP w4 b (λj=>ρ j=4) k'):=eE;have HST4:Hid (St w4 r sr bs c4):=hst4;have HC4:Hid (c4<=8*bs.length):=js;have HGO:=cW r c4 sr bs (w4.alloc (.cells #[.int .u8 0,.int .i64 (n:Nat),.int .i64 (far:Nat)] 133)) (hst4.kept ((Kept.refl (λ_=>False) w4).alloc _) (λ_ _ f=>f));have HS4:Hid (Sm w4 h most vl (.pointer (some ⟨b,0,none⟩)) (.slice aa bs.length capa) cur.c e):=hid (HR.out.si.sm.kept HKB.out (λf=>by rcases f with f | f;exact Hi f;exact Eh f));have e4:(w4.alloc (.cells #[.int .u8 0,.int .i64 (n:Nat),.int .i64 (far:Nat)] 133)).cell? ⟨h,4,none⟩=some (.int .i64 (cur.c:Nat)):=(HS4.out.kept ((Kept.refl (λ_=>False) w4).alloc _) (λf=>f)).cell 4;have f4:(w4.alloc (.cells #[.int .u8 0,.int .i64 (n:Nat),.int .i64 (far:Nat)] 133)).frozen? ⟨h,4,none⟩=false:=(HS4.out.kept ((Kept.refl (λ_=>False) w4).alloc _) (λf=>f)).frozen 4;have HS6:Hid (Sm ((w4.setCell ⟨h,4,none⟩ (.int .i64 (c4:Nat))).alloc (.cells #[.int .u8 0,.int .i64 (n:Nat),.int .i64 (far:Nat)] 133)) h most vl (.pointer (some ⟨b,0,none⟩)) (.slice aa bs.length capa) c4 e):=hid ((HS4.out.four c4).kept ((Kept.refl (λ_=>False) _).alloc _) (λf=>f));have g2:((w4.setCell ⟨h,4,none⟩ (.int .i64 (c4:Nat))).alloc (.cells #[.int .u8 0,.int .i64 (n:Nat),.int .i64 (far:Nat)] 133)).cell? ⟨h,2,none⟩=some (.pointer (some ⟨b,0,none⟩)):=HS6.out.cell 2;have z2:((w4.setCell ⟨h,4,none⟩ (.int .i64 (c4:Nat))).alloc (.cells #[.int .u8 0,.int .i64 (n:Nat),.int .i64 (far:Nat)] 133)).frozen? ⟨h,2,none⟩=false:=HS6.out.frozen 2;have HKH:Hid (Kept (·=h) w4 ((w4.setCell ⟨h,4,none⟩ (.int .i64 (c4:Nat))).alloc (.cells #[.int .u8 0,.int .i64 (n:Nat),.int .i64 (far:Nat)] 133))):=hid (((Kept.refl (·=h) w4).setCell ⟨h,4,none⟩ _ (.inl rfl)).alloc _);have Ms:h<w4.heap.size:=HS4.out.lt;clear hb4 hk4 eE js hst4 HSP;simp only[oQ,jx];go_wp2_with fail;refine HGO.mono ?_;rintro x w6 ⟨rfl,hw6⟩;subst hw6;clear HGO;have HLY:=rS ((w4.setCell ⟨h,4,none⟩ (.int .i64 (c4:Nat))).alloc (.cells #[.int .u8 0,.int .i64 (n:Nat),.int .i64 (far:Nat)] 133)) h most vl (.pointer (some ⟨b,0,none⟩)) (.slice aa bs.length capa) c4 e cur.out n far HS6.out (HR.out.si.row.kept (Kept.trans (H:=λj=>j=r\/j=b\/j=h) HKB.out HKH.out (λ_ _ f=>by rcases f with f | f;exact .inl f;exact .inr (.inl f)) (λ_ _ f=>.inr (.inr f))) (λj hj f=>by
        have:=HR.out.si.r2 j hj;rcases f with rfl | rfl | rfl
        ·have:=HR.out.r5;omega
        ·omega
        ·have:=HR.out.si.r1;omega)) HR.out.si.neh HR.out.si.mo HR.out.si.ol hn3 BU hf1 hf4
       cases hly:dA most cur.out (.copy n far) with
       | error er=>
        rw[hly]at HLY;have bh:=mE hly;have HE:Hid (jF (ae bs) most cur=.error er):=hid (by rw[HSE.out];exact mf (by intro h9;cases h9) hly);clear hly HSE;go_wp2_with fail;refine HLY.mono ?_;rintro x w7 ⟨rfl,cw,dh⟩;have l9:((er:Int) != 0)=true:=(by simp;omega);have HK7:Hid (Same ((w4.setCell ⟨h,4,none⟩ (.int .i64 (c4:Nat))).alloc (.cells #[.int .u8 0,.int .i64 (n:Nat),.int .i64 (far:Nat)] 133)) w7):=dh;have HNE:Hid (er≠55):=hid (by omega);clear dh HLY cw bh;go_wp2_with fail;rw[Exit.noGoto_ret];go_ret;have G6:Kept (λj=>j=r\/j=b\/j=h) wr w7:=Kept.trans (Kept.trans (H:=λj=>j=r\/j=b\/j=h) HKB.out HKH.out (λ_ _ f=>by rcases f with f | f;exact .inl f;exact .inr (.inl f)) (λ_ _ f=>.inr (.inr f))) HK7.out (λ_ _ f=>f) (λ_ _ f=>f.elim);exact⟨er,cur,_,_,_,_,_,rfl,HR.out.halts hb3 G6 (HS6.out.kept HK7.out (λf=>f)) HC4.out HNE.out (HLD.out _ _ (.stop HE.out)) HMO.out (λe0=>absurd (HE.out) (λh9=>uc (az bs) HR.out.si.ok h9 e0))⟩
       | ok out=>
        rw[hly]at HLY;have lB:=mH hly;have HE:Hid (jF (ae bs) most cur=.ok (⟨c4,out,some k'⟩,false)):=hid (by rw[HSE.out];exact j9 (by intro h9;cases h9) hly);clear hly HSE;go_wp2_with fail;refine HLY.mono ?_;rintro x w7 ⟨rfl,⟨vl',rd,kf,ki⟩,dh⟩;have HRN:Hid (∃ρ',RI w0 w7 ρ0 ρ' h r bx fx sr most e (.slice aa bs.length capa) bs ⟨c4,out,some k'⟩ vl' (.pointer (some ⟨b,0,none⟩))):=hid (HR.out.laid rfl hb3 HBK4.out HST4.out HKB.out HKH.out rd kf ki dh (lB.2.1 HR.out.si.ol) ⟨by rw[aq];exact HC4.out,BP.1⟩);have HMN:Hid (start.out.length<=out.length):=hid (Nat.le_trans HMO.out lB.1);clear rd kf ki dh HLY lB;go_wp2_with fail;go_roundg (gk-1)
        case measure=>omega
        case rel=>
         obtain⟨ρ',hr'⟩:=HRN.out;refine⟨⟨c4,out,some k'⟩,ρ',vl',_,k',rfl,?_,by omega,hr',hid (HLD.out.next HE.out),HMN⟩;have h1:ms L8 ⟨c4,out,some k'⟩=2*(L8-c4)+1:=rfl;omega
  | some k=>
   have oJ:=HR.out.si.bk;rw[hbk]at oJ;obtain⟨b,rfl,_,_⟩:=oJ;have d2:wr.cell? ⟨h,2,none⟩=some (.pointer (some ⟨b,0,none⟩)):=HR.out.si.sm.cell 2;have HI:Hid (∃(cur:Ps) (ρ:bP) (vl bv:Value) (k:Bk),cur.bk=some k/\ms L8 cur<=G/\Hid (RI w0 wr ρ0 ρ h r bx fx sr most e (.slice aa bs.length capa) bs cur vl bv)/\Hid (Leads (ae bs) most start cur)/\Hid (start.out.length<=cur.out.length)):=hid ⟨cur,ρ,vl,_,k,hbk,by omega,HR,HLD,HMO⟩;clear HR HLD HMO;go_wp2_with fail;go_loopg [7] G (λq z wr=>∃(cur:Ps) (ρ:bP) (vl bv:Value) (k:Bk),cur.bk=some k/\ms L8 cur<=q/\q<=G/\Hid (RI w0 wr ρ0 ρ h r bx fx sr most e (.slice aa bs.length capa) bs cur vl bv)/\Hid (Leads (ae bs) most start cur)/\Hid (start.out.length<=cur.out.length))
   case atStart=>
    obtain⟨cur,ρ,vl,bv,k,h1,h2,h3,h4,h5⟩:=HI.out;exact⟨cur,ρ,vl,bv,k,h1,h2,Nat.le_refl _,h3,h4,h5⟩
   case round=>
    clear HI;obtain⟨cur,ρ,vl,bv,k,hbk,hq,Vq,HR,HLD,HMO⟩:=hrel;have oJ:=HR.out.si.bk;rw[hbk]at oJ;obtain⟨b,rfl,KY,hb3⟩:=oJ;have d2:wr.cell? ⟨h,2,none⟩=some (.pointer (some ⟨b,0,none⟩)):=HR.out.si.sm.cell 2;have Ap:nZ (some k):=(by rw[<-hbk];exact HR.out.si.ok.bk);have HBOK:Hid (nZ (some k)):=Ap;have HSP:=rQ wr b r cur.c sr bs k (λj=>ρ j=4) KY (λj hj=>HR.out.si.lt j (by omega)) (λj hj hf=>by have:=HR.out.fp hf;omega) (λhf=>by have:=HR.out.fp hf;omega) Ap HR.out.st HR.out.si.len HLEN.out;have Eh:h≠b:=λe1=>by have:=HR.out.si.r1;rw[e1,hb3]at this;cases this
    have Hi:h≠r:=λe1=>by have:=HR.out.si.r1;rw[e1,HR.out.r5]at this;cases this
    have Uf:cur.c<=L8:=(by have:=HR.out.si.ok.le;rw[<-HL8.out]at this;exact this);have RQ:ms L8 cur=2*(L8-cur.c)+1:=(by unfold ms;rw[hbk]);clear KY Ap;cases hsp:bA (ae bs) k cur.c with
    | error er=>
     rw[hsp]at HSP;have HE:Hid (jF (ae bs) most cur=.error er):=hid (en hbk hsp);clear hsp;go_wp2_with fail;refine HSP.mono ?_;rintro x w4 ⟨hb4,hk4⟩;obtain⟨rfl,cw,eE,_⟩:=hb4.err;have l9:((er:Int) != 0)=true:=(by simp;omega);have HKB:Hid (Kept (λj=>j=r\/j=b) wr w4):=hk4;have HBK4:Hid (BkP w4 b (λj=>ρ j=4) k):=eE;have HER:Hid (er≠0):=cw;clear hb4 hk4 cw HSP eE;go_wp2_with fail;rw[Exit.noGoto_ret];go_ret;have B9:Same w4 (w4.alloc (.cells #[.int .u8 0,.int .i64 0,.int .i64 0] 133)):=(Kept.refl _ w4).alloc _;exact⟨er,cur,_,_,_,_,_,rfl,HR.out.stays rfl hbk hb3 (HBK4.out.kept B9 (λ_ _ f=>f) (λf=>f)) (Kept.trans HKB.out B9 (λ_ _ f=>f) (λ_ _ f=>f.elim)) HER.out (HLD.out _ _ (.stop HE.out)) HMO.out⟩
    | ok x=>
     obtain⟨⟨t,k'⟩,c4⟩:=x;rw[hsp]at HSP;have BP:=pz hsp HBOK.out;have htk:=sg (az bs) hsp;have MD:=(kC (ae bs) (az bs) k cur.c HBOK.out HR.out.si.ok.le).ge _ _ hsp;have HSE:Hid (jF (ae bs) most cur=Ep most cur k ((t,k'),c4)):=hid (b8 hbk hsp);have HADV:Hid (t≠.fin->cur.c<c4):=hid (λht=>sA (az bs) HBOK.out HR.out.si.ok.le hsp ht);rw[<-HL8.out]at MD;clear hsp;cases t with
     | fin=>
      have HL:Hid (k'.last=k.last):=BP.2;clear htk HADV;cases ce:k.last with
      | true=>
       have HE:Hid (jF (ae bs) most cur=.ok (⟨c4,cur.out,some k'⟩,true)):=hid (by rw[HSE.out,jf,ce,if_pos rfl]);have HLT:Hid (k'.last=true):=hid (HL.out.trans ce);clear ce HSE;go_wp2_with fail;refine HSP.mono ?_;rintro x w4 ⟨hb4,hk4⟩;obtain⟨rfl,eE,js,hst4⟩:=hb4.ok;have HKB:Hid (Kept (λj=>j=r\/j=b) wr w4):=hk4;have HBK4:Hid (BkP w4 b (λj=>ρ j=4) k'):=eE;have HST4:Hid (St w4 r sr bs c4):=hst4;have HC4:Hid (c4<=8*bs.length):=js;have HGO:=cW r c4 sr bs (w4.alloc (.cells #[.int .u8 0,.int .i64 0,.int .i64 0] 133)) (hst4.kept ((Kept.refl (λ_=>False) w4).alloc _) (λ_ _ f=>f));have HS4:Hid (Sm w4 h most vl (.pointer (some ⟨b,0,none⟩)) (.slice aa bs.length capa) cur.c e):=hid (HR.out.si.sm.kept HKB.out (λf=>by rcases f with f | f;exact Hi f;exact Eh f));have e4:(w4.alloc (.cells #[.int .u8 0,.int .i64 0,.int .i64 0] 133)).cell? ⟨h,4,none⟩=some (.int .i64 (cur.c:Nat)):=(HS4.out.kept ((Kept.refl (λ_=>False) w4).alloc _) (λf=>f)).cell 4;have f4:(w4.alloc (.cells #[.int .u8 0,.int .i64 0,.int .i64 0] 133)).frozen? ⟨h,4,none⟩=false:=(HS4.out.kept ((Kept.refl (λ_=>False) w4).alloc _) (λf=>f)).frozen 4;have HS6:Hid (Sm ((w4.setCell ⟨h,4,none⟩ (.int .i64 (c4:Nat))).alloc (.cells #[.int .u8 0,.int .i64 0,.int .i64 0] 133)) h most vl (.pointer (some ⟨b,0,none⟩)) (.slice aa bs.length capa) c4 e):=hid ((HS4.out.four c4).kept ((Kept.refl (λ_=>False) _).alloc _) (λf=>f));have g2:((w4.setCell ⟨h,4,none⟩ (.int .i64 (c4:Nat))).alloc (.cells #[.int .u8 0,.int .i64 0,.int .i64 0] 133)).cell? ⟨h,2,none⟩=some (.pointer (some ⟨b,0,none⟩)):=HS6.out.cell 2;have z2:((w4.setCell ⟨h,4,none⟩ (.int .i64 (c4:Nat))).alloc (.cells #[.int .u8 0,.int .i64 0,.int .i64 0] 133)).frozen? ⟨h,2,none⟩=false:=HS6.out.frozen 2;have HKH:Hid (Kept (·=h) w4 ((w4.setCell ⟨h,4,none⟩ (.int .i64 (c4:Nat))).alloc (.cells #[.int .u8 0,.int .i64 0,.int .i64 0] 133))):=hid (((Kept.refl (·=h) w4).setCell ⟨h,4,none⟩ _ (.inl rfl)).alloc _);have Ms:h<w4.heap.size:=HS4.out.lt;clear hb4 hk4 eE js hst4 HSP;simp only[oQ,jx,cE];go_wp2_with fail;refine HGO.mono ?_;rintro x w6 ⟨rfl,hw6⟩;subst hw6;clear HGO;have b0:((w4.setCell ⟨h,4,none⟩ (.int .i64 (c4:Nat))).alloc (.cells #[.int .u8 0,.int .i64 0,.int .i64 0] 133)).cell? ⟨b,0,none⟩=some (.bool true):=(by have:=(HBK4.out.kept HKH.out (λj hj e1=>by have:=HR.out.si.r1;rw[<-e1]at this;omega) (λe1=>Eh e1.symm)).last0;rw[HLT.out]at this;exact this);have HAL:=lW r c4 sr bs _ (HST4.out.kept HKH.out (λj hj e1=>by have:=HR.out.fp hj;rw[e1,HR.out.si.r1]at this;omega)) (by have:=HC4.out;have:=HLEN.out;omega);go_wp2_with fail;refine HAL.mono ?_;rintro x w7 ⟨rfl,AG,dh⟩;obtain⟨cc,om⟩:∃cc,cc=(c4+7) / 8*8:=⟨_,rfl⟩
       rw[<-om]at AG;have HGO:=cW r cc sr bs w7 AG;have HS7:Hid (Sm w7 h most vl (.pointer (some ⟨b,0,none⟩)) (.slice aa bs.length capa) c4 e):=hid (HS6.out.kept dh Hi);have e7:w7.cell? ⟨h,4,none⟩=some (.int .i64 (c4:Nat)):=HS7.out.cell 4;have f7:w7.frozen? ⟨h,4,none⟩=false:=HS7.out.frozen 4;have HK7:Hid (Kept (·=r) ((w4.setCell ⟨h,4,none⟩ (.int .i64 (c4:Nat))).alloc (.cells #[.int .u8 0,.int .i64 0,.int .i64 0] 133)) w7):=dh;have HCC:Hid (cc=(c4+7) / 8*8):=om;clear AG dh HAL om;go_wp2_with fail;refine HGO.mono ?_;rintro x w8 ⟨rfl,Ml⟩;subst Ml;clear HGO;go_wp2_with fail;rw[Exit.noGoto_ret];go_ret;have kI:Kept (·=h) w8 (w8.setCell ⟨h,4,none⟩ (.int .i64 (cc:Nat))):=(Kept.refl (·=h) w8).setCell ⟨h,4,none⟩ _ (.inl rfl);have G6:Kept (λj=>j=r\/j=b\/j=h) wr (w8.setCell ⟨h,4,none⟩ (.int .i64 (cc:Nat))):=Kept.trans (Kept.trans (H:=λj=>j=r\/j=b\/j=h) (Kept.trans (H:=λj=>j=r\/j=b\/j=h) HKB.out HKH.out (λ_ _ f=>by rcases f with f | f;exact .inl f;exact .inr (.inl f)) (λ_ _ f=>.inr (.inr f))) HK7.out (λ_ _ f=>f) (λ_ _ f=>.inl f)) kI (λ_ _ f=>f) (λ_ _ f=>.inr (.inr f));exact⟨0,⟨c4,cur.out,some k'⟩,_,_,_,_,_,rfl,HR.out.halts hb3 G6 (HS7.out.four cc) (by have:=HC4.out;have:=HCC.out;omega) (by decide) (HLD.out _ _ (.done HE.out)) HMO.out (λ_=>⟨rfl,HCC.out⟩)⟩
      | false=>
       have HE:Hid (jF (ae bs) most cur=.ok (⟨c4,cur.out,none⟩,false)):=hid (by rw[HSE.out,jf,ce,if_neg (by decide)]);have HLT:Hid (k'.last=false):=hid (HL.out.trans ce);clear ce HSE;go_wp2_with fail;refine HSP.mono ?_;rintro x w4 ⟨hb4,hk4⟩;obtain⟨rfl,eE,js,hst4⟩:=hb4.ok;have HKB:Hid (Kept (λj=>j=r\/j=b) wr w4):=hk4;have HBK4:Hid (BkP w4 b (λj=>ρ j=4) k'):=eE;have HST4:Hid (St w4 r sr bs c4):=hst4;have HC4:Hid (c4<=8*bs.length):=js;have HGO:=cW r c4 sr bs (w4.alloc (.cells #[.int .u8 0,.int .i64 0,.int .i64 0] 133)) (hst4.kept ((Kept.refl (λ_=>False) w4).alloc _) (λ_ _ f=>f));have HS4:Hid (Sm w4 h most vl (.pointer (some ⟨b,0,none⟩)) (.slice aa bs.length capa) cur.c e):=hid (HR.out.si.sm.kept HKB.out (λf=>by rcases f with f | f;exact Hi f;exact Eh f));have e4:(w4.alloc (.cells #[.int .u8 0,.int .i64 0,.int .i64 0] 133)).cell? ⟨h,4,none⟩=some (.int .i64 (cur.c:Nat)):=(HS4.out.kept ((Kept.refl (λ_=>False) w4).alloc _) (λf=>f)).cell 4;have f4:(w4.alloc (.cells #[.int .u8 0,.int .i64 0,.int .i64 0] 133)).frozen? ⟨h,4,none⟩=false:=(HS4.out.kept ((Kept.refl (λ_=>False) w4).alloc _) (λf=>f)).frozen 4;have HS6:Hid (Sm ((w4.setCell ⟨h,4,none⟩ (.int .i64 (c4:Nat))).alloc (.cells #[.int .u8 0,.int .i64 0,.int .i64 0] 133)) h most vl (.pointer (some ⟨b,0,none⟩)) (.slice aa bs.length capa) c4 e):=hid ((HS4.out.four c4).kept ((Kept.refl (λ_=>False) _).alloc _) (λf=>f));have g2:((w4.setCell ⟨h,4,none⟩ (.int .i64 (c4:Nat))).alloc (.cells #[.int .u8 0,.int .i64 0,.int .i64 0] 133)).cell? ⟨h,2,none⟩=some (.pointer (some ⟨b,0,none⟩)):=HS6.out.cell 2;have z2:((w4.setCell ⟨h,4,none⟩ (.int .i64 (c4:Nat))).alloc (.cells #[.int .u8 0,.int .i64 0,.int .i64 0] 133)).frozen? ⟨h,2,none⟩=false:=HS6.out.frozen 2;have HKH:Hid (Kept (·=h) w4 ((w4.setCell ⟨h,4,none⟩ (.int .i64 (c4:Nat))).alloc (.cells #[.int .u8 0,.int .i64 0,.int .i64 0] 133))):=hid (((Kept.refl (·=h) w4).setCell ⟨h,4,none⟩ _ (.inl rfl)).alloc _);have Ms:h<w4.heap.size:=HS4.out.lt;clear hb4 hk4 eE js hst4 HSP;simp only[oQ,jx,cE];go_wp2_with fail;refine HGO.mono ?_;rintro x w6 ⟨rfl,hw6⟩;subst hw6;clear HGO;have b0:((w4.setCell ⟨h,4,none⟩ (.int .i64 (c4:Nat))).alloc (.cells #[.int .u8 0,.int .i64 0,.int .i64 0] 133)).cell? ⟨b,0,none⟩=some (.bool false):=(by have:=(HBK4.out.kept HKH.out (λj hj e1=>by have:=HR.out.si.r1;rw[<-e1]at this;omega) (λe1=>Eh e1.symm)).last0;rw[HLT.out]at this;exact this);go_wp2_with fail;go_roundg (G-1)
       case measure=>omega
       case rel=>
        refine⟨⟨c4,cur.out,none⟩,ρ,vl,_,?_,(HR.out.ended hb3 HST4.out HKB.out HC4.out).same ((Kept.refl _ _).alloc _),hid (HLD.out.next HE.out),HMO⟩;have h1:ms L8 ⟨c4,cur.out,none⟩=2*(L8-c4):=rfl;omega
     | byte v=>
      have Kk:=HADV.out (by intro h9;cases h9);have HV:Hid (v<256):=htk;clear htk HADV;go_wp2_with fail;refine HSP.mono ?_;rintro x w4 ⟨hb4,hk4⟩;obtain⟨rfl,eE,js,hst4⟩:=hb4.ok;have HKB:Hid (Kept (λj=>j=r\/j=b) wr w4):=hk4;have HBK4:Hid (BkP w4 b (λj=>ρ j=4) k'):=eE;have HST4:Hid (St w4 r sr bs c4):=hst4;have HC4:Hid (c4<=8*bs.length):=js;have HGO:=cW r c4 sr bs (w4.alloc (.cells #[.int .u8 (v:Nat),.int .i64 0,.int .i64 0] 133)) (hst4.kept ((Kept.refl (λ_=>False) w4).alloc _) (λ_ _ f=>f));have HS4:Hid (Sm w4 h most vl (.pointer (some ⟨b,0,none⟩)) (.slice aa bs.length capa) cur.c e):=hid (HR.out.si.sm.kept HKB.out (λf=>by rcases f with f | f;exact Hi f;exact Eh f));have e4:(w4.alloc (.cells #[.int .u8 (v:Nat),.int .i64 0,.int .i64 0] 133)).cell? ⟨h,4,none⟩=some (.int .i64 (cur.c:Nat)):=(HS4.out.kept ((Kept.refl (λ_=>False) w4).alloc _) (λf=>f)).cell 4;have f4:(w4.alloc (.cells #[.int .u8 (v:Nat),.int .i64 0,.int .i64 0] 133)).frozen? ⟨h,4,none⟩=false:=(HS4.out.kept ((Kept.refl (λ_=>False) w4).alloc _) (λf=>f)).frozen 4;have HS6:Hid (Sm ((w4.setCell ⟨h,4,none⟩ (.int .i64 (c4:Nat))).alloc (.cells #[.int .u8 (v:Nat),.int .i64 0,.int .i64 0] 133)) h most vl (.pointer (some ⟨b,0,none⟩)) (.slice aa bs.length capa) c4 e):=hid ((HS4.out.four c4).kept ((Kept.refl (λ_=>False) _).alloc _) (λf=>f));have g2:((w4.setCell ⟨h,4,none⟩ (.int .i64 (c4:Nat))).alloc (.cells #[.int .u8 (v:Nat),.int .i64 0,.int .i64 0] 133)).cell? ⟨h,2,none⟩=some (.pointer (some ⟨b,0,none⟩)):=HS6.out.cell 2;have z2:((w4.setCell ⟨h,4,none⟩ (.int .i64 (c4:Nat))).alloc (.cells #[.int .u8 (v:Nat),.int .i64 0,.int .i64 0] 133)).frozen? ⟨h,2,none⟩=false:=HS6.out.frozen 2;have HKH:Hid (Kept (·=h) w4 ((w4.setCell ⟨h,4,none⟩ (.int .i64 (c4:Nat))).alloc (.cells #[.int .u8 (v:Nat),.int .i64 0,.int .i64 0] 133))):=hid (((Kept.refl (·=h) w4).setCell ⟨h,4,none⟩ _ (.inl rfl)).alloc _);have Ms:h<w4.heap.size:=HS4.out.lt;clear hb4 hk4 eE js hst4 HSP;simp only[oQ,jx];go_wp2_with fail;refine HGO.mono ?_;rintro x w6 ⟨rfl,hw6⟩;subst hw6;clear HGO;have HLY:=sO ((w4.setCell ⟨h,4,none⟩ (.int .i64 (c4:Nat))).alloc (.cells #[.int .u8 (v:Nat),.int .i64 0,.int .i64 0] 133)) h most vl (.pointer (some ⟨b,0,none⟩)) (.slice aa bs.length capa) c4 e cur.out v HS6.out (HR.out.si.row.kept (Kept.trans (H:=λj=>j=r\/j=b\/j=h) HKB.out HKH.out (λ_ _ f=>by rcases f with f | f;exact .inl f;exact .inr (.inl f)) (λ_ _ f=>.inr (.inr f))) (λj hj f=>by
       have:=HR.out.si.r2 j hj;rcases f with rfl | rfl | rfl
       ·have:=HR.out.r5;omega
       ·omega
       ·have:=HR.out.si.r1;omega)) HR.out.si.neh HR.out.si.mo HR.out.si.ol
      cases hly:dA most cur.out (.byte v) with
      | error er=>
       rw[hly]at HLY;have bh:=mE hly;have HE:Hid (jF (ae bs) most cur=.error er):=hid (by rw[HSE.out];exact mf (by intro h9;cases h9) hly);clear hly HSE;go_wp2_with fail;refine HLY.mono ?_;rintro x w7 ⟨rfl,cw,dh⟩;have l9:((er:Int) != 0)=true:=(by simp;omega);have HK7:Hid (Same ((w4.setCell ⟨h,4,none⟩ (.int .i64 (c4:Nat))).alloc (.cells #[.int .u8 (v:Nat),.int .i64 0,.int .i64 0] 133)) w7):=dh;have HNE:Hid (er≠55):=hid (by omega);clear dh HLY cw bh;go_wp2_with fail;rw[Exit.noGoto_ret];go_ret;have G6:Kept (λj=>j=r\/j=b\/j=h) wr w7:=Kept.trans (Kept.trans (H:=λj=>j=r\/j=b\/j=h) HKB.out HKH.out (λ_ _ f=>by rcases f with f | f;exact .inl f;exact .inr (.inl f)) (λ_ _ f=>.inr (.inr f))) HK7.out (λ_ _ f=>f) (λ_ _ f=>f.elim);exact⟨er,cur,_,_,_,_,_,rfl,HR.out.halts hb3 G6 (HS6.out.kept HK7.out (λf=>f)) HC4.out HNE.out (HLD.out _ _ (.stop HE.out)) HMO.out (λe0=>absurd (HE.out) (λh9=>uc (az bs) HR.out.si.ok h9 e0))⟩
      | ok out=>
       rw[hly]at HLY;have lB:=mH hly;have HE:Hid (jF (ae bs) most cur=.ok (⟨c4,out,some k'⟩,false)):=hid (by rw[HSE.out];exact j9 (by intro h9;cases h9) hly);clear hly HSE;go_wp2_with fail;refine HLY.mono ?_;rintro x w7 ⟨rfl,⟨vl',rd,kf,ki⟩,dh⟩;have HRN:Hid (∃ρ',RI w0 w7 ρ0 ρ' h r bx fx sr most e (.slice aa bs.length capa) bs ⟨c4,out,some k'⟩ vl' (.pointer (some ⟨b,0,none⟩))):=hid (HR.out.laid rfl hb3 HBK4.out HST4.out HKB.out HKH.out rd kf ki dh (lB.2.1 HR.out.si.ol) ⟨by rw[aq];exact HC4.out,BP.1⟩);have HMN:Hid (start.out.length<=out.length):=hid (Nat.le_trans HMO.out lB.1);clear rd kf ki dh HLY lB;go_wp2_with fail;go_roundg (gk-1)
       case measure=>omega
       case rel=>
        obtain⟨ρ',hr'⟩:=HRN.out;refine⟨⟨c4,out,some k'⟩,ρ',vl',_,k',rfl,?_,by omega,hr',hid (HLD.out.next HE.out),HMN⟩;have h1:ms L8 ⟨c4,out,some k'⟩=2*(L8-c4)+1:=rfl;omega
     | copy n far=>
      have Kk:=HADV.out (by intro h9;cases h9);obtain⟨hn3,BU,hf1,hf4⟩:3<=n/\n<=258/\1<=far/\far<=40000:=htk;clear HADV;go_wp2_with fail;refine HSP.mono ?_;rintro x w4 ⟨hb4,hk4⟩;obtain⟨rfl,eE,js,hst4⟩:=hb4.ok;have HKB:Hid (Kept (λj=>j=r\/j=b) wr w4):=hk4;have HBK4:Hid (BkP w4 b (λj=>ρ j=4) k'):=eE;have HST4:Hid (St w4 r sr bs c4):=hst4;have HC4:Hid (c4<=8*bs.length):=js;have HGO:=cW r c4 sr bs (w4.alloc (.cells #[.int .u8 0,.int .i64 (n:Nat),.int .i64 (far:Nat)] 133)) (hst4.kept ((Kept.refl (λ_=>False) w4).alloc _) (λ_ _ f=>f));have HS4:Hid (Sm w4 h most vl (.pointer (some ⟨b,0,none⟩)) (.slice aa bs.length capa) cur.c e):=hid (HR.out.si.sm.kept HKB.out (λf=>by rcases f with f | f;exact Hi f;exact Eh f));have e4:(w4.alloc (.cells #[.int .u8 0,.int .i64 (n:Nat),.int .i64 (far:Nat)] 133)).cell? ⟨h,4,none⟩=some (.int .i64 (cur.c:Nat)):=(HS4.out.kept ((Kept.refl (λ_=>False) w4).alloc _) (λf=>f)).cell 4;have f4:(w4.alloc (.cells #[.int .u8 0,.int .i64 (n:Nat),.int .i64 (far:Nat)] 133)).frozen? ⟨h,4,none⟩=false:=(HS4.out.kept ((Kept.refl (λ_=>False) w4).alloc _) (λf=>f)).frozen 4;have HS6:Hid (Sm ((w4.setCell ⟨h,4,none⟩ (.int .i64 (c4:Nat))).alloc (.cells #[.int .u8 0,.int .i64 (n:Nat),.int .i64 (far:Nat)] 133)) h most vl (.pointer (some ⟨b,0,none⟩)) (.slice aa bs.length capa) c4 e):=hid ((HS4.out.four c4).kept ((Kept.refl (λ_=>False) _).alloc _) (λf=>f));have g2:((w4.setCell ⟨h,4,none⟩ (.int .i64 (c4:Nat))).alloc (.cells #[.int .u8 0,.int .i64 (n:Nat),.int .i64 (far:Nat)] 133)).cell? ⟨h,2,none⟩=some (.pointer (some ⟨b,0,none⟩)):=HS6.out.cell 2;have z2:((w4.setCell ⟨h,4,none⟩ (.int .i64 (c4:Nat))).alloc (.cells #[.int .u8 0,.int .i64 (n:Nat),.int .i64 (far:Nat)] 133)).frozen? ⟨h,2,none⟩=false:=HS6.out.frozen 2;have HKH:Hid (Kept (·=h) w4 ((w4.setCell ⟨h,4,none⟩ (.int .i64 (c4:Nat))).alloc (.cells #[.int .u8 0,.int .i64 (n:Nat),.int .i64 (far:Nat)] 133))):=hid (((Kept.refl (·=h) w4).setCell ⟨h,4,none⟩ _ (.inl rfl)).alloc _);have Ms:h<w4.heap.size:=HS4.out.lt;clear hb4 hk4 eE js hst4 HSP;simp only[oQ,jx];go_wp2_with fail;refine HGO.mono ?_;rintro x w6 ⟨rfl,hw6⟩;subst hw6;clear HGO;have HLY:=rS ((w4.setCell ⟨h,4,none⟩ (.int .i64 (c4:Nat))).alloc (.cells #[.int .u8 0,.int .i64 (n:Nat),.int .i64 (far:Nat)] 133)) h most vl (.pointer (some ⟨b,0,none⟩)) (.slice aa bs.length capa) c4 e cur.out n far HS6.out (HR.out.si.row.kept (Kept.trans (H:=λj=>j=r\/j=b\/j=h) HKB.out HKH.out (λ_ _ f=>by rcases f with f | f;exact .inl f;exact .inr (.inl f)) (λ_ _ f=>.inr (.inr f))) (λj hj f=>by
       have:=HR.out.si.r2 j hj;rcases f with rfl | rfl | rfl
       ·have:=HR.out.r5;omega
       ·omega
       ·have:=HR.out.si.r1;omega)) HR.out.si.neh HR.out.si.mo HR.out.si.ol hn3 BU hf1 hf4
      cases hly:dA most cur.out (.copy n far) with
      | error er=>
       rw[hly]at HLY;have bh:=mE hly;have HE:Hid (jF (ae bs) most cur=.error er):=hid (by rw[HSE.out];exact mf (by intro h9;cases h9) hly);clear hly HSE;go_wp2_with fail;refine HLY.mono ?_;rintro x w7 ⟨rfl,cw,dh⟩;have l9:((er:Int) != 0)=true:=(by simp;omega);have HK7:Hid (Same ((w4.setCell ⟨h,4,none⟩ (.int .i64 (c4:Nat))).alloc (.cells #[.int .u8 0,.int .i64 (n:Nat),.int .i64 (far:Nat)] 133)) w7):=dh;have HNE:Hid (er≠55):=hid (by omega);clear dh HLY cw bh;go_wp2_with fail;rw[Exit.noGoto_ret];go_ret;have G6:Kept (λj=>j=r\/j=b\/j=h) wr w7:=Kept.trans (Kept.trans (H:=λj=>j=r\/j=b\/j=h) HKB.out HKH.out (λ_ _ f=>by rcases f with f | f;exact .inl f;exact .inr (.inl f)) (λ_ _ f=>.inr (.inr f))) HK7.out (λ_ _ f=>f) (λ_ _ f=>f.elim);exact⟨er,cur,_,_,_,_,_,rfl,HR.out.halts hb3 G6 (HS6.out.kept HK7.out (λf=>f)) HC4.out HNE.out (HLD.out _ _ (.stop HE.out)) HMO.out (λe0=>absurd (HE.out) (λh9=>uc (az bs) HR.out.si.ok h9 e0))⟩
      | ok out=>
       rw[hly]at HLY;have lB:=mH hly;have HE:Hid (jF (ae bs) most cur=.ok (⟨c4,out,some k'⟩,false)):=hid (by rw[HSE.out];exact j9 (by intro h9;cases h9) hly);clear hly HSE;go_wp2_with fail;refine HLY.mono ?_;rintro x w7 ⟨rfl,⟨vl',rd,kf,ki⟩,dh⟩;have HRN:Hid (∃ρ',RI w0 w7 ρ0 ρ' h r bx fx sr most e (.slice aa bs.length capa) bs ⟨c4,out,some k'⟩ vl' (.pointer (some ⟨b,0,none⟩))):=hid (HR.out.laid rfl hb3 HBK4.out HST4.out HKB.out HKH.out rd kf ki dh (lB.2.1 HR.out.si.ol) ⟨by rw[aq];exact HC4.out,BP.1⟩);have HMN:Hid (start.out.length<=out.length):=hid (Nat.le_trans HMO.out lB.1);clear rd kf ki dh HLY lB;go_wp2_with fail;go_roundg (gk-1)
       case measure=>omega
       case rel=>
        obtain⟨ρ',hr'⟩:=HRN.out;refine⟨⟨c4,out,some k'⟩,ρ',vl',_,k',rfl,?_,by omega,hr',hid (HLD.out.next HE.out),HMN⟩;have h1:ms L8 ⟨c4,out,some k'⟩=2*(L8-c4)+1:=rfl;omega
theorem Ak(w:World)(ρ:bP)(h most e:Nat)(va:Value)(bs out:List Nat)(gone:Nat)(vl bv:Value)(s:SW w ρ h most e va bs out gone vl bv)(ag:bs.length≤2000000):
  Calls Tryz.prog 90 #[.pointer (some ⟨h,0,none⟩),.int .i64 55] w λx w'=>(∃u,x=.returned u)/\∃va',Sm w' h most vl bv va' (gone % 8) e/\Row w' va' (bs.drop (gone / 8))/\(∀k,va'.ownBlock=some k->w.heap.size<=k)/\Kept (·=h) w w':=by
 obtain⟨aa,capa,At,_⟩:=s.ah.shape;have HS:Hid (SW w ρ h most e va bs out gone vl bv):=s;subst At;have Ir:=s.sm.lt;have c3:=s.sm.cell 3;have c4:=s.sm.cell 4;simp at c3 c4;have HAH:Hid (Row w (.slice aa bs.length capa) bs):=s.ah;obtain⟨LB,lA⟩:∃L,L=bs.length:=⟨_,rfl⟩
 rw[<-lA]at c3 ag;obtain⟨k,hk⟩:∃k,k=gone / 8:=⟨_,rfl⟩
 have Kd:(gone:Int) / 8=(k:Int):=by omega
 have xU:k<=LB:=by have:=s.gl;omega
 have cj:LB<=capa:=by
  rcases s.ah.2 with⟨e1,_⟩ | ⟨g,cp,cur,e1,_,_,md,_⟩
  ·simp only[Value.slice.injEq]at e1;omega
  ·simp only[Value.slice.injEq]at e1;omega
 have HCL:Hid (∀(W:World) (a':Option Addr) (c':Nat),Same w W->(k<LB->∃g,aa=some ⟨g,0,none⟩/\a'=some ⟨g,k,none⟩)->Calls Tryz.prog 89 #[.slice a' (LB-k) c'] W λx w'=>∃v',x=.returned v'/\Fresh W w' v' (bs.drop k)):=hid (λW a' c' hW ha=>by
  have:=gR W (.slice a' (LB-k) c') _ (bs.drop k) (by rw[lA];exact(HAH.out.rest k (by omega) a' c' (by rw[<-lA];exact ha)).kept hW (λ_ _ _ f=>f)) (by rw[List.length_drop];omega);exact this)
 have HK:Hid (k=gone / 8):=hk;have ut:IntKind.i64.wrap (k:Int)=(k:Int):=by rw[IntKind.wrap_i64];omega
 have B9:Int.tdiv (gone:Int) 8=(k:Int):=by rw[HK.out];rfl
 have i1:(0:Int)<=(k:Int):=by omega
 have i2:(k:Int)<=(LB:Int):=by omega
 have i3:(LB:Int)<=(capa:Int):=by omega
 have i4:(k:Int)<=(capa:Int):=by omega
 have Sx:gone<=8*LB:=by have:=s.gl;omega
 have HFIN:Hid (∀(w1:World) (v1:Value),Fresh w w1 v1 (bs.drop k)->∀(w2:World),Kept (·=h) w1 w2->Row w2 v1 (bs.drop (gone / 8))/\(∀k,v1.ownBlock=some k->w.heap.size<=k)/\Kept (·=h) w w2):=hid (λw1 v1 hf w2 hk2=>⟨by
  rw[<-HK.out];exact hf.row.kept hk2 (λj hj e1=>by have:=hf.new j hj;omega),hf.new,Kept.trans hf.kept hk2 (λ_ _ f=>f.elim) (λ_ _ f=>f)⟩)
 have HAA:Hid (k<LB->∃g,aa=some ⟨g,0,none⟩):=hid (λhlt=>by
  rcases s.ah.2 with⟨e1,hn⟩ | ⟨g,cp,cur,e1,_⟩
  ·omega
  ·simp only[Value.slice.injEq]at e1;exact⟨g,e1.1⟩)
 have HLB:Hid (LB=bs.length):=lA;clear s hk lA;have HSH:Hid ((aa=none/\LB=0/\capa=0)\/∃g,aa=some ⟨g,0,none⟩):=hid (by
  rcases HAH.out.2 with⟨e1,hn⟩ | ⟨g,cp,cur,e1,_⟩
  ·simp only[Value.slice.injEq]at e1;exact .inl ⟨e1.1,by have:=HLB.out;omega,e1.2.2⟩
  ·simp only[Value.slice.injEq]at e1;exact .inr ⟨g,e1.1⟩)
 rcases HSH.out with⟨rfl,rfl,rfl⟩ | ⟨g,rfl⟩
 ·have hk0:k=0:=(by omega);subst hk0;have t0:Int.tdiv (gone:Int) 8=0:=B9;have t1:(gone:Int) / 8=0:=Kd;have t2:IntKind.i64.wrap 0=0:=(by decide);clear HSH i1 i2 i3 i4 cj xU ut B9 Kd;go_enter Tryz.func90,Tryz.ntmps90;go_wp2_with fail;go_region_held3 (λw'=>w'.cell? ⟨h,3,none⟩=some (.slice none 0 0)/\w'.cell? ⟨h,4,none⟩=some (.int .i64 (gone:Nat))) (first | (go_split_ands;exact⟨hf1.kept.cell (by assumption) (λf=>f),hf1.kept.cell (by assumption) (λf=>f)⟩) | go_keep)
   (first
    | (go_at_call 89;refine(HCL.out _ _ _ ((Kept.refl _ w).drew) ?_).mono ?_;exact λhlt=>absurd hlt (by omega);rintro x w1 ⟨v1,rfl,hf1⟩))
  all_goals
   have HF1:Hid (Fresh w w1 v1 (bs.drop 0)):=hid ⟨hf1.row,Kept.undrew hf1.kept,hf1.new⟩;have HS1:Hid (Sm w1 h most vl bv (.slice none bs.length 0) gone e):=hid (HS.out.sm.kept HF1.out.kept (λf=>f));obtain⟨a1,jb,fv,_⟩:=hf1.row.shape;generalize (bs.drop 0).length=n1 at fv;subst fv;have d0:=HS1.out.cell 0;have d1:=HS1.out.cell 1;have d2:=HS1.out.cell 2;have d3:=HS1.out.cell 3;have d4:=HS1.out.cell 4;have d5:=HS1.out.cell 5;simp at d0 d1 d2 d3 d4 d5;have z0:=HS1.out.frozen 0;have z1:=HS1.out.frozen 1;have z2:=HS1.out.frozen 2;have z3:=HS1.out.frozen 3;have z4:=HS1.out.frozen 4;have z5:=HS1.out.frozen 5;clear hf1 c3 c4;obtain⟨gm,KW⟩:∃gm,gm=gone % 8:=⟨_,rfl⟩
   have T8:(gone:Int) % 8=(gm:Int):=(by omega);have HGM:Hid (gm=gone % 8):=KW;clear KW;go_wp2_with fail;go_end0;have hks:Kept (·=h) w1 ((w1.setCell ⟨h,3,none⟩ (.slice a1 n1 jb)).setCell ⟨h,4,none⟩ (.int .i64 (gm:Nat))):=((Kept.refl (·=h) w1).setCell ⟨h,3,none⟩ _ (.inl rfl)).setCell ⟨h,4,none⟩ _ (.inl rfl);have fK:Sm ((w1.setCell ⟨h,3,none⟩ (.slice a1 n1 jb)).setCell ⟨h,4,none⟩ (.int .i64 (gm:Nat))) h most vl bv (.slice a1 n1 jb) gm e:=(by have:=(HS1.out.set 3 (.slice a1 n1 jb)).set 4 (.int .i64 (gm:Nat));simpa using this);have gU:=HFIN.out w1 _ HF1.out _ hks;rw[HGM.out]at fK;exact⟨⟨_,rfl⟩,_,by rw[HGM.out];exact fK,by rw[HGM.out]at gU;rw[HGM.out];exact gU⟩
 ·by_cases Ev:k<capa
  ·have j1:(k:Int)<(capa:Int):=(by omega);have j2:¬capa=k:=(by omega);have j3:¬capa-k=0:=(by omega);have j5:¬k=capa:=(by omega);have j4:¬((capa:Int)-(k:Int)=0):=(by omega);clear HSH;go_enter Tryz.func90,Tryz.ntmps90;go_wp2_with fail;go_region_held3 (λw'=>w'.cell? ⟨h,3,none⟩=some (.slice (some ⟨g,0,none⟩) LB capa)/\w'.cell? ⟨h,4,none⟩=some (.int .i64 (gone:Nat))) (first | (go_split_ands;exact⟨hf1.kept.cell (by assumption) (λf=>f),hf1.kept.cell (by assumption) (λf=>f)⟩) | go_keep)
    (first
     | (go_at_call 89;refine(HCL.out _ _ _ ((Kept.refl _ w).drew) ?_).mono ?_;exact λ_=>⟨g,rfl,rfl⟩;rintro x w1 ⟨v1,rfl,hf1⟩))
   all_goals
    have HF1:Hid (Fresh w w1 v1 (bs.drop k)):=hid ⟨hf1.row,Kept.undrew hf1.kept,hf1.new⟩;have HS1:Hid (Sm w1 h most vl bv (.slice (some ⟨g,0,none⟩) bs.length capa) gone e):=hid (HS.out.sm.kept HF1.out.kept (λf=>f));obtain⟨a1,jb,fv,_⟩:=hf1.row.shape;generalize (bs.drop k).length=n1 at fv;subst fv;have d0:=HS1.out.cell 0;have d1:=HS1.out.cell 1;have d2:=HS1.out.cell 2;have d3:=HS1.out.cell 3;have d4:=HS1.out.cell 4;have d5:=HS1.out.cell 5;simp at d0 d1 d2 d3 d4 d5;have z0:=HS1.out.frozen 0;have z1:=HS1.out.frozen 1;have z2:=HS1.out.frozen 2;have z3:=HS1.out.frozen 3;have z4:=HS1.out.frozen 4;have z5:=HS1.out.frozen 5;clear hf1 c3 c4;obtain⟨gm,KW⟩:∃gm,gm=gone % 8:=⟨_,rfl⟩
    have T8:(gone:Int) % 8=(gm:Int):=(by omega);have HGM:Hid (gm=gone % 8):=KW;clear KW;go_wp2_with fail;go_end0;have hks:Kept (·=h) w1 ((w1.setCell ⟨h,3,none⟩ (.slice a1 n1 jb)).setCell ⟨h,4,none⟩ (.int .i64 (gm:Nat))):=((Kept.refl (·=h) w1).setCell ⟨h,3,none⟩ _ (.inl rfl)).setCell ⟨h,4,none⟩ _ (.inl rfl);have fK:Sm ((w1.setCell ⟨h,3,none⟩ (.slice a1 n1 jb)).setCell ⟨h,4,none⟩ (.int .i64 (gm:Nat))) h most vl bv (.slice a1 n1 jb) gm e:=(by have:=(HS1.out.set 3 (.slice a1 n1 jb)).set 4 (.int .i64 (gm:Nat));simpa using this);have gU:=HFIN.out w1 _ HF1.out _ hks;rw[HGM.out]at fK;exact⟨⟨_,rfl⟩,_,by rw[HGM.out];exact fK,by rw[HGM.out]at gU;rw[HGM.out];exact gU⟩
  ·have Ht:capa=k:=(by omega);have Hq:LB=k:=(by omega);subst Ht;subst Hq;have HCL0:Hid (∀(W:World) (a':Option Addr) (c':Nat),Same w W->Calls Tryz.prog 89 #[.slice a' 0 c'] W λx w'=>∃v',x=.returned v'/\Fresh W w' v' (bs.drop LB)):=hid (λW a' c' hW=>by
    have:=HCL.out W a' c' hW (λhlt=>absurd hlt (Nat.lt_irrefl _));rw[Nat.sub_self]at this;exact this)
   clear HSH Ev HCL;go_enter Tryz.func90,Tryz.ntmps90;go_wp2_with fail;go_region_held3 (λw'=>w'.cell? ⟨h,3,none⟩=some (.slice (some ⟨g,0,none⟩) LB LB)/\w'.cell? ⟨h,4,none⟩=some (.int .i64 (gone:Nat))) (first | (go_split_ands;exact⟨hf1.kept.cell (by assumption) (λf=>f),hf1.kept.cell (by assumption) (λf=>f)⟩) | go_keep)
    (first
     | (go_at_call 89;refine(HCL0.out _ _ _ ((Kept.refl _ w).drew)).mono ?_;rintro x w1 ⟨v1,rfl,hf1⟩))
   all_goals
    have HF1:Hid (Fresh w w1 v1 (bs.drop LB)):=hid ⟨hf1.row,Kept.undrew hf1.kept,hf1.new⟩;have HS1:Hid (Sm w1 h most vl bv (.slice (some ⟨g,0,none⟩) bs.length LB) gone e):=hid (HS.out.sm.kept HF1.out.kept (λf=>f));obtain⟨a1,jb,fv,_⟩:=hf1.row.shape;generalize (bs.drop LB).length=n1 at fv;subst fv;have d0:=HS1.out.cell 0;have d1:=HS1.out.cell 1;have d2:=HS1.out.cell 2;have d3:=HS1.out.cell 3;have d4:=HS1.out.cell 4;have d5:=HS1.out.cell 5;simp at d0 d1 d2 d3 d4 d5;have z0:=HS1.out.frozen 0;have z1:=HS1.out.frozen 1;have z2:=HS1.out.frozen 2;have z3:=HS1.out.frozen 3;have z4:=HS1.out.frozen 4;have z5:=HS1.out.frozen 5;clear hf1 c3 c4;obtain⟨gm,KW⟩:∃gm,gm=gone % 8:=⟨_,rfl⟩
    have T8:(gone:Int) % 8=(gm:Int):=(by omega);have HGM:Hid (gm=gone % 8):=KW;clear KW;go_wp2_with fail;go_end0;have hks:Kept (·=h) w1 ((w1.setCell ⟨h,3,none⟩ (.slice a1 n1 jb)).setCell ⟨h,4,none⟩ (.int .i64 (gm:Nat))):=((Kept.refl (·=h) w1).setCell ⟨h,3,none⟩ _ (.inl rfl)).setCell ⟨h,4,none⟩ _ (.inl rfl);have fK:Sm ((w1.setCell ⟨h,3,none⟩ (.slice a1 n1 jb)).setCell ⟨h,4,none⟩ (.int .i64 (gm:Nat))) h most vl bv (.slice a1 n1 jb) gm e:=(by have:=(HS1.out.set 3 (.slice a1 n1 jb)).set 4 (.int .i64 (gm:Nat));simpa using this);have gU:=HFIN.out w1 _ HF1.out _ hks;rw[HGM.out]at fK;exact⟨⟨_,rfl⟩,_,by rw[HGM.out];exact fK,by rw[HGM.out]at gU;rw[HGM.out];exact gU⟩
theorem yU(w:World)(ρ:bP)(h most e:Nat)(va:Value)(bs out:List Nat)(gone:Nat)(vl bv:Value)(s:SW w ρ h most e va bs out gone vl bv)(ag:bs.length≤2000000):
  Calls Tryz.prog 90 #[.pointer (some ⟨h,0,none⟩),.int .i64 0] w λx w'=>(∃u,x=.returned u)/\∃va',Sm w' h 0 (.slice none 0 0) (.pointer none) va' 0 0/\Row w' va' (bs.drop (gone / 8))/\(∀k,va'.ownBlock=some k->w.heap.size<=k)/\Kept (·=h) w w':=by
 obtain⟨aa,capa,At,_⟩:=s.ah.shape;have HS:Hid (SW w ρ h most e va bs out gone vl bv):=s;subst At;have Ir:=s.sm.lt;have c3:=s.sm.cell 3;have c4:=s.sm.cell 4;simp at c3 c4;have HAH:Hid (Row w (.slice aa bs.length capa) bs):=s.ah;obtain⟨LB,lA⟩:∃L,L=bs.length:=⟨_,rfl⟩
 rw[<-lA]at c3 ag;obtain⟨k,hk⟩:∃k,k=gone / 8:=⟨_,rfl⟩
 have Kd:(gone:Int) / 8=(k:Int):=by omega
 have xU:k<=LB:=by have:=s.gl;omega
 have cj:LB<=capa:=by
  rcases s.ah.2 with⟨e1,_⟩ | ⟨g,cp,cur,e1,_,_,md,_⟩
  ·simp only[Value.slice.injEq]at e1;omega
  ·simp only[Value.slice.injEq]at e1;omega
 have HCL:Hid (∀(W:World) (a':Option Addr) (c':Nat),Same w W->(k<LB->∃g,aa=some ⟨g,0,none⟩/\a'=some ⟨g,k,none⟩)->Calls Tryz.prog 89 #[.slice a' (LB-k) c'] W λx w'=>∃v',x=.returned v'/\Fresh W w' v' (bs.drop k)):=hid (λW a' c' hW ha=>by
  have:=gR W (.slice a' (LB-k) c') _ (bs.drop k) (by rw[lA];exact(HAH.out.rest k (by omega) a' c' (by rw[<-lA];exact ha)).kept hW (λ_ _ _ f=>f)) (by rw[List.length_drop];omega);exact this)
 have HK:Hid (k=gone / 8):=hk;have ut:IntKind.i64.wrap (k:Int)=(k:Int):=by rw[IntKind.wrap_i64];omega
 have B9:Int.tdiv (gone:Int) 8=(k:Int):=by rw[HK.out];rfl
 have i1:(0:Int)<=(k:Int):=by omega
 have i2:(k:Int)<=(LB:Int):=by omega
 have i3:(LB:Int)<=(capa:Int):=by omega
 have i4:(k:Int)<=(capa:Int):=by omega
 have Sx:gone<=8*LB:=by have:=s.gl;omega
 have HFIN:Hid (∀(w1:World) (v1:Value),Fresh w w1 v1 (bs.drop k)->∀(w2:World),Kept (·=h) w1 w2->Row w2 v1 (bs.drop (gone / 8))/\(∀k,v1.ownBlock=some k->w.heap.size<=k)/\Kept (·=h) w w2):=hid (λw1 v1 hf w2 hk2=>⟨by
  rw[<-HK.out];exact hf.row.kept hk2 (λj hj e1=>by have:=hf.new j hj;omega),hf.new,Kept.trans hf.kept hk2 (λ_ _ f=>f.elim) (λ_ _ f=>f)⟩)
 have HAA:Hid (k<LB->∃g,aa=some ⟨g,0,none⟩):=hid (λhlt=>by
  rcases s.ah.2 with⟨e1,hn⟩ | ⟨g,cp,cur,e1,_⟩
  ·omega
  ·simp only[Value.slice.injEq]at e1;exact⟨g,e1.1⟩)
 have HLB:Hid (LB=bs.length):=lA;clear s hk lA;have HSH:Hid ((aa=none/\LB=0/\capa=0)\/∃g,aa=some ⟨g,0,none⟩):=hid (by
  rcases HAH.out.2 with⟨e1,hn⟩ | ⟨g,cp,cur,e1,_⟩
  ·simp only[Value.slice.injEq]at e1;exact .inl ⟨e1.1,by have:=HLB.out;omega,e1.2.2⟩
  ·simp only[Value.slice.injEq]at e1;exact .inr ⟨g,e1.1⟩)
 rcases HSH.out with⟨rfl,rfl,rfl⟩ | ⟨g,rfl⟩
 ·have hk0:k=0:=(by omega);subst hk0;have t0:Int.tdiv (gone:Int) 8=0:=B9;have t1:(gone:Int) / 8=0:=Kd;have t2:IntKind.i64.wrap 0=0:=(by decide);clear HSH i1 i2 i3 i4 cj xU ut B9 Kd;go_enter Tryz.func90,Tryz.ntmps90;go_wp2_with fail;go_region_held3 (λw'=>w'.cell? ⟨h,3,none⟩=some (.slice none 0 0)/\w'.cell? ⟨h,4,none⟩=some (.int .i64 (gone:Nat))) (first | (go_split_ands;exact⟨hf1.kept.cell (by assumption) (λf=>f),hf1.kept.cell (by assumption) (λf=>f)⟩) | go_keep)
   (first
    | (go_at_call 89;refine(HCL.out _ _ _ ((Kept.refl _ w).drew) ?_).mono ?_;exact λhlt=>absurd hlt (by omega);rintro x w1 ⟨v1,rfl,hf1⟩))
  all_goals
   have HF1:Hid (Fresh w w1 v1 (bs.drop 0)):=hid ⟨hf1.row,Kept.undrew hf1.kept,hf1.new⟩;have HS1:Hid (Sm w1 h most vl bv (.slice none bs.length 0) gone e):=hid (HS.out.sm.kept HF1.out.kept (λf=>f));obtain⟨a1,jb,fv,_⟩:=hf1.row.shape;generalize (bs.drop 0).length=n1 at fv;subst fv;have d0:=HS1.out.cell 0;have d1:=HS1.out.cell 1;have d2:=HS1.out.cell 2;have d3:=HS1.out.cell 3;have d4:=HS1.out.cell 4;have d5:=HS1.out.cell 5;simp at d0 d1 d2 d3 d4 d5;have z0:=HS1.out.frozen 0;have z1:=HS1.out.frozen 1;have z2:=HS1.out.frozen 2;have z3:=HS1.out.frozen 3;have z4:=HS1.out.frozen 4;have z5:=HS1.out.frozen 5;clear hf1 c3 c4;go_wp2_with fail;go_end0;have hks:Kept (·=h) w1 ((((((w1.setCell ⟨h,0,none⟩ (.int .i64 0)).setCell ⟨h,1,none⟩ (.slice none 0 0)).setCell ⟨h,2,none⟩ (.pointer none)).setCell ⟨h,3,none⟩ (.slice a1 n1 jb)).setCell ⟨h,4,none⟩ (.int .i64 0)).setCell ⟨h,5,none⟩ (.int .i64 0)):=((((((Kept.refl (·=h) w1).setCell ⟨h,0,none⟩ _ (.inl rfl)).setCell ⟨h,1,none⟩ _ (.inl rfl)).setCell ⟨h,2,none⟩ _ (.inl rfl)).setCell ⟨h,3,none⟩ _ (.inl rfl)).setCell ⟨h,4,none⟩ _ (.inl rfl)).setCell ⟨h,5,none⟩ _ (.inl rfl);have fK:Sm ((((((w1.setCell ⟨h,0,none⟩ (.int .i64 0)).setCell ⟨h,1,none⟩ (.slice none 0 0)).setCell ⟨h,2,none⟩ (.pointer none)).setCell ⟨h,3,none⟩ (.slice a1 n1 jb)).setCell ⟨h,4,none⟩ (.int .i64 0)).setCell ⟨h,5,none⟩ (.int .i64 0)) h 0 (.slice none 0 0) (.pointer none) (.slice a1 n1 jb) 0 0:=(by have:=(((((HS1.out.set 0 (.int .i64 0)).set 1 (.slice none 0 0)).set 2 (.pointer none)).set 3 (.slice a1 n1 jb)).set 4 (.int .i64 0)).set 5 (.int .i64 0);simp at this;exact this);have gU:=HFIN.out w1 _ HF1.out _ hks;exact⟨⟨_,rfl⟩,_,fK,gU⟩
 ·by_cases Ev:k<capa
  ·have j1:(k:Int)<(capa:Int):=(by omega);have j2:¬capa=k:=(by omega);have j3:¬capa-k=0:=(by omega);have j5:¬k=capa:=(by omega);have j4:¬((capa:Int)-(k:Int)=0):=(by omega);clear HSH;go_enter Tryz.func90,Tryz.ntmps90;go_wp2_with fail;go_region_held3 (λw'=>w'.cell? ⟨h,3,none⟩=some (.slice (some ⟨g,0,none⟩) LB capa)/\w'.cell? ⟨h,4,none⟩=some (.int .i64 (gone:Nat))) (first | (go_split_ands;exact⟨hf1.kept.cell (by assumption) (λf=>f),hf1.kept.cell (by assumption) (λf=>f)⟩) | go_keep)
    (first
     | (go_at_call 89;refine(HCL.out _ _ _ ((Kept.refl _ w).drew) ?_).mono ?_;exact λ_=>⟨g,rfl,rfl⟩;rintro x w1 ⟨v1,rfl,hf1⟩))
   all_goals
    have HF1:Hid (Fresh w w1 v1 (bs.drop k)):=hid ⟨hf1.row,Kept.undrew hf1.kept,hf1.new⟩;have HS1:Hid (Sm w1 h most vl bv (.slice (some ⟨g,0,none⟩) bs.length capa) gone e):=hid (HS.out.sm.kept HF1.out.kept (λf=>f));obtain⟨a1,jb,fv,_⟩:=hf1.row.shape;generalize (bs.drop k).length=n1 at fv;subst fv;have d0:=HS1.out.cell 0;have d1:=HS1.out.cell 1;have d2:=HS1.out.cell 2;have d3:=HS1.out.cell 3;have d4:=HS1.out.cell 4;have d5:=HS1.out.cell 5;simp at d0 d1 d2 d3 d4 d5;have z0:=HS1.out.frozen 0;have z1:=HS1.out.frozen 1;have z2:=HS1.out.frozen 2;have z3:=HS1.out.frozen 3;have z4:=HS1.out.frozen 4;have z5:=HS1.out.frozen 5;clear hf1 c3 c4;go_wp2_with fail;go_end0;have hks:Kept (·=h) w1 ((((((w1.setCell ⟨h,0,none⟩ (.int .i64 0)).setCell ⟨h,1,none⟩ (.slice none 0 0)).setCell ⟨h,2,none⟩ (.pointer none)).setCell ⟨h,3,none⟩ (.slice a1 n1 jb)).setCell ⟨h,4,none⟩ (.int .i64 0)).setCell ⟨h,5,none⟩ (.int .i64 0)):=((((((Kept.refl (·=h) w1).setCell ⟨h,0,none⟩ _ (.inl rfl)).setCell ⟨h,1,none⟩ _ (.inl rfl)).setCell ⟨h,2,none⟩ _ (.inl rfl)).setCell ⟨h,3,none⟩ _ (.inl rfl)).setCell ⟨h,4,none⟩ _ (.inl rfl)).setCell ⟨h,5,none⟩ _ (.inl rfl);have fK:Sm ((((((w1.setCell ⟨h,0,none⟩ (.int .i64 0)).setCell ⟨h,1,none⟩ (.slice none 0 0)).setCell ⟨h,2,none⟩ (.pointer none)).setCell ⟨h,3,none⟩ (.slice a1 n1 jb)).setCell ⟨h,4,none⟩ (.int .i64 0)).setCell ⟨h,5,none⟩ (.int .i64 0)) h 0 (.slice none 0 0) (.pointer none) (.slice a1 n1 jb) 0 0:=(by have:=(((((HS1.out.set 0 (.int .i64 0)).set 1 (.slice none 0 0)).set 2 (.pointer none)).set 3 (.slice a1 n1 jb)).set 4 (.int .i64 0)).set 5 (.int .i64 0);simp at this;exact this);have gU:=HFIN.out w1 _ HF1.out _ hks;exact⟨⟨_,rfl⟩,_,fK,gU⟩
  ·have Ht:capa=k:=(by omega);have Hq:LB=k:=(by omega);subst Ht;subst Hq;have HCL0:Hid (∀(W:World) (a':Option Addr) (c':Nat),Same w W->Calls Tryz.prog 89 #[.slice a' 0 c'] W λx w'=>∃v',x=.returned v'/\Fresh W w' v' (bs.drop LB)):=hid (λW a' c' hW=>by
    have:=HCL.out W a' c' hW (λhlt=>absurd hlt (Nat.lt_irrefl _));rw[Nat.sub_self]at this;exact this)
   clear HSH Ev HCL;go_enter Tryz.func90,Tryz.ntmps90;go_wp2_with fail;go_region_held3 (λw'=>w'.cell? ⟨h,3,none⟩=some (.slice (some ⟨g,0,none⟩) LB LB)/\w'.cell? ⟨h,4,none⟩=some (.int .i64 (gone:Nat))) (first | (go_split_ands;exact⟨hf1.kept.cell (by assumption) (λf=>f),hf1.kept.cell (by assumption) (λf=>f)⟩) | go_keep)
    (first
     | (go_at_call 89;refine(HCL0.out _ _ _ ((Kept.refl _ w).drew)).mono ?_;rintro x w1 ⟨v1,rfl,hf1⟩))
   all_goals
    have HF1:Hid (Fresh w w1 v1 (bs.drop LB)):=hid ⟨hf1.row,Kept.undrew hf1.kept,hf1.new⟩;have HS1:Hid (Sm w1 h most vl bv (.slice (some ⟨g,0,none⟩) bs.length LB) gone e):=hid (HS.out.sm.kept HF1.out.kept (λf=>f));obtain⟨a1,jb,fv,_⟩:=hf1.row.shape;generalize (bs.drop LB).length=n1 at fv;subst fv;have d0:=HS1.out.cell 0;have d1:=HS1.out.cell 1;have d2:=HS1.out.cell 2;have d3:=HS1.out.cell 3;have d4:=HS1.out.cell 4;have d5:=HS1.out.cell 5;simp at d0 d1 d2 d3 d4 d5;have z0:=HS1.out.frozen 0;have z1:=HS1.out.frozen 1;have z2:=HS1.out.frozen 2;have z3:=HS1.out.frozen 3;have z4:=HS1.out.frozen 4;have z5:=HS1.out.frozen 5;clear hf1 c3 c4;go_wp2_with fail;go_end0;have hks:Kept (·=h) w1 ((((((w1.setCell ⟨h,0,none⟩ (.int .i64 0)).setCell ⟨h,1,none⟩ (.slice none 0 0)).setCell ⟨h,2,none⟩ (.pointer none)).setCell ⟨h,3,none⟩ (.slice a1 n1 jb)).setCell ⟨h,4,none⟩ (.int .i64 0)).setCell ⟨h,5,none⟩ (.int .i64 0)):=((((((Kept.refl (·=h) w1).setCell ⟨h,0,none⟩ _ (.inl rfl)).setCell ⟨h,1,none⟩ _ (.inl rfl)).setCell ⟨h,2,none⟩ _ (.inl rfl)).setCell ⟨h,3,none⟩ _ (.inl rfl)).setCell ⟨h,4,none⟩ _ (.inl rfl)).setCell ⟨h,5,none⟩ _ (.inl rfl);have fK:Sm ((((((w1.setCell ⟨h,0,none⟩ (.int .i64 0)).setCell ⟨h,1,none⟩ (.slice none 0 0)).setCell ⟨h,2,none⟩ (.pointer none)).setCell ⟨h,3,none⟩ (.slice a1 n1 jb)).setCell ⟨h,4,none⟩ (.int .i64 0)).setCell ⟨h,5,none⟩ (.int .i64 0)) h 0 (.slice none 0 0) (.pointer none) (.slice a1 n1 jb) 0 0:=(by have:=(((((HS1.out.set 0 (.int .i64 0)).set 1 (.slice none 0 0)).set 2 (.pointer none)).set 3 (.slice a1 n1 jb)).set 4 (.int .i64 0)).set 5 (.int .i64 0);simp at this;exact this);have gU:=HFIN.out w1 _ HF1.out _ hks;exact⟨⟨_,rfl⟩,_,fK,gU⟩
theorem Al(w:World)(ρ:bP)(h most e:Nat)(va:Value)(bs out:List Nat)(gone:Nat)(vl bv:Value)(er:Nat)(M5:er≠0)(Qd:er≠55)(s:SW w ρ h most e va bs out gone vl bv)(ag:bs.length≤2000000):
  Calls Tryz.prog 90 #[.pointer (some ⟨h,0,none⟩),.int .i64 (er:Nat)] w λx w'=>(∃u,x=.returned u)/\∃va',Sm w' h 0 (.slice none 0 0) (.pointer none) (.slice none 0 0) 0 er/\Row w' va' (bs.drop (gone / 8))/\(∀k,va'.ownBlock=some k->w.heap.size<=k)/\Kept (·=h) w w':=by
 obtain⟨aa,capa,At,_⟩:=s.ah.shape;have HS:Hid (SW w ρ h most e va bs out gone vl bv):=s;subst At;have Ir:=s.sm.lt;have c3:=s.sm.cell 3;have c4:=s.sm.cell 4;simp at c3 c4;have HAH:Hid (Row w (.slice aa bs.length capa) bs):=s.ah;obtain⟨LB,lA⟩:∃L,L=bs.length:=⟨_,rfl⟩
 rw[<-lA]at c3 ag;obtain⟨k,hk⟩:∃k,k=gone / 8:=⟨_,rfl⟩
 have Kd:(gone:Int) / 8=(k:Int):=by omega
 have xU:k<=LB:=by have:=s.gl;omega
 have cj:LB<=capa:=by
  rcases s.ah.2 with⟨e1,_⟩ | ⟨g,cp,cur,e1,_,_,md,_⟩
  ·simp only[Value.slice.injEq]at e1;omega
  ·simp only[Value.slice.injEq]at e1;omega
 have HCL:Hid (∀(W:World) (a':Option Addr) (c':Nat),Same w W->(k<LB->∃g,aa=some ⟨g,0,none⟩/\a'=some ⟨g,k,none⟩)->Calls Tryz.prog 89 #[.slice a' (LB-k) c'] W λx w'=>∃v',x=.returned v'/\Fresh W w' v' (bs.drop k)):=hid (λW a' c' hW ha=>by
  have:=gR W (.slice a' (LB-k) c') _ (bs.drop k) (by rw[lA];exact(HAH.out.rest k (by omega) a' c' (by rw[<-lA];exact ha)).kept hW (λ_ _ _ f=>f)) (by rw[List.length_drop];omega);exact this)
 have HK:Hid (k=gone / 8):=hk;have ut:IntKind.i64.wrap (k:Int)=(k:Int):=by rw[IntKind.wrap_i64];omega
 have B9:Int.tdiv (gone:Int) 8=(k:Int):=by rw[HK.out];rfl
 have i1:(0:Int)<=(k:Int):=by omega
 have i2:(k:Int)<=(LB:Int):=by omega
 have i3:(LB:Int)<=(capa:Int):=by omega
 have i4:(k:Int)<=(capa:Int):=by omega
 have Sx:gone<=8*LB:=by have:=s.gl;omega
 have HFIN:Hid (∀(w1:World) (v1:Value),Fresh w w1 v1 (bs.drop k)->∀(w2:World),Kept (·=h) w1 w2->Row w2 v1 (bs.drop (gone / 8))/\(∀k,v1.ownBlock=some k->w.heap.size<=k)/\Kept (·=h) w w2):=hid (λw1 v1 hf w2 hk2=>⟨by
  rw[<-HK.out];exact hf.row.kept hk2 (λj hj e1=>by have:=hf.new j hj;omega),hf.new,Kept.trans hf.kept hk2 (λ_ _ f=>f.elim) (λ_ _ f=>f)⟩)
 have HAA:Hid (k<LB->∃g,aa=some ⟨g,0,none⟩):=hid (λhlt=>by
  rcases s.ah.2 with⟨e1,hn⟩ | ⟨g,cp,cur,e1,_⟩
  ·omega
  ·simp only[Value.slice.injEq]at e1;exact⟨g,e1.1⟩)
 have HLB:Hid (LB=bs.length):=lA;have G1:((er:Int)==0)=false:=by simp;omega
 have Wl:((er:Int)==55)=false:=by simp;omega
 clear s hk lA;have HSH:Hid ((aa=none/\LB=0/\capa=0)\/∃g,aa=some ⟨g,0,none⟩):=hid (by
  rcases HAH.out.2 with⟨e1,hn⟩ | ⟨g,cp,cur,e1,_⟩
  ·simp only[Value.slice.injEq]at e1;exact .inl ⟨e1.1,by have:=HLB.out;omega,e1.2.2⟩
  ·simp only[Value.slice.injEq]at e1;exact .inr ⟨g,e1.1⟩)
 rcases HSH.out with⟨rfl,rfl,rfl⟩ | ⟨g,rfl⟩
 ·have hk0:k=0:=(by omega);subst hk0;have t0:Int.tdiv (gone:Int) 8=0:=B9;have t1:(gone:Int) / 8=0:=Kd;have t2:IntKind.i64.wrap 0=0:=(by decide);clear HSH i1 i2 i3 i4 cj xU ut B9 Kd;go_enter Tryz.func90,Tryz.ntmps90;go_wp2_with fail;go_region_held3 (λw'=>w'.cell? ⟨h,3,none⟩=some (.slice none 0 0)/\w'.cell? ⟨h,4,none⟩=some (.int .i64 (gone:Nat))) (first | (go_split_ands;exact⟨hf1.kept.cell (by assumption) (λf=>f),hf1.kept.cell (by assumption) (λf=>f)⟩) | go_keep)
   (first
    | (go_at_call 89;refine(HCL.out _ _ _ ((Kept.refl _ w).drew) ?_).mono ?_;exact λhlt=>absurd hlt (by omega);rintro x w1 ⟨v1,rfl,hf1⟩))
  all_goals
   have HF1:Hid (Fresh w w1 v1 (bs.drop 0)):=hid ⟨hf1.row,Kept.undrew hf1.kept,hf1.new⟩;have HS1:Hid (Sm w1 h most vl bv (.slice none bs.length 0) gone e):=hid (HS.out.sm.kept HF1.out.kept (λf=>f));obtain⟨a1,jb,fv,_⟩:=hf1.row.shape;generalize (bs.drop 0).length=n1 at fv;subst fv;have d0:=HS1.out.cell 0;have d1:=HS1.out.cell 1;have d2:=HS1.out.cell 2;have d3:=HS1.out.cell 3;have d4:=HS1.out.cell 4;have d5:=HS1.out.cell 5;simp at d0 d1 d2 d3 d4 d5;have z0:=HS1.out.frozen 0;have z1:=HS1.out.frozen 1;have z2:=HS1.out.frozen 2;have z3:=HS1.out.frozen 3;have z4:=HS1.out.frozen 4;have z5:=HS1.out.frozen 5;clear hf1 c3 c4;go_wp2_with fail;go_end0;have hks:Kept (·=h) w1 ((((((w1.setCell ⟨h,0,none⟩ (.int .i64 0)).setCell ⟨h,1,none⟩ (.slice none 0 0)).setCell ⟨h,2,none⟩ (.pointer none)).setCell ⟨h,3,none⟩ (.slice none 0 0)).setCell ⟨h,4,none⟩ (.int .i64 0)).setCell ⟨h,5,none⟩ (.int .i64 (er:Nat))):=((((((Kept.refl (·=h) w1).setCell ⟨h,0,none⟩ _ (.inl rfl)).setCell ⟨h,1,none⟩ _ (.inl rfl)).setCell ⟨h,2,none⟩ _ (.inl rfl)).setCell ⟨h,3,none⟩ _ (.inl rfl)).setCell ⟨h,4,none⟩ _ (.inl rfl)).setCell ⟨h,5,none⟩ _ (.inl rfl);have fK:Sm ((((((w1.setCell ⟨h,0,none⟩ (.int .i64 0)).setCell ⟨h,1,none⟩ (.slice none 0 0)).setCell ⟨h,2,none⟩ (.pointer none)).setCell ⟨h,3,none⟩ (.slice none 0 0)).setCell ⟨h,4,none⟩ (.int .i64 0)).setCell ⟨h,5,none⟩ (.int .i64 (er:Nat))) h 0 (.slice none 0 0) (.pointer none) (.slice none 0 0) 0 er:=(by have:=(((((HS1.out.set 0 (.int .i64 0)).set 1 (.slice none 0 0)).set 2 (.pointer none)).set 3 (.slice none 0 0)).set 4 (.int .i64 0)).set 5 (.int .i64 (er:Nat));simp at this;exact this);have gU:=HFIN.out w1 _ HF1.out _ hks;exact⟨⟨_,rfl⟩,_,fK,gU⟩
 ·by_cases Ev:k<capa
  ·have j1:(k:Int)<(capa:Int):=(by omega);have j2:¬capa=k:=(by omega);have j3:¬capa-k=0:=(by omega);have j5:¬k=capa:=(by omega);have j4:¬((capa:Int)-(k:Int)=0):=(by omega);clear HSH;go_enter Tryz.func90,Tryz.ntmps90;go_wp2_with fail;go_region_held3 (λw'=>w'.cell? ⟨h,3,none⟩=some (.slice (some ⟨g,0,none⟩) LB capa)/\w'.cell? ⟨h,4,none⟩=some (.int .i64 (gone:Nat))) (first | (go_split_ands;exact⟨hf1.kept.cell (by assumption) (λf=>f),hf1.kept.cell (by assumption) (λf=>f)⟩) | go_keep)
    (first
     | (go_at_call 89;refine(HCL.out _ _ _ ((Kept.refl _ w).drew) ?_).mono ?_;exact λ_=>⟨g,rfl,rfl⟩;rintro x w1 ⟨v1,rfl,hf1⟩))
   all_goals
    have HF1:Hid (Fresh w w1 v1 (bs.drop k)):=hid ⟨hf1.row,Kept.undrew hf1.kept,hf1.new⟩;have HS1:Hid (Sm w1 h most vl bv (.slice (some ⟨g,0,none⟩) bs.length capa) gone e):=hid (HS.out.sm.kept HF1.out.kept (λf=>f));obtain⟨a1,jb,fv,_⟩:=hf1.row.shape;generalize (bs.drop k).length=n1 at fv;subst fv;have d0:=HS1.out.cell 0;have d1:=HS1.out.cell 1;have d2:=HS1.out.cell 2;have d3:=HS1.out.cell 3;have d4:=HS1.out.cell 4;have d5:=HS1.out.cell 5;simp at d0 d1 d2 d3 d4 d5;have z0:=HS1.out.frozen 0;have z1:=HS1.out.frozen 1;have z2:=HS1.out.frozen 2;have z3:=HS1.out.frozen 3;have z4:=HS1.out.frozen 4;have z5:=HS1.out.frozen 5;clear hf1 c3 c4;go_wp2_with fail;go_end0;have hks:Kept (·=h) w1 ((((((w1.setCell ⟨h,0,none⟩ (.int .i64 0)).setCell ⟨h,1,none⟩ (.slice none 0 0)).setCell ⟨h,2,none⟩ (.pointer none)).setCell ⟨h,3,none⟩ (.slice none 0 0)).setCell ⟨h,4,none⟩ (.int .i64 0)).setCell ⟨h,5,none⟩ (.int .i64 (er:Nat))):=((((((Kept.refl (·=h) w1).setCell ⟨h,0,none⟩ _ (.inl rfl)).setCell ⟨h,1,none⟩ _ (.inl rfl)).setCell ⟨h,2,none⟩ _ (.inl rfl)).setCell ⟨h,3,none⟩ _ (.inl rfl)).setCell ⟨h,4,none⟩ _ (.inl rfl)).setCell ⟨h,5,none⟩ _ (.inl rfl);have fK:Sm ((((((w1.setCell ⟨h,0,none⟩ (.int .i64 0)).setCell ⟨h,1,none⟩ (.slice none 0 0)).setCell ⟨h,2,none⟩ (.pointer none)).setCell ⟨h,3,none⟩ (.slice none 0 0)).setCell ⟨h,4,none⟩ (.int .i64 0)).setCell ⟨h,5,none⟩ (.int .i64 (er:Nat))) h 0 (.slice none 0 0) (.pointer none) (.slice none 0 0) 0 er:=(by have:=(((((HS1.out.set 0 (.int .i64 0)).set 1 (.slice none 0 0)).set 2 (.pointer none)).set 3 (.slice none 0 0)).set 4 (.int .i64 0)).set 5 (.int .i64 (er:Nat));simp at this;exact this);have gU:=HFIN.out w1 _ HF1.out _ hks;exact⟨⟨_,rfl⟩,_,fK,gU⟩
  ·have Ht:capa=k:=(by omega);have Hq:LB=k:=(by omega);subst Ht;subst Hq;have HCL0:Hid (∀(W:World) (a':Option Addr) (c':Nat),Same w W->Calls Tryz.prog 89 #[.slice a' 0 c'] W λx w'=>∃v',x=.returned v'/\Fresh W w' v' (bs.drop LB)):=hid (λW a' c' hW=>by
    have:=HCL.out W a' c' hW (λhlt=>absurd hlt (Nat.lt_irrefl _));rw[Nat.sub_self]at this;exact this)
   clear HSH Ev HCL;go_enter Tryz.func90,Tryz.ntmps90;go_wp2_with fail;go_region_held3 (λw'=>w'.cell? ⟨h,3,none⟩=some (.slice (some ⟨g,0,none⟩) LB LB)/\w'.cell? ⟨h,4,none⟩=some (.int .i64 (gone:Nat))) (first | (go_split_ands;exact⟨hf1.kept.cell (by assumption) (λf=>f),hf1.kept.cell (by assumption) (λf=>f)⟩) | go_keep)
    (first
     | (go_at_call 89;refine(HCL0.out _ _ _ ((Kept.refl _ w).drew)).mono ?_;rintro x w1 ⟨v1,rfl,hf1⟩))
   all_goals
    have HF1:Hid (Fresh w w1 v1 (bs.drop LB)):=hid ⟨hf1.row,Kept.undrew hf1.kept,hf1.new⟩;have HS1:Hid (Sm w1 h most vl bv (.slice (some ⟨g,0,none⟩) bs.length LB) gone e):=hid (HS.out.sm.kept HF1.out.kept (λf=>f));obtain⟨a1,jb,fv,_⟩:=hf1.row.shape;generalize (bs.drop LB).length=n1 at fv;subst fv;have d0:=HS1.out.cell 0;have d1:=HS1.out.cell 1;have d2:=HS1.out.cell 2;have d3:=HS1.out.cell 3;have d4:=HS1.out.cell 4;have d5:=HS1.out.cell 5;simp at d0 d1 d2 d3 d4 d5;have z0:=HS1.out.frozen 0;have z1:=HS1.out.frozen 1;have z2:=HS1.out.frozen 2;have z3:=HS1.out.frozen 3;have z4:=HS1.out.frozen 4;have z5:=HS1.out.frozen 5;clear hf1 c3 c4;go_wp2_with fail;go_end0;have hks:Kept (·=h) w1 ((((((w1.setCell ⟨h,0,none⟩ (.int .i64 0)).setCell ⟨h,1,none⟩ (.slice none 0 0)).setCell ⟨h,2,none⟩ (.pointer none)).setCell ⟨h,3,none⟩ (.slice none 0 0)).setCell ⟨h,4,none⟩ (.int .i64 0)).setCell ⟨h,5,none⟩ (.int .i64 (er:Nat))):=((((((Kept.refl (·=h) w1).setCell ⟨h,0,none⟩ _ (.inl rfl)).setCell ⟨h,1,none⟩ _ (.inl rfl)).setCell ⟨h,2,none⟩ _ (.inl rfl)).setCell ⟨h,3,none⟩ _ (.inl rfl)).setCell ⟨h,4,none⟩ _ (.inl rfl)).setCell ⟨h,5,none⟩ _ (.inl rfl);have fK:Sm ((((((w1.setCell ⟨h,0,none⟩ (.int .i64 0)).setCell ⟨h,1,none⟩ (.slice none 0 0)).setCell ⟨h,2,none⟩ (.pointer none)).setCell ⟨h,3,none⟩ (.slice none 0 0)).setCell ⟨h,4,none⟩ (.int .i64 0)).setCell ⟨h,5,none⟩ (.int .i64 (er:Nat))) h 0 (.slice none 0 0) (.pointer none) (.slice none 0 0) 0 er:=(by have:=(((((HS1.out.set 0 (.int .i64 0)).set 1 (.slice none 0 0)).set 2 (.pointer none)).set 3 (.slice none 0 0)).set 4 (.int .i64 0)).set 5 (.int .i64 (er:Nat));simp at this;exact this);have gU:=HFIN.out w1 _ HF1.out _ hks;exact⟨⟨_,rfl⟩,_,fK,gU⟩
theorem DV(w:World)(h most:Nat)(vl bv va:Value)(gone e:Nat)(hs:Sm w h most vl bv va gone e):Calls Tryz.prog 87 #[.pointer (some ⟨h,0,none⟩)] w λx w'=>x=.returned (.bool (e==0))/\∃m,w'=w.drewN m:=by
 have c5:w.cell? ⟨h,5,none⟩=some (.int .i64 (e:Nat)):=hs.cell 5;have hE:((e:Int)==0)=(e==0):=by rw[Bool.eq_iff_iff];simp
 generalize (e==0)=eb at hE;clear hs;go_enter Tryz.func87,Tryz.ntmps87;go_wp2_with fail;go_ret;exact⟨rfl,0,rfl⟩
theorem lD(w:World)(h most:Nat)(vl bv va:Value)(gone e:Nat)(hs:Sm w h most vl bv va gone e):Calls Tryz.prog 63 #[.pointer (some ⟨h,0,none⟩)] w λx w'=>x=.returned (.int .i64 (e:Nat))/\w'=w:=by have c5:w.cell? ⟨h,5,none⟩=some (.int .i64 (e:Nat)):=hs.cell 5;clear hs;go_enter Tryz.func63,Tryz.ntmps63;go_wp2_with fail;go_ret;exact⟨rfl,rfl⟩
theorem zR(w:World)(m:Nat)(h:m<=16384):Calls Tryz.prog 61 #[.int .i64 (m:Nat)] w λx w'=>x=.returned (.tuple #[.pointer (some ⟨w.heap.size,0,none⟩),.int .i64 0])/\Sm w' w.heap.size m (.slice none 0 0) (.pointer none) (.slice none 0 0) 0 55/\Same w w':=by
 have h0:¬(m:Int)<0:=by omega
 have h1:¬(16384:Int)<(m:Int):=by omega
 go_enter Tryz.func61,Tryz.ntmps61;go_wp2_with fail;go_ret2;exact⟨rfl,Blk.new w _ _,(Kept.refl _ w).alloc _⟩
def iD(n:Nat):Prop:=n=1\/n=2\/n=3\/n=9
theorem SI.fed{w w1:World}{ρ:bP}{h most e:Nat}{va va1:Value}{bs cs:List Nat}{cur:Ps}{vl bv:Value}(s:SI w ρ h most e va bs cur vl bv)(hn:∀j,ρ j=0∨dg (ρ j))(hk:Kept (fun j=>va.ownBlock=some j) w w1)(hrow:Row w1 va1 (bs++cs))(Hv:va1.ownBlock=va.ownBlock∨va1.ownBlock=some w.heap.size)(hb:∀b∈cs,b<256):
  ∃ρ',SI (w1.setCell ⟨h,3,none⟩ va1) ρ' h most e va1 (bs++cs) cur vl bv/\(∀j,ρ' j=0\/dg (ρ' j))/\(∀j,j<w.heap.size->ρ' j=ρ j)/\Kept (λj=>iD (ρ j)) w (w1.setCell ⟨h,3,none⟩ va1):=by
 obtain⟨ρ',hρ⟩:∃ρ':bP,ρ'=λj=>if va1.ownBlock=some j then 9 else ρ j:=⟨_,rfl⟩
 have hold:∀j,j<w.heap.size->ρ' j=ρ j:=λj hj=>by
  rw[hρ];simp only;by_cases hv:va1.ownBlock=some j
  ·rw[if_pos hv];rcases Hv with e1 | e1
   ·rw[e1]at hv;exact(s.r9 j hv).symm
   ·rw[e1]at hv;injection hv with hv;omega
  ·rw[if_neg hv]
 have h9:∀j,va1.ownBlock=some j->ρ' j=9:=λj hj=>by rw[hρ];simp only;rw[if_pos hj]
 have hks:Kept (·=h) w1 (w1.setCell ⟨h,3,none⟩ va1):=(Kept.refl (·=h) w1).setCell ⟨h,3,none⟩ _ (.inl rfl);have hk2:Kept (λj=>va.ownBlock=some j\/j=h) w (w1.setCell ⟨h,3,none⟩ va1):=Kept.trans hk hks (λ_ _ f=>.inl f) (λ_ _ f=>.inr f);have nf:∀j,ρ j≠9->ρ j≠1->¬(va.ownBlock=some j\/j=h):=λj h9 h1 f=>by
  rcases f with f | rfl
  ·exact h9 (s.r9 j f)
  ·exact h1 s.r1
 have hsm1:Sm w1 h most vl bv va cur.c e:=s.sm.kept hk (λf=>by have:=s.r9 h f;rw[s.r1]at this;cases this);have rK:∀j,ρ j≠0->ρ' j=ρ j:=λj hj=>hold j (s.lt j hj)
 refine⟨ρ',⟨?_,s.row.kept hk2 (λj hj=>nf j (by have:=s.r2 j hj;omega) (by have:=s.r2 j hj;omega)),s.ol,s.mo,(s.bk.kept hk2 (λj hj=>nf j (by omega) (by omega))).turn rK,⟨by rw[jQ,List.length_append];have:=s.ok.le;omega,s.ok.bk⟩,hrow.kept hks (λj hj e1=>?_),?_,s.tab.kept hk2 (nf _ (by have:=s.r10;omega) (by have:=s.r10;omega)),?_,λk hk=>?_,h9,?_,λj hj=>?_⟩,λj=>?_,hold,hk2.mono (λj _ f=>?_)⟩
 ·have:=hsm1.set 3 va1;simpa using this
 ·rw[e1]at hj;have h1:=h9 h hj;rw[rK h (by rw[s.r1];decide),s.r1]at h1;cases h1
 ·intro b nj;rcases List.mem_append.1 nj with nj | nj
  ·exact s.by' b nj
  ·exact hb b nj
 ·rw[rK h (by rw[s.r1];decide)];exact s.r1
 ·have:=s.r2 k hk;rw[rK k (by omega)];exact this
 ·have:=s.r10;rw[rK _ (by omega)];exact this
 ·by_cases hv:va1.ownBlock=some j
  ·exact Nat.lt_of_lt_of_le (hrow.lt hv) hks.size
  ·rw[hρ]at hj;simp only at hj;rw[if_neg hv]at hj;exact Nat.lt_of_lt_of_le (s.lt j hj) hk2.size
 ·rw[hρ];simp only;by_cases hv:va1.ownBlock=some j
  ·rw[if_pos hv];exact .inr (by unfold dg;omega)
  ·rw[if_neg hv];exact hn j
 ·rcases f with f | rfl
  ·have:=s.r9 j f;unfold iD;omega
  ·exact .inl s.r1
theorem SW.same{w w':World}{ρ:bP}{h most e:Nat}{va:Value}{bs out:List Nat}{gone:Nat}{vl bv:Value}(s:SW w ρ h most e va bs out gone vl bv)(hk:Same w w'):SW w' ρ h most e va bs out gone vl bv:=
 ⟨s.sm.kept hk (λf=>f),s.row.kept hk (λ_ _ f=>f),s.ah.kept hk (λ_ _ f=>f),s.by',s.gl,s.ol,s.tab.kept hk (λf=>f),s.r1,s.r2,s.r9,s.r10,λj hj=>Nat.lt_of_lt_of_le (s.lt j hj) hk.size⟩
theorem SI.let'{w w1:World}{ρ:bP}{h most e:Nat}{va va1:Value}{bs:List Nat}{t:Ps}{vl bv:Value}(s:SI w ρ h most e va bs t vl bv)(hn:∀j,ρ j=0∨dg (ρ j))(fK:Sm w1 h most vl bv va1 (t.c % 8) e)(hrow:Row w1 va1 (bs.drop (t.c / 8)))(l7:∀k,va1.ownBlock=some k→w.heap.size≤k)(hk:Kept (·=h) w w1):
  ∃ρ',SI w1 ρ' h most e va1 (bs.drop (t.c / 8)) ⟨t.c % 8,t.out,t.bk⟩ vl bv/\(∀j,ρ' j=0\/dg (ρ' j))/\(∀j,j<w.heap.size->ρ' j=ρ j)/\(∀j,w.heap.size<=j->va1.ownBlock≠some j->ρ' j=0):=by
 obtain⟨ρ',hρ⟩:∃ρ':bP,ρ'=λj=>if va1.ownBlock=some j then 9 else ρ j:=⟨_,rfl⟩
 have hold:∀j,j<w.heap.size->ρ' j=ρ j:=λj hj=>by rw[hρ];simp only;rw[if_neg (λhv=>by have:=l7 j hv;omega)]
 have rK:∀j,ρ j≠0->ρ' j=ρ j:=λj hj=>hold j (s.lt j hj)
 have h9:∀j,va1.ownBlock=some j->ρ' j=9:=λj hj=>by rw[hρ];simp only;rw[if_pos hj]
 have nf:∀j,ρ j≠1->¬j=h:=λj h1 e1=>h1 (by rw[e1];exact s.r1)
 have hl:=s.len;refine⟨ρ',⟨fK,s.row.kept hk (λj hj=>nf j (by have:=s.r2 j hj;omega)),s.ol,s.mo,(s.bk.kept hk (λj hj=>nf j (by omega))).turn rK,⟨by rw[aq,List.length_drop];show t.c % 8<=_;omega,s.ok.bk⟩,hrow,λb hb=>s.by' b (List.mem_of_mem_drop hb),s.tab.kept hk (nf _ (by have:=s.r10;omega)),?_,λk hk2=>?_,h9,?_,λj hj=>?_⟩,λj=>?_,hold,λj hj hv=>?_⟩
 ·rw[rK h (by rw[s.r1];decide)];exact s.r1
 ·have:=s.r2 k hk2;rw[rK k (by omega)];exact this
 ·have:=s.r10;rw[rK _ (by omega)];exact this
 ·by_cases hv:va1.ownBlock=some j
  ·exact hrow.lt hv
  ·rw[hρ]at hj;simp only at hj;rw[if_neg hv]at hj;exact Nat.lt_of_lt_of_le (s.lt j hj) hk.size
 ·rw[hρ];simp only;by_cases hv:va1.ownBlock=some j
  ·rw[if_pos hv];exact .inr (by unfold dg;omega)
  ·rw[if_neg hv];exact hn j
 ·rw[hρ];simp only;rw[if_neg hv];refine Classical.byContradiction (λhc=>?_);have:=s.lt j hc;omega
inductive Nq(w w':World)(ρ:bP)(h most:Nat)(al:List Nat)(cur:Ps)(x:Ending):Prop
 | done (t:Ps) (v' va':Value) (he:Ends (ae al) most cur t 0) (hx:x=.returned (.tuple #[v',.int .i64 0])) (hr:Row w' v' (t.out.drop cur.out.length)) (hv:∀k,v'.ownBlock=some k->w.heap.size<=k) (hs:Sm w' h 0 (.slice none 0 0) (.pointer none) va' 0 0) (ha:Row w' va' (al.drop ((t.c+7) / 8))) (T9:∀k,va'.ownBlock=some k->w.heap.size<=k/\v'.ownBlock≠some k) (Au:v'.ownBlock≠some h) (hk:Kept (λj=>iD (ρ j)) w w') (hw:Whole w' v')
 | wait (t:Ps) (v' va':Value) (ρ':bP) (vl bv:Value) (he:Ends (ae al) most cur t 55) (hx:x=.returned (.tuple #[v',.int .i64 0])) (hr:Row w' v' (t.out.drop cur.out.length)) (hv:∀k,v'.ownBlock=some k->w.heap.size<=k/\ρ' k=0) (hs:SI w' ρ' h most 55 va' (al.drop (t.c / 8)) ⟨t.c % 8,t.out,t.bk⟩ vl bv) (hn:∀j,ρ' j=0\/dg (ρ' j)) (ho:∀j,j<w.heap.size->ρ' j=ρ j) (hk:Kept (λj=>iD (ρ j)) w w')
 | fail (t:Ps) (er:Nat) (he:Ends (ae al) most cur t er) (h0:er≠0) (h5:er≠55) (hx:x=.returned (.tuple #[.slice none 0 0,.int .i64 (er:Nat)])) (hs:Sm w' h 0 (.slice none 0 0) (.pointer none) (.slice none 0 0) 0 er) (hk:Kept (λj=>iD (ρ j)) w w')
theorem Ae(w:World)(ρ:bP)(ob most:Nat)(va:Value)(bs:List Nat)(cur:Ps)(vl bv:Value)(hs:SI w ρ ob most 55 va bs cur vl bv)(hn:∀j,ρ j=0∨dg (ρ j))(h7:cur.c≤7)(v:Value)(I:Nat→Prop)(cs:List Nat)(hv:Src w I v cs)(hb:∀b∈cs,b<256)(fh:∀n c,v=.slice none n c→n=0∧c=0)(ag:bs.length+cs.length≤2000000):
  Calls Tryz.prog 62 #[.pointer (some ⟨ob,0,none⟩),v] w λx w'=>Nq w w' ρ ob most (bs++cs) cur x:=by
 obtain⟨aa,capa,At,_⟩:=hs.ah.shape;subst At;obtain⟨al,cl,IB,_⟩:=hs.row.shape;have HD:=DV w ob most vl bv _ cur.c 55 hs.sm;have c5:w.cell? ⟨ob,5,none⟩=some (.int .i64 55):=hs.sm.cell 5;have HS:Hid (SI w ρ ob most 55 (.slice aa bs.length capa) bs cur vl bv):=hs;have HV:Hid (Src w I v cs):=hv;have HNIL:Hid (∀n c,v=.slice none n c->n=0/\c=0):=fh;obtain⟨av,cv,Ar,_⟩:=id hv;obtain⟨nv,Em⟩:∃n,n=cs.length:=⟨_,rfl⟩
 rw[<-Em]at Ar;subst Ar;have c1:w.cell? ⟨ob,1,none⟩=some vl:=hs.sm.cell 1;obtain⟨ML,QU⟩:∃M,M=cur.out.length:=⟨_,rfl⟩
 rw[<-QU]at IB;subst IB;have c3:w.cell? ⟨ob,3,none⟩=some (.slice aa bs.length capa):=hs.sm.cell 3;have HML:Hid (ML=cur.out.length):=QU;have HN:Hid (∀j,ρ j=0\/dg (ρ j)):=hn;have HB:Hid (∀b∈cs,b<256):=hb;have HLEN:Hid (bs.length+cs.length<=2000000):=ag;have HLB:Hid (bs.length+cs.length<=1000000000000):=hid (by omega);obtain⟨LB,lA⟩:∃L,L=bs.length:=⟨_,rfl⟩
 rw[<-lA]at c3;have HLL:Hid (LB=bs.length):=lA;have HROW:Hid (Row w (.slice aa LB capa) bs):=hid (by rw[lA];exact hs.ah);clear hs hv fh hb hn Em ag QU lA;go_enter Tryz.func62,Tryz.ntmps62;go_wp2_with fail;refine HD.mono ?_;rintro x w1 ⟨rfl,m1,hw1⟩;have HK1:Hid (Same w w1):=hid (by rw[hw1];exact(Kept.refl _ w).drewN m1);have HSZ1:Hid (w1.heap.size=w.heap.size):=hid (by rw[hw1];rfl);have HS1:Hid (SI w1 ρ ob most 55 (.slice aa bs.length capa) bs cur (.slice al ML cl) bv):=hid (HS.out.kept HK1.out (λ_ _ f=>f));have b5:w1.cell? ⟨ob,5,none⟩=some (.int .i64 55):=HK1.out.cell c5 (λf=>f);have b1:w1.cell? ⟨ob,1,none⟩=some (.slice al ML cl):=HK1.out.cell c1 (λf=>f);have b3:w1.cell? ⟨ob,3,none⟩=some (.slice aa LB capa):=HK1.out.cell c3 (λf=>f);have HROW1:Hid (Row w1 (.slice aa LB capa) bs):=hid (HROW.out.kept HK1.out (λ_ _ f=>f));have HV1:Hid (Src w1 I (.slice av nv cv) cs):=hid (HV.out.kept HK1.out (λ_ _ _ f=>f));clear hw1 HD c1 c3 c5 HS HROW HV;simp only[show((55:Nat)==0)=false from by decide];go_wp2_with (at_builtin;refine bE _ rfl (.tmp 43) (.tmp 44) rfl (.slice aa LB capa) bs rfl HROW1.out I (.slice av nv cv) cs rfl HNIL.out HV1.out HLB.out ?_);intro v2 w2 hr2 td Mo;have hk12:Kept (λj=>(Value.slice aa LB capa).ownBlock=some j) w1 w2:=(Kept.refl _ w1).grown td (λj e=>.inl e);have HOB:Hid ((Value.slice aa LB capa).ownBlock=(Value.slice aa bs.length capa).ownBlock):=hid (by rw[HLL.out]);have Hw:Kept (λj=>(Value.slice aa bs.length capa).ownBlock=some j) w1 w2:=hk12.mono (λj _ f=>by rw[<-HOB.out];exact f);have HSM2:Hid (Sm w2 ob most (.slice al ML cl) bv (.slice aa bs.length capa) cur.c 55):=hid (HS1.out.sm.kept Hw (λf=>by have:=HS1.out.r9 ob f;rw[HS1.out.r1]at this;cases this));have d3:w2.cell? ⟨ob,3,none⟩=some (.slice aa bs.length capa):=HSM2.out.cell 3;have z3:w2.frozen? ⟨ob,3,none⟩=false:=HSM2.out.frozen 3;have HFED:Hid (∃ρ',SI (w2.setCell ⟨ob,3,none⟩ v2) ρ' ob most 55 v2 (bs++cs) cur (.slice al ML cl) bv/\(∀j,ρ' j=0\/dg (ρ' j))/\(∀j,j<w1.heap.size->ρ' j=ρ j)/\Kept (λj=>iD (ρ j)) w1 (w2.setCell ⟨ob,3,none⟩ v2)):=hid (HS1.out.fed HN.out Hw hr2 (by rw[<-HOB.out];exact Mo) HB.out);obtain⟨a2,Hx,oe,_⟩:=hr2.shape;generalize (bs++cs).length=n2 at oe;subst oe;obtain⟨W3,PS⟩:∃W,W=w2.setCell ⟨ob,3,none⟩ (.slice a2 n2 Hx):=⟨_,rfl⟩
 rw[<-PS]at HFED;obtain⟨ρ3,NP,hn3,KD,hk3⟩:=HFED.out;have HRD:=DO W3 ρ3 ob most 55 _ (bs++cs) cur _ bv NP hn3 h7 (by rw[List.length_append];exact HLEN.out);have HK3:Hid (Kept (λj=>iD (ρ j)) w W3):=hid (Kept.trans HK1.out hk3 (λ_ _ f=>f.elim) (λ_ _ f=>f));have HOLD3:Hid (∀j,j<w.heap.size->ρ3 j=ρ j):=hid (λj hj=>KD j (by have:=HSZ1.out;omega));have Oe:w.heap.size<=W3.heap.size:=HK3.out.size;clear hr2 td Mo hk12 Hw HFED NP hn3 KD hk3 HSM2;go_wp2_with fail;rw[<-PS];clear PS;refine HRD.mono ?_;rintro x w4 ⟨er,t,ρ4,Uw,P9,out,gone,rfl,hrd⟩;have HRP:Hid (Nj W3 w4 ρ3 ob most 55 (.slice a2 n2 Hx) (bs++cs) cur er t ρ4 Uw P9 out gone):=hrd;obtain⟨a4,c4,IA,_⟩:=hrd.sw.row.shape;obtain⟨L4,ME⟩:∃L,L=out.length:=⟨_,rfl⟩
 rw[<-ME]at IA;subst IA;have e1:w4.cell? ⟨ob,1,none⟩=some (.slice a4 L4 c4):=hrd.sw.sm.cell 1;have Vx:ML<=L4:=by have:=hrd.more;have:=HML.out;omega
 have Uj:L4<=c4:=by
  rcases hrd.sw.row.2 with⟨e1,hn⟩ | ⟨g,cp,cc,e1,_,_,md,_⟩
  ·simp only[Value.slice.injEq]at e1;omega
  ·simp only[Value.slice.injEq]at e1;omega
 have HL4:Hid (L4=out.length):=ME;have HSH:Hid ((a4=none/\L4=0/\c4=0)\/∃g,a4=some ⟨g,0,none⟩):=hid (by
  rcases hrd.sw.row.2 with⟨e1,hn⟩ | ⟨g,cp,cur,e1,_⟩
  ·simp only[Value.slice.injEq]at e1;exact .inl ⟨e1.1,by omega,e1.2.2⟩
  ·simp only[Value.slice.injEq]at e1;exact .inr ⟨g,e1.1⟩)
 have J4:Kept (λj=>iD (ρ j)) w w4:=Kept.trans HK3.out hrd.kp (λ_ _ f=>f) (λj hj f=>by
  have:=HOLD3.out j hj;unfold iD;omega)
 have HKN:Hid (Kept (λj=>iD (ρ j)) w w4):=J4;have HCL:Hid (∀(W:World) (a':Option Addr) (c':Nat),Same w4 W->(ML<L4->∃g,a4=some ⟨g,0,none⟩/\a'=some ⟨g,ML,none⟩)->Calls Tryz.prog 89 #[.slice a' (L4-ML) c'] W λx w'=>∃v',x=.returned v'/\Fresh W w' v' (out.drop ML)/\Whole w' v'):=hid (λW a' c' hW ha=>by
  have hr:=HRP.out.sw.row;have hr2:Row w4 (.slice a4 out.length c4) out:=(by rw[<-ME];exact hr);exact tG W (.slice a' (L4-ML) c') _ (out.drop ML) (by rw[ME];exact(hr2.rest ML (by omega) a' c' (by rw[<-ME];exact ha)).kept hW (λ_ _ _ f=>f)) (by
   rw[List.length_drop];have:=HRP.out.sw.ol;omega))
 clear hrd J4 HRD ME;have i1:(0:Int)<=(ML:Int):=by omega
 have i2:(ML:Int)<=(L4:Int):=by omega
 have i3:(L4:Int)<=(c4:Int):=by omega
 have i4:(ML:Int)<=(c4:Int):=by omega
 by_cases M5:er=0
 ·subst M5;go_wp2_with fail
  all_goals
   refine(HCL.out _ _ _ (Kept.refl _ _) ?_).mono ?_
   ·intro hlt;rcases HSH.out with⟨_,h0,_⟩ | ⟨g,hg⟩
    ·omega
    ·refine⟨g,hg,?_⟩
     first
      | (rw[hg];simp[cL];done)
      | (exfalso;omega)
   rintro x w5 ⟨v5,rfl,hf5,l5⟩;have HW5:Hid (Whole w5 v5):=l5;clear l5;have HF5:Hid (Fresh w4 w5 v5 (out.drop ML)):=hf5;have HKP:=yU w5 ρ4 ob most 55 _ (bs++cs) out gone _ P9 (HRP.out.sw.same hf5.kept) (by rw[List.length_append];exact HLEN.out);have HH4:Hid (ob<w4.heap.size):=hid HRP.out.sw.sm.lt;obtain⟨a5,jG,fJ,_⟩:=hf5.row.shape;generalize (out.drop ML).length=n5 at fJ;subst fJ;clear hf5;go_wp2_with fail;refine HKP.mono ?_;rintro x w6 ⟨⟨u6,rfl⟩,JZ,hsm6,hrow6,hnew6,hk6⟩;have oK:∀k,(Value.slice a5 n5 jG).ownBlock=some k->w4.heap.size<=k:=HF5.out.new;have Au:(Value.slice a5 n5 jG).ownBlock≠some ob:=λe9=>by have:=oK ob e9;have:=HH4.out;omega
   have HKA:Hid (Kept (λj=>iD (ρ j)) w w6):=hid (Kept.trans (Kept.trans (H:=λj=>iD (ρ j)) HKN.out HF5.out.kept (λ_ _ f=>f) (λ_ _ f=>f.elim)) hk6 (λ_ _ f=>f) (λj _ e9=>by rw[e9];exact .inl HS1.out.r1));have HRW:Hid (Row w6 (.slice a5 n5 jG) (out.drop ML)):=hid (HF5.out.row.kept hk6 (λk e9 e8=>Au (by rw[<-e8];exact e9)));have HWH:Hid (Whole w6 (.slice a5 n5 jG)):=hid (HW5.out.kept hk6 (λk e9 e8=>Au (by rw[<-e8];exact e9)));have HVH:Hid ((Value.slice a5 n5 jG).ownBlock≠some ob):=Au;have HV6:Hid (∀k,(Value.slice a5 n5 jG).ownBlock=some k->w4.heap.size<=k/\k<w5.heap.size):=hid (λk e9=>⟨oK k e9,HF5.out.row.lt e9⟩);have HSM6:=hid hsm6;have HRO6:=hid hrow6;have HNE6:=hid hnew6;have HKE6:=hid hk6;clear hsm6 hrow6 hnew6 hk6 oK Au HKP;go_wp2_with fail;go_ret2;have on:w.heap.size<=w4.heap.size:=HKN.out.size;have KF:w4.heap.size<=w5.heap.size:=HF5.out.kept.size;obtain⟨rfl,rfl⟩:=HRP.out.done rfl;have eg:(t.c+7) / 8*8 / 8=(t.c+7) / 8:=(by omega);refine .done t _ JZ HRP.out.ends rfl (by rw[<-HML.out];exact HRW.out) (λk e9=>by have:=HV6.out k e9;omega) HSM6.out (by rw[<-eg];exact HRO6.out) (λk e9=>⟨by have:=HNE6.out k e9;omega,λe8=>by have:=HV6.out k e8;have:=HNE6.out k e9;omega⟩) HVH.out HKA.out HWH.out
 ·by_cases Qd:er=55
  ·subst Qd;clear M5;go_wp2_with fail
   all_goals
    refine(HCL.out _ _ _ (Kept.refl _ _) ?_).mono ?_
    ·intro hlt;rcases HSH.out with⟨_,h0,_⟩ | ⟨g,hg⟩
     ·omega
     ·refine⟨g,hg,?_⟩
      first
       | (rw[hg];simp[cL];done)
       | (exfalso;omega)
    rintro x w5 ⟨v5,rfl,hf5,_⟩;have HF5:Hid (Fresh w4 w5 v5 (out.drop ML)):=hf5;have HKP:=Ak w5 ρ4 ob most 55 _ (bs++cs) out gone _ P9 (HRP.out.sw.same hf5.kept) (by rw[List.length_append];exact HLEN.out);have HH4:Hid (ob<w4.heap.size):=hid HRP.out.sw.sm.lt;obtain⟨a5,jG,fJ,_⟩:=hf5.row.shape;generalize (out.drop ML).length=n5 at fJ;subst fJ;clear hf5;go_wp2_with fail;refine HKP.mono ?_;rintro x w6 ⟨⟨u6,rfl⟩,JZ,hsm6,hrow6,hnew6,hk6⟩;have oK:∀k,(Value.slice a5 n5 jG).ownBlock=some k->w4.heap.size<=k:=HF5.out.new;have Au:(Value.slice a5 n5 jG).ownBlock≠some ob:=λe9=>by have:=oK ob e9;have:=HH4.out;omega
    have HKA:Hid (Kept (λj=>iD (ρ j)) w w6):=hid (Kept.trans (Kept.trans (H:=λj=>iD (ρ j)) HKN.out HF5.out.kept (λ_ _ f=>f) (λ_ _ f=>f.elim)) hk6 (λ_ _ f=>f) (λj _ e9=>by rw[e9];exact .inl HS1.out.r1));have HRW:Hid (Row w6 (.slice a5 n5 jG) (out.drop ML)):=hid (HF5.out.row.kept hk6 (λk e9 e8=>Au (by rw[<-e8];exact e9)));have HVH:Hid ((Value.slice a5 n5 jG).ownBlock≠some ob):=Au;have HV6:Hid (∀k,(Value.slice a5 n5 jG).ownBlock=some k->w4.heap.size<=k/\k<w5.heap.size):=hid (λk e9=>⟨oK k e9,HF5.out.row.lt e9⟩);have HSM6:=hid hsm6;have HRO6:=hid hrow6;have HNE6:=hid hnew6;have HKE6:=hid hk6;clear hsm6 hrow6 hnew6 hk6 oK Au HKP;go_wp2_with fail;go_ret2;have on:w.heap.size<=w4.heap.size:=HKN.out.size;have KF:w4.heap.size<=w5.heap.size:=HF5.out.kept.size;obtain⟨hsi4,rfl,rfl⟩:=HRP.out.wait rfl;obtain⟨ρ6,h1,h2,h3,_⟩:=SI.let' (hsi4.kept HF5.out.kept (λ_ _ f=>f)) HRP.out.n0 HSM6.out HRO6.out HNE6.out HKE6.out;refine .wait t _ JZ ρ6 _ _ HRP.out.ends rfl (by rw[<-HML.out];exact HRW.out) (λk e9=>⟨by have:=HV6.out k e9;omega,?_⟩) h1 h2 (λj hj=>?_) HKA.out
    ·rw[h3 k (HV6.out k e9).2];refine Classical.byContradiction (λhc=>?_);have:=hsi4.lt k hc;have:=HV6.out k e9;omega
    ·rw[h3 j (by omega),HRP.out.old j (by omega),HOLD3.out j hj]
  ·have HE0:Hid (er≠0):=M5;have HE5:Hid (er≠55):=Qd;have G1:((er:Int) != 0)=true:=(by simp;omega);have Wl:((er:Int) != 55)=true:=(by simp;omega);clear M5 Qd;go_wp2_with fail
   all_goals
    refine(HCL.out _ _ _ (Kept.refl _ _) ?_).mono ?_
    ·intro hlt;rcases HSH.out with⟨_,h0,_⟩ | ⟨g,hg⟩
     ·omega
     ·refine⟨g,hg,?_⟩
      first
       | (rw[hg];simp[cL];done)
       | (exfalso;omega)
    rintro x w5 ⟨v5,rfl,hf5,_⟩;have HF5:Hid (Fresh w4 w5 v5 (out.drop ML)):=hf5;have HKP:=Al w5 ρ4 ob most 55 _ (bs++cs) out gone _ P9 er HE0.out HE5.out (HRP.out.sw.same hf5.kept) (by rw[List.length_append];exact HLEN.out);have HH4:Hid (ob<w4.heap.size):=hid HRP.out.sw.sm.lt;obtain⟨a5,jG,fJ,_⟩:=hf5.row.shape;generalize (out.drop ML).length=n5 at fJ;subst fJ;clear hf5;go_wp2_with fail;refine HKP.mono ?_;rintro x w6 ⟨⟨u6,rfl⟩,JZ,hsm6,hrow6,hnew6,hk6⟩;have oK:∀k,(Value.slice a5 n5 jG).ownBlock=some k->w4.heap.size<=k:=HF5.out.new;have Au:(Value.slice a5 n5 jG).ownBlock≠some ob:=λe9=>by have:=oK ob e9;have:=HH4.out;omega
    have HKA:Hid (Kept (λj=>iD (ρ j)) w w6):=hid (Kept.trans (Kept.trans (H:=λj=>iD (ρ j)) HKN.out HF5.out.kept (λ_ _ f=>f) (λ_ _ f=>f.elim)) hk6 (λ_ _ f=>f) (λj _ e9=>by rw[e9];exact .inl HS1.out.r1));have HRW:Hid (Row w6 (.slice a5 n5 jG) (out.drop ML)):=hid (HF5.out.row.kept hk6 (λk e9 e8=>Au (by rw[<-e8];exact e9)));have HVH:Hid ((Value.slice a5 n5 jG).ownBlock≠some ob):=Au;have HV6:Hid (∀k,(Value.slice a5 n5 jG).ownBlock=some k->w4.heap.size<=k/\k<w5.heap.size):=hid (λk e9=>⟨oK k e9,HF5.out.row.lt e9⟩);have HSM6:=hid hsm6;have HRO6:=hid hrow6;have HNE6:=hid hnew6;have HKE6:=hid hk6;clear hsm6 hrow6 hnew6 hk6 oK Au HKP;go_wp2_with fail;go_ret2;have on:w.heap.size<=w4.heap.size:=HKN.out.size;have KF:w4.heap.size<=w5.heap.size:=HF5.out.kept.size;exact .fail t er HRP.out.ends HE0.out HE5.out rfl HSM6.out HKA.out
theorem Tab.lt{w:World}(h:Tab w):0<w.heap.size:=World.block_lt_of_cell? w _ (h 0 (by decide))
theorem SI.init(w:World)(h most:Nat)(hs:Sm w h most (.slice none 0 0) (.pointer none) (.slice none 0 0) 0 55)(hm:most<=16384)(hT:Tab w)(hh:h≠0):∃ρ:bP,SI w ρ h most 55 (.slice none 0 0) [] ps0 (.slice none 0 0) (.pointer none)/\(∀j,ρ j=0\/dg (ρ j))/\(∀j,iD (ρ j)->j=h)/\(∀j,j≠h->j≠0->ρ j=0):=by
 refine⟨λj=>if j=h then 1 else if j=0 then 10 else 0,⟨hs,World.ownsRow_nil w 0 5 1,Nat.zero_le _,hm,rfl,Gc _,World.ownsRow_nil w 0 5 1,λb hb=>(by simp at hb),hT,if_pos rfl,λk e=>(by cases e),λk e=>(by cases e),?_,λj hj=>?_⟩,λj=>?_,λj hj=>?_,λj h1 h2=>?_⟩
 ·simp only;rw[if_neg (λe=>hh e.symm),if_pos trivial]
 ·by_cases h1:j=h
  ·rw[h1];exact hs.lt
  ·rw[if_neg h1]at hj;by_cases h2:j=0
   ·rw[h2];exact hT.lt
   ·rw[if_neg h2]at hj;exact absurd rfl hj
 ·simp only;by_cases h1:j=h
  ·rw[if_pos h1];exact .inr (.inl rfl)
  ·rw[if_neg h1];by_cases h2:j=0
   ·rw[if_pos h2];exact .inr (by unfold dg;omega)
   ·rw[if_neg h2];exact .inl rfl
 ·simp only at hj;refine Classical.byContradiction (λh1=>?_);rw[if_neg h1]at hj;by_cases h2:j=0
  ·rw[if_pos h2]at hj;unfold iD at hj;omega
  ·rw[if_neg h2]at hj;unfold iD at hj;omega
 ·simp only;rw[if_neg h1,if_neg h2]
inductive Qr(w w':World)(cs:List Nat)(most:Nat)(x:Ending):Prop
 | done (t:Ps) (v':Value) (he:Ends (ae cs) most ps0 t 0) (hx:x=.returned (.tuple #[v',.int .i64 (((t.c+7) / 8:Nat):Int),.int .i64 0])) (hr:Row w' v' t.out) (hv:∀k,v'.ownBlock=some k->w.heap.size<=k) (hk:Same w w') (hw:Whole w' v')
 | fail (t:Ps) (er:Nat) (he:Ends (ae cs) most ps0 t er) (h0:er≠0) (hx:x=.returned (.tuple #[.slice none 0 0,.int .i64 0,.int .i64 (er:Nat)])) (hk:Same w w')
theorem Cu(w:World)(v:Value)(I:Nat→Prop)(cs:List Nat)(most:Nat)(hv:Src w I v cs)(hb:∀b∈cs,b<256)(fh:∀n c,v=.slice none n c→n=0∧c=0)(ag:cs.length≤2000000)(hm:most≤16384)(hT:Tab w):
  Calls Tryz.prog 38 #[v,.int .i64 (most:Nat)] w λx w'=>Qr w w' cs most x:=by
 have HN:=zR w most hm;have HV:Hid (Src w I v cs):=hv;have HB:Hid (∀b∈cs,b<256):=hb;have HNIL:Hid (∀n c,v=.slice none n c->n=0/\c=0):=fh;have HT:Hid (Tab w):=hT;obtain⟨av,cv,Ar,_⟩:=id hv;obtain⟨nv,Em⟩:∃n,n=cs.length:=⟨_,rfl⟩
 rw[<-Em]at Ar;subst Ar;have HNV:Hid (nv=cs.length):=Em;have ri:nv<=2000000:=by omega
 clear hv hb fh hT Em ag;go_enter Tryz.func38,Tryz.ntmps38;go_wp2_with fail;refine HN.mono ?_;rintro x w1 ⟨rfl,hsm1,hk1⟩;have PG:=HT.out.lt;obtain⟨ρ,hsi,m6,h4,_⟩:=SI.init w1 w.heap.size most hsm1 hm (HT.out.kept hk1 (λf=>f)) (by omega);have HF:=Ae w1 ρ w.heap.size most _ [] ps0 _ _ hsi m6 (by decide) (.slice av nv cv) I cs (HV.out.kept hk1 (λ_ _ _ f=>f)) HB.out HNIL.out (by rw[<-HNV.out];simp;omega);have HK1:Hid (Same w w1):=hk1;have H4:Hid (∀j,iD (ρ j)->j=w.heap.size):=h4;clear hsm1 hk1 hsi m6 h4 HN;go_wp2_with fail;refine HF.mono ?_;rintro x w2 hf;have HKK:Hid (∀w3,Kept (λj=>iD (ρ j)) w1 w3->Same w w3):=hid (λw3 hk=>Kept.trans HK1.out hk (λ_ _ f=>f) (λj hj f=>by have:=H4.out j f;omega));rw[List.nil_append]at hf;clear HF;cases hf with
 | done t v' va' he hx hr iF hs ha T9 Au hk hw=>
  subst hx;have HW:Hid (Whole w2 v'):=hw;clear hw;have HC:=lD w2 w.heap.size _ _ _ _ _ _ hs;have c3:=hs.cell 3;simp at c3;obtain⟨a3,Sy,At,_⟩:=ha.shape;obtain⟨n3,hn3⟩:∃n,n=(cs.drop ((t.c+7) / 8)).length:=⟨_,rfl⟩
  rw[<-hn3]at At;subst At;have fq:t.c<=8*cs.length:=by have:=(he.inv (az cs) (Gc _)).1.le;rwa [aq]at this
  obtain⟨q,hq⟩:∃q,q=(t.c+7) / 8:=⟨_,rfl⟩
  have ju:(nv:Int)-(n3:Int)=(q:Int):=(by have:=HNV.out;rw[List.length_drop]at hn3;omega);have XA:IntKind.i64.wrap (q:Int)=(q:Int):=(by rw[IntKind.wrap_i64];omega);have HE:Hid (Ends (ae cs) most ps0 t 0):=he;have HR:Hid (Row w2 v' t.out):=hid (by simpa[ps0]using hr);have HVN:Hid (∀k,v'.ownBlock=some k->w.heap.size<=k):=hid (λk e=>Nat.le_trans HK1.out.size (iF k e));have HK2:Hid (Same w w2):=hid (HKK.out w2 hk);have HQ:Hid (q=(t.c+7) / 8):=hq;obtain⟨a5,jG,fJ,_⟩:=HR.out.shape;generalize t.out.length=n5 at fJ;subst fJ;clear he hr iF hs ha T9 Au hk hq hn3 fq HKK;go_wp2_with fail;refine HC.mono ?_;rintro x w3 ⟨rfl,hw3⟩;subst hw3;clear HC;go_wp2_with fail;go_quiet (fail);go_wp2_with fail;refine bodyPost_ret (v:=.tuple #[.slice a5 n5 jG,.int .i64 (q:Nat),.int .i64 0]) (by simp[results,Tryz.results38,go_sem]) rfl ?_;exact .done t _ HE.out (by rw[<-HQ.out]) (HR.out.kept ((Kept.refl (λ_=>False) _).drewN _) (λ_ _ f=>f)) HVN.out (HK2.out.drewN _) (HW.out.kept ((Kept.refl (λ_=>False) _).drewN _) (λ_ _ f=>f))
 | wait t v' va' ρ' vl bv he hx hr iF hs hn ho hk=>
  subst hx;have HC:=lD w2 w.heap.size _ _ _ _ _ _ hs.sm;have HE:Hid (Ends (ae cs) most ps0 t 55):=he;have HK2:Hid (Same w w2):=hid (HKK.out w2 hk);obtain⟨a5,jG,fJ,_⟩:=hr.shape;generalize (t.out.drop ps0.out.length).length=n5 at fJ;subst fJ;clear he hr iF hs hn ho hk HKK;go_wp2_with fail;refine HC.mono ?_;rintro x w3 ⟨rfl,hw3⟩;subst hw3;clear HC;go_wp2_with fail;refine bodyPost_ret (v:=.tuple #[.slice none 0 0,.int .i64 0,.int .i64 55]) (by simp[results,Tryz.results38,go_sem]) rfl ?_;exact .fail t 55 HE.out (by decide) rfl HK2.out
 | fail t er he h0 h5 hx hs hk=>
  subst hx;have HC:=lD w2 w.heap.size _ _ _ _ _ _ hs;have HE:Hid (Ends (ae cs) most ps0 t er):=he;have HE0:Hid (er≠0):=h0;have l9:((er:Int) != 0)=true:=(by simp;omega);have HK2:Hid (Same w w2):=hid (HKK.out w2 hk);clear he hs hk HKK h0 h5;go_wp2_with fail;refine HC.mono ?_;rintro x w3 ⟨rfl,hw3⟩;subst hw3;clear HC;go_wp2_with fail;refine bodyPost_ret (v:=.tuple #[.slice none 0 0,.int .i64 0,.int .i64 (er:Nat)]) (by simp[results,Tryz.results38,go_sem]) rfl ?_;exact .fail t er HE.out HE0.out rfl HK2.out
end Go.Proofs.YtllcnlnbpikhdaaGreatDoor
