import Derived.Test.YtkhagfgineifhaaGreatDoorLnWs
import Derived.Deep.RegionHeld3
set_option maxHeartbeats 4000000
set_option maxRecDepth 100000
namespace Go.Proofs.YtkhagfgineifhaaGreatDoor
open Go.RowKit
theorem Am(w:World)(g cap:Nat)(cs:List Nat)(hr:NRow 0 w (.slice (some ⟨g,0,none⟩) 19 cap) cs)(hT:Tab w):
  Calls Tryz.prog 127 #[.slice (some ⟨g,0,none⟩) 19 cap] w λe w'=>e=.returned (.int .i64 (dL cs 19:Nat))/\w'=w:=by
 have ey:=hr.len;have HR:Hid (NRow 0 w (.slice (some ⟨g,0,none⟩) 19 cap) cs):=hr;have HT:Hid (Tab w):=hT;clear hr hT;go_enter Tryz.func127,Tryz.ntmps127;go_wp2_with fail;go_loopg [3] 19 (λq z wr=>∃(k:Nat),k<=q/\4<=k/\k<=19/\z=.int .i64 (k:Nat)/\Hid (dL cs 19=dL cs k)/\wr=w)
 case atStart=>exact⟨19,by omega,by omega,by omega,rfl,rfl,rfl⟩
 case round=>
  obtain⟨k,hq,hk4,Rm,rfl,HC,hw⟩:=hrel;subst hw;by_cases NO:4<k
  ·obtain⟨j,rfl⟩:∃j,k=j+1:=⟨k-1,by omega⟩
   have ct:=HT.out j (by omega);have IG:=uJ j (by omega);obtain⟨oi,IX⟩:∃x,x=ord.getD j 0:=⟨_,rfl⟩
   rw[<-IX]at ct IG;obtain⟨x,hx⟩:∃x,x=cs.getD oi 0:=⟨_,rfl⟩
   have cl:wr.cell? ⟨g,oi,none⟩=some (.int .i64 (x:Nat)):=(by have h:=HR.out.cell oi (by omega);rw[h,hx,List.getD_eq_getElem?_getD,List.getElem?_eq_getElem (by omega)];rfl);have HCJ:Hid (dL cs (j+1)=if x=0 then dL cs j else j+1):=hid (by
    rw[dL,<-IX,<-hx];by_cases h0:x=0
    ·rw[if_pos ⟨NO,h0⟩,if_pos h0]
    ·rw[if_neg (λh=>h0 h.2),if_neg h0])
   obtain⟨j1,PZ⟩:∃j1,j1=j+1:=⟨_,rfl⟩
   rw[<-PZ]at HC HCJ hq hk4 Rm NO ⊢;have ZW:(j1:Int)-1=(j:Int):=(by omega);have QV:IntKind.i64.wrap (j:Int)=(j:Int):=(by rw[IntKind.wrap_i64];omega);have Xu:j<19:=(by omega);have HJ:Hid (j1=j+1):=PZ;clear hx IX PZ;by_cases h0:x=0
   ·have HC2:Hid (dL cs 19=dL cs j):=hid (by rw[HC.out,HCJ.out,if_pos h0]);subst h0;go_wp2_with fail;go_roundg (gk-1)
    case measure=>omega
    case rel=>exact⟨j,by have:=HJ.out;omega,by have:=HJ.out;omega,by omega,rfl,HC2,rfl⟩
   ·have HC2:Hid (dL cs 19=j1):=hid (by rw[HC.out,HCJ.out,if_neg h0,HJ.out]);have yH:((x:Int)==0)=false:=(by simp;omega);clear h0;go_wp2_with fail;go_ret;exact⟨by rw[HC2.out];rfl,rfl⟩
  ·have hk:k=4:=(by omega);subst hk;have HC2:Hid (dL cs 19=4):=hid (by rw[HC.out];rfl);go_wp2_with fail;go_ret;exact⟨by rw[HC2.out];rfl,rfl⟩
theorem WS.trans{wb w w1 w':World}{p:Nat}{s0 s s':Value}{X Y:List Nat}(h:WS wb w p s0 s X)(hk:Same w w1)(h2:WS w1 w' p s s' Y):WS wb w' p s0 s' Y:=by
 have hf:∀k,k<wb.heap.size->Fp p s k->Fp p s0 k:=λk hk hf=>by
  rcases hf with e | e
  ·exact .inl e
  ·rcases h.own k e with h1 | h1
   ·exact .inr h1
   ·omega
 refine⟨h2.wr,h2.bit,Kept.trans (Kept.trans h.kept hk (λ_ _ x=>x) (λ_ _ f=>f.elim)) h2.kept (λ_ _ x=>x) (λk hk2 x=>hf k hk2 x),λk e=>?_⟩;rcases h2.own k e with h1 | h1
 ·exact h.own k h1
 ·exact .inr (by have:=h.kept.size;have:=hk.size;omega)
theorem xo(cs:List Nat)(s:Nat)(hk:key cs s≠0):aj (jp cs s) (key cs s)=aE cs s:=by
 have e:jp cs s=n2 (aE cs s):=by unfold jp;rw[if_neg hk,g8]
 refine qR _ _ (by rw[af,aq]) (ei _ _) (cX cs s) ?_;rw[eh,e,Nat.mod_eq_of_lt];have:=vR (aE cs s) (cX cs s);rw[aq]at this;exact this
theorem Lc(cs:List Nat)(s:Nat)(hk:key cs s≠0):jp cs s<2 ^ key cs s:=by
 have e:jp cs s=n2 (aE cs s):=by unfold jp;rw[if_neg hk,g8]
 rw[e];have:=vR (aE cs s) (cX cs s);rw[aq]at this;exact this
theorem qa(cs:List Nat)(s:Nat)(h:s<(dR cs).length):(dR cs)[s]=jp cs s:=by simp[dR]
theorem ql(w:World)(p g cap:Nat)(s:Value)(X:List Nat)(v:Value)(I:Nat→Prop)(cs:List Nat)(sn:List (Nat×Nat))(hw:WS w w p s s X)(hX:X.length≤1000000)(hs:StSrc w I v (sn.map (fun x=>((x.1:Int),(x.2:Int)))))(hI:∀k,I k→¬Fp p s k)
  (hr:NRow 0 w (.slice (some ⟨g,0,none⟩) 19 cap) cs) (hg:¬Fp p s g) (h7:∀x∈cs,x<=7) (hok:bw cs=0) (hst:pB cs sn) (Jj:sn.length<=1000):
  Calls Tryz.prog 128 #[.pointer (some ⟨p,0,none⟩),v,.slice (some ⟨g,0,none⟩) 19 cap] w λe w'=>(∃u,e=.returned u)/\∃s',WS w w' p s s' (X++sn.flatMap (aC cs)):=by
 have ey:=hr.len;obtain⟨ao,cv,rfl,ic,gh⟩:=id hs;clear ic gh;rw[List.length_map]at hs ⊢;have HC:=rG w _ _ (cs.map (fun(n:Nat)=>(n:Int))) cs ((SrcE.ofRow hr).recode (by rw[List.map_map];rfl)) (qK cs ey h7 hok) (by rw[iY cs ey h7];exact hok);have HW:Hid (WS w w p s s X):=hw;have HS:Hid (StSrc w I (.slice ao sn.length cv) (sn.map (λx=>((x.1:Int),(x.2:Int))))):=hs;have HI:Hid (∀k,I k->¬Fp p s k):=hI;have HR:Hid (NRow 0 w (.slice (some ⟨g,0,none⟩) 19 cap) cs):=hr;have HG:Hid (¬Fp p s g):=hg;have HST:Hid (pB cs sn):=hst;have H7:Hid (∀x∈cs,x<=7):=h7;have HFP:Hid (∀k,Fp p s k->k<w.heap.size):=hid (λk h=>hw.wr.fp_lt h);clear hw hs hI hr hg h7 hok hst;go_enter Tryz.func128,Tryz.ntmps128;go_wp2_with fail;refine HC.mono ?_;rintro e w1 ⟨⟨gc,nc,capc,rfl,hrc⟩,hk1⟩;have Fb:=hrc.len;rw[fD,ey]at Fb;subst Fb;have HRC:Hid (Ah w.heap.size w1 (.slice (some ⟨gc,0,none⟩) 19 capc) (dR cs)):=hrc;have HK1:Hid (Same w w1):=hk1;have HW1:Hid (WS w1 w1 p s s X):=hid (WS.start (HW.out.wr.kept hk1 (λ_ _ f=>f)) HW.out.bit);have Ix:=hk1.size;have HGC:Hid (w.heap.size<=gc):=hid (hrc.ge (k:=gc) rfl);clear hrc hk1 HC;go_wp2_with fail;go_loopg [9,10,11,19] sn.length (λq _ _ _ zi wr=>∃(i:Nat) (si:Value),sn.length-i<=q/\i<=sn.length/\zi=.int .i64 (i:Nat)/\Hid (WS w1 wr p s si (X++(sn.take i).flatMap (aC cs))/\(X++(sn.take i).flatMap (aC cs)).length<=1000000+14*i))
 case atStart=>exact⟨0,s,by omega,by omega,rfl,hid ⟨by simpa using HW1.out,by simpa using hX⟩⟩
 case round=>
  clear HW1;obtain⟨i,si,hq,hi,rfl,HWI⟩:=hrel;by_cases hlt:i<sn.length
  ·have uQ:=HWI.out.1.kept;obtain⟨b,o,rfl,_,c1,c2⟩:=StSrc.get (n:=sn.length) (cap:=cv) (SrcC.kept stC_ok (SrcC.kept stC_ok HS.out HK1.out (λ_ _ _ f=>f)) uQ (λk h _=>HI.out k h)) i (by simpa using hlt);have Np:=HST.out _ (List.getElem_mem hlt);simp only[List.getElem_map]at c1 c2;obtain⟨x,hx⟩:∃x,x=sn[i].1:=⟨_,rfl⟩
   obtain⟨y,hy⟩:∃y,y=sn[i].2:=⟨_,rfl⟩
   rw[<-hx]at c1 Np;rw[<-hy]at c2 Np;obtain⟨Td,hkey,Ba⟩:=Np;rw[ey]at Td;have dk:key cs x<=7:=(by rw[aZ (by omega)];exact H7.out _ (List.getElem_mem _));have Ct:=Lc cs x hkey;have ON:=xZ x;have HBITS:Hid (X++(sn.take (i+1)).flatMap (aC cs)=X++(sn.take i).flatMap (aC cs)++aj (jp cs x) (key cs x)++aj y (dF x)):=hid (by
    rw[List.take_succ_eq_append_getElem hlt,List.flatMap_append,xo cs x hkey];simp[aC,hx,hy])
   have cg:wr.cell? ⟨g,x,none⟩=some (.int .i64 (key cs x:Nat)):=(by have h:=(HR.out.same HK1.out).kept uQ (λk e f=>by simp[Value.ownBlock]at e;subst e;exact HG.out f);rw[h.cell x (by omega),aZ (by omega)];rfl);have cc:wr.cell? ⟨gc,x,none⟩=some (.int .u32 (jp cs x:Nat)):=(by have h:=HRC.out.kept uQ (λk e f=>by simp[Value.ownBlock]at e;subst e;have:=HFP.out gc f;have:=HGC.out;omega);rw[h.cell x (by rw[fD];omega),qa];rfl);obtain⟨kx,QA⟩:∃kx,kx=key cs x:=⟨_,rfl⟩
   obtain⟨cx,rN⟩:∃cx,cx=jp cs x:=⟨_,rfl⟩
   obtain⟨xb,ie⟩:∃xb,xb=dF x:=⟨_,rfl⟩
   have HSH:=λW2=>iQ W2 (x:Int)
   rw[qO]at HSH;rw[<-QA]at cg dk Ct HBITS;rw[<-rN]at cc Ct HBITS;rw[<-ie]at HSH Ba ON HBITS;have TH:y<2 ^ 7:=Nat.lt_of_lt_of_le Ba (Nat.pow_le_pow_right (by decide) ON);have YW:IntKind.u32.wrap (y:Int)=(y:Int):=(by rw[IntKind.wrap_u32];omega);have HP1:Hid (∀W,Same wr W->Calls Tryz.prog 89 #[.pointer (some ⟨p,0,none⟩),.int .u32 (cx:Nat),.int .i64 (kx:Nat)] W λe w'=>e=.returned (.int .i64 0)/\(∃s',WS w1 w' p s s' (X++(sn.take i).flatMap (aC cs)++aj cx kx))/\Kept (Fp p si) W w'):=hid (λW hk=>jm w1 W p s si _ cx kx (HWI.out.1.same hk) (by omega) Ct (by have:=HWI.out.2;omega));have HFI:Hid (∀k,Fp p si k->k<wr.heap.size):=hid (λk h=>HWI.out.1.wr.fp_lt h);have HLN:Hid ((X++(sn.take i).flatMap (aC cs)).length<=1000000+14*i):=HWI.out.2;have mw:g<wr.heap.size:=World.block_lt_of_cell? wr _ cg;have Ww:gc<wr.heap.size:=World.block_lt_of_cell? wr _ cc;have HFW:Hid (∀k,k=g\/k=gc\/k=wr.heap.size->¬Fp p si k):=hid (λk hk hf=>by
    rcases hk with rfl | rfl | rfl
    ·rcases hf with e | e
     ·exact HG.out (.inl e)
     ·rcases HWI.out.1.own _ e with h1 | h1
      ·exact HG.out (.inr h1)
      ·have:=HR.out.lt (k:=k) rfl;omega
    ·rcases hf with e | e
     ·have:=HFP.out k (.inl e);have:=HGC.out;omega
     ·rcases HWI.out.1.own _ e with h1 | h1
      ·have:=HFP.out k (.inr h1);have:=HGC.out;omega
      ·have:=HRC.out.lt (k:=k) rfl;omega
    ·have:=HFI.out _ hf;omega)
   have i1:(0:Int)<=(x:Int):=(by omega);have i2:(x:Int)<19:=(by omega);have HY:Hid (y<2 ^ xb):=Ba;clear QA rN ie hx hy hkey uQ Ct Ba;go_wp2_with fail;refine(HSH _).mono ?_;rintro e w2 ⟨rfl,hw2⟩;have HK2:Hid (Same wr w2):=hid (by rw[hw2];exact(Kept.refl _ wr).alloc _);have d1:w2.cell? ⟨wr.heap.size,0,none⟩=some (.int .i64 (x:Nat)):=(by rw[hw2];simp);have d2:w2.cell? ⟨wr.heap.size,1,none⟩=some (.int .i64 (y:Nat)):=(by rw[hw2];simp);have d3:w2.cell? ⟨g,x,none⟩=some (.int .i64 (kx:Nat)):=HK2.out.cell cg (λf=>f);have d4:w2.cell? ⟨gc,x,none⟩=some (.int .u32 (cx:Nat)):=HK2.out.cell cc (λf=>f);clear hw2 HSH cg cc c1 c2;go_wp2_with fail;go_region_held3 (λw'=>w'.cell? ⟨wr.heap.size,0,none⟩=some (.int .i64 (x:Nat))/\w'.cell? ⟨wr.heap.size,1,none⟩=some (.int .i64 (y:Nat))/\w'.cell? ⟨g,x,none⟩=some (.int .i64 (kx:Nat))/\w'.cell? ⟨gc,x,none⟩=some (.int .u32 (cx:Nat)))
    (first
     | (go_split_ands;exact⟨hk5.cell (by assumption) (HFW.out _ (.inr (.inr rfl))),hk5.cell (by assumption) (HFW.out _ (.inr (.inr rfl))),hk5.cell (by assumption) (HFW.out _ (.inl rfl)),hk5.cell (by assumption) (HFW.out _ (.inr (.inl rfl)))⟩)
     | go_keep)
    (first
     | (go_at_call 89;refine(HP1.out _ (Same.trans HK2.out ((Kept.refl _ w2).drew))).mono ?_;rintro e w5 ⟨rfl,⟨s5,IM⟩,hk5⟩))
   all_goals
    have f2:w5.cell? ⟨wr.heap.size,1,none⟩=some (.int .i64 (y:Nat)):=hk5.cell (show w2.drew.cell? ⟨wr.heap.size,1,none⟩=some (.int .i64 (y:Nat))from d2) (HFW.out _ (.inr (.inr rfl)));have HP2:=jm w1 w5 p s s5 _ y xb IM (by omega) HY.out (by have:=HLN.out;rw[List.length_append,af];omega);clear IM hk5 d1 d2 d3 d4;go_wp2_with fail;refine HP2.mono ?_;rintro e w6 ⟨rfl,⟨s6,hws6⟩,hk6⟩;have HW6:Hid (WS w1 w6 p s s6 (X++(sn.take (i+1)).flatMap (aC cs))/\(X++(sn.take (i+1)).flatMap (aC cs)).length<=1000000+14*(i+1)):=hid ⟨by rw[HBITS.out];exact hws6,by rw[HBITS.out,List.length_append,List.length_append,af,af];have:=HLN.out;omega⟩;clear hws6 hk6 HP2;go_wp2_with fail;go_roundg (gk-1)
    case measure=>omega
    case rel=>exact⟨i+1,s6,by omega,by omega,by go_num,HW6⟩
  ·have e1:sn.take i=sn:=List.take_of_length_le (by omega);rw[e1]at HWI;clear e1;go_wp2_with fail;go_end0;exact⟨⟨_,rfl⟩,si,WS.trans HW.out HK1.out HWI.out.1⟩
end Go.Proofs.YtkhagfgineifhaaGreatDoor
