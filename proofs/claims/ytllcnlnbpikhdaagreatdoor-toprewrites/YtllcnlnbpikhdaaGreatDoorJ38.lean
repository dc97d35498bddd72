import Derived.Deep.RegionHeld3
import Derived.Test.YtllcnlnbpikhdaaGreatDoorJ35
import Derived.Test.YtllcnlnbpikhdaaGreatDoorJ37
set_option maxHeartbeats 4000000
set_option maxRecDepth 100000
namespace Go.Proofs.YtllcnlnbpikhdaaGreatDoor
open Go.RowKit
structure WS(wb w:World)(p:Nat)(s0 s:Value)(X:List Nat):Prop where
 wr:Wr w p s (n2 X) X.length
 bit:∀b∈X,b<2
 kept:Kept (Fp p s0) wb w
 own:∀k,s.ownBlock=some k->s0.ownBlock=some k\/wb.heap.size<=k
theorem WS.start{w:World}{p:Nat}{s:Value}{X:List Nat}(h:Wr w p s (n2 X) X.length)(hb:∀b∈X,b<2):WS w w p s s X:=⟨h,hb,Kept.refl _ _,λ_ e=>.inl e⟩
theorem WS.same{wb w w':World}{p:Nat}{s0 s:Value}{X:List Nat}(h:WS wb w p s0 s X)(hk:Same w w'):WS wb w' p s0 s X:=
 ⟨h.wr.kept hk (λ_ _ f=>f),h.bit,Kept.trans h.kept hk (λ_ _ x=>x) (λ_ _ f=>f.elim),h.own⟩
theorem WS.base{wa wb w:World}{p:Nat}{s0 s:Value}{X:List Nat}(h:WS wb w p s0 s X)(hk:Same wa wb):WS wa w p s0 s X:=
 ⟨h.wr,h.bit,Kept.trans (hk.mono (λ_ _ f=>f.elim)) h.kept (λ_ _ x=>x) (λ_ _ x=>x),λk e=>by
  rcases h.own k e with h1 | h1
  ·exact .inl h1
  ·exact .inr (Nat.le_trans hk.size h1)⟩
theorem jr(wb w:World)(p:Nat)(s0 s:Value)(X:List Nat)(v n:Nat)(h:WS wb w p s0 s X)(hn:n≤32)(hv:v<2 ^ n)(hc:X.length≤1000000000):
  Calls Tryz.prog 79 #[.pointer (some ⟨p,0,none⟩),.int .u32 (v:Nat),.int .i64 (n:Nat)] w λe w'=>e=.returned (.int .i64 0)/\(∃s',WS wb w' p s0 s' (X++aj v n))/\Kept (Fp p s) w w':=by
 refine(Ft p v n _ _ s w hn hv h.wr (by omega)).mono ?_;rintro e w' ⟨rfl,s',hw,hk,hg⟩;refine⟨rfl,⟨s',?_,?_,?_,?_⟩,hk⟩
 ·rw[K2 X v n hv,List.length_append,af];exact hw
 ·intro b hb;rcases List.mem_append.1 hb with h1 | h1
  ·exact h.bit b h1
  ·exact d9 _ _ b h1
 ·refine Kept.trans h.kept hk (λ_ _ x=>x) (λk hk2 hf=>?_);rcases hf with e | e
  ·exact .inl e
  ·rcases h.own k e with h1 | h1
   ·exact .inr h1
   ·omega
 ·intro k e;rcases hg with h1 | h1
  ·exact h.own k (by rw[<-h1];exact e)
  ·exact .inr (Nat.le_trans h.kept.size (h1 k e))
theorem qQ{α:Type}{p:List α->Prop}(h0:p [])(h1:∀r s,p r->p (r++[s]))(l:List α):p l:=by
 have h:∀m:List α,p m.reverse:=by
  intro m
  induction m with
  | nil=>simpa using h0
  | cons a r ih=>rw[List.reverse_cons];exact h1 _ _ ih
 simpa using h l.reverse
def dM(ss:List (Int×Int)):List Nat:=ss.foldl (λl s=>l.set s.1.toNat (l.getD s.1.toNat 0+1)) (List.replicate 19 0)
theorem ky(ss:List (Int×Int))(s:Int×Int):dM (ss++[s])=(dM ss).set s.1.toNat ((dM ss).getD s.1.toNat 0+1):=by unfold dM;rw[List.foldl_append];rfl
theorem dD(ss:List (Int×Int)):(dM ss).length=19:=by
 refine qQ (p:=λl=>(dM l).length=19) ?_ ?_ ss
 ·simp[dM]
 ·intro r s ih;rw[ky,List.length_set,ih]
theorem BG(ss:List (Int×Int)):∀x∈dM ss,x<=ss.length:=by
 refine qQ (p:=λl=>∀x∈dM l,x<=l.length) ?_ ?_ ss
 ·intro x hx;have:=List.eq_of_mem_replicate hx;omega
 ·intro r s ih x hx;rw[ky]at hx;rw[List.length_append,List.length_singleton];rcases List.mem_or_eq_of_mem_set hx with h | h
  ·have:=ih x h;omega
  ·have:(dM r).getD s.1.toNat 0≤r.length:=by
    by_cases hl:s.1.toNat<(dM r).length
    ·rw[List.getD_eq_getElem?_getD,List.getElem?_eq_getElem hl];exact ih _ (List.getElem_mem hl)
    ·rw[List.getD_eq_getElem?_getD,List.getElem?_eq_none (by omega)];exact Nat.zero_le _
   omega
theorem vh(ss:List (Int×Int))(s:Int×Int)(hs:s∈ss)(BR:s.1.toNat<19):key (dM ss) s.1.toNat≠0:=by
 revert hs
 refine qQ (p:=λl=>s∈l->key (dM l) s.1.toNat≠0) ?_ ?_ ss
 ·intro h;simp at h
 ·intro r t ih hs;unfold key;rw[ky];have hl:=dD r;by_cases e:t.1.toNat=s.1.toNat
  ·rw[e,List.getD_eq_getElem?_getD,List.getElem?_set_self (by omega)];simp
  ·rw[List.getD_eq_getElem?_getD,List.getElem?_set_ne e,<-List.getD_eq_getElem?_getD];rcases List.mem_append.1 hs with h | h
   ·exact ih h
   ·simp at h;subst h;exact absurd rfl e
theorem Bm(ns:List Nat)(most s:Nat)(hs:s<ns.length)(hk:key ns s≠0)(cJ:(aD ns).length<=2 ^ most)(h1:1<=most)(h15:most<=15):key (dO ns most) s≠0:=by
 have hl:s<(dO ns most).length:=by rw[ig];exact hs
 rw[aY hl,qD,if_neg hk];split
 ·omega
 ·rename_i h2;have hm:Many ns most:=⟨by omega,cJ,h1,h15⟩
  have hr:s∈aD ns:=aU.2 ⟨hs,hk⟩;have:=hm.pos ((aD ns).idxOf s) (List.idxOf_lt_length_of_mem hr);omega
def cZ(ss:List (Int×Int)):List Nat:=dO (dM ss) 7
theorem jn(ss:List (Int×Int)):(aD (dM ss)).length<=2 ^ 7:=by have h1:=cI (dM ss);have h2:=dD ss;omega
theorem iA(ss:List (Int×Int)):(cZ ss).length=19:=by unfold cZ;rw[ig,dD]
theorem Dv(ss:List (Int×Int)):∀x∈cZ ss,x<=7:=EA _ 7 (jn ss) (by decide) (by decide)
theorem Am(ss:List (Int×Int))(s:Int×Int)(hs:s∈ss)(BR:s.1.toNat<19):key (cZ ss) s.1.toNat≠0:=Bm _ 7 _ (by rw[dD];exact BR) (vh ss s hs BR) (jn ss) (by decide) (by decide)
theorem C6(ss:List (Int×Int))(s:Int×Int)(hs:s∈ss)(BR:s.1.toNat<19):bm (cZ ss)=0:=by refine sM _ 7 ?_ (jn ss) (by decide) (by decide);exact List.length_pos_of_mem (aU.2 ⟨by rw[dD];exact BR,vh ss s hs BR⟩)
theorem oV(w:World)(v:Value)(I:Nat→Prop)(ss:List (Int×Int))(hs:StSrc w I v ss)(hst:∀s∈ss,0≤s.1∧s.1≤18)(ag:ss.length≤1000):
  Calls Tryz.prog 116 #[v] w λe w'=>(∃g n cap,e=.returned (.slice (some ⟨g,0,none⟩) n cap)/\NRow 0 w' (.slice (some ⟨g,0,none⟩) n cap) (cZ ss)/\w.heap.size<=g)/\Same w w':=by
 obtain⟨ao,cap,rfl,fO,fX⟩:=id hs;clear fO fX;have HS:Hid (StSrc w I (.slice ao ss.length cap) ss):=hs;have HST:Hid (∀s∈ss,0<=s.1/\s.1<=18):=hst;clear hs hst;go_enter Tryz.func116,Tryz.ntmps116;go_wp2_with (at_make;refine dm _ am 0 w.heap.size 138 3 8 Tryz.underlying138 Tryz.infoN rfl (by decide) rfl _ _ rfl _ _ _ _ 19 rfl rfl rfl rfl (by decide) (Nat.le_refl _) ?_;intro w3 hr3 jH hs3;have HR3:Hid (NRow w.heap.size w3 (.slice (some ⟨w.heap.size,0,none⟩) 19 19) (dM [])):=hid hr3;have HK3:Hid (Same w w3):=hid ((Kept.refl _ w).grown jH (λj e=>by cases e));clear hr3 jH);go_loopg [5,11] ss.length (λq _ zi wr=>∃(i:Nat),ss.length-i<=q/\i<=ss.length/\zi=.int .i64 (i:Nat)/\Hid (NRow w.heap.size wr (.slice (some ⟨w.heap.size,0,none⟩) 19 19) (dM (ss.take i)))/\Hid (Same w wr))
 case atStart=>exact⟨0,by omega,by omega,rfl,hid (by simpa using HR3.out),HK3⟩
 case round=>
  clear HR3 HK3 hs3;obtain⟨i,hq,hi,rfl,HV,HK⟩:=hrel;by_cases hlt:i<ss.length
  ·obtain⟨b,o,rfl,_,c1,c2⟩:=StSrc.get (n:=ss.length) (cap:=cap) (SrcC.kept stC_ok HS.out HK.out (λ_ _ _ f=>f)) i hlt;have Mp:=HST.out _ (List.getElem_mem hlt);obtain⟨x,hx⟩:∃x:Nat,ss[i].1=(x:Int):=⟨ss[i].1.toNat,by omega⟩
   obtain⟨y,hy⟩:∃y,y=ss[i].2:=⟨_,rfl⟩
   rw[hx]at c1 Mp;rw[<-hy]at c2;have UG:x<19:=(by omega);have HSN:Hid (dM (ss.take (i+1))=(dM (ss.take i)).set x ((dM (ss.take i)).getD x 0+1)):=hid (by rw[List.take_succ_eq_append_getElem hlt,ky,hx,Int.toNat_natCast]);have fq:=dD (ss.take i);obtain⟨old,hold⟩:∃old,old=(dM (ss.take i)).getD x 0:=⟨_,rfl⟩
   have Tj:old<=1000:=(by have h:=BG (ss.take i) (dM (ss.take i))[x] (List.getElem_mem (by omega));rw[hold,List.getD_eq_getElem?_getD,List.getElem?_eq_getElem (by omega)];simp only[Option.getD_some];rw[List.length_take]at h;omega);have VV:wr.cell? ⟨w.heap.size,x,none⟩=some (.int .i64 (old:Nat)):=(by have h:=HV.out.cell x (by omega);rw[h,hold,List.getD_eq_getElem?_getD,List.getElem?_eq_getElem (by omega)];rfl);obtain⟨W2,oh⟩:∃W2,W2=wr.alloc (.cells #[.int .i64 (x:Nat),.int .i64 y] 220):=⟨_,rfl⟩
   have hk2:Same wr W2:=(by rw[oh];exact(Kept.refl _ wr).alloc _);have HV2:Hid (NRow w.heap.size W2 (.slice (some ⟨w.heap.size,0,none⟩) 19 19) (dM (ss.take i))):=hid (HV.out.same hk2);have NG:=HK.out.size;have bh:wr.heap.size≠w.heap.size:=(by have:=HV.out.lt (k:=w.heap.size) rfl;omega);have fl:wr.frozen? ⟨w.heap.size,x,none⟩=false:=HV.out.frozen x;have U0:W2.cell? ⟨w.heap.size,x,none⟩=some (.int .i64 (old:Nat)):=hk2.cell VV (λf=>f);have Vh:W2.frozen? ⟨w.heap.size,x,none⟩=false:=HV2.out.frozen x;rw[oh]at U0 Vh;have HVN:Hid (NRow w.heap.size (W2.setCell ⟨w.heap.size,x,none⟩ (.int .i64 ((old+1:Nat):Int))) (.slice (some ⟨w.heap.size,0,none⟩) 19 19) (dM (ss.take (i+1)))):=hid (by rw[HSN.out,<-hold];exact HV2.out.lay x (old+1));have HKN:Hid (Same w (W2.setCell ⟨w.heap.size,x,none⟩ (.int .i64 ((old+1:Nat):Int)))):=hid ((Same.trans HK.out hk2).setCell _ _ (.inr (Nat.le_refl _)));rw[oh]at HVN HKN;obtain⟨o1,J2⟩:∃o1,o1=old+1:=⟨_,rfl⟩
   have Vt:(old:Int)+1=(o1:Int):=(by omega);have Us:IntKind.i64.wrap (o1:Int)=(o1:Int):=(by rw[IntKind.wrap_i64];omega);rw[<-J2]at HVN HKN;clear hx hy Mp hold hk2 HV2 oh J2 fq HV;go_wp2_with fail;go_roundg (gk-1)
   case measure=>omega
   case rel=>exact⟨i+1,by omega,by omega,by go_num,HVN,HKN⟩
  ·have e1:ss.take i=ss:=List.take_of_length_le (by omega);rw[e1]at HV;have fq:=dD ss;have hsrc:SrcE bI wr _ (.slice (some ⟨w.heap.size,0,none⟩) 19 19) ((dM ss).map (fun(n:Nat)=>(n:Int))):=(SrcE.ofRow HV.out).recode (by rw[List.map_map];rfl);have hok:eC ((dM ss).map (fun(n:Nat)=>(n:Int))) 0 1000000000000=true:=by
    unfold eC;have h1:((dM ss).map (fun(n:Nat)=>(n:Int))).length=19:=(by rw[List.length_map,fq]);rw[h1];have h2:((dM ss).map (fun(n:Nat)=>(n:Int))).any (d7 0 1000000000000)=false:=by rw[List.any_eq_false];intro z hz;obtain⟨n,hn,rfl⟩:=List.mem_map.1 hz;have:=BG ss n hn;simp[d7];omega
    rw[h2];decide
   have Ph:dM ss=((dM ss).map (fun(n:Nat)=>(n:Int))).map Int.toNat:=by
    rw[List.map_map];conv=>lhs;rw[<-List.map_id (dM ss)]
    exact List.map_congr_left (λx _=>by simp)
   have HLM:=pV wr _ _ _ (dM ss) 7 hsrc hok Ph (by decide) (by decide) (jn ss);have NG:=HK.out.size;clear hsrc hok Ph fq e1 HV;go_wp2_with fail;refine HLM.mono ?_;rintro e w5 ⟨⟨g,n,c5,rfl,hr5,d8⟩,hk5⟩;have HR5:Hid (NRow 0 w5 (.slice (some ⟨g,0,none⟩) n c5) (cZ ss)):=hr5;have HK5:Hid (Same w w5):=hid (Same.trans HK.out hk5);clear hr5 hk5 HLM;go_wp2_with fail;go_ret;exact⟨⟨g,n,c5,rfl,HR5.out,by omega⟩,HK5.out⟩
theorem zC(w:World)(g cap:Nat)(cs:List Nat)(hr:NRow 0 w (.slice (some ⟨g,0,none⟩) 19 cap) cs)(hT:Tab w):
  Calls Tryz.prog 117 #[.slice (some ⟨g,0,none⟩) 19 cap] w λe w'=>e=.returned (.int .i64 (dE cs 19:Nat))/\w'=w:=by
 have fq:=hr.len;have HR:Hid (NRow 0 w (.slice (some ⟨g,0,none⟩) 19 cap) cs):=hr;have HT:Hid (Tab w):=hT;clear hr hT;go_enter Tryz.func117,Tryz.ntmps117;go_wp2_with fail;go_loopg [3] 19 (λq z wr=>∃(k:Nat),k<=q/\4<=k/\k<=19/\z=.int .i64 (k:Nat)/\Hid (dE cs 19=dE cs k)/\wr=w)
 case atStart=>exact⟨19,by omega,by omega,by omega,rfl,rfl,rfl⟩
 case round=>
  obtain⟨k,hq,hk4,Q6,rfl,HC,hw⟩:=hrel;subst hw;by_cases MR:4<k
  ·obtain⟨j,rfl⟩:∃j,k=j+1:=⟨k-1,by omega⟩
   have ct:=HT.out j (by omega);have Hb:=tS j (by omega);obtain⟨oi,Hr⟩:∃x,x=ord.getD j 0:=⟨_,rfl⟩
   rw[<-Hr]at ct Hb;obtain⟨x,hx⟩:∃x,x=cs.getD oi 0:=⟨_,rfl⟩
   have cl:wr.cell? ⟨g,oi,none⟩=some (.int .i64 (x:Nat)):=(by have h:=HR.out.cell oi (by omega);rw[h,hx,List.getD_eq_getElem?_getD,List.getElem?_eq_getElem (by omega)];rfl);have HCJ:Hid (dE cs (j+1)=if x=0 then dE cs j else j+1):=hid (by
    rw[dE,<-Hr,<-hx];by_cases h0:x=0
    ·rw[if_pos ⟨MR,h0⟩,if_pos h0]
    ·rw[if_neg (λh=>h0 h.2),if_neg h0])
   obtain⟨j1,OM⟩:∃j1,j1=j+1:=⟨_,rfl⟩
   rw[<-OM]at HC HCJ hq hk4 Q6 MR ⊢;have XD:(j1:Int)-1=(j:Int):=(by omega);have P8:IntKind.i64.wrap (j:Int)=(j:Int):=(by rw[IntKind.wrap_i64];omega);have UB:j<19:=(by omega);have HJ:Hid (j1=j+1):=OM;clear hx Hr OM;by_cases h0:x=0
   ·have HC2:Hid (dE cs 19=dE cs j):=hid (by rw[HC.out,HCJ.out,if_pos h0]);subst h0;go_wp2_with fail;go_roundg (gk-1)
    case measure=>omega
    case rel=>exact⟨j,by have:=HJ.out;omega,by have:=HJ.out;omega,by omega,rfl,HC2,rfl⟩
   ·have HC2:Hid (dE cs 19=j1):=hid (by rw[HC.out,HCJ.out,if_neg h0,HJ.out]);have yb:((x:Int)==0)=false:=(by simp;omega);clear h0;go_wp2_with fail;go_ret;exact⟨by rw[HC2.out];rfl,rfl⟩
  ·have hk:k=4:=(by omega);subst hk;have HC2:Hid (dE cs 19=4):=hid (by rw[HC.out];rfl);go_wp2_with fail;go_ret;exact⟨by rw[HC2.out];rfl,rfl⟩
theorem WS.trans{wb w w1 w':World}{p:Nat}{s0 s s':Value}{X Y:List Nat}(h:WS wb w p s0 s X)(hk:Same w w1)(h2:WS w1 w' p s s' Y):WS wb w' p s0 s' Y:=by
 have hf:∀k,k<wb.heap.size->Fp p s k->Fp p s0 k:=λk hk hf=>by
  rcases hf with e | e
  ·exact .inl e
  ·rcases h.own k e with h1 | h1
   ·exact .inr h1
   ·omega
 refine⟨h2.wr,h2.bit,Kept.trans (Kept.trans h.kept hk (λ_ _ x=>x) (λ_ _ f=>f.elim)) h2.kept (λ_ _ x=>x) (λk hk2 x=>hf k hk2 x),λk e=>?_⟩;rcases h2.own k e with h1 | h1
 ·exact h.own k h1
 ·exact .inr (by have:=h.kept.size;have:=hk.size;omega)
theorem vm(cs:List Nat)(s:Nat)(hk:key cs s≠0):aj (ji cs s) (key cs s)=aE cs s:=by
 have e:ji cs s=n2 (aE cs s):=by unfold ji;rw[if_neg hk,gu]
 refine pW _ _ (by rw[af,aw]) (d9 _ _) (cU cs s) ?_;rw[dq,e,Nat.mod_eq_of_lt];have:=wG (aE cs s) (cU cs s);rw[aw]at this;exact this
theorem Ks(cs:List Nat)(s:Nat)(hk:key cs s≠0):ji cs s<2 ^ key cs s:=by
 have e:ji cs s=n2 (aE cs s):=by unfold ji;rw[if_neg hk,gu]
 rw[e];have:=wG (aE cs s) (cU cs s);rw[aw]at this;exact this
theorem pJ(cs:List Nat)(s:Nat)(h:s<(dN cs).length):(dN cs)[s]=ji cs s:=by simp[dN]
theorem qU(w:World)(p g cap:Nat)(s:Value)(X:List Nat)(v:Value)(I:Nat→Prop)(cs:List Nat)(sn:List (Nat×Nat))(hw:WS w w p s s X)(hX:X.length≤1000000)(hs:StSrc w I v (sn.map (fun x=>((x.1:Int),(x.2:Int)))))(hI:∀k,I k→¬Fp p s k)
  (hr:NRow 0 w (.slice (some ⟨g,0,none⟩) 19 cap) cs) (hg:¬Fp p s g) (h7:∀x∈cs,x<=7) (hok:bm cs=0) (hst:pr cs sn) (Ip:sn.length<=1000):
  Calls Tryz.prog 118 #[.pointer (some ⟨p,0,none⟩),v,.slice (some ⟨g,0,none⟩) 19 cap] w λe w'=>(∃u,e=.returned u)/\∃s',WS w w' p s s' (X++sn.flatMap (aC cs)):=by
 have fq:=hr.len;obtain⟨ao,cv,rfl,fO,fX⟩:=id hs;clear fO fX;rw[List.length_map]at hs ⊢;have HC:=pG w _ _ (cs.map (fun(n:Nat)=>(n:Int))) cs ((SrcE.ofRow hr).recode (by rw[List.map_map];rfl)) (ql cs fq h7 hok) (by rw[iY cs fq h7];exact hok);have HW:Hid (WS w w p s s X):=hw;have HS:Hid (StSrc w I (.slice ao sn.length cv) (sn.map (λx=>((x.1:Int),(x.2:Int))))):=hs;have HI:Hid (∀k,I k->¬Fp p s k):=hI;have HR:Hid (NRow 0 w (.slice (some ⟨g,0,none⟩) 19 cap) cs):=hr;have HG:Hid (¬Fp p s g):=hg;have HST:Hid (pr cs sn):=hst;have H7:Hid (∀x∈cs,x<=7):=h7;have HFP:Hid (∀k,Fp p s k->k<w.heap.size):=hid (λk h=>hw.wr.fp_lt h);clear hw hs hI hr hg h7 hok hst;go_enter Tryz.func118,Tryz.ntmps118;go_wp2_with fail;refine HC.mono ?_;rintro e w1 ⟨⟨gc,nc,capc,rfl,hrc⟩,hk1⟩;have Et:=hrc.len;rw[fi,fq]at Et;subst Et;have HRC:Hid (Ag w.heap.size w1 (.slice (some ⟨gc,0,none⟩) 19 capc) (dN cs)):=hrc;have HK1:Hid (Same w w1):=hk1;have HW1:Hid (WS w1 w1 p s s X):=hid (WS.start (HW.out.wr.kept hk1 (λ_ _ f=>f)) HW.out.bit);have Hy:=hk1.size;have HGC:Hid (w.heap.size<=gc):=hid (hrc.ge (k:=gc) rfl);clear hrc hk1 HC;go_wp2_with fail;go_loopg [9,10,11,19] sn.length (λq _ _ _ zi wr=>∃(i:Nat) (si:Value),sn.length-i<=q/\i<=sn.length/\zi=.int .i64 (i:Nat)/\Hid (WS w1 wr p s si (X++(sn.take i).flatMap (aC cs))/\(X++(sn.take i).flatMap (aC cs)).length<=1000000+14*i))
 case atStart=>exact⟨0,s,by omega,by omega,rfl,hid ⟨by simpa using HW1.out,by simpa using hX⟩⟩
 case round=>
  clear HW1;obtain⟨i,si,hq,hi,rfl,HWI⟩:=hrel;by_cases hlt:i<sn.length
  ·have ut:=HWI.out.1.kept;obtain⟨b,o,rfl,_,c1,c2⟩:=StSrc.get (n:=sn.length) (cap:=cv) (SrcC.kept stC_ok (SrcC.kept stC_ok HS.out HK1.out (λ_ _ _ f=>f)) ut (λk h _=>HI.out k h)) i (by simpa using hlt);have LH:=HST.out _ (List.getElem_mem hlt);simp only[List.getElem_map]at c1 c2;obtain⟨x,hx⟩:∃x,x=sn[i].1:=⟨_,rfl⟩
   obtain⟨y,hy⟩:∃y,y=sn[i].2:=⟨_,rfl⟩
   rw[<-hx]at c1 LH;rw[<-hy]at c2 LH;obtain⟨QS,hkey,AC⟩:=LH;rw[fq]at QS;have dh:key cs x<=7:=(by rw[aY (by omega)];exact H7.out _ (List.getElem_mem _));have BV:=Ks cs x hkey;have N2:=vW x;have HBITS:Hid (X++(sn.take (i+1)).flatMap (aC cs)=X++(sn.take i).flatMap (aC cs)++aj (ji cs x) (key cs x)++aj y (dC x)):=hid (by
    rw[List.take_succ_eq_append_getElem hlt,List.flatMap_append,vm cs x hkey];simp[aC,hx,hy])
   have cg:wr.cell? ⟨g,x,none⟩=some (.int .i64 (key cs x:Nat)):=(by have h:=(HR.out.same HK1.out).kept ut (λk e f=>by simp[Value.ownBlock]at e;subst e;exact HG.out f);rw[h.cell x (by omega),aY (by omega)];rfl);have cc:wr.cell? ⟨gc,x,none⟩=some (.int .u32 (ji cs x:Nat)):=(by have h:=HRC.out.kept ut (λk e f=>by simp[Value.ownBlock]at e;subst e;have:=HFP.out gc f;have:=HGC.out;omega);rw[h.cell x (by rw[fi];omega),pJ];rfl);obtain⟨kx,Py⟩:∃kx,kx=key cs x:=⟨_,rfl⟩
   obtain⟨cx,qZ⟩:∃cx,cx=ji cs x:=⟨_,rfl⟩
   obtain⟨xb,gW⟩:∃xb,xb=dC x:=⟨_,rfl⟩
   have HSH:=λW2=>iM W2 (x:Int)
   rw[qC]at HSH;rw[<-Py]at cg dh BV HBITS;rw[<-qZ]at cc BV HBITS;rw[<-gW]at HSH AC N2 HBITS;have TR:y<2 ^ 7:=Nat.lt_of_lt_of_le AC (Nat.pow_le_pow_right (by decide) N2);have XT:IntKind.u32.wrap (y:Int)=(y:Int):=(by rw[IntKind.wrap_u32];omega);have HP1:Hid (∀W,Same wr W->Calls Tryz.prog 79 #[.pointer (some ⟨p,0,none⟩),.int .u32 (cx:Nat),.int .i64 (kx:Nat)] W λe w'=>e=.returned (.int .i64 0)/\(∃s',WS w1 w' p s s' (X++(sn.take i).flatMap (aC cs)++aj cx kx))/\Kept (Fp p si) W w'):=hid (λW hk=>jr w1 W p s si _ cx kx (HWI.out.1.same hk) (by omega) BV (by have:=HWI.out.2;omega));have HFI:Hid (∀k,Fp p si k->k<wr.heap.size):=hid (λk h=>HWI.out.1.wr.fp_lt h);have HLN:Hid ((X++(sn.take i).flatMap (aC cs)).length<=1000000+14*i):=HWI.out.2;have me:g<wr.heap.size:=World.block_lt_of_cell? wr _ cg;have W8:gc<wr.heap.size:=World.block_lt_of_cell? wr _ cc;have HFW:Hid (∀k,k=g\/k=gc\/k=wr.heap.size->¬Fp p si k):=hid (λk hk hf=>by
    rcases hk with rfl | rfl | rfl
    ·rcases hf with e | e
     ·exact HG.out (.inl e)
     ·rcases HWI.out.1.own _ e with h1 | h1
      ·exact HG.out (.inr h1)
      ·have:=HR.out.lt (k:=k) rfl;omega
    ·rcases hf with e | e
     ·have:=HFP.out k (.inl e);have:=HGC.out;omega
     ·rcases HWI.out.1.own _ e with h1 | h1
      ·have:=HFP.out k (.inr h1);have:=HGC.out;omega
      ·have:=HRC.out.lt (k:=k) rfl;omega
    ·have:=HFI.out _ hf;omega)
   have i1:(0:Int)<=(x:Int):=(by omega);have i2:(x:Int)<19:=(by omega);have HY:Hid (y<2 ^ xb):=AC;clear Py qZ gW hx hy hkey ut BV AC;go_wp2_with fail;refine(HSH _).mono ?_;rintro e w2 ⟨rfl,hw2⟩;have HK2:Hid (Same wr w2):=hid (by rw[hw2];exact(Kept.refl _ wr).alloc _);have d1:w2.cell? ⟨wr.heap.size,0,none⟩=some (.int .i64 (x:Nat)):=(by rw[hw2];simp);have d2:w2.cell? ⟨wr.heap.size,1,none⟩=some (.int .i64 (y:Nat)):=(by rw[hw2];simp);have d3:w2.cell? ⟨g,x,none⟩=some (.int .i64 (kx:Nat)):=HK2.out.cell cg (λf=>f);have d4:w2.cell? ⟨gc,x,none⟩=some (.int .u32 (cx:Nat)):=HK2.out.cell cc (λf=>f);clear hw2 HSH cg cc c1 c2;go_wp2_with fail;go_region_held3 (λw'=>w'.cell? ⟨wr.heap.size,0,none⟩=some (.int .i64 (x:Nat))/\w'.cell? ⟨wr.heap.size,1,none⟩=some (.int .i64 (y:Nat))/\w'.cell? ⟨g,x,none⟩=some (.int .i64 (kx:Nat))/\w'.cell? ⟨gc,x,none⟩=some (.int .u32 (cx:Nat)))
    (first
     | (go_split_ands;exact⟨hk5.cell (by assumption) (HFW.out _ (.inr (.inr rfl))),hk5.cell (by assumption) (HFW.out _ (.inr (.inr rfl))),hk5.cell (by assumption) (HFW.out _ (.inl rfl)),hk5.cell (by assumption) (HFW.out _ (.inr (.inl rfl)))⟩)
     | go_keep)
    (first
     | (go_at_call 79;refine(HP1.out _ (Same.trans HK2.out ((Kept.refl _ w2).drew))).mono ?_;rintro e w5 ⟨rfl,⟨s5,Ih⟩,hk5⟩))
   all_goals
    have f2:w5.cell? ⟨wr.heap.size,1,none⟩=some (.int .i64 (y:Nat)):=hk5.cell (show w2.drew.cell? ⟨wr.heap.size,1,none⟩=some (.int .i64 (y:Nat))from d2) (HFW.out _ (.inr (.inr rfl)));have HP2:=jr w1 w5 p s s5 _ y xb Ih (by omega) HY.out (by have:=HLN.out;rw[List.length_append,af];omega);clear Ih hk5 d1 d2 d3 d4;go_wp2_with fail;refine HP2.mono ?_;rintro e w6 ⟨rfl,⟨s6,hws6⟩,hk6⟩;have HW6:Hid (WS w1 w6 p s s6 (X++(sn.take (i+1)).flatMap (aC cs))/\(X++(sn.take (i+1)).flatMap (aC cs)).length<=1000000+14*(i+1)):=hid ⟨by rw[HBITS.out];exact hws6,by rw[HBITS.out,List.length_append,List.length_append,af,af];have:=HLN.out;omega⟩;clear hws6 hk6 HP2;go_wp2_with fail;go_roundg (gk-1)
    case measure=>omega
    case rel=>exact⟨i+1,s6,by omega,by omega,by go_num,HW6⟩
  ·have e1:sn.take i=sn:=List.take_of_length_le (by omega);rw[e1]at HWI;clear e1;go_wp2_with fail;go_end0;exact⟨⟨_,rfl⟩,si,WS.trans HW.out HK1.out HWI.out.1⟩
theorem FE(l:List Nat)(h:l≠[]):aZ l≠[]:=by
 cases l with
 | nil=>exact absurd rfl h
 | cons v r=>
  rw[gG];intro e;exact AV v (1+bG v r) (by omega) (List.append_eq_nil_iff.1 e).1
theorem Jc(xs ys:List Nat)(hx:∀n∈xs,n≤15)(hy:∀n∈ys,n≤15)(h1:257≤xs.length)(h2:xs.length≤286)(h3:1≤ys.length)(h4:ys.length≤30):
  lT xs ys (dE (cZ (aZ (xs++ys))) 19) (cZ (aZ (xs++ys))) (eJ (xs++ys)):=by
 have h15:∀n∈xs++ys,n<=15:=λn hn=>by
  rcases List.mem_append.1 hn with h | h
  ·exact hx n h
  ·exact hy n h
 have ag:(xs++ys).length<=316:=by rw[List.length_append];omega
 have bh:xs++ys≠[]:=λe=>by have:=congrArg List.length e;rw[List.length_append,List.length_nil]at this;omega
 have KH:=pP (xs++ys) h15;have hc:=EB (cZ (aZ (xs++ys))) 19 (by decide);obtain⟨s0,Is⟩:=List.exists_mem_of_ne_nil _ (FE _ bh);refine⟨h1,h2,h3,h4,hc.1,hc.2,iA _,Dv _,C6 _ s0 Is (by have:=KH s0 Is;have:=this.1;have:=(KH s0 Is).2.1;omega),λj hj BT=>zH _ 19 j hj BT,?_,?_⟩
 ·intro s hs;obtain⟨t,ht,rfl⟩:=List.mem_map.1 hs;have hi:=KH t ht;have hlt:t.1.toNat<19:=(by have:=hi.1;have:=hi.2.1;omega);exact⟨by rw[iA];exact hlt,Am _ t ht hlt,hi.2.2.2⟩
 ·rw[qc _ h15,CU _ _ [] h15 (by simp)];simp
theorem lp(xs ys:List Int):cH (xs++ys)=(cH xs && cH ys):=by unfold cH;rw[List.any_append,Bool.not_or]
def Fz(w w':World)(p:Nat)(s:Value)(X:List Nat)(xs ys:List Nat):Prop:=
 ∃s' many cs sn,(cs=cZ (aZ (xs++ys))/\many=dE cs 19/\sn=eJ (xs++ys))/\lT xs ys many cs sn/\sn.length<=xs.length+ys.length/\WS w w' p s s' (X++bC xs.length ys.length many cs sn)
theorem yW{zl zd:List Int}(h:EY zl zd=true):257<=zl.length/\zl.length<=286/\1<=zd.length/\zd.length<=30/\cH zl=true/\cH zd=true:=by unfold EY at h;simp only[Bool.and_eq_true,decide_eq_true_eq]at h;obtain⟨⟨⟨⟨⟨h1,h2⟩,h3⟩,h4⟩,h5⟩,h6⟩:=h;exact⟨h1,h2,h3,h4,h5,h6⟩
theorem qA{zl:List Int}(h:cH zl=true):∀n∈zl.map Int.toNat,n<=15:=by have hb:=(eQ zl).1 h;intro x hx;obtain⟨z,hz,rfl⟩:=List.mem_map.1 hx;have:=hb z hz;omega
theorem Dn(w:World)(p:Nat)(s:Value)(X:List Nat)(al ad:Option Addr)(L cl D cd:Nat)(I J:Nat→Prop)(zl zd:List Int)(hA:SrcE bI w I (.slice al L cl) zl)(hB:SrcE bI w J (.slice ad D cd) zd)(hm:EY zl zd=true)
  (hws:WS w w p s s X) (hX:X.length<=100000) (hT:Tab w) (Ic:¬Fp p s 0):
  Calls Tryz.prog 86 #[.pointer (some ⟨p,0,none⟩),.slice al L cl,.slice ad D cd] w λe w'=>e=.returned (.int .i64 0)/\Fz w w' p s X (zl.map Int.toNat) (zd.map Int.toNat):=by
 have yf:=hA.at.1;have yj:=hB.at.1;obtain⟨h1,h2,h3,h4,Ke,Kh⟩:=yW hm;rw[<-yf]at h1 h2;rw[<-yj]at h3 h4;have HHD:=Jc (zl.map Int.toNat) (zd.map Int.toNat) (qA Ke) (qA Kh) (by rw[List.length_map,<-yf];exact h1) (by rw[List.length_map,<-yf];exact h2) (by rw[List.length_map,<-yj];exact h3) (by rw[List.length_map,<-yj];exact h4);rw[<-List.map_append]at HHD;have Lx:=t7 ((zl++zd).map Int.toNat);have h15:∀n∈(zl++zd).map Int.toNat,n<=15:=qA (by rw[lp,Ke,Kh];rfl);have Ik:=qc ((zl++zd).map Int.toNat) h15;have KH:=pP ((zl++zd).map Int.toNat) h15;obtain⟨ns,hns⟩:∃ns,ns=(zl++zd).map Int.toNat:=⟨_,rfl⟩
 have ri:ns.length=L+D:=by rw[hns,List.length_map,List.length_append,<-yf,<-yj]
 have rF:(zl.map Int.toNat).length=L:=by rw[List.length_map,<-yf]
 have AF:(zd.map Int.toNat).length=D:=by rw[List.length_map,<-yj]
 rw[<-hns]at HHD Lx Ik KH;obtain⟨cs,eO⟩:∃cs,cs=cZ (aZ ns):=⟨_,rfl⟩
 rw[<-eO]at HHD;obtain⟨come,te⟩:∃x,x=dE cs 19:=⟨_,rfl⟩
 rw[<-te]at HHD;have HHO:Hid (lT (zl.map Int.toNat) (zd.map Int.toNat) come cs (eJ ns)):=HHD;have js:=HHD.m1;have UU:=HHD.m2;have Lz:=λW=>gT W (L:Int) 257 286
 have LK:=λW=>gT W (D:Int) 1 30
 have e1:yP (L:Int) 257 286=true:=by unfold yP;have h1:(257:Int)<=(L:Int):=(by omega);have h2:(L:Int)<=286:=(by omega);simp[h1,h2]
 have e2:yP (D:Int) 1 30=true:=by unfold yP;have h1:(1:Int)<=(D:Int):=(by omega);have h2:(D:Int)<=30:=(by omega);simp[h1,h2]
 rw[e1]at Lz;rw[e2]at LK;obtain⟨b1,o1,rfl⟩:∃b o,al=some ⟨b,o,none⟩:=by obtain⟨b1,o1,_,e3,_⟩:=hA.get 0 (by omega);simp only[Value.slice.injEq]at e3;exact⟨b1,o1,e3.1⟩
 obtain⟨b2,o2,rfl⟩:∃b o,ad=some ⟨b,o,none⟩:=by obtain⟨b2,o2,_,e4,_⟩:=hB.get 0 (by omega);simp only[Value.slice.injEq]at e4;exact⟨b2,o2,e4.1⟩
 obtain⟨W,hW⟩:∃W,W=w.alloc (.cells #[.slice (some ⟨b1,o1,none⟩) L cl,.slice (some ⟨b2,o2,none⟩) D cd] 138):=⟨_,rfl⟩
 have hk0:Same w W:=by rw[hW];exact(Kept.refl _ w).alloc _
 have HCC:=vY W w.heap.size L cl D cd ⟨b1,o1,none⟩ ⟨b2,o2,none⟩ I J zl zd (by rw[hW];simp) (by rw[hW];simp) (hA.same hk0) (hB.same hk0) (by omega) (by omega) (by omega);have HK0:Hid (Same w W):=hk0;have HPA:Hid (sK (zl++zd)=.ok (aZ ns)):=hid (by rw[qO (by rw[List.length_append];omega) (by rw[lp,Ke,Kh];rfl),<-hns]);have HLN:Hid ((zl++zd).length<=10000000):=hid (by rw[List.length_append];omega);have HIS:Hid (∀t∈aZ ns,0<=t.1/\t.1<=18):=hid (λt ht=>⟨(KH t ht).1,(KH t ht).2.1⟩);have HPL:Hid ((aZ ns).length<=1000):=hid (by have:=sk ns;omega);have HPN:Hid ((eJ ns).length<=L+D):=hid (by omega);have HCAST:Hid ((eJ ns).map (λx=>((x.1:Int),(x.2:Int)))=aZ ns):=Ik;have HCS:Hid (cs=cZ (aZ ns)):=eO;have HNS:Hid (ns=zl.map Int.toNat++zd.map Int.toNat):=hid (by rw[hns,List.map_append]);have HCO:Hid (come=dE cs 19):=te;have HXY:Hid ((zl.map Int.toNat).length=L/\(zd.map Int.toNat).length=D):=hid ⟨rF,AF⟩;have HWS:Hid (WS w w p s s X):=hws;have HT:Hid (Tab w):=hT;have HPG:Hid (¬Fp p s 0):=Ic;have HFP:Hid (∀k,Fp p s k->k<w.heap.size):=hid (λk h=>hws.wr.fp_lt h);obtain⟨l1,l6⟩:∃x,x=L-257:=⟨_,rfl⟩
 obtain⟨d1,Cb⟩:∃x,x=D-1:=⟨_,rfl⟩
 obtain⟨c1,eH⟩:∃x,x=come-4:=⟨_,rfl⟩
 have HVAL:Hid (l1=L-257/\d1=D-1/\c1=come-4):=hid ⟨l6,Cb,eH⟩;have Wg:(L:Int)-257=(l1:Int):=by omega
 have V9:(D:Int)-1=(d1:Int):=by omega
 have Ww:(come:Int)-4=(c1:Int):=by omega
 have R8:l1<2 ^ 5:=by omega
 have QG:d1<2 ^ 5:=by omega
 have RH:c1<2 ^ 4:=by omega
 have VU:IntKind.u32.wrap (l1:Int)=(l1:Int):=by rw[IntKind.wrap_u32];omega
 have Xe:IntKind.u32.wrap (d1:Int)=(d1:Int):=by rw[IntKind.wrap_u32];omega
 have Vj:IntKind.u32.wrap (c1:Int)=(c1:Int):=by rw[IntKind.wrap_u32];omega
 clear hA hB hm hk0 Ke Kh yf yj HHD Lx h15 Ik KH hns eO te hws hT Ic ri rF AF l6 Cb eH e1 e2 h3 h4;go_enter Tryz.func86,Tryz.ntmps86;go_wp2_with fail;refine(Lz _).mono ?_;rintro e wx ⟨rfl,Vu⟩;subst Vu;go_wp2_with fail;refine(LK _).mono ?_;rintro e w0 ⟨rfl,ly⟩;subst ly;clear Lz LK;go_wp2_with fail;rw[<-hW];clear hW;refine HCC.mono ?_;rintro e w3 ⟨v3,rfl,hr3,hk3⟩;have HK3:Hid (Same w0 w3):=hid (Same.trans HK0.out hk3);have HPK:=CL w3 _ _ _ (SrcE.ofRow hr3) HLN.out;rw[HPA.out]at HPK;clear hr3 hk3 HCC;go_wp2_with fail;refine HPK.mono ?_;rintro e w4 ⟨v4,rfl,hr4,hk4⟩;have HR4:Hid (fC w3.heap.size w4 v4 (aZ ns)):=hr4;have HK4:Hid (Same w0 w4):=hid (Same.trans HK3.out hk4);have HCL:=oV w4 _ _ (aZ ns) (SrcC.ofRow stC_ok hr4) HIS.out HPL.out;rw[<-HCS.out]at HCL;clear hr4 hk4 HPK;go_wp2_with fail;refine HCL.mono ?_;rintro e w5 ⟨⟨g,ng,capg,rfl,hrg,rN⟩,hk5⟩;have Tb:=hrg.len;rw[HCS.out,iA]at Tb;subst Tb;have HRG:Hid (NRow 0 w5 (.slice (some ⟨g,0,none⟩) 19 capg) cs):=hrg;have HK5:Hid (Same w0 w5):=hid (Same.trans HK4.out hk5);have HR5:Hid (fC w3.heap.size w5 v4 (aZ ns)):=hid (RowC.kept HR4.out hk5 (λ_ _ f=>f));have HT5:Hid (Tab w5):=hid (HT.out.kept HK5.out (λf=>f));have HCM:=zC w5 g capg cs hrg HT5.out;rw[<-HCO.out]at HCM;have HG5:Hid (w4.heap.size<=g/\g<w5.heap.size):=hid ⟨rN,hrg.lt (k:=g) rfl⟩;have ul:=HK3.out.size;have D8:=HK4.out.size;have JY:=HK5.out.size;have HV4:Hid (∀k,v4.ownBlock=some k->w3.heap.size<=k/\k<w5.heap.size):=hid (λk e=>⟨HR5.out.ge e,HR5.out.lt e⟩);have HWS5:Hid (WS w5 w5 p s s X):=hid (WS.start (HWS.out.wr.kept HK5.out (λ_ _ f=>f)) HWS.out.bit);clear hrg hk5 rN HCL;go_wp2_with fail;refine HCM.mono ?_;rintro e w6 ⟨rfl,hw6⟩;subst hw6;have HP1:=jr w6 w6 p s s X l1 5 HWS5.out (by decide) R8 (by omega);clear HCM;go_wp2_with fail;refine HP1.mono ?_;rintro e w7 ⟨rfl,⟨s7,NK⟩,_⟩;have HP2:=jr w6 w7 p s s7 _ d1 5 NK (by decide) QG (by rw[List.length_append,af];omega);clear HP1;go_wp2_with fail;refine HP2.mono ?_;rintro e w8 ⟨rfl,⟨s8,OO⟩,_⟩;have HP3:=jr w6 w8 p s s8 _ c1 4 OO (by decide) RH (by rw[List.length_append,List.length_append,af,af];omega);clear HP2 NK;go_wp2_with fail;refine HP3.mono ?_;rintro e w9 ⟨rfl,⟨s9,Eb⟩,_⟩;obtain⟨X3,Qh⟩:∃X3,X3=X++aj l1 5++aj d1 5++aj c1 4:=⟨_,rfl⟩
 rw[<-Qh]at Eb;have HX3:Hid (X3=X++aj l1 5++aj d1 5++aj c1 4/\X3.length<=100014):=hid ⟨Qh,by rw[Qh];simp only[List.length_append,af];omega⟩;have HWS9:Hid (WS w6 w9 p s s9 X3):=Eb;clear HP3 OO Eb Qh;go_wp2_with fail;go_loopg [11,57] come (λq _ zi wr=>∃(i:Nat) (si:Value),come-i<=q/\i<=come/\zi=.int .i64 (i:Nat)/\Hid (WS w6 wr p s si (X3++aO cs i)))
 case atStart=>exact⟨0,s9,by omega,by omega,rfl,hid (by simpa[aO]using HWS9.out)⟩
 case round=>
  clear HWS9;obtain⟨i,si,hq,hi,rfl,HWI⟩:=hrel;have ut:=HWI.out.kept;by_cases hlt:i<come
  ·have ct:=(HT5.out.kept ut HPG.out) i (by omega);have Hb:=tS i (by omega);obtain⟨oi,Hr⟩:∃x,x=ord.getD i 0:=⟨_,rfl⟩
   rw[<-Hr]at ct Hb;have HRW:Hid (NRow 0 wr (.slice (some ⟨g,0,none⟩) 19 capg) cs):=hid (HRG.out.kept ut (λk e f=>by simp[Value.ownBlock]at e;subst e;have h1:=HFP.out _ f;have h2:=HG5.out;omega));have fq:=HRG.out.len;obtain⟨x,hx⟩:∃x,x=cs.getD oi 0:=⟨_,rfl⟩
   have jt:x=cs[oi]'(by omega):=(by rw[hx,List.getD_eq_getElem?_getD,List.getElem?_eq_getElem (by omega)];rfl);have QF:x<=7:=(by rw[jt];exact HHO.out.c7 _ (List.getElem_mem _));have cg:wr.cell? ⟨g,oi,none⟩=some (.int .i64 (x:Nat)):=(by rw[HRW.out.cell oi (by omega),jt];rfl);have KL:IntKind.u32.wrap (x:Int)=(x:Int):=(by rw[IntKind.wrap_u32];omega);have HPT:=jr w6 wr p s si _ x 3 HWI.out (by decide) (by omega) (by rw[List.length_append,cM];have:=HX3.out.2;omega);have HBT:Hid (X3++aO cs (i+1)=X3++aO cs i++aj x 3):=hid (by rw[aO,<-Hr,<-hx,List.append_assoc]);clear hx jt Hr ut HRW;go_wp2_with fail;refine HPT.mono ?_;rintro e wy ⟨rfl,⟨sy,NU⟩,_⟩;have W5:Hid (WS w6 wy p s sy (X3++aO cs (i+1))):=hid (by rw[HBT.out];exact NU);clear NU HPT ct cg;go_wp2_with fail;go_roundg (gk-1)
   case measure=>omega
   case rel=>exact⟨i+1,sy,by omega,by omega,by go_num,W5⟩
  ·have Ri:i=come:=(by omega);subst Ri;clear hq hlt;have HFS:Hid (∀k,Fp p si k->k<w0.heap.size\/w6.heap.size<=k):=hid (λk hf=>by
    rcases hf with e | e
    ·exact .inl (HFP.out k (.inl e))
    ·rcases HWI.out.own k e with h | h
     ·exact .inl (HFP.out k (.inr h))
     ·exact .inr h)
   have hrow:fC w3.heap.size wr v4 (aZ ns):=RowC.kept HR5.out ut (λk e f=>by have h1:=HFP.out k f;have h2:=(HV4.out k e).1;omega);have Ox:NRow 0 wr (.slice (some ⟨g,0,none⟩) 19 capg) cs:=HRG.out.kept ut (λk e f=>by simp[Value.ownBlock]at e;subst e;have h1:=HFP.out _ f;have h2:=HG5.out;omega);have hsrc:StSrc wr (λk=>v4.ownBlock=some k) v4 ((eJ ns).map (λx=>((x.1:Int),(x.2:Int)))):=(by rw[HCAST.out];exact SrcC.ofRow stC_ok hrow);have HWT:=qU wr p g capg si (X3++aO cs i) v4 _ cs (eJ ns) (WS.start HWI.out.wr HWI.out.bit) (by rw[List.length_append,cM];have:=HX3.out.2;omega) hsrc
    (λk e f=>by have h1:=HV4.out k e;have h2:=HFS.out k f;omega) Ox (λf=>by have h1:=HG5.out;have h2:=HFS.out g f;omega) HHO.out.c7 HHO.out.ok HHO.out.st (by have:=HPN.out;omega)
   clear hrow Ox hsrc ut;go_wp2_with fail;refine HWT.mono ?_;rintro e wz ⟨⟨u,rfl⟩,sz,nk⟩;have HWZ:Hid (WS w0 wz p s sz (X++bC L D i cs (eJ ns))):=hid (by
    have h:=(WS.trans HWI.out (Kept.refl _ wr) nk).base HK5.out;have e:X++bC L D i cs (eJ ns)=X3++aO cs i++(eJ ns).flatMap (aC cs):=(by rw[HX3.out.1,HVAL.out.1,HVAL.out.2.1,HVAL.out.2.2];unfold bC;simp only[List.append_assoc]);rw[e];exact h)
   clear nk HWT;go_wp2_with fail;go_ret;refine⟨rfl,sz,i,cs,eJ ns,⟨by rw[<-HNS.out];exact HCS.out,HCO.out,by rw[<-HNS.out]⟩,HHO.out,?_,?_⟩
   ·rw[HXY.out.1,HXY.out.2];exact HPN.out
   ·rw[HXY.out.1,HXY.out.2];exact HWZ.out
end Go.Proofs.YtllcnlnbpikhdaaGreatDoor
