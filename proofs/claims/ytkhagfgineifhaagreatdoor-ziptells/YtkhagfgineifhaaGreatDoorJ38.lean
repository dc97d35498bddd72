import Derived.Deep.RegionHeld3
import Derived.Test.YtkhagfgineifhaaGreatDoorJ35
import Derived.Test.YtkhagfgineifhaaGreatDoorJ37
set_option maxHeartbeats 4000000
set_option maxRecDepth 100000
namespace Go.Proofs.YtkhagfgineifhaaGreatDoor
open Go.RowKit
structure WS(wb w:World)(p:Nat)(s0 s:Value)(X:List Nat):Prop where
 wr:Wr w p s (n2 X) X.length
 bit:∀b∈X,b<2
 kept:Kept (Fp p s0) wb w
 own:∀k,s.ownBlock=some k->s0.ownBlock=some k\/wb.heap.size<=k
theorem WS.start{w:World}{p:Nat}{s:Value}{X:List Nat}(h:Wr w p s (n2 X) X.length)(hb:∀b∈X,b<2):WS w w p s s X:=⟨h,hb,Kept.refl _ _,λ_ e=>.inl e⟩
theorem WS.same{wb w w':World}{p:Nat}{s0 s:Value}{X:List Nat}(h:WS wb w p s0 s X)(hk:Same w w'):WS wb w' p s0 s X:=
 ⟨h.wr.kept hk (λ_ _ f=>f),h.bit,Kept.trans h.kept hk (λ_ _ x=>x) (λ_ _ f=>f.elim),h.own⟩
theorem WS.base{wa wb w:World}{p:Nat}{s0 s:Value}{X:List Nat}(h:WS wb w p s0 s X)(hk:Same wa wb):WS wa w p s0 s X:=
 ⟨h.wr,h.bit,Kept.trans (hk.mono (λ_ _ f=>f.elim)) h.kept (λ_ _ x=>x) (λ_ _ x=>x),λk e=>by
  rcases h.own k e with h1 | h1
  ·exact .inl h1
  ·exact .inr (Nat.le_trans hk.size h1)⟩
theorem jm(wb w:World)(p:Nat)(s0 s:Value)(X:List Nat)(v n:Nat)(h:WS wb w p s0 s X)(hn:n≤32)(hv:v<2 ^ n)(hc:X.length≤1000000000):
  Calls Tryz.prog 89 #[.pointer (some ⟨p,0,none⟩),.int .u32 (v:Nat),.int .i64 (n:Nat)] w λe w'=>e=.returned (.int .i64 0)/\(∃s',WS wb w' p s0 s' (X++aj v n))/\Kept (Fp p s) w w':=by
 refine(Gl p v n _ _ s w hn hv h.wr (by omega)).mono ?_;rintro e w' ⟨rfl,s',hw,hk,hg⟩;refine⟨rfl,⟨s',?_,?_,?_,?_⟩,hk⟩
 ·rw[Mi X v n hv,List.length_append,af];exact hw
 ·intro b hb;rcases List.mem_append.1 hb with h1 | h1
  ·exact h.bit b h1
  ·exact ei _ _ b h1
 ·refine Kept.trans h.kept hk (λ_ _ x=>x) (λk hk2 hf=>?_);rcases hf with e | e
  ·exact .inl e
  ·rcases h.own k e with h1 | h1
   ·exact .inr h1
   ·omega
 ·intro k e;rcases hg with h1 | h1
  ·exact h.own k (by rw[<-h1];exact e)
  ·exact .inr (Nat.le_trans h.kept.size (h1 k e))
theorem pX{α:Type}{p:List α->Prop}(h0:p [])(h1:∀r s,p r->p (r++[s]))(l:List α):p l:=by
 have h:∀m:List α,p m.reverse:=by
  intro m
  induction m with
  | nil=>simpa using h0
  | cons a r ih=>rw[List.reverse_cons];exact h1 _ _ ih
 simpa using h l.reverse
def dQ(ss:List (Int×Int)):List Nat:=ss.foldl (λl s=>l.set s.1.toNat (l.getD s.1.toNat 0+1)) (List.replicate 19 0)
theorem kS(ss:List (Int×Int))(s:Int×Int):dQ (ss++[s])=(dQ ss).set s.1.toNat ((dQ ss).getD s.1.toNat 0+1):=by unfold dQ;rw[List.foldl_append];rfl
theorem dH(ss:List (Int×Int)):(dQ ss).length=19:=by
 refine pX (p:=λl=>(dQ l).length=19) ?_ ?_ ss
 ·simp[dQ]
 ·intro r s ih;rw[kS,List.length_set,ih]
theorem Cf(ss:List (Int×Int)):∀x∈dQ ss,x<=ss.length:=by
 refine pX (p:=λl=>∀x∈dQ l,x<=l.length) ?_ ?_ ss
 ·intro x hx;have:=List.eq_of_mem_replicate hx;omega
 ·intro r s ih x hx;rw[kS]at hx;rw[List.length_append,List.length_singleton];rcases List.mem_or_eq_of_mem_set hx with h | h
  ·have:=ih x h;omega
  ·have:(dQ r).getD s.1.toNat 0≤r.length:=by
    by_cases hl:s.1.toNat<(dQ r).length
    ·rw[List.getD_eq_getElem?_getD,List.getElem?_eq_getElem hl];exact ih _ (List.getElem_mem hl)
    ·rw[List.getD_eq_getElem?_getD,List.getElem?_eq_none (by omega)];exact Nat.zero_le _
   omega
theorem vV(ss:List (Int×Int))(s:Int×Int)(hs:s∈ss)(Co:s.1.toNat<19):key (dQ ss) s.1.toNat≠0:=by
 revert hs
 refine pX (p:=λl=>s∈l->key (dQ l) s.1.toNat≠0) ?_ ?_ ss
 ·intro h;simp at h
 ·intro r t ih hs;unfold key;rw[kS];have hl:=dH r;by_cases e:t.1.toNat=s.1.toNat
  ·rw[e,List.getD_eq_getElem?_getD,List.getElem?_set_self (by omega)];simp
  ·rw[List.getD_eq_getElem?_getD,List.getElem?_set_ne e,<-List.getD_eq_getElem?_getD];rcases List.mem_append.1 hs with h | h
   ·exact ih h
   ·simp at h;subst h;exact absurd rfl e
theorem B8(ns:List Nat)(most s:Nat)(hs:s<ns.length)(hk:key ns s≠0)(cL:(aD ns).length<=2 ^ most)(h1:1<=most)(h15:most<=15):key (dS ns most) s≠0:=by
 have hl:s<(dS ns most).length:=by rw[iw];exact hs
 rw[aZ hl,qt,if_neg hk];split
 ·omega
 ·rename_i h2;have hm:Many ns most:=⟨by omega,cL,h1,h15⟩
  have hr:s∈aD ns:=aW.2 ⟨hs,hk⟩;have:=hm.pos ((aD ns).idxOf s) (List.idxOf_lt_length_of_mem hr);omega
def cZ(ss:List (Int×Int)):List Nat:=dS (dQ ss) 7
theorem jA(ss:List (Int×Int)):(aD (dQ ss)).length<=2 ^ 7:=by have h1:=cJ (dQ ss);have h2:=dH ss;omega
theorem iK(ss:List (Int×Int)):(cZ ss).length=19:=by unfold cZ;rw[iw,dH]
theorem C9(ss:List (Int×Int)):∀x∈cZ ss,x<=7:=Hl _ 7 (jA ss) (by decide) (by decide)
theorem AF(ss:List (Int×Int))(s:Int×Int)(hs:s∈ss)(Co:s.1.toNat<19):key (cZ ss) s.1.toNat≠0:=B8 _ 7 _ (by rw[dH];exact Co) (vV ss s hs Co) (jA ss) (by decide) (by decide)
theorem DS(ss:List (Int×Int))(s:Int×Int)(hs:s∈ss)(Co:s.1.toNat<19):bw (cZ ss)=0:=by refine tn _ 7 ?_ (jA ss) (by decide) (by decide);exact List.length_pos_of_mem (aW.2 ⟨by rw[dH];exact Co,vV ss s hs Co⟩)
theorem ph(w:World)(v:Value)(I:Nat→Prop)(ss:List (Int×Int))(hs:StSrc w I v ss)(hst:∀s∈ss,0≤s.1∧s.1≤18)(ag:ss.length≤1000):
  Calls Tryz.prog 126 #[v] w λe w'=>(∃g n cap,e=.returned (.slice (some ⟨g,0,none⟩) n cap)/\NRow 0 w' (.slice (some ⟨g,0,none⟩) n cap) (cZ ss)/\w.heap.size<=g)/\Same w w':=by
 obtain⟨ao,cap,rfl,ic,gh⟩:=id hs;clear ic gh;have HS:Hid (StSrc w I (.slice ao ss.length cap) ss):=hs;have HST:Hid (∀s∈ss,0<=s.1/\s.1<=18):=hst;clear hs hst;go_enter Tryz.func126,Tryz.ntmps126;go_wp2_with (at_make;refine dm _ am 0 w.heap.size 143 3 8 Tryz.underlying143 Tryz.infoN rfl (by decide) rfl _ _ rfl _ _ _ _ 19 rfl rfl rfl rfl (by decide) (Nat.le_refl _) ?_;intro w3 hr3 jW hs3;have HR3:Hid (NRow w.heap.size w3 (.slice (some ⟨w.heap.size,0,none⟩) 19 19) (dQ [])):=hid hr3;have HK3:Hid (Same w w3):=hid ((Kept.refl _ w).grown jW (λj e=>by cases e));clear hr3 jW);go_loopg [5,11] ss.length (λq _ zi wr=>∃(i:Nat),ss.length-i<=q/\i<=ss.length/\zi=.int .i64 (i:Nat)/\Hid (NRow w.heap.size wr (.slice (some ⟨w.heap.size,0,none⟩) 19 19) (dQ (ss.take i)))/\Hid (Same w wr))
 case atStart=>exact⟨0,by omega,by omega,rfl,hid (by simpa using HR3.out),HK3⟩
 case round=>
  clear HR3 HK3 hs3;obtain⟨i,hq,hi,rfl,HV,HK⟩:=hrel;by_cases hlt:i<ss.length
  ·obtain⟨b,o,rfl,_,c1,c2⟩:=StSrc.get (n:=ss.length) (cap:=cap) (SrcC.kept stC_ok HS.out HK.out (λ_ _ _ f=>f)) i hlt;have Nm:=HST.out _ (List.getElem_mem hlt);obtain⟨x,hx⟩:∃x:Nat,ss[i].1=(x:Int):=⟨ss[i].1.toNat,by omega⟩
   obtain⟨y,hy⟩:∃y,y=ss[i].2:=⟨_,rfl⟩
   rw[hx]at c1 Nm;rw[<-hy]at c2;have Vz:x<19:=(by omega);have HSN:Hid (dQ (ss.take (i+1))=(dQ (ss.take i)).set x ((dQ (ss.take i)).getD x 0+1)):=hid (by rw[List.take_succ_eq_append_getElem hlt,kS,hx,Int.toNat_natCast]);have ey:=dH (ss.take i);obtain⟨old,hold⟩:∃old,old=(dQ (ss.take i)).getD x 0:=⟨_,rfl⟩
   have UV:old<=1000:=(by have h:=Cf (ss.take i) (dQ (ss.take i))[x] (List.getElem_mem (by omega));rw[hold,List.getD_eq_getElem?_getD,List.getElem?_eq_getElem (by omega)];simp only[Option.getD_some];rw[List.length_take]at h;omega);have XV:wr.cell? ⟨w.heap.size,x,none⟩=some (.int .i64 (old:Nat)):=(by have h:=HV.out.cell x (by omega);rw[h,hold,List.getD_eq_getElem?_getD,List.getElem?_eq_getElem (by omega)];rfl);obtain⟨W2,lN⟩:∃W2,W2=wr.alloc (.cells #[.int .i64 (x:Nat),.int .i64 y] 226):=⟨_,rfl⟩
   have hk2:Same wr W2:=(by rw[lN];exact(Kept.refl _ wr).alloc _);have HV2:Hid (NRow w.heap.size W2 (.slice (some ⟨w.heap.size,0,none⟩) 19 19) (dQ (ss.take i))):=hid (HV.out.same hk2);have PH:=HK.out.size;have bm:wr.heap.size≠w.heap.size:=(by have:=HV.out.lt (k:=w.heap.size) rfl;omega);have fl:wr.frozen? ⟨w.heap.size,x,none⟩=false:=HV.out.frozen x;have XZ:W2.cell? ⟨w.heap.size,x,none⟩=some (.int .i64 (old:Nat)):=hk2.cell XV (λf=>f);have WH:W2.frozen? ⟨w.heap.size,x,none⟩=false:=HV2.out.frozen x;rw[lN]at XZ WH;have HVN:Hid (NRow w.heap.size (W2.setCell ⟨w.heap.size,x,none⟩ (.int .i64 ((old+1:Nat):Int))) (.slice (some ⟨w.heap.size,0,none⟩) 19 19) (dQ (ss.take (i+1)))):=hid (by rw[HSN.out,<-hold];exact HV2.out.lay x (old+1));have HKN:Hid (Same w (W2.setCell ⟨w.heap.size,x,none⟩ (.int .i64 ((old+1:Nat):Int)))):=hid ((Same.trans HK.out hk2).setCell _ _ (.inr (Nat.le_refl _)));rw[lN]at HVN HKN;obtain⟨o1,KM⟩:∃o1,o1=old+1:=⟨_,rfl⟩
   have Vp:(old:Int)+1=(o1:Int):=(by omega);have XL:IntKind.i64.wrap (o1:Int)=(o1:Int):=(by rw[IntKind.wrap_i64];omega);rw[<-KM]at HVN HKN;clear hx hy Nm hold hk2 HV2 lN KM ey HV;go_wp2_with fail;go_roundg (gk-1)
   case measure=>omega
   case rel=>exact⟨i+1,by omega,by omega,by go_num,HVN,HKN⟩
  ·have e1:ss.take i=ss:=List.take_of_length_le (by omega);rw[e1]at HV;have ey:=dH ss;have hsrc:SrcE bI wr _ (.slice (some ⟨w.heap.size,0,none⟩) 19 19) ((dQ ss).map (fun(n:Nat)=>(n:Int))):=(SrcE.ofRow HV.out).recode (by rw[List.map_map];rfl);have hok:eC ((dQ ss).map (fun(n:Nat)=>(n:Int))) 0 1000000000000=true:=by
    unfold eC;have h1:((dQ ss).map (fun(n:Nat)=>(n:Int))).length=19:=(by rw[List.length_map,ey]);rw[h1];have h2:((dQ ss).map (fun(n:Nat)=>(n:Int))).any (d6 0 1000000000000)=false:=by rw[List.any_eq_false];intro z hz;obtain⟨n,hn,rfl⟩:=List.mem_map.1 hz;have:=Cf ss n hn;simp[d6];omega
    rw[h2];decide
   have Pj:dQ ss=((dQ ss).map (fun(n:Nat)=>(n:Int))).map Int.toNat:=by
    rw[List.map_map];conv=>lhs;rw[<-List.map_id (dQ ss)]
    exact List.map_congr_left (λx _=>by simp)
   have HLM:=qm wr _ _ _ (dQ ss) 7 hsrc hok Pj (by decide) (by decide) (jA ss);have PH:=HK.out.size;clear hsrc hok Pj ey e1 HV;go_wp2_with fail;refine HLM.mono ?_;rintro e w5 ⟨⟨g,n,c5,rfl,hr5,ef⟩,hk5⟩;have HR5:Hid (NRow 0 w5 (.slice (some ⟨g,0,none⟩) n c5) (cZ ss)):=hr5;have HK5:Hid (Same w w5):=hid (Same.trans HK.out hk5);clear hr5 hk5 HLM;go_wp2_with fail;go_ret;exact⟨⟨g,n,c5,rfl,HR5.out,by omega⟩,HK5.out⟩
theorem Am(w:World)(g cap:Nat)(cs:List Nat)(hr:NRow 0 w (.slice (some ⟨g,0,none⟩) 19 cap) cs)(hT:Tab w):
  Calls Tryz.prog 127 #[.slice (some ⟨g,0,none⟩) 19 cap] w λe w'=>e=.returned (.int .i64 (dL cs 19:Nat))/\w'=w:=by
 have ey:=hr.len;have HR:Hid (NRow 0 w (.slice (some ⟨g,0,none⟩) 19 cap) cs):=hr;have HT:Hid (Tab w):=hT;clear hr hT;go_enter Tryz.func127,Tryz.ntmps127;go_wp2_with fail;go_loopg [3] 19 (λq z wr=>∃(k:Nat),k<=q/\4<=k/\k<=19/\z=.int .i64 (k:Nat)/\Hid (dL cs 19=dL cs k)/\wr=w)
 case atStart=>exact⟨19,by omega,by omega,by omega,rfl,rfl,rfl⟩
 case round=>
  obtain⟨k,hq,hk4,Rm,rfl,HC,hw⟩:=hrel;subst hw;by_cases NO:4<k
  ·obtain⟨j,rfl⟩:∃j,k=j+1:=⟨k-1,by omega⟩
   have ct:=HT.out j (by omega);have IG:=uJ j (by omega);obtain⟨oi,IX⟩:∃x,x=ord.getD j 0:=⟨_,rfl⟩
   rw[<-IX]at ct IG;obtain⟨x,hx⟩:∃x,x=cs.getD oi 0:=⟨_,rfl⟩
   have cl:wr.cell? ⟨g,oi,none⟩=some (.int .i64 (x:Nat)):=(by have h:=HR.out.cell oi (by omega);rw[h,hx,List.getD_eq_getElem?_getD,List.getElem?_eq_getElem (by omega)];rfl);have HCJ:Hid (dL cs (j+1)=if x=0 then dL cs j else j+1):=hid (by
    rw[dL,<-IX,<-hx];by_cases h0:x=0
    ·rw[if_pos ⟨NO,h0⟩,if_pos h0]
    ·rw[if_neg (λh=>h0 h.2),if_neg h0])
   obtain⟨j1,PZ⟩:∃j1,j1=j+1:=⟨_,rfl⟩
   rw[<-PZ]at HC HCJ hq hk4 Rm NO ⊢;have ZW:(j1:Int)-1=(j:Int):=(by omega);have QV:IntKind.i64.wrap (j:Int)=(j:Int):=(by rw[IntKind.wrap_i64];omega);have Xu:j<19:=(by omega);have HJ:Hid (j1=j+1):=PZ;clear hx IX PZ;by_cases h0:x=0
   ·have HC2:Hid (dL cs 19=dL cs j):=hid (by rw[HC.out,HCJ.out,if_pos h0]);subst h0;go_wp2_with fail;go_roundg (gk-1)
    case measure=>omega
    case rel=>exact⟨j,by have:=HJ.out;omega,by have:=HJ.out;omega,by omega,rfl,HC2,rfl⟩
   ·have HC2:Hid (dL cs 19=j1):=hid (by rw[HC.out,HCJ.out,if_neg h0,HJ.out]);have yH:((x:Int)==0)=false:=(by simp;omega);clear h0;go_wp2_with fail;go_ret;exact⟨by rw[HC2.out];rfl,rfl⟩
  ·have hk:k=4:=(by omega);subst hk;have HC2:Hid (dL cs 19=4):=hid (by rw[HC.out];rfl);go_wp2_with fail;go_ret;exact⟨by rw[HC2.out];rfl,rfl⟩
theorem WS.trans{wb w w1 w':World}{p:Nat}{s0 s s':Value}{X Y:List Nat}(h:WS wb w p s0 s X)(hk:Same w w1)(h2:WS w1 w' p s s' Y):WS wb w' p s0 s' Y:=by
 have hf:∀k,k<wb.heap.size->Fp p s k->Fp p s0 k:=λk hk hf=>by
  rcases hf with e | e
  ·exact .inl e
  ·rcases h.own k e with h1 | h1
   ·exact .inr h1
   ·omega
 refine⟨h2.wr,h2.bit,Kept.trans (Kept.trans h.kept hk (λ_ _ x=>x) (λ_ _ f=>f.elim)) h2.kept (λ_ _ x=>x) (λk hk2 x=>hf k hk2 x),λk e=>?_⟩;rcases h2.own k e with h1 | h1
 ·exact h.own k h1
 ·exact .inr (by have:=h.kept.size;have:=hk.size;omega)
theorem xo(cs:List Nat)(s:Nat)(hk:key cs s≠0):aj (jp cs s) (key cs s)=aE cs s:=by
 have e:jp cs s=n2 (aE cs s):=by unfold jp;rw[if_neg hk,g8]
 refine qR _ _ (by rw[af,aq]) (ei _ _) (cX cs s) ?_;rw[eh,e,Nat.mod_eq_of_lt];have:=vR (aE cs s) (cX cs s);rw[aq]at this;exact this
theorem Lc(cs:List Nat)(s:Nat)(hk:key cs s≠0):jp cs s<2 ^ key cs s:=by
 have e:jp cs s=n2 (aE cs s):=by unfold jp;rw[if_neg hk,g8]
 rw[e];have:=vR (aE cs s) (cX cs s);rw[aq]at this;exact this
theorem qa(cs:List Nat)(s:Nat)(h:s<(dR cs).length):(dR cs)[s]=jp cs s:=by simp[dR]
theorem ql(w:World)(p g cap:Nat)(s:Value)(X:List Nat)(v:Value)(I:Nat→Prop)(cs:List Nat)(sn:List (Nat×Nat))(hw:WS w w p s s X)(hX:X.length≤1000000)(hs:StSrc w I v (sn.map (fun x=>((x.1:Int),(x.2:Int)))))(hI:∀k,I k→¬Fp p s k)
  (hr:NRow 0 w (.slice (some ⟨g,0,none⟩) 19 cap) cs) (hg:¬Fp p s g) (h7:∀x∈cs,x<=7) (hok:bw cs=0) (hst:pB cs sn) (Jj:sn.length<=1000):
  Calls Tryz.prog 128 #[.pointer (some ⟨p,0,none⟩),v,.slice (some ⟨g,0,none⟩) 19 cap] w λe w'=>(∃u,e=.returned u)/\∃s',WS w w' p s s' (X++sn.flatMap (aC cs)):=by
 have ey:=hr.len;obtain⟨ao,cv,rfl,ic,gh⟩:=id hs;clear ic gh;rw[List.length_map]at hs ⊢;have HC:=rG w _ _ (cs.map (fun(n:Nat)=>(n:Int))) cs ((SrcE.ofRow hr).recode (by rw[List.map_map];rfl)) (qK cs ey h7 hok) (by rw[iY cs ey h7];exact hok);have HW:Hid (WS w w p s s X):=hw;have HS:Hid (StSrc w I (.slice ao sn.length cv) (sn.map (λx=>((x.1:Int),(x.2:Int))))):=hs;have HI:Hid (∀k,I k->¬Fp p s k):=hI;have HR:Hid (NRow 0 w (.slice (some ⟨g,0,none⟩) 19 cap) cs):=hr;have HG:Hid (¬Fp p s g):=hg;have HST:Hid (pB cs sn):=hst;have H7:Hid (∀x∈cs,x<=7):=h7;have HFP:Hid (∀k,Fp p s k->k<w.heap.size):=hid (λk h=>hw.wr.fp_lt h);clear hw hs hI hr hg h7 hok hst;go_enter Tryz.func128,Tryz.ntmps128;go_wp2_with fail;refine HC.mono ?_;rintro e w1 ⟨⟨gc,nc,capc,rfl,hrc⟩,hk1⟩;have Fb:=hrc.len;rw[fD,ey]at Fb;subst Fb;have HRC:Hid (Ah w.heap.size w1 (.slice (some ⟨gc,0,none⟩) 19 capc) (dR cs)):=hrc;have HK1:Hid (Same w w1):=hk1;have HW1:Hid (WS w1 w1 p s s X):=hid (WS.start (HW.out.wr.kept hk1 (λ_ _ f=>f)) HW.out.bit);have Ix:=hk1.size;have HGC:Hid (w.heap.size<=gc):=hid (hrc.ge (k:=gc) rfl);clear hrc hk1 HC;go_wp2_with fail;go_loopg [9,10,11,19] sn.length (λq _ _ _ zi wr=>∃(i:Nat) (si:Value),sn.length-i<=q/\i<=sn.length/\zi=.int .i64 (i:Nat)/\Hid (WS w1 wr p s si (X++(sn.take i).flatMap (aC cs))/\(X++(sn.take i).flatMap (aC cs)).length<=1000000+14*i))
 case atStart=>exact⟨0,s,by omega,by omega,rfl,hid ⟨by simpa using HW1.out,by simpa using hX⟩⟩
 case round=>
  clear HW1;obtain⟨i,si,hq,hi,rfl,HWI⟩:=hrel;by_cases hlt:i<sn.length
  ·have uQ:=HWI.out.1.kept;obtain⟨b,o,rfl,_,c1,c2⟩:=StSrc.get (n:=sn.length) (cap:=cv) (SrcC.kept stC_ok (SrcC.kept stC_ok HS.out HK1.out (λ_ _ _ f=>f)) uQ (λk h _=>HI.out k h)) i (by simpa using hlt);have Np:=HST.out _ (List.getElem_mem hlt);simp only[List.getElem_map]at c1 c2;obtain⟨x,hx⟩:∃x,x=sn[i].1:=⟨_,rfl⟩
   obtain⟨y,hy⟩:∃y,y=sn[i].2:=⟨_,rfl⟩
   rw[<-hx]at c1 Np;rw[<-hy]at c2 Np;obtain⟨Td,hkey,Ba⟩:=Np;rw[ey]at Td;have dk:key cs x<=7:=(by rw[aZ (by omega)];exact H7.out _ (List.getElem_mem _));have Ct:=Lc cs x hkey;have ON:=xZ x;have HBITS:Hid (X++(sn.take (i+1)).flatMap (aC cs)=X++(sn.take i).flatMap (aC cs)++aj (jp cs x) (key cs x)++aj y (dF x)):=hid (by
    rw[List.take_succ_eq_append_getElem hlt,List.flatMap_append,xo cs x hkey];simp[aC,hx,hy])
   have cg:wr.cell? ⟨g,x,none⟩=some (.int .i64 (key cs x:Nat)):=(by have h:=(HR.out.same HK1.out).kept uQ (λk e f=>by simp[Value.ownBlock]at e;subst e;exact HG.out f);rw[h.cell x (by omega),aZ (by omega)];rfl);have cc:wr.cell? ⟨gc,x,none⟩=some (.int .u32 (jp cs x:Nat)):=(by have h:=HRC.out.kept uQ (λk e f=>by simp[Value.ownBlock]at e;subst e;have:=HFP.out gc f;have:=HGC.out;omega);rw[h.cell x (by rw[fD];omega),qa];rfl);obtain⟨kx,QA⟩:∃kx,kx=key cs x:=⟨_,rfl⟩
   obtain⟨cx,rN⟩:∃cx,cx=jp cs x:=⟨_,rfl⟩
   obtain⟨xb,ie⟩:∃xb,xb=dF x:=⟨_,rfl⟩
   have HSH:=λW2=>iQ W2 (x:Int)
   rw[qO]at HSH;rw[<-QA]at cg dk Ct HBITS;rw[<-rN]at cc Ct HBITS;rw[<-ie]at HSH Ba ON HBITS;have TH:y<2 ^ 7:=Nat.lt_of_lt_of_le Ba (Nat.pow_le_pow_right (by decide) ON);have YW:IntKind.u32.wrap (y:Int)=(y:Int):=(by rw[IntKind.wrap_u32];omega);have HP1:Hid (∀W,Same wr W->Calls Tryz.prog 89 #[.pointer (some ⟨p,0,none⟩),.int .u32 (cx:Nat),.int .i64 (kx:Nat)] W λe w'=>e=.returned (.int .i64 0)/\(∃s',WS w1 w' p s s' (X++(sn.take i).flatMap (aC cs)++aj cx kx))/\Kept (Fp p si) W w'):=hid (λW hk=>jm w1 W p s si _ cx kx (HWI.out.1.same hk) (by omega) Ct (by have:=HWI.out.2;omega));have HFI:Hid (∀k,Fp p si k->k<wr.heap.size):=hid (λk h=>HWI.out.1.wr.fp_lt h);have HLN:Hid ((X++(sn.take i).flatMap (aC cs)).length<=1000000+14*i):=HWI.out.2;have mw:g<wr.heap.size:=World.block_lt_of_cell? wr _ cg;have Ww:gc<wr.heap.size:=World.block_lt_of_cell? wr _ cc;have HFW:Hid (∀k,k=g\/k=gc\/k=wr.heap.size->¬Fp p si k):=hid (λk hk hf=>by
    rcases hk with rfl | rfl | rfl
    ·rcases hf with e | e
     ·exact HG.out (.inl e)
     ·rcases HWI.out.1.own _ e with h1 | h1
      ·exact HG.out (.inr h1)
      ·have:=HR.out.lt (k:=k) rfl;omega
    ·rcases hf with e | e
     ·have:=HFP.out k (.inl e);have:=HGC.out;omega
     ·rcases HWI.out.1.own _ e with h1 | h1
      ·have:=HFP.out k (.inr h1);have:=HGC.out;omega
      ·have:=HRC.out.lt (k:=k) rfl;omega
    ·have:=HFI.out _ hf;omega)
   have i1:(0:Int)<=(x:Int):=(by omega);have i2:(x:Int)<19:=(by omega);have HY:Hid (y<2 ^ xb):=Ba;clear QA rN ie hx hy hkey uQ Ct Ba;go_wp2_with fail;refine(HSH _).mono ?_;rintro e w2 ⟨rfl,hw2⟩;have HK2:Hid (Same wr w2):=hid (by rw[hw2];exact(Kept.refl _ wr).alloc _);have d1:w2.cell? ⟨wr.heap.size,0,none⟩=some (.int .i64 (x:Nat)):=(by rw[hw2];simp);have d2:w2.cell? ⟨wr.heap.size,1,none⟩=some (.int .i64 (y:Nat)):=(by rw[hw2];simp);have d3:w2.cell? ⟨g,x,none⟩=some (.int .i64 (kx:Nat)):=HK2.out.cell cg (λf=>f);have d4:w2.cell? ⟨gc,x,none⟩=some (.int .u32 (cx:Nat)):=HK2.out.cell cc (λf=>f);clear hw2 HSH cg cc c1 c2;go_wp2_with fail;go_region_held3 (λw'=>w'.cell? ⟨wr.heap.size,0,none⟩=some (.int .i64 (x:Nat))/\w'.cell? ⟨wr.heap.size,1,none⟩=some (.int .i64 (y:Nat))/\w'.cell? ⟨g,x,none⟩=some (.int .i64 (kx:Nat))/\w'.cell? ⟨gc,x,none⟩=some (.int .u32 (cx:Nat)))
    (first
     | (go_split_ands;exact⟨hk5.cell (by assumption) (HFW.out _ (.inr (.inr rfl))),hk5.cell (by assumption) (HFW.out _ (.inr (.inr rfl))),hk5.cell (by assumption) (HFW.out _ (.inl rfl)),hk5.cell (by assumption) (HFW.out _ (.inr (.inl rfl)))⟩)
     | go_keep)
    (first
     | (go_at_call 89;refine(HP1.out _ (Same.trans HK2.out ((Kept.refl _ w2).drew))).mono ?_;rintro e w5 ⟨rfl,⟨s5,IM⟩,hk5⟩))
   all_goals
    have f2:w5.cell? ⟨wr.heap.size,1,none⟩=some (.int .i64 (y:Nat)):=hk5.cell (show w2.drew.cell? ⟨wr.heap.size,1,none⟩=some (.int .i64 (y:Nat))from d2) (HFW.out _ (.inr (.inr rfl)));have HP2:=jm w1 w5 p s s5 _ y xb IM (by omega) HY.out (by have:=HLN.out;rw[List.length_append,af];omega);clear IM hk5 d1 d2 d3 d4;go_wp2_with fail;refine HP2.mono ?_;rintro e w6 ⟨rfl,⟨s6,hws6⟩,hk6⟩;have HW6:Hid (WS w1 w6 p s s6 (X++(sn.take (i+1)).flatMap (aC cs))/\(X++(sn.take (i+1)).flatMap (aC cs)).length<=1000000+14*(i+1)):=hid ⟨by rw[HBITS.out];exact hws6,by rw[HBITS.out,List.length_append,List.length_append,af,af];have:=HLN.out;omega⟩;clear hws6 hk6 HP2;go_wp2_with fail;go_roundg (gk-1)
    case measure=>omega
    case rel=>exact⟨i+1,s6,by omega,by omega,by go_num,HW6⟩
  ·have e1:sn.take i=sn:=List.take_of_length_le (by omega);rw[e1]at HWI;clear e1;go_wp2_with fail;go_end0;exact⟨⟨_,rfl⟩,si,WS.trans HW.out HK1.out HWI.out.1⟩
theorem GF(l:List Nat)(h:l≠[]):ba l≠[]:=by
 cases l with
 | nil=>exact absurd rfl h
 | cons v r=>
  rw[gY];intro e;exact BJ v (1+bJ v r) (by omega) (List.append_eq_nil_iff.1 e).1
theorem KA(xs ys:List Nat)(hx:∀n∈xs,n≤15)(hy:∀n∈ys,n≤15)(h1:257≤xs.length)(h2:xs.length≤286)(h3:1≤ys.length)(h4:ys.length≤30):
  l6 xs ys (dL (cZ (ba (xs++ys))) 19) (cZ (ba (xs++ys))) (eW (xs++ys)):=by
 have h15:∀n∈xs++ys,n<=15:=λn hn=>by
  rcases List.mem_append.1 hn with h | h
  ·exact hx n h
  ·exact hy n h
 have ag:(xs++ys).length<=316:=by rw[List.length_append];omega
 have bm:xs++ys≠[]:=λe=>by have:=congrArg List.length e;rw[List.length_append,List.length_nil]at this;omega
 have LK:=qj (xs++ys) h15;have hc:=Fr (cZ (ba (xs++ys))) 19 (by decide);obtain⟨s0,CB⟩:=List.exists_mem_of_ne_nil _ (GF _ bm);refine⟨h1,h2,h3,h4,hc.1,hc.2,iK _,C9 _,DS _ s0 CB (by have:=LK s0 CB;have:=this.1;have:=(LK s0 CB).2.1;omega),λj hj Cw=>zN _ 19 j hj Cw,?_,?_⟩
 ·intro s hs;obtain⟨t,ht,rfl⟩:=List.mem_map.1 hs;have hi:=LK t ht;have hlt:t.1.toNat<19:=(by have:=hi.1;have:=hi.2.1;omega);exact⟨by rw[iK];exact hlt,AF _ t ht hlt,hi.2.2.2⟩
 ·rw[qi _ h15,DN _ _ [] h15 (by simp)];simp
theorem lK(xs ys:List Int):cG (xs++ys)=(cG xs && cG ys):=by unfold cG;rw[List.any_append,Bool.not_or]
def F1(w w':World)(p:Nat)(s:Value)(X:List Nat)(xs ys:List Nat):Prop:=
 ∃s' many cs sn,(cs=cZ (ba (xs++ys))/\many=dL cs 19/\sn=eW (xs++ys))/\l6 xs ys many cs sn/\sn.length<=xs.length+ys.length/\WS w w' p s s' (X++bB xs.length ys.length many cs sn)
theorem An{zl zd:List Int}(h:G4 zl zd=true):257<=zl.length/\zl.length<=286/\1<=zd.length/\zd.length<=30/\cG zl=true/\cG zd=true:=by unfold G4 at h;simp only[Bool.and_eq_true,decide_eq_true_eq]at h;obtain⟨⟨⟨⟨⟨h1,h2⟩,h3⟩,h4⟩,h5⟩,h6⟩:=h;exact⟨h1,h2,h3,h4,h5,h6⟩
theorem qx{zl:List Int}(h:cG zl=true):∀n∈zl.map Int.toNat,n<=15:=by have hb:=(fh zl).1 h;intro x hx;obtain⟨z,hz,rfl⟩:=List.mem_map.1 hx;have:=hb z hz;omega
theorem CL(w:World)(p:Nat)(s:Value)(X:List Nat)(al ad:Option Addr)(L cl D cd:Nat)(I J:Nat→Prop)(zl zd:List Int)(hA:SrcE bI w I (.slice al L cl) zl)(hB:SrcE bI w J (.slice ad D cd) zd)(hm:G4 zl zd=true)
  (hws:WS w w p s s X) (hX:X.length<=100000) (hT:Tab w) (Ij:¬Fp p s 0):
  Calls Tryz.prog 96 #[.pointer (some ⟨p,0,none⟩),.slice al L cl,.slice ad D cd] w λe w'=>e=.returned (.int .i64 0)/\F1 w w' p s X (zl.map Int.toNat) (zd.map Int.toNat):=by
 have yp:=hA.at.1;have EU:=hB.at.1;obtain⟨h1,h2,h3,h4,KY,K6⟩:=An hm;rw[<-yp]at h1 h2;rw[<-EU]at h3 h4;have HHD:=KA (zl.map Int.toNat) (zd.map Int.toNat) (qx KY) (qx K6) (by rw[List.length_map,<-yp];exact h1) (by rw[List.length_map,<-yp];exact h2) (by rw[List.length_map,<-EU];exact h3) (by rw[List.length_map,<-EU];exact h4);rw[<-List.map_append]at HHD;have MP:=us ((zl++zd).map Int.toNat);have h15:∀n∈(zl++zd).map Int.toNat,n<=15:=qx (by rw[lK,KY,K6];rfl);have Im:=qi ((zl++zd).map Int.toNat) h15;have LK:=qj ((zl++zd).map Int.toNat) h15;obtain⟨ns,hns⟩:∃ns,ns=(zl++zd).map Int.toNat:=⟨_,rfl⟩
 have rO:ns.length=L+D:=by rw[hns,List.length_map,List.length_append,<-yp,<-EU]
 have sq:(zl.map Int.toNat).length=L:=by rw[List.length_map,<-yp]
 have vn:(zd.map Int.toNat).length=D:=by rw[List.length_map,<-EU]
 rw[<-hns]at HHD MP Im LK;obtain⟨cs,eY⟩:∃cs,cs=cZ (ba ns):=⟨_,rfl⟩
 rw[<-eY]at HHD;obtain⟨come,tR⟩:∃x,x=dL cs 19:=⟨_,rfl⟩
 rw[<-tR]at HHD;have HHO:Hid (l6 (zl.map Int.toNat) (zd.map Int.toNat) come cs (eW ns)):=HHD;have jV:=HHD.m1;have WY:=HHD.m2;have Nk:=λW=>gL W (L:Int) 257 286
 have Nb:=λW=>gL W (D:Int) 1 30
 have e1:AP (L:Int) 257 286=true:=by unfold AP;have h1:(257:Int)<=(L:Int):=(by omega);have h2:(L:Int)<=286:=(by omega);simp[h1,h2]
 have e2:AP (D:Int) 1 30=true:=by unfold AP;have h1:(1:Int)<=(D:Int):=(by omega);have h2:(D:Int)<=30:=(by omega);simp[h1,h2]
 rw[e1]at Nk;rw[e2]at Nb;obtain⟨b1,o1,rfl⟩:∃b o,al=some ⟨b,o,none⟩:=by obtain⟨b1,o1,_,e3,_⟩:=hA.get 0 (by omega);simp only[Value.slice.injEq]at e3;exact⟨b1,o1,e3.1⟩
 obtain⟨b2,o2,rfl⟩:∃b o,ad=some ⟨b,o,none⟩:=by obtain⟨b2,o2,_,e4,_⟩:=hB.get 0 (by omega);simp only[Value.slice.injEq]at e4;exact⟨b2,o2,e4.1⟩
 obtain⟨W,hW⟩:∃W,W=w.alloc (.cells #[.slice (some ⟨b1,o1,none⟩) L cl,.slice (some ⟨b2,o2,none⟩) D cd] 143):=⟨_,rfl⟩
 have hk0:Same w W:=by rw[hW];exact(Kept.refl _ w).alloc _
 have HCC:=xJ W w.heap.size L cl D cd ⟨b1,o1,none⟩ ⟨b2,o2,none⟩ I J zl zd (by rw[hW];simp) (by rw[hW];simp) (hA.same hk0) (hB.same hk0) (by omega) (by omega) (by omega);have HK0:Hid (Same w W):=hk0;have HPA:Hid (sP (zl++zd)=.ok (ba ns)):=hid (by rw[qA (by rw[List.length_append];omega) (by rw[lK,KY,K6];rfl),<-hns]);have HLN:Hid ((zl++zd).length<=10000000):=hid (by rw[List.length_append];omega);have HIS:Hid (∀t∈ba ns,0<=t.1/\t.1<=18):=hid (λt ht=>⟨(LK t ht).1,(LK t ht).2.1⟩);have HPL:Hid ((ba ns).length<=1000):=hid (by have:=sK ns;omega);have HPN:Hid ((eW ns).length<=L+D):=hid (by omega);have HCAST:Hid ((eW ns).map (λx=>((x.1:Int),(x.2:Int)))=ba ns):=Im;have HCS:Hid (cs=cZ (ba ns)):=eY;have HNS:Hid (ns=zl.map Int.toNat++zd.map Int.toNat):=hid (by rw[hns,List.map_append]);have HCO:Hid (come=dL cs 19):=tR;have HXY:Hid ((zl.map Int.toNat).length=L/\(zd.map Int.toNat).length=D):=hid ⟨sq,vn⟩;have HWS:Hid (WS w w p s s X):=hws;have HT:Hid (Tab w):=hT;have HPG:Hid (¬Fp p s 0):=Ij;have HFP:Hid (∀k,Fp p s k->k<w.heap.size):=hid (λk h=>hws.wr.fp_lt h);obtain⟨l1,kY⟩:∃x,x=L-257:=⟨_,rfl⟩
 obtain⟨d1,Cq⟩:∃x,x=D-1:=⟨_,rfl⟩
 obtain⟨c1,fF⟩:∃x,x=come-4:=⟨_,rfl⟩
 have HVAL:Hid (l1=L-257/\d1=D-1/\c1=come-4):=hid ⟨kY,Cq,fF⟩;have Vq:(L:Int)-257=(l1:Int):=by omega
 have V4:(D:Int)-1=(d1:Int):=by omega
 have Vh:(come:Int)-4=(c1:Int):=by omega
 have RJ:l1<2 ^ 5:=by omega
 have Rn:d1<2 ^ 5:=by omega
 have Rw:c1<2 ^ 4:=by omega
 have V0:IntKind.u32.wrap (l1:Int)=(l1:Int):=by rw[IntKind.wrap_u32];omega
 have WC:IntKind.u32.wrap (d1:Int)=(d1:Int):=by rw[IntKind.wrap_u32];omega
 have Xd:IntKind.u32.wrap (c1:Int)=(c1:Int):=by rw[IntKind.wrap_u32];omega
 clear hA hB hm hk0 KY K6 yp EU HHD MP h15 Im LK hns eY tR hws hT Ij rO sq vn kY Cq fF e1 e2 h3 h4;go_enter Tryz.func96,Tryz.ntmps96;go_wp2_with fail;refine(Nk _).mono ?_;rintro e wx ⟨rfl,XF⟩;subst XF;go_wp2_with fail;refine(Nb _).mono ?_;rintro e w0 ⟨rfl,lQ⟩;subst lQ;clear Nk Nb;go_wp2_with fail;rw[<-hW];clear hW;refine HCC.mono ?_;rintro e w3 ⟨v3,rfl,hr3,hk3⟩;have HK3:Hid (Same w0 w3):=hid (Same.trans HK0.out hk3);have HPK:=CE w3 _ _ _ (SrcE.ofRow hr3) HLN.out;rw[HPA.out]at HPK;clear hr3 hk3 HCC;go_wp2_with fail;refine HPK.mono ?_;rintro e w4 ⟨v4,rfl,hr4,hk4⟩;have HR4:Hid (fN w3.heap.size w4 v4 (ba ns)):=hr4;have HK4:Hid (Same w0 w4):=hid (Same.trans HK3.out hk4);have HCL:=ph w4 _ _ (ba ns) (SrcC.ofRow stC_ok hr4) HIS.out HPL.out;rw[<-HCS.out]at HCL;clear hr4 hk4 HPK;go_wp2_with fail;refine HCL.mono ?_;rintro e w5 ⟨⟨g,ng,capg,rfl,hrg,sv⟩,hk5⟩;have UL:=hrg.len;rw[HCS.out,iK]at UL;subst UL;have HRG:Hid (NRow 0 w5 (.slice (some ⟨g,0,none⟩) 19 capg) cs):=hrg;have HK5:Hid (Same w0 w5):=hid (Same.trans HK4.out hk5);have HR5:Hid (fN w3.heap.size w5 v4 (ba ns)):=hid (RowC.kept HR4.out hk5 (λ_ _ f=>f));have HT5:Hid (Tab w5):=hid (HT.out.kept HK5.out (λf=>f));have HCM:=Am w5 g capg cs hrg HT5.out;rw[<-HCO.out]at HCM;have HG5:Hid (w4.heap.size<=g/\g<w5.heap.size):=hid ⟨sv,hrg.lt (k:=g) rfl⟩;have uV:=HK3.out.size;have ES:=HK4.out.size;have KG:=HK5.out.size;have HV4:Hid (∀k,v4.ownBlock=some k->w3.heap.size<=k/\k<w5.heap.size):=hid (λk e=>⟨HR5.out.ge e,HR5.out.lt e⟩);have HWS5:Hid (WS w5 w5 p s s X):=hid (WS.start (HWS.out.wr.kept HK5.out (λ_ _ f=>f)) HWS.out.bit);clear hrg hk5 sv HCL;go_wp2_with fail;refine HCM.mono ?_;rintro e w6 ⟨rfl,hw6⟩;subst hw6;have HP1:=jm w6 w6 p s s X l1 5 HWS5.out (by decide) RJ (by omega);clear HCM;go_wp2_with fail;refine HP1.mono ?_;rintro e w7 ⟨rfl,⟨s7,PD⟩,_⟩;have HP2:=jm w6 w7 p s s7 _ d1 5 PD (by decide) Rn (by rw[List.length_append,af];omega);clear HP1;go_wp2_with fail;refine HP2.mono ?_;rintro e w8 ⟨rfl,⟨s8,Pq⟩,_⟩;have HP3:=jm w6 w8 p s s8 _ c1 4 Pq (by decide) Rw (by rw[List.length_append,List.length_append,af,af];omega);clear HP2 PD;go_wp2_with fail;refine HP3.mono ?_;rintro e w9 ⟨rfl,⟨s9,EH⟩,_⟩;obtain⟨X3,QF⟩:∃X3,X3=X++aj l1 5++aj d1 5++aj c1 4:=⟨_,rfl⟩
 rw[<-QF]at EH;have HX3:Hid (X3=X++aj l1 5++aj d1 5++aj c1 4/\X3.length<=100014):=hid ⟨QF,by rw[QF];simp only[List.length_append,af];omega⟩;have HWS9:Hid (WS w6 w9 p s s9 X3):=EH;clear HP3 Pq EH QF;go_wp2_with fail;go_loopg [11,57] come (λq _ zi wr=>∃(i:Nat) (si:Value),come-i<=q/\i<=come/\zi=.int .i64 (i:Nat)/\Hid (WS w6 wr p s si (X3++aP cs i)))
 case atStart=>exact⟨0,s9,by omega,by omega,rfl,hid (by simpa[aP]using HWS9.out)⟩
 case round=>
  clear HWS9;obtain⟨i,si,hq,hi,rfl,HWI⟩:=hrel;have uQ:=HWI.out.kept;by_cases hlt:i<come
  ·have ct:=(HT5.out.kept uQ HPG.out) i (by omega);have IG:=uJ i (by omega);obtain⟨oi,IX⟩:∃x,x=ord.getD i 0:=⟨_,rfl⟩
   rw[<-IX]at ct IG;have HRW:Hid (NRow 0 wr (.slice (some ⟨g,0,none⟩) 19 capg) cs):=hid (HRG.out.kept uQ (λk e f=>by simp[Value.ownBlock]at e;subst e;have h1:=HFP.out _ f;have h2:=HG5.out;omega));have ey:=HRG.out.len;obtain⟨x,hx⟩:∃x,x=cs.getD oi 0:=⟨_,rfl⟩
   have jC:x=cs[oi]'(by omega):=(by rw[hx,List.getD_eq_getElem?_getD,List.getElem?_eq_getElem (by omega)];rfl);have Sd:x<=7:=(by rw[jC];exact HHO.out.c7 _ (List.getElem_mem _));have cg:wr.cell? ⟨g,oi,none⟩=some (.int .i64 (x:Nat)):=(by rw[HRW.out.cell oi (by omega),jC];rfl);have LC:IntKind.u32.wrap (x:Int)=(x:Int):=(by rw[IntKind.wrap_u32];omega);have HPT:=jm w6 wr p s si _ x 3 HWI.out (by decide) (by omega) (by rw[List.length_append,cP];have:=HX3.out.2;omega);have HBT:Hid (X3++aP cs (i+1)=X3++aP cs i++aj x 3):=hid (by rw[aP,<-IX,<-hx,List.append_assoc]);clear hx jC IX uQ HRW;go_wp2_with fail;refine HPT.mono ?_;rintro e wy ⟨rfl,⟨sy,PP⟩,_⟩;have Wo:Hid (WS w6 wy p s sy (X3++aP cs (i+1))):=hid (by rw[HBT.out];exact PP);clear PP HPT ct cg;go_wp2_with fail;go_roundg (gk-1)
   case measure=>omega
   case rel=>exact⟨i+1,sy,by omega,by omega,by go_num,Wo⟩
  ·have RO:i=come:=(by omega);subst RO;clear hq hlt;have HFS:Hid (∀k,Fp p si k->k<w0.heap.size\/w6.heap.size<=k):=hid (λk hf=>by
    rcases hf with e | e
    ·exact .inl (HFP.out k (.inl e))
    ·rcases HWI.out.own k e with h | h
     ·exact .inl (HFP.out k (.inr h))
     ·exact .inr h)
   have hrow:fN w3.heap.size wr v4 (ba ns):=RowC.kept HR5.out uQ (λk e f=>by have h1:=HFP.out k f;have h2:=(HV4.out k e).1;omega);have Qg:NRow 0 wr (.slice (some ⟨g,0,none⟩) 19 capg) cs:=HRG.out.kept uQ (λk e f=>by simp[Value.ownBlock]at e;subst e;have h1:=HFP.out _ f;have h2:=HG5.out;omega);have hsrc:StSrc wr (λk=>v4.ownBlock=some k) v4 ((eW ns).map (λx=>((x.1:Int),(x.2:Int)))):=(by rw[HCAST.out];exact SrcC.ofRow stC_ok hrow);have HWT:=ql wr p g capg si (X3++aP cs i) v4 _ cs (eW ns) (WS.start HWI.out.wr HWI.out.bit) (by rw[List.length_append,cP];have:=HX3.out.2;omega) hsrc
    (λk e f=>by have h1:=HV4.out k e;have h2:=HFS.out k f;omega) Qg (λf=>by have h1:=HG5.out;have h2:=HFS.out g f;omega) HHO.out.c7 HHO.out.ok HHO.out.st (by have:=HPN.out;omega)
   clear hrow Qg hsrc uQ;go_wp2_with fail;refine HWT.mono ?_;rintro e wz ⟨⟨u,rfl⟩,sz,oW⟩;have HWZ:Hid (WS w0 wz p s sz (X++bB L D i cs (eW ns))):=hid (by
    have h:=(WS.trans HWI.out (Kept.refl _ wr) oW).base HK5.out;have e:X++bB L D i cs (eW ns)=X3++aP cs i++(eW ns).flatMap (aC cs):=(by rw[HX3.out.1,HVAL.out.1,HVAL.out.2.1,HVAL.out.2.2];unfold bB;simp only[List.append_assoc]);rw[e];exact h)
   clear oW HWT;go_wp2_with fail;go_ret;refine⟨rfl,sz,i,cs,eW ns,⟨by rw[<-HNS.out];exact HCS.out,HCO.out,by rw[<-HNS.out]⟩,HHO.out,?_,?_⟩
   ·rw[HXY.out.1,HXY.out.2];exact HPN.out
   ·rw[HXY.out.1,HXY.out.2];exact HWZ.out
end Go.Proofs.YtkhagfgineifhaaGreatDoor
