import Derived.Test.YtkhagfgineifhaaGreatDoorLnCat
import Derived.Test.YtkhagfgineifhaaGreatDoorLnTc
import Derived.Test.YtkhagfgineifhaaGreatDoorHFairM
import Derived.Test.YtkhagfgineifhaaGreatDoorLnSame
set_option maxHeartbeats 2000000
set_option maxRecDepth 100000
namespace Go.Proofs.YtkhagfgineifhaaGreatDoor
open Go.RowKit
structure WS(wb w:World)(p:Nat)(s0 s:Value)(X:List Nat):Prop where
 wr:Wr w p s (n2 X) X.length
 bit:∀b∈X,b<2
 kept:Kept (Fp p s0) wb w
 own:∀k,s.ownBlock=some k->s0.ownBlock=some k\/wb.heap.size<=k
theorem WS.start{w:World}{p:Nat}{s:Value}{X:List Nat}(h:Wr w p s (n2 X) X.length)(hb:∀b∈X,b<2):WS w w p s s X:=⟨h,hb,Kept.refl _ _,λ_ e=>.inl e⟩
theorem WS.same{wb w w':World}{p:Nat}{s0 s:Value}{X:List Nat}(h:WS wb w p s0 s X)(hk:Same w w'):WS wb w' p s0 s X:=
 ⟨h.wr.kept hk (λ_ _ f=>f),h.bit,Kept.trans h.kept hk (λ_ _ x=>x) (λ_ _ f=>f.elim),h.own⟩
theorem WS.base{wa wb w:World}{p:Nat}{s0 s:Value}{X:List Nat}(h:WS wb w p s0 s X)(hk:Same wa wb):WS wa w p s0 s X:=
 ⟨h.wr,h.bit,Kept.trans (hk.mono (λ_ _ f=>f.elim)) h.kept (λ_ _ x=>x) (λ_ _ x=>x),λk e=>by
  rcases h.own k e with h1 | h1
  ·exact .inl h1
  ·exact .inr (Nat.le_trans hk.size h1)⟩
theorem jm(wb w:World)(p:Nat)(s0 s:Value)(X:List Nat)(v n:Nat)(h:WS wb w p s0 s X)(hn:n≤32)(hv:v<2 ^ n)(hc:X.length≤1000000000):
  Calls Tryz.prog 89 #[.pointer (some ⟨p,0,none⟩),.int .u32 (v:Nat),.int .i64 (n:Nat)] w λe w'=>e=.returned (.int .i64 0)/\(∃s',WS wb w' p s0 s' (X++aj v n))/\Kept (Fp p s) w w':=by
 refine(Gl p v n _ _ s w hn hv h.wr (by omega)).mono ?_;rintro e w' ⟨rfl,s',hw,hk,hg⟩;refine⟨rfl,⟨s',?_,?_,?_,?_⟩,hk⟩
 ·rw[Mi X v n hv,List.length_append,af];exact hw
 ·intro b hb;rcases List.mem_append.1 hb with h1 | h1
  ·exact h.bit b h1
  ·exact ei _ _ b h1
 ·refine Kept.trans h.kept hk (λ_ _ x=>x) (λk hk2 hf=>?_);rcases hf with e | e
  ·exact .inl e
  ·rcases h.own k e with h1 | h1
   ·exact .inr h1
   ·omega
 ·intro k e;rcases hg with h1 | h1
  ·exact h.own k (by rw[<-h1];exact e)
  ·exact .inr (Nat.le_trans h.kept.size (h1 k e))
theorem pX{α:Type}{p:List α->Prop}(h0:p [])(h1:∀r s,p r->p (r++[s]))(l:List α):p l:=by
 have h:∀m:List α,p m.reverse:=by
  intro m
  induction m with
  | nil=>simpa using h0
  | cons a r ih=>rw[List.reverse_cons];exact h1 _ _ ih
 simpa using h l.reverse
def dQ(ss:List (Int×Int)):List Nat:=ss.foldl (λl s=>l.set s.1.toNat (l.getD s.1.toNat 0+1)) (List.replicate 19 0)
theorem kS(ss:List (Int×Int))(s:Int×Int):dQ (ss++[s])=(dQ ss).set s.1.toNat ((dQ ss).getD s.1.toNat 0+1):=by unfold dQ;rw[List.foldl_append];rfl
theorem dH(ss:List (Int×Int)):(dQ ss).length=19:=by
 refine pX (p:=λl=>(dQ l).length=19) ?_ ?_ ss
 ·simp[dQ]
 ·intro r s ih;rw[kS,List.length_set,ih]
theorem Cf(ss:List (Int×Int)):∀x∈dQ ss,x<=ss.length:=by
 refine pX (p:=λl=>∀x∈dQ l,x<=l.length) ?_ ?_ ss
 ·intro x hx;have:=List.eq_of_mem_replicate hx;omega
 ·intro r s ih x hx;rw[kS]at hx;rw[List.length_append,List.length_singleton];rcases List.mem_or_eq_of_mem_set hx with h | h
  ·have:=ih x h;omega
  ·have:(dQ r).getD s.1.toNat 0≤r.length:=by
    by_cases hl:s.1.toNat<(dQ r).length
    ·rw[List.getD_eq_getElem?_getD,List.getElem?_eq_getElem hl];exact ih _ (List.getElem_mem hl)
    ·rw[List.getD_eq_getElem?_getD,List.getElem?_eq_none (by omega)];exact Nat.zero_le _
   omega
theorem vV(ss:List (Int×Int))(s:Int×Int)(hs:s∈ss)(Co:s.1.toNat<19):key (dQ ss) s.1.toNat≠0:=by
 revert hs
 refine pX (p:=λl=>s∈l->key (dQ l) s.1.toNat≠0) ?_ ?_ ss
 ·intro h;simp at h
 ·intro r t ih hs;unfold key;rw[kS];have hl:=dH r;by_cases e:t.1.toNat=s.1.toNat
  ·rw[e,List.getD_eq_getElem?_getD,List.getElem?_set_self (by omega)];simp
  ·rw[List.getD_eq_getElem?_getD,List.getElem?_set_ne e,<-List.getD_eq_getElem?_getD];rcases List.mem_append.1 hs with h | h
   ·exact ih h
   ·simp at h;subst h;exact absurd rfl e
theorem B8(ns:List Nat)(most s:Nat)(hs:s<ns.length)(hk:key ns s≠0)(cL:(aD ns).length<=2 ^ most)(h1:1<=most)(h15:most<=15):key (dS ns most) s≠0:=by
 have hl:s<(dS ns most).length:=by rw[iw];exact hs
 rw[aZ hl,qt,if_neg hk];split
 ·omega
 ·rename_i h2;have hm:Many ns most:=⟨by omega,cL,h1,h15⟩
  have hr:s∈aD ns:=aW.2 ⟨hs,hk⟩;have:=hm.pos ((aD ns).idxOf s) (List.idxOf_lt_length_of_mem hr);omega
def cZ(ss:List (Int×Int)):List Nat:=dS (dQ ss) 7
theorem jA(ss:List (Int×Int)):(aD (dQ ss)).length<=2 ^ 7:=by have h1:=cJ (dQ ss);have h2:=dH ss;omega
theorem iK(ss:List (Int×Int)):(cZ ss).length=19:=by unfold cZ;rw[iw,dH]
theorem C9(ss:List (Int×Int)):∀x∈cZ ss,x<=7:=Hl _ 7 (jA ss) (by decide) (by decide)
theorem AF(ss:List (Int×Int))(s:Int×Int)(hs:s∈ss)(Co:s.1.toNat<19):key (cZ ss) s.1.toNat≠0:=B8 _ 7 _ (by rw[dH];exact Co) (vV ss s hs Co) (jA ss) (by decide) (by decide)
theorem DS(ss:List (Int×Int))(s:Int×Int)(hs:s∈ss)(Co:s.1.toNat<19):bw (cZ ss)=0:=by refine tn _ 7 ?_ (jA ss) (by decide) (by decide);exact List.length_pos_of_mem (aW.2 ⟨by rw[dH];exact Co,vV ss s hs Co⟩)
theorem ph(w:World)(v:Value)(I:Nat→Prop)(ss:List (Int×Int))(hs:StSrc w I v ss)(hst:∀s∈ss,0≤s.1∧s.1≤18)(ag:ss.length≤1000):
  Calls Tryz.prog 126 #[v] w λe w'=>(∃g n cap,e=.returned (.slice (some ⟨g,0,none⟩) n cap)/\NRow 0 w' (.slice (some ⟨g,0,none⟩) n cap) (cZ ss)/\w.heap.size<=g)/\Same w w':=by
 obtain⟨ao,cap,rfl,ic,gh⟩:=id hs;clear ic gh;have HS:Hid (StSrc w I (.slice ao ss.length cap) ss):=hs;have HST:Hid (∀s∈ss,0<=s.1/\s.1<=18):=hst;clear hs hst;go_enter Tryz.func126,Tryz.ntmps126;go_wp2_with (at_make;refine dm _ am 0 w.heap.size 143 3 8 Tryz.underlying143 Tryz.infoN rfl (by decide) rfl _ _ rfl _ _ _ _ 19 rfl rfl rfl rfl (by decide) (Nat.le_refl _) ?_;intro w3 hr3 jW hs3;have HR3:Hid (NRow w.heap.size w3 (.slice (some ⟨w.heap.size,0,none⟩) 19 19) (dQ [])):=hid hr3;have HK3:Hid (Same w w3):=hid ((Kept.refl _ w).grown jW (λj e=>by cases e));clear hr3 jW);go_loopg [5,11] ss.length (λq _ zi wr=>∃(i:Nat),ss.length-i<=q/\i<=ss.length/\zi=.int .i64 (i:Nat)/\Hid (NRow w.heap.size wr (.slice (some ⟨w.heap.size,0,none⟩) 19 19) (dQ (ss.take i)))/\Hid (Same w wr))
 case atStart=>exact⟨0,by omega,by omega,rfl,hid (by simpa using HR3.out),HK3⟩
 case round=>
  clear HR3 HK3 hs3;obtain⟨i,hq,hi,rfl,HV,HK⟩:=hrel;by_cases hlt:i<ss.length
  ·obtain⟨b,o,rfl,_,c1,c2⟩:=StSrc.get (n:=ss.length) (cap:=cap) (SrcC.kept stC_ok HS.out HK.out (λ_ _ _ f=>f)) i hlt;have Nm:=HST.out _ (List.getElem_mem hlt);obtain⟨x,hx⟩:∃x:Nat,ss[i].1=(x:Int):=⟨ss[i].1.toNat,by omega⟩
   obtain⟨y,hy⟩:∃y,y=ss[i].2:=⟨_,rfl⟩
   rw[hx]at c1 Nm;rw[<-hy]at c2;have Vz:x<19:=(by omega);have HSN:Hid (dQ (ss.take (i+1))=(dQ (ss.take i)).set x ((dQ (ss.take i)).getD x 0+1)):=hid (by rw[List.take_succ_eq_append_getElem hlt,kS,hx,Int.toNat_natCast]);have ey:=dH (ss.take i);obtain⟨old,hold⟩:∃old,old=(dQ (ss.take i)).getD x 0:=⟨_,rfl⟩
   have UV:old<=1000:=(by have h:=Cf (ss.take i) (dQ (ss.take i))[x] (List.getElem_mem (by omega));rw[hold,List.getD_eq_getElem?_getD,List.getElem?_eq_getElem (by omega)];simp only[Option.getD_some];rw[List.length_take]at h;omega);have XV:wr.cell? ⟨w.heap.size,x,none⟩=some (.int .i64 (old:Nat)):=(by have h:=HV.out.cell x (by omega);rw[h,hold,List.getD_eq_getElem?_getD,List.getElem?_eq_getElem (by omega)];rfl);obtain⟨W2,lN⟩:∃W2,W2=wr.alloc (.cells #[.int .i64 (x:Nat),.int .i64 y] 226):=⟨_,rfl⟩
   have hk2:Same wr W2:=(by rw[lN];exact(Kept.refl _ wr).alloc _);have HV2:Hid (NRow w.heap.size W2 (.slice (some ⟨w.heap.size,0,none⟩) 19 19) (dQ (ss.take i))):=hid (HV.out.same hk2);have PH:=HK.out.size;have bm:wr.heap.size≠w.heap.size:=(by have:=HV.out.lt (k:=w.heap.size) rfl;omega);have fl:wr.frozen? ⟨w.heap.size,x,none⟩=false:=HV.out.frozen x;have XZ:W2.cell? ⟨w.heap.size,x,none⟩=some (.int .i64 (old:Nat)):=hk2.cell XV (λf=>f);have WH:W2.frozen? ⟨w.heap.size,x,none⟩=false:=HV2.out.frozen x;rw[lN]at XZ WH;have HVN:Hid (NRow w.heap.size (W2.setCell ⟨w.heap.size,x,none⟩ (.int .i64 ((old+1:Nat):Int))) (.slice (some ⟨w.heap.size,0,none⟩) 19 19) (dQ (ss.take (i+1)))):=hid (by rw[HSN.out,<-hold];exact HV2.out.lay x (old+1));have HKN:Hid (Same w (W2.setCell ⟨w.heap.size,x,none⟩ (.int .i64 ((old+1:Nat):Int)))):=hid ((Same.trans HK.out hk2).setCell _ _ (.inr (Nat.le_refl _)));rw[lN]at HVN HKN;obtain⟨o1,KM⟩:∃o1,o1=old+1:=⟨_,rfl⟩
   have Vp:(old:Int)+1=(o1:Int):=(by omega);have XL:IntKind.i64.wrap (o1:Int)=(o1:Int):=(by rw[IntKind.wrap_i64];omega);rw[<-KM]at HVN HKN;clear hx hy Nm hold hk2 HV2 lN KM ey HV;go_wp2_with fail;go_roundg (gk-1)
   case measure=>omega
   case rel=>exact⟨i+1,by omega,by omega,by go_num,HVN,HKN⟩
  ·have e1:ss.take i=ss:=List.take_of_length_le (by omega);rw[e1]at HV;have ey:=dH ss;have hsrc:SrcE bI wr _ (.slice (some ⟨w.heap.size,0,none⟩) 19 19) ((dQ ss).map (fun(n:Nat)=>(n:Int))):=(SrcE.ofRow HV.out).recode (by rw[List.map_map];rfl);have hok:eC ((dQ ss).map (fun(n:Nat)=>(n:Int))) 0 1000000000000=true:=by
    unfold eC;have h1:((dQ ss).map (fun(n:Nat)=>(n:Int))).length=19:=(by rw[List.length_map,ey]);rw[h1];have h2:((dQ ss).map (fun(n:Nat)=>(n:Int))).any (d6 0 1000000000000)=false:=by rw[List.any_eq_false];intro z hz;obtain⟨n,hn,rfl⟩:=List.mem_map.1 hz;have:=Cf ss n hn;simp[d6];omega
    rw[h2];decide
   have Pj:dQ ss=((dQ ss).map (fun(n:Nat)=>(n:Int))).map Int.toNat:=by
    rw[List.map_map];conv=>lhs;rw[<-List.map_id (dQ ss)]
    exact List.map_congr_left (λx _=>by simp)
   have HLM:=qm wr _ _ _ (dQ ss) 7 hsrc hok Pj (by decide) (by decide) (jA ss);have PH:=HK.out.size;clear hsrc hok Pj ey e1 HV;go_wp2_with fail;refine HLM.mono ?_;rintro e w5 ⟨⟨g,n,c5,rfl,hr5,ef⟩,hk5⟩;have HR5:Hid (NRow 0 w5 (.slice (some ⟨g,0,none⟩) n c5) (cZ ss)):=hr5;have HK5:Hid (Same w w5):=hid (Same.trans HK.out hk5);clear hr5 hk5 HLM;go_wp2_with fail;go_ret;exact⟨⟨g,n,c5,rfl,HR5.out,by omega⟩,HK5.out⟩
end Go.Proofs.YtkhagfgineifhaaGreatDoor
