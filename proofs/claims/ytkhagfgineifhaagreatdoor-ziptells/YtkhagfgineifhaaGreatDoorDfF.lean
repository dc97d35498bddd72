import Derived.Test.YtkhagfgineifhaaGreatDoorDfE
import Derived.Test.YtkhagfgineifhaaGreatDoorMtB
import Derived.Test.YtkhagfgineifhaaGreatDoorMtJ
set_option maxHeartbeats 400000
set_option maxRecDepth 100000
namespace Go.Proofs.YtkhagfgineifhaaGreatDoor
open Go.RowKit
def Off(w:World)(p:Nat)(s:Value)(k:Nat):Prop:=k<w.heap.size/\¬Fp p s k
theorem Off.later{w w':World}{p:Nat}{s:Value}{k:Nat}(h:Off w p s k)(hk:w.heap.size<=w'.heap.size):Off w' p s k:=⟨Nat.lt_of_lt_of_le h.1 hk,h.2⟩
theorem WS.off{wb w:World}{p:Nat}{s0 s:Value}{X:List Nat}(h:WS wb w p s0 s X){k:Nat}(ho:Off wb p s0 k):¬Fp p s k:=by
 intro f;rcases f with e | e
 ·exact ho.2 (.inl e)
 ·rcases h.own k e with e | e
  ·exact ho.2 (.inr e)
  ·have:=ho.1;omega
theorem ul(wb w:World)(p:Nat)(s0 s:Value)(X ns:List Nat)(cv lv:Value)(m:MK)(hw:WS wb w p s0 s X)(hb:BookIn wb (Off wb p s0) cv lv ns)(h15:∀x,key ns x≤15)(hm:m.sym<ns.length)(hk:key ns m.sym≠0)(hx:m.extra<2 ^ m.width)(my:m.width≤16)(hX:X.length≤100000000):
  Calls Tryz.prog 116 #[.agg #[cv,lv],.pointer (some ⟨p,0,none⟩),CW m] w λe w'=>(∃u,e=.returned u)/\∃s',WS wb w' p s0 s' (X++cH ns m)/\Kept (Fp p s) w w'/\∀k,Fp p s' k->Fp p s k\/w.heap.size<=k:=by
 refine(G6 w w p s s X ns (Off wb p s0) cv lv m (WS.start hw.wr hw.bit) (hb.kept hw.kept (λk h=>h.2)) (λk h=>hw.off h) h15 hm hk hx my hX).mono ?_;rintro e w' ⟨he,s',h'⟩;exact⟨he,s',hw.trans (Kept.refl _ _) h',h'.kept,λk f=>by
  rcases f with e | e
  ·exact .inl (.inl e)
  ·rcases h'.own k e with e | e
   ·exact .inl (.inr e)
   ·exact .inr e⟩
theorem zJ{l:List Nat}(h0:0<l.length)(hl:l.length<=288)(h15:∀x∈l,x<=15)(h:bR l=false):chk (l.map (fun(n:Nat)=>(n:Int)))≠0:=by rw[xD l h0 hl h15];have hm:=re h;unfold bw;rw[hm];simp
theorem oP(w:World)(a:Option Addr)(n c:Nat)(I:Nat→Prop)(ns:List Nat)(hs:SrcE am w I (.slice a n c) ns)(h0:0<ns.length)(hl:ns.length≤288)(h15:∀x∈ns,x≤15)(hu:bR ns=true→Lok ns):
  Calls Tryz.prog 115 #[.slice a n c] w λe w'=>∃ca cn cc,e=.returned (.agg #[.slice ca cn cc,.slice a n c])/\(bR ns=true->SrcE mP w' (λk=>w.heap.size<=k/\k<w'.heap.size) (.slice ca cn cc) (dR ns))/\Same w w':=by
 cases h:bR ns with
 | true=>
  refine(ub w a n c I ns hs (hu h)).mono ?_;rintro e w' ⟨cv,he,h1,h2⟩;obtain⟨ca,cc,rfl,_⟩:=id h1;exact⟨ca,_,cc,he,λ_=>h1,h2⟩
 | false=>
  refine(vD w a n c I ns hs (by omega) (zJ h0 hl h15 h)).mono ?_;rintro e w' ⟨he,h2⟩;exact⟨_,_,_,he,(λh=>nomatch h),h2⟩
structure rj(lit dist:List Nat)(t:TK):Prop where
 len:t.len=0\/(3<=t.len/\t.len<=258)
 byte:t.lit<256
 far:t.len≠0->1<=t.dist/\t.dist<=16384
 has:Mv lit dist t
 lx:(aJ t).extra<2 ^ (aJ t).width/\(aJ t).width<=5
 dx:t.len≠0->(aH t).extra<2 ^ (aH t).width/\(aH t).width<=13
theorem Bn{lit dist:List Nat}{ts:List TK}{n:Nat}(hm:ce 16384 ts 0=.ok n)(hk:oa lit dist ts)(t:TK)(ht:t∈ts):rj lit dist t:=by
 obtain⟨said,h1,h2⟩:=jB hm (by decide) t ht;have h3:=pE h2 h1 (hk.byte t ht);have h4:=xI h2 h1;refine⟨?_,hk.byte t ht,?_,hk.has t ht,⟨h3.2.1,h3.2.2.1⟩,λh=>(h3.2.2.2.2 h).2.2⟩
 ·rcases fa h2 with⟨h,_⟩ | ⟨n,d,h,_,_,h5,h6,_⟩
  ·exact .inl h
  ·exact .inr ⟨by omega,by omega⟩
 ·intro h0;rcases fa h2 with⟨h,_⟩ | ⟨n,d,h,h9,_,_,_,h6,_⟩
  ·exact absurd h h0
  ·exact⟨by omega,h4⟩
theorem xY{lit dist:List Nat}(hl:∀x,key lit x<=15)(hd:∀x,key dist x<=15){t:TK}(h:rj lit dist t):(aw lit dist t).length<=48:=by
 unfold aw cH;have h1:=hl (aJ t).sym;have h2:=h.lx.2;by_cases h0:t.len=0
 ·rw[if_pos h0];simp only[List.length_append,aq,af,List.length_nil];omega
 ·rw[if_neg h0];have h3:=hd (aH t).sym;have h4:=(h.dx h0).2;simp only[List.length_append,aq,af];omega
theorem jw{lit dist:List Nat}(hl:∀x,key lit x<=15)(hd:∀x,key dist x<=15)(ts:List TK)(h:∀t∈ts,rj lit dist t):(ts.flatMap (aw lit dist)).length<=48*ts.length:=by
 induction ts with
 | nil=>simp
 | cons t r ih=>
  rw[List.flatMap_cons,List.length_append,List.length_cons];have h1:=xY hl hd (h t (by simp));have h2:=ih (λt ht=>h t (by simp[ht]));omega
theorem fI{ts:List TK}{n:Nat}(h:ce 16384 ts 0=.ok n):ts.length<=16385:=by refine Classical.byContradiction (λhc=>?_);obtain⟨c,h1,_,h3⟩:=wT h (Nat.le_refl _) 16385 (by omega);omega
theorem DK{α:Type}(f:α->List Nat)(ts:List α)(i:Nat)(h:i<ts.length):(ts.take (i+1)).flatMap f=(ts.take i).flatMap f++f ts[i]:=by rw[List.take_succ_eq_append_getElem h,List.flatMap_append];simp
theorem lC(w:World)(p:Nat)(s:Value)(X:List Nat)(v lv dv:Value)(ts:List TK)(lit dist:List Nat)(n:Nat)(hw:Wr w p s (n2 X) X.length)(hX:∀b∈X,b<2)(NH:X.length≤100000)(hs:TkSrc w (Off w p s) v ts)(hl:SrcE am w (Off w p s) lv lit)(hd:SrcE am w (Off w p s) dv dist)(ho:OkL lit dist)(hk:oa lit dist ts)(hm:ce 16384 ts 0=.ok n):
  Calls Tryz.prog 91 #[.pointer (some ⟨p,0,none⟩),v,lv,dv] w λe w'=>(∃u,e=.returned u)/\∃s',WS w w' p s s' (X++(ts.flatMap (aw lit dist)++aE lit 256)):=by
 have NP:=fI hm;have HTI:Hid (∀t∈ts,rj lit dist t):=hid (λt ht=>Bn hm hk t ht);have HL15:Hid (∀x,key lit x<=15):=hid (key_le ho.lit.le);have HD15:Hid (∀x,key dist x<=15):=hid (key_le ho.le);have HLU:Hid (bR lit=true):=hid (kk hk.end'.1 hk.end'.2);have HEND:Hid (256<lit.length/\key lit 256≠0):=hid hk.end';have HXL:Hid (X.length<=100000):=hid NH;obtain⟨ao,cap,rfl,ic,gh⟩:=id hs;clear ic gh;obtain⟨al,cl,rfl,ic,gh⟩:=id hl;obtain⟨ad,cd,rfl,NU,Ba⟩:=id hd;have hn1:=oP w al lit.length cl _ lit hl ho.lit.pos ho.lit.max ho.lit.le (λ_=>ho.lit);have hn2:∀w',Same w w'->_:=λw' hk=>oP w' ad dist.length cd _ dist (hd.same hk) ho.pos ho.max ho.le ho.dist
 have HS:Hid (TkSrc w (Off w p s) (.slice ao ts.length cap) ts):=hs;have HSL:Hid (SrcE am w (Off w p s) (.slice al lit.length cl) lit):=hl;have HSD:Hid (SrcE am w (Off w p s) (.slice ad dist.length cd) dist):=hd;have HW:Hid (Wr w p s (n2 X) X.length/\∀b∈X,b<2):=hid ⟨hw,hX⟩;clear hs hl hd hw hX NH ic gh NU Ba hk hm ho;go_enter Tryz.func91,Tryz.ntmps91;go_wp2_with fail;refine hn1.mono ?_;rintro e w1 ⟨c1,c2,c3,rfl,fF,hk1⟩;have HN2:=hn2 w1 hk1;have HC1:Hid (SrcE mP w1 (λk=>w.heap.size<=k/\k<w1.heap.size) (.slice c1 c2 c3) (dR lit)):=hid (fF HLU.out);have HK1:Hid (Same w w1):=hk1;clear hn1 hn2 fF hk1;go_wp2_with fail;refine HN2.mono ?_;rintro e w2 ⟨d1,d2,d3,rfl,cS,hk2⟩;have HC2:Hid (bR dist=true->SrcE mP w2 (λk=>w1.heap.size<=k/\k<w2.heap.size) (.slice d1 d2 d3) (dR dist)):=cS;have HK2:Hid (Same w1 w2):=hk2;clear HN2 cS hk2;obtain⟨Wa,M9⟩:∃Wa,Wa=(w2.alloc (.cells #[.slice c1 c2 c3,.slice al lit.length cl] 168)).alloc (.cells #[.slice d1 d2 d3,.slice ad dist.length cd] 168):=⟨_,rfl⟩
 have HKa:Hid (Same w Wa):=hid (Same.trans (Same.trans HK1.out HK2.out) (by rw[M9];exact((Kept.refl _ w2).alloc _).alloc _));have dA:w.heap.size<=w1.heap.size/\w1.heap.size<=w2.heap.size/\Wa.heap.size=w2.heap.size+2:=⟨HK1.out.size,HK2.out.size,by rw[M9];simp only[World.size_alloc]⟩
 have HFP:Hid (∀k,Fp p s k->k<w.heap.size):=hid (λk f=>HW.out.1.fp_lt f);have HA:Hid (Blk Wa w2.heap.size #[.slice c1 c2 c3,.slice al lit.length cl] 168/\Off Wa p s w2.heap.size):=hid ⟨by rw[M9];exact(Blk.new w2 _ _).kept ((Kept.refl (λ_=>False) _).alloc _) (λf=>f),by omega,λf=>by have:=HFP.out _ f;omega⟩;have HB:Hid (Blk Wa (w2.heap.size+1) #[.slice d1 d2 d3,.slice ad dist.length cd] 168/\Off Wa p s (w2.heap.size+1)):=hid ⟨by rw[M9];have h:=Blk.new (w2.alloc (.cells #[.slice c1 c2 c3,.slice al lit.length cl] 168)) #[.slice d1 d2 d3,.slice ad dist.length cd] 168;rw[World.size_alloc]at h;exact h,by omega,λf=>by have:=HFP.out _ f;omega⟩;have ME:Same w2 Wa:=by rw[M9];exact((Kept.refl _ w2).alloc _).alloc _
 have HBL:Hid (BookIn Wa (Off Wa p s) (.slice c1 c2 c3) (.slice al lit.length cl) lit):=hid ⟨((HC1.out.same (Same.trans HK2.out ME))).mono (λk h=>⟨by omega,λf=>by have:=HFP.out _ f;omega⟩),(HSL.out.same HKa.out).mono (λk h=>h.later HKa.out.size)⟩;have HBD:Hid (bR dist=true->BookIn Wa (Off Wa p s) (.slice d1 d2 d3) (.slice ad dist.length cd) dist):=hid (λhu=>⟨((HC2.out hu).same ME).mono (λk h=>⟨by omega,λf=>by have:=HFP.out _ f;omega⟩),(HSD.out.same HKa.out).mono (λk h=>h.later HKa.out.size)⟩);have HSa:Hid (TkSrc Wa (Off Wa p s) (.slice ao ts.length cap) ts):=hid ((SrcC.kept fk HS.out HKa.out (λ_ _ _ f=>f)).mono (λk h=>h.later HKa.out.size));have HW0:Hid (WS Wa Wa p s s X):=hid (WS.start (HW.out.1.kept HKa.out (λ_ _ f=>f)) HW.out.2);obtain⟨A,hA⟩:∃A,A=w2.heap.size:=⟨_,rfl⟩
 clear dA ME HC1 HC2 HK1 HK2 HSL HSD HS HFP HW;go_wp2_with fail;rw[<-M9,<-hA];rw[<-hA]at HA HB;clear M9 hA;go_loopg [18] ts.length (λq zi wr=>∃(i:Nat) (s2:Value),ts.length-i<=q/\i<=ts.length/\zi=.int .i64 (i:Nat)/\Hid (WS Wa wr p s s2 (X++(ts.take i).flatMap (aw lit dist))))
 case atStart=>exact⟨0,s,by omega,by omega,rfl,hid (by simpa using HW0.out)⟩
 case round=>
  clear HW0;obtain⟨i,s2,hq,hi,rfl,HS2⟩:=hrel;have HY:Hid ((X++(ts.take i).flatMap (aw lit dist)).length<=10000000):=hid (by
   have h1:=jw HL15.out HD15.out (ts.take i) (λt ht=>HTI.out t (List.mem_of_mem_take ht));have h2:=HXL.out;rw[List.length_append];rw[List.length_take]at h1;omega)
  have HJA:Hid (¬Fp p s2 A):=hid (HS2.out.off HA.out.2);have UE:Hid (¬Fp p s2 (A+1)):=hid (HS2.out.off HB.out.2);have HA1:Hid (Blk wr A #[.slice c1 c2 c3,.slice al lit.length cl] 168):=hid (HA.out.1.kept HS2.out.kept HA.out.2.2);by_cases hlt:i<ts.length
  ·obtain⟨b,o,e1,k1,k2,k3⟩:=TkSrc.at (SrcC.kept fk HSa.out HS2.out.kept (λ_ h _=>h.2)) (Kept.refl _ wr) i hlt;subst e1;obtain⟨t,ht⟩:∃t,t=ts[i]:=⟨_,rfl⟩
   rw[<-ht]at k1 k2 k3;have htI:=HTI.out t (by rw[ht];exact List.getElem_mem _);have HSN:Hid ((ts.take (i+1)).flatMap (aw lit dist)=(ts.take i).flatMap (aw lit dist)++aw lit dist t):=hid (by rw[ht];exact DK _ ts i hlt);obtain⟨W4,Cn⟩:∃W4,W4=wr.alloc (.cells #[.int .u8 (t.lit:Nat),.int .i64 t.len,.int .i64 t.dist] 138):=⟨_,rfl⟩
   have HK4:Hid (Same wr W4):=hid (by rw[Cn];exact(Kept.refl _ wr).alloc _);have HT4:Hid (Blk W4 wr.heap.size #[.int .u8 (t.lit:Nat),.int .i64 t.len,.int .i64 t.dist] 138):=hid (by rw[Cn];exact Blk.new wr _ _);have HJT:Hid (¬Fp p s2 wr.heap.size):=hid (λf=>by have:=HS2.out.wr.fp_lt f;omega);have HLM:Hid (∀W2,Calls Tryz.prog 117 #[kZ t] W2 λe w'=>e=.returned (CW (aJ t))/\Same W2 w'):=hid (λW2=>oG W2 t htI.len htI.byte);have HIC:Hid (∀W2,Calls Tryz.prog 118 #[kZ t] W2 λe w'=>e=.returned (.bool (decide (0<t.len)))/\Same W2 w'):=hid (λW2=>gF W2 t);have HLY:Hid (∀W2,Same wr W2->Calls Tryz.prog 116 #[.agg #[.slice c1 c2 c3,.slice al lit.length cl],.pointer (some ⟨p,0,none⟩),CW (aJ t)] W2 λe w'=>(∃u,e=.returned u)/\∃s',WS Wa w' p s s' (X++(ts.take i).flatMap (aw lit dist)++cH lit (aJ t))/\Kept (Fp p s2) W2 w'/\∀k,Fp p s' k->Fp p s2 k\/W2.heap.size<=k):=hid (λW2 hk2=>ul Wa W2 p s s2 _ lit _ _ (aJ t) (HS2.out.same hk2) HBL.out HL15.out htI.has.1 htI.has.2.1 htI.lx.1 (by have:=htI.lx.2;omega) (by have:=HY.out;omega));have HTN:Hid (rj lit dist t):=htI;have q0:=HA1.out.cell 0;have q1:=HA1.out.cell 1;simp at q0 q1;replace q0:=HK4.out.cell q0 (λf=>f);replace q1:=HK4.out.cell q1 (λf=>f);have t0:=HT4.out.cell 0;have t1:=HT4.out.cell 1;have t2:=HT4.out.cell 2;simp at t0 t1 t2;unfold kZ at HLM HIC;obtain⟨M,hM⟩:∃M,CW (aJ t)=M:=⟨_,rfl⟩
   rw[hM]at HLM HLY;clear hM htI ht;go_wp2_with fail;rw[<-Cn];clear Cn k1 k2 k3;go_region_held3 (λw'=>w'.cell? ⟨A,0,none⟩=some (.slice c1 c2 c3)/\w'.cell? ⟨A,1,none⟩=some (.slice al lit.length cl)/\w'.cell? ⟨wr.heap.size,0,none⟩=some (.int .u8 (t.lit:Nat))/\w'.cell? ⟨wr.heap.size,1,none⟩=some (.int .i64 t.len)/\w'.cell? ⟨wr.heap.size,2,none⟩=some (.int .i64 t.dist))
    (first
     | (go_split_ands;exact⟨hk6.cell (by assumption) HJA.out,hk6.cell (by assumption) HJA.out,hk6.cell (by assumption) HJT.out,hk6.cell (by assumption) HJT.out,hk6.cell (by assumption) HJT.out⟩)
     | (go_split_ands;exact⟨hk5.cell (by assumption) (λf=>f),hk5.cell (by assumption) (λf=>f),hk5.cell (by assumption) (λf=>f),hk5.cell (by assumption) (λf=>f),hk5.cell (by assumption) (λf=>f)⟩)
     | go_keep)
    (first
     | (go_at_call 117;refine(HLM.out _).mono ?_;rintro e w5 ⟨rfl,hk5⟩)
     | (go_at_call 116;refine(HLY.out _ (Same.trans (HK4.out.drew) hk5)).mono ?_;rintro e w6 ⟨⟨u6,rfl⟩,s6,hws6,hk6,tM⟩))
   all_goals
    have HT6:Hid (Blk w6 wr.heap.size #[.int .u8 (t.lit:Nat),.int .i64 t.len,.int .i64 t.dist] 138):=hid (((show Blk W4.drew wr.heap.size #[.int .u8 (t.lit:Nat),.int .i64 t.len,.int .i64 t.dist] 138 from HT4.out).kept hk5 (λf=>f)).kept hk6 HJT.out);have HS6:Hid (WS Wa w6 p s s6 (X++(ts.take i).flatMap (aw lit dist)++cH lit (aJ t))):=hws6;have HJT6:Hid (¬Fp p s6 wr.heap.size):=hid (λf=>by
     rcases tM _ f with h | h
     ·exact HJT.out h
     ·have h1:=hk5.size;have h2:=HT4.out.lt;have h3:W4.drew.heap.size=W4.heap.size:=rfl;omega)
    clear hk5 hk6 hws6 tM q0 q1 t0 t1 t2 HLY HLM HK4 HT4 HJT HJA UE HA1 HS2;have t0:=HT6.out.cell 0;have t1:=HT6.out.cell 1;have t2:=HT6.out.cell 2;simp at t0 t1 t2;by_cases h0:t.len=0
    ·have Cx:decide (0<t.len)=false:=(by simp;omega);rw[Cx]at HIC;have HSF:Hid ((ts.take (i+1)).flatMap (aw lit dist)=(ts.take i).flatMap (aw lit dist)++cH lit (aJ t)):=hid (by rw[HSN.out];congr 1;unfold aw;rw[if_pos h0,List.append_nil]);clear h0 Cx HSN HTN;go_wp2_with fail;refine(HIC.out _).mono ?_;rintro e w7 ⟨rfl,dk⟩;have HS7:Hid (WS Wa w7 p s s6 (X++(ts.take (i+1)).flatMap (aw lit dist))):=hid (by rw[HSF.out,<-List.append_assoc];exact HS6.out.same dk);clear dk HIC t0 t1 t2;go_wp2_with fail;go_roundg (gk-1)
     case measure=>omega
     case rel=>exact⟨i+1,s6,by omega,by omega,by go_num,HS7⟩
    ·have Cx:decide (0<t.len)=true:=(by have:=HTN.out.len;simp;omega);rw[Cx]at HIC;have hti:=HTN.out;have jj:=hti.far h0;have Uu:=hti.dx h0;have IR:=hti.has.2.2 h0;have HU:Hid (bR dist=true):=hid (kk IR.1 IR.2);have HDM:Hid (∀W2,Calls Tryz.prog 119 #[kZ t] W2 λe w'=>e=.returned (CW (aH t))/\Same W2 w'):=hid (λW2=>mC W2 t jj.1 jj.2);have HSF:Hid ((ts.take (i+1)).flatMap (aw lit dist)=(ts.take i).flatMap (aw lit dist)++(cH lit (aJ t)++cH dist (aH t))):=hid (by rw[HSN.out];congr 1;unfold aw;rw[if_neg h0]);have HY6:Hid ((X++(ts.take i).flatMap (aw lit dist)++cH lit (aJ t)).length<=100000000):=hid (by
      have h1:=HY.out;have h2:=HL15.out (aJ t).sym;have h3:=hti.lx.2;unfold cH;rw[List.length_append]at h1;simp only[List.length_append,aq,af];omega)
     have HLY:Hid (∀W2,Same w6 W2->Calls Tryz.prog 116 #[.agg #[.slice d1 d2 d3,.slice ad dist.length cd],.pointer (some ⟨p,0,none⟩),CW (aH t)] W2 λe w'=>(∃u,e=.returned u)/\∃s',WS Wa w' p s s' (X++(ts.take i).flatMap (aw lit dist)++cH lit (aJ t)++cH dist (aH t))/\Kept (Fp p s6) W2 w'/\∀k,Fp p s' k->Fp p s6 k\/W2.heap.size<=k):=hid (λW2 hk2=>ul Wa W2 p s s6 _ dist _ _ (aH t) (HS6.out.same hk2) (HBD.out HU.out) HD15.out IR.1 IR.2 Uu.1 (by omega) HY6.out);unfold kZ at HDM;obtain⟨M2,Ty⟩:∃M2,CW (aH t)=M2:=⟨_,rfl⟩
     rw[Ty]at HDM HLY;clear Ty hti jj Uu IR h0 Cx HTN HSN;go_wp2_with fail;refine(HIC.out _).mono ?_;rintro e w7 ⟨rfl,dk⟩;have HJB6:Hid (¬Fp p s6 (A+1)):=hid (HS6.out.off HB.out.2);have HB7:Hid (Blk w7 (A+1) #[.slice d1 d2 d3,.slice ad dist.length cd] 168):=hid ((HB.out.1.kept HS6.out.kept HB.out.2.2).kept dk (λf=>f));have HT7:Hid (Blk w7 wr.heap.size #[.int .u8 (t.lit:Nat),.int .i64 t.len,.int .i64 t.dist] 138):=hid (HT6.out.kept dk (λf=>f));have HK7:Hid (Same w6 w7):=dk;clear dk HIC t0 t1 t2;have q0:=HB7.out.cell 0;have q1:=HB7.out.cell 1;have t0:=HT7.out.cell 0;have t1:=HT7.out.cell 1;have t2:=HT7.out.cell 2;simp at q0 q1 t0 t1 t2;go_wp2_with fail;go_region_held3 (λw'=>w'.cell? ⟨A+1,0,none⟩=some (.slice d1 d2 d3)/\w'.cell? ⟨A+1,1,none⟩=some (.slice ad dist.length cd)/\w'.cell? ⟨wr.heap.size,0,none⟩=some (.int .u8 (t.lit:Nat))/\w'.cell? ⟨wr.heap.size,1,none⟩=some (.int .i64 t.len)/\w'.cell? ⟨wr.heap.size,2,none⟩=some (.int .i64 t.dist))
      (first
       | (go_split_ands;exact⟨hk9.cell (by assumption) HJB6.out,hk9.cell (by assumption) HJB6.out,hk9.cell (by assumption) HJT6.out,hk9.cell (by assumption) HJT6.out,hk9.cell (by assumption) HJT6.out⟩)
       | (go_split_ands;exact⟨hk8.cell (by assumption) (λf=>f),hk8.cell (by assumption) (λf=>f),hk8.cell (by assumption) (λf=>f),hk8.cell (by assumption) (λf=>f),hk8.cell (by assumption) (λf=>f)⟩)
       | go_keep)
      (first
       | (go_at_call 119;refine(HDM.out _).mono ?_;rintro e w8 ⟨rfl,hk8⟩)
       | (go_at_call 116;refine(HLY.out _ (Same.trans (HK7.out.drew) hk8)).mono ?_;rintro e w9 ⟨⟨u9,rfl⟩,s9,EH,hk9,_⟩))
     all_goals
      have VC:Hid (WS Wa w9 p s s9 (X++(ts.take (i+1)).flatMap (aw lit dist))):=hid (by rw[HSF.out,<-List.append_assoc,<-List.append_assoc];exact EH);clear EH hk8 hk9 q0 q1 t0 t1 t2 HLY HDM;go_wp2_with fail;go_roundg (gk-1)
      case measure=>omega
      case rel=>exact⟨i+1,s9,by omega,by omega,by go_num,VC⟩
  ·have yK:i=ts.length:=(by omega);have HS3:Hid (WS Wa wr p s s2 (X++ts.flatMap (aw lit dist))):=hid (by have h:=HS2.out;rwa [yK,List.take_length]at h);have HY3:Hid ((X++ts.flatMap (aw lit dist)).length<=10000000):=hid (by have h:=HY.out;rwa [yK,List.take_length]at h);have q0:=HA1.out.cell 0;have q1:=HA1.out.cell 1;simp at q0 q1;have HLY:Calls Tryz.prog 116 #[.agg #[.slice c1 c2 c3,.slice al lit.length cl],.pointer (some ⟨p,0,none⟩),.agg #[.int .i64 256,.int .u32 0,.int .i64 0]] wr λe w'=>(∃u,e=.returned u)/\∃s',WS Wa w' p s s' (X++ts.flatMap (aw lit dist)++cH lit ⟨256,0,0⟩)/\Kept (Fp p s2) wr w'/\(∀k,Fp p s' k->Fp p s2 k\/wr.heap.size<=k):=ul Wa wr p s s2 _ lit _ _ ⟨256,0,0⟩ HS3.out HBL.out HL15.out HEND.out.1 HEND.out.2 (by decide) (by decide) (by have:=HY3.out;omega)
   clear yK HY3 HS2 HY HA1 HJA UE;go_wp2_with fail;refine HLY.mono ?_;rintro e w6 ⟨⟨u6,rfl⟩,s6,hws6,_⟩;have HS6:Hid (WS w w6 p s s6 (X++(ts.flatMap (aw lit dist)++aE lit 256))):=hid (by
    have h:cH lit ⟨256,0,0⟩=aE lit 256:=(by unfold cH;simp[aj]);rw[h,List.append_assoc]at hws6;exact hws6.base HKa.out)
   clear hws6 HLY q0 q1;go_wp2_with fail;go_end0;exact⟨⟨_,rfl⟩,s6,HS6.out⟩
end Go.Proofs.YtkhagfgineifhaaGreatDoor
