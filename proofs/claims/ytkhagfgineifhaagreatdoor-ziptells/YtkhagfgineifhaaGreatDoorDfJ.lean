import Derived.Test.YtkhagfgineifhaaGreatDoorDfI
set_option maxHeartbeats 400000
set_option maxRecDepth 100000
namespace Go.Proofs.YtkhagfgineifhaaGreatDoor
open Go.RowKit
def aV(ns:List Nat):List Nat:=j9 (dS ns 15).length (dS ns 15)
theorem RowE.raise{α:Type}{enc:α->Value}{B B' t:Nat}{w:World}{g n cap:Nat}{xs:List α}(h:RowE B t enc w (.slice (Option.some ⟨g,0,none⟩) n cap) xs)(hb:B'<=g):RowE B' t enc w (.slice (Option.some ⟨g,0,none⟩) n cap) xs:=by
 refine⟨h.1,?_⟩;rcases h.2 with A5 | ⟨g',cap',cur,e,jD,rest⟩
 ·exact .inl A5
 ·have:g=g':=(by simp at e;exact e.1);exact .inr ⟨g',cap',cur,e,by omega,rest⟩
theorem lG{l:List Nat}{m:Nat}(h:m<=l.length)(h1:1<=m):key (l.take m) ((l.take m).length-1)=key l (m-1):=by rw[List.length_take,Nat.min_eq_left h];simp only[key,List.getD_eq_getElem?_getD,List.getElem?_take];rw[if_pos (by omega)]
theorem qN(w:World)(v:Value)(I:Nat→Prop)(ns:List Nat)(hs:SrcE am w I v ns)(h0:0<ns.length)(hl:ns.length≤288)(hb:∀x∈ns,x≤1000000):
  Calls Tryz.prog 95 #[v] w λe w'=>∃v',e=.returned v'/\NRow w.heap.size w' v' (aV ns)/\Same w w':=by
 obtain⟨av,cv,A1,_⟩:=id hs;subst A1;have hok:eC (ns.map (fun(n:Nat)=>(n:Int))) 0 1000000000000=true:=by simp only[eC,List.length_map,Bool.and_eq_true,decide_eq_true_eq,Bool.not_eq_true',List.any_eq_false];refine⟨⟨by omega,by omega⟩,λz hz=>?_⟩;obtain⟨n,hn,rfl⟩:=List.mem_map.1 hz;have:=hb n hn;simp[d6];omega
 have HL:=qm w _ I (ns.map (fun(n:Nat)=>(n:Int))) ns 15 (hs.recode (enc':=bI) (by rw[List.map_map];rfl)) hok (by
  rw[List.map_map];conv=>lhs;rw[<-List.map_id ns]
  exact List.map_congr_left (λn _=>by simp)) (by decide) (by decide) (by have:=cJ ns;omega)
 have HLL:Hid ((dS ns 15).length=ns.length):=hid (iw ns 15);have HCH:Hid (aV ns=j9 (dS ns 15).length (dS ns 15)):=hid rfl;generalize hlm:dS ns 15=lm at HL HLL HCH;obtain⟨L,hL⟩:∃L,L=ns.length:=⟨_,rfl⟩
 rw[<-hL]at h0 hl HLL;rw[<-hL]at HL;clear hs hb hok hlm;rw[<-hL];clear hL;go_enter Tryz.func95,Tryz.ntmps95;go_wp2_with fail;refine HL.mono ?_;rintro e w1 ⟨⟨g,n,cap,rfl,hr,hg⟩,hk⟩;have hn:=hr.len;rw[HLL.out]at hn;subst hn;have HR:Hid (NRow w.heap.size w1 (.slice (some ⟨g,0,none⟩) L cap) lm):=hid (RowE.raise hr hg);have HK:Hid (Same w w1):=hk;have cD:L<=cap:=by obtain⟨_,_,e,_,_,h9,_⟩:=hr.shape;injection e with _ _ e;rw[HLL.out]at h9;omega
 clear hr hg hk HL;go_wp2_with fail;go_loopg [3] L (λq zl wr=>∃(m k:Nat),m<=q/\1<=m/\m<=L/\zl=.slice (some ⟨g,0,none⟩) m cap/\wr=w1/\Hid (j9 k (lm.take m)=aV ns/\m<=k))
 case atStart=>exact⟨L,L,by omega,by omega,by omega,rfl,rfl,hid ⟨by rw[HCH.out,HLL.out,List.take_of_length_le (by rw[HLL.out];exact Nat.le_refl _)],Nat.le_refl _⟩⟩
 case round=>
  obtain⟨m,k,hq,hm1,Qu,rfl,rfl,HT⟩:=hrel;have HRM:Hid (NRow w.heap.size wr (.slice (some ⟨g,0,none⟩) m cap) (lm.take m)):=hid (by
   have h:=HR.out;rw[<-List.take_append_drop m lm]at h;have h2:=RowE.cut h;rw[List.length_take,HLL.out,Nat.min_eq_left Qu]at h2;exact h2)
  obtain⟨x,hx⟩:∃x,x=key lm (m-1):=⟨_,rfl⟩
  obtain⟨m1,hm⟩:∃m1,m=m1+1:=⟨m-1,by omega⟩
  subst hm;have cg:wr.cell? ⟨g,m1,none⟩=some (.int .i64 (x:Nat)):=by have h:=HR.out.cell m1 (by rw[HLL.out];omega);rw[h,hx,Nat.add_sub_cancel,aZ (by rw[HLL.out];omega)];rfl
  have jE:((m1+1:Nat):Int)-1=(m1:Int):=(by omega);by_cases AX:m1=0
  ·subst AX;have HF:Hid (aV ns=lm.take 1):=hid (by
    rw[<-HT.out.1];cases k with
    | zero=>rfl
    | succ k=>unfold j9;rw[if_neg (by rw[List.length_take,HLL.out];omega)])
   clear HT hx cg jE;go_wp2_with fail;go_ret;exact⟨_,rfl,by rw[HF.out];exact HRM.out,HK.out⟩
  ·by_cases hz:x=0
   ·have HF:Hid (j9 (k-1) (lm.take m1)=aV ns∧m1≤k-1):=hid ⟨by
     rw[<-HT.out.1];have hk:=HT.out.2;obtain⟨k',rfl⟩:∃k',k=k'+1:=⟨k-1,by omega⟩
     rw[j9,if_pos ⟨by rw[List.length_take,HLL.out];omega,by rw[lG (by rw[HLL.out];exact Qu) (by omega),<-hx];exact hz⟩,Nat.add_sub_cancel,List.take_take,List.length_take,HLL.out];congr 2;omega,by have:=HT.out.2;omega⟩
    subst hz;clear HT hx;go_wp2_with fail;go_roundg (gk-1)
    case measure=>omega
    case rel=>exact⟨m1,k-1,by omega,by omega,by omega,by go_num,rfl,HF⟩
   ·have HF:Hid (aV ns=lm.take (m1+1)):=hid (by
     rw[<-HT.out.1];cases k with
     | zero=>rfl
     | succ k=>unfold j9;rw[if_neg (by rw[lG (by rw[HLL.out];exact Qu) (by omega),<-hx];exact λh=>hz h.2)])
    have ZR:((x:Int)==0)=false:=(by simp;omega);clear HT hx hz;go_wp2_with fail;go_ret;exact⟨_,rfl,by rw[HF.out];exact HRM.out,HK.out⟩
end Go.Proofs.YtkhagfgineifhaaGreatDoor
