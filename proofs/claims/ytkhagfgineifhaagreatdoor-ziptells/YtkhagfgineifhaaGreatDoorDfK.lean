import Derived.Test.YtkhagfgineifhaaGreatDoorDfJ
namespace Go.Proofs.YtkhagfgineifhaaGreatDoor
theorem pP{l:List Nat}{j:Nat}(h:l.length<=j):key l j=0:=by simp[key,List.getD_eq_getElem?_getD,List.getElem?_eq_none h]
theorem ow{l:List Nat}{j:Nat}(h:key l j≠0):j<l.length:=by refine Classical.byContradiction (λhc=>h (pP (by omega)))
theorem Hn{l:List Nat}{m:Nat}(hz:∀j,m<=j->key l j=0)(j:Nat):key (l.take m) j=key l j:=by
 by_cases h:j<m
 ·simp only[key,List.getD_eq_getElem?_getD,List.getElem?_take];rw[if_pos h]
 ·rw[hz j (by omega)];exact pP (by rw[List.length_take];omega)
theorem Dt{l:List Nat}{m:Nat}(hz:∀j,m<=j->key l j=0):bw (l.take m)=bw l:=by
 have hd:∀x∈l.drop m,x=0:=by intro x hx;obtain⟨i,hi,rfl⟩:=List.getElem_of_mem hx;rw[List.length_drop]at hi;have:=hz (m+i) (by omega);rw[aZ (by omega)]at this;rw[List.getElem_drop];exact this
 have h1:measure l=measure (l.take m):=by
  conv=>lhs;rw[<-List.take_append_drop m l]
  unfold measure;rw[List.map_append,List.sum_append];have:((l.drop m).map eM).sum=0:=by
   generalize l.drop m=d at hd
   induction d with
   | nil=>rfl
   | cons x r ih=>
    rw[List.map_cons,List.sum_cons,hd x (by simp),ih (λy hy=>hd y (by simp[hy]))];rfl
  omega
 have h2:dE l=dE (l.take m):=by
  conv=>lhs;rw[<-List.take_append_drop m l]
  unfold dE;rw[List.countP_append];have:(l.drop m).countP (λn=>n != 0)=0:=List.countP_eq_zero.2 (λx hx=>by simp[hd x hx]);omega
 unfold bw;rw[h1,h2]
structure Vb(ns:List Nat)(l:List Nat):Prop where
 pos:1<=l.length
 max:l.length<=ns.length
 le:∀x∈l,x<=15
 key:∀s,key ns s≠0->key l s≠0
 ok:(∃s,Go.Proofs.YtkhagfgineifhaaGreatDoor.key ns s≠0)->bw l=0
 back:∀s,Go.Proofs.YtkhagfgineifhaaGreatDoor.key l s≠0->Go.Proofs.YtkhagfgineifhaaGreatDoor.key ns s≠0
theorem tT(ns:List Nat)(h0:0<ns.length)(hl:ns.length<=288):Vb ns (aV ns):=by
 have cL:(aD ns).length<=2 ^ 15:=by have:=cJ ns;omega
 have yp:=iw ns 15;obtain⟨m,h1,h2,h3,h4⟩:=Ge (dS ns 15).length (dS ns 15) (by omega);have hc:aV ns=(dS ns 15).take m:=h1;have hkk:=Hn h4;refine⟨by rw[hc,List.length_take];omega,by rw[hc,List.length_take];omega,λx hx=>?_,λs hs=>?_,fun⟨s,hs⟩=>?_,λs hs=>?_⟩
 ·rw[hc]at hx;exact Hl ns 15 cL (by decide) (by decide) x (List.mem_of_mem_take hx)
 ·rw[hc,hkk];exact B8 ns 15 s (ow hs) hs cL (by decide) (by decide)
 ·rw[hc,Dt h4];exact tn ns 15 (List.length_pos_of_mem (aW.2 ⟨ow hs,hs⟩)) cL (by decide) (by decide)
 ·rw[hc,hkk]at hs;have hsl:=ow hs;rw[aZ hsl,qt]at hs;intro h9;rw[if_pos h9]at hs;exact hs rfl
def cC(ts:List TK):List Nat:=ik (iH ts (List.replicate 286 0)) 256
def bl(ts:List TK):List Nat:=iM ts (List.replicate 30 0)
theorem tl(n j:Nat):key (List.replicate n 0) j=0:=by simp only[key,List.getD_eq_getElem?_getD,List.getElem?_replicate];split<;>rfl
structure Oj(ts:List TK):Prop where
 ok:OkL (aV (cC ts)) (aV (bl ts))
 toks:oa (aV (cC ts)) (aV (bl ts)) ts
 may:G4 ((aV (cC ts)).map (fun(n:Nat)=>(n:Int))) ((aV (bl ts)).map (fun(n:Nat)=>(n:Int)))=true
 lc:∀x∈cC ts,x<=1000000
 dc:∀x∈bl ts,x<=1000000
 ll:(cC ts).length=286
 dl:(bl ts).length=30
theorem ui{l:List Nat}{x:Nat}(h:x∈l):∃j,x=key l j:=by obtain⟨i,hi,rfl⟩:=List.getElem_of_mem h;exact⟨i,(aZ hi).symm⟩
theorem Hb{ts:List TK}{n:Nat}(hm:ce 16384 ts 0=.ok n)(hb:∀t∈ts,t.lit<256):Oj ts:=by
 have jk:∀t∈ts,(aJ t).sym<286/\(t.len≠0->(aH t).sym<30):=λt ht=>by obtain⟨said,h1,h2⟩:=jB hm (by decide) t ht;have h3:=pE h2 h1 (hb t ht);exact⟨by omega,λh=>by have:=(h3.2.2.2.2 h).2.1;omega⟩
 have YI:=fI hm;have KR:(iH ts (List.replicate 286 0)).length=286:=by rw[kn,List.length_replicate]
 have hA:(cC ts).length=286:=by unfold cC;rw[fJ,KR]
 have hB:(bl ts).length=30:=by unfold bl;rw[oN,List.length_replicate]
 have kA:=λj=>qv ts (List.replicate 286 0) (λt ht=>by rw[List.length_replicate];exact(jk t ht).1) j
 have kB:=λj=>yc ts (List.replicate 30 0) (λt ht h=>by rw[List.length_replicate];exact(jk t ht).2 h) j
 have kb:=λj=>qQ (iH ts (List.replicate 286 0)) 256 j (by omega)
 have M5:key (cC ts) 256≠0:=by have:=kb 256;rw[if_pos rfl]at this;unfold cC;omega
 have cA:=tT (cC ts) (by omega) (by omega);have cB:=tT (bl ts) (by omega) (by omega);have M6:∀t∈ts,key (cC ts) (aJ t).sym≠0:=λt ht=>by have h1:=(kA (aJ t).sym).2.2 ⟨t,ht,rfl⟩;have h2:=kb (aJ t).sym;unfold cC;omega
 have Tf:∀t∈ts,t.len≠0->key (bl ts) (aH t).sym≠0:=λt ht h=>by have h1:=(kB (aH t).sym).2.2 ⟨t,ht,h,rfl⟩;unfold bl;omega
 have PM:=ow (cA.key 256 M5);have Yq:=cA.max;have Xe:=cB.max;have Xw:=cB.pos;refine⟨⟨⟨cA.pos,by omega,cA.le,cA.ok ⟨256,M5⟩⟩,cB.pos,by omega,cB.le,λhu=>?_⟩,⟨λt ht=>?_,⟨PM,cA.key 256 M5⟩,hb⟩,?_,λx hx=>?_,λx hx=>?_,hA,hB⟩
 ·refine⟨cB.pos,by omega,cB.le,cB.ok ?_⟩;unfold bR at hu;obtain⟨x,hx,h9⟩:=List.any_eq_true.1 hu;obtain⟨j,rfl⟩:=ui hx;exact⟨j,cB.back j (by simpa using h9)⟩
 ·have h1:=cA.key _ (M6 t ht);refine⟨ow h1,h1,λh=>?_⟩;have h2:=cB.key _ (Tf t ht h);exact⟨ow h2,h2⟩
 ·unfold G4;have e1:cG ((aV (cC ts)).map (fun(n:Nat)=>(n:Int)))=true:=(fh _).2 (λz hz=>by
   obtain⟨x,hx,rfl⟩:=List.mem_map.1 hz;have:=cA.le x hx;omega)
  have e2:cG ((aV (bl ts)).map (fun(n:Nat)=>(n:Int)))=true:=(fh _).2 (λz hz=>by
   obtain⟨x,hx,rfl⟩:=List.mem_map.1 hz;have:=cB.le x hx;omega)
  rw[e1,e2];simp only[List.length_map,Bool.and_true,Bool.and_eq_true,decide_eq_true_eq];omega
 ·obtain⟨j,rfl⟩:=ui hx;have h1:=kb j;have h2:=(kA j).2.1;rw[tl]at h2;unfold cC;split at h1<;>omega
 ·obtain⟨j,rfl⟩:=ui hx;have h2:=(kB j).2.1;rw[tl]at h2;unfold bl;omega
end Go.Proofs.YtkhagfgineifhaaGreatDoor
