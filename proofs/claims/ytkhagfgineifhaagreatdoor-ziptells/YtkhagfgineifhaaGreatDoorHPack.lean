import Derived.Test.YtkhagfgineifhaaGreatDoorHRow
namespace Go.Proofs.YtkhagfgineifhaaGreatDoor
abbrev Up(l:List Nat):Prop:=l.Pairwise (·<=·)
def mg:List Nat->List Nat->List (Nat×Bool)
 | l,[]=>l.map (λa=>(a,false))
 | l,p::ps=>(l.takeWhile (λa=>decide (a<=p))).map (λa=>(a,false))++(p,true)::mg (l.dropWhile (λa=>decide (a<=p))) ps
theorem qM(l:List Nat):(l.map (λa=>(a,false))).map (·.1)=l:=by
 induction l with
 | nil=>rfl
 | cons a r ih=>rw[List.map_cons,List.map_cons,ih]
theorem iE(l:List Nat):mg l []=l.map (λa=>(a,false)):=by simp[mg]
theorem kR{a p:Nat}(l ps:List Nat)(h:a<=p):mg (a::l) (p::ps)=(a,false)::mg l (p::ps):=by simp[mg,h]
theorem kQ{a p:Nat}(l ps:List Nat)(h:¬a<=p):mg (a::l) (p::ps)=(p,true)::mg (a::l) ps:=by simp[mg,h]
theorem mO(p:Nat)(ps:List Nat):mg [] (p::ps)=(p,true)::mg [] ps:=by simp[mg]
theorem qB{motive:List Nat→List Nat→Prop}(h1:∀l,motive l [])(h2:∀a l p ps,a≤p→motive l (p::ps)→motive (a::l) (p::ps))
  (h3:∀a l p ps,¬a<=p->motive (a::l) ps->motive (a::l) (p::ps)) (h4:∀p ps,motive [] ps->motive [] (p::ps)) (l ps:List Nat):motive l ps:=by
 induction ps generalizing l with
 | nil=>exact h1 l
 | cons p ps ih=>
  induction l with
  | nil=>exact h4 p ps (ih [])
  | cons a l ihl=>
   by_cases h:a<=p
   ·exact h2 a l p ps h ihl
   ·exact h3 a l p ps h (ih (a::l))
theorem ti(l ps:List Nat):((mg l ps).filter (λx=>!x.2)).map (·.1)=l:=by
 refine qB (motive:=λl ps=>((mg l ps).filter (λx=>!x.2)).map (·.1)=l) ?_ ?_ ?_ ?_ l ps
 ·intro l;rw[iE,List.filter_eq_self.2 (by simp)];exact qM l
 ·intro a l p ps h ih;rw[kR _ _ h,List.filter_cons_of_pos (by simp),List.map_cons,ih]
 ·intro a l p ps h ih;rw[kQ _ _ h,List.filter_cons_of_neg (by simp),ih]
 ·intro p ps ih;rw[mO,List.filter_cons_of_neg (by simp),ih]
theorem FC(l ps:List Nat):((mg l ps).filter (λx=>x.2)).map (·.1)=ps:=by
 refine qB (motive:=λl ps=>((mg l ps).filter (λx=>x.2)).map (·.1)=ps) ?_ ?_ ?_ ?_ l ps
 ·intro l;rw[iE,List.filter_eq_nil_iff.2 (by simp)];rfl
 ·intro a l p ps h ih;rw[kR _ _ h,List.filter_cons_of_neg (by simp),ih]
 ·intro a l p ps h ih;rw[kQ _ _ h,List.filter_cons_of_pos (by simp),List.map_cons,ih]
 ·intro p ps ih;rw[mO,List.filter_cons_of_pos (by simp),List.map_cons,ih]
theorem mK(l ps:List Nat):((mg l ps).map (·.1)).Perm (l++ps):=by
 refine qB (motive:=λl ps=>((mg l ps).map (·.1)).Perm (l++ps)) ?_ ?_ ?_ ?_ l ps
 ·intro l;rw[iE,qM,List.append_nil]
 ·intro a l p ps h ih;rw[kR _ _ h];exact ih.cons a
 ·intro a l p ps h ih;rw[kQ _ _ h,List.map_cons];exact(ih.cons p).trans (List.perm_middle (l₁:=a::l)).symm
 ·intro p ps ih;rw[mO];exact ih.cons p
theorem sX(l ps:List Nat):(mg l ps).length=l.length+ps.length:=by have:=(mK l ps).length_eq;simpa using this
theorem Lf(l ps:List Nat)(hl:Up l)(hp:Up ps):Up ((mg l ps).map (·.1)):=by
 revert hl hp
 refine qB (motive:=λl ps=>Up l->Up ps->Up ((mg l ps).map (·.1))) ?_ ?_ ?_ ?_ l ps
 ·intro l hl _;rw[iE,qM];exact hl
 ·intro a l p ps h ih hl hp;have ha:=List.pairwise_cons.1 hl;have hb:=List.pairwise_cons.1 hp;rw[kR _ _ h,List.map_cons];refine List.pairwise_cons.2 ⟨λx hx=>?_,ih ha.2 hp⟩;rcases List.mem_append.1 ((mK l (p::ps)).mem_iff.1 hx)with h1 | h1
  ·exact ha.1 x h1
  ·rcases List.mem_cons.1 h1 with rfl | h1
   ·exact h
   ·exact Nat.le_trans h (hb.1 x h1)
 ·intro a l p ps h ih hl hp;have ha:=List.pairwise_cons.1 hl;have hb:=List.pairwise_cons.1 hp;rw[kQ _ _ h,List.map_cons];refine List.pairwise_cons.2 ⟨λx hx=>?_,ih hl hb.2⟩;rcases List.mem_append.1 ((mK (a::l) ps).mem_iff.1 hx)with h1 | h1
  ·rcases List.mem_cons.1 h1 with rfl | h1
   ·omega
   ·have:=ha.1 x h1;omega
  ·exact hb.1 x h1
 ·intro p ps ih hl hp;have hb:=List.pairwise_cons.1 hp;rw[mO,List.map_cons];refine List.pairwise_cons.2 ⟨λx hx=>?_,ih hl hb.2⟩;rcases List.mem_append.1 ((mK [] ps).mem_iff.1 hx)with h1 | h1
  ·simp at h1
  ·exact hb.1 x h1
def pk(X:List (Nat×Bool))(T:Nat):Nat:=(X.take T).countP (λx=>x.2)
def lf(X:List (Nat×Bool))(T:Nat):Nat:=(X.take T).countP (λx=>!x.2)
theorem Gr(X:List (Nat×Bool))(T:Nat)(h:T<=X.length):lf X T+pk X T=T:=by
 have e:(X.take T).length=T:=by simp;omega
 have:=List.length_eq_countP_add_countP (λx:Nat×Bool=>x.2) (l:=X.take T);have h2:lf X T=(X.take T).countP (λa=>decide ¬(a.2=true)):=by unfold lf;congr 1;funext x;cases x.2<;>rfl
 unfold pk at *
 omega
theorem CQ(l ps:List Nat)(hl:Up l)(k T:Nat)(hk:k<ps.length)(hT:k+1<=pk (mg l ps) T):l.countP (λa=>decide (a<=ps[k]))<=lf (mg l ps) T:=by
 revert hl k T
 refine qB (motive:=λl ps=>Up l->∀(k T:Nat) (hk:k<ps.length),k+1<=pk (mg l ps) T->l.countP (λa=>decide (a<=ps[k]))<=lf (mg l ps) T) ?_ ?_ ?_ ?_ l ps
 ·intro l _ k T hk;simp at hk
 ·intro a l p ps h ih hl k T hk hT;rw[kR _ _ h]at hT ⊢;cases T with
  | zero=>simp[pk]at hT
  | succ T=>
   have h1:k+1<=pk (mg l (p::ps)) T:=(by simpa[pk]using hT);have h2:=ih (List.pairwise_cons.1 hl).2 k T hk h1;have h3:lf ((a,false)::mg l (p::ps)) (T+1)=lf (mg l (p::ps)) T+1:=(by simp[lf]);rw[h3];have:=List.countP_cons (p:=λa=>decide (a<=(p::ps)[k])) (a:=a) (l:=l);rw[this];split<;>omega
 ·intro a l p ps h ih hl k T hk hT;rw[kQ _ _ h]at hT ⊢;cases T with
  | zero=>simp[pk]at hT
  | succ T=>
   have h3:lf ((p,true)::mg (a::l) ps) (T+1)=lf (mg (a::l) ps) T:=(by simp[lf]);rw[h3];cases k with
   | zero=>
    have:(a::l).countP (λx=>decide (x<=(p::ps)[0]))=0:=by
     refine List.countP_eq_zero.2 (λx hx hc=>?_);have hc:x<=p:=(by simpa using hc);rcases List.mem_cons.1 hx with rfl | hx
     ·exact h hc
     ·have:=(List.pairwise_cons.1 hl).1 x hx;omega
    rw[this];omega
   | succ k=>
    have h1 : k + 1 ≤ pk (mg (a :: l) ps) T := by have h4:k+1+1≤pk (mg (a::l) ps) T+1:=by simpa[pk]using hT
                                                  omega
    exact ih hl k T (by simpa using hk) h1
 ·intro p ps ih hl k T hk hT;simp
def cR:List Nat->List Nat
 | a::b::r=>(a+b)::cR r
 | _=>[]
theorem b6:∀l:List Nat,(cR l).length=l.length / 2
 | []=>rfl
 | [_]=>by simp[cR]
 | a::b::r=>by simp only[cR,List.length_cons,b6 r];omega
theorem gD:∀(l:List Nat) (k:Nat) (h:k<(cR l).length),(cR l)[k]=l[2*k]'(by have:=b6 l;omega)+l[2*k+1]'(by have:=b6 l;omega)
 | [],k,h=>by simp[cR]at h
 | [_],k,h=>by simp[cR]at h
 | a::b::r,0,h=>by simp[cR]
 | a::b::r,k+1,h=>by have h2:k<(cR r).length:=(by simpa[cR]using h);have:=gD r k h2;simp only[cR,List.getElem_cons_succ,this,show 2*(k+1)=2*k+1+1 by omega]
theorem Ft(l:List Nat)(h:Up l):Up (cR l):=by
 refine List.pairwise_iff_getElem.2 (λi j hi hj Hy=>?_);rw[gD l i hi,gD l j hj];have hl:=b6 l;have g:=fun(x y:Nat) (hx:x<l.length) (hy:y<l.length) (tP:x<y)=>List.pairwise_iff_getElem.1 h x y hx hy tP
 have h1:=g (2*i) (2*j) (by omega) (by omega) (by omega);have h2:=g (2*i+1) (2*j+1) (by omega) (by omega) (by omega);omega
def cM(ws:List Nat):Nat->List (Nat×Bool)
 | 0=>mg ws []
 | t+1=>mg ws (cR ((cM ws t).map (·.1)))
theorem GL(ws:List Nat)(h:Up ws):∀t,Up ((cM ws t).map (·.1))
 | 0=>Lf ws [] h List.Pairwise.nil
 | t+1=>Lf ws _ h (Ft _ (GL ws h t))
theorem jI(ws:List Nat)(t:Nat):(cM ws (t+1)).length=ws.length+(cM ws t).length / 2:=by simp[cM,sX,b6]
theorem jH(ws:List Nat):(cM ws 0).length=ws.length:=by simp[cM,iE]
theorem me(ws:List Nat)(t:Nat):2 ^ t*(2*ws.length)<=2 ^ t*(cM ws t).length+ws.length+(2 ^ t-1)/\(cM ws t).length<=2*ws.length:=by
 induction t with
 | zero=>rw[jH];simp;omega
 | succ t ih=>
  rw[jI,Nat.pow_succ];have hp:0<2 ^ t:=Nat.two_pow_pos t;generalize (cM ws t).length=L at *
  generalize ws.length=m at *
  generalize 2 ^ t=q at *
  have h1:L<=2*(L / 2)+1:=(by omega);have h2:q*L<=q*(2*(L / 2)+1):=Nat.mul_le_mul_left _ h1;have e1:q*2*(2*m)=2*(q*(2*m)):=(by rw[Nat.mul_assoc,<-Nat.mul_left_comm]);have e2:q*2*(m+L / 2)=q*(2*m)+q*(2*(L / 2)):=(by rw[Nat.mul_assoc,<-Nat.mul_add];congr 1;omega);have e3:q*(2*(L / 2)+1)=q*(2*(L / 2))+q:=(by rw[Nat.mul_add,Nat.mul_one]);refine⟨?_,by omega⟩;omega
theorem BS(ws:List Nat)(t:Nat)(h:ws.length<=2 ^ (t+1)):2*ws.length-2<=(cM ws t).length:=by
 have h1:=(me ws t).1;have hp:0<2 ^ t:=Nat.two_pow_pos t;rw[Nat.pow_succ]at h;generalize (cM ws t).length=L at *
 generalize ws.length=m at *
 generalize 2 ^ t=q at *
 refine Classical.byContradiction (λhc=>?_);have h2:L+3<=2*m:=by omega
 have h3:q*(L+3)<=q*(2*m):=Nat.mul_le_mul_left _ h2;rw[Nat.mul_add]at h3;omega
theorem Bp(ws:List Nat)(t T:Nat):2*pk (cM ws (t+1)) T<=(cM ws t).length:=by
 have h1:pk (cM ws (t+1)) T<=(cM ws (t+1)).countP (λx=>x.2):=by unfold pk;exact List.Sublist.countP_le (List.take_sublist _ _)
 have h2:(cM ws (t+1)).countP (λx=>x.2)=(cR ((cM ws t).map (·.1))).length:=by rw[<-FC ws (cR ((cM ws t).map (·.1))),List.length_map,List.countP_eq_length_filter];rfl
 rw[b6,List.length_map]at h2;omega
theorem BH(ws:List Nat)(T:Nat):pk (cM ws 0) T=0:=by unfold pk;refine List.countP_eq_zero.2 (λx hx=>?_);have:=List.mem_of_mem_take hx;simp[cM,iE]at this;obtain⟨a,_,rfl⟩:=this;simp
theorem wH(l ps:List Nat)(T:Nat):(((mg l ps).take T).filter (λx=>!x.2)).map (·.1)=l.take (lf (mg l ps) T):=by
 have h:=ti l ps;have e:(mg l ps).filter (λx=>!x.2)=((mg l ps).take T).filter (λx=>!x.2)++((mg l ps).drop T).filter (λx=>!x.2):=by rw[<-List.filter_append,List.take_append_drop]
 rw[e,List.map_append]at h;generalize hA:(((mg l ps).take T).filter (λx=>!x.2)).map (·.1)=A at *
 have hl:lf (mg l ps) T=A.length:=by rw[<-hA,List.length_map,lf,List.countP_eq_length_filter]
 rw[hl,<-h,List.take_left'];rfl
theorem Lb(l ps:List Nat)(T:Nat):lf (mg l ps) T<=l.length:=by
 have h:lf (mg l ps) T<=(mg l ps).countP (λx=>!x.2):=by unfold lf;exact List.Sublist.countP_le (List.take_sublist _ _)
 have h2:=congrArg List.length (ti l ps);rw[List.length_map,<-List.countP_eq_length_filter]at h2;omega
theorem kI(ws:List Nat)(t T:Nat):lf (cM ws t) T<=ws.length:=by
 cases t with
 | zero=>exact Lb ws [] T
 | succ t=>exact Lb ws _ T
theorem JW(ws:List Nat)(hu:Up ws)(t T:Nat):lf (cM ws t) (2*pk (cM ws (t+1)) T)<=lf (cM ws (t+1)) T:=by
 generalize hp:pk (cM ws (t+1)) T=p at *
 cases p with
 | zero=>simp[lf]
 | succ p=>
  have mr:=Bp ws t T;rw[hp]at mr;have sg:p<(cR ((cM ws t).map (·.1))).length:=(by rw[b6,List.length_map];omega);have h1:=CQ ws (cR ((cM ws t).map (·.1))) hu p T sg (by rw[show mg ws (cR ((cM ws t).map (·.1)))=cM ws (t+1)from rfl,hp];exact Nat.le_refl _);refine Nat.le_trans ?_ h1;have MV:=gD ((cM ws t).map (·.1)) p sg;have X5:=GL ws hu t;have NP:∃ps,cM ws t=mg ws ps:=by
   cases t with
   | zero=>exact⟨[],rfl⟩
   | succ t=>exact⟨_,rfl⟩
  obtain⟨ps,Jf⟩:=NP;have UN:=wH ws ps (2*(p+1));rw[<-Jf]at UN;have EL:∀a∈ws.take (lf (cM ws t) (2*(p+1))),decide (a<=(cR ((cM ws t).map (·.1)))[p])=true:=by
   intro a ha;rw[<-UN]at ha;obtain⟨x,hx,rfl⟩:=List.mem_map.1 ha;have gh:=(List.mem_filter.1 hx).1;obtain⟨j,hj,rfl⟩:=List.getElem_of_mem gh;simp only[List.length_take]at hj;rw[List.getElem_take];have cw:((cM ws t)[j]'(by omega)).1<=((cM ws t).map (·.1))[2*p+1]'(by rw[List.length_map];omega):=by
    by_cases e:j=2*p+1
    ·subst e;simp
    ·have:=List.pairwise_iff_getElem.1 X5 j (2*p+1) (by rw[List.length_map];omega) (by rw[List.length_map];omega) (by omega);simpa using this
   simp only[decide_eq_true_eq];omega
  have h2:(ws.take (lf (cM ws t) (2*(p+1)))).countP (λa=>decide (a<=(cR ((cM ws t).map (·.1)))[p]))=lf (cM ws t) (2*(p+1)):=(by rw[List.countP_eq_length.2 EL,List.length_take];have:=kI ws t (2*(p+1));omega);rw[<-h2];exact List.Sublist.countP_le (List.take_sublist _ _)
def ev(ws:List Nat):Nat->Nat->Nat->Nat
 | 0,T,i=>if i<lf (cM ws 0) T then 1 else 0
 | t+1,T,i=>(if i<lf (cM ws (t+1)) T then 1 else 0)+ev ws t (2*pk (cM ws (t+1)) T) i
def Ed(ws:List Nat):Nat->Nat->Nat->Nat
 | 0,T,i=>if i<lf (cM ws 0) T then 1 else 0
 | t+1,T,i=>(if i<lf (cM ws (t+1)) T then 2 ^ (t+1)else 0)+Ed ws t (2*pk (cM ws (t+1)) T) i
theorem BO(ws:List Nat)(t T i:Nat):ev ws t T i<=t+1:=by
 induction t generalizing T with
 | zero=>unfold ev;split<;>omega
 | succ t ih=>
  have:=ih (2*pk (cM ws (t+1)) T);unfold ev;split<;>omega
theorem Df(ws:List Nat)(hu:Up ws)(t T i:Nat)(h:lf (cM ws t) T<=i):ev ws t T i=0/\Ed ws t T i=0:=by
 induction t generalizing T with
 | zero=>unfold ev Ed;rw[if_neg (by omega)];exact⟨rfl,rfl⟩
 | succ t ih=>
  have h2:=JW ws hu t T;have:=ih (2*pk (cM ws (t+1)) T) (by omega);unfold ev Ed;rw[if_neg (by omega),if_neg (by omega),this.1,this.2];exact⟨rfl,rfl⟩
theorem Hq(ws:List Nat)(hu:Up ws)(t T i:Nat):Ed ws t T i+2 ^ (t+1-ev ws t T i)=2 ^ (t+1):=by
 induction t generalizing T with
 | zero=>unfold Ed ev;split<;>simp
 | succ t ih=>
  by_cases h:i<lf (cM ws (t+1)) T
  ·have:=ih (2*pk (cM ws (t+1)) T);have hg:=BO ws t (2*pk (cM ws (t+1)) T) i;unfold Ed ev;rw[if_pos h,if_pos h,show t+1+1-(1+ev ws t (2*pk (cM ws (t+1)) T) i)=t+1-ev ws t (2*pk (cM ws (t+1)) T) i by omega,Nat.pow_succ 2 (t+1)];omega
  ·have:=Df ws hu (t+1) T i (by omega);rw[this.1,this.2];simp
def et(m:Nat)(f:Nat->Nat):Nat:=((List.range m).map f).sum
theorem dO(m:Nat)(f:Nat->Nat):et (m+1) f=et m f+f m:=by simp[et,List.range_succ]
theorem wl(m:Nat)(f g:Nat->Nat):et m (λi=>f i+g i)=et m f+et m g:=by
 induction m with
 | zero=>rfl
 | succ m ih=>rw[dO,dO,dO,ih];omega
theorem lR(m c:Nat):et m (λ_=>c)=m*c:=by
 induction m with
 | zero=>simp[et]
 | succ m ih=>rw[dO,ih,Nat.add_mul,Nat.one_mul]
theorem gK(m:Nat)(f g:Nat->Nat)(h:∀i,i<m->f i=g i):et m f=et m g:=by unfold et;congr 1;exact List.map_congr_left (λi hi=>h i (by simpa using hi))
theorem qh(m a c:Nat)(h:a<=m):et m (λi=>if i<a then c else 0)=a*c:=by
 induction m with
 | zero => have:a=0:=by omega
           subst this;simp[et]
 | succ m ih=>
  rw[dO];by_cases e:a=m+1
  ·subst e;rw[gK m _ (λ_=>c) (λi hi=>if_pos (by omega)),lR,if_pos (by omega),Nat.add_mul,Nat.one_mul]
  ·rw[ih (by omega),if_neg (by omega)];omega
theorem Jw(ws:List Nat)(t T:Nat)(hT:T<=(cM ws t).length):et ws.length (Ed ws t T)=T*2 ^ t:=by
 induction t generalizing T with
 | zero=>
  have h1:=Gr (cM ws 0) T hT;rw[BH]at h1;have e:Ed ws 0 T=λi=>if i<lf (cM ws 0) T then 1 else 0:=by funext i;rfl
  rw[e,qh _ _ _ (kI ws 0 T)];simp;omega
 | succ t ih=>
  have h1:=Gr (cM ws (t+1)) T hT;have h2:=ih (2*pk (cM ws (t+1)) T) (Bp ws t T);have e:Ed ws (t+1) T=λi=>(if i<lf (cM ws (t+1)) T then 2 ^ (t+1)else 0)+Ed ws t (2*pk (cM ws (t+1)) T) i:=by funext i;rfl
  rw[e,wl,qh _ _ _ (kI ws (t+1) T),h2];have e2:2*pk (cM ws (t+1)) T*2 ^ t=pk (cM ws (t+1)) T*2 ^ (t+1):=(by rw[Nat.pow_succ,Nat.mul_comm 2,Nat.mul_assoc,Nat.mul_comm 2]);rw[e2,<-Nat.add_mul,h1]
theorem qD(ws:List Nat)(hu:Up ws)(t:Nat)(h2:2<=ws.length)(hm:ws.length<=2 ^ (t+1)):et ws.length (λi=>2 ^ (t+1-ev ws t (2*ws.length-2) i))=2 ^ (t+1):=by
 have h1:=Jw ws t (2*ws.length-2) (BS ws t hm);have h3:et ws.length (λi=>Ed ws t (2*ws.length-2) i+2 ^ (t+1-ev ws t (2*ws.length-2) i))=ws.length*2 ^ (t+1):=by rw[gK _ _ (λ_=>2 ^ (t+1)) (λi _=>Hq ws hu t _ i),lR]
 rw[wl]at h3;have h4:et ws.length (λi=>Ed ws t (2*ws.length-2) i)=(2*ws.length-2)*2 ^ t:=h1;rw[h4]at h3;have e:(2*ws.length-2)*2 ^ t=(ws.length-1)*2 ^ (t+1):=by rw[show 2*ws.length-2=(ws.length-1)*2 by omega,Nat.pow_succ,Nat.mul_assoc,Nat.mul_comm 2]
 rw[e]at h3;have e2:ws.length*2 ^ (t+1)=(ws.length-1)*2 ^ (t+1)+2 ^ (t+1):=by conv=>lhs;rw[show ws.length=(ws.length-1)+1 by omega,Nat.add_mul,Nat.one_mul]
 omega
theorem JV(m:Nat)(f:Nat->Nat)(i:Nat)(h:i<m):f i<=et m f:=by
 induction m with
 | zero=>omega
 | succ m ih=>
  rw[dO];by_cases e:i=m
  ·subst e;omega
  ·have:=ih (by omega);omega
theorem yb(m:Nat)(f:Nat->Nat)(i j:Nat)(Hy:i<j)(h:j<m):f i+f j<=et m f:=by
 induction m with
 | zero=>omega
 | succ m ih=>
  rw[dO];by_cases e:j=m
  ·subst e;have:=JV j f i Hy;omega
  ·have:=ih (by omega);omega
theorem G2(ws:List Nat)(hu:Up ws)(t:Nat)(h2:2<=ws.length)(hm:ws.length<=2 ^ (t+1))(i:Nat)(hi:i<ws.length):1<=ev ws t (2*ws.length-2) i:=by
 refine Classical.byContradiction (λhc=>?_);have h0:ev ws t (2*ws.length-2) i=0:=by omega
 have hk:=qD ws hu t h2 hm;have uT:=λj=>Nat.two_pow_pos (t+1-ev ws t (2*ws.length-2) j)
 by_cases e:i=0
 ·have:=yb ws.length (λi=>2 ^ (t+1-ev ws t (2*ws.length-2) i)) 0 1 (by omega) (by omega);have h3:=uT 1;subst e;simp only[h0,Nat.sub_zero]at this;omega
 ·have:=yb ws.length (λi=>2 ^ (t+1-ev ws t (2*ws.length-2) i)) 0 i (by omega) hi;have h3:=uT 0;simp only[h0,Nat.sub_zero]at this;omega
end Go.Proofs.YtkhagfgineifhaaGreatDoor
