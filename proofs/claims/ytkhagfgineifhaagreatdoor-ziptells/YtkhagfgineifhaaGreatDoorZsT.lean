import Derived.Test.YtkhagfgineifhaaGreatDoorZsA
namespace Go.Proofs.YtkhagfgineifhaaGreatDoor
open Go.RowKit
def pa(x:It)(p v:Nat):It:=⟨x.lab,x.bytes.set p v⟩
theorem sS{x x':It}(hl:x'.lab=x.lab)(hb:x'.bytes.length=x.bytes.length):∀(L:List It) (i:Nat),L[i]? = some x->(aN (L.set i x')).length=(aN L).length/\∀at',bz at' (L.set i x')=bz at' L
 | [],i,h=>by simp at h
 | y::L,0,h=>by simp only[List.getElem?_cons_zero,Option.some.injEq]at h;subst h;have hp:(lk x').length=(lk y).length:=(by rw[fM,fM,hl,hb]);refine⟨by rw[List.set_cons_zero,da,da,List.length_append,List.length_append,hp],λat'=>?_⟩;rw[List.set_cons_zero,bz,bz,hp,hl]
 | y::L,i+1,h=>by simp only[List.getElem?_cons_succ]at h;obtain⟨h1,h2⟩:=sS hl hb L i h;refine⟨by rw[List.set_cons_succ,da,da,List.length_append,List.length_append,h1],λat'=>?_⟩;rw[List.set_cons_succ,bz,bz,h2]
theorem ko{L:List It}{i:Nat}{x:It}(h:L[i]? = some x):bT L=(aN (L.take i)++ig x.lab)++(x.bytes++(aN (L.drop (i+1))++(bz 0 L++eO L.length (bz 0 L).length (aN L).length))):=by
 obtain⟨hi,hx⟩:=List.getElem?_eq_some_iff.1 h;have e:aN L=aN (L.take i)++(ig x.lab++x.bytes++aN (L.drop (i+1))):=by
  have e1:L=L.take i++x::L.drop (i+1):=(by rw[<-hx,<-List.drop_eq_getElem_cons hi,List.take_append_drop]);conv=>lhs;rw[e1]
  unfold aN;rw[List.flatMap_append,List.flatMap_cons];rfl
 unfold bT;generalize bz 0 L++eO L.length (bz 0 L).length (aN L).length=T;rw[e];simp only[List.append_assoc]
section
variable {L:List It} {i:Nat} {x:It} {p v:Nat}
def L6(L:List It)(i:Nat)(x:It):Nat:=(aN (L.take i)).length+30+x.lab.name.length
theorem mY(L:List It)(i:Nat)(x:It):(aN (L.take i)++ig x.lab).length=L6 L i x:=by rw[List.length_append,oU];unfold L6;omega
theorem JX(h:L[i]? = some x)(hp:p<x.bytes.length):(bT L)[L6 L i x+p]? = some x.bytes[p]:=by rw[ko h,List.getElem?_append_right (by rw[mY];omega),mY,Nat.add_sub_cancel_left,List.getElem?_append_left hp,List.getElem?_eq_getElem hp]
theorem qy(h:L[i]? = some x)(hp:p<x.bytes.length):bT (L.set i (pa x p v))=(bT L).set (L6 L i x+p) v:=by have hi:=(List.getElem?_eq_some_iff.1 h).1;obtain⟨h1,h2⟩:=sS (x:=x) (x':=pa x p v) rfl (by show(x.bytes.set p v).length=_;rw[List.length_set]) L i h;rw[ko h,ko (L:=L.set i (pa x p v)) (i:=i) (x:=pa x p v) (by rw[List.getElem?_set_self hi]),List.take_set_of_le (Nat.le_refl _),List.drop_set_of_lt (Nat.lt_succ_self _),h1,h2,List.length_set];show(aN (L.take i)++ig x.lab)++(x.bytes.set p v++_)=_;rw[List.set_append_right _ _ (by rw[mY];omega),mY,Nat.add_sub_cancel_left,List.set_append_left _ _ hp]
end
theorem DI(cs:List Nat)(p d:Nat)(h:p<cs.length):List.zipWith (· ^^^ ·) (cs.set p (cs[p] ^^^ d)) cs=List.replicate p 0++[d]++List.replicate (cs.length-p-1) 0:=by
 apply List.ext_getElem
 ·simp;omega
 ·intro j h1 h2;simp at h1;rw[List.getElem_zipWith,List.getElem_set];by_cases e:p=j
  ·subst e;rw[if_pos rfl,List.getElem_append_left (by simp),List.getElem_append_right (by simp)];simp;rw[Nat.xor_comm,<-Nat.xor_assoc,Nat.xor_self,Nat.zero_xor]
  ·rw[if_neg e,Nat.xor_self];by_cases e2:j<p
   ·rw[List.getElem_append_left (by simp;omega),List.getElem_append_left (by simp;exact e2)];simp
   ·rw[List.getElem_append_right (by simp;omega)];simp
theorem AH(cs:List Nat)(hb:∀b∈cs,b<256)(p d:Nat)(h:p<cs.length)(hd:d<256)(h0:d≠0):more 0 (cs.set p (cs[p] ^^^ d))≠more 0 cs:=λe=>by
 have hx:cs[p] ^^^ d<256:=by have:=hb cs[p] (List.getElem_mem _);exact Nat.xor_lt_two_pow (n:=8) this hd
 have hb2:∀b∈cs.set p (cs[p] ^^^ d),b<256:=λb hb3=>by
  rcases List.mem_or_eq_of_mem_set hb3 with h1 | h1
  ·exact hb b h1
  ·rw[h1];exact hx
 have e1:=Et (rB (nt _) _ hb2) (rB (nt _) _ hb) e;exact h0 (Dd (iT 0) _ cs (by rw[List.length_set]) p (cs.length-p-1) [d] (λb hb3=>by rw[List.mem_singleton.1 hb3];exact hd) (by simp) (DI cs p d h) e1 d (by simp))
theorem ya{k:Nat}{x:It}(hu:df x=.error k):∀(L:List It) (i:Nat),L[i]? = some x->(∀j y,j<i->L[j]? = some y->∃d,df y=.ok d)->io L=.error k
 | [],i,h,_=>by simp at h
 | y::L,0,h,_=>by simp only[List.getElem?_cons_zero,Option.some.injEq]at h;subst h;rw[io,hu]
 | y::L,i+1,h,hb=>by simp only[List.getElem?_cons_succ]at h;obtain⟨d,hd⟩:=hb 0 y (by omega) rfl;rw[io,hd];simp only;rw[ya hu L i h (λj z hj hz=>hb (j+1) z (by omega) (by simpa using hz))]
section
variable {E:Nat->En} {len:Nat} {L:List It} {i:Nat} {x:It} {p d:Nat}
theorem xF(h:lD E len L)(hc:fT E len=0)(hx:L[i]? = some x)(hw:x.lab.way=0)(hp:p<x.bytes.length)(hd:d<256)(h0:d≠0):
  fV (bT (L.set i (pa x p (x.bytes[p] ^^^ d))))=.ok (L.set i (pa x p (x.bytes[p] ^^^ d)))/\EY (bT (L.set i (pa x p (x.bytes[p] ^^^ d))))=.error 83/\D4 (bT (L.set i (pa x p (x.bytes[p] ^^^ d)))) x.lab.name=.error 83/\(L.set i (pa x p (x.bytes[p] ^^^ d))).map (·.lab)=L.map (·.lab)/\(∀b∈bT (L.set i (pa x p (x.bytes[p] ^^^ d))),b<256):=by
 have hi:=(List.getElem?_eq_some_iff.1 hx).1;obtain⟨o1,o2,o3⟩:=uI h hc;have tK:=ru h hc;have ie:∀b∈x.bytes,b<256:=λb hb=>by refine tK b ?_;rw[ko hx];exact List.mem_append.2 (.inr (List.mem_append.2 (.inl hb)))
 have hv:x.bytes[p] ^^^ d<256:=Nat.xor_lt_two_pow (n:=8) (ie _ (List.getElem_mem _)) hd;obtain⟨x',Ny⟩:∃x',x'=pa x p (x.bytes[p] ^^^ d):=⟨_,rfl⟩
 have NX:x'.lab=x.lab:=by rw[Ny];rfl
 have pK:(L.set i x').map (·.lab)=L.map (·.lab):=by
  rw[List.map_set,NX];apply List.ext_getElem?;intro j;by_cases e:i=j
  ·subst e;rw[List.getElem?_set_self (by simpa using hi),List.getElem?_map,hx];rfl
  ·rw[List.getElem?_set_ne e]
 have vk:bM (L.set i x')=bM L:=by
  have e1:∀M:List It,bM M=(M.map (·.lab)).map (·.name):=λM=>by unfold bM;rw[List.map_map];rfl
  rw[e1,e1,pK]
 have ag:(bT (L.set i x')).length=(bT L).length:=by rw[Ny,qy hx hp,List.length_set]
 have Cs:fV (bT (L.set i x'))=.ok (L.set i x'):=by
  refine sF _ (λy hy=>?_) (by rw[vk];exact o2) (by rw[List.length_set];exact o3) (by rw[ag];exact kw h hc);rcases List.mem_or_eq_of_mem_set hy with e | e
  ·exact o1 y e
  ·rw[e];have ho:=o1 x (List.mem_of_getElem? hx);exact⟨by rw[NX];exact ho.lab,by rw[NX,Ny];show(x.bytes.set p _).length=_;rw[List.length_set];exact ho.len,by rw[NX];exact ho.ok⟩
 have sj:x.lab.sum=more 0 x.bytes:=by
  obtain⟨bs,_,e⟩:=h.2 i x hx;rw[e]at hw ⊢;have hw2:¬bs.length<(E i).d.size:=λe2=>by have h9:(dZ (E i) bs).way=8:=if_pos e2;have h8:(dZ (E i) bs).way=0:=hw;rw[h9]at h8;cases h8
  show more 0 (sb (E i).d)=more 0 (d8 (E i) bs);unfold d8;rw[if_neg hw2]
 have LR:df x'=.error 83:=by unfold df;rw[NX,hw,if_neg (by decide),sj,if_neg];rw[Ny];exact AH x.bytes ie p d hp hd h0
 have hold:∀j y,j<i->(L.set i x')[j]? = some y->∃d,df y=.ok d:=λj y hj hy=>by rw[List.getElem?_set_ne (by omega)]at hy;exact⟨_,(pG h hc hy).1⟩
 rw[<-Ny];refine⟨Cs,?_,?_,pK,?_⟩
 ·unfold EY;rw[Cs];exact ya LR _ i (List.getElem?_set_self hi) hold
 ·unfold D4;rw[Cs];simp only;unfold G3;have hf:(L.set i x').find? (λy=>decide (y.lab.name=x.lab.name))=some x':=by
   rw[List.find?_eq_some_iff_getElem];refine⟨by simp[NX],i,by rw[List.length_set];exact hi,by rw[List.getElem_set_self],λj hj=>?_⟩;rw[List.getElem_set_ne (by omega)];have h2:=(pG h hc (List.getElem?_eq_getElem (Nat.lt_trans hj hi))).2.1;have h3:=pG h hc hx;rw[h2,h3.2.1];have:=rA hc j i hj h3.2.2;simp only[Bool.not_eq_true',decide_eq_false_iff_not];exact λe=>this (GA e)
  rw[hf];exact LR
 ·rw[Ny,qy hx hp];intro b hb;rcases List.mem_or_eq_of_mem_set hb with e | e
  ·exact tK b e
  ·rw[e];exact hv
end
end Go.Proofs.YtkhagfgineifhaaGreatDoor
