import Derived.Test.YtljlmfnbeofmmaaGreatDoorJ9
import Derived.Test.YtljlmfnbeofmmaaGreatDoorJ10
namespace Go.Proofs.YtljlmfnbeofmmaaGreatDoor
open Go.RowKit
def vw:Nat->Nat->List Nat
 | 0,_=>[]
 | n+1,c=>vw n (c / 2)++[c % 2]
theorem oX(n c:Nat):(vw n c).length=n:=by
 induction n generalizing c with
 | zero=>rfl
 | succ n ih=>simp[vw,ih]
theorem JS(n c:Nat):n2 (vw n c)=rv n c:=by
 induction n generalizing c with
 | zero=>rfl
 | succ n ih=>
  simp only[vw,rv];rw[dD,ih,oX];simp[n2,Nat.mul_comm];omega
theorem GV(n c:Nat):∀b∈vw n c,b<2:=by
 induction n generalizing c with
 | zero=>simp[vw]
 | succ n ih=>
  intro b hb;rcases List.mem_append.1 hb with hb | hb
  ·exact ih _ b hb
  ·have:b=c % 2:=(by simpa using hb);omega
end Go.Proofs.YtljlmfnbeofmmaaGreatDoor
namespace Go.Proofs.YtljlmfnbeofmmaaGreatDoor
theorem ry(a b:List Nat)(hl:a.length=b.length)(ha:∀x∈a,x<2)(hb:∀x∈b,x<2)(h:n2 a=n2 b):a=b:=by
 induction a generalizing b with
 | nil=>cases b with
  | nil=>rfl
  | cons y r=>simp at hl
 | cons x l ih=>cases b with
  | nil=>simp at hl
  | cons y r=>
   have hx:=ha x (by simp);have hy:=hb y (by simp);simp only[n2]at h;have e1:x=y:=(by omega);have e2:n2 l=n2 r:=(by omega);rw[e1,ih r (by simpa using hl) (λz hz=>ha z (by simp[hz])) (λz hz=>hb z (by simp[hz])) e2]
theorem vL{ns:List Nat}{s:Nat}(hm:measure ns<=32768)(hs:s∈aE ns)(h15:key ns s<=15):dG ns s<2 ^ key ns s:=by
 obtain⟨k,hk,rfl,a1,a2⟩:=kI hs;have h1:=mu ns (k+1);have h2:=jL ns (aE ns)[k];have h3:(dG ns (aE ns)[k]+1)*2 ^ (15-key ns (aE ns)[k])<=2 ^ key ns (aE ns)[k]*2 ^ (15-key ns (aE ns)[k]):=by rw[<-Nat.pow_add,show key ns (aE ns)[k]+(15-key ns (aE ns)[k])=15 by omega,Nat.add_mul,Nat.one_mul];have:(2:Nat) ^ 15=32768:=(by decide);omega
 have:=Nat.le_of_mul_le_mul_right h3 (Nat.two_pow_pos _);omega
def aG(ns:List Nat)(s:Nat):List Nat:=vw (key ns s) (dG ns s)
def BQ(ns t:List Nat)(s:Nat):Prop:=key ns s≠0/\aG ns s <+: t
def LW(ns t:List Nat)(s:Nat):Prop:=key ns s≠0/\t <+: aG ns s
def RNext(ns t:List Nat)(is k g:Nat):Prop:=
 (g=0/\is<ns.length/\BQ ns t is/\k=key ns is/\∀s,s<is->¬BQ ns t s) \/
 (g=10/\is=0/\k=0/\(∀s,s<ns.length->¬BQ ns t s)/\∃s,s<ns.length/\LW ns t s) \/
 (g=32/\is=0/\k=0/\(∀s,s<ns.length->¬BQ ns t s)/\∀s,s<ns.length->¬LW ns t s)
theorem aw(ns:List Nat)(s:Nat):(aG ns s).length=key ns s:=oX _ _
theorem im(ns:List Nat)(s:Nat):n2 (aG ns s)=rv (key ns s) (dG ns s):=JS _ _
theorem de(ns:List Nat)(s:Nat):∀b∈aG ns s,b<2:=GV _ _
theorem pK(bs:List Nat)(hb:∀b∈bs,b<256)(c n:Nat)(h:c+n<=8*bs.length):n2 (((ae bs).drop c).take n)=aR bs / 2 ^ c % 2 ^ n:=by rw[B5 (ae bs) (ay bs) c n (by rw[aC];exact h),qf bs hb]
theorem kr(bs:List Nat)(c:Nat):((ae bs).drop c).length=8*bs.length-c:=by rw[List.length_drop,aC]
theorem B8{ns:List Nat}{s:Nat}(hm:measure ns≤32768)(hs:s∈aE ns)(h15:key ns s≤15)(bs:List Nat)(hb:∀b∈bs,b<256)(c:Nat)(hc:c≤8*bs.length):
  BQ ns ((ae bs).drop c) s↔key ns s<=8*bs.length-c/\rv (key ns s) (aR bs / 2 ^ c)=dG ns s:=by
 have ag:=kr bs c;have fJ:=vL hm hs h15;unfold BQ;rw[List.prefix_iff_eq_take,aw];constructor
 ·rintro⟨_,h⟩;have hl:=congrArg List.length h;rw[aw,List.length_take,ag]at hl;have hk:key ns s<=8*bs.length-c:=(by omega);refine⟨hk,?_⟩;have h2:=congrArg n2 h;rw[im,pK bs hb c _ (by omega)]at h2;rw[<-my (key ns s) (key ns s) _ (Nat.le_refl _),<-h2,vJ,Nat.mod_eq_of_lt fJ]
 ·rintro⟨hk,h⟩;refine⟨(aX.1 hs).2,?_⟩;refine ry _ _ (by rw[aw,List.length_take,ag];omega) (de ns s) (λx hx=>ay bs x (List.mem_of_mem_drop (List.mem_of_mem_take hx))) ?_;rw[im,pK bs hb c _ (by omega),<-h,vJ]
theorem Ma{ns:List Nat}{s:Nat}(hs:s∈aE ns)(bs:List Nat)(hb:∀b∈bs,b<256)(c:Nat)(hc:c<=8*bs.length)(hk:8*bs.length-c<key ns s)(h:rv (key ns s) (aR bs / 2 ^ c)=dG ns s)(hZ:aR bs / 2 ^ c<2 ^ (8*bs.length-c)):LW ns ((ae bs).drop c) s:=by
 refine⟨(aX.1 hs).2,?_⟩;have ag:=kr bs c;have e:aG ns s=(ae bs).drop c++List.replicate (key ns s-(8*bs.length-c)) 0:=by
  refine ry _ _ (by rw[aw,List.length_append,ag,List.length_replicate];omega) (de ns s) ?_ ?_
  ·intro x hx;rcases List.mem_append.1 hx with hx | hx
   ·exact ay bs x (List.mem_of_mem_drop hx)
   ·have:=List.eq_of_mem_replicate hx;omega
  ·have h1:=pK bs hb c (8*bs.length-c) (by omega);rw[List.take_of_length_le (by omega),Nat.mod_eq_of_lt hZ]at h1;rw[qX,h1,im,<-h,vJ,Nat.mod_eq_of_lt (Nat.lt_of_lt_of_le hZ (Nat.pow_le_pow_right (by omega) (by omega)))]
 rw[e];exact List.prefix_append _ _
theorem zy(ns:List Nat)(X n:Nat)(hn:n<=(aE ns).length)(h:X<cm ns n):∃k,k<n/\cm ns k<=X/\X<cm ns (k+1):=by
 induction n with
 | zero=>simp[cm]at h
 | succ n ih=>
  by_cases h1:X<cm ns n
  ·obtain⟨k,hk,h2⟩:=ih (by omega) h1;exact⟨k,by omega,h2⟩
  ·exact⟨n,by omega,by omega,h⟩
theorem GI{ns:List Nat}(hu:(aE ns).length=1)(hm:measure ns=16384)(h15:∀s,key ns s<=15):iZ ns<=1:=by
 rcases(kM ns 0).2.2 with h | h
 ·unfold iZ;omega
 ·obtain⟨s,hs,e⟩:=List.getElem_of_mem h;have ek:key ns s=iZ ns:=(by rw[ba hs];exact e);by_cases h0:iZ ns=0
  ·omega
  ·have hr:s∈aE ns:=aX.2 ⟨hs,by omega⟩;obtain⟨k,hk,rfl,a1,a2⟩:=kI hr;have hk0:k=0:=(by omega);subst hk0;have h1:=kW ns;rw[hu]at h1;have h2:cm ns 0=0:=(by simp[cm]);have h3:2 ^ (15-key ns (aE ns)[0])=16384:=by
    have:cm ns (0+1)=measure ns:=h1;omega
   have h4:=h15 (aE ns)[0];refine Classical.byContradiction (λhc=>?_);have h5:2 ^ (15-key ns (aE ns)[0])<=2 ^ 13:=Nat.pow_le_pow_right (by omega) (by omega);have h6:(2:Nat) ^ 13=8192:=(by decide);omega
theorem Af(ns:List Nat):dK ns=(aE ns).length:=by
 have h:∀i,i<=ns.length->dK (ns.take i)=(df ns i).length:=by
  intro i
  induction i with
  | zero=>intro _;simp[dK,df]
  | succ i ih=>
   intro hi;rw[List.take_succ_eq_append_getElem (by omega),qH,ih (by omega),fR,List.length_append,<-ba (by omega)];by_cases h:key ns i=0<;>simp[h]
 have h2:=h ns.length (Nat.le_refl _);rw[List.take_length]at h2;rw[h2,(fK ns).length_eq];rfl
theorem CS{zs:List Int}{ns:List Nat}(hg:Good zs ns)(bs:List Nat)(hb:∀b∈bs,b<256)(c:Nat)(hc:c≤8*bs.length)(hZ:aR bs / 2 ^ c<2 ^ (8*bs.length-c)){sym long er is k g:Nat}
  (ha:Ans ns (min (8*bs.length-c) (iZ ns)) (aR bs / 2 ^ c % 2 ^ (min (8*bs.length-c) (iZ ns))) sym long er) (hr:RNext ns ((ae bs).drop c) is k g):is=sym/\k=long/\g=er:=by
 have h15:=hg.key_le;have hm:=hg.measure_le;have rN:iZ ns<=15:=vT ns 15 hg.le;have ag:=kr bs c;have Ls:∀s,s<ns.length->BQ ns ((ae bs).drop c) s->er=0/\sym=s/\long=key ns s:=by intro s hs hf;have hsr:s∈aE ns:=aX.2 ⟨hs,hf.1⟩;obtain⟨h1,h2⟩:=(B8 hm hsr (h15 s) bs hb c hc).1 hf;exact Ans.unique h15 hZ ha rN hsr h1 h2
 have PJ:er=0->∃s,s<ns.length/\BQ ns ((ae bs).drop c) s:=by
  intro e0;rcases ha with⟨_,hs,Cp,lw,PP⟩ | ⟨e,_⟩ | ⟨e,_⟩
  ·refine⟨sym,(aX.1 hs).1,(B8 hm hs (h15 sym) bs hb c hc).2 ⟨by omega,?_⟩⟩;rw[my _ _ _ lw,Cp]at PP;exact PP
  ·omega
  ·omega
 have M6:er=10->∃s,s<ns.length/\LW ns ((ae bs).drop c) s:=by
  intro Yw;rcases ha with⟨e,_⟩ | ⟨_,_,_,hlt,yx⟩ | ⟨e,_⟩
  ·omega
  ·have pB:min (8*bs.length-c) (iZ ns)=8*bs.length-c:=(by omega);rw[pB,my _ _ _ (Nat.le_refl _),<-AB _ 15 _ hZ (by omega)]at yx;rw[pB]at hlt;have hX:rv 15 (aR bs / 2 ^ c)<measure ns:=by
    have hk:=hg.ok;unfold bA at hk;have EG:rv 15 (aR bs / 2 ^ c)<32768:=F2 15 _;split at hk
    ·omega
    ·split at hk
     ·omega
     ·split at hk
      ·rename_i _ _ h3;have h4:=GI (by rw[<-Af];exact h3.1) h3.2 h15;have h5:8*bs.length-c=0:=(by omega);rw[AB _ 15 _ hZ (by omega),h5];simp[rv,h3.2]
      ·omega
   rw[<-kW]at hX;obtain⟨i,hi,h1,h2⟩:=zy ns _ _ (Nat.le_refl _) hX;have eA:(aE ns)[i]∈aE ns:=List.getElem_mem hi;have hkey:8*bs.length-c<key ns (aE ns)[i]:=by refine Classical.byContradiction (λhcon=>?_);have h3:=(gE ns (8*bs.length-c) i hi).1 (by omega);have h4:=nw (ns:=ns) (show i+1<=pc ns (8*bs.length-c)from h3);omega
   refine⟨(aE ns)[i],(aX.1 eA).1,Ma eA bs hb c hc hkey ?_ hZ⟩;refine(nJ eA (h15 _)).2 ?_;rw[kn ns i hi];have h5:=jw ns i hi;rw[uk,eG,if_neg (aX.1 eA).2]at h5;omega
  ·omega
 have OE:er=32->∀s,s<ns.length->¬LW ns ((ae bs).drop c) s:=by
  intro Zl s hs Nk;rcases ha with⟨e,_⟩ | ⟨e,_⟩ | ⟨_,_,_,hh,_⟩
  ·omega
  ·omega
  ·have h1:=Nk.2.length_le;rw[aw,ag]at h1;have h2:=jd ns s;have e1:(ae bs).drop c=aG ns s:=Nk.2.eq_of_length (by rw[aw,ag];omega);have h3:=Ls s hs ⟨Nk.1,by rw[e1];exact List.prefix_refl _⟩;omega
 have Iy:er=0\/(er=10/\sym=0/\long=0)\/(er=32/\sym=0/\long=0):=by
  rcases ha with⟨e,_⟩ | ⟨e,e1,e2,_⟩ | ⟨e,e1,e2,_⟩
  ·exact .inl e
  ·exact .inr (.inl ⟨e,e1,e2⟩)
  ·exact .inr (.inr ⟨e,e1,e2⟩)
 rcases hr with⟨rfl,hi,hf,rfl,_⟩ | ⟨rfl,rfl,rfl,sk,⟨s,hs,Nk⟩⟩ | ⟨rfl,rfl,rfl,sk,hnb⟩
 ·obtain⟨h1,h2,h3⟩:=Ls is hi hf;exact⟨h2.symm,h3.symm,h1.symm⟩
 ·rcases Iy with h | ⟨h1,h2,h3⟩ | ⟨h1,_⟩
  ·obtain⟨t,ht,hf⟩:=PJ h;exact absurd hf (sk t ht)
  ·exact⟨h2.symm,h3.symm,h1.symm⟩
  ·exact absurd Nk (OE h1 s hs)
 ·rcases Iy with h | ⟨h1,_⟩ | ⟨h1,h2,h3⟩
  ·obtain⟨t,ht,hf⟩:=PJ h;exact absurd hf (sk t ht)
  ·obtain⟨s,hs,Nk⟩:=M6 h1;exact absurd Nk (hnb s hs)
  ·exact⟨h2.symm,h3.symm,h1.symm⟩
def Ml(ns t:List Nat)(s:Nat):Bool:=key ns s != 0 && (aG ns s).isPrefixOf t
def Mh(ns t:List Nat)(s:Nat):Bool:=key ns s != 0 && t.isPrefixOf (aG ns s)
def aN(ns t:List Nat):Nat×Nat×Nat:=
 match (List.range ns.length).find? (Ml ns t) with
 | some s=>(s,key ns s,0)
 | none=>if (List.range ns.length).any (Mh ns t)=true then(0,0,10) else(0,0,32)
theorem qa(ns t:List Nat)(s:Nat):Ml ns t s=true↔BQ ns t s:=by simp[Ml,BQ,List.isPrefixOf_iff_prefix]
theorem xg(ns t:List Nat)(s:Nat):Mh ns t s=true↔LW ns t s:=by simp[Mh,LW,List.isPrefixOf_iff_prefix]
theorem jf(ns t:List Nat):RNext ns t (aN ns t).1 (aN ns t).2.1 (aN ns t).2.2:=by
 unfold aN;split
 ·rename_i s h;rw[List.find?_range_eq_some]at h;obtain⟨h1,h2,h3⟩:=h;refine .inl ⟨rfl,by simpa using h2,(qa ns t s).1 h1,rfl,λj hj hf=>?_⟩;have:=h3 j hj;rw[(qa ns t j).2 hf]at this;cases this
 ·rename_i h;rw[List.find?_range_eq_none]at h;have sk:∀s,s<ns.length->¬BQ ns t s:=λs hs hf=>by
   have:=h s hs;rw[(qa ns t s).2 hf]at this;cases this
  split
  ·rename_i h2;obtain⟨s,hs,hb⟩:=List.any_eq_true.1 h2;exact .inr (.inl ⟨rfl,rfl,rfl,sk,s,by simpa using hs,(xg ns t s).1 hb⟩)
  ·rename_i h2;refine .inr (.inr ⟨rfl,rfl,rfl,sk,λs hs hb=>h2 ?_⟩);exact List.any_eq_true.2 ⟨s,by simpa using hs,(xg ns t s).2 hb⟩
theorem RNext.one{ns t:List Nat}{a b c a' b' c':Nat}(h:RNext ns t a b c)(h':RNext ns t a' b' c'):a=a'/\b=b'/\c=c':=by
 rcases h with⟨rfl,h1,h2,rfl,h3⟩ | ⟨rfl,rfl,rfl,h1,h2⟩ | ⟨rfl,rfl,rfl,h1,h2⟩<;>rcases h' with⟨rfl,k1,k2,rfl,k3⟩ | ⟨rfl,rfl,rfl,k1,k2⟩ | ⟨rfl,rfl,rfl,k1,k2⟩
 ·have e:a=a':=by
   rcases Nat.lt_trichotomy a a' with h | h | h
   ·exact absurd h2 (k3 a h)
   ·exact h
   ·exact absurd k2 (h3 a' h)
  subst e;exact⟨rfl,rfl,rfl⟩
 ·exact absurd h2 (k1 a h1)
 ·exact absurd h2 (k1 a h1)
 ·exact absurd k2 (h1 a' k1)
 ·exact⟨rfl,rfl,rfl⟩
 ·obtain⟨s,hs,hb⟩:=h2;exact absurd hb (k2 s hs)
 ·exact absurd k2 (h1 a' k1)
 ·obtain⟨s,hs,hb⟩:=k2;exact absurd hb (h2 s hs)
 ·exact⟨rfl,rfl,rfl⟩
theorem wn{ns t:List Nat}{is k g:Nat}(h:RNext ns t is k g):aN ns t=(is,k,g):=by obtain⟨h1,h2,h3⟩:=(jf ns t).one h;exact Prod.ext h1 (Prod.ext h2 h3)
def ko(l:List Nat):Nat:=l.getD (l.length-1) 0
theorem Dv(l:List Nat)(h:0<l.length):ko l∈l:=by
 have hl:l.length-1<l.length:=by omega
 have e:ko l=l[l.length-1]:=by simp[ko,List.getD,hl]
 rw[e];exact List.getElem_mem _
def iM(s:Int×Int)(l:List Nat):Option (Nat×Nat):=
 if 0<=s.1/\s.1<=15/\s.2=0 then some (s.1.toNat,1)
 else if s.1=16/\0<=s.2/\s.2<=3/\0<l.length then some (ko l,s.2.toNat+3)
 else if s.1=17/\0<=s.2/\s.2<=7 then some (0,s.2.toNat+3)
 else if s.1=18/\0<=s.2/\s.2<=127 then some (0,s.2.toNat+11)
 else none
theorem Ht{s:Int×Int}{l:List Nat}{v k:Nat}(h:iM s l=some (v,k))(hl:∀x∈l,x<=15):v<=15/\1<=k/\k<=138:=by
 unfold iM at h;split at h
 ·simp at h;omega
 ·split at h
  ·simp at h;obtain⟨rfl,rfl⟩:=h;rename_i _ h2;refine⟨?_,by omega,by omega⟩;exact hl _ (Dv l h2.2.2.2)
  ·split at h
   ·simp at h;omega
   ·split at h
    ·simp at h;omega
    ·cases h
def eI(l:List Nat)(s:Int×Int)(n:Nat):Option (List Nat):=
 match iM s l with
 | none=>none
 | some (v,k)=>if n<l.length+k then none else some (l++List.replicate k v)
theorem iF{l m:List Nat}{s:Int×Int}{n:Nat}(h:eI l s n=some m)(hl:∀x∈l,x<=15):l.length<m.length/\m.length<=n/\∀x∈m,x<=15:=by
 unfold eI at h;split at h
 ·cases h
 ·rename_i v k hs;have h1:=Ht hs hl;split at h
  ·cases h
  ·simp only[Option.some.injEq]at h;subst h;rw[List.length_append,List.length_replicate];refine⟨by omega,by omega,λx hx=>?_⟩;rcases List.mem_append.1 hx with hx | hx
   ·exact hl x hx
   ·have:=List.eq_of_mem_replicate hx;omega
def iD(n:Nat):List Nat->List (Int×Int)->Option (List Nat)
 | l,[]=>some l
 | l,s::r=>match eI l s n with
  | none=>none
  | some m=>iD n m r
def fo(n:Nat):List (Int×Int):=
 if 11<=n then(18,((min n 138-11:Nat):Int))::fo (n-min n 138)
 else if 3<=n then [(17,((n-3:Nat):Int))]else List.replicate n (0,0)
termination_by n
decreasing_by omega
def ie(v n:Nat):List (Int×Int):=
 if 3<=n then(16,((min n 6-3:Nat):Int))::ie v (n-min n 6)else List.replicate n ((v:Int),0)
termination_by n
decreasing_by omega
def eO(v n:Nat):List (Int×Int):=if v=0 then fo n else((v:Int),0)::ie v (n-1)
def bK(v:Nat)(l:List Nat):Nat:=(l.takeWhile (λx=>decide (x=v))).length
theorem kN(v:Nat)(l:List Nat):bK v l<=l.length:=by exact(List.takeWhile_prefix _).length_le
def be:List Nat->List (Int×Int)
 | []=>[]
 | v::r=>eO v (1+bK v r)++be (r.drop (bK v r))
termination_by l=>l.length
decreasing_by simp;omega
theorem gY(v:Nat)(r:List Nat):be (v::r)=eO v (1+bK v r)++be (r.drop (bK v r)):=by rw[be]
def sZ(zs:List Int):Except Nat (List (Int×Int)):=
 if zs.length<=316/\∀z∈zs,0<=z/\z<=15 then .ok (be (zs.map Int.toNat))else .error 1
def dI(sym:Nat):Nat:=if sym=16 then 2 else if sym=17 then 3 else if sym=18 then 7 else 0
def aW(ls:List Nat)(c n:Nat):Nat:=n2 ((ls.drop c).take n)
def dA(ns ls:List Nat)(c:Nat):Except Nat ((Nat×Nat)×Nat):=
 if (aN ns (ls.drop c)).2.2≠0 then .error (aN ns (ls.drop c)).2.2
 else if ls.length<c+(aN ns (ls.drop c)).2.1+dI (aN ns (ls.drop c)).1 then .error 10
 else .ok (((aN ns (ls.drop c)).1,aW ls (c+(aN ns (ls.drop c)).2.1) (dI (aN ns (ls.drop c)).1)),c+(aN ns (ls.drop c)).2.1+dI (aN ns (ls.drop c)).1)
def bD(ns ls:List Nat)(N:Nat):Nat->List Nat->Nat->Except Nat (List Nat×Nat)
 | 0,l,c=>.ok (l,c)
 | f+1,l,c=>
  if N<=l.length then .ok (l,c)
  else match dA ns ls c with
   | .error e=>.error e
   | .ok (s,c')=>match eI l ((s.1:Int),(s.2:Int)) N with
    | none=>.error 41
    | some m=>bD ns ls N f m c'
def ord:List Nat:=[16,17,18,0,8,7,9,6,10,5,11,4,12,3,13,2,14,1,15]
def aO(ls:List Nat)(c:Nat):Nat->List Nat
 | 0=>List.replicate 19 0
 | i+1=>(aO ls c i).set (ord.getD i 0) (aW ls (c+3*i) 3)
theorem dC(ls:List Nat)(c i:Nat):(aO ls c i).length=19:=by
 induction i with
 | zero=>simp[aO]
 | succ i ih=>simp[aO,ih]
theorem bY(ls:List Nat)(h:∀b∈ls,b<2)(c n:Nat):aW ls c n<2 ^ n:=qb ls h c n
theorem og(ls:List Nat)(h:∀b∈ls,b<2)(c i:Nat):∀x∈aO ls c i,x<=7:=by
 induction i with
 | zero=>intro x hx;have:=List.eq_of_mem_replicate hx;omega
 | succ i ih=>
  intro x hx;rcases List.mem_or_eq_of_mem_set hx with hx | rfl
  ·exact ih x hx
  ·have:=bY ls h (c+3*i) 3;omega
def cf(ls:List Nat)(a:Nat):Except Nat ((List Nat×List Nat)×Nat):=
 if ls.length<a+14 then .error 10
 else if 286<aW ls a 5+257\/30<aW ls (a+5) 5+1 then .error 40
 else if ls.length<a+14+3*(aW ls (a+10) 4+4)then .error 10
 else if bA (aO ls (a+14) (aW ls (a+10) 4+4))≠0 then .error (bA (aO ls (a+14) (aW ls (a+10) 4+4)))
 else match bD (aO ls (a+14) (aW ls (a+10) 4+4)) ls (aW ls a 5+257+(aW ls (a+5) 5+1)) (aW ls a 5+257+(aW ls (a+5) 5+1)) [] (a+14+3*(aW ls (a+10) 4+4)) with
  | .error e=>.error e
  | .ok (l,c)=>.ok ((l.take (aW ls a 5+257),l.drop (aW ls a 5+257)),c-a)
structure S5 where
 c:Nat
 out:List Nat
 e:Nat
def tk(ls:List Nat)(s:S5)(n:Nat):Nat×S5:=
 if s.e≠0 then(0,s)else if ls.length<s.c+n then(0,{s with e:=55}) else(aW ls s.c n,{s with c:=s.c+n})
def sy(ns ls:List Nat)(s:S5)(wrong:Nat):Nat×S5:=
 if s.e≠0 then(0,s)
 else((aN ns (ls.drop s.c)).1,{s with c:=s.c+(aN ns (ls.drop s.c)).2.1,e:=if (aN ns (ls.drop s.c)).2.2=10 then 55 else if (aN ns (ls.drop s.c)).2.2=32 then wrong else 0})
def ly(most:Nat)(s:S5)(b:Nat):S5:=
 if s.e≠0 then s else if most<=s.out.length then {s with e:=56} else {s with out:=s.out++[b]}
def Lk(ls:List Nat)(most:Nat):Nat->S5->S5
 | 0,s=>s
 | k+1,s=>if s.e≠0 then s else Lk ls most k (ly most (tk ls s 8).2 (tk ls s 8).1)
def BM(ls:List Nat)(most:Nat)(s:S5):S5:=
 let s1:S5:={s with c:=(s.c+7) / 8*8}
 let s2:=(tk ls s1 16).2
 let s3:=(tk ls s2 16).2
 let s4:S5:=if s3.e=0/\(tk ls s1 16).1+(tk ls s2 16).1≠65535 then {s3 with e:=51} else s3
 Lk ls most (tk ls s1 16).1 s4
def Dz(s:Nat):Nat:=if s<265 then 0 else(s-261) / 4
def G9(s:Nat):Nat:=3+((List.range (s-257)).map (λk=>2 ^ Dz (257+k))).sum
def BA(s:Nat):Nat:=if s<4 then 0 else(s-2) / 2
def Lj(s:Nat):Nat:=1+((List.range s).map (λk=>2 ^ BA k)).sum
def tL(ls:List Nat)(s:S5)(y:Nat):Nat×S5:=if y=285 then(258,s) else(G9 y+(tk ls s (Dz y)).1,(tk ls s (Dz y)).2)
def jh(ls:List Nat)(s:S5)(y:Nat):Nat×S5:=(Lj y+(tk ls s (BA y)).1,(tk ls s (BA y)).2)
def gu(most far:Nat):Nat->S5->S5
 | 0,s=>s
 | k+1,s=>if s.e≠0 then s else gu most far k (ly most s (s.out.getD (s.out.length-far) 0))
def bI(l:List Nat):Bool:=l.any (λn=>n != 0)
def fE(ls:List Nat)(most:Nat)(dist:List Nat)(s:S5)(y:Nat):S5:=
 if 285<y then {s with e:=53}
 else
  let n:=(tL ls s y).1
  let s1:=(tL ls s y).2
  let s2:S5:=if s1.e=0/\bI dist=false then {s1 with e:=53} else s1
  let d:=(sy dist ls s2 53).1
  let s3:=(sy dist ls s2 53).2
  let s4:S5:=if s3.e=0/\29<d then {s3 with e:=53} else s3
  if s4.e≠0 then s4
  else
   let far:=(jh ls s4 d).1
   let s5:=(jh ls s4 d).2
   let s6:S5:=if s5.e=0/\s5.out.length<far then {s5 with e:=54} else s5
   gu most far n s6
def oP(ls:List Nat)(most:Nat)(lit dist:List Nat):Nat->S5->S5
 | 0,s=>s
 | f+1,s=>
  if s.e≠0 then s
  else
   let y:=(sy lit ls s 53).1
   let s1:=(sy lit ls s 53).2
   if s1.e≠0 then s1
   else if y<256 then oP ls most lit dist f (ly most s1 y)
   else if y=256 then s1
   else oP ls most lit dist f (fE ls most dist s1 y)
def fixL:List Nat:=List.replicate 144 8++List.replicate 112 9++List.replicate 24 7++List.replicate 8 8
def fixD:List Nat:=List.replicate 32 5
def dW(ls:List Nat)(c:Nat):Except Nat ((List Nat×List Nat)×Nat):=
 match cf ls c with
 | .error e=>.error (if e=10 then 55 else 52)
 | .ok ((l,d),n)=>if l.getD 256 0=0\/bA l≠0\/(bI d=true/\bA d≠0)then .error 52 else .ok ((l,d),n)
def zT(ls:List Nat)(most:Nat)(s:S5):Nat×S5:=
 let last:=(tk ls s 1).1
 let s1:=(tk ls s 1).2
 let kind:=(tk ls s1 2).1
 let s2:=(tk ls s1 2).2
 if s2.e≠0 then(last,s2)
 else if kind=0 then(last,BM ls most s2)
 else if kind=1 then(last,oP ls most fixL fixD (ls.length+1) s2)
 else if kind=2 then
  match dW ls s2.c with
  | .error e=>(last,{s2 with e:=e})
  | .ok ((l,d),n)=>(last,oP ls most l d (ls.length+1) {s2 with c:=s2.c+n})
 else(last,{s2 with e:=50})
def kF(ls:List Nat)(most:Nat):Nat->S5->S5
 | 0,s=>s
 | f+1,s=>if s.e≠0 then s else if (zT ls most s).1=0 then kF ls most f (zT ls most s).2 else(zT ls most s).2
def iO(ls:List Nat)(most:Nat):S5:=kF ls most (ls.length+1) ⟨0,[],0⟩
theorem gS(n:Nat)(h:11<=n):fo n=(18,((min n 138-11:Nat):Int))::fo (n-min n 138):=by rw[fo,if_pos h]
theorem ia(n:Nat)(h:n<11)(h3:3<=n):fo n=[(17,((n-3:Nat):Int))]:=by rw[fo,if_neg (by omega),if_pos h3]
theorem gM(n:Nat)(h3:n<3):fo n=List.replicate n (0,0):=by rw[fo,if_neg (by omega),if_neg (by omega)]
theorem jy(v n:Nat)(h:3<=n):ie v n=(16,((min n 6-3:Nat):Int))::ie v (n-min n 6):=by rw[ie,if_pos h]
theorem jF(v n:Nat)(h:n<3):ie v n=List.replicate n ((v:Int),0):=by rw[ie,if_neg (by omega)]
theorem AF(n:Nat):(fo n).length<=n:=by
 induction n using Nat.strongRecOn with
 | ind n ih=>
  by_cases h:11<=n
  ·rw[gS n h,List.length_cons];have:=ih (n-min n 138) (by omega);omega
  ·by_cases h3:3<=n
   ·rw[ia n (by omega) h3];simp;omega
   ·rw[gM n (by omega)];simp
theorem zA(v n:Nat):(ie v n).length<=n:=by
 induction n using Nat.strongRecOn with
 | ind n ih=>
  by_cases h:3<=n
  ·rw[jy v n h,List.length_cons];have:=ih (n-min n 6) (by omega);omega
  ·rw[jF v n (by omega)];simp
theorem xe(v n:Nat)(h:1<=n):(eO v n).length<=n:=by
 unfold eO;split
 ·exact AF n
 ·rw[List.length_cons];have:=zA v (n-1);omega
theorem tj(l:List Nat):(be l).length<=l.length:=by
 induction hn:l.length using Nat.strongRecOn generalizing l with
 | ind n ih=>
  cases l with
  | nil=>simp[be]
  | cons v r=>
   rw[gY,List.length_append];have h1:=xe v (1+bK v r) (by omega);have h2:=kN v r;have h3:=ih (r.drop (bK v r)).length (by simp at hn ⊢;omega) _ rfl;simp at hn h3;omega
theorem tn(v:Nat)(r:List Nat)(m:Nat)(h1:∀j (_:j<r.length),j<m->r[j]=v)(hm:m<=r.length)(h2:∀h:m<r.length,r[m]≠v):bK v r=m:=by
 induction r generalizing m with
 | nil=>simp at hm;subst hm;rfl
 | cons a r ih=>
  cases m with
  | zero=>
   have:=h2 (by simp);simp at this;simp[bK,this]
  | succ m=>
   have ha:=h1 0 (by simp) (by omega);simp at ha;have h3:=ih m (λj hj TZ=>h1 (j+1) (by simpa using hj) (by omega)) (by simpa using hm) (λh=>h2 (by simpa using h));unfold bK at h3 ⊢;rw[List.takeWhile_cons,if_pos (by simp[ha]),List.length_cons,h3]
theorem Ae(v:Nat)(r:List Nat)(j:Nat)(hj:j<r.length)(h:j<bK v r):r[j]=v:=by
 induction r generalizing j with
 | nil=>simp at hj
 | cons a r ih=>
  unfold bK at h;rw[List.takeWhile_cons]at h;by_cases ha:a=v
  ·cases j with
   | zero=>simpa using ha
   | succ j=>
    rw[if_pos (by simp[ha]),List.length_cons]at h;simpa using ih j (by simpa using hj) (by unfold bK;omega)
  ·rw[if_neg (by simp[ha])]at h;simp at h
theorem yc(v:Nat)(r:List Nat):v::r=List.replicate (1+bK v r) v++r.drop (bK v r):=by
 have h:=kN v r;rw[Nat.add_comm,List.replicate_succ,List.cons_append];congr 1;have e:r.take (bK v r)=List.replicate (bK v r) v:=by refine List.ext_getElem (by simp;omega) (λj h1 h2=>?_);simp at h1;rw[List.getElem_take,List.getElem_replicate,Ae v r j (by omega) (by omega)]
 rw[<-e,List.take_append_drop]
theorem i9{l:List Nat}{s:Int×Int}{n v k:Nat}(h:iM s l=some (v,k))(hf:l.length+k<=n):eI l s n=some (l++List.replicate k v):=by unfold eI;rw[h];simp only;rw[if_neg (by omega)]
theorem xk(n:Nat)(l:List Nat)(ss tt:List (Int×Int)):iD n l (ss++tt)=(iD n l ss).bind (λm=>iD n m tt):=by
 induction ss generalizing l with
 | nil=>rfl
 | cons a r ih=>
  simp only[List.cons_append,iD];cases eI l a n with
  | none=>rfl
  | some m=>exact ih m
theorem FN(n:Nat)(l:List Nat)(s:Int×Int):iD n l [s]=eI l s n:=by simp only[iD];cases eI l s n<;>rfl
theorem rx(v:Nat)(l:List Nat)(h:v<=15):iM ((v:Int),0) l=some (v,1):=by unfold iM;rw[if_pos ⟨by omega,by simp only;omega,rfl⟩];simp
theorem qS(n v k:Nat)(l:List Nat)(h:v<=15)(hf:l.length+k<=n):iD n l (List.replicate k ((v:Int),0))=some (l++List.replicate k v):=by
 induction k generalizing l with
 | zero=>simp[iD]
 | succ k ih=>
  rw[List.replicate_succ,iD,i9 (rx v l h) (by omega)];simp only;rw[ih _ (by simp;omega),List.append_assoc,List.replicate_append_replicate,Nat.add_comm]
theorem As(n m:Nat)(l:List Nat)(hf:l.length+m<=n):iD n l (fo m)=some (l++List.replicate m 0):=by
 induction m using Nat.strongRecOn generalizing l with
 | ind m ih=>
  by_cases h:11<=m
  ·rw[gS m h,iD];have hs:iM (18,((min m 138-11:Nat):Int)) l=some (0,min m 138):=by
    unfold iM;rw[if_neg (by simp),if_neg (by simp),if_neg (by simp),if_pos ⟨rfl,by omega,by omega⟩];simp;omega
   rw[i9 hs (by omega)];simp only;rw[ih (m-min m 138) (by omega) _ (by simp;omega),List.append_assoc,List.replicate_append_replicate,show min m 138+(m-min m 138)=m by omega]
  ·by_cases h3:3<=m
   ·rw[ia m (by omega) h3,FN];have hs:iM (17,((m-3:Nat):Int)) l=some (0,m):=by
     unfold iM;rw[if_neg (by simp),if_neg (by simp),if_pos ⟨rfl,by omega,by omega⟩];simp;omega
    exact i9 hs hf
   ·rw[gM m (by omega)];exact qS n 0 m l (by omega) hf
theorem AM(n v m:Nat)(l:List Nat)(h15:v<=15)(hl:0<l.length)(hv:ko l=v)(hf:l.length+m<=n):iD n l (ie v m)=some (l++List.replicate m v):=by
 induction m using Nat.strongRecOn generalizing l with
 | ind m ih=>
  by_cases h:3<=m
  ·rw[jy v m h,iD];have hs:iM (16,((min m 6-3:Nat):Int)) l=some (v,min m 6):=by
    unfold iM;rw[if_neg (by simp),if_pos ⟨rfl,by omega,by omega,hl⟩,hv];simp;omega
   rw[i9 hs (by omega)];simp only;have cC:ko (l++List.replicate (min m 6) v)=v:=by
    have hk:0<min m 6:=(by omega);generalize min m 6=k at hk ⊢;obtain⟨k,rfl⟩:∃j,k=j+1:=⟨k-1,by omega⟩
    unfold ko;rw[List.replicate_succ',<-List.append_assoc];simp
   rw[ih (m-min m 6) (by omega) _ (by simp;omega) cC (by simp;omega),List.append_assoc,List.replicate_append_replicate,show min m 6+(m-min m 6)=m by omega]
  ·rw[jF v m (by omega)];exact qS n v m l h15 hf
theorem Hq(n v m:Nat)(l:List Nat)(h15:v<=15)(hm:1<=m)(hf:l.length+m<=n):iD n l (eO v m)=some (l++List.replicate m v):=by
 unfold eO;split
 ·rename_i h0;subst h0;exact As n m l hf
 ·rw[iD,i9 (rx v l h15) (by omega)];simp only;have cC:ko (l++List.replicate 1 v)=v:=(by simp[ko]);rw[AM n v (m-1) _ h15 (by simp) cC (by simp;omega),List.append_assoc,List.replicate_append_replicate,show 1+(m-1)=m by omega]
theorem DY(n:Nat)(r:List Nat)(l:List Nat)(h15:∀x∈r,x<=15)(hf:l.length+r.length<=n):iD n l (be r)=some (l++r):=by
 induction hn:r.length using Nat.strongRecOn generalizing r l with
 | ind k ih=>
  cases r with
  | nil=>simp[be,iD]
  | cons v r=>
   have XE:=kN v r;rw[gY,xk,Hq n v _ l (h15 v (by simp)) (by omega) (by simp at hf;omega)];simp only[Option.bind_some];rw[ih (r.drop (bK v r)).length (by simp at hn ⊢;omega) _ _ (λx hx=>h15 x (List.mem_cons_of_mem _ (List.mem_of_mem_drop hx))) (by simp at hf ⊢;omega) rfl,List.append_assoc,<-yc]
end Go.Proofs.YtljlmfnbeofmmaaGreatDoor
namespace Go.Proofs.YtljlmfnbeofmmaaGreatDoor
open Go.RowKit
def km(s:Int×Int):List Value:=[.int .i64 s.1,.int .i64 s.2]
theorem stC_ok:dN km 2:=⟨λ_=>rfl,λx u hu=>by simp[km]at hu;rcases hu with rfl | rfl<;>rfl,by decide⟩
abbrev fP(B:Nat):=RowC B 220 2 km
abbrev StSrc:=@SrcC (Int×Int) 2 km
theorem Tryz.infoSt:(Tryz.prog.info? 220).map (λi=>(i.zero,i.size,i.bytes))=some (some (.agg #[.int .i64 0,.int .i64 0]),2,16):=by kernel_rfl
theorem kC(w:World)(x y:Int):aV (w.alloc (.cells #[.int .i64 x,.int .i64 y] 220)) ⟨w.heap.size,0,none⟩ ([(x,y)].flatMap km):=by
 intro j u hu
 match j,hu with
 | 0,hu=>simp[km]at hu;subst hu;simp[cw]
 | 1,hu=>simp[km]at hu;subst hu;simp[cw]
 | j+2,hu=>simp[km]at hu
theorem eh{ops:Array Oper}{rest:List Oper}{o:Oper}{a:Act}{Q:Exit→Act→World→Prop}(w:World)(B:Nat)(ki:o.guard=none)(s x:Operand)
  (ho:o.op=.call {callee:=.builtin .append,args:=#[s,x],argTypes:=#[172,172]})
  (v:Value) (ss:List (Int×Int)) (hs:a.eval s=v) (hrow:fP B w v ss) (ad:Addr) (y:Int×Int) (hx:a.eval x=.slice (some ad) 1 1) (dL:aV w ad ([y].flatMap km)) (ag:ss.length+1<=1000000000) (hB:B<=w.heap.size)
  (h:∀v' w',fP B w' v' (ss++[y])->w.grownBy w' v.ownBlock->wpList Tryz.prog ops Q rest (a.put o.dst v') w'):wpList Tryz.prog ops Q (o::rest) a w:=
 ea w km 2 stC_ok (by decide) B 172 220 (.agg #[.int .i64 0,.int .i64 0]) 16 Tryz.underlying172 Tryz.infoSt rfl (by decide) ki s x ho v ss hs hrow ad 1 1 [y] hx rfl dL ag hB h
abbrev ja(B:Nat)(k:Nat):Prop:=B<=k
def cI(zs:List Int):Bool:=!(zs.any (ee 0 15))
theorem fw(zs:List Int):cI zs=true↔∀z∈zs,0<=z/\z<=15:=by
 simp only[cI,Bool.not_eq_true',List.any_eq_false,ee];constructor
 ·intro h z hz;have:=h z hz;simp at this;omega
 ·intro h z hz;have:=h z hz;simp;omega
theorem zM(ns:List Nat)(i n:Nat)(hi:i<ns.length)(hn:n=1+bK ns[i] (ns.drop (i+1))):be (ns.drop i)=eO ns[i] n++be (ns.drop (i+n)):=by rw[List.drop_eq_getElem_cons hi,gY,List.drop_drop,hn];congr 3;omega
def Oe(w w':World)(e:Ending):Except Nat (List (Int×Int))->Prop
 | .error c=>e=.returned (.tuple #[.slice none 0 0,.int .i64 (c:Nat)])/\Same w w'
 | .ok ss=>∃v',e=.returned (.tuple #[v',.int .i64 0])/\fP w.heap.size w' v' ss/\Same w w'
theorem rB{zs:List Int}(h1:zs.length<=316)(h2:cI zs=true):sZ zs=.ok (be (zs.map Int.toNat)):=by unfold sZ;rw[if_pos ⟨h1,(fw zs).1 h2⟩]
theorem CM{zs:List Int}(h:316<zs.length\/cI zs=false):sZ zs=.error 1:=by
 unfold sZ;rw[if_neg];rintro⟨h1,h2⟩;rcases h with h | h
 ·omega
 ·rw[(fw zs).2 h2]at h;cases h
def Ff(a b:List Int):Bool:=decide (257<=a.length) && decide (a.length<=286) && decide (1<=b.length) && decide (b.length<=30) && cI a && cI b
theorem StSrc.get{w:World}{I:Nat->Prop}{ao:Option Addr}{n cap:Nat}{ss:List (Int×Int)}(h:StSrc w I (.slice ao n cap) ss)(i:Nat)(hi:i<ss.length):∃b o,ao=some ⟨b,o,none⟩/\I b/\w.cell? ⟨b,o+i*2,none⟩=some (.int .i64 ss[i].1)/\w.cell? ⟨b,o+i*2+1,none⟩=some (.int .i64 ss[i].2):=by obtain⟨ao',cap',e1,_,e2⟩:=h;injection e1 with e3 _ _;subst e3;obtain⟨b,o,e4,hI,e5⟩:=e2 (by intro e;rw[e]at hi;simp at hi);exact⟨b,o,e4,hI,e5 i hi 0 (by decide),e5 i hi 1 (by decide)⟩
end Go.Proofs.YtljlmfnbeofmmaaGreatDoor
