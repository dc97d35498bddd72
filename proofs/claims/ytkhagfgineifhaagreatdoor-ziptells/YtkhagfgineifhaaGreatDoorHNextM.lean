import Derived.Test.YtkhagfgineifhaaGreatDoorHRows
import Derived.Test.YtkhagfgineifhaaGreatDoorBits
namespace Go.Proofs.YtkhagfgineifhaaGreatDoor
theorem qR(a b:List Nat)(hl:a.length=b.length)(ha:∀x∈a,x<2)(hb:∀x∈b,x<2)(h:n2 a=n2 b):a=b:=by
 induction a generalizing b with
 | nil=>cases b with
  | nil=>rfl
  | cons y r=>simp at hl
 | cons x l ih=>cases b with
  | nil=>simp at hl
  | cons y r=>
   have hx:=ha x (by simp);have hy:=hb y (by simp);simp only[n2]at h;have e1:x=y:=(by omega);have e2:n2 l=n2 r:=(by omega);rw[e1,ih r (by simpa using hl) (λz hz=>ha z (by simp[hz])) (λz hz=>hb z (by simp[hz])) e2]
theorem xN{ns:List Nat}{s:Nat}(hm:measure ns<=32768)(hs:s∈aD ns)(h15:key ns s<=15):dC ns s<2 ^ key ns s:=by
 obtain⟨k,hk,rfl,a1,a2⟩:=j7 hs;have h1:=lX ns (k+1);have h2:=js ns (aD ns)[k];have h3:(dC ns (aD ns)[k]+1)*2 ^ (15-key ns (aD ns)[k])<=2 ^ key ns (aD ns)[k]*2 ^ (15-key ns (aD ns)[k]):=by rw[<-Nat.pow_add,show key ns (aD ns)[k]+(15-key ns (aD ns)[k])=15 by omega,Nat.add_mul,Nat.one_mul];have:(2:Nat) ^ 15=32768:=(by decide);omega
 have:=Nat.le_of_mul_le_mul_right h3 (Nat.two_pow_pos _);omega
def aE(ns:List Nat)(s:Nat):List Nat:=xt (key ns s) (dC ns s)
def B7(ns t:List Nat)(s:Nat):Prop:=key ns s≠0/\aE ns s <+: t
def Mp(ns t:List Nat)(s:Nat):Prop:=key ns s≠0/\t <+: aE ns s
def RNext(ns t:List Nat)(is k g:Nat):Prop:=
 (g=0/\is<ns.length/\B7 ns t is/\k=key ns is/\∀s,s<is->¬B7 ns t s) \/
 (g=10/\is=0/\k=0/\(∀s,s<ns.length->¬B7 ns t s)/\∃s,s<ns.length/\Mp ns t s) \/
 (g=32/\is=0/\k=0/\(∀s,s<ns.length->¬B7 ns t s)/\∀s,s<ns.length->¬Mp ns t s)
theorem aq(ns:List Nat)(s:Nat):(aE ns s).length=key ns s:=oS _ _
theorem g8(ns:List Nat)(s:Nat):n2 (aE ns s)=rv (key ns s) (dC ns s):=J0 _ _
theorem cX(ns:List Nat)(s:Nat):∀b∈aE ns s,b<2:=Gy _ _
theorem pC(bs:List Nat)(hb:∀b∈bs,b<256)(c n:Nat)(h:c+n<=8*bs.length):n2 (((ae bs).drop c).take n)=aO bs / 2 ^ c % 2 ^ n:=by rw[BE (ae bs) (ay bs) c n (by rw[aB];exact h),qf bs hb]
theorem jZ(bs:List Nat)(c:Nat):((ae bs).drop c).length=8*bs.length-c:=by rw[List.length_drop,aB]
theorem Bi{ns:List Nat}{s:Nat}(hm:measure ns≤32768)(hs:s∈aD ns)(h15:key ns s≤15)(bs:List Nat)(hb:∀b∈bs,b<256)(c:Nat)(hc:c≤8*bs.length):
  B7 ns ((ae bs).drop c) s↔key ns s<=8*bs.length-c/\rv (key ns s) (aO bs / 2 ^ c)=dC ns s:=by
 have ag:=jZ bs c;have ey:=xN hm hs h15;unfold B7;rw[List.prefix_iff_eq_take,aq];constructor
 ·rintro⟨_,h⟩;have hl:=congrArg List.length h;rw[aq,List.length_take,ag]at hl;have hk:key ns s<=8*bs.length-c:=(by omega);refine⟨hk,?_⟩;have h2:=congrArg n2 h;rw[g8,pC bs hb c _ (by omega)]at h2;rw[<-lS (key ns s) (key ns s) _ (Nat.le_refl _),<-h2,xC,Nat.mod_eq_of_lt ey]
 ·rintro⟨hk,h⟩;refine⟨(aW.1 hs).2,?_⟩;refine qR _ _ (by rw[aq,List.length_take,ag];omega) (cX ns s) (λx hx=>ay bs x (List.mem_of_mem_drop (List.mem_of_mem_take hx))) ?_;rw[g8,pC bs hb c _ (by omega),<-h,xC]
theorem Mg{ns:List Nat}{s:Nat}(hs:s∈aD ns)(bs:List Nat)(hb:∀b∈bs,b<256)(c:Nat)(hc:c<=8*bs.length)(hk:8*bs.length-c<key ns s)(h:rv (key ns s) (aO bs / 2 ^ c)=dC ns s)(hZ:aO bs / 2 ^ c<2 ^ (8*bs.length-c)):Mp ns ((ae bs).drop c) s:=by
 refine⟨(aW.1 hs).2,?_⟩;have ag:=jZ bs c;have e:aE ns s=(ae bs).drop c++List.replicate (key ns s-(8*bs.length-c)) 0:=by
  refine qR _ _ (by rw[aq,List.length_append,ag,List.length_replicate];omega) (cX ns s) ?_ ?_
  ·intro x hx;rcases List.mem_append.1 hx with hx | hx
   ·exact ay bs x (List.mem_of_mem_drop hx)
   ·have:=List.eq_of_mem_replicate hx;omega
  ·have h1:=pC bs hb c (8*bs.length-c) (by omega);rw[List.take_of_length_le (by omega),Nat.mod_eq_of_lt hZ]at h1;rw[qI,h1,g8,<-h,xC,Nat.mod_eq_of_lt (Nat.lt_of_lt_of_le hZ (Nat.pow_le_pow_right (by omega) (by omega)))]
 rw[e];exact List.prefix_append _ _
theorem yY(ns:List Nat)(X n:Nat)(hn:n<=(aD ns).length)(h:X<cm ns n):∃k,k<n/\cm ns k<=X/\X<cm ns (k+1):=by
 induction n with
 | zero=>simp[cm]at h
 | succ n ih=>
  by_cases h1:X<cm ns n
  ·obtain⟨k,hk,h2⟩:=ih (by omega) h1;exact⟨k,by omega,h2⟩
  ·exact⟨n,by omega,by omega,h⟩
theorem Gx{ns:List Nat}(hu:(aD ns).length=1)(hm:measure ns=16384)(h15:∀s,key ns s<=15):iI ns<=1:=by
 rcases(kN ns 0).2.2 with h | h
 ·unfold iI;omega
 ·obtain⟨s,hs,e⟩:=List.getElem_of_mem h;have ek:key ns s=iI ns:=(by rw[aZ hs];exact e);by_cases h0:iI ns=0
  ·omega
  ·have hr:s∈aD ns:=aW.2 ⟨hs,by omega⟩;obtain⟨k,hk,rfl,a1,a2⟩:=j7 hr;have hk0:k=0:=(by omega);subst hk0;have h1:=kJ ns;rw[hu]at h1;have h2:cm ns 0=0:=(by simp[cm]);have h3:2 ^ (15-key ns (aD ns)[0])=16384:=by
    have:cm ns (0+1)=measure ns:=h1;omega
   have h4:=h15 (aD ns)[0];refine Classical.byContradiction (λhc=>?_);have h5:2 ^ (15-key ns (aD ns)[0])<=2 ^ 13:=Nat.pow_le_pow_right (by omega) (by omega);have h6:(2:Nat) ^ 13=8192:=(by decide);omega
theorem AC(ns:List Nat):dE ns=(aD ns).length:=by
 have h:∀i,i<=ns.length->dE (ns.take i)=(cW ns i).length:=by
  intro i
  induction i with
  | zero=>intro _;simp[dE,cW]
  | succ i ih=>
   intro hi;rw[List.take_succ_eq_append_getElem (by omega),qe,ih (by omega),fO,List.length_append,<-aZ (by omega)];by_cases h:key ns i=0<;>simp[h]
 have h2:=h ns.length (Nat.le_refl _);rw[List.take_length]at h2;rw[h2,(fP ns).length_eq];rfl
theorem Dy{zs:List Int}{ns:List Nat}(hg:Good zs ns)(bs:List Nat)(hb:∀b∈bs,b<256)(c:Nat)(hc:c≤8*bs.length)(hZ:aO bs / 2 ^ c<2 ^ (8*bs.length-c)){sym long er is k g:Nat}
  (ha:Ans ns (min (8*bs.length-c) (iI ns)) (aO bs / 2 ^ c % 2 ^ (min (8*bs.length-c) (iI ns))) sym long er) (hr:RNext ns ((ae bs).drop c) is k g):is=sym/\k=long/\g=er:=by
 have h15:=hg.key_le;have hm:=hg.measure_le;have rP:iI ns<=15:=xU ns 15 hg.le;have ag:=jZ bs c;have LU:∀s,s<ns.length->B7 ns ((ae bs).drop c) s->er=0/\sym=s/\long=key ns s:=by intro s hs hf;have hsr:s∈aD ns:=aW.2 ⟨hs,hf.1⟩;obtain⟨h1,h2⟩:=(Bi hm hsr (h15 s) bs hb c hc).1 hf;exact Ans.unique h15 hZ ha rP hsr h1 h2
 have Pd:er=0->∃s,s<ns.length/\B7 ns ((ae bs).drop c) s:=by
  intro e0;rcases ha with⟨_,hs,Cr,mr,PI⟩ | ⟨e,_⟩ | ⟨e,_⟩
  ·refine⟨sym,(aW.1 hs).1,(Bi hm hs (h15 sym) bs hb c hc).2 ⟨by omega,?_⟩⟩;rw[lS _ _ _ mr,Cr]at PI;exact PI
  ·omega
  ·omega
 have Nn:er=10->∃s,s<ns.length/\Mp ns ((ae bs).drop c) s:=by
  intro Zp;rcases ha with⟨e,_⟩ | ⟨_,_,_,hlt,sj⟩ | ⟨e,_⟩
  ·omega
  ·have pA:min (8*bs.length-c) (iI ns)=8*bs.length-c:=(by omega);rw[pA,lS _ _ _ (Nat.le_refl _),<-zH _ 15 _ hZ (by omega)]at sj;rw[pA]at hlt;have hX:rv 15 (aO bs / 2 ^ c)<measure ns:=by
    have hk:=hg.ok;unfold bw at hk;have EL:rv 15 (aO bs / 2 ^ c)<32768:=F6 15 _;split at hk
    ·omega
    ·split at hk
     ·omega
     ·split at hk
      ·rename_i _ _ h3;have h4:=Gx (by rw[<-AC];exact h3.1) h3.2 h15;have h5:8*bs.length-c=0:=(by omega);rw[zH _ 15 _ hZ (by omega),h5];simp[rv,h3.2]
      ·omega
   rw[<-kJ]at hX;obtain⟨i,hi,h1,h2⟩:=yY ns _ _ (Nat.le_refl _) hX;have ew:(aD ns)[i]∈aD ns:=List.getElem_mem hi;have hkey:8*bs.length-c<key ns (aD ns)[i]:=by refine Classical.byContradiction (λhcon=>?_);have h3:=(gv ns (8*bs.length-c) i hi).1 (by omega);have h4:=mX (ns:=ns) (show i+1<=pi ns (8*bs.length-c)from h3);omega
   refine⟨(aD ns)[i],(aW.1 ew).1,Mg ew bs hb c hc hkey ?_ hZ⟩;refine(mI ew (h15 _)).2 ?_;rw[kg ns i hi];have h5:=jv ns i hi;rw[uk,eM,if_neg (aW.1 ew).2]at h5;omega
  ·omega
 have Oo:er=32->∀s,s<ns.length->¬Mp ns ((ae bs).drop c) s:=by
  intro Zo s hs MJ;rcases ha with⟨e,_⟩ | ⟨e,_⟩ | ⟨_,_,_,hh,_⟩
  ·omega
  ·omega
  ·have h1:=MJ.2.length_le;rw[aq,ag]at h1;have h2:=ja ns s;have e1:(ae bs).drop c=aE ns s:=MJ.2.eq_of_length (by rw[aq,ag];omega);have h3:=LU s hs ⟨MJ.1,by rw[e1];exact List.prefix_refl _⟩;omega
 have uY:er=0\/(er=10/\sym=0/\long=0)\/(er=32/\sym=0/\long=0):=by
  rcases ha with⟨e,_⟩ | ⟨e,e1,e2,_⟩ | ⟨e,e1,e2,_⟩
  ·exact .inl e
  ·exact .inr (.inl ⟨e,e1,e2⟩)
  ·exact .inr (.inr ⟨e,e1,e2⟩)
 rcases hr with⟨rfl,hi,hf,rfl,_⟩ | ⟨rfl,rfl,rfl,so,⟨s,hs,MJ⟩⟩ | ⟨rfl,rfl,rfl,so,hnb⟩
 ·obtain⟨h1,h2,h3⟩:=LU is hi hf;exact⟨h2.symm,h3.symm,h1.symm⟩
 ·rcases uY with h | ⟨h1,h2,h3⟩ | ⟨h1,_⟩
  ·obtain⟨t,ht,hf⟩:=Pd h;exact absurd hf (so t ht)
  ·exact⟨h2.symm,h3.symm,h1.symm⟩
  ·exact absurd MJ (Oo h1 s hs)
 ·rcases uY with h | ⟨h1,_⟩ | ⟨h1,h2,h3⟩
  ·obtain⟨t,ht,hf⟩:=Pd h;exact absurd hf (so t ht)
  ·obtain⟨s,hs,MJ⟩:=Nn h1;exact absurd MJ (hnb s hs)
  ·exact⟨h2.symm,h3.symm,h1.symm⟩
def Mc(ns t:List Nat)(s:Nat):Bool:=key ns s != 0 && (aE ns s).isPrefixOf t
def Mj(ns t:List Nat)(s:Nat):Bool:=key ns s != 0 && t.isPrefixOf (aE ns s)
def aT(ns t:List Nat):Nat×Nat×Nat:=
 match (List.range ns.length).find? (Mc ns t) with
 | some s=>(s,key ns s,0)
 | none=>if (List.range ns.length).any (Mj ns t)=true then(0,0,10) else(0,0,32)
theorem qH(ns t:List Nat)(s:Nat):Mc ns t s=true↔B7 ns t s:=by simp[Mc,B7,List.isPrefixOf_iff_prefix]
theorem xX(ns t:List Nat)(s:Nat):Mj ns t s=true↔Mp ns t s:=by simp[Mj,Mp,List.isPrefixOf_iff_prefix]
theorem jg(ns t:List Nat):RNext ns t (aT ns t).1 (aT ns t).2.1 (aT ns t).2.2:=by
 unfold aT;split
 ·rename_i s h;rw[List.find?_range_eq_some]at h;obtain⟨h1,h2,h3⟩:=h;refine .inl ⟨rfl,by simpa using h2,(qH ns t s).1 h1,rfl,λj hj hf=>?_⟩;have:=h3 j hj;rw[(qH ns t j).2 hf]at this;cases this
 ·rename_i h;rw[List.find?_range_eq_none]at h;have so:∀s,s<ns.length->¬B7 ns t s:=λs hs hf=>by
   have:=h s hs;rw[(qH ns t s).2 hf]at this;cases this
  split
  ·rename_i h2;obtain⟨s,hs,hb⟩:=List.any_eq_true.1 h2;exact .inr (.inl ⟨rfl,rfl,rfl,so,s,by simpa using hs,(xX ns t s).1 hb⟩)
  ·rename_i h2;refine .inr (.inr ⟨rfl,rfl,rfl,so,λs hs hb=>h2 ?_⟩);exact List.any_eq_true.2 ⟨s,by simpa using hs,(xX ns t s).2 hb⟩
theorem RNext.one{ns t:List Nat}{a b c a' b' c':Nat}(h:RNext ns t a b c)(h':RNext ns t a' b' c'):a=a'/\b=b'/\c=c':=by
 rcases h with⟨rfl,h1,h2,rfl,h3⟩ | ⟨rfl,rfl,rfl,h1,h2⟩ | ⟨rfl,rfl,rfl,h1,h2⟩<;>rcases h' with⟨rfl,k1,k2,rfl,k3⟩ | ⟨rfl,rfl,rfl,k1,k2⟩ | ⟨rfl,rfl,rfl,k1,k2⟩
 ·have e:a=a':=by
   rcases Nat.lt_trichotomy a a' with h | h | h
   ·exact absurd h2 (k3 a h)
   ·exact h
   ·exact absurd k2 (h3 a' h)
  subst e;exact⟨rfl,rfl,rfl⟩
 ·exact absurd h2 (k1 a h1)
 ·exact absurd h2 (k1 a h1)
 ·exact absurd k2 (h1 a' k1)
 ·exact⟨rfl,rfl,rfl⟩
 ·obtain⟨s,hs,hb⟩:=h2;exact absurd hb (k2 s hs)
 ·exact absurd k2 (h1 a' k1)
 ·obtain⟨s,hs,hb⟩:=k2;exact absurd hb (h2 s hs)
 ·exact⟨rfl,rfl,rfl⟩
theorem wK{ns t:List Nat}{is k g:Nat}(h:RNext ns t is k g):aT ns t=(is,k,g):=by obtain⟨h1,h2,h3⟩:=(jg ns t).one h;exact Prod.ext h1 (Prod.ext h2 h3)
end Go.Proofs.YtkhagfgineifhaaGreatDoor
