import Derived.Test.YtkhagfgineifhaaGreatDoorJ9
import Derived.Test.YtkhagfgineifhaaGreatDoorJ10
namespace Go.Proofs.YtkhagfgineifhaaGreatDoor
open Go.RowKit
def xt:Nat->Nat->List Nat
 | 0,_=>[]
 | n+1,c=>xt n (c / 2)++[c % 2]
theorem oS(n c:Nat):(xt n c).length=n:=by
 induction n generalizing c with
 | zero=>rfl
 | succ n ih=>simp[xt,ih]
theorem J0(n c:Nat):n2 (xt n c)=rv n c:=by
 induction n generalizing c with
 | zero=>rfl
 | succ n ih=>
  simp only[xt,rv];rw[dw,ih,oS];simp[n2,Nat.mul_comm];omega
theorem Gy(n c:Nat):∀b∈xt n c,b<2:=by
 induction n generalizing c with
 | zero=>simp[xt]
 | succ n ih=>
  intro b hb;rcases List.mem_append.1 hb with hb | hb
  ·exact ih _ b hb
  ·have:b=c % 2:=(by simpa using hb);omega
end Go.Proofs.YtkhagfgineifhaaGreatDoor
namespace Go.Proofs.YtkhagfgineifhaaGreatDoor
theorem qR(a b:List Nat)(hl:a.length=b.length)(ha:∀x∈a,x<2)(hb:∀x∈b,x<2)(h:n2 a=n2 b):a=b:=by
 induction a generalizing b with
 | nil=>cases b with
  | nil=>rfl
  | cons y r=>simp at hl
 | cons x l ih=>cases b with
  | nil=>simp at hl
  | cons y r=>
   have hx:=ha x (by simp);have hy:=hb y (by simp);simp only[n2]at h;have e1:x=y:=(by omega);have e2:n2 l=n2 r:=(by omega);rw[e1,ih r (by simpa using hl) (λz hz=>ha z (by simp[hz])) (λz hz=>hb z (by simp[hz])) e2]
theorem xN{ns:List Nat}{s:Nat}(hm:measure ns<=32768)(hs:s∈aD ns)(h15:key ns s<=15):dC ns s<2 ^ key ns s:=by
 obtain⟨k,hk,rfl,a1,a2⟩:=j7 hs;have h1:=lX ns (k+1);have h2:=js ns (aD ns)[k];have h3:(dC ns (aD ns)[k]+1)*2 ^ (15-key ns (aD ns)[k])<=2 ^ key ns (aD ns)[k]*2 ^ (15-key ns (aD ns)[k]):=by rw[<-Nat.pow_add,show key ns (aD ns)[k]+(15-key ns (aD ns)[k])=15 by omega,Nat.add_mul,Nat.one_mul];have:(2:Nat) ^ 15=32768:=(by decide);omega
 have:=Nat.le_of_mul_le_mul_right h3 (Nat.two_pow_pos _);omega
def aE(ns:List Nat)(s:Nat):List Nat:=xt (key ns s) (dC ns s)
def B7(ns t:List Nat)(s:Nat):Prop:=key ns s≠0/\aE ns s <+: t
def Mp(ns t:List Nat)(s:Nat):Prop:=key ns s≠0/\t <+: aE ns s
def RNext(ns t:List Nat)(is k g:Nat):Prop:=
 (g=0/\is<ns.length/\B7 ns t is/\k=key ns is/\∀s,s<is->¬B7 ns t s) \/
 (g=10/\is=0/\k=0/\(∀s,s<ns.length->¬B7 ns t s)/\∃s,s<ns.length/\Mp ns t s) \/
 (g=32/\is=0/\k=0/\(∀s,s<ns.length->¬B7 ns t s)/\∀s,s<ns.length->¬Mp ns t s)
theorem aq(ns:List Nat)(s:Nat):(aE ns s).length=key ns s:=oS _ _
theorem g8(ns:List Nat)(s:Nat):n2 (aE ns s)=rv (key ns s) (dC ns s):=J0 _ _
theorem cX(ns:List Nat)(s:Nat):∀b∈aE ns s,b<2:=Gy _ _
theorem pC(bs:List Nat)(hb:∀b∈bs,b<256)(c n:Nat)(h:c+n<=8*bs.length):n2 (((ae bs).drop c).take n)=aO bs / 2 ^ c % 2 ^ n:=by rw[BE (ae bs) (ay bs) c n (by rw[aB];exact h),qf bs hb]
theorem jZ(bs:List Nat)(c:Nat):((ae bs).drop c).length=8*bs.length-c:=by rw[List.length_drop,aB]
theorem Bi{ns:List Nat}{s:Nat}(hm:measure ns≤32768)(hs:s∈aD ns)(h15:key ns s≤15)(bs:List Nat)(hb:∀b∈bs,b<256)(c:Nat)(hc:c≤8*bs.length):
  B7 ns ((ae bs).drop c) s↔key ns s<=8*bs.length-c/\rv (key ns s) (aO bs / 2 ^ c)=dC ns s:=by
 have ag:=jZ bs c;have ey:=xN hm hs h15;unfold B7;rw[List.prefix_iff_eq_take,aq];constructor
 ·rintro⟨_,h⟩;have hl:=congrArg List.length h;rw[aq,List.length_take,ag]at hl;have hk:key ns s<=8*bs.length-c:=(by omega);refine⟨hk,?_⟩;have h2:=congrArg n2 h;rw[g8,pC bs hb c _ (by omega)]at h2;rw[<-lS (key ns s) (key ns s) _ (Nat.le_refl _),<-h2,xC,Nat.mod_eq_of_lt ey]
 ·rintro⟨hk,h⟩;refine⟨(aW.1 hs).2,?_⟩;refine qR _ _ (by rw[aq,List.length_take,ag];omega) (cX ns s) (λx hx=>ay bs x (List.mem_of_mem_drop (List.mem_of_mem_take hx))) ?_;rw[g8,pC bs hb c _ (by omega),<-h,xC]
theorem Mg{ns:List Nat}{s:Nat}(hs:s∈aD ns)(bs:List Nat)(hb:∀b∈bs,b<256)(c:Nat)(hc:c<=8*bs.length)(hk:8*bs.length-c<key ns s)(h:rv (key ns s) (aO bs / 2 ^ c)=dC ns s)(hZ:aO bs / 2 ^ c<2 ^ (8*bs.length-c)):Mp ns ((ae bs).drop c) s:=by
 refine⟨(aW.1 hs).2,?_⟩;have ag:=jZ bs c;have e:aE ns s=(ae bs).drop c++List.replicate (key ns s-(8*bs.length-c)) 0:=by
  refine qR _ _ (by rw[aq,List.length_append,ag,List.length_replicate];omega) (cX ns s) ?_ ?_
  ·intro x hx;rcases List.mem_append.1 hx with hx | hx
   ·exact ay bs x (List.mem_of_mem_drop hx)
   ·have:=List.eq_of_mem_replicate hx;omega
  ·have h1:=pC bs hb c (8*bs.length-c) (by omega);rw[List.take_of_length_le (by omega),Nat.mod_eq_of_lt hZ]at h1;rw[qI,h1,g8,<-h,xC,Nat.mod_eq_of_lt (Nat.lt_of_lt_of_le hZ (Nat.pow_le_pow_right (by omega) (by omega)))]
 rw[e];exact List.prefix_append _ _
theorem yY(ns:List Nat)(X n:Nat)(hn:n<=(aD ns).length)(h:X<cm ns n):∃k,k<n/\cm ns k<=X/\X<cm ns (k+1):=by
 induction n with
 | zero=>simp[cm]at h
 | succ n ih=>
  by_cases h1:X<cm ns n
  ·obtain⟨k,hk,h2⟩:=ih (by omega) h1;exact⟨k,by omega,h2⟩
  ·exact⟨n,by omega,by omega,h⟩
theorem Gx{ns:List Nat}(hu:(aD ns).length=1)(hm:measure ns=16384)(h15:∀s,key ns s<=15):iI ns<=1:=by
 rcases(kN ns 0).2.2 with h | h
 ·unfold iI;omega
 ·obtain⟨s,hs,e⟩:=List.getElem_of_mem h;have ek:key ns s=iI ns:=(by rw[aZ hs];exact e);by_cases h0:iI ns=0
  ·omega
  ·have hr:s∈aD ns:=aW.2 ⟨hs,by omega⟩;obtain⟨k,hk,rfl,a1,a2⟩:=j7 hr;have hk0:k=0:=(by omega);subst hk0;have h1:=kJ ns;rw[hu]at h1;have h2:cm ns 0=0:=(by simp[cm]);have h3:2 ^ (15-key ns (aD ns)[0])=16384:=by
    have:cm ns (0+1)=measure ns:=h1;omega
   have h4:=h15 (aD ns)[0];refine Classical.byContradiction (λhc=>?_);have h5:2 ^ (15-key ns (aD ns)[0])<=2 ^ 13:=Nat.pow_le_pow_right (by omega) (by omega);have h6:(2:Nat) ^ 13=8192:=(by decide);omega
theorem AC(ns:List Nat):dE ns=(aD ns).length:=by
 have h:∀i,i<=ns.length->dE (ns.take i)=(cW ns i).length:=by
  intro i
  induction i with
  | zero=>intro _;simp[dE,cW]
  | succ i ih=>
   intro hi;rw[List.take_succ_eq_append_getElem (by omega),qe,ih (by omega),fO,List.length_append,<-aZ (by omega)];by_cases h:key ns i=0<;>simp[h]
 have h2:=h ns.length (Nat.le_refl _);rw[List.take_length]at h2;rw[h2,(fP ns).length_eq];rfl
theorem Dy{zs:List Int}{ns:List Nat}(hg:Good zs ns)(bs:List Nat)(hb:∀b∈bs,b<256)(c:Nat)(hc:c≤8*bs.length)(hZ:aO bs / 2 ^ c<2 ^ (8*bs.length-c)){sym long er is k g:Nat}
  (ha:Ans ns (min (8*bs.length-c) (iI ns)) (aO bs / 2 ^ c % 2 ^ (min (8*bs.length-c) (iI ns))) sym long er) (hr:RNext ns ((ae bs).drop c) is k g):is=sym/\k=long/\g=er:=by
 have h15:=hg.key_le;have hm:=hg.measure_le;have rP:iI ns<=15:=xU ns 15 hg.le;have ag:=jZ bs c;have LU:∀s,s<ns.length->B7 ns ((ae bs).drop c) s->er=0/\sym=s/\long=key ns s:=by intro s hs hf;have hsr:s∈aD ns:=aW.2 ⟨hs,hf.1⟩;obtain⟨h1,h2⟩:=(Bi hm hsr (h15 s) bs hb c hc).1 hf;exact Ans.unique h15 hZ ha rP hsr h1 h2
 have Pd:er=0->∃s,s<ns.length/\B7 ns ((ae bs).drop c) s:=by
  intro e0;rcases ha with⟨_,hs,Cr,mr,PI⟩ | ⟨e,_⟩ | ⟨e,_⟩
  ·refine⟨sym,(aW.1 hs).1,(Bi hm hs (h15 sym) bs hb c hc).2 ⟨by omega,?_⟩⟩;rw[lS _ _ _ mr,Cr]at PI;exact PI
  ·omega
  ·omega
 have Nn:er=10->∃s,s<ns.length/\Mp ns ((ae bs).drop c) s:=by
  intro Zp;rcases ha with⟨e,_⟩ | ⟨_,_,_,hlt,sj⟩ | ⟨e,_⟩
  ·omega
  ·have pA:min (8*bs.length-c) (iI ns)=8*bs.length-c:=(by omega);rw[pA,lS _ _ _ (Nat.le_refl _),<-zH _ 15 _ hZ (by omega)]at sj;rw[pA]at hlt;have hX:rv 15 (aO bs / 2 ^ c)<measure ns:=by
    have hk:=hg.ok;unfold bw at hk;have EL:rv 15 (aO bs / 2 ^ c)<32768:=F6 15 _;split at hk
    ·omega
    ·split at hk
     ·omega
     ·split at hk
      ·rename_i _ _ h3;have h4:=Gx (by rw[<-AC];exact h3.1) h3.2 h15;have h5:8*bs.length-c=0:=(by omega);rw[zH _ 15 _ hZ (by omega),h5];simp[rv,h3.2]
      ·omega
   rw[<-kJ]at hX;obtain⟨i,hi,h1,h2⟩:=yY ns _ _ (Nat.le_refl _) hX;have ew:(aD ns)[i]∈aD ns:=List.getElem_mem hi;have hkey:8*bs.length-c<key ns (aD ns)[i]:=by refine Classical.byContradiction (λhcon=>?_);have h3:=(gv ns (8*bs.length-c) i hi).1 (by omega);have h4:=mX (ns:=ns) (show i+1<=pi ns (8*bs.length-c)from h3);omega
   refine⟨(aD ns)[i],(aW.1 ew).1,Mg ew bs hb c hc hkey ?_ hZ⟩;refine(mI ew (h15 _)).2 ?_;rw[kg ns i hi];have h5:=jv ns i hi;rw[uk,eM,if_neg (aW.1 ew).2]at h5;omega
  ·omega
 have Oo:er=32->∀s,s<ns.length->¬Mp ns ((ae bs).drop c) s:=by
  intro Zo s hs MJ;rcases ha with⟨e,_⟩ | ⟨e,_⟩ | ⟨_,_,_,hh,_⟩
  ·omega
  ·omega
  ·have h1:=MJ.2.length_le;rw[aq,ag]at h1;have h2:=ja ns s;have e1:(ae bs).drop c=aE ns s:=MJ.2.eq_of_length (by rw[aq,ag];omega);have h3:=LU s hs ⟨MJ.1,by rw[e1];exact List.prefix_refl _⟩;omega
 have uY:er=0\/(er=10/\sym=0/\long=0)\/(er=32/\sym=0/\long=0):=by
  rcases ha with⟨e,_⟩ | ⟨e,e1,e2,_⟩ | ⟨e,e1,e2,_⟩
  ·exact .inl e
  ·exact .inr (.inl ⟨e,e1,e2⟩)
  ·exact .inr (.inr ⟨e,e1,e2⟩)
 rcases hr with⟨rfl,hi,hf,rfl,_⟩ | ⟨rfl,rfl,rfl,so,⟨s,hs,MJ⟩⟩ | ⟨rfl,rfl,rfl,so,hnb⟩
 ·obtain⟨h1,h2,h3⟩:=LU is hi hf;exact⟨h2.symm,h3.symm,h1.symm⟩
 ·rcases uY with h | ⟨h1,h2,h3⟩ | ⟨h1,_⟩
  ·obtain⟨t,ht,hf⟩:=Pd h;exact absurd hf (so t ht)
  ·exact⟨h2.symm,h3.symm,h1.symm⟩
  ·exact absurd MJ (Oo h1 s hs)
 ·rcases uY with h | ⟨h1,_⟩ | ⟨h1,h2,h3⟩
  ·obtain⟨t,ht,hf⟩:=Pd h;exact absurd hf (so t ht)
  ·obtain⟨s,hs,MJ⟩:=Nn h1;exact absurd MJ (hnb s hs)
  ·exact⟨h2.symm,h3.symm,h1.symm⟩
def Mc(ns t:List Nat)(s:Nat):Bool:=key ns s != 0 && (aE ns s).isPrefixOf t
def Mj(ns t:List Nat)(s:Nat):Bool:=key ns s != 0 && t.isPrefixOf (aE ns s)
def aT(ns t:List Nat):Nat×Nat×Nat:=
 match (List.range ns.length).find? (Mc ns t) with
 | some s=>(s,key ns s,0)
 | none=>if (List.range ns.length).any (Mj ns t)=true then(0,0,10) else(0,0,32)
theorem qH(ns t:List Nat)(s:Nat):Mc ns t s=true↔B7 ns t s:=by simp[Mc,B7,List.isPrefixOf_iff_prefix]
theorem xX(ns t:List Nat)(s:Nat):Mj ns t s=true↔Mp ns t s:=by simp[Mj,Mp,List.isPrefixOf_iff_prefix]
theorem jg(ns t:List Nat):RNext ns t (aT ns t).1 (aT ns t).2.1 (aT ns t).2.2:=by
 unfold aT;split
 ·rename_i s h;rw[List.find?_range_eq_some]at h;obtain⟨h1,h2,h3⟩:=h;refine .inl ⟨rfl,by simpa using h2,(qH ns t s).1 h1,rfl,λj hj hf=>?_⟩;have:=h3 j hj;rw[(qH ns t j).2 hf]at this;cases this
 ·rename_i h;rw[List.find?_range_eq_none]at h;have so:∀s,s<ns.length->¬B7 ns t s:=λs hs hf=>by
   have:=h s hs;rw[(qH ns t s).2 hf]at this;cases this
  split
  ·rename_i h2;obtain⟨s,hs,hb⟩:=List.any_eq_true.1 h2;exact .inr (.inl ⟨rfl,rfl,rfl,so,s,by simpa using hs,(xX ns t s).1 hb⟩)
  ·rename_i h2;refine .inr (.inr ⟨rfl,rfl,rfl,so,λs hs hb=>h2 ?_⟩);exact List.any_eq_true.2 ⟨s,by simpa using hs,(xX ns t s).2 hb⟩
theorem RNext.one{ns t:List Nat}{a b c a' b' c':Nat}(h:RNext ns t a b c)(h':RNext ns t a' b' c'):a=a'/\b=b'/\c=c':=by
 rcases h with⟨rfl,h1,h2,rfl,h3⟩ | ⟨rfl,rfl,rfl,h1,h2⟩ | ⟨rfl,rfl,rfl,h1,h2⟩<;>rcases h' with⟨rfl,k1,k2,rfl,k3⟩ | ⟨rfl,rfl,rfl,k1,k2⟩ | ⟨rfl,rfl,rfl,k1,k2⟩
 ·have e:a=a':=by
   rcases Nat.lt_trichotomy a a' with h | h | h
   ·exact absurd h2 (k3 a h)
   ·exact h
   ·exact absurd k2 (h3 a' h)
  subst e;exact⟨rfl,rfl,rfl⟩
 ·exact absurd h2 (k1 a h1)
 ·exact absurd h2 (k1 a h1)
 ·exact absurd k2 (h1 a' k1)
 ·exact⟨rfl,rfl,rfl⟩
 ·obtain⟨s,hs,hb⟩:=h2;exact absurd hb (k2 s hs)
 ·exact absurd k2 (h1 a' k1)
 ·obtain⟨s,hs,hb⟩:=k2;exact absurd hb (h2 s hs)
 ·exact⟨rfl,rfl,rfl⟩
theorem wK{ns t:List Nat}{is k g:Nat}(h:RNext ns t is k g):aT ns t=(is,k,g):=by obtain⟨h1,h2,h3⟩:=(jg ns t).one h;exact Prod.ext h1 (Prod.ext h2 h3)
def j8(l:List Nat):Nat:=l.getD (l.length-1) 0
theorem Dv(l:List Nat)(h:0<l.length):j8 l∈l:=by
 have hl:l.length-1<l.length:=by omega
 have e:j8 l=l[l.length-1]:=by simp[j8,List.getD,hl]
 rw[e];exact List.getElem_mem _
def iC(s:Int×Int)(l:List Nat):Option (Nat×Nat):=
 if 0<=s.1/\s.1<=15/\s.2=0 then some (s.1.toNat,1)
 else if s.1=16/\0<=s.2/\s.2<=3/\0<l.length then some (j8 l,s.2.toNat+3)
 else if s.1=17/\0<=s.2/\s.2<=7 then some (0,s.2.toNat+3)
 else if s.1=18/\0<=s.2/\s.2<=127 then some (0,s.2.toNat+11)
 else none
theorem Gn{s:Int×Int}{l:List Nat}{v k:Nat}(h:iC s l=some (v,k))(hl:∀x∈l,x<=15):v<=15/\1<=k/\k<=138:=by
 unfold iC at h;split at h
 ·simp at h;omega
 ·split at h
  ·simp at h;obtain⟨rfl,rfl⟩:=h;rename_i _ h2;refine⟨?_,by omega,by omega⟩;exact hl _ (Dv l h2.2.2.2)
  ·split at h
   ·simp at h;omega
   ·split at h
    ·simp at h;omega
    ·cases h
def ez(l:List Nat)(s:Int×Int)(n:Nat):Option (List Nat):=
 match iC s l with
 | none=>none
 | some (v,k)=>if n<l.length+k then none else some (l++List.replicate k v)
theorem iA{l m:List Nat}{s:Int×Int}{n:Nat}(h:ez l s n=some m)(hl:∀x∈l,x<=15):l.length<m.length/\m.length<=n/\∀x∈m,x<=15:=by
 unfold ez at h;split at h
 ·cases h
 ·rename_i v k hs;have h1:=Gn hs hl;split at h
  ·cases h
  ·simp only[Option.some.injEq]at h;subst h;rw[List.length_append,List.length_replicate];refine⟨by omega,by omega,λx hx=>?_⟩;rcases List.mem_append.1 hx with hx | hx
   ·exact hl x hx
   ·have:=List.eq_of_mem_replicate hx;omega
def ij(n:Nat):List Nat->List (Int×Int)->Option (List Nat)
 | l,[]=>some l
 | l,s::r=>match ez l s n with
  | none=>none
  | some m=>ij n m r
def fd(n:Nat):List (Int×Int):=
 if 11<=n then(18,((min n 138-11:Nat):Int))::fd (n-min n 138)
 else if 3<=n then [(17,((n-3:Nat):Int))]else List.replicate n (0,0)
termination_by n
decreasing_by omega
def gP(v n:Nat):List (Int×Int):=
 if 3<=n then(16,((min n 6-3:Nat):Int))::gP v (n-min n 6)else List.replicate n ((v:Int),0)
termination_by n
decreasing_by omega
def eI(v n:Nat):List (Int×Int):=if v=0 then fd n else((v:Int),0)::gP v (n-1)
def bJ(v:Nat)(l:List Nat):Nat:=(l.takeWhile (λx=>decide (x=v))).length
theorem kP(v:Nat)(l:List Nat):bJ v l<=l.length:=by exact(List.takeWhile_prefix _).length_le
def ba:List Nat->List (Int×Int)
 | []=>[]
 | v::r=>eI v (1+bJ v r)++ba (r.drop (bJ v r))
termination_by l=>l.length
decreasing_by simp;omega
theorem gY(v:Nat)(r:List Nat):ba (v::r)=eI v (1+bJ v r)++ba (r.drop (bJ v r)):=by rw[ba]
def sP(zs:List Int):Except Nat (List (Int×Int)):=
 if zs.length<=316/\∀z∈zs,0<=z/\z<=15 then .ok (ba (zs.map Int.toNat))else .error 1
def dF(sym:Nat):Nat:=if sym=16 then 2 else if sym=17 then 3 else if sym=18 then 7 else 0
def aX(ls:List Nat)(c n:Nat):Nat:=n2 ((ls.drop c).take n)
def dg(ns ls:List Nat)(c:Nat):Except Nat ((Nat×Nat)×Nat):=
 if (aT ns (ls.drop c)).2.2≠0 then .error (aT ns (ls.drop c)).2.2
 else if ls.length<c+(aT ns (ls.drop c)).2.1+dF (aT ns (ls.drop c)).1 then .error 10
 else .ok (((aT ns (ls.drop c)).1,aX ls (c+(aT ns (ls.drop c)).2.1) (dF (aT ns (ls.drop c)).1)),c+(aT ns (ls.drop c)).2.1+dF (aT ns (ls.drop c)).1)
def bC(ns ls:List Nat)(N:Nat):Nat->List Nat->Nat->Except Nat (List Nat×Nat)
 | 0,l,c=>.ok (l,c)
 | f+1,l,c=>
  if N<=l.length then .ok (l,c)
  else match dg ns ls c with
   | .error e=>.error e
   | .ok (s,c')=>match ez l ((s.1:Int),(s.2:Int)) N with
    | none=>.error 41
    | some m=>bC ns ls N f m c'
def ord:List Nat:=[16,17,18,0,8,7,9,6,10,5,11,4,12,3,13,2,14,1,15]
def aM(ls:List Nat)(c:Nat):Nat->List Nat
 | 0=>List.replicate 19 0
 | i+1=>(aM ls c i).set (ord.getD i 0) (aX ls (c+3*i) 3)
theorem dt(ls:List Nat)(c i:Nat):(aM ls c i).length=19:=by
 induction i with
 | zero=>simp[aM]
 | succ i ih=>simp[aM,ih]
theorem bY(ls:List Nat)(h:∀b∈ls,b<2)(c n:Nat):aX ls c n<2 ^ n:=qT ls h c n
theorem nR(ls:List Nat)(h:∀b∈ls,b<2)(c i:Nat):∀x∈aM ls c i,x<=7:=by
 induction i with
 | zero=>intro x hx;have:=List.eq_of_mem_replicate hx;omega
 | succ i ih=>
  intro x hx;rcases List.mem_or_eq_of_mem_set hx with hx | rfl
  ·exact ih x hx
  ·have:=bY ls h (c+3*i) 3;omega
def b8(ls:List Nat)(a:Nat):Except Nat ((List Nat×List Nat)×Nat):=
 if ls.length<a+14 then .error 10
 else if 286<aX ls a 5+257\/30<aX ls (a+5) 5+1 then .error 40
 else if ls.length<a+14+3*(aX ls (a+10) 4+4)then .error 10
 else if bw (aM ls (a+14) (aX ls (a+10) 4+4))≠0 then .error (bw (aM ls (a+14) (aX ls (a+10) 4+4)))
 else match bC (aM ls (a+14) (aX ls (a+10) 4+4)) ls (aX ls a 5+257+(aX ls (a+5) 5+1)) (aX ls a 5+257+(aX ls (a+5) 5+1)) [] (a+14+3*(aX ls (a+10) 4+4)) with
  | .error e=>.error e
  | .ok (l,c)=>.ok ((l.take (aX ls a 5+257),l.drop (aX ls a 5+257)),c-a)
structure S5 where
 c:Nat
 out:List Nat
 e:Nat
def bR(l:List Nat):Bool:=l.any (λn=>n != 0)
def fixL:List Nat:=List.replicate 144 8++List.replicate 112 9++List.replicate 24 7++List.replicate 8 8
def fixD:List Nat:=List.replicate 32 5
def ep(ls:List Nat)(c:Nat):Except Nat ((List Nat×List Nat)×Nat):=
 match b8 ls c with
 | .error e=>.error (if e=10 then 55 else 52)
 | .ok ((l,d),n)=>if l.getD 256 0=0\/bw l≠0\/(bR d=true/\bw d≠0)then .error 52 else .ok ((l,d),n)
theorem gT(n:Nat)(h:11<=n):fd n=(18,((min n 138-11:Nat):Int))::fd (n-min n 138):=by rw[fd,if_pos h]
theorem g6(n:Nat)(h:n<11)(h3:3<=n):fd n=[(17,((n-3:Nat):Int))]:=by rw[fd,if_neg (by omega),if_pos h3]
theorem gZ(n:Nat)(h3:n<3):fd n=List.replicate n (0,0):=by rw[fd,if_neg (by omega),if_neg (by omega)]
theorem jo(v n:Nat)(h:3<=n):gP v n=(16,((min n 6-3:Nat):Int))::gP v (n-min n 6):=by rw[gP,if_pos h]
theorem jx(v n:Nat)(h:n<3):gP v n=List.replicate n ((v:Int),0):=by rw[gP,if_neg (by omega)]
theorem zT(n:Nat):(fd n).length<=n:=by
 induction n using Nat.strongRecOn with
 | ind n ih=>
  by_cases h:11<=n
  ·rw[gT n h,List.length_cons];have:=ih (n-min n 138) (by omega);omega
  ·by_cases h3:3<=n
   ·rw[g6 n (by omega) h3];simp;omega
   ·rw[gZ n (by omega)];simp
theorem AG(v n:Nat):(gP v n).length<=n:=by
 induction n using Nat.strongRecOn with
 | ind n ih=>
  by_cases h:3<=n
  ·rw[jo v n h,List.length_cons];have:=ih (n-min n 6) (by omega);omega
  ·rw[jx v n (by omega)];simp
theorem xK(v n:Nat)(h:1<=n):(eI v n).length<=n:=by
 unfold eI;split
 ·exact zT n
 ·rw[List.length_cons];have:=AG v (n-1);omega
theorem sK(l:List Nat):(ba l).length<=l.length:=by
 induction hn:l.length using Nat.strongRecOn generalizing l with
 | ind n ih=>
  cases l with
  | nil=>simp[ba]
  | cons v r=>
   rw[gY,List.length_append];have h1:=xK v (1+bJ v r) (by omega);have h2:=kP v r;have h3:=ih (r.drop (bJ v r)).length (by simp at hn ⊢;omega) _ rfl;simp at hn h3;omega
theorem sQ(v:Nat)(r:List Nat)(m:Nat)(h1:∀j (_:j<r.length),j<m->r[j]=v)(hm:m<=r.length)(h2:∀h:m<r.length,r[m]≠v):bJ v r=m:=by
 induction r generalizing m with
 | nil=>simp at hm;subst hm;rfl
 | cons a r ih=>
  cases m with
  | zero=>
   have:=h2 (by simp);simp at this;simp[bJ,this]
  | succ m=>
   have ha:=h1 0 (by simp) (by omega);simp at ha;have h3:=ih m (λj hj UB=>h1 (j+1) (by simpa using hj) (by omega)) (by simpa using hm) (λh=>h2 (by simpa using h));unfold bJ at h3 ⊢;rw[List.takeWhile_cons,if_pos (by simp[ha]),List.length_cons,h3]
theorem yV(v:Nat)(r:List Nat)(j:Nat)(hj:j<r.length)(h:j<bJ v r):r[j]=v:=by
 induction r generalizing j with
 | nil=>simp at hj
 | cons a r ih=>
  unfold bJ at h;rw[List.takeWhile_cons]at h;by_cases ha:a=v
  ·cases j with
   | zero=>simpa using ha
   | succ j=>
    rw[if_pos (by simp[ha]),List.length_cons]at h;simpa using ih j (by simpa using hj) (by unfold bJ;omega)
  ·rw[if_neg (by simp[ha])]at h;simp at h
theorem xx(v:Nat)(r:List Nat):v::r=List.replicate (1+bJ v r) v++r.drop (bJ v r):=by
 have h:=kP v r;rw[Nat.add_comm,List.replicate_succ,List.cons_append];congr 1;have e:r.take (bJ v r)=List.replicate (bJ v r) v:=by refine List.ext_getElem (by simp;omega) (λj h1 h2=>?_);simp at h1;rw[List.getElem_take,List.getElem_replicate,yV v r j (by omega) (by omega)]
 rw[<-e,List.take_append_drop]
theorem i7{l:List Nat}{s:Int×Int}{n v k:Nat}(h:iC s l=some (v,k))(hf:l.length+k<=n):ez l s n=some (l++List.replicate k v):=by unfold ez;rw[h];simp only;rw[if_neg (by omega)]
theorem xl(n:Nat)(l:List Nat)(ss tt:List (Int×Int)):ij n l (ss++tt)=(ij n l ss).bind (λm=>ij n m tt):=by
 induction ss generalizing l with
 | nil=>rfl
 | cons a r ih=>
  simp only[List.cons_append,ij];cases ez l a n with
  | none=>rfl
  | some m=>exact ih m
theorem Hd(n:Nat)(l:List Nat)(s:Int×Int):ij n l [s]=ez l s n:=by simp only[ij];cases ez l s n<;>rfl
theorem qn(v:Nat)(l:List Nat)(h:v<=15):iC ((v:Int),0) l=some (v,1):=by unfold iC;rw[if_pos ⟨by omega,by simp only;omega,rfl⟩];simp
theorem pU(n v k:Nat)(l:List Nat)(h:v<=15)(hf:l.length+k<=n):ij n l (List.replicate k ((v:Int),0))=some (l++List.replicate k v):=by
 induction k generalizing l with
 | zero=>simp[ij]
 | succ k ih=>
  rw[List.replicate_succ,ij,i7 (qn v l h) (by omega)];simp only;rw[ih _ (by simp;omega),List.append_assoc,List.replicate_append_replicate,Nat.add_comm]
theorem y9(n m:Nat)(l:List Nat)(hf:l.length+m<=n):ij n l (fd m)=some (l++List.replicate m 0):=by
 induction m using Nat.strongRecOn generalizing l with
 | ind m ih=>
  by_cases h:11<=m
  ·rw[gT m h,ij];have hs:iC (18,((min m 138-11:Nat):Int)) l=some (0,min m 138):=by
    unfold iC;rw[if_neg (by simp),if_neg (by simp),if_neg (by simp),if_pos ⟨rfl,by omega,by omega⟩];simp;omega
   rw[i7 hs (by omega)];simp only;rw[ih (m-min m 138) (by omega) _ (by simp;omega),List.append_assoc,List.replicate_append_replicate,show min m 138+(m-min m 138)=m by omega]
  ·by_cases h3:3<=m
   ·rw[g6 m (by omega) h3,Hd];have hs:iC (17,((m-3:Nat):Int)) l=some (0,m):=by
     unfold iC;rw[if_neg (by simp),if_neg (by simp),if_pos ⟨rfl,by omega,by omega⟩];simp;omega
    exact i7 hs hf
   ·rw[gZ m (by omega)];exact pU n 0 m l (by omega) hf
theorem AK(n v m:Nat)(l:List Nat)(h15:v<=15)(hl:0<l.length)(hv:j8 l=v)(hf:l.length+m<=n):ij n l (gP v m)=some (l++List.replicate m v):=by
 induction m using Nat.strongRecOn generalizing l with
 | ind m ih=>
  by_cases h:3<=m
  ·rw[jo v m h,ij];have hs:iC (16,((min m 6-3:Nat):Int)) l=some (v,min m 6):=by
    unfold iC;rw[if_neg (by simp),if_pos ⟨rfl,by omega,by omega,hl⟩,hv];simp;omega
   rw[i7 hs (by omega)];simp only;have cw:j8 (l++List.replicate (min m 6) v)=v:=by
    have hk:0<min m 6:=(by omega);generalize min m 6=k at hk ⊢;obtain⟨k,rfl⟩:∃j,k=j+1:=⟨k-1,by omega⟩
    unfold j8;rw[List.replicate_succ',<-List.append_assoc];simp
   rw[ih (m-min m 6) (by omega) _ (by simp;omega) cw (by simp;omega),List.append_assoc,List.replicate_append_replicate,show min m 6+(m-min m 6)=m by omega]
  ·rw[jx v m (by omega)];exact pU n v m l h15 hf
theorem Gt(n v m:Nat)(l:List Nat)(h15:v<=15)(hm:1<=m)(hf:l.length+m<=n):ij n l (eI v m)=some (l++List.replicate m v):=by
 unfold eI;split
 ·rename_i h0;subst h0;exact y9 n m l hf
 ·rw[ij,i7 (qn v l h15) (by omega)];simp only;have cw:j8 (l++List.replicate 1 v)=v:=(by simp[j8]);rw[AK n v (m-1) _ h15 (by simp) cw (by simp;omega),List.append_assoc,List.replicate_append_replicate,show 1+(m-1)=m by omega]
theorem DN(n:Nat)(r:List Nat)(l:List Nat)(h15:∀x∈r,x<=15)(hf:l.length+r.length<=n):ij n l (ba r)=some (l++r):=by
 induction hn:r.length using Nat.strongRecOn generalizing r l with
 | ind k ih=>
  cases r with
  | nil=>simp[ba,ij]
  | cons v r=>
   have WK:=kP v r;rw[gY,xl,Gt n v _ l (h15 v (by simp)) (by omega) (by simp at hf;omega)];simp only[Option.bind_some];rw[ih (r.drop (bJ v r)).length (by simp at hn ⊢;omega) _ _ (λx hx=>h15 x (List.mem_cons_of_mem _ (List.mem_of_mem_drop hx))) (by simp at hf ⊢;omega) rfl,List.append_assoc,<-xx]
end Go.Proofs.YtkhagfgineifhaaGreatDoor
namespace Go.Proofs.YtkhagfgineifhaaGreatDoor
open Go.RowKit
def km(s:Int×Int):List Value:=[.int .i64 s.1,.int .i64 s.2]
theorem stC_ok:dJ km 2:=⟨λ_=>rfl,λx u hu=>by simp[km]at hu;rcases hu with rfl | rfl<;>rfl,by decide⟩
abbrev fN(B:Nat):=RowC B 226 2 km
abbrev StSrc:=@SrcC (Int×Int) 2 km
theorem Tryz.infoSt:(Tryz.prog.info? 226).map (λi=>(i.zero,i.size,i.bytes))=some (some (.agg #[.int .i64 0,.int .i64 0]),2,16):=by kernel_rfl
theorem kt(w:World)(x y:Int):aS (w.alloc (.cells #[.int .i64 x,.int .i64 y] 226)) ⟨w.heap.size,0,none⟩ ([(x,y)].flatMap km):=by
 intro j u hu
 match j,hu with
 | 0,hu=>simp[km]at hu;subst hu;simp[cf]
 | 1,hu=>simp[km]at hu;subst hu;simp[cf]
 | j+2,hu=>simp[km]at hu
theorem ea{ops:Array Oper}{rest:List Oper}{o:Oper}{a:Act}{Q:Exit→Act→World→Prop}(w:World)(B:Nat)(jS:o.guard=none)(s x:Operand)
  (ho:o.op=.call {callee:=.builtin .append,args:=#[s,x],argTypes:=#[180,180]})
  (v:Value) (ss:List (Int×Int)) (hs:a.eval s=v) (hrow:fN B w v ss) (ad:Addr) (y:Int×Int) (hx:a.eval x=.slice (some ad) 1 1) (eY:aS w ad ([y].flatMap km)) (ag:ss.length+1<=1000000000) (hB:B<=w.heap.size)
  (h:∀v' w',fN B w' v' (ss++[y])->w.grownBy w' v.ownBlock->wpList Tryz.prog ops Q rest (a.put o.dst v') w'):wpList Tryz.prog ops Q (o::rest) a w:=
 dW w km 2 stC_ok (by decide) B 180 226 (.agg #[.int .i64 0,.int .i64 0]) 16 Tryz.underlying180 Tryz.infoSt rfl (by decide) jS s x ho v ss hs hrow ad 1 1 [y] hx rfl eY ag hB h
abbrev jd(B:Nat)(k:Nat):Prop:=B<=k
def cG(zs:List Int):Bool:=!(zs.any (d6 0 15))
theorem fh(zs:List Int):cG zs=true↔∀z∈zs,0<=z/\z<=15:=by
 simp only[cG,Bool.not_eq_true',List.any_eq_false,d6];constructor
 ·intro h z hz;have:=h z hz;simp at this;omega
 ·intro h z hz;have:=h z hz;simp;omega
theorem zh(ns:List Nat)(i n:Nat)(hi:i<ns.length)(hn:n=1+bJ ns[i] (ns.drop (i+1))):ba (ns.drop i)=eI ns[i] n++ba (ns.drop (i+n)):=by rw[List.drop_eq_getElem_cons hi,gY,List.drop_drop,hn];congr 3;omega
def Od(w w':World)(e:Ending):Except Nat (List (Int×Int))->Prop
 | .error c=>e=.returned (.tuple #[.slice none 0 0,.int .i64 (c:Nat)])/\Same w w'
 | .ok ss=>∃v',e=.returned (.tuple #[v',.int .i64 0])/\fN w.heap.size w' v' ss/\Same w w'
theorem qA{zs:List Int}(h1:zs.length<=316)(h2:cG zs=true):sP zs=.ok (ba (zs.map Int.toNat)):=by unfold sP;rw[if_pos ⟨h1,(fh zs).1 h2⟩]
theorem Eo{zs:List Int}(h:316<zs.length\/cG zs=false):sP zs=.error 1:=by
 unfold sP;rw[if_neg];rintro⟨h1,h2⟩;rcases h with h | h
 ·omega
 ·rw[(fh zs).2 h2]at h;cases h
def G4(a b:List Int):Bool:=decide (257<=a.length) && decide (a.length<=286) && decide (1<=b.length) && decide (b.length<=30) && cG a && cG b
theorem StSrc.get{w:World}{I:Nat->Prop}{ao:Option Addr}{n cap:Nat}{ss:List (Int×Int)}(h:StSrc w I (.slice ao n cap) ss)(i:Nat)(hi:i<ss.length):∃b o,ao=some ⟨b,o,none⟩/\I b/\w.cell? ⟨b,o+i*2,none⟩=some (.int .i64 ss[i].1)/\w.cell? ⟨b,o+i*2+1,none⟩=some (.int .i64 ss[i].2):=by obtain⟨ao',cap',e1,_,e2⟩:=h;injection e1 with e3 _ _;subst e3;obtain⟨b,o,e4,hI,e5⟩:=e2 (by intro e;rw[e]at hi;simp at hi);exact⟨b,o,e4,hI,e5 i hi 0 (by decide),e5 i hi 1 (by decide)⟩
end Go.Proofs.YtkhagfgineifhaaGreatDoor
