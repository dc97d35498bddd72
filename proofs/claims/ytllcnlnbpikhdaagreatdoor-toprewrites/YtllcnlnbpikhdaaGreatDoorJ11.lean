import Derived.Test.YtllcnlnbpikhdaaGreatDoorJ9
import Derived.Test.YtllcnlnbpikhdaaGreatDoorJ10
namespace Go.Proofs.YtllcnlnbpikhdaaGreatDoor
open Go.RowKit
def wN:Nat->Nat->List Nat
 | 0,_=>[]
 | n+1,c=>wN n (c / 2)++[c % 2]
theorem ow(n c:Nat):(wN n c).length=n:=by
 induction n generalizing c with
 | zero=>rfl
 | succ n ih=>simp[wN,ih]
theorem Jo(n c:Nat):n2 (wN n c)=rv n c:=by
 induction n generalizing c with
 | zero=>rfl
 | succ n ih=>
  simp only[wN,rv];rw[dj,ih,ow];simp[n2,Nat.mul_comm];omega
theorem EK(n c:Nat):∀b∈wN n c,b<2:=by
 induction n generalizing c with
 | zero=>simp[wN]
 | succ n ih=>
  intro b hb;rcases List.mem_append.1 hb with hb | hb
  ·exact ih _ b hb
  ·have:b=c % 2:=(by simpa using hb);omega
end Go.Proofs.YtllcnlnbpikhdaaGreatDoor
namespace Go.Proofs.YtllcnlnbpikhdaaGreatDoor
theorem pW(a b:List Nat)(hl:a.length=b.length)(ha:∀x∈a,x<2)(hb:∀x∈b,x<2)(h:n2 a=n2 b):a=b:=by
 induction a generalizing b with
 | nil=>cases b with
  | nil=>rfl
  | cons y r=>simp at hl
 | cons x l ih=>cases b with
  | nil=>simp at hl
  | cons y r=>
   have hx:=ha x (by simp);have hy:=hb y (by simp);simp only[n2]at h;have e1:x=y:=(by omega);have e2:n2 l=n2 r:=(by omega);rw[e1,ih r (by simpa using hl) (λz hz=>ha z (by simp[hz])) (λz hz=>hb z (by simp[hz])) e2]
theorem ve{ns:List Nat}{s:Nat}(hm:measure ns<=32768)(hs:s∈aD ns)(h15:key ns s<=15):dy ns s<2 ^ key ns s:=by
 obtain⟨k,hk,rfl,a1,a2⟩:=j0 hs;have h1:=lK ns (k+1);have h2:=je ns (aD ns)[k];have h3:(dy ns (aD ns)[k]+1)*2 ^ (15-key ns (aD ns)[k])<=2 ^ key ns (aD ns)[k]*2 ^ (15-key ns (aD ns)[k]):=by rw[<-Nat.pow_add,show key ns (aD ns)[k]+(15-key ns (aD ns)[k])=15 by omega,Nat.add_mul,Nat.one_mul];have:(2:Nat) ^ 15=32768:=(by decide);omega
 have:=Nat.le_of_mul_le_mul_right h3 (Nat.two_pow_pos _);omega
def aE(ns:List Nat)(s:Nat):List Nat:=wN (key ns s) (dy ns s)
def Bw(ns t:List Nat)(s:Nat):Prop:=key ns s≠0/\aE ns s <+: t
def Lf(ns t:List Nat)(s:Nat):Prop:=key ns s≠0/\t <+: aE ns s
def RNext(ns t:List Nat)(is k g:Nat):Prop:=
 (g=0/\is<ns.length/\Bw ns t is/\k=key ns is/\∀s,s<is->¬Bw ns t s) \/
 (g=10/\is=0/\k=0/\(∀s,s<ns.length->¬Bw ns t s)/\∃s,s<ns.length/\Lf ns t s) \/
 (g=32/\is=0/\k=0/\(∀s,s<ns.length->¬Bw ns t s)/\∀s,s<ns.length->¬Lf ns t s)
theorem aw(ns:List Nat)(s:Nat):(aE ns s).length=key ns s:=ow _ _
theorem gu(ns:List Nat)(s:Nat):n2 (aE ns s)=rv (key ns s) (dy ns s):=Jo _ _
theorem cU(ns:List Nat)(s:Nat):∀b∈aE ns s,b<2:=EK _ _
theorem pe(bs:List Nat)(hb:∀b∈bs,b<256)(c n:Nat)(h:c+n<=8*bs.length):n2 (((ae bs).drop c).take n)=aN bs / 2 ^ c % 2 ^ n:=by rw[Bh (ae bs) (az bs) c n (by rw[aq];exact h),pD bs hb]
theorem ke(bs:List Nat)(c:Nat):((ae bs).drop c).length=8*bs.length-c:=by rw[List.length_drop,aq]
theorem AM{ns:List Nat}{s:Nat}(hm:measure ns≤32768)(hs:s∈aD ns)(h15:key ns s≤15)(bs:List Nat)(hb:∀b∈bs,b<256)(c:Nat)(hc:c≤8*bs.length):
  Bw ns ((ae bs).drop c) s↔key ns s<=8*bs.length-c/\rv (key ns s) (aN bs / 2 ^ c)=dy ns s:=by
 have ag:=ke bs c;have fq:=ve hm hs h15;unfold Bw;rw[List.prefix_iff_eq_take,aw];constructor
 ·rintro⟨_,h⟩;have hl:=congrArg List.length h;rw[aw,List.length_take,ag]at hl;have hk:key ns s<=8*bs.length-c:=(by omega);refine⟨hk,?_⟩;have h2:=congrArg n2 h;rw[gu,pe bs hb c _ (by omega)]at h2;rw[<-lI (key ns s) (key ns s) _ (Nat.le_refl _),<-h2,wH,Nat.mod_eq_of_lt fq]
 ·rintro⟨hk,h⟩;refine⟨(aU.1 hs).2,?_⟩;refine pW _ _ (by rw[aw,List.length_take,ag];omega) (cU ns s) (λx hx=>az bs x (List.mem_of_mem_drop (List.mem_of_mem_take hx))) ?_;rw[gu,pe bs hb c _ (by omega),<-h,wH]
theorem K3{ns:List Nat}{s:Nat}(hs:s∈aD ns)(bs:List Nat)(hb:∀b∈bs,b<256)(c:Nat)(hc:c<=8*bs.length)(hk:8*bs.length-c<key ns s)(h:rv (key ns s) (aN bs / 2 ^ c)=dy ns s)(hZ:aN bs / 2 ^ c<2 ^ (8*bs.length-c)):Lf ns ((ae bs).drop c) s:=by
 refine⟨(aU.1 hs).2,?_⟩;have ag:=ke bs c;have e:aE ns s=(ae bs).drop c++List.replicate (key ns s-(8*bs.length-c)) 0:=by
  refine pW _ _ (by rw[aw,List.length_append,ag,List.length_replicate];omega) (cU ns s) ?_ ?_
  ·intro x hx;rcases List.mem_append.1 hx with hx | hx
   ·exact az bs x (List.mem_of_mem_drop hx)
   ·have:=List.eq_of_mem_replicate hx;omega
  ·have h1:=pe bs hb c (8*bs.length-c) (by omega);rw[List.take_of_length_le (by omega),Nat.mod_eq_of_lt hZ]at h1;rw[pX,h1,gu,<-h,wH,Nat.mod_eq_of_lt (Nat.lt_of_lt_of_le hZ (Nat.pow_le_pow_right (by omega) (by omega)))]
 rw[e];exact List.prefix_append _ _
theorem zJ(ns:List Nat)(X n:Nat)(hn:n<=(aD ns).length)(h:X<b6 ns n):∃k,k<n/\b6 ns k<=X/\X<b6 ns (k+1):=by
 induction n with
 | zero=>simp[b6]at h
 | succ n ih=>
  by_cases h1:X<b6 ns n
  ·obtain⟨k,hk,h2⟩:=ih (by omega) h1;exact⟨k,by omega,h2⟩
  ·exact⟨n,by omega,by omega,h⟩
theorem EG{ns:List Nat}(hu:(aD ns).length=1)(hm:measure ns=16384)(h15:∀s,key ns s<=15):iu ns<=1:=by
 rcases(kn ns 0).2.2 with h | h
 ·unfold iu;omega
 ·obtain⟨s,hs,e⟩:=List.getElem_of_mem h;have ek:key ns s=iu ns:=(by rw[aY hs];exact e);by_cases h0:iu ns=0
  ·omega
  ·have hr:s∈aD ns:=aU.2 ⟨hs,by omega⟩;obtain⟨k,hk,rfl,a1,a2⟩:=j0 hr;have hk0:k=0:=(by omega);subst hk0;have h1:=kE ns;rw[hu]at h1;have h2:b6 ns 0=0:=(by simp[b6]);have h3:2 ^ (15-key ns (aD ns)[0])=16384:=by
    have:b6 ns (0+1)=measure ns:=h1;omega
   have h4:=h15 (aD ns)[0];refine Classical.byContradiction (λhc=>?_);have h5:2 ^ (15-key ns (aD ns)[0])<=2 ^ 13:=Nat.pow_le_pow_right (by omega) (by omega);have h6:(2:Nat) ^ 13=8192:=(by decide);omega
theorem yK(ns:List Nat):dB ns=(aD ns).length:=by
 have h:∀i,i<=ns.length->dB (ns.take i)=(cV ns i).length:=by
  intro i
  induction i with
  | zero=>intro _;simp[dB,cV]
  | succ i ih=>
   intro hi;rw[List.take_succ_eq_append_getElem (by omega),qP,ih (by omega),fG,List.length_append,<-aY (by omega)];by_cases h:key ns i=0<;>simp[h]
 have h2:=h ns.length (Nat.le_refl _);rw[List.take_length]at h2;rw[h2,(fA ns).length_eq];rfl
theorem Dq{zs:List Int}{ns:List Nat}(hg:Good zs ns)(bs:List Nat)(hb:∀b∈bs,b<256)(c:Nat)(hc:c≤8*bs.length)(hZ:aN bs / 2 ^ c<2 ^ (8*bs.length-c)){sym long er is k g:Nat}
  (ha:Ans ns (min (8*bs.length-c) (iu ns)) (aN bs / 2 ^ c % 2 ^ (min (8*bs.length-c) (iu ns))) sym long er) (hr:RNext ns ((ae bs).drop c) is k g):is=sym/\k=long/\g=er:=by
 have h15:=hg.key_le;have hm:=hg.measure_le;have rn:iu ns<=15:=xQ ns 15 hg.le;have ag:=ke bs c;have KP:∀s,s<ns.length->Bw ns ((ae bs).drop c) s->er=0/\sym=s/\long=key ns s:=by intro s hs hf;have hsr:s∈aD ns:=aU.2 ⟨hs,hf.1⟩;obtain⟨h1,h2⟩:=(AM hm hsr (h15 s) bs hb c hc).1 hf;exact Ans.unique h15 hZ ha rn hsr h1 h2
 have Od:er=0->∃s,s<ns.length/\Bw ns ((ae bs).drop c) s:=by
  intro e0;rcases ha with⟨_,hs,BS,md,NO⟩ | ⟨e,_⟩ | ⟨e,_⟩
  ·refine⟨sym,(aU.1 hs).1,(AM hm hs (h15 sym) bs hb c hc).2 ⟨by omega,?_⟩⟩;rw[lI _ _ _ md,BS]at NO;exact NO
  ·omega
  ·omega
 have LD:er=10->∃s,s<ns.length/\Lf ns ((ae bs).drop c) s:=by
  intro RW;rcases ha with⟨e,_⟩ | ⟨_,_,_,hlt,yh⟩ | ⟨e,_⟩
  ·omega
  ·have o7:min (8*bs.length-c) (iu ns)=8*bs.length-c:=(by omega);rw[o7,lI _ _ _ (Nat.le_refl _),<-zW _ 15 _ hZ (by omega)]at yh;rw[o7]at hlt;have hX:rv 15 (aN bs / 2 ^ c)<measure ns:=by
    have hk:=hg.ok;unfold bm at hk;have Eg:rv 15 (aN bs / 2 ^ c)<32768:=EM 15 _;split at hk
    ·omega
    ·split at hk
     ·omega
     ·split at hk
      ·rename_i _ _ h3;have h4:=EG (by rw[<-yK];exact h3.1) h3.2 h15;have h5:8*bs.length-c=0:=(by omega);rw[zW _ 15 _ hZ (by omega),h5];simp[rv,h3.2]
      ·omega
   rw[<-kE]at hX;obtain⟨i,hi,h1,h2⟩:=zJ ns _ _ (Nat.le_refl _) hX;have fM:(aD ns)[i]∈aD ns:=List.getElem_mem hi;have hkey:8*bs.length-c<key ns (aD ns)[i]:=by refine Classical.byContradiction (λhcon=>?_);have h3:=(gj ns (8*bs.length-c) i hi).1 (by omega);have h4:=my (ns:=ns) (show i+1<=oS ns (8*bs.length-c)from h3);omega
   refine⟨(aD ns)[i],(aU.1 fM).1,K3 fM bs hb c hc hkey ?_ hZ⟩;refine(mr fM (h15 _)).2 ?_;rw[kd ns i hi];have h5:=jg ns i hi;rw[uk,ep,if_neg (aU.1 fM).2]at h5;omega
  ·omega
 have NH:er=32->∀s,s<ns.length->¬Lf ns ((ae bs).drop c) s:=by
  intro X4 s hs LQ;rcases ha with⟨e,_⟩ | ⟨e,_⟩ | ⟨_,_,_,hh,_⟩
  ·omega
  ·omega
  ·have h1:=LQ.2.length_le;rw[aw,ag]at h1;have h2:=iZ ns s;have e1:(ae bs).drop c=aE ns s:=LQ.2.eq_of_length (by rw[aw,ag];omega);have h3:=KP s hs ⟨LQ.1,by rw[e1];exact List.prefix_refl _⟩;omega
 have He:er=0\/(er=10/\sym=0/\long=0)\/(er=32/\sym=0/\long=0):=by
  rcases ha with⟨e,_⟩ | ⟨e,e1,e2,_⟩ | ⟨e,e1,e2,_⟩
  ·exact .inl e
  ·exact .inr (.inl ⟨e,e1,e2⟩)
  ·exact .inr (.inr ⟨e,e1,e2⟩)
 rcases hr with⟨rfl,hi,hf,rfl,_⟩ | ⟨rfl,rfl,rfl,rE,⟨s,hs,LQ⟩⟩ | ⟨rfl,rfl,rfl,rE,hnb⟩
 ·obtain⟨h1,h2,h3⟩:=KP is hi hf;exact⟨h2.symm,h3.symm,h1.symm⟩
 ·rcases He with h | ⟨h1,h2,h3⟩ | ⟨h1,_⟩
  ·obtain⟨t,ht,hf⟩:=Od h;exact absurd hf (rE t ht)
  ·exact⟨h2.symm,h3.symm,h1.symm⟩
  ·exact absurd LQ (NH h1 s hs)
 ·rcases He with h | ⟨h1,_⟩ | ⟨h1,h2,h3⟩
  ·obtain⟨t,ht,hf⟩:=Od h;exact absurd hf (rE t ht)
  ·obtain⟨s,hs,LQ⟩:=LD h1;exact absurd LQ (hnb s hs)
  ·exact⟨h2.symm,h3.symm,h1.symm⟩
def Lr(ns t:List Nat)(s:Nat):Bool:=key ns s != 0 && (aE ns s).isPrefixOf t
def Le(ns t:List Nat)(s:Nat):Bool:=key ns s != 0 && t.isPrefixOf (aE ns s)
def aS(ns t:List Nat):Nat×Nat×Nat:=
 match (List.range ns.length).find? (Lr ns t) with
 | some s=>(s,key ns s,0)
 | none=>if (List.range ns.length).any (Le ns t)=true then(0,0,10) else(0,0,32)
theorem qu(ns t:List Nat)(s:Nat):Lr ns t s=true↔Bw ns t s:=by simp[Lr,Bw,List.isPrefixOf_iff_prefix]
theorem xF(ns t:List Nat)(s:Nat):Le ns t s=true↔Lf ns t s:=by simp[Le,Lf,List.isPrefixOf_iff_prefix]
theorem i9(ns t:List Nat):RNext ns t (aS ns t).1 (aS ns t).2.1 (aS ns t).2.2:=by
 unfold aS;split
 ·rename_i s h;rw[List.find?_range_eq_some]at h;obtain⟨h1,h2,h3⟩:=h;refine .inl ⟨rfl,by simpa using h2,(qu ns t s).1 h1,rfl,λj hj hf=>?_⟩;have:=h3 j hj;rw[(qu ns t j).2 hf]at this;cases this
 ·rename_i h;rw[List.find?_range_eq_none]at h;have rE:∀s,s<ns.length->¬Bw ns t s:=λs hs hf=>by
   have:=h s hs;rw[(qu ns t s).2 hf]at this;cases this
  split
  ·rename_i h2;obtain⟨s,hs,hb⟩:=List.any_eq_true.1 h2;exact .inr (.inl ⟨rfl,rfl,rfl,rE,s,by simpa using hs,(xF ns t s).1 hb⟩)
  ·rename_i h2;refine .inr (.inr ⟨rfl,rfl,rfl,rE,λs hs hb=>h2 ?_⟩);exact List.any_eq_true.2 ⟨s,by simpa using hs,(xF ns t s).2 hb⟩
theorem RNext.one{ns t:List Nat}{a b c a' b' c':Nat}(h:RNext ns t a b c)(h':RNext ns t a' b' c'):a=a'/\b=b'/\c=c':=by
 rcases h with⟨rfl,h1,h2,rfl,h3⟩ | ⟨rfl,rfl,rfl,h1,h2⟩ | ⟨rfl,rfl,rfl,h1,h2⟩<;>rcases h' with⟨rfl,k1,k2,rfl,k3⟩ | ⟨rfl,rfl,rfl,k1,k2⟩ | ⟨rfl,rfl,rfl,k1,k2⟩
 ·have e:a=a':=by
   rcases Nat.lt_trichotomy a a' with h | h | h
   ·exact absurd h2 (k3 a h)
   ·exact h
   ·exact absurd k2 (h3 a' h)
  subst e;exact⟨rfl,rfl,rfl⟩
 ·exact absurd h2 (k1 a h1)
 ·exact absurd h2 (k1 a h1)
 ·exact absurd k2 (h1 a' k1)
 ·exact⟨rfl,rfl,rfl⟩
 ·obtain⟨s,hs,hb⟩:=h2;exact absurd hb (k2 s hs)
 ·exact absurd k2 (h1 a' k1)
 ·obtain⟨s,hs,hb⟩:=k2;exact absurd hb (h2 s hs)
 ·exact⟨rfl,rfl,rfl⟩
theorem vn{ns t:List Nat}{is k g:Nat}(h:RNext ns t is k g):aS ns t=(is,k,g):=by obtain⟨h1,h2,h3⟩:=(i9 ns t).one h;exact Prod.ext h1 (Prod.ext h2 h3)
def jO(l:List Nat):Nat:=l.getD (l.length-1) 0
theorem CH(l:List Nat)(h:0<l.length):jO l∈l:=by
 have hl:l.length-1<l.length:=by omega
 have e:jO l=l[l.length-1]:=by simp[jO,List.getD,hl]
 rw[e];exact List.getElem_mem _
def ij(s:Int×Int)(l:List Nat):Option (Nat×Nat):=
 if 0<=s.1/\s.1<=15/\s.2=0 then some (s.1.toNat,1)
 else if s.1=16/\0<=s.2/\s.2<=3/\0<l.length then some (jO l,s.2.toNat+3)
 else if s.1=17/\0<=s.2/\s.2<=7 then some (0,s.2.toNat+3)
 else if s.1=18/\0<=s.2/\s.2<=127 then some (0,s.2.toNat+11)
 else none
theorem Fh{s:Int×Int}{l:List Nat}{v k:Nat}(h:ij s l=some (v,k))(hl:∀x∈l,x<=15):v<=15/\1<=k/\k<=138:=by
 unfold ij at h;split at h
 ·simp at h;omega
 ·split at h
  ·simp at h;obtain⟨rfl,rfl⟩:=h;rename_i _ h2;refine⟨?_,by omega,by omega⟩;exact hl _ (CH l h2.2.2.2)
  ·split at h
   ·simp at h;omega
   ·split at h
    ·simp at h;omega
    ·cases h
def et(l:List Nat)(s:Int×Int)(n:Nat):Option (List Nat):=
 match ij s l with
 | none=>none
 | some (v,k)=>if n<l.length+k then none else some (l++List.replicate k v)
theorem ie{l m:List Nat}{s:Int×Int}{n:Nat}(h:et l s n=some m)(hl:∀x∈l,x<=15):l.length<m.length/\m.length<=n/\∀x∈m,x<=15:=by
 unfold et at h;split at h
 ·cases h
 ·rename_i v k hs;have h1:=Fh hs hl;split at h
  ·cases h
  ·simp only[Option.some.injEq]at h;subst h;rw[List.length_append,List.length_replicate];refine⟨by omega,by omega,λx hx=>?_⟩;rcases List.mem_append.1 hx with hx | hx
   ·exact hl x hx
   ·have:=List.eq_of_mem_replicate hx;omega
def gY(n:Nat):List Nat->List (Int×Int)->Option (List Nat)
 | l,[]=>some l
 | l,s::r=>match et l s n with
  | none=>none
  | some m=>gY n m r
def eS(n:Nat):List (Int×Int):=
 if 11<=n then(18,((min n 138-11:Nat):Int))::eS (n-min n 138)
 else if 3<=n then [(17,((n-3:Nat):Int))]else List.replicate n (0,0)
termination_by n
decreasing_by omega
def gK(v n:Nat):List (Int×Int):=
 if 3<=n then(16,((min n 6-3:Nat):Int))::gK v (n-min n 6)else List.replicate n ((v:Int),0)
termination_by n
decreasing_by omega
def ej(v n:Nat):List (Int×Int):=if v=0 then eS n else((v:Int),0)::gK v (n-1)
def bG(v:Nat)(l:List Nat):Nat:=(l.takeWhile (λx=>decide (x=v))).length
theorem ks(v:Nat)(l:List Nat):bG v l<=l.length:=by exact(List.takeWhile_prefix _).length_le
def aZ:List Nat->List (Int×Int)
 | []=>[]
 | v::r=>ej v (1+bG v r)++aZ (r.drop (bG v r))
termination_by l=>l.length
decreasing_by simp;omega
theorem gG(v:Nat)(r:List Nat):aZ (v::r)=ej v (1+bG v r)++aZ (r.drop (bG v r)):=by rw[aZ]
def sK(zs:List Int):Except Nat (List (Int×Int)):=
 if zs.length<=316/\∀z∈zs,0<=z/\z<=15 then .ok (aZ (zs.map Int.toNat))else .error 1
def dC(sym:Nat):Nat:=if sym=16 then 2 else if sym=17 then 3 else if sym=18 then 7 else 0
def aW(ls:List Nat)(c n:Nat):Nat:=n2 ((ls.drop c).take n)
def df(ns ls:List Nat)(c:Nat):Except Nat ((Nat×Nat)×Nat):=
 if (aS ns (ls.drop c)).2.2≠0 then .error (aS ns (ls.drop c)).2.2
 else if ls.length<c+(aS ns (ls.drop c)).2.1+dC (aS ns (ls.drop c)).1 then .error 10
 else .ok (((aS ns (ls.drop c)).1,aW ls (c+(aS ns (ls.drop c)).2.1) (dC (aS ns (ls.drop c)).1)),c+(aS ns (ls.drop c)).2.1+dC (aS ns (ls.drop c)).1)
def bz(ns ls:List Nat)(N:Nat):Nat->List Nat->Nat->Except Nat (List Nat×Nat)
 | 0,l,c=>.ok (l,c)
 | f+1,l,c=>
  if N<=l.length then .ok (l,c)
  else match df ns ls c with
   | .error e=>.error e
   | .ok (s,c')=>match et l ((s.1:Int),(s.2:Int)) N with
    | none=>.error 41
    | some m=>bz ns ls N f m c'
def ord:List Nat:=[16,17,18,0,8,7,9,6,10,5,11,4,12,3,13,2,14,1,15]
def aL(ls:List Nat)(c:Nat):Nat->List Nat
 | 0=>List.replicate 19 0
 | i+1=>(aL ls c i).set (ord.getD i 0) (aW ls (c+3*i) 3)
theorem dk(ls:List Nat)(c i:Nat):(aL ls c i).length=19:=by
 induction i with
 | zero=>simp[aL]
 | succ i ih=>simp[aL,ih]
theorem bV(ls:List Nat)(h:∀b∈ls,b<2)(c n:Nat):aW ls c n<2 ^ n:=qj ls h c n
theorem nD(ls:List Nat)(h:∀b∈ls,b<2)(c i:Nat):∀x∈aL ls c i,x<=7:=by
 induction i with
 | zero=>intro x hx;have:=List.eq_of_mem_replicate hx;omega
 | succ i ih=>
  intro x hx;rcases List.mem_or_eq_of_mem_set hx with hx | rfl
  ·exact ih x hx
  ·have:=bV ls h (c+3*i) 3;omega
def bZ(ls:List Nat)(a:Nat):Except Nat ((List Nat×List Nat)×Nat):=
 if ls.length<a+14 then .error 10
 else if 286<aW ls a 5+257\/30<aW ls (a+5) 5+1 then .error 40
 else if ls.length<a+14+3*(aW ls (a+10) 4+4)then .error 10
 else if bm (aL ls (a+14) (aW ls (a+10) 4+4))≠0 then .error (bm (aL ls (a+14) (aW ls (a+10) 4+4)))
 else match bz (aL ls (a+14) (aW ls (a+10) 4+4)) ls (aW ls a 5+257+(aW ls (a+5) 5+1)) (aW ls a 5+257+(aW ls (a+5) 5+1)) [] (a+14+3*(aW ls (a+10) 4+4)) with
  | .error e=>.error e
  | .ok (l,c)=>.ok ((l.take (aW ls a 5+257),l.drop (aW ls a 5+257)),c-a)
structure S5 where
 c:Nat
 out:List Nat
 e:Nat
def bR(l:List Nat):Bool:=l.any (λn=>n != 0)
def fixL:List Nat:=List.replicate 144 8++List.replicate 112 9++List.replicate 24 7++List.replicate 8 8
def fixD:List Nat:=List.replicate 32 5
def ed(ls:List Nat)(c:Nat):Except Nat ((List Nat×List Nat)×Nat):=
 match bZ ls c with
 | .error e=>.error (if e=10 then 55 else 52)
 | .ok ((l,d),n)=>if l.getD 256 0=0\/bm l≠0\/(bR d=true/\bm d≠0)then .error 52 else .ok ((l,d),n)
theorem gt(n:Nat)(h:11<=n):eS n=(18,((min n 138-11:Nat):Int))::eS (n-min n 138):=by rw[eS,if_pos h]
theorem gQ(n:Nat)(h:n<11)(h3:3<=n):eS n=[(17,((n-3:Nat):Int))]:=by rw[eS,if_neg (by omega),if_pos h3]
theorem gC(n:Nat)(h3:n<3):eS n=List.replicate n (0,0):=by rw[eS,if_neg (by omega),if_neg (by omega)]
theorem jp(v n:Nat)(h:3<=n):gK v n=(16,((min n 6-3:Nat):Int))::gK v (n-min n 6):=by rw[gK,if_pos h]
theorem jq(v n:Nat)(h:n<3):gK v n=List.replicate n ((v:Int),0):=by rw[gK,if_neg (by omega)]
theorem yR(n:Nat):(eS n).length<=n:=by
 induction n using Nat.strongRecOn with
 | ind n ih=>
  by_cases h:11<=n
  ·rw[gt n h,List.length_cons];have:=ih (n-min n 138) (by omega);omega
  ·by_cases h3:3<=n
   ·rw[gQ n (by omega) h3];simp;omega
   ·rw[gC n (by omega)];simp
theorem yT(v n:Nat):(gK v n).length<=n:=by
 induction n using Nat.strongRecOn with
 | ind n ih=>
  by_cases h:3<=n
  ·rw[jp v n h,List.length_cons];have:=ih (n-min n 6) (by omega);omega
  ·rw[jq v n (by omega)];simp
theorem wX(v n:Nat)(h:1<=n):(ej v n).length<=n:=by
 unfold ej;split
 ·exact yR n
 ·rw[List.length_cons];have:=yT v (n-1);omega
theorem sk(l:List Nat):(aZ l).length<=l.length:=by
 induction hn:l.length using Nat.strongRecOn generalizing l with
 | ind n ih=>
  cases l with
  | nil=>simp[aZ]
  | cons v r=>
   rw[gG,List.length_append];have h1:=wX v (1+bG v r) (by omega);have h2:=ks v r;have h3:=ih (r.drop (bG v r)).length (by simp at hn ⊢;omega) _ rfl;simp at hn h3;omega
theorem sS(v:Nat)(r:List Nat)(m:Nat)(h1:∀j (_:j<r.length),j<m->r[j]=v)(hm:m<=r.length)(h2:∀h:m<r.length,r[m]≠v):bG v r=m:=by
 induction r generalizing m with
 | nil=>simp at hm;subst hm;rfl
 | cons a r ih=>
  cases m with
  | zero=>
   have:=h2 (by simp);simp at this;simp[bG,this]
  | succ m=>
   have ha:=h1 0 (by simp) (by omega);simp at ha;have h3:=ih m (λj hj Ti=>h1 (j+1) (by simpa using hj) (by omega)) (by simpa using hm) (λh=>h2 (by simpa using h));unfold bG at h3 ⊢;rw[List.takeWhile_cons,if_pos (by simp[ha]),List.length_cons,h3]
theorem yH(v:Nat)(r:List Nat)(j:Nat)(hj:j<r.length)(h:j<bG v r):r[j]=v:=by
 induction r generalizing j with
 | nil=>simp at hj
 | cons a r ih=>
  unfold bG at h;rw[List.takeWhile_cons]at h;by_cases ha:a=v
  ·cases j with
   | zero=>simpa using ha
   | succ j=>
    rw[if_pos (by simp[ha]),List.length_cons]at h;simpa using ih j (by simpa using hj) (by unfold bG;omega)
  ·rw[if_neg (by simp[ha])]at h;simp at h
theorem wO(v:Nat)(r:List Nat):v::r=List.replicate (1+bG v r) v++r.drop (bG v r):=by
 have h:=ks v r;rw[Nat.add_comm,List.replicate_succ,List.cons_append];congr 1;have e:r.take (bG v r)=List.replicate (bG v r) v:=by refine List.ext_getElem (by simp;omega) (λj h1 h2=>?_);simp at h1;rw[List.getElem_take,List.getElem_replicate,yH v r j (by omega) (by omega)]
 rw[<-e,List.take_append_drop]
theorem iN{l:List Nat}{s:Int×Int}{n v k:Nat}(h:ij s l=some (v,k))(hf:l.length+k<=n):et l s n=some (l++List.replicate k v):=by unfold et;rw[h];simp only;rw[if_neg (by omega)]
theorem xe(n:Nat)(l:List Nat)(ss tt:List (Int×Int)):gY n l (ss++tt)=(gY n l ss).bind (λm=>gY n m tt):=by
 induction ss generalizing l with
 | nil=>rfl
 | cons a r ih=>
  simp only[List.cons_append,gY];cases et l a n with
  | none=>rfl
  | some m=>exact ih m
theorem ES(n:Nat)(l:List Nat)(s:Int×Int):gY n l [s]=et l s n:=by simp only[gY];cases et l s n<;>rfl
theorem qS(v:Nat)(l:List Nat)(h:v<=15):ij ((v:Int),0) l=some (v,1):=by unfold ij;rw[if_pos ⟨by omega,by simp only;omega,rfl⟩];simp
theorem qK(n v k:Nat)(l:List Nat)(h:v<=15)(hf:l.length+k<=n):gY n l (List.replicate k ((v:Int),0))=some (l++List.replicate k v):=by
 induction k generalizing l with
 | zero=>simp[gY]
 | succ k ih=>
  rw[List.replicate_succ,gY,iN (qS v l h) (by omega)];simp only;rw[ih _ (by simp;omega),List.append_assoc,List.replicate_append_replicate,Nat.add_comm]
theorem yC(n m:Nat)(l:List Nat)(hf:l.length+m<=n):gY n l (eS m)=some (l++List.replicate m 0):=by
 induction m using Nat.strongRecOn generalizing l with
 | ind m ih=>
  by_cases h:11<=m
  ·rw[gt m h,gY];have hs:ij (18,((min m 138-11:Nat):Int)) l=some (0,min m 138):=by
    unfold ij;rw[if_neg (by simp),if_neg (by simp),if_neg (by simp),if_pos ⟨rfl,by omega,by omega⟩];simp;omega
   rw[iN hs (by omega)];simp only;rw[ih (m-min m 138) (by omega) _ (by simp;omega),List.append_assoc,List.replicate_append_replicate,show min m 138+(m-min m 138)=m by omega]
  ·by_cases h3:3<=m
   ·rw[gQ m (by omega) h3,ES];have hs:ij (17,((m-3:Nat):Int)) l=some (0,m):=by
     unfold ij;rw[if_neg (by simp),if_neg (by simp),if_pos ⟨rfl,by omega,by omega⟩];simp;omega
    exact iN hs hf
   ·rw[gC m (by omega)];exact qK n 0 m l (by omega) hf
theorem yQ(n v m:Nat)(l:List Nat)(h15:v<=15)(hl:0<l.length)(hv:jO l=v)(hf:l.length+m<=n):gY n l (gK v m)=some (l++List.replicate m v):=by
 induction m using Nat.strongRecOn generalizing l with
 | ind m ih=>
  by_cases h:3<=m
  ·rw[jp v m h,gY];have hs:ij (16,((min m 6-3:Nat):Int)) l=some (v,min m 6):=by
    unfold ij;rw[if_neg (by simp),if_pos ⟨rfl,by omega,by omega,hl⟩,hv];simp;omega
   rw[iN hs (by omega)];simp only;have ce:jO (l++List.replicate (min m 6) v)=v:=by
    have hk:0<min m 6:=(by omega);generalize min m 6=k at hk ⊢;obtain⟨k,rfl⟩:∃j,k=j+1:=⟨k-1,by omega⟩
    unfold jO;rw[List.replicate_succ',<-List.append_assoc];simp
   rw[ih (m-min m 6) (by omega) _ (by simp;omega) ce (by simp;omega),List.append_assoc,List.replicate_append_replicate,show min m 6+(m-min m 6)=m by omega]
  ·rw[jq v m (by omega)];exact qK n v m l h15 hf
theorem EQ(n v m:Nat)(l:List Nat)(h15:v<=15)(hm:1<=m)(hf:l.length+m<=n):gY n l (ej v m)=some (l++List.replicate m v):=by
 unfold ej;split
 ·rename_i h0;subst h0;exact yC n m l hf
 ·rw[gY,iN (qS v l h15) (by omega)];simp only;have ce:jO (l++List.replicate 1 v)=v:=(by simp[jO]);rw[yQ n v (m-1) _ h15 (by simp) ce (by simp;omega),List.append_assoc,List.replicate_append_replicate,show 1+(m-1)=m by omega]
theorem CU(n:Nat)(r:List Nat)(l:List Nat)(h15:∀x∈r,x<=15)(hf:l.length+r.length<=n):gY n l (aZ r)=some (l++r):=by
 induction hn:r.length using Nat.strongRecOn generalizing r l with
 | ind k ih=>
  cases r with
  | nil=>simp[aZ,gY]
  | cons v r=>
   have U7:=ks v r;rw[gG,xe,EQ n v _ l (h15 v (by simp)) (by omega) (by simp at hf;omega)];simp only[Option.bind_some];rw[ih (r.drop (bG v r)).length (by simp at hn ⊢;omega) _ _ (λx hx=>h15 x (List.mem_cons_of_mem _ (List.mem_of_mem_drop hx))) (by simp at hf ⊢;omega) rfl,List.append_assoc,<-wO]
end Go.Proofs.YtllcnlnbpikhdaaGreatDoor
namespace Go.Proofs.YtllcnlnbpikhdaaGreatDoor
open Go.RowKit
def j7(s:Int×Int):List Value:=[.int .i64 s.1,.int .i64 s.2]
theorem stC_ok:dI j7 2:=⟨λ_=>rfl,λx u hu=>by simp[j7]at hu;rcases hu with rfl | rfl<;>rfl,by decide⟩
abbrev fC(B:Nat):=RowC B 220 2 j7
abbrev StSrc:=@SrcC (Int×Int) 2 j7
theorem Tryz.infoSt:(Tryz.prog.info? 220).map (λi=>(i.zero,i.size,i.bytes))=some (some (.agg #[.int .i64 0,.int .i64 0]),2,16):=by kernel_rfl
theorem jV(w:World)(x y:Int):aR (w.alloc (.cells #[.int .i64 x,.int .i64 y] 220)) ⟨w.heap.size,0,none⟩ ([(x,y)].flatMap j7):=by
 intro j u hu
 match j,hu with
 | 0,hu=>simp[j7]at hu;subst hu;simp[cL]
 | 1,hu=>simp[j7]at hu;subst hu;simp[cL]
 | j+2,hu=>simp[j7]at hu
theorem dV{ops:Array Oper}{rest:List Oper}{o:Oper}{a:Act}{Q:Exit→Act→World→Prop}(w:World)(B:Nat)(jL:o.guard=none)(s x:Operand)
  (ho:o.op=.call {callee:=.builtin .append,args:=#[s,x],argTypes:=#[176,176]})
  (v:Value) (ss:List (Int×Int)) (hs:a.eval s=v) (hrow:fC B w v ss) (ad:Addr) (y:Int×Int) (hx:a.eval x=.slice (some ad) 1 1) (eO:aR w ad ([y].flatMap j7)) (ag:ss.length+1<=1000000000) (hB:B<=w.heap.size)
  (h:∀v' w',fC B w' v' (ss++[y])->w.grownBy w' v.ownBlock->wpList Tryz.prog ops Q rest (a.put o.dst v') w'):wpList Tryz.prog ops Q (o::rest) a w:=
 dR w j7 2 stC_ok (by decide) B 176 220 (.agg #[.int .i64 0,.int .i64 0]) 16 Tryz.underlying176 Tryz.infoSt rfl (by decide) jL s x ho v ss hs hrow ad 1 1 [y] hx rfl eO ag hB h
abbrev iK(B:Nat)(k:Nat):Prop:=B<=k
def cH(zs:List Int):Bool:=!(zs.any (d7 0 15))
theorem eQ(zs:List Int):cH zs=true↔∀z∈zs,0<=z/\z<=15:=by
 simp only[cH,Bool.not_eq_true',List.any_eq_false,d7];constructor
 ·intro h z hz;have:=h z hz;simp at this;omega
 ·intro h z hz;have:=h z hz;simp;omega
theorem zE(ns:List Nat)(i n:Nat)(hi:i<ns.length)(hn:n=1+bG ns[i] (ns.drop (i+1))):aZ (ns.drop i)=ej ns[i] n++aZ (ns.drop (i+n)):=by rw[List.drop_eq_getElem_cons hi,gG,List.drop_drop,hn];congr 3;omega
def Nf(w w':World)(e:Ending):Except Nat (List (Int×Int))->Prop
 | .error c=>e=.returned (.tuple #[.slice none 0 0,.int .i64 (c:Nat)])/\Same w w'
 | .ok ss=>∃v',e=.returned (.tuple #[v',.int .i64 0])/\fC w.heap.size w' v' ss/\Same w w'
theorem qO{zs:List Int}(h1:zs.length<=316)(h2:cH zs=true):sK zs=.ok (aZ (zs.map Int.toNat)):=by unfold sK;rw[if_pos ⟨h1,(eQ zs).1 h2⟩]
theorem Ct{zs:List Int}(h:316<zs.length\/cH zs=false):sK zs=.error 1:=by
 unfold sK;rw[if_neg];rintro⟨h1,h2⟩;rcases h with h | h
 ·omega
 ·rw[(eQ zs).2 h2]at h;cases h
def EY(a b:List Int):Bool:=decide (257<=a.length) && decide (a.length<=286) && decide (1<=b.length) && decide (b.length<=30) && cH a && cH b
theorem StSrc.get{w:World}{I:Nat->Prop}{ao:Option Addr}{n cap:Nat}{ss:List (Int×Int)}(h:StSrc w I (.slice ao n cap) ss)(i:Nat)(hi:i<ss.length):∃b o,ao=some ⟨b,o,none⟩/\I b/\w.cell? ⟨b,o+i*2,none⟩=some (.int .i64 ss[i].1)/\w.cell? ⟨b,o+i*2+1,none⟩=some (.int .i64 ss[i].2):=by obtain⟨ao',cap',e1,_,e2⟩:=h;injection e1 with e3 _ _;subst e3;obtain⟨b,o,e4,hI,e5⟩:=e2 (by intro e;rw[e]at hi;simp at hi);exact⟨b,o,e4,hI,e5 i hi 0 (by decide),e5 i hi 1 (by decide)⟩
end Go.Proofs.YtllcnlnbpikhdaaGreatDoor
