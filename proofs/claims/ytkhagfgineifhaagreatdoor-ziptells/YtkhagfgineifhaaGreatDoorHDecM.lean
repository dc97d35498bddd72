import Derived.Test.YtkhagfgineifhaaGreatDoorHCode
namespace Go.Proofs.YtkhagfgineifhaaGreatDoor
theorem xy(n R:Nat):rv (n+1) R=2*rv n R+R / 2 ^ n % 2:=by
 refine Nat.eq_of_testBit_eq (λk=>?_);rw[gS,show 2*rv n R+R / 2 ^ n % 2=2 ^ 1*rv n R+R / 2 ^ n % 2 by rw[Nat.pow_one],Nat.testBit_two_pow_mul_add _ (by rw[Nat.pow_one];exact Nat.mod_lt _ (by decide)),gS];by_cases h:k<1
 ·have:k=0:=(by omega);subst this;rw[if_pos h,Nat.testBit_zero,show R / 2 ^ n % 2 % 2=R / 2 ^ n % 2 by omega];simp[Nat.testBit_eq_decide_div_mod_eq]
 ·rw[if_neg h];by_cases h2:k<n+1
  ·simp[h2,show k-1<n by omega,show n-1-(k-1)=n-k by omega]
  ·simp[h2,show ¬k-1<n by omega]
theorem Hm(l m Z:Nat)(h:l<=m):rv m Z / 2 ^ (m-l)=rv l Z:=by
 refine Nat.eq_of_testBit_eq (λk=>?_);rw[Nat.testBit_div_two_pow,gS,gS];by_cases h2:k<l
 ·simp[h2,show k+(m-l)<m by omega,show m-1-(k+(m-l))=l-1-k by omega]
 ·simp[h2,show ¬k+(m-l)<m by omega]
theorem lS(l h Z:Nat)(hl:l<=h):rv l (Z % 2 ^ h)=rv l Z:=by
 refine Nat.eq_of_testBit_eq (λk=>?_);rw[gS,gS,Nat.testBit_mod_two_pow];by_cases h2:k<l
 ·simp[h2,show l-1-k<h by omega]
 ·simp[h2]
theorem xC(l c:Nat):rv l (rv l c)=c % 2 ^ l:=by
 refine Nat.eq_of_testBit_eq (λk=>?_);rw[gS,gS,Nat.testBit_mod_two_pow];by_cases h2:k<l
 ·simp[h2,show l-1-k<l by omega,show l-1-(l-1-k)=k by omega]
 ·simp[h2]
theorem zH(h m Z:Nat)(hz:Z<2 ^ h)(hm:h<=m):rv m Z=rv h Z*2 ^ (m-h):=by
 refine Nat.eq_of_testBit_eq (λk=>?_);rw[gS,Nat.testBit_mul_two_pow,gS];by_cases h1:m-h<=k
 ·by_cases h2:k<m
  ·simp[h1,h2,show k-(m-h)<h by omega,show h-1-(k-(m-h))=m-1-k by omega]
  ·simp[h2,show ¬k-(m-h)<h by omega]
 ·have:Z.testBit (m-1-k)=false:=Nat.testBit_lt_two_pow (Nat.lt_of_lt_of_le hz (Nat.pow_le_pow_right (n:=2) (by omega) (by omega)));simp[h1,this]
theorem uC(p:Nat->Bool)(l:List Nat)(h:l.Pairwise (λa b=>p b=true->p a=true))(k:Nat)(hk:k<l.length):p l[k]=true↔k<l.countP p:=by
 induction l generalizing k with
 | nil=>simp at hk
 | cons a r ih=>
  have hp:=List.pairwise_cons.1 h;by_cases ha:p a=true
  ·rw[List.countP_cons_of_pos ha];cases k with
   | zero=>simp[ha]
   | succ k=>
    have:=ih hp.2 k (by simpa using hk);simp only[List.getElem_cons_succ];rw[this];omega
  ·rw[List.countP_cons_of_neg ha];have h0:r.countP p=0:=List.countP_eq_zero.2 (λb hb Jd=>ha (hp.1 b hb Jd));rw[h0];cases k with
   | zero=>simp[ha]
   | succ k=>
    simp only[List.getElem_cons_succ];have:¬p (r[k]'(by simpa using hk))=true:=λe=>ha (hp.1 _ (List.getElem_mem _) e)
    simp[this]
def pi(ns:List Nat)(n:Nat):Nat:=(aD ns).countP (λt=>decide (key ns t<=n))
def Bu(ns:List Nat)(m:Nat):Nat:=(aD ns).countP (λt=>decide (key ns t=m))
theorem gv(ns:List Nat)(n k:Nat)(hk:k<(aD ns).length):key ns (aD ns)[k]<=n↔k<pi ns n:=by have h:=uC (λt=>decide (key ns t<=n)) (aD ns) ((gR ns).imp (λ{a b} Fa hb=>by simp at hb ⊢;unfold Lt at Fa;omega)) k hk;simpa[pi]using h
theorem wE(ns:List Nat):pi ns 0=0:=by refine List.countP_eq_zero.2 (λt ht h=>?_);have:=(aW.1 ht).2;simp at h;exact this h
theorem nw(ns:List Nat)(n:Nat):pi ns (n+1)=pi ns n+Bu ns (n+1):=by
 unfold pi Bu;generalize aD ns=l
 induction l with
 | nil=>simp
 | cons a r ih=>
  rw[List.countP_cons,List.countP_cons,List.countP_cons,ih];by_cases h1:key ns a<=n
  ·simp[h1,show key ns a<=n+1 by omega,show ¬key ns a=n+1 by omega];omega
  ·by_cases h2:key ns a=n+1
   ·simp[h2,show ¬n+1<=n by omega];omega
   ·simp[h1,h2,show ¬key ns a<=n+1 by omega]
theorem uy(ns:List Nat)(n:Nat):pi ns n<=(aD ns).length:=List.countP_le_length
theorem oL(ns:List Nat)(n i:Nat)(hn:n<15)(hi:i<=Bu ns (n+1)):cm ns (pi ns n+i)=cm ns (pi ns n)+i*2 ^ (15-(n+1)):=by
 induction i with
 | zero=>simp
 | succ i ih=>
  have h1:=nw ns n;have h2:=uy ns (n+1);have hk:pi ns n+i<(aD ns).length:=(by omega);have k1:=(gv ns (n+1) _ hk).2 (by omega);have k2:=mt (gv ns n _ hk).1 (by omega);have hkey:key ns (aD ns)[pi ns n+i]=n+1:=(by omega);rw[show pi ns n+(i+1)=(pi ns n+i)+1 by omega,jv ns _ hk,ih (by omega),uk,hkey,eM,if_neg (by omega),Nat.add_mul,Nat.one_mul];omega
theorem Dc(ns:List Nat)(n i:Nat)(hi:i<Bu ns (n+1)):∃hk:pi ns n+i<(aD ns).length,key ns (aD ns)[pi ns n+i]=n+1:=by
 have h1:=nw ns n;have h2:=uy ns (n+1);have hk:pi ns n+i<(aD ns).length:=by omega
 have k1:=(gv ns (n+1) _ hk).2 (by omega);have k2:=mt (gv ns n _ hk).1 (by omega);exact⟨hk,by omega⟩
def iI(ns:List Nat):Nat:=ns.foldl max 0
theorem kN(l:List Nat)(a:Nat):a<=l.foldl max a/\(∀x∈l,x<=l.foldl max a)/\(l.foldl max a=a\/l.foldl max a∈l):=by
 induction l generalizing a with
 | nil=>simp
 | cons b r ih=>
  obtain⟨h1,h2,h3⟩:=ih (max a b);simp only[List.foldl_cons];refine⟨by omega,?_,?_⟩
  ·intro x hx;rcases List.mem_cons.1 hx with rfl | hx
   ·omega
   ·exact h2 x hx
  ·rcases h3 with h | h
   ·rw[h];by_cases Fa:a<=b
    ·right;rw[Nat.max_eq_right Fa];simp
    ·left;omega
   ·right;exact List.mem_cons_of_mem _ h
theorem ja(ns:List Nat)(s:Nat):key ns s<=iI ns:=by
 by_cases h:s<ns.length
 ·rw[aZ h];exact(kN ns 0).2.1 _ (List.getElem_mem _)
 ·simp[key,h]
theorem xU(ns:List Nat)(b:Nat)(h:∀n∈ns,n<=b):iI ns<=b:=by
 rcases(kN ns 0).2.2 with h1 | h1
 ·unfold iI;omega
 ·exact h _ h1
theorem JO(ns:List Nat):pi ns (iI ns)=(aD ns).length:=List.countP_eq_length.2 (λt _=>by simpa using ja ns t)
def fX(ns:List Nat)(k:Nat):List Nat:=(List.range (iI ns)).map (λj=>((aD ns).take k).countP (λt=>decide (key ns t=j+1)))
def lh(ns:List Nat):List Nat:=(List.range (iI ns)).map (λj=>Bu ns (j+1))
theorem DY(ns:List Nat):fX ns (aD ns).length=lh ns:=by unfold fX lh Bu;rw[List.take_of_length_le (Nat.le_refl _)]
theorem zO(ns:List Nat):fX ns 0=List.replicate (iI ns) 0:=by unfold fX;simp[List.map_const']
theorem uN(ns:List Nat)(k:Nat):(fX ns k).length=iI ns:=by simp[fX]
theorem zw(ns:List Nat)(k:Nat)(hk:k<(aD ns).length)(hl:key ns (aD ns)[k]-1<(fX ns k).length):
  (fX ns k).set (key ns (aD ns)[k]-1) ((fX ns k)[key ns (aD ns)[k]-1]+1)=fX ns (k+1):=by
 have h0:=(aW.1 (List.getElem_mem hk)).2;unfold fX at *
 refine List.ext_getElem (by simp) (λj h1 h2=>?_);have hc:((aD ns).take (k+1)).countP (λt=>decide (key ns t=j+1))=((aD ns).take k).countP (λt=>decide (key ns t=j+1))+(if key ns (aD ns)[k]=j+1 then 1 else 0):=by rw[List.take_succ_eq_append_getElem hk,List.countP_append];by_cases h:key ns (aD ns)[k]=j+1<;>simp[h]
 simp only[List.getElem_set,List.getElem_map,List.getElem_range,hc];by_cases e:key ns (aD ns)[k]-1=j
 ·have e2:key ns (aD ns)[k]=j+1:=(by omega);subst e;rw[if_pos rfl,if_pos e2]
 ·have e2:¬key ns (aD ns)[k]=j+1:=(by omega);rw[if_neg e,if_neg e2];rfl
def Ans(ns:List Nat)(h R sym long e:Nat):Prop:=
 (e=0/\sym∈aD ns/\long=key ns sym/\long<=h/\rv long R=dC ns sym) \/
 (e=10/\sym=0/\long=0/\h<iI ns/\cm ns (pi ns h)<=rv h R*2 ^ (15-h)) \/
 (e=32/\sym=0/\long=0/\h=iI ns/\measure ns<=rv h R*2 ^ (15-h))
structure Seek(ns:List Nat)(R n place ahead:Nat):Prop where
 ah:ahead=pi ns n
 pl:(place*2 ^ (15-n))+cm ns (pi ns n)=rv n R*2 ^ (15-n)
theorem Seek.start(ns:List Nat)(R:Nat):Seek ns R 0 0 0:=⟨(wE ns).symm,by rw[wE];simp[rv,cm]⟩
theorem Seek.bit{ns:List Nat}{R n place ahead:Nat}(h:Seek ns R n place ahead)(hn:n<15):(2*place+R / 2 ^ n % 2)*2 ^ (15-(n+1))+cm ns (pi ns n)=rv (n+1) R*2 ^ (15-(n+1)):=by
 have h1:=h.pl;have e:2 ^ (15-n)=2*2 ^ (15-(n+1)):=by rw[show 15-n=(15-(n+1))+1 by omega,Nat.pow_succ];omega
 rw[e]at h1;rw[xy,Nat.add_mul,Nat.add_mul];have e2:2*place*2 ^ (15-(n+1))=place*(2*2 ^ (15-(n+1))):=by rw[Nat.mul_comm 2 place,Nat.mul_assoc]
 have e3:2*rv n R*2 ^ (15-(n+1))=rv n R*(2*2 ^ (15-(n+1))):=by rw[Nat.mul_comm 2 (rv n R),Nat.mul_assoc]
 omega
theorem Seek.found{ns:List Nat}{R n place ahead:Nat}(h:Seek ns R n place ahead)(hn:n<15)(hp:2*place+R / 2 ^ n % 2<Bu ns (n+1)):
  ∃hk:ahead+(2*place+R / 2 ^ n % 2)<(aD ns).length,key ns (aD ns)[ahead+(2*place+R / 2 ^ n % 2)]=n+1/\rv (n+1) R=dC ns (aD ns)[ahead+(2*place+R / 2 ^ n % 2)]:=by
 have hb:=h.bit hn;have ha:=h.ah;subst ha;generalize 2*place+R / 2 ^ n % 2=i at *
 obtain⟨hk,hkey⟩:=Dc ns n i hp;refine⟨hk,hkey,?_⟩;have h1:=js ns (aD ns)[pi ns n+i];rw[kg ns _ hk,hkey,oL ns n i hn (by omega)]at h1;have h2:rv (n+1) R*2 ^ (15-(n+1))=dC ns (aD ns)[pi ns n+i]*2 ^ (15-(n+1)):=by omega
 exact Nat.eq_of_mul_eq_mul_right (Nat.two_pow_pos _) h2
theorem Seek.next{ns:List Nat}{R n place ahead:Nat}(h:Seek ns R n place ahead)(hn:n<15)(hp:¬2*place+R / 2 ^ n % 2<Bu ns (n+1)):
  Seek ns R (n+1) (2*place+R / 2 ^ n % 2-Bu ns (n+1)) (ahead+Bu ns (n+1)):=by
 have hb:=h.bit hn;have hs:=nw ns n;refine⟨by rw[h.ah,hs],?_⟩;generalize 2*place+R / 2 ^ n % 2=i at *
 have h1:=oL ns n (Bu ns (n+1)) hn (Nat.le_refl _);rw[hs,h1,Nat.sub_mul];have h2:Bu ns (n+1)*2 ^ (15-(n+1))<=i*2 ^ (15-(n+1)):=Nat.mul_le_mul_right _ (by omega);omega
theorem j7{ns:List Nat}{s:Nat}(h:s∈aD ns):∃k,∃hk:k<(aD ns).length,(aD ns)[k]=s/\iB ns s=cm ns k/\cm ns (k+1)=iB ns s+2 ^ (15-key ns s):=by obtain⟨k,hk,rfl⟩:=List.getElem_of_mem h;refine⟨k,hk,rfl,kg ns k hk,?_⟩;rw[jv ns k hk,kg ns k hk,uk,eM,if_neg (aW.1 h).2]
theorem mX{ns:List Nat}{i j:Nat}(h:i<=j):cm ns i<=cm ns j:=by
 unfold cm;have e:(aD ns).take i=((aD ns).take j).take i:=by rw[List.take_take,Nat.min_eq_left h]
 rw[e];conv=>rhs;rw[<-List.take_append_drop i ((aD ns).take j)]
 rw[List.map_append,List.sum_append];omega
theorem mI{ns:List Nat}{s Z:Nat}(_hs:s∈aD ns)(h15:key ns s<=15):rv (key ns s) Z=dC ns s↔iB ns s<=rv 15 Z/\rv 15 Z<iB ns s+2 ^ (15-key ns s):=by
 rw[<-Hm (key ns s) 15 Z h15,<-js ns s];have hp:0<2 ^ (15-key ns s):=Nat.two_pow_pos _;have hd:=Nat.div_add_mod (rv 15 Z) (2 ^ (15-key ns s));have hm:=Nat.mod_lt (rv 15 Z) hp;constructor
 ·intro e;rw[<-e];have:rv 15 Z / 2 ^ (15-key ns s)*2 ^ (15-key ns s)=2 ^ (15-key ns s)*(rv 15 Z / 2 ^ (15-key ns s)):=Nat.mul_comm _ _;omega
 ·rintro⟨h1,h2⟩;refine Nat.le_antisymm ?_ ?_
  ·have h3:rv 15 Z<(dC ns s+1)*2 ^ (15-key ns s):=(by rw[Nat.add_mul,Nat.one_mul];exact h2);have:=(Nat.div_lt_iff_lt_mul hp).2 h3;omega
  ·exact(Nat.le_div_iff_mul_le hp).2 h1
theorem xf{ns:List Nat}{s t Z:Nat}(hs:s∈aD ns)(ht:t∈aD ns)(h15:∀x,key ns x<=15)(h1:rv (key ns s) Z=dC ns s)(h2:rv (key ns t) Z=dC ns t):s=t:=by
 have e1:=(mI hs (h15 s)).1 h1;have e2:=(mI ht (h15 t)).1 h2;obtain⟨i,hi,rfl,a1,a2⟩:=j7 hs;obtain⟨j,hj,rfl,b1,b2⟩:=j7 ht;rcases Nat.lt_trichotomy i j with h | h | h
 ·have:=mX (ns:=ns) (show i+1<=j from h);omega
 ·subst h;rfl
 ·have:=mX (ns:=ns) (show j+1<=i from h);omega
theorem Ans.unique{ns:List Nat}{Z left sym long e s:Nat}(h15:∀x,key ns x≤15)(hZ:Z<2 ^ left)(ha:Ans ns (min left (iI ns)) (Z % 2 ^ (min left (iI ns))) sym long e)(hm:iI ns≤15)
  (hs:s∈aD ns) (hl:key ns s<=left) (hf:rv (key ns s) Z=dC ns s):e=0/\sym=s/\long=key ns s:=by
 have rP:=ja ns s;have h1:=(mI hs (h15 s)).1 hf;obtain⟨k,hk,rfl,a1,a2⟩:=j7 hs;rcases ha with⟨e0,M6,Cr,N1,hr⟩ | ⟨_,_,_,hh,sj⟩ | ⟨_,_,_,hh,sj⟩
 ·rw[lS _ _ _ N1,Cr]at hr;have:=xf M6 hs h15 hr hf;exact⟨e0,this,by rw[Cr,this]⟩
 ·exfalso;have pA:min left (iI ns)=left:=(by omega);rw[pA,lS _ _ _ (Nat.le_refl _),<-zH left 15 Z hZ (by omega)]at sj;have h2:=(gv ns left k hk).1 hl;have h3:=mX (ns:=ns) (show k+1<=pi ns left from h2);omega
 ·exfalso;rw[hh,lS _ _ _ (Nat.le_refl _),<-Hm (iI ns) 15 Z hm]at sj;have h2:=Nat.div_mul_le_self (rv 15 Z) (2 ^ (15-iI ns));have h3:=lX ns (k+1);omega
end Go.Proofs.YtkhagfgineifhaaGreatDoor
