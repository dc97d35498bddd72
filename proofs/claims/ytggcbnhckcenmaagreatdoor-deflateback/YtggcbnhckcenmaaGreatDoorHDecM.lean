import Derived.Test.YtggcbnhckcenmaaGreatDoorHCode
namespace Go.Proofs.YtggcbnhckcenmaaGreatDoor

theorem rv_succ_low(n R:Nat):rv (n+1) R=2*rv n R+R / 2 ^ n % 2:=by
 refine Nat.eq_of_testBit_eq (fun k=>?_)
 rw[rv_bit,show 2*rv n R+R / 2 ^ n % 2=2 ^ 1*rv n R+R / 2 ^ n % 2 by rw[Nat.pow_one],Nat.testBit_two_pow_mul_add _ (by rw[Nat.pow_one];exact Nat.mod_lt _ (by decide)),rv_bit]
 by_cases h:k<1
 ·have:k=0:=by omega
  subst this
  rw[if_pos h,Nat.testBit_zero,show R / 2 ^ n % 2 % 2=R / 2 ^ n % 2 by omega]
  simp[Nat.testBit_eq_decide_div_mod_eq]
 ·rw[if_neg h]
  by_cases h2:k<n+1
  ·simp[h2,show k-1<n by omega,show n-1-(k-1)=n-k by omega]
  ·simp[h2,show ¬k-1<n by omega]

theorem rv_div(l m Z:Nat)(h:l≤m):rv m Z / 2 ^ (m-l)=rv l Z:=by
 refine Nat.eq_of_testBit_eq (fun k=>?_)
 rw[Nat.testBit_div_two_pow,rv_bit,rv_bit]
 by_cases h2:k<l
 ·simp[h2,show k+(m-l)<m by omega,show m-1-(k+(m-l))=l-1-k by omega]
 ·simp[h2,show ¬k+(m-l)<m by omega]

theorem rv_mod(l h Z:Nat)(hl:l≤h):rv l (Z % 2 ^ h)=rv l Z:=by
 refine Nat.eq_of_testBit_eq (fun k=>?_)
 rw[rv_bit,rv_bit,Nat.testBit_mod_two_pow]
 by_cases h2:k<l
 ·simp[h2,show l-1-k<h by omega]
 ·simp[h2]

theorem rv_rv(l c:Nat):rv l (rv l c)=c % 2 ^ l:=by
 refine Nat.eq_of_testBit_eq (fun k=>?_)
 rw[rv_bit,rv_bit,Nat.testBit_mod_two_pow]
 by_cases h2:k<l
 ·simp[h2,show l-1-k<l by omega,show l-1-(l-1-k)=k by omega]
 ·simp[h2]

theorem rv_pad(h m Z:Nat)(hz:Z<2 ^ h)(hm:h≤m):rv m Z=rv h Z*2 ^ (m-h):=by
 refine Nat.eq_of_testBit_eq (fun k=>?_)
 rw[rv_bit,Nat.testBit_mul_two_pow,rv_bit]
 by_cases h1:m-h≤k
 ·by_cases h2:k<m
  ·simp[h1,h2,show k-(m-h)<h by omega,show h-1-(k-(m-h))=m-1-k by omega]
  ·simp[h2,show ¬k-(m-h)<h by omega]
 ·have:Z.testBit (m-1-k)=false:=Nat.testBit_lt_two_pow (Nat.lt_of_lt_of_le hz (Nat.pow_le_pow_right (n:=2) (by omega) (by omega)))
  simp[h1,this]

theorem countP_index(p:Nat→Bool)(l:List Nat)(h:l.Pairwise (fun a b=>p b=true→p a=true))(k:Nat)(hk:k<l.length):p l[k]=true↔k<l.countP p:=by
 induction l generalizing k with
 | nil=>simp at hk
 | cons a r ih=>
  have hp:=List.pairwise_cons.1 h
  by_cases ha:p a=true
  ·rw[List.countP_cons_of_pos ha]
   cases k with
   | zero=>simp[ha]
   | succ k=>
    have:=ih hp.2 k (by simpa using hk)
    simp only[List.getElem_cons_succ]
    rw[this];omega
  ·rw[List.countP_cons_of_neg ha]
   have h0:r.countP p=0:=List.countP_eq_zero.2 (fun b hb hpb=>ha (hp.1 b hb hpb))
   rw[h0]
   cases k with
   | zero=>simp[ha]
   | succ k=>
    simp only[List.getElem_cons_succ]
    have:¬p (r[k]'(by simpa using hk))=true:=fun e=>ha (hp.1 _ (List.getElem_mem _) e)
    simp[this]

def upN(ns:List Nat)(n:Nat):Nat:=(ris ns).countP (fun t=>decide (key ns t≤n))
def ofN(ns:List Nat)(m:Nat):Nat:=(ris ns).countP (fun t=>decide (key ns t=m))

theorem upN_index(ns:List Nat)(n k:Nat)(hk:k<(ris ns).length):key ns (ris ns)[k]≤n↔k<upN ns n:=by
 have h:=countP_index (fun t=>decide (key ns t≤n)) (ris ns) ((ris_sorted ns).imp (fun {a b} hab hb=>by simp at hb ⊢;unfold Lt at hab;omega)) k hk
 simpa[upN]using h

theorem upN_zero(ns:List Nat):upN ns 0=0:=by
 refine List.countP_eq_zero.2 (fun t ht h=>?_)
 have:=(mem_ris.1 ht).2
 simp at h;exact this h

theorem upN_succ(ns:List Nat)(n:Nat):upN ns (n+1)=upN ns n+ofN ns (n+1):=by
 unfold upN ofN
 generalize ris ns=l
 induction l with
 | nil=>simp
 | cons a r ih=>
  rw[List.countP_cons,List.countP_cons,List.countP_cons,ih]
  by_cases h1:key ns a≤n
  ·simp[h1,show key ns a≤n+1 by omega,show ¬key ns a=n+1 by omega];omega
  ·by_cases h2:key ns a=n+1
   ·simp[h2,show ¬n+1≤n by omega];omega
   ·simp[h1,h2,show ¬key ns a≤n+1 by omega]

theorem upN_le(ns:List Nat)(n:Nat):upN ns n≤(ris ns).length:=List.countP_le_length

theorem sumTo_block(ns:List Nat)(n i:Nat)(hn:n<15)(hi:i≤ofN ns (n+1)):sumTo ns (upN ns n+i)=sumTo ns (upN ns n)+i*2 ^ (15-(n+1)):=by
 induction i with
 | zero=>simp
 | succ i ih=>
  have h1:=upN_succ ns n
  have h2:=upN_le ns (n+1)
  have hk:upN ns n+i<(ris ns).length:=by omega
  have k1:=(upN_index ns (n+1) _ hk).2 (by omega)
  have k2:=mt (upN_index ns n _ hk).1 (by omega)
  have hkey:key ns (ris ns)[upN ns n+i]=n+1:=by omega
  rw[show upN ns n+(i+1)=(upN ns n+i)+1 by omega,sumTo_succ ns _ hk,ih (by omega),uk,hkey,unit,if_neg (by omega),Nat.add_mul,Nat.one_mul]
  omega

theorem key_block(ns:List Nat)(n i:Nat)(hi:i<ofN ns (n+1)):∃hk:upN ns n+i<(ris ns).length,key ns (ris ns)[upN ns n+i]=n+1:=by
 have h1:=upN_succ ns n
 have h2:=upN_le ns (n+1)
 have hk:upN ns n+i<(ris ns).length:=by omega
 have k1:=(upN_index ns (n+1) _ hk).2 (by omega)
 have k2:=mt (upN_index ns n _ hk).1 (by omega)
 exact⟨hk,by omega⟩

def mxL(ns:List Nat):Nat:=ns.foldl max 0

theorem foldl_max(l:List Nat)(a:Nat):a≤l.foldl max a∧(∀x∈l,x≤l.foldl max a)∧(l.foldl max a=a∨l.foldl max a∈l):=by
 induction l generalizing a with
 | nil=>simp
 | cons b r ih=>
  obtain⟨h1,h2,h3⟩:=ih (max a b)
  simp only[List.foldl_cons]
  refine⟨by omega,?_,?_⟩
  ·intro x hx
   rcases List.mem_cons.1 hx with rfl | hx
   ·omega
   ·exact h2 x hx
  ·rcases h3 with h | h
   ·rw[h]
    by_cases hab:a≤b
    ·right;rw[Nat.max_eq_right hab];simp
    ·left;omega
   ·right;exact List.mem_cons_of_mem _ h

theorem key_le_mx(ns:List Nat)(s:Nat):key ns s≤mxL ns:=by
 by_cases h:s<ns.length
 ·rw[key_get h];exact(foldl_max ns 0).2.1 _ (List.getElem_mem _)
 ·simp[key,h]

theorem mx_le(ns:List Nat)(b:Nat)(h:∀n∈ns,n≤b):mxL ns≤b:=by
 rcases(foldl_max ns 0).2.2 with h1 | h1
 ·unfold mxL;omega
 ·exact h _ h1

theorem upN_all(ns:List Nat):upN ns (mxL ns)=(ris ns).length:=List.countP_eq_length.2 (fun t _=>by simpa using key_le_mx ns t)

def cntTo(ns:List Nat)(k:Nat):List Nat:=(List.range (mxL ns)).map (fun j=>((ris ns).take k).countP (fun t=>decide (key ns t=j+1)))
def cntL(ns:List Nat):List Nat:=(List.range (mxL ns)).map (fun j=>ofN ns (j+1))

theorem cntTo_all(ns:List Nat):cntTo ns (ris ns).length=cntL ns:=by
 unfold cntTo cntL ofN
 rw[List.take_of_length_le (Nat.le_refl _)]

theorem cntTo_zero(ns:List Nat):cntTo ns 0=List.replicate (mxL ns) 0:=by
 unfold cntTo
 simp[List.map_const']

theorem cntTo_length(ns:List Nat)(k:Nat):(cntTo ns k).length=mxL ns:=by simp[cntTo]

theorem cntTo_succ(ns:List Nat)(k:Nat)(hk:k<(ris ns).length)(hl:key ns (ris ns)[k]-1<(cntTo ns k).length):
  (cntTo ns k).set (key ns (ris ns)[k]-1) ((cntTo ns k)[key ns (ris ns)[k]-1]+1)=cntTo ns (k+1):=by
 have h0:=(mem_ris.1 (List.getElem_mem hk)).2
 unfold cntTo at *
 refine List.ext_getElem (by simp) (fun j h1 h2=>?_)
 have hc:((ris ns).take (k+1)).countP (fun t=>decide (key ns t=j+1))=((ris ns).take k).countP (fun t=>decide (key ns t=j+1))+(if key ns (ris ns)[k]=j+1 then 1 else 0):=by
  rw[List.take_succ_eq_append_getElem hk,List.countP_append]
  by_cases h:key ns (ris ns)[k]=j+1<;>simp[h]
 simp only[List.getElem_set,List.getElem_map,List.getElem_range,hc]
 by_cases e:key ns (ris ns)[k]-1=j
 ·have e2:key ns (ris ns)[k]=j+1:=by omega
  subst e
  rw[if_pos rfl,if_pos e2]
 ·have e2:¬key ns (ris ns)[k]=j+1:=by omega
  rw[if_neg e,if_neg e2];rfl

def Ans(ns:List Nat)(h R sym long e:Nat):Prop:=
 (e=0∧sym∈ris ns∧long=key ns sym∧long≤h∧rv long R=codeOf ns sym) ∨
 (e=10∧sym=0∧long=0∧h<mxL ns∧sumTo ns (upN ns h)≤rv h R*2 ^ (15-h)) ∨
 (e=32∧sym=0∧long=0∧h=mxL ns∧measure ns≤rv h R*2 ^ (15-h))

structure Seek(ns:List Nat)(R n place ahead:Nat):Prop where
 ah:ahead=upN ns n
 pl:(place*2 ^ (15-n))+sumTo ns (upN ns n)=rv n R*2 ^ (15-n)

theorem Seek.start(ns:List Nat)(R:Nat):Seek ns R 0 0 0:=⟨(upN_zero ns).symm,by rw[upN_zero];simp[rv,sumTo]⟩

theorem Seek.bit{ns:List Nat}{R n place ahead:Nat}(h:Seek ns R n place ahead)(hn:n<15):(2*place+R / 2 ^ n % 2)*2 ^ (15-(n+1))+sumTo ns (upN ns n)=rv (n+1) R*2 ^ (15-(n+1)):=by
 have h1:=h.pl
 have e:2 ^ (15-n)=2*2 ^ (15-(n+1)):=by rw[show 15-n=(15-(n+1))+1 by omega,Nat.pow_succ];omega
 rw[e]at h1
 rw[rv_succ_low,Nat.add_mul,Nat.add_mul]
 have e2:2*place*2 ^ (15-(n+1))=place*(2*2 ^ (15-(n+1))):=by rw[Nat.mul_comm 2 place,Nat.mul_assoc]
 have e3:2*rv n R*2 ^ (15-(n+1))=rv n R*(2*2 ^ (15-(n+1))):=by rw[Nat.mul_comm 2 (rv n R),Nat.mul_assoc]
 omega

theorem Seek.found{ns:List Nat}{R n place ahead:Nat}(h:Seek ns R n place ahead)(hn:n<15)(hp:2*place+R / 2 ^ n % 2<ofN ns (n+1)):
  ∃hk:ahead+(2*place+R / 2 ^ n % 2)<(ris ns).length,key ns (ris ns)[ahead+(2*place+R / 2 ^ n % 2)]=n+1∧rv (n+1) R=codeOf ns (ris ns)[ahead+(2*place+R / 2 ^ n % 2)]:=by
 have hb:=h.bit hn
 have ha:=h.ah
 subst ha
 generalize 2*place+R / 2 ^ n % 2=i at *
 obtain⟨hk,hkey⟩:=key_block ns n i hp
 refine⟨hk,hkey,?_⟩
 have h1:=code_start ns (ris ns)[upN ns n+i]
 rw[start_at ns _ hk,hkey,sumTo_block ns n i hn (by omega)]at h1
 have h2:rv (n+1) R*2 ^ (15-(n+1))=codeOf ns (ris ns)[upN ns n+i]*2 ^ (15-(n+1)):=by omega
 exact Nat.eq_of_mul_eq_mul_right (Nat.two_pow_pos _) h2

theorem Seek.next{ns:List Nat}{R n place ahead:Nat}(h:Seek ns R n place ahead)(hn:n<15)(hp:¬2*place+R / 2 ^ n % 2<ofN ns (n+1)):
  Seek ns R (n+1) (2*place+R / 2 ^ n % 2-ofN ns (n+1)) (ahead+ofN ns (n+1)):=by
 have hb:=h.bit hn
 have hs:=upN_succ ns n
 refine⟨by rw[h.ah,hs],?_⟩
 generalize 2*place+R / 2 ^ n % 2=i at *
 have h1:=sumTo_block ns n (ofN ns (n+1)) hn (Nat.le_refl _)
 rw[hs,h1,Nat.sub_mul]
 have h2:ofN ns (n+1)*2 ^ (15-(n+1))≤i*2 ^ (15-(n+1)):=Nat.mul_le_mul_right _ (by omega)
 omega

theorem place_of{ns:List Nat}{s:Nat}(h:s∈ris ns):∃k,∃hk:k<(ris ns).length,(ris ns)[k]=s∧startOf ns s=sumTo ns k∧sumTo ns (k+1)=startOf ns s+2 ^ (15-key ns s):=by
 obtain⟨k,hk,rfl⟩:=List.getElem_of_mem h
 refine⟨k,hk,rfl,start_at ns k hk,?_⟩
 rw[sumTo_succ ns k hk,start_at ns k hk,uk,unit,if_neg (mem_ris.1 h).2]

theorem sumTo_le{ns:List Nat}{i j:Nat}(h:i≤j):sumTo ns i≤sumTo ns j:=by
 unfold sumTo
 have e:(ris ns).take i=((ris ns).take j).take i:=by rw[List.take_take,Nat.min_eq_left h]
 rw[e]
 conv=>rhs;rw[←List.take_append_drop i ((ris ns).take j)]
 rw[List.map_append,List.sum_append]
 omega

theorem fits_iff{ns:List Nat}{s Z:Nat}(_hs:s∈ris ns)(h15:key ns s≤15):rv (key ns s) Z=codeOf ns s↔startOf ns s≤rv 15 Z∧rv 15 Z<startOf ns s+2 ^ (15-key ns s):=by
 rw[←rv_div (key ns s) 15 Z h15,←code_start ns s]
 have hp:0<2 ^ (15-key ns s):=Nat.two_pow_pos _
 have hd:=Nat.div_add_mod (rv 15 Z) (2 ^ (15-key ns s))
 have hm:=Nat.mod_lt (rv 15 Z) hp
 constructor
 ·intro e
  rw[←e]
  have:rv 15 Z / 2 ^ (15-key ns s)*2 ^ (15-key ns s)=2 ^ (15-key ns s)*(rv 15 Z / 2 ^ (15-key ns s)):=Nat.mul_comm _ _
  omega
 ·rintro⟨h1,h2⟩
  refine Nat.le_antisymm ?_ ?_
  ·have h3:rv 15 Z<(codeOf ns s+1)*2 ^ (15-key ns s):=by rw[Nat.add_mul,Nat.one_mul];exact h2
   have:=(Nat.div_lt_iff_lt_mul hp).2 h3
   omega
  ·exact(Nat.le_div_iff_mul_le hp).2 h1

theorem fits_one{ns:List Nat}{s t Z:Nat}(hs:s∈ris ns)(ht:t∈ris ns)(h15:∀x,key ns x≤15)(h1:rv (key ns s) Z=codeOf ns s)(h2:rv (key ns t) Z=codeOf ns t):s=t:=by
 have e1:=(fits_iff hs (h15 s)).1 h1
 have e2:=(fits_iff ht (h15 t)).1 h2
 obtain⟨i,hi,rfl,a1,a2⟩:=place_of hs
 obtain⟨j,hj,rfl,b1,b2⟩:=place_of ht
 rcases Nat.lt_trichotomy i j with h | h | h
 ·have:=sumTo_le (ns:=ns) (show i+1≤j from h);omega
 ·subst h;rfl
 ·have:=sumTo_le (ns:=ns) (show j+1≤i from h);omega

theorem Ans.unique{ns:List Nat}{Z left sym long e s:Nat}(h15:∀x,key ns x≤15)(hZ:Z<2 ^ left)(ha:Ans ns (min left (mxL ns)) (Z % 2 ^ (min left (mxL ns))) sym long e)(hm:mxL ns≤15)
  (hs:s∈ris ns) (hl:key ns s≤left) (hf:rv (key ns s) Z=codeOf ns s):e=0∧sym=s∧long=key ns s:=by
 have hmx:=key_le_mx ns s
 have h1:=(fits_iff hs (h15 s)).1 hf
 obtain⟨k,hk,rfl,a1,a2⟩:=place_of hs
 rcases ha with⟨e0,hsym,hlong,hlh,hr⟩ | ⟨_,_,_,hh,hsum⟩ | ⟨_,_,_,hh,hsum⟩
 ·rw[rv_mod _ _ _ hlh,hlong]at hr
  have:=fits_one hsym hs h15 hr hf
  exact⟨e0,this,by rw[hlong,this]⟩
 ·exfalso
  have hmin:min left (mxL ns)=left:=by omega
  rw[hmin,rv_mod _ _ _ (Nat.le_refl _),←rv_pad left 15 Z hZ (by omega)]at hsum
  have h2:=(upN_index ns left k hk).1 hl
  have h3:=sumTo_le (ns:=ns) (show k+1≤upN ns left from h2)
  omega
 ·exfalso
  rw[hh,rv_mod _ _ _ (Nat.le_refl _),←rv_div (mxL ns) 15 Z hm]at hsum
  have h2:=Nat.div_mul_le_self (rv 15 Z) (2 ^ (15-mxL ns))
  have h3:=sumTo_mono ns (k+1)
  omega

end Go.Proofs.YtggcbnhckcenmaaGreatDoor
