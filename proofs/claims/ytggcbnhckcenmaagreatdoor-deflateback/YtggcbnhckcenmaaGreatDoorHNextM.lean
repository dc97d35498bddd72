import Derived.Test.YtggcbnhckcenmaaGreatDoorHRows
import Derived.Test.YtggcbnhckcenmaaGreatDoorBits
namespace Go.Proofs.YtggcbnhckcenmaaGreatDoor

theorem n2_inj(a b:List Nat)(hl:a.length=b.length)(ha:∀x∈a,x<2)(hb:∀x∈b,x<2)(h:n2 a=n2 b):a=b:=by
 induction a generalizing b with
 | nil=>cases b with
  | nil=>rfl
  | cons y r=>simp at hl
 | cons x l ih=>cases b with
  | nil=>simp at hl
  | cons y r=>
   have hx:=ha x (by simp)
   have hy:=hb y (by simp)
   simp only[n2]at h
   have e1:x=y:=by omega
   have e2:n2 l=n2 r:=by omega
   rw[e1,ih r (by simpa using hl) (fun z hz=>ha z (by simp[hz])) (fun z hz=>hb z (by simp[hz])) e2]

theorem code_lt2{ns:List Nat}{s:Nat}(hm:measure ns≤32768)(hs:s∈ris ns)(h15:key ns s≤15):codeOf ns s<2 ^ key ns s:=by
 obtain⟨k,hk,rfl,a1,a2⟩:=place_of hs
 have h1:=sumTo_mono ns (k+1)
 have h2:=code_start ns (ris ns)[k]
 have h3:(codeOf ns (ris ns)[k]+1)*2 ^ (15-key ns (ris ns)[k])≤2 ^ key ns (ris ns)[k]*2 ^ (15-key ns (ris ns)[k]):=by
  rw[←Nat.pow_add,show key ns (ris ns)[k]+(15-key ns (ris ns)[k])=15 by omega,Nat.add_mul,Nat.one_mul]
  have:(2:Nat) ^ 15=32768:=by decide
  omega
 have:=Nat.le_of_mul_le_mul_right h3 (Nat.two_pow_pos _)
 omega

def rowOf(ns:List Nat)(s:Nat):List Nat:=rowB (key ns s) (codeOf ns s)
def Fit(ns t:List Nat)(s:Nat):Prop:=key ns s≠0∧rowOf ns s <+: t
def Beg(ns t:List Nat)(s:Nat):Prop:=key ns s≠0∧t <+: rowOf ns s

def RNext(ns t:List Nat)(is k g:Nat):Prop:=
 (g=0∧is<ns.length∧Fit ns t is∧k=key ns is∧∀s,s<is→¬Fit ns t s) ∨
 (g=10∧is=0∧k=0∧(∀s,s<ns.length→¬Fit ns t s)∧∃s,s<ns.length∧Beg ns t s) ∨
 (g=32∧is=0∧k=0∧(∀s,s<ns.length→¬Fit ns t s)∧∀s,s<ns.length→¬Beg ns t s)

theorem rowOf_length(ns:List Nat)(s:Nat):(rowOf ns s).length=key ns s:=rowB_length _ _
theorem rowOf_n2(ns:List Nat)(s:Nat):n2 (rowOf ns s)=rv (key ns s) (codeOf ns s):=rowB_n2 _ _
theorem rowOf_bit(ns:List Nat)(s:Nat):∀b∈rowOf ns s,b<2:=rowB_bit _ _

theorem left_n2(bs:List Nat)(hb:∀b∈bs,b<256)(c n:Nat)(h:c+n≤8*bs.length):n2 (((ofBytes bs).drop c).take n)=n256 bs / 2 ^ c % 2 ^ n:=by
 rw[n2_part (ofBytes bs) (ofBytes_lt bs) c n (by rw[ofBytes_length];exact h),ofBytes_n2 bs hb]

theorem left_length(bs:List Nat)(c:Nat):((ofBytes bs).drop c).length=8*bs.length-c:=by rw[List.length_drop,ofBytes_length]

theorem fit_iff{ns:List Nat}{s:Nat}(hm:measure ns≤32768)(hs:s∈ris ns)(h15:key ns s≤15)(bs:List Nat)(hb:∀b∈bs,b<256)(c:Nat)(hc:c≤8*bs.length):
  Fit ns ((ofBytes bs).drop c) s↔key ns s≤8*bs.length-c∧rv (key ns s) (n256 bs / 2 ^ c)=codeOf ns s:=by
 have hlen:=left_length bs c
 have hcl:=code_lt2 hm hs h15
 unfold Fit
 rw[List.prefix_iff_eq_take,rowOf_length]
 constructor
 ·rintro⟨_,h⟩
  have hl:=congrArg List.length h
  rw[rowOf_length,List.length_take,hlen]at hl
  have hk:key ns s≤8*bs.length-c:=by omega
  refine⟨hk,?_⟩
  have h2:=congrArg n2 h
  rw[rowOf_n2,left_n2 bs hb c _ (by omega)]at h2
  rw[←rv_mod (key ns s) (key ns s) _ (Nat.le_refl _),←h2,rv_rv,Nat.mod_eq_of_lt hcl]
 ·rintro⟨hk,h⟩
  refine⟨(mem_ris.1 hs).2,?_⟩
  refine n2_inj _ _ (by rw[rowOf_length,List.length_take,hlen];omega) (rowOf_bit ns s) (fun x hx=>ofBytes_lt bs x (List.mem_of_mem_drop (List.mem_of_mem_take hx))) ?_
  rw[rowOf_n2,left_n2 bs hb c _ (by omega),←h,rv_rv]

theorem beg_of{ns:List Nat}{s:Nat}(hs:s∈ris ns)(bs:List Nat)(hb:∀b∈bs,b<256)(c:Nat)(hc:c≤8*bs.length)(hk:8*bs.length-c<key ns s)(h:rv (key ns s) (n256 bs / 2 ^ c)=codeOf ns s)(hZ:n256 bs / 2 ^ c<2 ^ (8*bs.length-c)):Beg ns ((ofBytes bs).drop c) s:=by
 refine⟨(mem_ris.1 hs).2,?_⟩
 have hlen:=left_length bs c
 have e:rowOf ns s=(ofBytes bs).drop c++List.replicate (key ns s-(8*bs.length-c)) 0:=by
  refine n2_inj _ _ (by rw[rowOf_length,List.length_append,hlen,List.length_replicate];omega) (rowOf_bit ns s) ?_ ?_
  ·intro x hx
   rcases List.mem_append.1 hx with hx | hx
   ·exact ofBytes_lt bs x (List.mem_of_mem_drop hx)
   ·have:=List.eq_of_mem_replicate hx;omega
  ·have h1:=left_n2 bs hb c (8*bs.length-c) (by omega)
   rw[List.take_of_length_le (by omega),Nat.mod_eq_of_lt hZ]at h1
   rw[n2_align,h1,rowOf_n2,←h,rv_rv,Nat.mod_eq_of_lt (Nat.lt_of_lt_of_le hZ (Nat.pow_le_pow_right (by omega) (by omega)))]
 rw[e]
 exact List.prefix_append _ _

theorem find_place(ns:List Nat)(X n:Nat)(hn:n≤(ris ns).length)(h:X<sumTo ns n):∃k,k<n∧sumTo ns k≤X∧X<sumTo ns (k+1):=by
 induction n with
 | zero=>simp[sumTo]at h
 | succ n ih=>
  by_cases h1:X<sumTo ns n
  ·obtain⟨k,hk,h2⟩:=ih (by omega) h1
   exact⟨k,by omega,h2⟩
  ·exact⟨n,by omega,by omega,h⟩

theorem alone_mx{ns:List Nat}(hu:(ris ns).length=1)(hm:measure ns=16384)(h15:∀s,key ns s≤15):mxL ns≤1:=by
 rcases(foldl_max ns 0).2.2 with h | h
 ·unfold mxL;omega
 ·obtain⟨s,hs,e⟩:=List.getElem_of_mem h
  have ek:key ns s=mxL ns:=by rw[key_get hs];exact e
  by_cases h0:mxL ns=0
  ·omega
  ·have hr:s∈ris ns:=mem_ris.2 ⟨hs,by omega⟩
   obtain⟨k,hk,rfl,a1,a2⟩:=place_of hr
   have hk0:k=0:=by omega
   subst hk0
   have h1:=sumTo_all ns
   rw[hu]at h1
   have h2:sumTo ns 0=0:=by simp[sumTo]
   have h3:2 ^ (15-key ns (ris ns)[0])=16384:=by
    have:sumTo ns (0+1)=measure ns:=h1
    omega
   have h4:=h15 (ris ns)[0]
   refine Classical.byContradiction (fun hc=>?_)
   have h5:2 ^ (15-key ns (ris ns)[0])≤2 ^ 13:=Nat.pow_le_pow_right (by omega) (by omega)
   have h6:(2:Nat) ^ 13=8192:=by decide
   omega

theorem usedN_ris2(ns:List Nat):usedN ns=(ris ns).length:=by
 have h:∀i,i≤ns.length→usedN (ns.take i)=(usedTo ns i).length:=by
  intro i
  induction i with
  | zero=>intro _;simp[usedN,usedTo]
  | succ i ih=>
   intro hi
   rw[List.take_succ_eq_append_getElem (by omega),usedN_snoc,ih (by omega),usedTo_succ,List.length_append,←key_get (by omega)]
   by_cases h:key ns i=0<;>simp[h]
 have h2:=h ns.length (Nat.le_refl _)
 rw[List.take_length]at h2
 rw[h2,(ris_perm ns).length_eq]
 rfl

theorem next_same{zs:List Int}{ns:List Nat}(hg:Good zs ns)(bs:List Nat)(hb:∀b∈bs,b<256)(c:Nat)(hc:c≤8*bs.length)(hZ:n256 bs / 2 ^ c<2 ^ (8*bs.length-c)){sym long er is k g:Nat}
  (ha:Ans ns (min (8*bs.length-c) (mxL ns)) (n256 bs / 2 ^ c % 2 ^ (min (8*bs.length-c) (mxL ns))) sym long er) (hr:RNext ns ((ofBytes bs).drop c) is k g):is=sym∧k=long∧g=er:=by
 have h15:=hg.key_le
 have hm:=hg.measure_le
 have hmx:mxL ns≤15:=mx_le ns 15 hg.le
 have hlen:=left_length bs c
 have hfit0:∀s,s<ns.length→Fit ns ((ofBytes bs).drop c) s→er=0∧sym=s∧long=key ns s:=by
  intro s hs hf
  have hsr:s∈ris ns:=mem_ris.2 ⟨hs,hf.1⟩
  obtain⟨h1,h2⟩:=(fit_iff hm hsr (h15 s) bs hb c hc).1 hf
  exact Ans.unique h15 hZ ha hmx hsr h1 h2
 have hok0:er=0→∃s,s<ns.length∧Fit ns ((ofBytes bs).drop c) s:=by
  intro e0
  rcases ha with⟨_,hs,hlong,hle,hrv⟩ | ⟨e,_⟩ | ⟨e,_⟩
  ·refine⟨sym,(mem_ris.1 hs).1,(fit_iff hm hs (h15 sym) bs hb c hc).2 ⟨by omega,?_⟩⟩
   rw[rv_mod _ _ _ hle,hlong]at hrv
   exact hrv
  ·omega
  ·omega
 have hbeg10:er=10→∃s,s<ns.length∧Beg ns ((ofBytes bs).drop c) s:=by
  intro e10
  rcases ha with⟨e,_⟩ | ⟨_,_,_,hlt,hsum⟩ | ⟨e,_⟩
  ·omega
  ·have hmin:min (8*bs.length-c) (mxL ns)=8*bs.length-c:=by omega
   rw[hmin,rv_mod _ _ _ (Nat.le_refl _),←rv_pad _ 15 _ hZ (by omega)]at hsum
   rw[hmin]at hlt
   have hX:rv 15 (n256 bs / 2 ^ c)<measure ns:=by
    have hk:=hg.ok
    unfold chkN at hk
    have hall:rv 15 (n256 bs / 2 ^ c)<32768:=rv_lt 15 _
    split at hk
    ·omega
    ·split at hk
     ·omega
     ·split at hk
      ·rename_i _ _ h3
       have h4:=alone_mx (by rw[←usedN_ris2];exact h3.1) h3.2 h15
       have h5:8*bs.length-c=0:=by omega
       rw[rv_pad _ 15 _ hZ (by omega),h5]
       simp[rv,h3.2]
      ·omega
   rw[←sumTo_all]at hX
   obtain⟨i,hi,h1,h2⟩:=find_place ns _ _ (Nat.le_refl _) hX
   have hmem:(ris ns)[i]∈ris ns:=List.getElem_mem hi
   have hkey:8*bs.length-c<key ns (ris ns)[i]:=by
    refine Classical.byContradiction (fun hcon=>?_)
    have h3:=(upN_index ns (8*bs.length-c) i hi).1 (by omega)
    have h4:=sumTo_le (ns:=ns) (show i+1≤upN ns (8*bs.length-c)from h3)
    omega
   refine⟨(ris ns)[i],(mem_ris.1 hmem).1,beg_of hmem bs hb c hc hkey ?_ hZ⟩
   refine(fits_iff hmem (h15 _)).2 ?_
   rw[start_at ns i hi]
   have h5:=sumTo_succ ns i hi
   rw[uk,unit,if_neg (mem_ris.1 hmem).2]at h5
   omega
  ·omega
 have hno32:er=32→∀s,s<ns.length→¬Beg ns ((ofBytes bs).drop c) s:=by
  intro e32 s hs hbg
  rcases ha with⟨e,_⟩ | ⟨e,_⟩ | ⟨_,_,_,hh,_⟩
  ·omega
  ·omega
  ·have h1:=hbg.2.length_le
   rw[rowOf_length,hlen]at h1
   have h2:=key_le_mx ns s
   have e1:(ofBytes bs).drop c=rowOf ns s:=hbg.2.eq_of_length (by rw[rowOf_length,hlen];omega)
   have h3:=hfit0 s hs ⟨hbg.1,by rw[e1];exact List.prefix_refl _⟩
   omega
 have hcases:er=0∨(er=10∧sym=0∧long=0)∨(er=32∧sym=0∧long=0):=by
  rcases ha with⟨e,_⟩ | ⟨e,e1,e2,_⟩ | ⟨e,e1,e2,_⟩
  ·exact .inl e
  ·exact .inr (.inl ⟨e,e1,e2⟩)
  ·exact .inr (.inr ⟨e,e1,e2⟩)
 rcases hr with⟨rfl,hi,hf,rfl,_⟩ | ⟨rfl,rfl,rfl,hnf,⟨s,hs,hbg⟩⟩ | ⟨rfl,rfl,rfl,hnf,hnb⟩
 ·obtain⟨h1,h2,h3⟩:=hfit0 is hi hf
  exact⟨h2.symm,h3.symm,h1.symm⟩
 ·rcases hcases with h | ⟨h1,h2,h3⟩ | ⟨h1,_⟩
  ·obtain⟨t,ht,hf⟩:=hok0 h
   exact absurd hf (hnf t ht)
  ·exact⟨h2.symm,h3.symm,h1.symm⟩
  ·exact absurd hbg (hno32 h1 s hs)
 ·rcases hcases with h | ⟨h1,_⟩ | ⟨h1,h2,h3⟩
  ·obtain⟨t,ht,hf⟩:=hok0 h
   exact absurd hf (hnf t ht)
  ·obtain⟨s,hs,hbg⟩:=hbeg10 h1
   exact absurd hbg (hnb s hs)
  ·exact⟨h2.symm,h3.symm,h1.symm⟩

def fitB(ns t:List Nat)(s:Nat):Bool:=key ns s != 0 && (rowOf ns s).isPrefixOf t
def begB(ns t:List Nat)(s:Nat):Bool:=key ns s != 0 && t.isPrefixOf (rowOf ns s)
def nextF(ns t:List Nat):Nat×Nat×Nat:=
 match (List.range ns.length).find? (fitB ns t) with
 | some s=>(s,key ns s,0)
 | none=>if (List.range ns.length).any (begB ns t)=true then(0,0,10) else(0,0,32)

theorem fitB_iff(ns t:List Nat)(s:Nat):fitB ns t s=true↔Fit ns t s:=by simp[fitB,Fit,List.isPrefixOf_iff_prefix]
theorem begB_iff(ns t:List Nat)(s:Nat):begB ns t s=true↔Beg ns t s:=by simp[begB,Beg,List.isPrefixOf_iff_prefix]

theorem nextF_is(ns t:List Nat):RNext ns t (nextF ns t).1 (nextF ns t).2.1 (nextF ns t).2.2:=by
 unfold nextF
 split
 ·rename_i s h
  rw[List.find?_range_eq_some]at h
  obtain⟨h1,h2,h3⟩:=h
  refine .inl ⟨rfl,by simpa using h2,(fitB_iff ns t s).1 h1,rfl,fun j hj hf=>?_⟩
  have:=h3 j hj
  rw[(fitB_iff ns t j).2 hf]at this
  cases this
 ·rename_i h
  rw[List.find?_range_eq_none]at h
  have hnf:∀s,s<ns.length→¬Fit ns t s:=fun s hs hf=>by
   have:=h s hs
   rw[(fitB_iff ns t s).2 hf]at this
   cases this
  split
  ·rename_i h2
   obtain⟨s,hs,hb⟩:=List.any_eq_true.1 h2
   exact .inr (.inl ⟨rfl,rfl,rfl,hnf,s,by simpa using hs,(begB_iff ns t s).1 hb⟩)
  ·rename_i h2
   refine .inr (.inr ⟨rfl,rfl,rfl,hnf,fun s hs hb=>h2 ?_⟩)
   exact List.any_eq_true.2 ⟨s,by simpa using hs,(begB_iff ns t s).2 hb⟩

theorem RNext.one{ns t:List Nat}{a b c a' b' c':Nat}(h:RNext ns t a b c)(h':RNext ns t a' b' c'):a=a'∧b=b'∧c=c':=by
 rcases h with⟨rfl,h1,h2,rfl,h3⟩ | ⟨rfl,rfl,rfl,h1,h2⟩ | ⟨rfl,rfl,rfl,h1,h2⟩<;>rcases h' with⟨rfl,k1,k2,rfl,k3⟩ | ⟨rfl,rfl,rfl,k1,k2⟩ | ⟨rfl,rfl,rfl,k1,k2⟩
 ·have e:a=a':=by
   rcases Nat.lt_trichotomy a a' with h | h | h
   ·exact absurd h2 (k3 a h)
   ·exact h
   ·exact absurd k2 (h3 a' h)
  subst e
  exact⟨rfl,rfl,rfl⟩
 ·exact absurd h2 (k1 a h1)
 ·exact absurd h2 (k1 a h1)
 ·exact absurd k2 (h1 a' k1)
 ·exact⟨rfl,rfl,rfl⟩
 ·obtain⟨s,hs,hb⟩:=h2
  exact absurd hb (k2 s hs)
 ·exact absurd k2 (h1 a' k1)
 ·obtain⟨s,hs,hb⟩:=k2
  exact absurd hb (h2 s hs)
 ·exact⟨rfl,rfl,rfl⟩

theorem nextF_of{ns t:List Nat}{is k g:Nat}(h:RNext ns t is k g):nextF ns t=(is,k,g):=by
 obtain⟨h1,h2,h3⟩:=(nextF_is ns t).one h
 exact Prod.ext h1 (Prod.ext h2 h3)

end Go.Proofs.YtggcbnhckcenmaaGreatDoor
