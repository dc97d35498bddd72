/-
  Of the proof: parts HRows, HNextM, LnM, InM, LnPackM, LnRef, HNextW, HRowsW, LnPack, LnPack2, LnSame, InTk, InNm.
-/
import Derived.Test.YtggcbnhckcenmaaGreatDoorJ6
import Derived.Test.YtggcbnhckcenmaaGreatDoorJ8
import Derived.Test.YtggcbnhckcenmaaGreatDoorJ1
import Derived.Test.YtggcbnhckcenmaaGreatDoorJ3
import Derived.Test.YtggcbnhckcenmaaGreatDoorJ7

namespace Go.Proofs.YtggcbnhckcenmaaGreatDoor
open Go.RowKit

def rowB:Nat→Nat→List Nat
 | 0,_=>[]
 | n+1,c=>rowB n (c / 2)++[c % 2]

theorem rowB_length(n c:Nat):(rowB n c).length=n:=by
 induction n generalizing c with
 | zero=>rfl
 | succ n ih=>simp[rowB,ih]

theorem rowB_n2(n c:Nat):n2 (rowB n c)=rv n c:=by
 induction n generalizing c with
 | zero=>rfl
 | succ n ih=>
  simp only[rowB,rv]
  rw[n2_append,ih,rowB_length]
  simp[n2,Nat.mul_comm]
  omega

theorem rowB_bit(n c:Nat):∀b∈rowB n c,b<2:=by
 induction n generalizing c with
 | zero=>simp[rowB]
 | succ n ih=>
  intro b hb
  rcases List.mem_append.1 hb with hb | hb
  ·exact ih _ b hb
  ·have:b=c % 2:=by simpa using hb
   omega

def pre(ns:List Nat)(n i t:Nat):Prop:=key ns t<n∨key ns t=n∧t<i
instance (ns:List Nat) (n i t:Nat):Decidable (pre ns n i t):=inferInstanceAs (Decidable (_∨_))

def sumP(ns:List Nat)(n i:Nat):Nat:=(((ris ns).filter (fun t=>decide (pre ns n i t))).map (uk ns)).sum

theorem sumP_start(ns:List Nat):sumP ns 1 0=0:=by
 unfold sumP
 rw[List.filter_eq_nil_iff.2]
 ·rfl
 ·intro t ht h
  have:=(mem_ris.1 ht).2
  simp[pre]at h
  omega

theorem sumP_miss(ns:List Nat)(n i:Nat)(h:key ns i≠n):sumP ns n (i+1)=sumP ns n i:=by
 unfold sumP
 congr 2
 refine List.filter_congr (fun t _=>decide_eq_decide.2 ?_)
 unfold pre
 constructor
 ·rintro(h1 | ⟨h1,h2⟩)
  ·exact .inl h1
  ·refine .inr ⟨h1,?_⟩
   by_cases e:t=i
   ·subst e;exact absurd h1 h
   ·omega
 ·rintro(h1 | ⟨h1,h2⟩)
  ·exact .inl h1
  ·exact .inr ⟨h1,by omega⟩

theorem sumP_round(ns:List Nat)(n:Nat):sumP ns n ns.length=sumP ns (n+1) 0:=by
 unfold sumP
 congr 2
 refine List.filter_congr (fun t ht=>decide_eq_decide.2 ?_)
 have:=(mem_ris.1 ht).1
 unfold pre
 omega

theorem sumP_hit(ns:List Nat)(i:Nat):sumP ns (key ns i) i=startOf ns i:=by
 unfold sumP startOf
 congr 2

theorem sumP_next(ns:List Nat)(i:Nat)(hi:i∈ris ns):sumP ns (key ns i) (i+1)=startOf ns i+2 ^ (15-key ns i):=by
 obtain⟨k,hk,rfl,a1,a2⟩:=place_of hi
 rw[←a2]
 unfold sumP sumTo
 congr 2
 have hs:=ris_sorted ns
 have hsplit:(ris ns)=(ris ns).take k++(ris ns)[k]::(ris ns).drop (k+1):=by
  rw[←List.drop_eq_getElem_cons hk,List.take_append_drop]
 rw[List.take_succ_eq_append_getElem hk]
 generalize hx:(ris ns)[k]=x at *
 generalize hA:(ris ns).take k=A at *
 generalize (ris ns).drop (k+1)=B at *
 rw[hsplit]at hs ⊢
 rw[List.filter_append,List.filter_cons_of_pos (by simp[pre])]
 have h1:A.filter (fun t=>decide (pre ns (key ns x) (x+1) t))=A:=List.filter_eq_self.2 (fun a ha=>by
  have:=Sorted.cross hs a ha x (by simp)
  refine decide_eq_true ?_
  unfold pre
  unfold Lt at this
  omega)
 have h2:B.filter (fun t=>decide (pre ns (key ns x) (x+1) t))=[]:=List.filter_eq_nil_iff.2 (fun b hb=>by
  have:=(List.pairwise_cons.1 (Sorted.right hs)).1 b hb
  intro hc
  have hc:=of_decide_eq_true hc
  unfold pre at hc
  unfold Lt at this
  omega)
 rw[h1,h2]

abbrev BRow(B:Nat):=RowE B 22 slV

theorem BRow.apart{B:Nat}{w:World}{v v':Value}{bs:List Nat}{vs:List (Option Addr×Nat×Nat)}(h:Row w v bs)(h':BRow B w v' vs){j g:Nat}(hj:v.ownBlock=some j)(hg:v'.ownBlock=some g):j≠g:=by
 rintro rfl
 rcases h.2 with⟨rfl,_⟩ | ⟨g1,c1,cur1,rfl,_,e1,_⟩
 ·simp[Value.ownBlock]at hj
 ·rcases h'.2 with⟨rfl,_⟩ | ⟨g2,c2,cur2,rfl,_,e2,_⟩
  ·simp[Value.ownBlock]at hg
  ·simp[Value.ownBlock]at hj hg
   subst hj hg
   rw[e1]at e2
   simp at e2

theorem Tryz.infoB:(Tryz.prog.info? 22).map (fun i=>(i.zero,i.size,i.bytes))=some (some (slV (none,0,0)),1,24):=by kernel_rfl

structure RW(w0 w':World)(go n:Nat)(ns:List Nat)(p:Nat→Prop)(rs:List (Option Addr×Nat×Nat)):Prop where
 row:BRow w0.heap.size w' (.slice (some ⟨go,0,none⟩) n n) rs
 have':∀s (h:s<rs.length),p s→Row w' (slV rs[s]) (rowB (key ns s) (codeOf ns s))∧∀k,(slV rs[s]).ownBlock=some k→w0.heap.size≤k
 none':∀s (h:s<rs.length),¬p s→rs[s]=(none,0,0)
 same:Same w0 w'

theorem RW.mono{w0 w':World}{go n:Nat}{ns:List Nat}{p q:Nat→Prop}{rs:List (Option Addr×Nat×Nat)}(h:RW w0 w' go n ns p rs)(hpq:∀s,s<rs.length→(p s↔q s)):RW w0 w' go n ns q rs:=
 ⟨h.row,fun s hs hq=>h.have' s hs ((hpq s hs).2 hq),fun s hs hq=>h.none' s hs (fun hp=>hq ((hpq s hs).1 hp)),h.same⟩

theorem RW.later{w0 w' w2:World}{go n:Nat}{ns:List Nat}{p:Nat→Prop}{rs:List (Option Addr×Nat×Nat)}(h:RW w0 w' go n ns p rs)(hk:Same w' w2):RW w0 w2 go n ns p rs:=
 ⟨h.row.same hk,fun s hs hp=>⟨(h.have' s hs hp).1.kept hk (fun _ _ f=>f),(h.have' s hs hp).2⟩,h.none',Same.trans h.same hk⟩

theorem RW.put{w0 w':World}{go n:Nat}{ns:List Nat}{p:Nat→Prop}{rs:List (Option Addr×Nat×Nat)}(h:RW w0 w' go n ns p rs)(i:Nat)(a:Option Addr)(l c:Nat)(_hi:i<rs.length)(hrow:Row w' (.slice a l c) (rowB (key ns i) (codeOf ns i)))(hb:∀k,(Value.slice a l c).ownBlock=some k→w0.heap.size≤k):
  RW w0 (w'.setCell ⟨go,i,none⟩ (.slice a l c)) go n ns (fun s=>s=i∨p s) (rs.set i (a,l,c)):=by
 have hk:Kept (·=go) w' (w'.setCell ⟨go,i,none⟩ (.slice a l c)):=(Kept.refl (·=go) w').setCell ⟨go,i,none⟩ _ (.inl rfl)
 have hgo:w0.heap.size≤go:=h.row.ge rfl
 refine⟨h.row.lay i (a,l,c),fun s hs hp=>?_,fun s hs hp=>?_,Same.then h.same hk (fun x hx e=>by omega)⟩
 ·rw[List.length_set]at hs
  by_cases e:i=s
  ·subst e
   simp only[List.getElem_set_self]
   exact⟨hrow.kept hk (fun k hk' e=>BRow.apart hrow h.row hk' rfl e),hb⟩
  ·simp only[List.getElem_set_ne e]
   have hp2:p s:=by rcases hp with h1 | h1;exact absurd h1.symm e;exact h1
   have h2:=h.have' s hs hp2
   exact⟨h2.1.kept hk (fun k hk' e=>BRow.apart h2.1 h.row hk' rfl e),h2.2⟩
 ·rw[List.length_set]at hs
  have e:i≠s:=fun e=>hp (.inl e.symm)
  simp only[List.getElem_set_ne e]
  exact h.none' s hs (fun h1=>hp (.inr h1))

end Go.Proofs.YtggcbnhckcenmaaGreatDoor

namespace Go.Proofs.YtggcbnhckcenmaaGreatDoor

theorem n2_inj(a b:List Nat)(hl:a.length=b.length)(ha:∀x∈a,x<2)(hb:∀x∈b,x<2)(h:n2 a=n2 b):a=b:=by
 induction a generalizing b with
 | nil=>cases b with
  | nil=>rfl
  | cons y r=>simp at hl
 | cons x l ih=>cases b with
  | nil=>simp at hl
  | cons y r=>
   have hx:=ha x (by simp)
   have hy:=hb y (by simp)
   simp only[n2]at h
   have e1:x=y:=by omega
   have e2:n2 l=n2 r:=by omega
   rw[e1,ih r (by simpa using hl) (fun z hz=>ha z (by simp[hz])) (fun z hz=>hb z (by simp[hz])) e2]

theorem code_lt2{ns:List Nat}{s:Nat}(hm:measure ns≤32768)(hs:s∈ris ns)(h15:key ns s≤15):codeOf ns s<2 ^ key ns s:=by
 obtain⟨k,hk,rfl,a1,a2⟩:=place_of hs
 have h1:=sumTo_mono ns (k+1)
 have h2:=code_start ns (ris ns)[k]
 have h3:(codeOf ns (ris ns)[k]+1)*2 ^ (15-key ns (ris ns)[k])≤2 ^ key ns (ris ns)[k]*2 ^ (15-key ns (ris ns)[k]):=by
  rw[←Nat.pow_add,show key ns (ris ns)[k]+(15-key ns (ris ns)[k])=15 by omega,Nat.add_mul,Nat.one_mul]
  have:(2:Nat) ^ 15=32768:=by decide
  omega
 have:=Nat.le_of_mul_le_mul_right h3 (Nat.two_pow_pos _)
 omega

def rowOf(ns:List Nat)(s:Nat):List Nat:=rowB (key ns s) (codeOf ns s)
def Fit(ns t:List Nat)(s:Nat):Prop:=key ns s≠0∧rowOf ns s <+: t
def Beg(ns t:List Nat)(s:Nat):Prop:=key ns s≠0∧t <+: rowOf ns s

def RNext(ns t:List Nat)(is k g:Nat):Prop:=
 (g=0∧is<ns.length∧Fit ns t is∧k=key ns is∧∀s,s<is→¬Fit ns t s) ∨
 (g=10∧is=0∧k=0∧(∀s,s<ns.length→¬Fit ns t s)∧∃s,s<ns.length∧Beg ns t s) ∨
 (g=32∧is=0∧k=0∧(∀s,s<ns.length→¬Fit ns t s)∧∀s,s<ns.length→¬Beg ns t s)

theorem rowOf_length(ns:List Nat)(s:Nat):(rowOf ns s).length=key ns s:=rowB_length _ _
theorem rowOf_n2(ns:List Nat)(s:Nat):n2 (rowOf ns s)=rv (key ns s) (codeOf ns s):=rowB_n2 _ _
theorem rowOf_bit(ns:List Nat)(s:Nat):∀b∈rowOf ns s,b<2:=rowB_bit _ _

theorem left_n2(bs:List Nat)(hb:∀b∈bs,b<256)(c n:Nat)(h:c+n≤8*bs.length):n2 (((ofBytes bs).drop c).take n)=n256 bs / 2 ^ c % 2 ^ n:=by
 rw[n2_part (ofBytes bs) (ofBytes_lt bs) c n (by rw[ofBytes_length];exact h),ofBytes_n2 bs hb]

theorem left_length(bs:List Nat)(c:Nat):((ofBytes bs).drop c).length=8*bs.length-c:=by rw[List.length_drop,ofBytes_length]

theorem fit_iff{ns:List Nat}{s:Nat}(hm:measure ns≤32768)(hs:s∈ris ns)(h15:key ns s≤15)(bs:List Nat)(hb:∀b∈bs,b<256)(c:Nat)(hc:c≤8*bs.length):
  Fit ns ((ofBytes bs).drop c) s↔key ns s≤8*bs.length-c∧rv (key ns s) (n256 bs / 2 ^ c)=codeOf ns s:=by
 have hlen:=left_length bs c
 have hcl:=code_lt2 hm hs h15
 unfold Fit
 rw[List.prefix_iff_eq_take,rowOf_length]
 constructor
 ·rintro⟨_,h⟩
  have hl:=congrArg List.length h
  rw[rowOf_length,List.length_take,hlen]at hl
  have hk:key ns s≤8*bs.length-c:=by omega
  refine⟨hk,?_⟩
  have h2:=congrArg n2 h
  rw[rowOf_n2,left_n2 bs hb c _ (by omega)]at h2
  rw[←rv_mod (key ns s) (key ns s) _ (Nat.le_refl _),←h2,rv_rv,Nat.mod_eq_of_lt hcl]
 ·rintro⟨hk,h⟩
  refine⟨(mem_ris.1 hs).2,?_⟩
  refine n2_inj _ _ (by rw[rowOf_length,List.length_take,hlen];omega) (rowOf_bit ns s) (fun x hx=>ofBytes_lt bs x (List.mem_of_mem_drop (List.mem_of_mem_take hx))) ?_
  rw[rowOf_n2,left_n2 bs hb c _ (by omega),←h,rv_rv]

theorem beg_of{ns:List Nat}{s:Nat}(hs:s∈ris ns)(bs:List Nat)(hb:∀b∈bs,b<256)(c:Nat)(hc:c≤8*bs.length)(hk:8*bs.length-c<key ns s)(h:rv (key ns s) (n256 bs / 2 ^ c)=codeOf ns s)(hZ:n256 bs / 2 ^ c<2 ^ (8*bs.length-c)):Beg ns ((ofBytes bs).drop c) s:=by
 refine⟨(mem_ris.1 hs).2,?_⟩
 have hlen:=left_length bs c
 have e:rowOf ns s=(ofBytes bs).drop c++List.replicate (key ns s-(8*bs.length-c)) 0:=by
  refine n2_inj _ _ (by rw[rowOf_length,List.length_append,hlen,List.length_replicate];omega) (rowOf_bit ns s) ?_ ?_
  ·intro x hx
   rcases List.mem_append.1 hx with hx | hx
   ·exact ofBytes_lt bs x (List.mem_of_mem_drop hx)
   ·have:=List.eq_of_mem_replicate hx;omega
  ·have h1:=left_n2 bs hb c (8*bs.length-c) (by omega)
   rw[List.take_of_length_le (by omega),Nat.mod_eq_of_lt hZ]at h1
   rw[n2_align,h1,rowOf_n2,←h,rv_rv,Nat.mod_eq_of_lt (Nat.lt_of_lt_of_le hZ (Nat.pow_le_pow_right (by omega) (by omega)))]
 rw[e]
 exact List.prefix_append _ _

theorem find_place(ns:List Nat)(X n:Nat)(hn:n≤(ris ns).length)(h:X<sumTo ns n):∃k,k<n∧sumTo ns k≤X∧X<sumTo ns (k+1):=by
 induction n with
 | zero=>simp[sumTo]at h
 | succ n ih=>
  by_cases h1:X<sumTo ns n
  ·obtain⟨k,hk,h2⟩:=ih (by omega) h1
   exact⟨k,by omega,h2⟩
  ·exact⟨n,by omega,by omega,h⟩

theorem alone_mx{ns:List Nat}(hu:(ris ns).length=1)(hm:measure ns=16384)(h15:∀s,key ns s≤15):mxL ns≤1:=by
 rcases(foldl_max ns 0).2.2 with h | h
 ·unfold mxL;omega
 ·obtain⟨s,hs,e⟩:=List.getElem_of_mem h
  have ek:key ns s=mxL ns:=by rw[key_get hs];exact e
  by_cases h0:mxL ns=0
  ·omega
  ·have hr:s∈ris ns:=mem_ris.2 ⟨hs,by omega⟩
   obtain⟨k,hk,rfl,a1,a2⟩:=place_of hr
   have hk0:k=0:=by omega
   subst hk0
   have h1:=sumTo_all ns
   rw[hu]at h1
   have h2:sumTo ns 0=0:=by simp[sumTo]
   have h3:2 ^ (15-key ns (ris ns)[0])=16384:=by
    have:sumTo ns (0+1)=measure ns:=h1
    omega
   have h4:=h15 (ris ns)[0]
   refine Classical.byContradiction (fun hc=>?_)
   have h5:2 ^ (15-key ns (ris ns)[0])≤2 ^ 13:=Nat.pow_le_pow_right (by omega) (by omega)
   have h6:(2:Nat) ^ 13=8192:=by decide
   omega

theorem usedN_ris2(ns:List Nat):usedN ns=(ris ns).length:=by
 have h:∀i,i≤ns.length→usedN (ns.take i)=(usedTo ns i).length:=by
  intro i
  induction i with
  | zero=>intro _;simp[usedN,usedTo]
  | succ i ih=>
   intro hi
   rw[List.take_succ_eq_append_getElem (by omega),usedN_snoc,ih (by omega),usedTo_succ,List.length_append,←key_get (by omega)]
   by_cases h:key ns i=0<;>simp[h]
 have h2:=h ns.length (Nat.le_refl _)
 rw[List.take_length]at h2
 rw[h2,(ris_perm ns).length_eq]
 rfl

theorem next_same{zs:List Int}{ns:List Nat}(hg:Good zs ns)(bs:List Nat)(hb:∀b∈bs,b<256)(c:Nat)(hc:c≤8*bs.length)(hZ:n256 bs / 2 ^ c<2 ^ (8*bs.length-c)){sym long er is k g:Nat}
  (ha:Ans ns (min (8*bs.length-c) (mxL ns)) (n256 bs / 2 ^ c % 2 ^ (min (8*bs.length-c) (mxL ns))) sym long er) (hr:RNext ns ((ofBytes bs).drop c) is k g):is=sym∧k=long∧g=er:=by
 have h15:=hg.key_le
 have hm:=hg.measure_le
 have hmx:mxL ns≤15:=mx_le ns 15 hg.le
 have hlen:=left_length bs c
 have hfit0:∀s,s<ns.length→Fit ns ((ofBytes bs).drop c) s→er=0∧sym=s∧long=key ns s:=by
  intro s hs hf
  have hsr:s∈ris ns:=mem_ris.2 ⟨hs,hf.1⟩
  obtain⟨h1,h2⟩:=(fit_iff hm hsr (h15 s) bs hb c hc).1 hf
  exact Ans.unique h15 hZ ha hmx hsr h1 h2
 have hok0:er=0→∃s,s<ns.length∧Fit ns ((ofBytes bs).drop c) s:=by
  intro e0
  rcases ha with⟨_,hs,hlong,hle,hrv⟩ | ⟨e,_⟩ | ⟨e,_⟩
  ·refine⟨sym,(mem_ris.1 hs).1,(fit_iff hm hs (h15 sym) bs hb c hc).2 ⟨by omega,?_⟩⟩
   rw[rv_mod _ _ _ hle,hlong]at hrv
   exact hrv
  ·omega
  ·omega
 have hbeg10:er=10→∃s,s<ns.length∧Beg ns ((ofBytes bs).drop c) s:=by
  intro e10
  rcases ha with⟨e,_⟩ | ⟨_,_,_,hlt,hsum⟩ | ⟨e,_⟩
  ·omega
  ·have hmin:min (8*bs.length-c) (mxL ns)=8*bs.length-c:=by omega
   rw[hmin,rv_mod _ _ _ (Nat.le_refl _),←rv_pad _ 15 _ hZ (by omega)]at hsum
   rw[hmin]at hlt
   have hX:rv 15 (n256 bs / 2 ^ c)<measure ns:=by
    have hk:=hg.ok
    unfold chkN at hk
    have hall:rv 15 (n256 bs / 2 ^ c)<32768:=rv_lt 15 _
    split at hk
    ·omega
    ·split at hk
     ·omega
     ·split at hk
      ·rename_i _ _ h3
       have h4:=alone_mx (by rw[←usedN_ris2];exact h3.1) h3.2 h15
       have h5:8*bs.length-c=0:=by omega
       rw[rv_pad _ 15 _ hZ (by omega),h5]
       simp[rv,h3.2]
      ·omega
   rw[←sumTo_all]at hX
   obtain⟨i,hi,h1,h2⟩:=find_place ns _ _ (Nat.le_refl _) hX
   have hmem:(ris ns)[i]∈ris ns:=List.getElem_mem hi
   have hkey:8*bs.length-c<key ns (ris ns)[i]:=by
    refine Classical.byContradiction (fun hcon=>?_)
    have h3:=(upN_index ns (8*bs.length-c) i hi).1 (by omega)
    have h4:=sumTo_le (ns:=ns) (show i+1≤upN ns (8*bs.length-c)from h3)
    omega
   refine⟨(ris ns)[i],(mem_ris.1 hmem).1,beg_of hmem bs hb c hc hkey ?_ hZ⟩
   refine(fits_iff hmem (h15 _)).2 ?_
   rw[start_at ns i hi]
   have h5:=sumTo_succ ns i hi
   rw[uk,unit,if_neg (mem_ris.1 hmem).2]at h5
   omega
  ·omega
 have hno32:er=32→∀s,s<ns.length→¬Beg ns ((ofBytes bs).drop c) s:=by
  intro e32 s hs hbg
  rcases ha with⟨e,_⟩ | ⟨e,_⟩ | ⟨_,_,_,hh,_⟩
  ·omega
  ·omega
  ·have h1:=hbg.2.length_le
   rw[rowOf_length,hlen]at h1
   have h2:=key_le_mx ns s
   have e1:(ofBytes bs).drop c=rowOf ns s:=hbg.2.eq_of_length (by rw[rowOf_length,hlen];omega)
   have h3:=hfit0 s hs ⟨hbg.1,by rw[e1];exact List.prefix_refl _⟩
   omega
 have hcases:er=0∨(er=10∧sym=0∧long=0)∨(er=32∧sym=0∧long=0):=by
  rcases ha with⟨e,_⟩ | ⟨e,e1,e2,_⟩ | ⟨e,e1,e2,_⟩
  ·exact .inl e
  ·exact .inr (.inl ⟨e,e1,e2⟩)
  ·exact .inr (.inr ⟨e,e1,e2⟩)
 rcases hr with⟨rfl,hi,hf,rfl,_⟩ | ⟨rfl,rfl,rfl,hnf,⟨s,hs,hbg⟩⟩ | ⟨rfl,rfl,rfl,hnf,hnb⟩
 ·obtain⟨h1,h2,h3⟩:=hfit0 is hi hf
  exact⟨h2.symm,h3.symm,h1.symm⟩
 ·rcases hcases with h | ⟨h1,h2,h3⟩ | ⟨h1,_⟩
  ·obtain⟨t,ht,hf⟩:=hok0 h
   exact absurd hf (hnf t ht)
  ·exact⟨h2.symm,h3.symm,h1.symm⟩
  ·exact absurd hbg (hno32 h1 s hs)
 ·rcases hcases with h | ⟨h1,_⟩ | ⟨h1,h2,h3⟩
  ·obtain⟨t,ht,hf⟩:=hok0 h
   exact absurd hf (hnf t ht)
  ·obtain⟨s,hs,hbg⟩:=hbeg10 h1
   exact absurd hbg (hnb s hs)
  ·exact⟨h2.symm,h3.symm,h1.symm⟩

def fitB(ns t:List Nat)(s:Nat):Bool:=key ns s != 0 && (rowOf ns s).isPrefixOf t
def begB(ns t:List Nat)(s:Nat):Bool:=key ns s != 0 && t.isPrefixOf (rowOf ns s)
def nextF(ns t:List Nat):Nat×Nat×Nat:=
 match (List.range ns.length).find? (fitB ns t) with
 | some s=>(s,key ns s,0)
 | none=>if (List.range ns.length).any (begB ns t)=true then(0,0,10) else(0,0,32)

theorem fitB_iff(ns t:List Nat)(s:Nat):fitB ns t s=true↔Fit ns t s:=by simp[fitB,Fit,List.isPrefixOf_iff_prefix]
theorem begB_iff(ns t:List Nat)(s:Nat):begB ns t s=true↔Beg ns t s:=by simp[begB,Beg,List.isPrefixOf_iff_prefix]

theorem nextF_is(ns t:List Nat):RNext ns t (nextF ns t).1 (nextF ns t).2.1 (nextF ns t).2.2:=by
 unfold nextF
 split
 ·rename_i s h
  rw[List.find?_range_eq_some]at h
  obtain⟨h1,h2,h3⟩:=h
  refine .inl ⟨rfl,by simpa using h2,(fitB_iff ns t s).1 h1,rfl,fun j hj hf=>?_⟩
  have:=h3 j hj
  rw[(fitB_iff ns t j).2 hf]at this
  cases this
 ·rename_i h
  rw[List.find?_range_eq_none]at h
  have hnf:∀s,s<ns.length→¬Fit ns t s:=fun s hs hf=>by
   have:=h s hs
   rw[(fitB_iff ns t s).2 hf]at this
   cases this
  split
  ·rename_i h2
   obtain⟨s,hs,hb⟩:=List.any_eq_true.1 h2
   exact .inr (.inl ⟨rfl,rfl,rfl,hnf,s,by simpa using hs,(begB_iff ns t s).1 hb⟩)
  ·rename_i h2
   refine .inr (.inr ⟨rfl,rfl,rfl,hnf,fun s hs hb=>h2 ?_⟩)
   exact List.any_eq_true.2 ⟨s,by simpa using hs,(begB_iff ns t s).2 hb⟩

theorem RNext.one{ns t:List Nat}{a b c a' b' c':Nat}(h:RNext ns t a b c)(h':RNext ns t a' b' c'):a=a'∧b=b'∧c=c':=by
 rcases h with⟨rfl,h1,h2,rfl,h3⟩ | ⟨rfl,rfl,rfl,h1,h2⟩ | ⟨rfl,rfl,rfl,h1,h2⟩<;>rcases h' with⟨rfl,k1,k2,rfl,k3⟩ | ⟨rfl,rfl,rfl,k1,k2⟩ | ⟨rfl,rfl,rfl,k1,k2⟩
 ·have e:a=a':=by
   rcases Nat.lt_trichotomy a a' with h | h | h
   ·exact absurd h2 (k3 a h)
   ·exact h
   ·exact absurd k2 (h3 a' h)
  subst e
  exact⟨rfl,rfl,rfl⟩
 ·exact absurd h2 (k1 a h1)
 ·exact absurd h2 (k1 a h1)
 ·exact absurd k2 (h1 a' k1)
 ·exact⟨rfl,rfl,rfl⟩
 ·obtain⟨s,hs,hb⟩:=h2
  exact absurd hb (k2 s hs)
 ·exact absurd k2 (h1 a' k1)
 ·obtain⟨s,hs,hb⟩:=k2
  exact absurd hb (h2 s hs)
 ·exact⟨rfl,rfl,rfl⟩

theorem nextF_of{ns t:List Nat}{is k g:Nat}(h:RNext ns t is k g):nextF ns t=(is,k,g):=by
 obtain⟨h1,h2,h3⟩:=(nextF_is ns t).one h
 exact Prod.ext h1 (Prod.ext h2 h3)

end Go.Proofs.YtggcbnhckcenmaaGreatDoor

namespace Go.Proofs.YtggcbnhckcenmaaGreatDoor

def lastN(l:List Nat):Nat:=l.getD (l.length-1) 0

theorem lastN_mem(l:List Nat)(h:0<l.length):lastN l∈l:=by
 have hl:l.length-1<l.length:=by omega
 have e:lastN l=l[l.length-1]:=by simp[lastN,List.getD,hl]
 rw[e]
 exact List.getElem_mem _

def saysM(s:Int×Int)(l:List Nat):Option (Nat×Nat):=
 if 0≤s.1∧s.1≤15∧s.2=0 then some (s.1.toNat,1)
 else if s.1=16∧0≤s.2∧s.2≤3∧0<l.length then some (lastN l,s.2.toNat+3)
 else if s.1=17∧0≤s.2∧s.2≤7 then some (0,s.2.toNat+3)
 else if s.1=18∧0≤s.2∧s.2≤127 then some (0,s.2.toNat+11)
 else none

theorem saysM_le{s:Int×Int}{l:List Nat}{v k:Nat}(h:saysM s l=some (v,k))(hl:∀x∈l,x≤15):v≤15∧1≤k∧k≤138:=by
 unfold saysM at h
 split at h
 ·simp at h;omega
 ·split at h
  ·simp at h
   obtain⟨rfl,rfl⟩:=h
   rename_i _ h2
   refine⟨?_,by omega,by omega⟩
   exact hl _ (lastN_mem l h2.2.2.2)
  ·split at h
   ·simp at h;omega
   ·split at h
    ·simp at h;omega
    ·cases h

def withM(l:List Nat)(s:Int×Int)(n:Nat):Option (List Nat):=
 match saysM s l with
 | none=>none
 | some (v,k)=>if n<l.length+k then none else some (l++List.replicate k v)

theorem withM_grows{l m:List Nat}{s:Int×Int}{n:Nat}(h:withM l s n=some m)(hl:∀x∈l,x≤15):l.length<m.length∧m.length≤n∧∀x∈m,x≤15:=by
 unfold withM at h
 split at h
 ·cases h
 ·rename_i v k hs
  have h1:=saysM_le hs hl
  split at h
  ·cases h
  ·simp only[Option.some.injEq]at h
   subst h
   rw[List.length_append,List.length_replicate]
   refine⟨by omega,by omega,fun x hx=>?_⟩
   rcases List.mem_append.1 hx with hx | hx
   ·exact hl x hx
   ·have:=List.eq_of_mem_replicate hx;omega

def runM(n:Nat):List Nat→List (Int×Int)→Option (List Nat)
 | l,[]=>some l
 | l,s::r=>match withM l s n with
  | none=>none
  | some m=>runM n m r

def zerosM(n:Nat):List (Int×Int):=
 if 11≤n then(18,((min n 138-11:Nat):Int))::zerosM (n-min n 138)
 else if 3≤n then [(17,((n-3:Nat):Int))]else List.replicate n (0,0)
termination_by n
decreasing_by omega

def againM(v n:Nat):List (Int×Int):=
 if 3≤n then(16,((min n 6-3:Nat):Int))::againM v (n-min n 6)else List.replicate n ((v:Int),0)
termination_by n
decreasing_by omega

def sayM(v n:Nat):List (Int×Int):=if v=0 then zerosM n else((v:Int),0)::againM v (n-1)

def frontN(v:Nat)(l:List Nat):Nat:=(l.takeWhile (fun x=>decide (x=v))).length

theorem frontN_le(v:Nat)(l:List Nat):frontN v l≤l.length:=by
 exact(List.takeWhile_prefix _).length_le

def packM:List Nat→List (Int×Int)
 | []=>[]
 | v::r=>sayM v (1+frontN v r)++packM (r.drop (frontN v r))
termination_by l=>l.length
decreasing_by simp;omega

theorem packM_cons(v:Nat)(r:List Nat):packM (v::r)=sayM v (1+frontN v r)++packM (r.drop (frontN v r)):=by rw[packM]

def packA(zs:List Int):Except Nat (List (Int×Int)):=
 if zs.length≤316∧∀z∈zs,0≤z∧z≤15 then .ok (packM (zs.map Int.toNat))else .error 1

def xbits(sym:Nat):Nat:=if sym=16 then 2 else if sym=17 then 3 else if sym=18 then 7 else 0

def numAt(ls:List Nat)(c n:Nat):Nat:=n2 ((ls.drop c).take n)

def stepF(ns ls:List Nat)(c:Nat):Except Nat ((Nat×Nat)×Nat):=
 if (nextF ns (ls.drop c)).2.2≠0 then .error (nextF ns (ls.drop c)).2.2
 else if ls.length<c+(nextF ns (ls.drop c)).2.1+xbits (nextF ns (ls.drop c)).1 then .error 10
 else .ok (((nextF ns (ls.drop c)).1,numAt ls (c+(nextF ns (ls.drop c)).2.1) (xbits (nextF ns (ls.drop c)).1)),c+(nextF ns (ls.drop c)).2.1+xbits (nextF ns (ls.drop c)).1)

def bodyF(ns ls:List Nat)(N:Nat):Nat→List Nat→Nat→Except Nat (List Nat×Nat)
 | 0,l,c=>.ok (l,c)
 | f+1,l,c=>
  if N≤l.length then .ok (l,c)
  else match stepF ns ls c with
   | .error e=>.error e
   | .ok (s,c')=>match withM l ((s.1:Int),(s.2:Int)) N with
    | none=>.error 41
    | some m=>bodyF ns ls N f m c'

def ord:List Nat:=[16,17,18,0,8,7,9,6,10,5,11,4,12,3,13,2,14,1,15]

def codesF(ls:List Nat)(c:Nat):Nat→List Nat
 | 0=>List.replicate 19 0
 | i+1=>(codesF ls c i).set (ord.getD i 0) (numAt ls (c+3*i) 3)

theorem codesF_length(ls:List Nat)(c i:Nat):(codesF ls c i).length=19:=by
 induction i with
 | zero=>simp[codesF]
 | succ i ih=>simp[codesF,ih]

theorem numAt_lt(ls:List Nat)(h:∀b∈ls,b<2)(c n:Nat):numAt ls c n<2 ^ n:=n2_take_lt ls h c n

theorem codesF_le(ls:List Nat)(h:∀b∈ls,b<2)(c i:Nat):∀x∈codesF ls c i,x≤7:=by
 induction i with
 | zero=>intro x hx;have:=List.eq_of_mem_replicate hx;omega
 | succ i ih=>
  intro x hx
  rcases List.mem_or_eq_of_mem_set hx with hx | rfl
  ·exact ih x hx
  ·have:=numAt_lt ls h (c+3*i) 3;omega

def readF(ls:List Nat)(a:Nat):Except Nat ((List Nat×List Nat)×Nat):=
 if ls.length<a+14 then .error 10
 else if 286<numAt ls a 5+257∨30<numAt ls (a+5) 5+1 then .error 40
 else if ls.length<a+14+3*(numAt ls (a+10) 4+4)then .error 10
 else if chkN (codesF ls (a+14) (numAt ls (a+10) 4+4))≠0 then .error (chkN (codesF ls (a+14) (numAt ls (a+10) 4+4)))
 else match bodyF (codesF ls (a+14) (numAt ls (a+10) 4+4)) ls (numAt ls a 5+257+(numAt ls (a+5) 5+1)) (numAt ls a 5+257+(numAt ls (a+5) 5+1)) [] (a+14+3*(numAt ls (a+10) 4+4)) with
  | .error e=>.error e
  | .ok (l,c)=>.ok ((l.take (numAt ls a 5+257),l.drop (numAt ls a 5+257)),c-a)

end Go.Proofs.YtggcbnhckcenmaaGreatDoor

namespace Go.Proofs.YtggcbnhckcenmaaGreatDoor

structure S5 where
 c:Nat
 out:List Nat
 e:Nat

def tk(ls:List Nat)(s:S5)(n:Nat):Nat×S5:=
 if s.e≠0 then(0,s)else if ls.length<s.c+n then(0,{s with e:=55}) else(numAt ls s.c n,{s with c:=s.c+n})

def sy(ns ls:List Nat)(s:S5)(wrong:Nat):Nat×S5:=
 if s.e≠0 then(0,s)
 else((nextF ns (ls.drop s.c)).1,{s with c:=s.c+(nextF ns (ls.drop s.c)).2.1,e:=if (nextF ns (ls.drop s.c)).2.2=10 then 55 else if (nextF ns (ls.drop s.c)).2.2=32 then wrong else 0})

def ly(most:Nat)(s:S5)(b:Nat):S5:=
 if s.e≠0 then s else if most≤s.out.length then {s with e:=56} else {s with out:=s.out++[b]}

def stB(ls:List Nat)(most:Nat):Nat→S5→S5
 | 0,s=>s
 | k+1,s=>if s.e≠0 then s else stB ls most k (ly most (tk ls s 8).2 (tk ls s 8).1)

def xlen(s:Nat):Nat:=if s<265 then 0 else(s-261) / 4
def lbase(s:Nat):Nat:=3+((List.range (s-257)).map (fun k=>2 ^ xlen (257+k))).sum
def xdist(s:Nat):Nat:=if s<4 then 0 else(s-2) / 2
def dbase(s:Nat):Nat:=1+((List.range s).map (fun k=>2 ^ xdist k)).sum

def len5(ls:List Nat)(s:S5)(y:Nat):Nat×S5:=if y=285 then(258,s) else(lbase y+(tk ls s (xlen y)).1,(tk ls s (xlen y)).2)
def dist5(ls:List Nat)(s:S5)(y:Nat):Nat×S5:=(dbase y+(tk ls s (xdist y)).1,(tk ls s (xdist y)).2)

def cp5(most far:Nat):Nat→S5→S5
 | 0,s=>s
 | k+1,s=>if s.e≠0 then s else cp5 most far k (ly most s (s.out.getD (s.out.length-far) 0))

def usedB(l:List Nat):Bool:=l.any (fun n=>n != 0)

def copies5(ls:List Nat)(most:Nat)(dist:List Nat)(s:S5)(y:Nat):S5:=
 if 285<y then {s with e:=53}
 else
  let n:=(len5 ls s y).1
  let s1:=(len5 ls s y).2
  let s2:S5:=if s1.e=0∧usedB dist=false then {s1 with e:=53} else s1
  let d:=(sy dist ls s2 53).1
  let s3:=(sy dist ls s2 53).2
  let s4:S5:=if s3.e=0∧29<d then {s3 with e:=53} else s3
  if s4.e≠0 then s4
  else
   let far:=(dist5 ls s4 d).1
   let s5:=(dist5 ls s4 d).2
   let s6:S5:=if s5.e=0∧s5.out.length<far then {s5 with e:=54} else s5
   cp5 most far n s6

def syms5(ls:List Nat)(most:Nat)(lit dist:List Nat):Nat→S5→S5
 | 0,s=>s
 | f+1,s=>
  if s.e≠0 then s
  else
   let y:=(sy lit ls s 53).1
   let s1:=(sy lit ls s 53).2
   if s1.e≠0 then s1
   else if y<256 then syms5 ls most lit dist f (ly most s1 y)
   else if y=256 then s1
   else syms5 ls most lit dist f (copies5 ls most dist s1 y)

def fixL:List Nat:=List.replicate 144 8++List.replicate 112 9++List.replicate 24 7++List.replicate 8 8
def fixD:List Nat:=List.replicate 32 5

def head5(ls:List Nat)(c:Nat):Except Nat ((List Nat×List Nat)×Nat):=
 match readF ls c with
 | .error e=>.error (if e=10 then 55 else 52)
 | .ok ((l,d),n)=>if l.getD 256 0=0∨chkN l≠0∨(usedB d=true∧chkN d≠0)then .error 52 else .ok ((l,d),n)

end Go.Proofs.YtggcbnhckcenmaaGreatDoor

namespace Go.Proofs.YtggcbnhckcenmaaGreatDoor

theorem zerosM_big(n:Nat)(h:11≤n):zerosM n=(18,((min n 138-11:Nat):Int))::zerosM (n-min n 138):=by
 rw[zerosM,if_pos h]
theorem zerosM_mid(n:Nat)(h:n<11)(h3:3≤n):zerosM n=[(17,((n-3:Nat):Int))]:=by
 rw[zerosM,if_neg (by omega),if_pos h3]
theorem zerosM_few(n:Nat)(h3:n<3):zerosM n=List.replicate n (0,0):=by
 rw[zerosM,if_neg (by omega),if_neg (by omega)]
theorem againM_big(v n:Nat)(h:3≤n):againM v n=(16,((min n 6-3:Nat):Int))::againM v (n-min n 6):=by
 rw[againM,if_pos h]
theorem againM_few(v n:Nat)(h:n<3):againM v n=List.replicate n ((v:Int),0):=by
 rw[againM,if_neg (by omega)]

theorem zerosM_len(n:Nat):(zerosM n).length≤n:=by
 induction n using Nat.strongRecOn with
 | ind n ih=>
  by_cases h:11≤n
  ·rw[zerosM_big n h,List.length_cons]
   have:=ih (n-min n 138) (by omega)
   omega
  ·by_cases h3:3≤n
   ·rw[zerosM_mid n (by omega) h3];simp;omega
   ·rw[zerosM_few n (by omega)];simp

theorem againM_len(v n:Nat):(againM v n).length≤n:=by
 induction n using Nat.strongRecOn with
 | ind n ih=>
  by_cases h:3≤n
  ·rw[againM_big v n h,List.length_cons]
   have:=ih (n-min n 6) (by omega)
   omega
  ·rw[againM_few v n (by omega)];simp

theorem sayM_len(v n:Nat)(h:1≤n):(sayM v n).length≤n:=by
 unfold sayM
 split
 ·exact zerosM_len n
 ·rw[List.length_cons];have:=againM_len v (n-1);omega

theorem packM_len(l:List Nat):(packM l).length≤l.length:=by
 induction hn:l.length using Nat.strongRecOn generalizing l with
 | ind n ih=>
  cases l with
  | nil=>simp[packM]
  | cons v r=>
   rw[packM_cons,List.length_append]
   have h1:=sayM_len v (1+frontN v r) (by omega)
   have h2:=frontN_le v r
   have h3:=ih (r.drop (frontN v r)).length (by simp at hn ⊢;omega) _ rfl
   simp at hn h3
   omega

theorem frontN_is(v:Nat)(r:List Nat)(m:Nat)(h1:∀j (_:j<r.length),j<m→r[j]=v)(hm:m≤r.length)(h2:∀h:m<r.length,r[m]≠v):frontN v r=m:=by
 induction r generalizing m with
 | nil=>simp at hm;subst hm;rfl
 | cons a r ih=>
  cases m with
  | zero=>
   have:=h2 (by simp)
   simp at this
   simp[frontN,this]
  | succ m=>
   have ha:=h1 0 (by simp) (by omega)
   simp at ha
   have h3:=ih m (fun j hj hjm=>h1 (j+1) (by simpa using hj) (by omega)) (by simpa using hm) (fun h=>h2 (by simpa using h))
   unfold frontN at h3 ⊢
   rw[List.takeWhile_cons,if_pos (by simp[ha]),List.length_cons,h3]

theorem frontN_all(v:Nat)(r:List Nat)(j:Nat)(hj:j<r.length)(h:j<frontN v r):r[j]=v:=by
 induction r generalizing j with
 | nil=>simp at hj
 | cons a r ih=>
  unfold frontN at h
  rw[List.takeWhile_cons]at h
  by_cases ha:a=v
  ·cases j with
   | zero=>simpa using ha
   | succ j=>
    rw[if_pos (by simp[ha]),List.length_cons]at h
    simpa using ih j (by simpa using hj) (by unfold frontN;omega)
  ·rw[if_neg (by simp[ha])]at h
   simp at h

theorem front_split(v:Nat)(r:List Nat):v::r=List.replicate (1+frontN v r) v++r.drop (frontN v r):=by
 have h:=frontN_le v r
 rw[Nat.add_comm,List.replicate_succ,List.cons_append]
 congr 1
 have e:r.take (frontN v r)=List.replicate (frontN v r) v:=by
  refine List.ext_getElem (by simp;omega) (fun j h1 h2=>?_)
  simp at h1
  rw[List.getElem_take,List.getElem_replicate,frontN_all v r j (by omega) (by omega)]
 rw[←e,List.take_append_drop]

theorem withM_ok{l:List Nat}{s:Int×Int}{n v k:Nat}(h:saysM s l=some (v,k))(hf:l.length+k≤n):withM l s n=some (l++List.replicate k v):=by
 unfold withM
 rw[h]
 simp only
 rw[if_neg (by omega)]

theorem runM_append(n:Nat)(l:List Nat)(ss tt:List (Int×Int)):runM n l (ss++tt)=(runM n l ss).bind (fun m=>runM n m tt):=by
 induction ss generalizing l with
 | nil=>rfl
 | cons a r ih=>
  simp only[List.cons_append,runM]
  cases withM l a n with
  | none=>rfl
  | some m=>exact ih m

theorem runM_one(n:Nat)(l:List Nat)(s:Int×Int):runM n l [s]=withM l s n:=by
 simp only[runM]
 cases withM l s n<;>rfl

theorem says_plain(v:Nat)(l:List Nat)(h:v≤15):saysM ((v:Int),0) l=some (v,1):=by
 unfold saysM
 rw[if_pos ⟨by omega,by simp only;omega,rfl⟩]
 simp

theorem runM_plain(n v k:Nat)(l:List Nat)(h:v≤15)(hf:l.length+k≤n):runM n l (List.replicate k ((v:Int),0))=some (l++List.replicate k v):=by
 induction k generalizing l with
 | zero=>simp[runM]
 | succ k ih=>
  rw[List.replicate_succ,runM,withM_ok (says_plain v l h) (by omega)]
  simp only
  rw[ih _ (by simp;omega),List.append_assoc,List.replicate_append_replicate,Nat.add_comm]

theorem runM_zeros(n m:Nat)(l:List Nat)(hf:l.length+m≤n):runM n l (zerosM m)=some (l++List.replicate m 0):=by
 induction m using Nat.strongRecOn generalizing l with
 | ind m ih=>
  by_cases h:11≤m
  ·rw[zerosM_big m h,runM]
   have hs:saysM (18,((min m 138-11:Nat):Int)) l=some (0,min m 138):=by
    unfold saysM
    rw[if_neg (by simp),if_neg (by simp),if_neg (by simp),if_pos ⟨rfl,by omega,by omega⟩]
    simp;omega
   rw[withM_ok hs (by omega)]
   simp only
   rw[ih (m-min m 138) (by omega) _ (by simp;omega),List.append_assoc,List.replicate_append_replicate,show min m 138+(m-min m 138)=m by omega]
  ·by_cases h3:3≤m
   ·rw[zerosM_mid m (by omega) h3,runM_one]
    have hs:saysM (17,((m-3:Nat):Int)) l=some (0,m):=by
     unfold saysM
     rw[if_neg (by simp),if_neg (by simp),if_pos ⟨rfl,by omega,by omega⟩]
     simp;omega
    exact withM_ok hs hf
   ·rw[zerosM_few m (by omega)]
    exact runM_plain n 0 m l (by omega) hf

theorem runM_again(n v m:Nat)(l:List Nat)(h15:v≤15)(hl:0<l.length)(hv:lastN l=v)(hf:l.length+m≤n):runM n l (againM v m)=some (l++List.replicate m v):=by
 induction m using Nat.strongRecOn generalizing l with
 | ind m ih=>
  by_cases h:3≤m
  ·rw[againM_big v m h,runM]
   have hs:saysM (16,((min m 6-3:Nat):Int)) l=some (v,min m 6):=by
    unfold saysM
    rw[if_neg (by simp),if_pos ⟨rfl,by omega,by omega,hl⟩,hv]
    simp;omega
   rw[withM_ok hs (by omega)]
   simp only
   have hlast:lastN (l++List.replicate (min m 6) v)=v:=by
    have hk:0<min m 6:=by omega
    generalize min m 6=k at hk ⊢
    obtain⟨k,rfl⟩:∃j,k=j+1:=⟨k-1,by omega⟩
    unfold lastN
    rw[List.replicate_succ',←List.append_assoc]
    simp
   rw[ih (m-min m 6) (by omega) _ (by simp;omega) hlast (by simp;omega),List.append_assoc,List.replicate_append_replicate,show min m 6+(m-min m 6)=m by omega]
  ·rw[againM_few v m (by omega)]
   exact runM_plain n v m l h15 hf

theorem runM_say(n v m:Nat)(l:List Nat)(h15:v≤15)(hm:1≤m)(hf:l.length+m≤n):runM n l (sayM v m)=some (l++List.replicate m v):=by
 unfold sayM
 split
 ·rename_i h0
  subst h0
  exact runM_zeros n m l hf
 ·rw[runM,withM_ok (says_plain v l h15) (by omega)]
  simp only
  have hlast:lastN (l++List.replicate 1 v)=v:=by simp[lastN]
  rw[runM_again n v (m-1) _ h15 (by simp) hlast (by simp;omega),List.append_assoc,List.replicate_append_replicate,show 1+(m-1)=m by omega]

theorem runM_pack(n:Nat)(r:List Nat)(l:List Nat)(h15:∀x∈r,x≤15)(hf:l.length+r.length≤n):runM n l (packM r)=some (l++r):=by
 induction hn:r.length using Nat.strongRecOn generalizing r l with
 | ind k ih=>
  cases r with
  | nil=>simp[packM,runM]
  | cons v r=>
   have hfr:=frontN_le v r
   rw[packM_cons,runM_append,runM_say n v _ l (h15 v (by simp)) (by omega) (by simp at hf;omega)]
   simp only[Option.bind_some]
   rw[ih (r.drop (frontN v r)).length (by simp at hn ⊢;omega) _ _ (fun x hx=>h15 x (List.mem_cons_of_mem _ (List.mem_of_mem_drop hx))) (by simp at hf ⊢;omega) rfl,List.append_assoc,←front_split]

end Go.Proofs.YtggcbnhckcenmaaGreatDoor

namespace Go.Proofs.YtggcbnhckcenmaaGreatDoor
open Go.RowKit

def stC(s:Int×Int):List Value:=[.int .i64 s.1,.int .i64 s.2]

theorem stC_ok:EncOk stC 2:=⟨fun _=>rfl,fun x u hu=>by simp[stC]at hu;rcases hu with rfl | rfl<;>rfl,by decide⟩

abbrev StRow(B:Nat):=RowC B 171 2 stC
abbrev StSrc:=@SrcC (Int×Int) 2 stC

theorem Tryz.infoSt:(Tryz.prog.info? 171).map (fun i=>(i.zero,i.size,i.bytes))=some (some (.agg #[.int .i64 0,.int .i64 0]),2,16):=by kernel_rfl

theorem step_new(w:World)(x y:Int):CellsAt (w.alloc (.cells #[.int .i64 x,.int .i64 y] 171)) ⟨w.heap.size,0,none⟩ ([(x,y)].flatMap stC):=by
 intro j u hu
 match j,hu with
 | 0,hu=>simp[stC]at hu;subst hu;simp[addAt]
 | 1,hu=>simp[stC]at hu;subst hu;simp[addAt]
 | j+2,hu=>simp[stC]at hu

theorem wpList_append_step{ops:Array Oper}{rest:List Oper}{o:Oper}{a:Act}{Q:Exit→Act→World→Prop}(w:World)(B:Nat)(hgd:o.guard=none)(s x:Operand)
  (ho:o.op=.call {callee:=.builtin .append,args:=#[s,x],argTypes:=#[131,131]})
  (v:Value) (ss:List (Int×Int)) (hs:a.eval s=v) (hrow:StRow B w v ss) (ad:Addr) (y:Int×Int) (hx:a.eval x=.slice (some ad) 1 1) (hcs:CellsAt w ad ([y].flatMap stC)) (hlen:ss.length+1≤1000000000) (hB:B≤w.heap.size)
  (h:∀v' w',StRow B w' v' (ss++[y])→w.grownBy w' v.ownBlock→wpList Tryz.prog ops Q rest (a.put o.dst v') w'):wpList Tryz.prog ops Q (o::rest) a w:=
 wpList_append_c w stC 2 stC_ok (by decide) B 131 171 (.agg #[.int .i64 0,.int .i64 0]) 16 Tryz.underlying131 Tryz.infoSt rfl (by decide) hgd s x ho v ss hs hrow ad 1 1 [y] hx rfl hcs hlen hB h

abbrev Over(B:Nat)(k:Nat):Prop:=B≤k

theorem Kept.over{B:Nat}{a b c:World}(h:Kept (Over B) a b)(k:Kept (Over B) b c):Kept (Over B) a c:=Kept.trans h k (fun _ _ x=>x) (fun _ _ x=>x)
theorem Kept.same_over{a b:World}{B:Nat}(h:Kept (Over B) a b)(hB:a.heap.size≤B):Same a b:=h.mono (fun x hx e=>by unfold Over at e;omega)
def lensOk(zs:List Int):Bool:=!(zs.any (badI 0 15))

theorem lensOk_iff(zs:List Int):lensOk zs=true↔∀z∈zs,0≤z∧z≤15:=by
 simp only[lensOk,Bool.not_eq_true',List.any_eq_false,badI]
 constructor
 ·intro h z hz;have:=h z hz;simp at this;omega
 ·intro h z hz;have:=h z hz;simp;omega

end Go.Proofs.YtggcbnhckcenmaaGreatDoor

namespace Go.Proofs.YtggcbnhckcenmaaGreatDoor
open Go.RowKit

theorem fit_step(r ls:List Nat)(c n:Nat)(hn:n<r.length)(hq:c+n<ls.length)(h:r.take n=(ls.drop c).take n)(he:r[n]=ls[c+n]):r.take (n+1)=(ls.drop c).take (n+1):=by
 have hd:n<(ls.drop c).length:=by rw[List.length_drop];omega
 rw[List.take_succ_eq_append_getElem hn,List.take_succ_eq_append_getElem hd,h,List.getElem_drop,he]

theorem fit_no(r ls:List Nat)(c n:Nat)(hn:n<r.length)(h:¬c+n<ls.length∨∃hq:c+n<ls.length,r[n]≠ls[c+n]):¬r <+: ls.drop c:=by
 intro hp
 have hl:=hp.length_le
 rw[List.length_drop]at hl
 rcases h with h | ⟨hq,hne⟩
 ·omega
 ·have:=List.IsPrefix.getElem hp hn
  rw[List.getElem_drop]at this
  exact hne this

theorem beg_yes(r ls:List Nat)(c n:Nat)(_hn:n<r.length)(h:r.take n=(ls.drop c).take n)(he:c+n=ls.length):ls.drop c <+: r:=by
 rw[List.take_of_length_le (l:=ls.drop c) (by rw[List.length_drop];omega)]at h
 rw[←h]
 exact List.take_prefix _ _

theorem beg_no(r ls:List Nat)(c n:Nat)(hn:n<r.length)(hq:c+n<ls.length)(hne:r[n]≠ls[c+n]):¬ls.drop c <+: r:=by
 intro hp
 have hd:n<(ls.drop c).length:=by rw[List.length_drop];omega
 have:=List.IsPrefix.getElem hp hd
 rw[List.getElem_drop]at this
 exact hne this.symm

def Tells(B:Bool)(P:Prop):Prop:=(B=true↔P)

set_option maxRecDepth 100000 in
set_option maxHeartbeats 4000000 in
theorem rnext_any(w w0:World)(go L:Nat)(ns:List Nat)(rs:List (Option Addr×Nat×Nat))(v:Value)(I:Nat→Prop)(ls:List Nat)(c:Nat)(hR:RW w0 w go L ns (fun s=>key ns s≠0) rs)(hL:L=ns.length)(hl288:L≤288)(h15:∀s,key ns s≤15)(hs:Src w I v ls)(hlen:ls.length≤100000000)(hc:c≤ls.length):
  Calls Tryz.prog 161 #[.slice (some ⟨go,0,none⟩) L L,v,.int .i64 (c:Nat)] w fun e w'=>(∃is k g:Nat,e=.returned (.tuple #[.int .i64 (is:Nat),.int .i64 (k:Nat),.int .i64 (g:Nat)])∧RNext ns (ls.drop c) is k g)∧Same w w':=by
 obtain⟨ao,cap,rfl,hsa⟩:=id hs
 have HS:Hid (Src w I (.slice ao ls.length cap) ls):=hs
 have HR:Hid (RW w0 w go L ns (fun s=>key ns s≠0) rs):=hR
 have HL:Hid (L=ns.length):=hL
 have HRL:Hid (rs.length=L):=hid hR.row.len
 have H15:Hid (∀s,key ns s≤15):=h15
 clear hs hR hL hsa h15
 obtain⟨M,hM⟩:∃M,M=ls.length:=⟨_,rfl⟩
 rw[←hM]at HS hlen hc ⊢
 have HM:Hid (M=ls.length):=hM
 clear hM
 go_enter Tryz.func161,Tryz.ntmps161
 go_wp2_with fail
 go_loopg [9,10] L (fun q zb zi wr=>∃(i:Nat) (B:Bool),L-i≤q∧i≤L∧zi=.int .i64 (i:Nat)∧zb=.bool B∧Hid (∀s,s<i→¬Fit ns (ls.drop c) s)∧Hid (Tells B (∃s,s<i∧Beg ns (ls.drop c) s))∧Hid (Same w wr))
 case atStart=>exact⟨0,false,by omega,by omega,rfl,rfl,hid (fun s h=>by omega),hid ⟨(fun h=>by cases h),(fun h=>by obtain⟨s,h,_⟩:=h;omega)⟩,Kept.refl _ _⟩
 case round=>
  obtain⟨i,B,hq,hi,rfl,rfl,HF,HB,HK⟩:=hrel
  obtain⟨gk0,hgk⟩:∃x,x=gk:=⟨_,rfl⟩
  rw[←hgk]at hq
  have HG:Hid (gk0=gk):=hgk
  clear hgk
  by_cases hlt:i<L
  ·have hirs:i<rs.length:=by have:=HRL.out;omega
   have cr:=(HR.out.row.same HK.out).cell i hirs
   by_cases hk0:key ns i=0
   ·rw[HR.out.none' i hirs (fun h=>h hk0)]at cr
    have cr2:wr.cell? ⟨go,i,none⟩=some (.slice none 0 0):=cr
    have HF2:Hid (∀s,s<i+1→¬Fit ns (ls.drop c) s):=hid (fun s h hf=>by
     by_cases e:s=i
     ·subst e;exact hf.1 hk0
     ·exact HF.out s (by omega) hf)
    have HB2:Hid (Tells B (∃s,s<i+1∧Beg ns (ls.drop c) s)):=hid (by
     have hb':=HB.out
     unfold Tells at hb' ⊢
     rw[hb']
     constructor
     ·rintro⟨s,h1,h2⟩;exact⟨s,by omega,h2⟩
     ·rintro⟨s,h1,h2⟩
      by_cases e:s=i
      ·subst e;exact absurd hk0 h2.1
      ·exact⟨s,by omega,h2⟩)
    clear cr hk0
    go_wp2_with fail
    go_roundg (gk0-1)
    case measure=>have:=HG.out;omega
    case rel=>exact⟨i+1,B,by omega,by omega,by go_num,rfl,HF2,HB2,HK⟩
   ·have hrow:Row wr (slV rs[i]) (rowOf ns i):=(HR.out.have' i hirs hk0).1.kept HK.out (fun _ _ f=>f)
    obtain⟨ar,capr,hvr,hgr⟩:=hrow.shape
    have hrl:=rowOf_length ns i
    obtain⟨gr,hgr⟩:=hgr (by intro e;rw[e]at hrl;simp at hrl;omega)
    subst hgr
    rw[hvr]at cr hrow
    rw[hrl]at cr hrow
    obtain⟨K,hK⟩:∃K,K=key ns i:=⟨_,rfl⟩
    rw[←hK]at cr hrow hrl
    have hK0:0<K:=by omega
    have hK15:K≤15:=by rw[hK];exact H15.out i
    have HRO:Hid (Row wr (.slice (some ⟨gr,0,none⟩) (rowOf ns i).length capr) (rowOf ns i)):=hid (by rw[hrl];exact hrow)
    have HRLN:Hid ((rowOf ns i).length=K):=hrl
    have HKY:Hid (K=key ns i∧key ns i≠0):=hid ⟨hK,hk0⟩
    have HCR:Hid (wr.cell? ⟨go,i,none⟩=some (.slice (some ⟨gr,0,none⟩) K capr)):=cr
    have hnz:((K:Int)==0)=false:=by simp;omega
    obtain⟨w1,hw1⟩:∃w1,w1=wr:=⟨_,rfl⟩
    subst hw1
    clear hvr hrow hrl hK hk0
    go_wp2_with fail
    clear hnz cr
    go_loopg [11] K (fun q zn wr=>∃(n:Nat),K-n≤q∧n≤K∧c+n≤M∧zn=.int .i64 (n:Nat)∧Hid ((rowOf ns i).take n=(ls.drop c).take n)∧Hid (Same w1 wr))
    case atStart=>exact⟨0,by omega,by omega,by omega,rfl,hid (by simp),Kept.refl _ _⟩
    case round=>
     obtain⟨n,hq2,hnK,hcn,rfl,HT,HK2⟩:=hrel
     have cr:wr.cell? ⟨go,i,none⟩=some (.slice (some ⟨gr,0,none⟩) K capr):=HK2.out.cell HCR.out (fun h=>h)
     obtain⟨x,hx⟩:∃x,x=c+n:=⟨_,rfl⟩
     have hxI:(c:Int)+(n:Int)=(x:Int):=by omega
     have hwx:IntKind.i64.wrap (x:Int)=(x:Int):=by rw[IntKind.wrap_i64];omega
     have HX:Hid (x=c+n):=hx
     clear hx
     by_cases hnlt:n<K
     ·have hnr:n<(rowOf ns i).length:=by have:=HRLN.out;omega
      have c1:wr.cell? ⟨gr,n,none⟩=some (.int .u8 ((rowOf ns i)[n]:Nat)):=HK2.out.cell (HRO.out.cell n hnr) (fun h=>h)
      obtain⟨y1,hy1⟩:∃y,y=(rowOf ns i)[n]:=⟨_,rfl⟩
      rw[←hy1]at c1
      have hn1:((n:Int)==(K:Int))=false:=by simp;omega
      by_cases hxl:x<M
      ·have hxl2:c+n<ls.length:=by have:=HM.out;have:=HX.out;omega
       obtain⟨b,o,rfl,_,hcell⟩:∃b o,ao=some ⟨b,o,none⟩∧True∧wr.cell? ⟨b,o+x,none⟩=some (.int .u8 (ls[c+n]:Nat)):=by
        obtain⟨ao',cap',e1,e2⟩:=(HS.out.kept (Same.trans HK.out HK2.out) (fun _ _ _ f=>f))
        injection e1 with e3 _ _
        subst e3
        obtain⟨b,o,e4,_,e5⟩:=e2 (by intro e;rw[e]at hxl2;simp at hxl2)
        refine⟨b,o,e4,trivial,?_⟩
        rw[HX.out]
        exact e5 (c+n) hxl2
       obtain⟨y2,hy2⟩:∃y,y=ls[c+n]:=⟨_,rfl⟩
       rw[←hy2]at hcell
       by_cases he:y1=y2
       ·have hd:((y1:Int)==(y2:Int))=true:=by simp[he]
        have HT2:Hid ((rowOf ns i).take (n+1)=(ls.drop c).take (n+1)):=hid (fit_step _ _ c n hnr hxl2 HT.out (by rw[←hy1,←hy2,he]))
        have hcn2:c+(n+1)≤M:=by have:=HX.out;omega
        clear hy1 hy2 he hn1
        go_wp2_with fail
        go_quiet (fail)
        go_wp2_with fail
        go_roundg (gk-1)
        case measure=>omega
        case rel=>exact⟨n+1,by omega,by omega,hcn2,by go_num,HT2,hid (HK2.out.drewN _)⟩
       ·have hd:((y1:Int)==(y2:Int))=false:=by simp;omega
        have HNF:Hid (¬Fit ns (ls.drop c) i∧¬Beg ns (ls.drop c) i):=hid ⟨fun h=>fit_no _ _ c n hnr (.inr ⟨hxl2,by rw[←hy1,←hy2];exact he⟩) h.2,fun h=>beg_no _ _ c n hnr hxl2 (by rw[←hy1,←hy2];exact he) h.2⟩
        have hxm:((x:Int)==(M:Int))=false:=by simp;omega
        clear hy1 hy2 he
        have HF2:Hid (∀s,s<i+1→¬Fit ns (ls.drop c) s):=hid (fun s h hf=>by
         by_cases e:s=i
         ·subst e;exact HNF.out.1 hf
         ·exact HF.out s (by omega) hf)
        have HB2:Hid (Tells B (∃s,s<i+1∧Beg ns (ls.drop c) s)):=hid (by
         have hb':=HB.out
         unfold Tells at hb' ⊢
         rw[hb']
         constructor
         ·rintro⟨s,h1,h2⟩;exact⟨s,by omega,h2⟩
         ·rintro⟨s,h1,h2⟩
          by_cases e:s=i
          ·subst e;exact absurd h2 HNF.out.2
          ·exact⟨s,by omega,h2⟩)
        go_wp2_with fail
        go_quiet (fail)
        cases B with
        | true=>
         go_wp2_with fail
         go_roundg (gk0-1)
         case measure=>have:=HG.out;omega
         case rel=>exact⟨i+1,true,by omega,by omega,by go_num,rfl,HF2,HB2,hid (Same.trans HK.out (HK2.out.drewN _))⟩
        | false=>
         go_wp2_with fail
         go_roundg (gk0-1)
         case measure=>have:=HG.out;omega
         case rel=>exact⟨i+1,false,by omega,by omega,by go_num,rfl,HF2,HB2,hid (Same.trans HK.out (HK2.out.drewN _))⟩
      ·have hxm:((x:Int)==(M:Int))=true:=by have:=HX.out;simp;omega
       have hxd:decide (x<M)=false:=by simp;omega
       have HNF:Hid (¬Fit ns (ls.drop c) i∧Beg ns (ls.drop c) i):=hid ⟨fun h=>fit_no _ _ c n hnr (.inl (by have:=HM.out;have:=HX.out;omega)) h.2,HKY.out.2,beg_yes _ _ c n hnr HT.out (by have:=HM.out;have:=HX.out;omega)⟩
       clear hy1 hxl
       have HF2:Hid (∀s,s<i+1→¬Fit ns (ls.drop c) s):=hid (fun s h hf=>by
        by_cases e:s=i
        ·subst e;exact HNF.out.1 hf
        ·exact HF.out s (by omega) hf)
       have HB2:Hid (Tells true (∃s,s<i+1∧Beg ns (ls.drop c) s)):=hid ⟨fun _=>⟨i,by omega,HNF.out.2⟩,fun _=>rfl⟩
       go_wp2_with fail
       go_quiet (fail)
       cases B with
       | true=>
        go_wp2_with fail
        go_roundg (gk0-1)
        case measure=>have:=HG.out;omega
        case rel=>exact⟨i+1,true,by omega,by omega,by go_num,rfl,HF2,HB2,hid (Same.trans HK.out (HK2.out.drewN _))⟩
       | false=>
        go_wp2_with fail
        go_roundg (gk0-1)
        case measure=>have:=HG.out;omega
        case rel=>exact⟨i+1,true,by omega,by omega,by go_num,rfl,HF2,HB2,hid (Same.trans HK.out (HK2.out.drewN _))⟩
     ·have hnK2:n=K:=by omega
      have hnd:decide (n<K)=false:=by simp;omega
      have hne:((n:Int)==(K:Int))=true:=by simp;omega
      have HFIT:Hid (Fit ns (ls.drop c) i∧n=key ns i):=hid (by
       refine⟨⟨HKY.out.2,?_⟩,by rw[hnK2];exact HKY.out.1⟩
       have h:=HT.out
       rw[List.take_of_length_le (by have:=HRLN.out;omega)]at h
       rw[h]
       exact List.take_prefix _ _)
      clear hnlt hnK2
      go_wp2_with fail
      go_quiet (fail)
      go_wp2_with fail
      refine bodyPost_ret (v:=.tuple #[.int .i64 (i:Nat),.int .i64 (n:Nat),.int .i64 0]) (by simp[results,Tryz.results161,go_sem]) rfl ⟨⟨i,n,0,rfl,.inl ⟨rfl,by have:=HL.out;omega,HFIT.out.1,HFIT.out.2,HF.out⟩⟩,Same.trans HK.out (HK2.out.drewN _)⟩
  ·have hil:i=L:=by omega
   have hid':decide (i<L)=false:=by simp;omega
   have HF2:Hid (∀s,s<ns.length→¬Fit ns (ls.drop c) s):=hid (fun s h=>HF.out s (by have:=HL.out;omega))
   have HB2:Hid (Tells B (∃s,s<ns.length∧Beg ns (ls.drop c) s)):=hid (by have hb':=HB.out;rw[hil,HL.out]at hb';exact hb')
   clear hil hlt
   cases B with
   | true=>
    go_wp2_with fail
    refine bodyPost_ret (v:=.tuple #[.int .i64 0,.int .i64 0,.int .i64 10]) (by simp[results,Tryz.results161,go_sem]) rfl ⟨⟨0,0,10,rfl,.inr (.inl ⟨rfl,rfl,rfl,HF2.out,HB2.out.1 rfl⟩)⟩,HK.out⟩
   | false=>
    go_wp2_with fail
    refine bodyPost_ret (v:=.tuple #[.int .i64 0,.int .i64 0,.int .i64 32]) (by simp[results,Tryz.results161,go_sem]) rfl ⟨⟨0,0,32,rfl,.inr (.inr ⟨rfl,rfl,rfl,HF2.out,fun s hs hb=>by have:=HB2.out.2 ⟨s,hs,hb⟩;cases this⟩)⟩,HK.out⟩

end Go.Proofs.YtggcbnhckcenmaaGreatDoor

namespace Go.Proofs.YtggcbnhckcenmaaGreatDoor
open Go.RowKit

def Cnt(ns:List Nat)(n i code last:Nat):Prop:=(last=0∧code=0∧sumP ns n i=0)∨(0<last∧last≤n∧(code+1)*2 ^ (15-last)=sumP ns n i)

theorem sumP_le(ns:List Nat)(n i:Nat):sumP ns n i≤measure ns:=by
 unfold sumP
 rw[←sumTo_all]
 unfold sumTo
 rw[List.take_of_length_le (Nat.le_refl _)]
 generalize ris ns=l
 induction l with
 | nil=>simp
 | cons a r ih=>
  rw[List.filter_cons]
  split
  ·simp only[List.map_cons,List.sum_cons];omega
  ·simp only[List.map_cons,List.sum_cons];omega

theorem Cnt.code_le{ns:List Nat}{n i code last:Nat}(h:Cnt ns n i code last)(hm:measure ns≤32768):code≤32768:=by
 rcases h with⟨_,h,_⟩ | ⟨_,_,h⟩
 ·omega
 ·have h1:=sumP_le ns n i
  have h2:(code+1)*1≤(code+1)*2 ^ (15-last):=Nat.mul_le_mul_left _ (Nat.two_pow_pos _)
  omega

theorem Cnt.hit{ns:List Nat}{n i code last:Nat}(h:Cnt ns n i code last)(hk:key ns i=n)(hn:n≤15):codeOf ns i=(if 0<last then(code+1)*2 ^ (n-last)else code):=by
 have h1:=code_start ns i
 have h2:=sumP_hit ns i
 rw[hk]at h1 h2
 rw[←h2]at h1
 rcases h with⟨e1,e2,e3⟩ | ⟨e1,e2,e3⟩
 ·rw[if_neg (by omega),e2]
  rw[e3]at h1
  rcases Nat.mul_eq_zero.1 h1 with h | h
  ·exact h
  ·have:=Nat.two_pow_pos (15-n);omega
 ·rw[if_pos e1]
  have e4:(code+1)*2 ^ (n-last)*2 ^ (15-n)=codeOf ns i*2 ^ (15-n):=by
   rw[Nat.mul_assoc,←Nat.pow_add,show n-last+(15-n)=15-last by omega,e3,h1]
  exact(Nat.eq_of_mul_eq_mul_right (Nat.two_pow_pos _) e4).symm

theorem Cnt.next{ns:List Nat}{i:Nat}(hi:i∈ris ns):Cnt ns (key ns i) (i+1) (codeOf ns i) (key ns i):=by
 refine .inr ⟨by have:=(mem_ris.1 hi).2;omega,Nat.le_refl _,?_⟩
 rw[sumP_next ns i hi,Nat.add_mul,code_start,Nat.one_mul]

theorem Cnt.miss{ns:List Nat}{n i code last:Nat}(h:Cnt ns n i code last)(hk:key ns i≠n):Cnt ns n (i+1) code last:=by
 unfold Cnt
 rw[sumP_miss ns n i hk]
 exact h

theorem Cnt.round{ns:List Nat}{n code last:Nat}(h:Cnt ns n ns.length code last):Cnt ns (n+1) 0 code last:=by
 unfold Cnt
 rw[←sumP_round]
 rcases h with h | ⟨h1,h2,h3⟩
 ·exact .inl h
 ·exact .inr ⟨h1,by omega,h3⟩

def laidR(ns:List Nat)(n i s:Nat):Prop:=key ns s≠0∧pre ns n i s

set_option maxRecDepth 100000 in
set_option maxHeartbeats 4000000 in
theorem rows_any(w:World)(v:Value)(I:Nat→Prop)(ns:List Nat)(hs:SrcE natV w I v ns)(hn:ns.length≤288)(h15:∀n∈ns,n≤15)(hm:measure ns≤32768):
  Calls Tryz.prog 68 #[v] w fun e w'=>∃go rs,e=.returned (.slice (some ⟨go,0,none⟩) ns.length ns.length)∧RW w w' go ns.length ns (fun s=>key ns s≠0) rs:=by
 obtain⟨ao,cap,rfl,hx1,hx2⟩:=id hs
 clear hx1 hx2
 have HS:Hid (SrcE natV w I (.slice ao ns.length cap) ns):=hs
 have H15:Hid (∀n∈ns,n≤15):=h15
 have HM:Hid (measure ns≤32768):=hm
 clear hs h15 hm
 obtain⟨L,hL⟩:∃L,L=ns.length:=⟨_,rfl⟩
 rw[←hL]at HS hn ⊢
 have HL:Hid (L=ns.length):=hL
 clear hL
 go_enter Tryz.func68,Tryz.ntmps68
 go_wp2_with (at_make;refine wpList_make_e _ slV (none,0,0) w.heap.size 39 22 24 Tryz.underlying39 Tryz.infoB rfl (by decide) rfl _ _ rfl _ _ _ _ L rfl rfl rfl rfl (by omega) (Nat.le_refl _) ?_;intro w1 hr1 hg1 hs1;have HRW0:Hid (RW w w1 w.heap.size L ns (laidR ns 1 0) (List.replicate L (none,0,0))):=hid ⟨hr1,fun s hs hp=>absurd hp (by rintro⟨h1,h2 | h2⟩<;>omega),fun s hs _=>by simp,(Kept.refl _ w).grown hg1 (by simp)⟩;clear hr1 hg1)
 go_loopg [4,5,6] 15 (fun q zc zl zn wr=>∃(n code last:Nat) (rs:List (Option Addr×Nat×Nat)),16-n≤q∧1≤n∧n≤16∧code≤32768∧last≤15∧zn=.int .i64 (n:Nat)∧zc=.int .i64 (code:Nat)∧zl=.int .i64 (last:Nat)∧Hid (Cnt ns n 0 code last)∧Hid (RW w wr w.heap.size L ns (laidR ns n 0) rs∧rs.length=L))
 case atStart=>exact⟨1,0,0,_,by omega,by omega,by omega,by omega,by omega,rfl,rfl,rfl,hid (.inl ⟨rfl,rfl,sumP_start ns⟩),hid ⟨HRW0.out,by simp⟩⟩
 case round=>
  obtain⟨n,code,last,rs,hq,hn1,hn16,hcode,hlast,rfl,rfl,rfl,HC,HR⟩:=hrel
  clear HRW0
  obtain⟨gk0,hgk⟩:∃x,x=gk:=⟨_,rfl⟩
  rw[←hgk]at hq
  have HG:Hid (gk0=gk):=hgk
  clear hgk
  by_cases hn15:n≤15
  ·have bn:decide ((n:Int)≤15)=true:=by simp;omega
   go_wp2_with fail
   go_loopg [4,5,7] L (fun q zc zl zi wr=>∃(i code last:Nat) (rs:List (Option Addr×Nat×Nat)),L-i≤q∧i≤L∧code≤32768∧last≤n∧zi=.int .i64 (i:Nat)∧zc=.int .i64 (code:Nat)∧zl=.int .i64 (last:Nat)∧Hid (Cnt ns n i code last)∧Hid (RW w wr w.heap.size L ns (laidR ns n i) rs∧rs.length=L))
   case atStart=>exact⟨0,code,last,rs,by omega,by omega,by omega,by rcases HC.out with⟨h,_⟩ | ⟨_,h,_⟩<;>omega,rfl,rfl,rfl,HC,HR⟩
   case round=>
    clear HC HR hcode hlast
    obtain⟨i,code,last,rs,hq2,hi,hcode,hlast,rfl,rfl,rfl,HC,HR⟩:=hrel
    obtain⟨gk1,hgk1⟩:∃x,x=gk:=⟨_,rfl⟩
    rw[←hgk1]at hq2
    have HG1:Hid (gk1=gk):=hgk1
    clear hgk1
    by_cases hlt:i<L
    ·have hin:i<ns.length:=by have:=HL.out;omega
     obtain⟨b,o,cap',e,_,_,cx⟩:=(HS.out.same HR.out.1.same).get i hin
     simp only[Value.slice.injEq]at e
     obtain⟨rfl,hxe,rfl⟩:=e
     clear hxe
     rw[←key_get hin]at cx
     unfold natV at cx
     obtain⟨k,hk⟩:∃k,k=key ns i:=⟨_,rfl⟩
     rw[←hk]at cx
     by_cases hkn:k=n
     ·have hkn':key ns i=n:=by omega
      have hmem:i∈ris ns:=mem_ris.2 ⟨hin,by omega⟩
      have hbd:((k:Int) != (n:Int))=false:=by simp[hkn]
      obtain⟨co,hco⟩:∃co,co=codeOf ns i:=⟨_,rfl⟩
      have hcol:co≤32768:=by rw[hco];exact Cnt.code_le (Cnt.next hmem) HM.out
      have hhit:=HC.out.hit hkn' hn15
      rw[←hco]at hhit
      have HCN:Hid (Cnt ns n (i+1) co n):=hid (by have h:=Cnt.next hmem;rw[hkn',←hco]at h;exact h)
      have HFIN:Hid (∀(w5:World) (a:Option Addr) (l c:Nat),RW w w5 w.heap.size L ns (laidR ns n i) rs→Row w5 (.slice a l c) (rowB n co)→(∀k,(Value.slice a l c).ownBlock=some k→w.heap.size≤k)→RW w (w5.setCell ⟨w.heap.size,i,none⟩ (.slice a l c)) w.heap.size L ns (laidR ns n (i+1)) (rs.set i (a,l,c))):=hid (by
       intro w5 a l c h1 h2 h3
       refine(h1.put i a l c (by have:=HR.out.2;omega) (by rw[hkn',←hco];exact h2) h3).mono (fun s hs=>?_)
       unfold laidR pre
       constructor
       ·rintro(rfl | ⟨h4,h5⟩)
        ·exact⟨by omega,.inr ⟨hkn',by omega⟩⟩
        ·exact⟨h4,by rcases h5 with h5 | h5;exact .inl h5;exact .inr ⟨h5.1,by omega⟩⟩
       ·rintro⟨h4,h5⟩
        by_cases e:s=i
        ·exact .inl e
        ·exact .inr ⟨h4,by rcases h5 with h5 | h5;exact .inl h5;exact .inr ⟨h5.1,by omega⟩⟩)
      have cgo:∀w5,RW w w5 w.heap.size L ns (laidR ns n i) rs→(∃u,w5.cell? ⟨w.heap.size,i,none⟩=some u)∧w5.frozen? ⟨w.heap.size,i,none⟩=false:=fun w5 h=>⟨⟨_,h.row.cell i (by have:=HR.out.2;omega)⟩,h.row.frozen i⟩
      have HGO:Hid (∀w5,RW w w5 w.heap.size L ns (laidR ns n i) rs→(∃u,w5.cell? ⟨w.heap.size,i,none⟩=some u)∧w5.frozen? ⟨w.heap.size,i,none⟩=false):=cgo
      clear cgo hk hkn hmem hco
      by_cases hl0:0<last
      ·rw[if_pos hl0]at hhit
       have HPW:=power_any wr (n-last) (by omega)
       obtain⟨pw,hpw⟩:∃pw,pw=2 ^ (n-last):=⟨_,rfl⟩
       rw[←hpw]at HPW hhit
       have hsub:((n:Int)-(last:Int))=((n-last:Nat):Int):=by omega
       have hcoI:((code:Int)+1)*(pw:Int)=(co:Int):=by rw[hhit];simp
       have bl:decide (0<last)=true:=by simp[hl0]
       clear hpw hhit
       go_wp2_with fail
       refine HPW.mono ?_
       rintro e w2 ⟨rfl,rfl⟩
       clear HPW
       have hWs:w.heap.size<w2.heap.size:=HR.out.1.row.lt rfl
       go_wp2_with (at_make;refine wpList_make_bytes _ rfl _ _ rfl _ _ _ _ n rfl rfl rfl rfl (by omega) ?_;intro w5 hr5 hg5 hs5;have HROW0:Hid (Row w5 (.slice (some ⟨w2.heap.size,0,none⟩) n n) (List.replicate n 0)):=hr5;have HSM0:Hid (Same w2 w5):=hid ((Kept.refl _ w2).grown hg5 (by simp));clear hr5 hg5 hs5)
       go_loopg [9,10] n (fun q zc zk wx=>∃(m cc:Nat) (tl:List Nat),m≤q∧m≤n∧cc≤32768∧zc=.int .i64 (cc:Nat)∧zk=.int .i64 ((m:Int)-1)∧Hid (rowB n co=rowB m cc++tl)∧Hid (RowE 0 5 byteV wx (.slice (some ⟨w2.heap.size,0,none⟩) n n) (List.replicate m 0++tl))∧Hid (Same w2 wx))
       case atStart=>exact⟨n,co,[],by omega,by omega,by omega,rfl,by first | rfl | (congr 1;omega),hid (by simp),hid (by simpa using HROW0.out),HSM0⟩
       case round=>
        clear HROW0 HSM0
        obtain⟨m,cc,tl,hq3,hmn,hcc,rfl,rfl,HB,HROW,HSM⟩:=hrel
        cases m with
        | zero=>
         obtain⟨⟨u5,cu5⟩,fu5⟩:=HGO.out wr (HR.out.1.later HSM.out)
         have HRNEW:Hid (RW w (wr.setCell ⟨w.heap.size,i,none⟩ (.slice (some ⟨w2.heap.size,0,none⟩) n n)) w.heap.size L ns (laidR ns n (i+1)) (rs.set i (some ⟨w2.heap.size,0,none⟩,n,n))):=hid (HFIN.out wr _ n n (HR.out.1.later HSM.out) (by
          have h:=HROW.out
          have e:rowB n co=List.replicate 0 0++tl:=by rw[HB.out];rfl
          rw[←e]at h
          exact h) (fun j hj=>by simp[Value.ownBlock]at hj;omega))
         have bk:decide ((0:Int)≤((0:Nat):Int)-1)=false:=by decide
         go_wp2_with fail
         go_roundg (gk1-1)
         case measure=>have:=HG1.out;omega
         case rel=>exact⟨i+1,co,n,rs.set i (some ⟨w2.heap.size,0,none⟩,n,n),by omega,by omega,by omega,by omega,by go_num,rfl,rfl,HCN,hid ⟨HRNEW.out,by rw[List.length_set];exact HR.out.2⟩⟩
        | succ m=>
         have hkm:(((m+1:Nat):Int)-1)=(m:Int):=by omega
         have hml:m<(List.replicate (m+1) 0++tl).length:=by simp;omega
         obtain⟨y,cy⟩:∃y:Nat,wr.cell? ⟨w2.heap.size,m,none⟩=some (.int .u8 (y:Nat)):=⟨_,HROW.out.cell m hml⟩
         have fy:=HROW.out.frozen m
         obtain⟨bt,hbt⟩:∃bt,bt=cc % 2:=⟨_,rfl⟩
         obtain⟨c2,hc2⟩:∃c2,c2=cc / 2:=⟨_,rfl⟩
         have hbI:((cc:Int) % 2)=(bt:Int):=by omega
         have hcI:((cc:Int) / 2)=(c2:Int):=by omega
         have hb2:bt<2:=by omega
         have hc2l:c2≤32768:=by omega
         have HB2:Hid (rowB n co=rowB m c2++bt::tl):=hid (by rw[HB.out,hbt,hc2];simp[rowB])
         have HROW2:Hid (RowE 0 5 byteV (wr.setCell ⟨w2.heap.size,m,none⟩ (.int .u8 (bt:Nat))) (.slice (some ⟨w2.heap.size,0,none⟩) n n) (List.replicate m 0++bt::tl)):=hid (by
          have h:=HROW.out.lay m bt
          have e:(List.replicate (m+1) 0++tl).set m bt=List.replicate m 0++bt::tl:=by
           rw[List.replicate_succ',List.append_assoc,List.set_append_right _ _ (by simp)]
           simp
          rw[e]at h
          exact h)
         have HSM2:Hid (Same w2 (wr.setCell ⟨w2.heap.size,m,none⟩ (.int .u8 (bt:Nat)))):=hid (HSM.out.setCell _ _ (.inr (Nat.le_refl _)))
         clear hbt hc2
         go_wp2_with fail
         go_roundg (gk-1)
         case measure=>omega
         case rel=>exact⟨m,c2,bt::tl,by omega,by omega,hc2l,by first | rfl | (congr 1;omega),by first | rfl | (congr 1;omega),HB2,HROW2,HSM2⟩
      ·rw[if_neg hl0]at hhit
       have bl:decide (0<last)=false:=by simp;omega
       have hcoI:(code:Int)=(co:Int):=by rw[hhit]
       rw[←hhit]at *
       obtain⟨w2,hw2⟩:∃w2,w2=wr:=⟨_,rfl⟩
       subst hw2
       have hWs:w.heap.size<w2.heap.size:=HR.out.1.row.lt rfl
       go_wp2_with (at_make;refine wpList_make_bytes _ rfl _ _ rfl _ _ _ _ n rfl rfl rfl rfl (by omega) ?_;intro w5 hr5 hg5 hs5;have HROW0:Hid (Row w5 (.slice (some ⟨w2.heap.size,0,none⟩) n n) (List.replicate n 0)):=hr5;have HSM0:Hid (Same w2 w5):=hid ((Kept.refl _ w2).grown hg5 (by simp));clear hr5 hg5 hs5)
       go_loopg [9,10] n (fun q zc zk wx=>∃(m cc:Nat) (tl:List Nat),m≤q∧m≤n∧cc≤32768∧zc=.int .i64 (cc:Nat)∧zk=.int .i64 ((m:Int)-1)∧Hid (rowB n co=rowB m cc++tl)∧Hid (RowE 0 5 byteV wx (.slice (some ⟨w2.heap.size,0,none⟩) n n) (List.replicate m 0++tl))∧Hid (Same w2 wx))
       case atStart=>exact⟨n,co,[],by omega,by omega,by omega,rfl,by first | rfl | (congr 1;omega),hid (by simp),hid (by simpa using HROW0.out),HSM0⟩
       case round=>
        clear HROW0 HSM0
        obtain⟨m,cc,tl,hq3,hmn,hcc,rfl,rfl,HB,HROW,HSM⟩:=hrel
        cases m with
        | zero=>
         obtain⟨⟨u5,cu5⟩,fu5⟩:=HGO.out wr (HR.out.1.later HSM.out)
         have HRNEW:Hid (RW w (wr.setCell ⟨w.heap.size,i,none⟩ (.slice (some ⟨w2.heap.size,0,none⟩) n n)) w.heap.size L ns (laidR ns n (i+1)) (rs.set i (some ⟨w2.heap.size,0,none⟩,n,n))):=hid (HFIN.out wr _ n n (HR.out.1.later HSM.out) (by
          have h:=HROW.out
          have e:rowB n co=List.replicate 0 0++tl:=by rw[HB.out];rfl
          rw[←e]at h
          exact h) (fun j hj=>by simp[Value.ownBlock]at hj;omega))
         have bk:decide ((0:Int)≤((0:Nat):Int)-1)=false:=by decide
         go_wp2_with fail
         go_roundg (gk1-1)
         case measure=>have:=HG1.out;omega
         case rel=>exact⟨i+1,co,n,rs.set i (some ⟨w2.heap.size,0,none⟩,n,n),by omega,by omega,by omega,by omega,by go_num,rfl,rfl,HCN,hid ⟨HRNEW.out,by rw[List.length_set];exact HR.out.2⟩⟩
        | succ m=>
         have hkm:(((m+1:Nat):Int)-1)=(m:Int):=by omega
         have hml:m<(List.replicate (m+1) 0++tl).length:=by simp;omega
         obtain⟨y,cy⟩:∃y:Nat,wr.cell? ⟨w2.heap.size,m,none⟩=some (.int .u8 (y:Nat)):=⟨_,HROW.out.cell m hml⟩
         have fy:=HROW.out.frozen m
         obtain⟨bt,hbt⟩:∃bt,bt=cc % 2:=⟨_,rfl⟩
         obtain⟨c2,hc2⟩:∃c2,c2=cc / 2:=⟨_,rfl⟩
         have hbI:((cc:Int) % 2)=(bt:Int):=by omega
         have hcI:((cc:Int) / 2)=(c2:Int):=by omega
         have hb2:bt<2:=by omega
         have hc2l:c2≤32768:=by omega
         have HB2:Hid (rowB n co=rowB m c2++bt::tl):=hid (by rw[HB.out,hbt,hc2];simp[rowB])
         have HROW2:Hid (RowE 0 5 byteV (wr.setCell ⟨w2.heap.size,m,none⟩ (.int .u8 (bt:Nat))) (.slice (some ⟨w2.heap.size,0,none⟩) n n) (List.replicate m 0++bt::tl)):=hid (by
          have h:=HROW.out.lay m bt
          have e:(List.replicate (m+1) 0++tl).set m bt=List.replicate m 0++bt::tl:=by
           rw[List.replicate_succ',List.append_assoc,List.set_append_right _ _ (by simp)]
           simp
          rw[e]at h
          exact h)
         have HSM2:Hid (Same w2 (wr.setCell ⟨w2.heap.size,m,none⟩ (.int .u8 (bt:Nat)))):=hid (HSM.out.setCell _ _ (.inr (Nat.le_refl _)))
         clear hbt hc2
         go_wp2_with fail
         go_roundg (gk-1)
         case measure=>omega
         case rel=>exact⟨m,c2,bt::tl,by omega,by omega,hc2l,by first | rfl | (congr 1;omega),by first | rfl | (congr 1;omega),HB2,HROW2,HSM2⟩
     ·have hbd:((k:Int) != (n:Int))=true:=by simp;omega
      have HCM:Hid (Cnt ns n (i+1) code last):=hid (HC.out.miss (by omega))
      have HRM:Hid (RW w wr w.heap.size L ns (laidR ns n (i+1)) rs∧rs.length=L):=hid ⟨HR.out.1.mono (fun s hs=>by
       unfold laidR pre
       constructor
       ·rintro⟨h4,h5⟩
        exact⟨h4,by rcases h5 with h5 | h5;exact .inl h5;exact .inr ⟨h5.1,by omega⟩⟩
       ·rintro⟨h4,h5⟩
        refine⟨h4,?_⟩
        rcases h5 with h5 | h5
        ·exact .inl h5
        ·refine .inr ⟨h5.1,?_⟩
         by_cases e:s=i
         ·subst e;omega
         ·omega),HR.out.2⟩
      clear hk hkn
      go_wp2_with fail
      go_roundg (gk1-1)
      case measure=>have:=HG1.out;omega
      case rel=>exact⟨i+1,code,last,rs,by omega,by omega,by omega,by omega,by go_num,rfl,rfl,HCM,HRM⟩
    ·have hiL:i=L:=by omega
     have HCR:Hid (Cnt ns (n+1) 0 code last):=hid (Cnt.round (by have h:=HC.out;rw[hiL,HL.out]at h;exact h))
     have HRR:Hid (RW w wr w.heap.size L ns (laidR ns (n+1) 0) rs∧rs.length=L):=hid ⟨HR.out.1.mono (fun s hs=>by
      have:=HR.out.2
      unfold laidR pre
      constructor
      ·rintro⟨h4,h5⟩
       exact⟨h4,.inl (by omega)⟩
      ·rintro⟨h4,h5⟩
       refine⟨h4,?_⟩
       rcases h5 with h5 | h5
       ·by_cases e:key ns s<n
        ·exact .inl e
        ·exact .inr ⟨by omega,by omega⟩
       ·omega),HR.out.2⟩
     clear hiL
     go_wp2_with fail
     go_roundg (gk0-1)
     case measure=>have:=HG.out;omega
     case rel=>exact⟨n+1,code,last,rs,by omega,by omega,by omega,by omega,by omega,by go_num,rfl,rfl,HCR,HRR⟩
  ·have bn:decide ((n:Int)≤15)=false:=by simp;omega
   go_wp2_with fail
   go_ret
   refine⟨w.heap.size,rs,rfl,HR.out.1.mono (fun s hs=>?_)⟩
   have h15:key ns s≤15:=by
    by_cases e:s<ns.length
    ·rw[key_get e];exact H15.out _ (List.getElem_mem _)
    ·simp[key,e]
   unfold laidR pre
   constructor
   ·exact fun h=>h.1
   ·exact fun h=>⟨h,.inl (by omega)⟩

end Go.Proofs.YtggcbnhckcenmaaGreatDoor

namespace Go.Proofs.YtggcbnhckcenmaaGreatDoor
open Go.RowKit

theorem packM_next(ns:List Nat)(i n:Nat)(hi:i<ns.length)(hn:n=1+frontN ns[i] (ns.drop (i+1))):packM (ns.drop i)=sayM ns[i] n++packM (ns.drop (i+n)):=by
 rw[List.drop_eq_getElem_cons hi,packM_cons,List.drop_drop,hn]
 congr 3
 omega

end Go.Proofs.YtggcbnhckcenmaaGreatDoor

namespace Go.Proofs.YtggcbnhckcenmaaGreatDoor
open Go.RowKit

def PackA(w w':World)(e:Ending):Except Nat (List (Int×Int))→Prop
 | .error c=>e=.returned (.tuple #[.slice none 0 0,.int .i64 (c:Nat)])∧Same w w'
 | .ok ss=>∃v',e=.returned (.tuple #[v',.int .i64 0])∧StRow w.heap.size w' v' ss∧Same w w'

theorem packA_good{zs:List Int}(h1:zs.length≤316)(h2:lensOk zs=true):packA zs=.ok (packM (zs.map Int.toNat)):=by
 unfold packA
 rw[if_pos ⟨h1,(lensOk_iff zs).1 h2⟩]

theorem packA_bad{zs:List Int}(h:316<zs.length∨lensOk zs=false):packA zs=.error 1:=by
 unfold packA
 rw[if_neg]
 rintro⟨h1,h2⟩
 rcases h with h | h
 ·omega
 ·rw[(lensOk_iff zs).2 h2]at h;cases h

def mayM(a b:List Int):Bool:=decide (257≤a.length) && decide (a.length≤286) && decide (1≤b.length) && decide (b.length≤30) && lensOk a && lensOk b

end Go.Proofs.YtggcbnhckcenmaaGreatDoor

namespace Go.Proofs.YtggcbnhckcenmaaGreatDoor
open Go.RowKit

theorem StSrc.get{w:World}{I:Nat→Prop}{ao:Option Addr}{n cap:Nat}{ss:List (Int×Int)}(h:StSrc w I (.slice ao n cap) ss)(i:Nat)(hi:i<ss.length):∃b o,ao=some ⟨b,o,none⟩∧I b∧w.cell? ⟨b,o+i*2,none⟩=some (.int .i64 ss[i].1)∧w.cell? ⟨b,o+i*2+1,none⟩=some (.int .i64 ss[i].2):=by
 obtain⟨ao',cap',e1,_,e2⟩:=h
 injection e1 with e3 _ _
 subst e3
 obtain⟨b,o,e4,hI,e5⟩:=e2 (by intro e;rw[e]at hi;simp at hi)
 exact⟨b,o,e4,hI,e5 i hi 0 (by decide),e5 i hi 1 (by decide)⟩

end Go.Proofs.YtggcbnhckcenmaaGreatDoor

namespace Go.Proofs.YtggcbnhckcenmaaGreatDoor
open Go.RowKit

abbrev RdB(w:World)(h:Nat)(v:Value)(c:Nat)(vo:Value)(most e:Nat):Prop:=Blk w h #[v,.int .i64 (c:Nat),vo,.int .i64 (most:Nat),.int .i64 (e:Nat)] 87

set_option maxRecDepth 100000 in
set_option maxHeartbeats 2000000 in
theorem itake_any(w:World)(h:Nat)(v:Value)(I:Nat→Prop)(ls:List Nat)(c:Nat)(vo:Value)(out:List Nat)(most e n:Nat)(hH:RdB w h v c vo most e)(hs:Src w I v ls)(hb:∀b∈ls,b<2)(hn:n≤32)(hc:c≤ls.length)(hlen:ls.length≤1000000000):
  Calls Tryz.prog 99 #[.pointer (some ⟨h,0,none⟩),.int .i64 (n:Nat)] w fun r w'=>r=.returned (.int .i64 ((tk ls ⟨c,out,e⟩ n).1:Nat))∧RdB w' h v (tk ls ⟨c,out,e⟩ n).2.c vo most (tk ls ⟨c,out,e⟩ n).2.e∧Kept (·=h) w w':=by
 obtain⟨ao,cap,rfl,hsa⟩:=id hs
 have c0:=hH.cell 0
 have c1:=hH.cell 1
 have c4:=hH.cell 4
 have f1:=hH.frozen 1
 have f4:=hH.frozen 4
 simp at c0 c1 c4
 have HH:Hid (RdB w h (.slice ao ls.length cap) c vo most e):=hH
 have HS:Hid (Src w I (.slice ao ls.length cap) ls):=hs
 have HB:Hid (∀b∈ls,b<2):=hb
 obtain⟨M,hM⟩:∃M,M=ls.length:=⟨_,rfl⟩
 rw[←hM]at c0 HH HS hc hlen
 have HM:Hid (M=ls.length):=hM
 clear hs hsa hb hH
 by_cases he:e=0
 ·subst he
  obtain⟨d,hd⟩:∃d,d=M-c:=⟨_,rfl⟩
  have hdI:(M:Int)-(c:Int)=(d:Int):=by omega
  have hwd:IntKind.i64.wrap (d:Int)=(d:Int):=by rw[IntKind.wrap_i64];omega
  by_cases hdn:d<n
  ·have HE:Hid (tk ls ⟨c,out,0⟩ n=(0,⟨c,out,55⟩)):=hid (by unfold tk;rw[if_neg (by simp),if_pos (by simp only;omega)])
   clear hd hM
   go_enter Tryz.func99,Tryz.ntmps99
   go_wp2_with fail
   go_quiet (fail)
   go_wp2_with fail
   go_ret
   rw[HE.out]
   refine⟨rfl,?_,((Kept.refl (·=h) w).drewN _).setCell ⟨h,4,none⟩ _ (.inl rfl)⟩
   have hb:=(HH.out.drewN nq).set 4 (.int .i64 55)
   rw[HM.out]at hb
   simp at hb
   exact hb
  ·have hdd:decide (d<n)=false:=by simp;omega
   have hfit:c+n≤M:=by omega
   obtain⟨x,hx⟩:∃x,x=numAt ls c n:=⟨_,rfl⟩
   have HE:Hid (tk ls ⟨c,out,0⟩ n=(x,⟨c+n,out,0⟩)):=hid (by unfold tk;rw[if_neg (by simp),if_neg (by simp only;omega),hx])
   have HNB:∀wx:World,Src wx I (.slice ao M cap) ls→Calls Tryz.prog 133 #[.slice ao M cap,.int .i64 (c:Nat),.int .i64 (n:Nat)] wx fun e w'=>e=.returned (.int .u32 (x:Nat))∧w'=wx:=by
    intro wx hsx
    have h1:=refNumber_any wx _ I ls hsx HB.out c n hn (by omega) (by omega)
    rw[←n2_part ls HB.out c n (by omega)]at h1
    have e1:n2 ((ls.drop c).take n)=x:=hx.symm
    rw[e1]at h1
    exact h1
   have hx32:x<4294967296:=by
    rw[hx]
    exact Nat.lt_of_lt_of_le (numAt_lt ls HB.out c n) (Nat.le_trans (Nat.pow_le_pow_right (by omega) hn) (by decide))
   obtain⟨cn,hcn⟩:∃cn,cn=c+n:=⟨_,rfl⟩
   have hcnI:(c:Int)+(n:Int)=(cn:Int):=by omega
   have HCN:Hid (cn=c+n):=hcn
   have hcnle:cn≤1000000000:=by omega
   clear hd hM hx hcn hdn hfit
   go_enter Tryz.func99,Tryz.ntmps99
   go_wp2_with fail
   go_quiet (fail)
   go_wp2_with fail
   have HS1:Hid (Src (w.drewN nq) I (.slice ao M cap) ls):=hid (HS.out.kept ((Kept.refl (fun _=>False) w).drewN nq) (fun _ _ _ f=>f))
   have HH1:Hid (RdB (w.drewN nq) h (.slice ao M cap) c vo most 0):=hid (HH.out.drewN nq)
   have HK1:Hid (Kept (·=h) w (w.drewN nq)):=hid ((Kept.refl (·=h) w).drewN nq)
   generalize w.drewN nq=w1 at *
   have c0:=HH1.out.cell 0
   have c1:=HH1.out.cell 1
   have f1:=HH1.out.frozen 1
   simp at c0 c1
   have HN1:=fun q=>HNB (w1.drewN q) (HS1.out.kept ((Kept.refl (fun _=>False) w1).drewN q) (fun _ _ _ f=>f))
   go_quiet ((go_at_call 133;exact Calls.quiet_of_same (HN1 _)))
   go_wp2_with fail
   go_ret
   rw[HE.out]
   simp only
   rw[←HCN.out]
   refine⟨rfl,?_,(HK1.out.drewN _).setCell ⟨h,1,none⟩ _ (.inl rfl)⟩
   have hb:=(HH1.out.drewN nq).set 1 (.int .i64 (cn:Nat))
   rw[HM.out]at hb
   simp at hb
   exact hb
 ·have HE:Hid (tk ls ⟨c,out,e⟩ n=(0,⟨c,out,e⟩)):=hid (by unfold tk;rw[if_pos he])
  have hed:((e:Int) != 0)=true:=by simp;omega
  clear he hM
  go_enter Tryz.func99,Tryz.ntmps99
  go_wp2_with fail
  go_ret
  rw[HE.out]
  refine⟨rfl,?_,Kept.refl (·=h) w⟩
  have hb:=HH.out
  rw[HM.out]at hb
  exact hb

structure RS(w:World)(I G:Nat→Prop)(h:Nat)(v:Value)(ls:List Nat)(most:Nat)(s:S5)(c:Nat)(vo:Value):Prop where
 blk:RdB w h v c vo most s.e
 row:Row w vo s.out
 ne:vo.ownBlock≠some h
 gh:¬G h
 go:∀k,vo.ownBlock=some k→¬G k
 lt:∀k,G k→k<w.heap.size
 src:Src w I v ls
 ig:∀k,I k→G k
 pl:s.e=0→c=s.c
 le:c≤ls.length
 ol:s.out.length≤most
 by':∀b∈s.out,b<256

structure Sz(ls:List Nat)(most:Nat):Prop where
 bit:∀b∈ls,b<2
 len:ls.length≤1000000
 mo:most≤1000000

abbrev RX(w:World)(I G:Nat→Prop)(h:Nat)(v:Value)(ls:List Nat)(most:Nat)(s:S5):Prop:=∃c vo,RS w I G h v ls most s c vo

abbrev KG(G:Nat→Prop)(w w':World):Prop:=Kept (fun k=>¬G k) w w'

theorem KG.trans{G:Nat→Prop}{a b c:World}(h:KG G a b)(k:KG G b c):KG G a c:=Kept.trans h k (fun _ _ x=>x) (fun _ _ x=>x)
theorem KG.same{G:Nat→Prop}{a b:World}(h:Same a b):KG G a b:=h.mono (fun _ _ e=>e.elim)
theorem KG.less{G G':Nat→Prop}{a b:World}(h:KG G' a b)(hg:∀k,G k→G' k):KG G a b:=h.mono (fun x _ e g=>e (hg x g))

theorem RS.drewN{w:World}{I G:Nat→Prop}{h:Nat}{v:Value}{ls:List Nat}{most:Nat}{s:S5}{c:Nat}{vo:Value}(r:RS w I G h v ls most s c vo)(n:Nat):RS (w.drewN n) I G h v ls most s c vo:=
 ⟨r.blk,r.row,r.ne,r.gh,r.go,r.lt,r.src,r.ig,r.pl,r.le,r.ol,r.by'⟩

theorem RS.same{w w':World}{I G:Nat→Prop}{h:Nat}{v:Value}{ls:List Nat}{most:Nat}{s:S5}{c:Nat}{vo:Value}(r:RS w I G h v ls most s c vo)(hk:Same w w'):RS w' I G h v ls most s c vo:=
 ⟨r.blk.kept hk (fun f=>f),r.row.kept hk (fun _ _ f=>f),r.ne,r.gh,r.go,fun k g=>Nat.lt_of_lt_of_le (r.lt k g) hk.size,r.src.kept hk (fun _ _ _ f=>f),r.ig,r.pl,r.le,r.ol,r.by'⟩

theorem RS.turn{w w':World}{I G:Nat→Prop}{h:Nat}{v:Value}{ls:List Nat}{most:Nat}{s:S5}{c:Nat}{vo:Value}(r:RS w I G h v ls most s c vo)(hk:Kept (·=h) w w'){c' e' cs:Nat}(hb:RdB w' h v c' vo most e')(hp:e'=0→c'=cs)(hl:c'≤ls.length):RS w' I G h v ls most ⟨cs,s.out,e'⟩ c' vo:=
 ⟨hb,r.row.kept hk (fun k e e2=>r.ne (by rw[e,e2])),r.ne,r.gh,r.go,fun k g=>Nat.lt_of_lt_of_le (r.lt k g) hk.size,r.src.kept hk (fun k hi _ e=>by subst e;exact r.gh (r.ig _ hi)),r.ig,hp,hl,r.ol,r.by'⟩

theorem RS.kg{w w':World}{I G:Nat→Prop}{h:Nat}{v:Value}{ls:List Nat}{most:Nat}{s:S5}{c:Nat}{vo:Value}(r:RS w I G h v ls most s c vo)(hk:Kept (·=h) w w'):KG G w w':=hk.mono (fun x _ e g=>by subst e;exact r.gh g)

def RS.all(w:World)(h:Nat)(vo:Value)(k:Nat):Prop:=k<w.heap.size∧k≠h∧vo.ownBlock≠some k
theorem RS.more{w:World}{I G:Nat→Prop}{h:Nat}{v:Value}{ls:List Nat}{most:Nat}{s:S5}{c:Nat}{vo:Value}(r:RS w I G h v ls most s c vo):RS w I (RS.all w h vo) h v ls most s c vo:=
 ⟨r.blk,r.row,r.ne,fun g=>g.2.1 rfl,fun k e g=>g.2.2 e,fun k g=>g.1,r.src,fun k i=>⟨r.lt k (r.ig k i),fun e=>by subst e;exact r.gh (r.ig _ i),fun e=>r.go k e (r.ig k i)⟩,r.pl,r.le,r.ol,r.by'⟩
theorem RS.all_of{w:World}{I G:Nat→Prop}{h:Nat}{v:Value}{ls:List Nat}{most:Nat}{s:S5}{c:Nat}{vo:Value}(r:RS w I G h v ls most s c vo)(k:Nat)(g:G k):RS.all w h vo k:=⟨r.lt k g,fun e=>by subst e;exact r.gh g,fun e=>r.go k e g⟩
theorem RS.weak{w:World}{I G G':Nat→Prop}{h:Nat}{v:Value}{ls:List Nat}{most:Nat}{s:S5}{c:Nat}{vo:Value}(r:RS w I G' h v ls most s c vo)(hg:∀k,G k→G' k)(hi:∀k,I k→G k):RS w I G h v ls most s c vo:=
 ⟨r.blk,r.row,r.ne,fun g=>r.gh (hg h g),fun k e g=>r.go k e (hg k g),fun k g=>r.lt k (hg k g),r.src,hi,r.pl,r.le,r.ol,r.by'⟩

theorem tk_le(ls:List Nat)(s:S5)(n:Nat)(h:s.c≤ls.length):(tk ls s n).2.c≤ls.length:=by
 unfold tk
 split
 ·exact h
 ·split
  ·exact h
  ·simp only;omega

theorem tk_stuck{ls:List Nat}{s:S5}{n:Nat}(h:s.e≠0):tk ls s n=(0,s):=by unfold tk;rw[if_pos h]
theorem tk_ok{ls:List Nat}{s:S5}{n:Nat}(he:s.e=0)(h:s.c+n≤ls.length):tk ls s n=(numAt ls s.c n,{s with c:=s.c+n}):=by
 unfold tk;rw[if_neg (by simp[he]),if_neg (by omega)]
theorem tk_end{ls:List Nat}{s:S5}{n:Nat}(he:s.e=0)(h:ls.length<s.c+n):tk ls s n=(0,{s with e:=55}):=by
 unfold tk;rw[if_neg (by simp[he]),if_pos h]
theorem tk_lt(ls:List Nat)(hb:∀b∈ls,b<2)(s:S5)(n:Nat):(tk ls s n).1<2 ^ n:=by
 have h0:=Nat.two_pow_pos n
 unfold tk
 split
 ·exact h0
 ·split
  ·exact h0
  ·exact numAt_lt ls hb s.c n

theorem take5(w:World)(I G:Nat→Prop)(h:Nat)(v:Value)(ls:List Nat)(most:Nat)(s:S5)(n:Nat)(hz:Sz ls most)(hn:n≤32)(hr:RX w I G h v ls most s):
  Calls Tryz.prog 99 #[.pointer (some ⟨h,0,none⟩),.int .i64 (n:Nat)] w fun r w'=>r=.returned (.int .i64 ((tk ls s n).1:Nat))∧RX w' I G h v ls most (tk ls s n).2∧KG G w w':=by
 obtain⟨c,vo,r⟩:=hr
 refine(itake_any w h v I ls c vo s.out most s.e n r.blk r.src hz.bit hn r.le (by have:=hz.len;omega)).mono ?_
 rintro x w' ⟨rfl,hb,hk⟩
 obtain⟨sc,so,se⟩:=s
 by_cases he:se=0
 ·subst he
  have hc:c=sc:=r.pl rfl
  subst hc
  have hl:=tk_le ls ⟨c,so,0⟩ n r.le
  by_cases hf:ls.length<c+n
  ·rw[tk_end rfl hf]at hb hl ⊢
   exact⟨rfl,⟨_,_,r.turn hk hb (fun _=>rfl) hl⟩,r.kg hk⟩
  ·rw[tk_ok rfl (by simp only;omega)]at hb hl ⊢
   exact⟨rfl,⟨_,_,r.turn hk hb (fun _=>rfl) hl⟩,r.kg hk⟩
 ·rw[tk_stuck he]at hb ⊢
  rw[tk_stuck he]
  exact⟨rfl,⟨_,_,r.turn hk hb (fun e=>absurd e he) r.le⟩,r.kg hk⟩

set_option maxHeartbeats 2000000 in
theorem lay5(w:World)(I G:Nat→Prop)(h:Nat)(v:Value)(ls:List Nat)(most:Nat)(s:S5)(b:Nat)(hz:Sz ls most)(hb:b<256)(hr:RX w I G h v ls most s):
  Calls Tryz.prog 134 #[.pointer (some ⟨h,0,none⟩),.int .u8 (b:Nat)] w fun r w'=>(∃u,r=.returned u)∧RX w' I G h v ls most (ly most s b)∧KG G w w':=by
 obtain⟨c,vo,r⟩:=hr
 obtain⟨sc,so,e⟩:=s
 have HH:Hid (RS w I G h v ls most ⟨sc,so,e⟩ c vo):=r
 have HZ:Hid (Sz ls most):=hz
 obtain⟨ao,cap,hvo,_⟩:=r.row.shape
 simp only at hvo
 subst hvo
 have c2:=r.blk.cell 2
 have c3:=r.blk.cell 3
 have c4:=r.blk.cell 4
 have f2:=r.blk.frozen 2
 have f4:=r.blk.frozen 4
 simp at c2 c3 c4
 obtain⟨M,hM⟩:∃M,M=so.length:=⟨_,rfl⟩
 have HM:Hid (M=so.length):=hM
 have hol:=r.ol
 have hmo:=hz.mo
 simp only at hol
 rw[←hM]at c2 hol HH
 clear r hM hz
 by_cases he:e=0
 ·subst he
  by_cases hf:most≤M
  ·have HE:Hid (ly most ⟨sc,so,0⟩ b=⟨sc,so,56⟩):=hid (by unfold ly;rw[if_neg (by simp),if_pos (by have:=HM.out;simp only;omega)])
   go_enter Tryz.func134,Tryz.ntmps134
   go_wp2_with fail
   go_quiet (fail)
   go_wp2_with fail
   refine bodyPost_ret (results_none rfl _ _ _) rfl ?_
   have hk:Kept (·=h) w ((w.drewN nq).setCell ⟨h,4,none⟩ (.int .i64 56)):=((Kept.refl (·=h) w).drewN nq).setCell ⟨h,4,none⟩ _ (.inl rfl)
   have hb:=(HH.out.blk.drewN nq).set 4 (.int .i64 56)
   simp at hb
   rw[HE.out]
   exact⟨⟨_,rfl⟩,⟨c,_,HH.out.turn (e':=56) hk hb (fun e=>by cases e) HH.out.le⟩,HH.out.kg hk⟩
  ·have hfd:decide (most≤M)=false:=by simp;omega
   have HE:Hid (ly most ⟨sc,so,0⟩ b=⟨sc,so++[b],0⟩):=hid (by unfold ly;rw[if_neg (by simp),if_neg (by have:=HM.out;simp only;omega)])
   have HB:Hid (b<256):=hb
   have HF:Hid (M<most):=hid (by omega)
   clear hf
   go_enter Tryz.func134,Tryz.ntmps134
   go_wp2_with fail
   go_quiet (fail)
   have HH1:Hid (RS (w.drewN nq) I G h v ls most ⟨sc,so,0⟩ c (.slice ao M cap)):=hid (HH.out.drewN nq)
   have HK1:Hid (KG G w (w.drewN nq)):=hid ((Kept.refl _ w).drewN nq)
   clear HH c2 c3 c4 f2 f4
   generalize w.drewN nq=w1 at *
   have c2:=HH1.out.blk.cell 2
   have f2:=HH1.out.blk.frozen 2
   have hlt1:=HH1.out.blk.lt
   simp at c2
   have hne:h≠w1.heap.size:=by omega
   have hrow1:Row (w1.alloc (.cells #[.int .u8 (b:Nat)] 5)) (.slice ao M cap) so:=HH1.out.row.kept ((Kept.refl (fun _=>False) w1).alloc _) (fun _ _ f=>f)
   have HR1:Hid (Row (w1.alloc (.cells #[.int .u8 (b:Nat)] 5)) (.slice ao M cap) so):=hrow1
   have HL:Hid (so.length+[b].length≤1000000000000):=hid (by have:=HM.out;have:=HZ.out.mo;have:=HF.out;simp;omega)
   clear hrow1
   go_wp2_with (at_builtin;refine wpList_append_row _ rfl (.tmp 26) (.tmp 28) rfl (.slice ao M cap) so rfl HR1.out ⟨w1.heap.size,0,none⟩ 1 1 [b] rfl rfl (bytesAt_new _ _) HL.out ?_)
   intro v2 w2 hr2 hg2 ho2
   have hnh:(Value.slice ao M cap).ownBlock≠some h:=HH1.out.ne
   have hkA:Kept (fun k=>(Value.slice ao M cap).ownBlock=some k) w1 w2:=((Kept.refl _ w1).alloc _).grown hg2 (fun k e=>.inl e)
   have HKA:Hid (Kept (fun k=>(Value.slice ao M cap).ownBlock=some k) w1 w2):=hkA
   have HR2:Hid (Row w2 v2 (so++[b])):=hr2
   have HO2:Hid (v2.ownBlock=(Value.slice ao M cap).ownBlock∨v2.ownBlock=some (w1.heap.size+1)):=ho2
   have HB2:Hid (RdB w2 h v c (.slice ao M cap) most 0):=hid (HH1.out.blk.kept hkA hnh)
   have g2:=HB2.out.frozen 2
   have d2:=HB2.out.cell 2
   simp at d2
   obtain⟨ao2,cap2,hv2,_⟩:=hr2.shape
   generalize (so++[b]).length=L2 at hv2
   subst hv2
   clear hr2 hg2 ho2 hkA hnh c2 f2
   go_wp2_with fail
   go_end0
   rw[HE.out]
   have hb3:=HB2.out.set 2 (.slice ao2 L2 cap2)
   simp at hb3
   have hv2:∀k,(Value.slice ao2 L2 cap2).ownBlock=some k→k≠h∧¬G k:=by
    intro k e
    rcases HO2.out with e2 | e2
    ·rw[e2]at e
     exact⟨fun e3=>HH1.out.ne (by rw[e,e3]),HH1.out.go k e⟩
    ·rw[e2]at e
     injection e with e
     exact⟨fun e3=>by omega,fun g=>by have:=HH1.out.lt k g;omega⟩
   have hkB:Kept (·=h) w2 (w2.setCell ⟨h,2,none⟩ (.slice ao2 L2 cap2)):=(Kept.refl (·=h) w2).setCell ⟨h,2,none⟩ _ (.inl rfl)
   have hkg:KG G w1 (w2.setCell ⟨h,2,none⟩ (.slice ao2 L2 cap2)):=Kept.trans HKA.out hkB (fun x _ e g=>HH1.out.go x e g) (fun x _ e g=>by subst e;exact HH1.out.gh g)
   refine⟨⟨_,rfl⟩,⟨c,_,hb3,HR2.out.kept hkB (fun k e e2=>(hv2 k e).1 e2),fun e=>(hv2 h e).1 rfl,HH1.out.gh,fun k e=>(hv2 k e).2,fun k g=>Nat.lt_of_lt_of_le (HH1.out.lt k g) hkg.size,HH1.out.src.kept hkg (fun k hi _ f=>f (HH1.out.ig k hi)),HH1.out.ig,HH1.out.pl,HH1.out.le,?_,?_⟩,HK1.out.trans hkg⟩
   ·have:=HM.out;have:=HF.out;simp;omega
   ·intro x hx
    rcases List.mem_append.1 hx with hx | hx
    ·exact HH1.out.by' x hx
    ·simp at hx;subst hx;exact HB.out
 ·have HE:Hid (ly most ⟨sc,so,e⟩ b=⟨sc,so,e⟩):=hid (by unfold ly;rw[if_pos he])
  have hed:((e:Int) != 0)=true:=by simp;omega
  clear he
  go_enter Tryz.func134,Tryz.ntmps134
  go_wp2_with fail
  refine bodyPost_ret (results_none rfl _ _ _) rfl ?_
  rw[HE.out]
  exact⟨⟨_,rfl⟩,⟨c,_,HH.out⟩,Kept.refl _ _⟩

end Go.Proofs.YtggcbnhckcenmaaGreatDoor

namespace Go.Proofs.YtggcbnhckcenmaaGreatDoor
open Go.RowKit

set_option maxHeartbeats 1000000 in
theorem power5(w:World)(n:Nat)(hn:n≤15):Calls Tryz.prog 173 #[.int .i64 (n:Nat)] w fun e w'=>e=.returned (.int .i64 ((2 ^ n:Nat):Int))∧w'=w:=by
 go_enter Tryz.func173,Tryz.ntmps173
 go_wp2_with fail
 go_loopg [3,4] n (fun q zp zi wr=>∃(i p:Nat),n-i≤q∧i≤n∧p≤32768∧zi=.int .i64 (i:Nat)∧zp=.int .i64 (p:Nat)∧wr=w∧Hid (p=2 ^ i))
 case atStart=>exact⟨0,1,by omega,by omega,by omega,rfl,rfl,rfl,hid rfl⟩
 case round=>
  obtain⟨i,p,hq,hi,hp,rfl,rfl,rfl,HP⟩:=hrel
  by_cases hlt:i<n
  ·have hp2:2*p≤32768:=by
    rw[HP.out]
    have h2:2 ^ (i+1)≤2 ^ 15:=Nat.pow_le_pow_right (by omega) (by omega)
    rw[Nat.pow_succ]at h2
    have h3:(2:Nat) ^ 15=32768:=by decide
    omega
   go_wp2_with fail
   go_roundg (gk-1)
   case measure=>omega
   case rel=>exact⟨i+1,2*p,by omega,by omega,hp2,by go_num,by congr 1<;>omega,rfl,hid (by rw[HP.out,Nat.pow_succ];omega)⟩
  ·have hin:i=n:=by omega
   subst hin
   go_wp2_with fail
   go_ret
   exact⟨by rw[←HP.out];rfl,rfl⟩

set_option maxRecDepth 100000 in
set_option maxHeartbeats 1000000 in
theorem extra5(w:World)(s:Nat)(hs:s≤1000):Calls Tryz.prog 174 #[.int .i64 (s:Nat)] w fun e w'=>e=.returned (.int .i64 (xlen s:Nat))∧w'=w:=by
 go_enter Tryz.func174,Tryz.ntmps174
 by_cases hlt:s<265
 ·have HE:Hid (xlen s=0):=hid (by unfold xlen;rw[if_pos hlt])
  go_wp2_with fail
  go_ret
  exact⟨by rw[HE.out];rfl,rfl⟩
 ·obtain⟨d,hd⟩:∃d,d=s-261:=⟨_,rfl⟩
  have hdI:(s:Int)-261=(d:Int):=by omega
  have HE:Hid (xlen s=d / 4):=hid (by unfold xlen;rw[if_neg hlt,hd])
  go_wp2_with fail
  go_ret
  exact⟨by rw[HE.out];go_num,rfl⟩

set_option maxRecDepth 100000 in
set_option maxHeartbeats 1000000 in
theorem wide5(w:World)(s:Nat)(hs:s≤1000):Calls Tryz.prog 175 #[.int .i64 (s:Nat)] w fun e w'=>e=.returned (.int .i64 (xdist s:Nat))∧w'=w:=by
 go_enter Tryz.func175,Tryz.ntmps175
 by_cases hlt:s<4
 ·have HE:Hid (xdist s=0):=hid (by unfold xdist;rw[if_pos hlt])
  go_wp2_with fail
  go_ret
  exact⟨by rw[HE.out];rfl,rfl⟩
 ·obtain⟨d,hd⟩:∃d,d=s-2:=⟨_,rfl⟩
  have hdI:(s:Int)-2=(d:Int):=by omega
  have HE:Hid (xdist s=d / 2):=hid (by unfold xdist;rw[if_neg hlt,hd])
  go_wp2_with fail
  go_ret
  exact⟨by rw[HE.out];go_num,rfl⟩

theorem lbase_succ(k:Nat)(h:257≤k):lbase (k+1)=lbase k+2 ^ xlen k:=by
 unfold lbase
 rw[show k+1-257=(k-257)+1 by omega,List.range_succ,List.map_append,List.sum_append]
 simp[show 257+(k-257)=k by omega]
 omega
theorem dbase_succ(k:Nat):dbase (k+1)=dbase k+2 ^ xdist k:=by
 unfold dbase
 rw[List.range_succ,List.map_append,List.sum_append]
 simp
 omega
theorem xlen_le(s:Nat)(h:s≤284):xlen s≤5:=by
 unfold xlen;split<;>omega
theorem xdist_le(s:Nat)(h:s≤29):xdist s≤13:=by
 unfold xdist;split<;>omega

set_option maxHeartbeats 1000000 in
theorem used5(w:World)(v:Value)(I:Nat→Prop)(ns:List Nat)(hs:SrcE natV w I v ns)(hn:ns.length≤1000000):
  Calls Tryz.prog 140 #[v] w fun e w'=>e=.returned (.bool (usedB ns))∧w'=w:=by
 obtain⟨ao,cap,rfl,hx1,hx2⟩:=id hs
 clear hx1 hx2
 have HS:Hid (SrcE natV w I (.slice ao ns.length cap) ns):=hs
 clear hs
 go_enter Tryz.func140,Tryz.ntmps140
 go_wp2_with fail
 go_loopg [3] ns.length (fun q zi wr=>∃(i:Nat),ns.length-i≤q∧i≤ns.length∧zi=.int .i64 (i:Nat)∧wr=w∧Hid (usedB (ns.take i)=false))
 case atStart=>exact⟨0,by omega,by omega,rfl,rfl,hid rfl⟩
 case round=>
  obtain⟨i,hq,hi,rfl,rfl,HC⟩:=hrel
  by_cases hlt:i<ns.length
  ·obtain⟨b,o,cap',e,_,_,cx⟩:=HS.out.get i hlt
   simp only[Value.slice.injEq]at e
   obtain⟨rfl,hxe,rfl⟩:=e
   clear hxe
   obtain⟨x,hx⟩:∃x,x=ns[i]:=⟨_,rfl⟩
   rw[←hx]at cx
   unfold natV at cx
   have HX:Hid (x=ns[i]):=hx
   clear hx
   by_cases h0:x=0
   ·have HZ:Hid (usedB (ns.take (i+1))=false):=hid (by
     rw[List.take_succ_eq_append_getElem hlt,←HX.out,h0]
     have h:=HC.out
     unfold usedB at h ⊢
     rw[List.any_append,h]
     rfl)
    rw[h0]at cx
    clear h0
    go_wp2_with fail
    go_roundg (gk-1)
    case measure=>omega
    case rel=>exact⟨i+1,by omega,by omega,by go_num,rfl,HZ⟩
   ·have hpos:0<x:=by omega
    have HZ:Hid (usedB ns=true):=hid (by
     unfold usedB
     exact List.any_eq_true.2 ⟨x,by rw[HX.out];exact List.getElem_mem _,by simp;omega⟩)
    clear h0
    go_wp2_with fail
    go_ret
    exact⟨by rw[HZ.out];rfl,rfl⟩
  ·have hin:i=ns.length:=by omega
   subst hin
   go_wp2_with fail
   go_ret
   have h:=HC.out
   rw[List.take_of_length_le (Nat.le_refl _)]at h
   exact⟨by rw[h];rfl,rfl⟩

theorem nat_new(w:World)(x:Nat):CellsAt (w.alloc (.cells #[.int .i64 (x:Nat)] 3)) ⟨w.heap.size,0,none⟩ ([x].map natV):=cellsAt_new w _ _

theorem Tryz.infoI5:(Tryz.prog.info? 3).map (fun i=>(i.zero,i.size,i.bytes))=some (some (.int .i64 0),1,8):=by kernel_rfl

theorem wpList_append_nat{ops:Array Oper}{rest:List Oper}{o:Oper}{a:Act}{Q:Exit→Act→World→Prop}(w:World)(B:Nat)(hgd:o.guard=none)(s x:Operand)
  (ho:o.op=.call {callee:=.builtin .append,args:=#[s,x],argTypes:=#[45,45]})
  (v:Value) (xs:List Nat) (hs:a.eval s=v) (hrow:NRow B w v xs) (ad:Addr) (y:Nat) (hx:a.eval x=.slice (some ad) 1 1) (hcs:CellsAt w ad ([y].map natV)) (hlen:xs.length+1≤1000000000) (hB:B≤w.heap.size)
  (h:∀v' w',NRow B w' v' (xs++[y])→w.grownBy w' v.ownBlock→wpList Tryz.prog ops Q rest (a.put o.dst v') w'):wpList Tryz.prog ops Q (o::rest) a w:=
 wpList_append_e w natV natV_one B 45 3 (.int .i64 0) 8 Tryz.underlying45 Tryz.infoI5 rfl (by decide) hgd s x ho v xs hs hrow ad 1 1 [y] hx rfl hcs hlen hB h

set_option maxHeartbeats 1000000 in
theorem times5(w:World)(B:Nat)(v:Value)(xs:List Nat)(n x:Nat)(hrow:NRow B w v xs)(hB:B≤w.heap.size)(hlen:xs.length+n≤1000000):
  Calls Tryz.prog 135 #[v,.int .i64 (n:Nat),.int .i64 (x:Nat)] w fun e w'=>∃v',e=.returned v'∧NRow B w' v' (xs++List.replicate n x)∧Kept (Over B) w w':=by
 have HR:Hid (NRow B w v xs):=hrow
 clear hrow
 go_enter Tryz.func135,Tryz.ntmps135
 go_wp2_with fail
 go_loopg [0,7] n (fun q zv zi wr=>∃(i:Nat),n-i≤q∧i≤n∧zi=.int .i64 (i:Nat)∧Hid (NRow B wr zv (xs++List.replicate i x))∧Hid (Kept (Over B) w wr))
 case atStart=>exact⟨0,by omega,by omega,rfl,hid (by simpa using HR.out),Kept.refl _ _⟩
 case round=>
  obtain⟨i,hq,hi,rfl,HV,HK⟩:=hrel
  by_cases hlt:i<n
  ·have hsz:=HK.out.size
   have HL:Hid ((xs++List.replicate i x).length+1≤1000000000):=hid (by simp;omega)
   go_wp2_with (at_builtin;refine wpList_append_nat _ B rfl (.tmp 13) (.tmp 15) rfl u0 _ rfl (World.ownsRow.alloc HV.out _) ⟨wr.heap.size,0,none⟩ x rfl (nat_new _ _) HL.out (by simp;omega) ?_;intro v1 w1 hr1 hg1)
   have HV1:Hid (NRow B w1 v1 (xs++List.replicate (i+1) x)):=hid (by rw[List.replicate_succ',←List.append_assoc];exact hr1)
   have HK1:Hid (Kept (Over B) w w1):=hid ((HK.out.alloc _).grown hg1 (fun k e=>.inl (by have:=HV.out.ge e;exact this)))
   clear hr1 hg1
   go_wp2_with fail
   go_roundg (gk-1)
   case measure=>omega
   case rel=>exact⟨i+1,by omega,by omega,by go_num,HV1,HK1⟩
  ·have hin:i=n:=by omega
   go_wp2_with fail
   go_ret
   exact⟨_,rfl,by rw[←hin];exact HV.out,HK.out⟩

set_option maxHeartbeats 2000000 in
theorem fixed5(w:World):
  Calls Tryz.prog 101 #[] w fun e w'=>∃va vb,e=.returned (.tuple #[va,vb])∧NRow w.heap.size w' va fixL∧NRow w.heap.size w' vb fixD∧Same w w':=by
 have T1:=times5 w w.heap.size (.slice none 0 0) [] 144 8 RowE.nil (Nat.le_refl _) (by decide)
 go_enter Tryz.func101,Tryz.ntmps101
 go_wp2_with fail
 refine T1.mono ?_
 rintro e1 w1 ⟨v1,rfl,hr1,hk1⟩
 have T2:=times5 w1 w.heap.size v1 _ 112 9 hr1 hk1.size (by simp only[List.length_append,List.length_replicate,List.length_nil];omega)
 have HK1:Hid (Kept (Over w.heap.size) w w1):=hk1
 clear hr1 hk1 T1
 go_wp2_with fail
 refine T2.mono ?_
 rintro e2 w2 ⟨v2,rfl,hr2,hk2⟩
 have HK2:Hid (Kept (Over w.heap.size) w w2):=hid (HK1.out.over hk2)
 have T3:=times5 w2 w.heap.size v2 _ 24 7 hr2 HK2.out.size (by simp only[List.length_append,List.length_replicate,List.length_nil];omega)
 clear hr2 hk2 T2
 go_wp2_with fail
 refine T3.mono ?_
 rintro e3 w3 ⟨v3,rfl,hr3,hk3⟩
 have HK3:Hid (Kept (Over w.heap.size) w w3):=hid (HK2.out.over hk3)
 have T4:=times5 w3 w.heap.size v3 _ 8 8 hr3 HK3.out.size (by simp only[List.length_append,List.length_replicate,List.length_nil];omega)
 clear hr3 hk3 T3
 go_wp2_with fail
 refine T4.mono ?_
 rintro e4 w4 ⟨v4,rfl,hr4,hk4⟩
 have HK4:Hid (Kept (Over w.heap.size) w w4):=hid (HK3.out.over hk4)
 have HR4:Hid (NRow w.heap.size w4 v4 fixL):=hid (by rw[List.nil_append]at hr4;exact hr4)
 have T5:=times5 w4 w4.heap.size (.slice none 0 0) [] 32 5 RowE.nil (Nat.le_refl _) (by decide)
 clear hr4 hk4 T4
 go_wp2_with fail
 refine T5.mono ?_
 rintro e5 w5 ⟨v5,rfl,hr5,hk5⟩
 have hS:Same w4 w5:=hk5.same_over (Nat.le_refl _)
 have HK5:Hid (Same w w5):=hid (Same.trans (HK4.out.same_over (Nat.le_refl _)) hS)
 have HR5:Hid (NRow w.heap.size w5 v4 fixL):=hid (HR4.out.same hS)
 have HV5:Hid (NRow w.heap.size w5 v5 fixD):=hid (RowE.base (by rw[List.nil_append]at hr5;exact hr5) HK4.out.size)
 clear hr5 hk5 hS T5
 go_wp2_with fail
 go_ret2
 exact⟨_,_,rfl,HR5.out,HV5.out,HK5.out⟩

set_option maxRecDepth 100000 in
set_option maxHeartbeats 2000000 in
theorem length5(w:World)(I G:Nat→Prop)(h:Nat)(v:Value)(ls:List Nat)(most:Nat)(s:S5)(y:Nat)(hz:Sz ls most)(hy:257≤y)(hy2:y≤285)(hr:RX w I G h v ls most s):
  Calls Tryz.prog 162 #[.pointer (some ⟨h,0,none⟩),.int .i64 (y:Nat)] w fun r w'=>r=.returned (.int .i64 ((len5 ls s y).1:Nat))∧RX w' I G h v ls most (len5 ls s y).2∧KG G w w':=by
 have HR:Hid (RX w I G h v ls most s):=hr
 have HZ:Hid (Sz ls most):=hz
 clear hr hz
 by_cases h285:y=285
 ·subst h285
  have HE:Hid (len5 ls s 285=(258,s)):=hid (by unfold len5;rw[if_pos rfl])
  go_enter Tryz.func162,Tryz.ntmps162
  go_wp2_with fail
  go_ret
  rw[HE.out]
  exact⟨rfl,HR.out,Kept.refl _ _⟩
 ·have hne:((y:Int)==285)=false:=by simp;omega
  have hx:=xlen_le y (by omega)
  have HE:Hid (len5 ls s y=(lbase y+(tk ls s (xlen y)).1,(tk ls s (xlen y)).2)):=hid (by unfold len5;rw[if_neg h285])
  have HY:Hid (¬y=285):=h285
  clear h285
  go_enter Tryz.func162,Tryz.ntmps162
  go_wp2_with fail
  go_loopg [5,6] y (fun q zp zi wr=>∃(i p:Nat),y-i≤q∧257≤i∧i≤y∧p≤3+32*(i-257)∧zi=.int .i64 (i:Nat)∧zp=.int .i64 (p:Nat)∧wr=w∧Hid (p=lbase i))
  case atStart=>exact⟨257,3,by omega,by omega,by omega,by omega,rfl,rfl,rfl,hid rfl⟩
  case round=>
   obtain⟨i,p,hq,hi0,hi,hp,rfl,rfl,rfl,HP⟩:=hrel
   by_cases hlt:i<y
   ·have hxi:=xlen_le i (by omega)
    obtain⟨x,hx'⟩:∃x,x=xlen i:=⟨_,rfl⟩
    have HX:Hid (x=xlen i):=hx'
    rw[←hx']at hxi
    have E1:=extra5 wr i (by omega)
    rw[←hx']at E1
    have P1:=power5 wr x (by omega)
    obtain⟨q2,hq2⟩:∃q2,q2=2 ^ x:=⟨_,rfl⟩
    rw[←hq2]at P1
    have hq32:q2≤32:=by
     rw[hq2]
     exact Nat.le_trans (Nat.pow_le_pow_right (by omega) hxi) (by decide)
    have HQ:Hid (q2=2 ^ x):=hq2
    clear hx' hq2
    go_wp2_with fail
    refine E1.mono ?_
    rintro e w1 ⟨rfl,hw1⟩
    subst hw1
    go_wp2_with fail
    refine P1.mono ?_
    rintro e w1 ⟨rfl,hw1⟩
    subst hw1
    go_wp2_with fail
    go_roundg (gk-1)
    case measure=>omega
    case rel=>exact⟨i+1,p+q2,by omega,by omega,by omega,by omega,by go_num,by go_num,rfl,hid (by rw[lbase_succ i hi0,←HX.out,←HQ.out,HP.out])⟩
   ·have hin:i=y:=by omega
    subst hin
    have E1:=extra5 wr i (by omega)
    have T1:=take5 wr I G h v ls most s (xlen i) HZ.out (by omega) HR.out
    have hxl:=tk_lt ls HZ.out.bit s (xlen i)
    have hxl2:2 ^ xlen i≤32:=Nat.le_trans (Nat.pow_le_pow_right (by omega) hx) (by decide)
    obtain⟨x,hx'⟩:∃x,x=xlen i:=⟨_,rfl⟩
    rw[←hx']at E1 T1 hxl hxl2 HE
    obtain⟨t,ht⟩:∃t,t=(tk ls s x).1:=⟨_,rfl⟩
    rw[←ht]at T1 hxl HE
    clear hx' ht
    go_wp2_with fail
    refine E1.mono ?_
    rintro e w1 ⟨rfl,hw1⟩
    subst hw1
    go_wp2_with fail
    refine T1.mono ?_
    rintro e w2 ⟨rfl,hr2,hk2⟩
    have HR2:Hid (RX w2 I G h v ls most (tk ls s x).2):=hr2
    have HK2:Hid (KG G w1 w2):=hk2
    clear hr2 hk2 T1
    go_wp2_with fail
    go_ret
    rw[HE.out,←HP.out]
    exact⟨by go_num,HR2.out,HK2.out⟩

set_option maxRecDepth 100000 in
set_option maxHeartbeats 2000000 in
theorem distance5(w:World)(I G:Nat→Prop)(h:Nat)(v:Value)(ls:List Nat)(most:Nat)(s:S5)(y:Nat)(hz:Sz ls most)(hy2:y≤29)(hr:RX w I G h v ls most s):
  Calls Tryz.prog 163 #[.pointer (some ⟨h,0,none⟩),.int .i64 (y:Nat)] w fun r w'=>r=.returned (.int .i64 ((dist5 ls s y).1:Nat))∧RX w' I G h v ls most (dist5 ls s y).2∧KG G w w':=by
 have HR:Hid (RX w I G h v ls most s):=hr
 have HZ:Hid (Sz ls most):=hz
 clear hr hz
 have hx:=xdist_le y hy2
 have HE:Hid (dist5 ls s y=(dbase y+(tk ls s (xdist y)).1,(tk ls s (xdist y)).2)):=hid rfl
 go_enter Tryz.func163,Tryz.ntmps163
 go_wp2_with fail
 go_loopg [5,6] y (fun q zp zi wr=>∃(i p:Nat),y-i≤q∧i≤y∧p≤1+8192*i∧zi=.int .i64 (i:Nat)∧zp=.int .i64 (p:Nat)∧wr=w∧Hid (p=dbase i))
 case atStart=>exact⟨0,1,by omega,by omega,by omega,rfl,rfl,rfl,hid rfl⟩
 case round=>
  obtain⟨i,p,hq,hi,hp,rfl,rfl,rfl,HP⟩:=hrel
  by_cases hlt:i<y
  ·have hxi:=xdist_le i (by omega)
   obtain⟨x,hx'⟩:∃x,x=xdist i:=⟨_,rfl⟩
   have HX:Hid (x=xdist i):=hx'
   rw[←hx']at hxi
   have E1:=wide5 wr i (by omega)
   rw[←hx']at E1
   have P1:=power5 wr x (by omega)
   obtain⟨q2,hq2⟩:∃q2,q2=2 ^ x:=⟨_,rfl⟩
   rw[←hq2]at P1
   have hq32:q2≤8192:=by
    rw[hq2]
    exact Nat.le_trans (Nat.pow_le_pow_right (by omega) hxi) (by decide)
   have HQ:Hid (q2=2 ^ x):=hq2
   clear hx' hq2
   go_wp2_with fail
   refine E1.mono ?_
   rintro e w1 ⟨rfl,hw1⟩
   subst hw1
   go_wp2_with fail
   refine P1.mono ?_
   rintro e w1 ⟨rfl,hw1⟩
   subst hw1
   go_wp2_with fail
   go_roundg (gk-1)
   case measure=>omega
   case rel=>exact⟨i+1,p+q2,by omega,by omega,by omega,by go_num,by go_num,rfl,hid (by rw[dbase_succ i,←HX.out,←HQ.out,HP.out])⟩
  ·have hin:i=y:=by omega
   subst hin
   have E1:=wide5 wr i (by omega)
   have T1:=take5 wr I G h v ls most s (xdist i) HZ.out (by omega) HR.out
   have hxl:=tk_lt ls HZ.out.bit s (xdist i)
   have hxl2:2 ^ xdist i≤8192:=Nat.le_trans (Nat.pow_le_pow_right (by omega) hx) (by decide)
   obtain⟨x,hx'⟩:∃x,x=xdist i:=⟨_,rfl⟩
   rw[←hx']at E1 T1 hxl hxl2 HE
   obtain⟨t,ht⟩:∃t,t=(tk ls s x).1:=⟨_,rfl⟩
   rw[←ht]at T1 hxl HE
   clear hx' ht
   go_wp2_with fail
   refine E1.mono ?_
   rintro e w1 ⟨rfl,hw1⟩
   subst hw1
   go_wp2_with fail
   refine T1.mono ?_
   rintro e w2 ⟨rfl,hr2,hk2⟩
   have HR2:Hid (RX w2 I G h v ls most (tk ls s x).2):=hr2
   have HK2:Hid (KG G w1 w2):=hk2
   clear hr2 hk2 T1
   go_wp2_with fail
   go_ret
   rw[HE.out,←HP.out]
   exact⟨by go_num,HR2.out,HK2.out⟩

end Go.Proofs.YtggcbnhckcenmaaGreatDoor
