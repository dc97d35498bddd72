/-
  Of the proof: parts TyShC, TyC.
-/
import Derived.Shelf.SlGeneric
import Derived.Shelf.Slices.CompactS
import Derived.Test.YtcfociogljhbiaaGreatDoorProg
import Derived.Test.YtcfociogljhbiaaGreatDoorJ22

namespace Go.Proofs.YtcfociogljhbiaaGreatDoor
open Go.Shelf
def Tryz.comp14_ren:Go.Shelf.Ren:=⟨fun | 194=>113 | n=>n,fun | 31=>47 | 9=>9 | 3=>3 | 4=>4 | 0=>0 | n=>n,fun | n=>n⟩
theorem Tryz.comp14:Go.Proofs.Lays.n194 Tryz.prog Tryz.comp14_ren:={
 mixed:=by kernel_rfl
 f194:=Tryz.func113.trans (congrArg some (by kernel_rfl))
 t0:=Tryz.underlying0
 a0:=Tryz.isAgg0
 z0:=Tryz.sizeOf0
 v0:=Tryz.zeroValue0
 t3:=Tryz.underlying3
 a3:=Tryz.isAgg3
 z3:=Tryz.sizeOf3
 v3:=Tryz.zeroValue3
 t4:=Tryz.underlying4
 a4:=Tryz.isAgg4
 z4:=Tryz.sizeOf4
 v4:=Tryz.zeroValue4
 t9:=Tryz.underlying9
 a9:=Tryz.isAgg9
 z9:=Tryz.sizeOf9
 v9:=Tryz.zeroValue9
 t31:=Tryz.underlying47
 a31:=Tryz.isAgg47
 z31:=Tryz.sizeOf47
 v31:=Tryz.zeroValue47}
end Go.Proofs.YtcfociogljhbiaaGreatDoor

namespace Go.Proofs.YtcfociogljhbiaaGreatDoor
open Go.RowKit Go.Maps Go.Sort

theorem compact_names(L:List Nm)(hs:L.Pairwise (fun a b=>leN a b=true)):∀m,m≤L.length→∃L',L'.map bysN=Lib.compactUpTo (L.map bysN).toArray m∧(∀n,n∈L'↔n∈L.take m)∧RisN L':=by
 intro m
 induction m with
 | zero=>intro _;exact⟨[],rfl,fun n=>by simp,List.Pairwise.nil⟩
 | succ m ih=>
  intro hm
  have hm':m<L.length:=hm
  obtain⟨L',h1,h2,h3⟩:=ih (by omega)
  have hd:(L.map bysN).toArray[m]! = bysN L[m]:=by simp[hm']
  have htk:L.take (m+1)=L.take m++[L[m]]:=List.take_succ_eq_append_getElem hm'
  rw[Lib.compactUpTo_succ]
  cases hk:Lib.keeps (L.map bysN).toArray m with
  | false=>
   refine⟨L',by simp[h1],fun n=>?_,h3⟩
   have h5:¬(m=0∨(L.map bysN).toArray[m]!≠(L.map bysN).toArray[m-1]!):=by simpa[Lib.keeps]using hk
   have hm0:0<m:=by omega
   have hq:(L.map bysN).toArray[m]! = (L.map bysN).toArray[m-1]!:=Decidable.byContradiction (fun e=>h5 (.inr e))
   have hd1:(L.map bysN).toArray[m-1]! = bysN L[m-1]:=by simp[show m-1<L.length by omega]
   rw[hd,hd1]at hq
   have he:=bysN_inj hq
   have hin:L[m]∈L.take m:=by
    rw[he,List.mem_take_iff_getElem]
    exact⟨m-1,by omega,rfl⟩
   rw[h2,htk,List.mem_append,List.mem_singleton]
   constructor
   ·exact .inl
   ·rintro(e | e)
    ·exact e
    ·rw[e];exact hin
  | true=>
   refine⟨L'++[L[m]],by simp[h1,hd],fun n=>by rw[htk,List.mem_append,List.mem_append,h2],?_⟩
   unfold RisN
   rw[List.pairwise_append]
   refine⟨h3,List.pairwise_singleton _ _,fun a ha b hb=>?_⟩
   rw[List.mem_singleton]at hb
   subst hb
   have ha2:=(h2 a).1 ha
   rw[List.mem_take_iff_getElem]at ha2
   obtain⟨i,hi,rfl⟩:=ha2
   have him:i<m:=by omega
   have h5:m=0∨(L.map bysN).toArray[m]!≠(L.map bysN).toArray[m-1]!:=by simpa[Lib.keeps]using hk
   have hq:(L.map bysN).toArray[m]!≠(L.map bysN).toArray[m-1]!:=h5.resolve_left (by omega)
   have hd1:(L.map bysN).toArray[m-1]! = bysN L[m-1]:=by simp[show m-1<L.length by omega]
   rw[hd,hd1]at hq
   have hle:∀i j (hi:i<L.length) (hj:j<L.length),i≤j→bysN L[i]≤bysN L[j]:=fun i j hi hj hij=>by
    rcases Nat.lt_or_ge i j with q | q
    ·have:=List.pairwise_iff_getElem.1 hs i j hi hj q
     simpa[leN]using this
    ·have:i=j:=by omega
     subst this
     exact List.le_refl _
   have h6:=hle (m-1) m (by omega) hm' (by omega)
   have h7:=hle i (m-1) (by omega) (by omega) (by omega)
   rcases List.le_iff_lt_or_eq.1 h6 with e | e
   ·exact List.lt_of_le_of_lt h7 e
   ·exact absurd e.symm hq

theorem sortN_le(L:List Nm):(L.mergeSort leN).Pairwise (fun a b=>leN a b=true):=List.pairwise_mergeSort (fun a b c h1 h2=>by
  unfold leN at *
  simp only[decide_eq_true_eq]at *
  exact List.le_trans h1 h2) (fun a b=>by
  unfold leN
  simp only[Bool.or_eq_true,decide_eq_true_eq]
  exact List.le_total _ _) L

theorem compN_any(w:World)(B:Nat)(v:Value)(L:List Nm)(h:RowE B 9 nmV w v L)(hs:L.Pairwise (fun a b=>leN a b=true))(hl:L.length≤1000000):
  Calls Tryz.prog 113 #[v] w fun e w'=>∃v' L',e=.returned v'∧RowE B 9 nmV w' v' L'∧RisN L'∧(∀n,n∈L'↔n∈L)∧L'.length≤L.length∧(∀k,v'.ownBlock=some k→v.ownBlock=some k)∧Kept (fun k=>v.ownBlock=some k) w w':=by
 have he0:L.map nmV=(L.map bysN).map encStr:=by
  rw[List.map_map]
  exact List.map_congr_left (fun n _=>nmV_enc n)
 have h':RowE B 9 encStr w v (L.map bysN):=h.recode he0.symm
 obtain⟨L',g1,g2,g3⟩:=compact_names L hs L.length (Nat.le_refl _)
 have g1':Lib.compact (L.map bysN)=L'.map bysN:=by unfold Lib.compact;rw[List.length_map];exact g1.symm
 have g2':∀n,n∈L'↔n∈L:=fun n=>by rw[g2,List.take_length]
 have hll:L'.length≤L.length:=by
  have h9:(Lib.compact (L.map bysN)).length≤(L.map bysN).length:=by
   unfold Lib.compact Lib.compactUpTo
   rw[List.length_map]
   refine Nat.le_trans (List.length_filter_le _ _) ?_
   rw[List.length_range]
   exact Nat.le_refl _
  rw[g1']at h9
  simpa using h9
 rcases h'.2 with⟨hv,h0⟩ | ⟨g,cap,cur,hv,hb,hg,hn,hc,hcs,ht⟩
 ·subst hv
  have hz:L=[]:=List.eq_nil_of_length_eq_zero (by simpa using h0)
  subst hz
  refine(Any.slices_Compact_string_empty Tryz.comp14 none 0 w).mono (fun e w' hh=>?_)
  obtain⟨rfl,rfl⟩:=hh
  exact⟨_,[],rfl,RowE.nil,List.Pairwise.nil,fun n=>Iff.rfl,Nat.le_refl _,fun _ e=>e,Kept.refl _ _⟩
 ·subst hv
  have hH:Go.Sort.Holds encStr w g 0 (L.map bysN).toArray:=holds_of_block hg (by rw[Nat.mul_one]at ht;exact ht)
  refine(Any.slices_Compact_string Tryz.comp14 g 0 cap (L.map bysN) w hH (by simp;omega) (by simpa using hn)).mono (fun e w' hh=>?_)
  obtain⟨rfl,n,rfl⟩:=hh
  rw[g1']
  obtain⟨Z,hZ⟩:∃Z,Z=List.replicate ((L.map bysN).length-(L'.map bysN).length) ([]:List UInt8):=⟨_,rfl⟩
  rw[←hZ]
  have hlen:(L'.map bysN++Z).length=(L.map bysN).length:=by rw[hZ];simp;omega
  have hgr:∀W:World,grow W #[]=W:=fun W=>by unfold grow;simp
  have ho:=ownsRow_sorted (n:=n) (os:=#[]) (ss:=L.map bysN) hlen hb hg (by simpa using hn) hc (by simpa using hcs)
  have hgb:=grownBy_sorted (w:=w) (g:=g) (n:=n) (os:=#[]) (L'.map bysN++Z).toArray
  rw[hgr]at ho hgb
  refine⟨_,L',rfl,?_,g3,g2',hll,fun k e=>e,(Kept.refl _ w).grown hgb (fun k e=>.inl e)⟩
  have he:L'.map nmV=(L'.map bysN).map encStr:=by
   rw[List.map_map]
   exact List.map_congr_left (fun n _=>nmV_enc n)
  refine RowE.recode (enc:=encStr) (xs:=L'.map bysN) ?_ he
  rcases ho.2 with⟨e1,_⟩ | ⟨g',cap',cur',e1,q1,q2,q3,q4,q5,q6⟩
  ·cases e1
  ·simp only[Value.slice.injEq,Option.some.injEq,Addr.mk.injEq,and_true]at e1
   obtain⟨rfl,_,rfl⟩:=e1
   refine⟨by simp,.inr ⟨g,cap,cur',rfl,q1,q2,by rw[List.length_map]at q3 ⊢;omega,q4,q5,?_⟩⟩
   rw[Nat.mul_one]at q6 ⊢
   have e9:List.take (L'.map bysN).length cur'.toList=List.take (L'.map bysN).length (List.take (L.map bysN).length cur'.toList):=by
    rw[List.take_take]
    congr 1
    simp only[List.length_map]
    omega
   rw[e9,q6,List.map_append,List.take_append_of_le_length (by simp),List.take_of_length_le (by simp)]

end Go.Proofs.YtcfociogljhbiaaGreatDoor
