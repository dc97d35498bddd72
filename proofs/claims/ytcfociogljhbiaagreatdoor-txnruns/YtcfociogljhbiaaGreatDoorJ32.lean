/-
  Of the proof: parts TxV, TxW, TxX, TxY, TxZ, TyA, TyH, TyI, TzP, TzU, TzQ.
-/
import Derived.BigQuiet
import Derived.Test.YtcfociogljhbiaaGreatDoorJ31
import Derived.Test.YtcfociogljhbiaaGreatDoorJ25
import Derived.Test.YtcfociogljhbiaaGreatDoorJ15
import Derived.Test.YtcfociogljhbiaaGreatDoorJ30
import Derived.Test.YtcfociogljhbiaaGreatDoorJ11
import Derived.Test.YtcfociogljhbiaaGreatDoorJ24
import Derived.Test.YtcfociogljhbiaaGreatDoorJ29
import Derived.Test.YtcfociogljhbiaaGreatDoorJ27

namespace Go.Proofs.YtcfociogljhbiaaGreatDoor
open Go.RowKit Go.Maps Go.Sort Go.Shelf

def thNow(M:Mst):Ke→Bool:=fun k=>(newV (M.V k.1 k.2) (max M.now M.floor)).there

theorem Tryz.zeroArc:(Tryz.prog.info? 83).bind (·.zero)=some (.agg #[.string ⟨#[]⟩,.string ⟨#[]⟩,.slice none 0 0]):=by kernel_rfl
theorem Tryz.sizeArc:(Tryz.prog.info? 83).map (·.size)=some 3:=by kernel_rfl
theorem Tryz.zeroWr:(Tryz.prog.info? 65).bind (·.zero)=some (.agg #[.string ⟨#[]⟩,.string ⟨#[]⟩,.string ⟨#[]⟩,.bool false,.string ⟨#[]⟩]):=by kernel_rfl
theorem Tryz.sizeWr:(Tryz.prog.info? 65).map (·.size)=some 5:=by kernel_rfl

theorem Tryz.sizeKey14:(Tryz.prog.info? 63).map (·.size)=some 3:=by kernel_rfl

theorem load_cell15{ty:TypeId}{d:TypeDesc}(hu:Tryz.prog.underlying ty=some d)(hd:(match d with | .struct _ | .array _ _=>true | _=>false)=false){W:World}{a:Addr}{v:Value}(hc:W.cell? a=some v):(loadVar ty a).run Tryz.prog W=.ok v W:=by
 have hagg:(isAgg ty).run Tryz.prog W=.ok false W:=by
  unfold isAgg
  rw[Sem.run_bind,run_underlying hu W]
  cases d<;>simp_all
 simp[loadVar,Sem.run_bind,hagg,hc]

theorem mpI_has{L:List (Nm×Int)}{s:Nm}{y:DataW Unit}(h:∀z,(mpG kN inD L).atKey (kN s) z=y):∃f,getG s L=some f∧y=inD f:=by
 cases hg:getG s L with
 | none=>
  have h1:=h .nil
  have h2:=h (.lit (.int .i64 0))
  rw[mpG_at klN,hg]at h1 h2
  rw[←h1]at h2
  cases h2
 | some f=>
  have h1:=h .nil
  rw[mpG_at klN,hg]at h1
  exact⟨f,rfl,h1.symm⟩

set_option maxRecDepth 100000 in
set_option maxHeartbeats 2000000 in
theorem tmany_any{K N:Nat}{w:World}{p:Nat}{M:Mst}{bg:Int}{c:Tc}{τ:Nat→Nat}(h:Tk K N w p M bg c τ)(ow:ByteArray)(ws:List Wr)(a0:Option Addr)(n0 c0:Nat)(I:Nat→Prop)(hs:SrcC 5 wrE w I (.slice a0 n0 c0) ws)(hlen:ws.length≤100000):
  Calls Tryz.prog 65 #[.pointer (some ⟨p,0,none⟩),.string ow,.slice a0 n0 c0] w fun e w'=>∃D,IsDm (visF M.V M.now) D∧e=.returned (.bool (manyB (cntW (thNow M) ws (cntD ow D))))∧Same w w':=by
 have hmm:=@run_makeMap Tryz.prog
 have HT:=hid h
 have HS:=hid hs
 have HL:=hid hlen
 obtain⟨wA,hwA⟩:∃W,W=w.alloc (.map #[] 0):=⟨_,rfl⟩
 obtain⟨mb,hmb⟩:∃x,x=w.heap.size:=⟨_,rfl⟩
 have hkA:Same w wA:=by rw[hwA];exact(Kept.refl _ w).alloc _
 have HM0:Hid (MpI wA mb []∧w.heap.size≤mb):=hid ⟨by rw[hwA,hmb];exact MpG.new w,by omega⟩
 have HKA:=hid hkA
 have HD:=tdump_any (h.same hkA)
 clear h hs hlen hkA
 go_enter Tryz.func65,Tryz.ntmps65
 go_wp2_with fail
 rw[←hwA,←hmb]
 clear hwA hmb hmm
 refine HD.mono ?_
 rintro e w2 ⟨v2,As,rfl,hdm,hisd,hAl,hAe,hk2⟩
 obtain⟨av,cv,rfl,hcells⟩:=hdm.ofs
 have HCE:=hid hcells
 have HDM:=hid hdm
 have HIS:=hid hisd
 have HAE:=hid (show As.length≤100000∧∀x∈As,x.es.length≤100000 from⟨hAl,hAe⟩)
 have HK2:=hid hk2
 have hmb2:mb<w2.heap.size:=by have:=HM0.out.1.lt;have:=hk2.size;omega
 have HM2:Hid (MpI w2 mb (cntD ow (adD (As.take 0)))∧SmI 100000 0 (cntD ow (adD (As.take 0)))):=hid ⟨HM0.out.1.kept hk2 (fun f=>f),⟨Nat.le_refl _,fun p hp=>by cases hp⟩⟩
 obtain⟨nA,hnA⟩:∃n,n=As.length:=⟨_,rfl⟩
 rw[←hnA]
 have HNA:=hid hnA
 clear hdm hisd hAl hAe hk2 hcells HD hnA
 go_wp2_with fail
 go_loopg [9,21] nA (fun k _ z wr=>∃i:Nat,i≤nA∧nA-i≤k∧z=.int .i64 (i:Nat)∧Hid (MpI wr mb (cntD ow (adD (As.take i)))∧SmI 100000 i (cntD ow (adD (As.take i))))∧Hid (Kept (·=mb) w2 wr))
 case atStart=>exact⟨0,by omega,by omega,rfl,HM2,hid (Kept.refl _ _)⟩
 case round=>
  clear HM2
  obtain⟨i,hi,hik,rfl,HMi,HKi⟩:=hrel
  by_cases hlt:i<nA
  ·have hiA:i<As.length:=by rw[←HNA.out];exact hlt
   obtain⟨g,rfl,e0,e1,e2,e3,_⟩:=HCE.out i hiA
   have hgA:(Value.slice (some ⟨g,0,none⟩) As.length cv).ownBlock=some g:=rfl
   have HGM:Hid (¬g=mb):=hid (fun e=>by
    have h1:=HDM.out.row
    rcases h1.2 with⟨q1,_⟩ | ⟨g',cap',cur,q1,hb,_⟩
    ·cases q1
    ·injection q1 with q2 _ _
     injection q2 with q3
     injection q3 with q4 _ _
     have:=HM0.out.1.lt
     omega)
   have d0:=HKi.out.cell e0 HGM.out
   have d1:=HKi.out.cell e1 HGM.out
   have d2:=HKi.out.cell e2 HGM.out
   obtain⟨x,hx⟩:∃x,x=As[i]:=⟨_,rfl⟩
   rw[←hx]at d0 d1 d2 e3
   have HX:Hid (adD (As.take (i+1))=adD (As.take i)++[(x.b,x.es)]∧x.es.length≤100000):=hid ⟨by unfold adD;rw[List.take_succ_eq_append_getElem hiA,List.map_append,hx];rfl,HAE.out.2 x (by rw[hx];exact List.getElem_mem _)⟩
   clear e0 e1 e2 hx hgA
   have hnB:nA≤100000:=by rw[HNA.out];exact HAE.out.1
   obtain⟨tn,htn⟩:∃t,t=x.b.tn:=⟨_,rfl⟩
   obtain⟨ar,har⟩:∃t,t=x.b.ar:=⟨_,rfl⟩
   obtain⟨le,hle⟩:∃t,t=x.es.length:=⟨_,rfl⟩
   rw[←htn]at d0
   rw[←har]at d1
   rw[←hle]at d2
   have HXE:Hid (tn=x.b.tn∧ar=(arN x.b).s∧le=x.es.length):=hid ⟨htn,har,hle⟩
   obtain⟨xa,hxa⟩:∃t,t=x.a:=⟨_,rfl⟩
   obtain⟨xc,hxc⟩:∃t,t=x.c:=⟨_,rfl⟩
   rw[←hxa,←hxc]at d2
   clear htn har hle hxa hxc e3
   by_cases hto:tn=ow
   ·have ht1:(tn.toList==ow.toList)=true:=by rw[hto];simp
    have HTO:=hid hto
    clear hto
    go_upto_region 7 with(first
     | (with_reducible refine at_alloc 83 9 ?_;refine wpl_alloc 83 _ Tryz.zeroArc ?_;intro w3 g3 hB3 hk3 hg3 hl3;have HB3:=hid hB3;have HK3:=hid hk3;clear hB3 hk3)
     | (with_reducible refine at_store 83 9 ?_;refine wpl_store 83 3 Tryz.sizeArc rfl (cells:=[.string tn,.string ar,.slice xa le xc]) rfl HB3.out rfl rfl (by simp[Value.oneCell']) ?_;intro w4 hB4 hk4 hs4;have HK4:Hid (Same wr w4):=hid (HK3.out.then hk4 (fun x hx e=>by omega));have f0:=hB4.cell 0;have f1:=hB4.cell 1;have f2:=hB4.cell 2;simp only[List.getElem?_toArray,List.getElem?_cons_zero,List.getElem?_cons_succ]at f0 f1 f2;clear hB4 hk4 hs4 HB3 HK3))
    obtain⟨w5,hput,hm5,hk5⟩:=MpI.put1 (HMi.out.1.kept HK4.out (fun f=>f)) (arN x.b) ((le:Nat):Int) (by have:=HMi.out.2.1;omega)
    rw[←HXE.out.2.1]at hput
    have HM5:Hid (MpI w5 mb (cntD ow (adD (As.take (i+1))))∧SmI 100000 (i+1) (cntD ow (adD (As.take (i+1))))):=hid (by
     have e:cntD ow (adD (As.take (i+1)))=putG kN (arN x.b) ((le:Nat):Int) (cntD ow (adD (As.take i))):=by
      unfold cntD
      rw[HX.out.1,List.foldl_append,List.foldl_cons,List.foldl_nil,stepD,if_pos (by rw[←HXE.out.1];exact HTO.out),HXE.out.2.2]
     rw[e]
     exact⟨hm5,HMi.out.2.put _ _ (Int.le_refl _) (by have:=HX.out.2;have:=HXE.out.2.2;omega)⟩)
    have HK5:Hid (Kept (·=mb) w2 w5):=hid (Kept.trans (Kept.trans HKi.out HK4.out (fun _ _ e=>e) (fun _ _ f=>f.elim)) hk5 (fun _ _ e=>e) (fun _ _ e=>e))
    clear hm5 hk5 f0 f1 f2
    rw[hput]
    clear hput
    go_wp2_with fail
    go_roundg (gk-1)
    case measure=>omega
    case rel=>exact⟨i+1,by omega,by omega,by go_num,HM5,HK5⟩
   ·have ht1:(tn.toList==ow.toList)=false:=by
     cases hq:(tn.toList==ow.toList) with
     | false=>rfl
     | true=>
      refine absurd ?_ hto
      have h9:=eq_of_beq hq
      rw[ByteArray.toList_eq,ByteArray.toList_eq]at h9
      exact ByteArray.ext (Array.toList_inj.1 h9)
    have HTO:=hid hto
    clear hto
    go_wp2_with (first
     | (with_reducible refine at_alloc 83 9 ?_;refine wpl_alloc 83 _ Tryz.zeroArc ?_;intro w3 g3 hB3 hk3 hg3 hl3;have HB3:=hid hB3;have HK3:=hid hk3;clear hB3 hk3)
     | (with_reducible refine at_store 83 9 ?_;refine wpl_store 83 3 Tryz.sizeArc rfl (cells:=[.string tn,.string ar,.slice xa le xc]) rfl HB3.out rfl rfl (by simp[Value.oneCell']) ?_;intro w4 hB4 hk4 hs4;have HK4:Hid (Same wr w4):=hid (HK3.out.then hk4 (fun x hx e=>by omega));have f0:=hB4.cell 0;have f1:=hB4.cell 1;have f2:=hB4.cell 2;simp only[List.getElem?_toArray,List.getElem?_cons_zero,List.getElem?_cons_succ]at f0 f1 f2;clear hB4 hk4 hs4 HB3 HK3))
    have HM5:Hid (MpI w4 mb (cntD ow (adD (As.take (i+1))))∧SmI 100000 (i+1) (cntD ow (adD (As.take (i+1))))):=hid (by
     have e:cntD ow (adD (As.take (i+1)))=cntD ow (adD (As.take i)):=by
      unfold cntD
      rw[HX.out.1,List.foldl_append,List.foldl_cons,List.foldl_nil,stepD,if_neg (by rw[←HXE.out.1];exact HTO.out)]
     rw[e]
     exact⟨HMi.out.1.kept HK4.out (fun f=>f),HMi.out.2.more (Int.le_refl _) (by omega)⟩)
    have HK5:Hid (Kept (·=mb) w2 w4):=hid (Kept.trans HKi.out HK4.out (fun _ _ e=>e) (fun _ _ f=>f.elim))
    go_roundg (gk-1)
    case measure=>omega
    case rel=>exact⟨i+1,by omega,by omega,by go_num,HM5,HK5⟩
  ·have hin:i=nA:=by omega
   rw[List.take_of_length_le (by have:=HNA.out;omega)]at HMi
   obtain⟨D,hD⟩:∃D,D=adD As:=⟨_,rfl⟩
   rw[←hD]at HMi HIS
   obtain⟨a1,c1,e1,hc1⟩:∃a c,Value.slice a0 n0 c0=.slice a ws.length c∧∀j (hj:j<ws.length),∃b o,a=some ⟨b,o,none⟩∧w.cell? ⟨b,o+j*5,none⟩=some (.string ws[j].b.tn)∧w.cell? ⟨b,o+j*5+1,none⟩=some (.string ws[j].b.ar)∧w.cell? ⟨b,o+j*5+2,none⟩=some (.string ws[j].n.s)∧w.cell? ⟨b,o+j*5+3,none⟩=some (.bool ws[j].there)∧w.cell? ⟨b,o+j*5+4,none⟩=some (.string ws[j].data):=by
    obtain⟨ao,cap,q1,_,q2⟩:=HS.out
    refine⟨ao,cap,q1,fun j hj=>?_⟩
    obtain⟨b,o,q3,_,q4⟩:=q2 (by rintro rfl;simp at hj)
    exact⟨b,o,q3,q4 j hj 0 (by decide),q4 j hj 1 (by decide),q4 j hj 2 (by decide),q4 j hj 3 (by decide),q4 j hj 4 (by decide)⟩
   injection e1 with e2 e3 e4
   subst e2 e4
   have HC1:=hid hc1
   have HN0:=hid e3
   have HKW2:Hid (Same w w2):=hid (HKA.out.trans HK2.out)
   have hmbw:w.heap.size≤mb:=HM0.out.2
   have HWI:Hid (MpI wr mb (cntW (thNow M) (ws.take 0) (cntD ow D))∧SmI (100000+0) (nA+0) (cntW (thNow M) (ws.take 0) (cntD ow D))):=hid ⟨HMi.out.1,by rw[←hin];exact HMi.out.2⟩
   have HNB:Hid (nA≤100000∧n0≤100000):=hid ⟨by rw[HNA.out];exact HAE.out.1,by rw[e3];exact HL.out⟩
   have q0:¬i<nA:=by omega
   clear hc1 HMi hD hik hi hin e3 hlt
   go_wp2_with fail
   clear q0
   go_loopg [11,12,13,38] n0 (fun k _ _ _ z wx=>∃j:Nat,j≤n0∧n0-j≤k∧z=.int .i64 (j:Nat)∧Hid (MpI wx mb (cntW (thNow M) (ws.take j) (cntD ow D))∧SmI (100000+j) (nA+j) (cntW (thNow M) (ws.take j) (cntD ow D)))∧Hid (Kept (·=mb) w2 wx))
   case atStart=>exact⟨0,by omega,by omega,rfl,HWI,HKi⟩
   case round=>
    clear HWI HKi
    obtain⟨j,hj,hjk,rfl,HMj,HKj⟩:=hrel
    by_cases hlt:j<n0
    ·have hjw:j<ws.length:=by rw[←HN0.out];exact hlt
     obtain⟨b,o,rfl,d0,d1,d2,d3,d4⟩:=HC1.out j hjw
     have HKwj:Hid (Same w wr):=hid (HKW2.out.then HKj.out (fun x hx e=>by omega))
     have c0:=HKwj.out.cell d0 (fun f=>f)
     have c1':=HKwj.out.cell d1 (fun f=>f)
     have c2:=HKwj.out.cell d2 (fun f=>f)
     have c3:=HKwj.out.cell d3 (fun f=>f)
     have c4:=HKwj.out.cell d4 (fun f=>f)
     obtain⟨x,hx⟩:∃x,x=ws[j]:=⟨_,rfl⟩
     rw[←hx]at c0 c1' c2 c3 c4
     have HXW:Hid (ws.take (j+1)=ws.take j++[x]):=hid (by rw[List.take_succ_eq_append_getElem hjw,hx])
     obtain⟨tn,htn⟩:∃t,t=x.b.tn:=⟨_,rfl⟩
     obtain⟨ar,har⟩:∃t,t=x.b.ar:=⟨_,rfl⟩
     obtain⟨en,hen⟩:∃t,t=x.n.s:=⟨_,rfl⟩
     obtain⟨xt,hxt⟩:∃t,t=x.there:=⟨_,rfl⟩
     obtain⟨xd,hxd⟩:∃t,t=x.data:=⟨_,rfl⟩
     rw[←htn]at c0
     rw[←har]at c1'
     rw[←hen]at c2
     rw[←hxt]at c3
     rw[←hxd]at c4
     have HXE:Hid (tn=x.b.tn∧ar=x.b.ar∧en=x.n.s∧xt=x.there):=hid ⟨htn,har,hen,hxt⟩
     have hn0:n0≤100000:=HNB.out.2
     clear htn har hen hxt hxd d0 d1 d2 d3 d4 hx
     go_upto_region 11 with(first
      | (with_reducible refine at_alloc 65 11 ?_;refine wpl_alloc 65 _ Tryz.zeroWr ?_;intro w3 g3 hB3 hk3 hg3 hl3;have HB3:=hid hB3;have HK3:=hid hk3;clear hB3 hk3)
      | (with_reducible refine at_store 65 11 ?_;refine wpl_store 65 5 Tryz.sizeWr rfl (cells:=[.string tn,.string ar,.string en,.bool xt,.string xd]) rfl HB3.out rfl rfl (by simp[Value.oneCell']) ?_;intro w4 hB4 hk4 hs4;have HK4:Hid (Same wr w4):=hid (HK3.out.then hk4 (fun x hx e=>by omega));have HB4:=hid hB4;clear hB4 hk4 hs4 HB3 HK3))
     have HKw4:Hid (Same w w4):=hid (HKwj.out.trans HK4.out)
     have HT4:=hid (HT.out.same HKw4.out)
     obtain⟨ps,hps⟩:∃x,x=c.ps:=⟨_,rfl⟩
     have HP0:Hid (∀W,Same w4 W→(loadVar 86 ⟨p,0,none⟩).run Tryz.prog W=.ok (.pointer (some ⟨ps,0,none⟩)) W):=hid (fun W hW=>load_cell15 Tryz.underlying86 rfl (by rw[hps];exact(HT4.out.same hW).blk.cell 0))
     have HKY:Hid (∀W,Same w4 W→(loadVar 63 ⟨g3,0,none⟩).run Tryz.prog W=.ok (.agg #[.string tn,.string ar,.string en]) W):=hid (fun W hW=>run_load15 63 3 _ Tryz.underlying63 rfl Tryz.sizeKey14 (HB4.out.kept hW (fun f=>f)) [.string tn,.string ar,.string en] rfl rfl)
     have HNW:Hid (∀W,Same w4 W→Calls Tryz.prog 59 #[.pointer (some ⟨ps,0,none⟩)] W (fun e w'=>e=.returned (.int .i64 M.now)∧Same W w')):=hid (fun W hW=>(xnow (by rw[hps];exact(HT4.out.same hW).sto)).mono (fun e w' h9=>⟨h9.1,by rw[h9.2];exact Kept.refl _ _⟩))
     have HGE:Hid (∀W,Same w4 W→Calls Tryz.prog 106 #[.pointer (some ⟨ps,0,none⟩),.agg #[.string tn,.string ar,.string en],.int .i64 M.now] W (fun e w'=>e=.returned (getA (M.V x.b x.n) (max M.now M.floor))∧Same W w')):=hid (fun W hW=>by rw[HXE.out.1,HXE.out.2.1,HXE.out.2.2.1,hps];exact xget (HT4.out.same hW).sto x.b x.n M.now)
     obtain⟨th,hth⟩:∃t,t=thNow M (x.b,x.n):=⟨_,rfl⟩
     have HTH:=hid hth
     obtain⟨gd,hgd⟩:∃d,getA (M.V x.b x.n) (max M.now M.floor)=.tuple #[.string d,.bool th]:=⟨_,by rw[hth];rfl⟩
     rw[hgd]at HGE
     clear hth hgd hps
     refine wp_region_same (by kernel_rfl) (by kernel_rfl) ?_
     refine wpq_value rfl (.pointer (some ⟨p,0,none⟩)) (fun W _=>rfl) ?_
     simp only[Act.put,List.setIfInBounds_toArray,List.set_cons_zero,List.set_cons_succ]
     refine wpq_value rfl (.pointer (some ⟨p,0,none⟩)) (fun W _=>rfl) ?_
     simp only[Act.put,List.setIfInBounds_toArray,List.set_cons_zero,List.set_cons_succ]
     refine wpq_value rfl (.pointer (some ⟨p,0,none⟩)) (fun W _=>by go_simp) ?_
     simp only[Act.put,List.setIfInBounds_toArray,List.set_cons_zero,List.set_cons_succ]
     refine wpq_value rfl _ (fun W hW=>run_load_op _ rfl (HP0.out W hW)) ?_
     simp only[Act.put,List.setIfInBounds_toArray,List.set_cons_zero,List.set_cons_succ]
     refine wpq_value rfl (.pointer (some ⟨g3,0,none⟩)) (fun W _=>by go_simp) ?_
     simp only[Act.put,List.setIfInBounds_toArray,List.set_cons_zero,List.set_cons_succ]
     refine wpq_value rfl _ (fun W hW=>run_load_op _ rfl (HKY.out W hW)) ?_
     simp only[Act.put,List.setIfInBounds_toArray,List.set_cons_zero,List.set_cons_succ]
     refine wpq_value rfl (.pointer (some ⟨p,0,none⟩)) (fun W _=>rfl) ?_
     simp only[Act.put,List.setIfInBounds_toArray,List.set_cons_zero,List.set_cons_succ]
     refine wpq_value rfl (.pointer (some ⟨p,0,none⟩)) (fun W _=>rfl) ?_
     simp only[Act.put,List.setIfInBounds_toArray,List.set_cons_zero,List.set_cons_succ]
     refine wpq_value rfl (.pointer (some ⟨p,0,none⟩)) (fun W _=>by go_simp) ?_
     simp only[Act.put,List.setIfInBounds_toArray,List.set_cons_zero,List.set_cons_succ]
     refine wpq_value rfl _ (fun W hW=>run_load_op _ rfl (HP0.out W hW)) ?_
     simp only[Act.put,List.setIfInBounds_toArray,List.set_cons_zero,List.set_cons_succ]
     refine wpq_call rfl 59 #[.pointer (some ⟨ps,0,none⟩)] _ (fun W=>by go_simp) (calls_same HNW.out) ?_
     simp only[Act.put,List.setIfInBounds_toArray,List.set_cons_zero,List.set_cons_succ]
     refine wpq_call rfl 106 #[.pointer (some ⟨ps,0,none⟩),.agg #[.string tn,.string ar,.string en],.int .i64 M.now] _ (fun W=>by go_simp) (calls_same HGE.out) ?_
     simp only[Act.put,List.setIfInBounds_toArray,List.set_cons_zero,List.set_cons_succ]
     refine wpq_value rfl (.tuple #[.string gd,.bool th]) (fun W _=>rfl) ?_
     simp only[Act.put,List.setIfInBounds_toArray,List.set_cons_zero,List.set_cons_succ]
     refine wpq_value rfl (.string gd) (fun W _=>rfl) ?_
     simp only[Act.put,List.setIfInBounds_toArray,List.set_cons_zero,List.set_cons_succ]
     refine wpq_value rfl (.bool th) (fun W _=>rfl) ?_
     simp only[Act.put,List.setIfInBounds_toArray,List.set_cons_zero,List.set_cons_succ]
     refine wpq_value rfl (.string gd) (fun W _=>rfl) ?_
     simp only[Act.put,List.setIfInBounds_toArray,List.set_cons_zero,List.set_cons_succ]
     refine wpq_value rfl (.bool th) (fun W _=>rfl) ?_
     simp only[Act.put,List.setIfInBounds_toArray,List.set_cons_zero,List.set_cons_succ]
     refine wpQuiet_nil ?_
     intro w5 hk5
     have HK5:Hid (Same wr w5):=hid (HK4.out.trans hk5)
     have HB5:=hid (HB4.out.kept hk5 (fun f=>f))
     have f1:=HB5.out.cell 1
     have f3:=HB5.out.cell 3
     simp only[List.getElem?_toArray,List.getElem?_cons_zero,List.getElem?_cons_succ]at f1 f3
     have hM5:=HMj.out.1.kept HK5.out (fun f=>f)
     have HL5:Hid ((cntW (thNow M) (ws.take j) (cntD ow D)).length≤1000000000):=hid (by have:=HMj.out.2.1;have:=HNB.out;omega)
     obtain⟨C,hC⟩:∃C,C=cntW (thNow M) (ws.take j) (cntD ow D):=⟨_,rfl⟩
     rw[←hC]at hM5 HL5 HMj
     have HNX:Hid (cntW (thNow M) (ws.take (j+1)) (cntD ow D)=stepW (thNow M) C x):=hid (by unfold cntW;rw[HXW.out,List.foldl_append,List.foldl_cons,List.foldl_nil];unfold cntW at hC;rw[←hC])
     have hlk:=MpI.look1 hM5 (arN x.b)
     have hgb:=HMj.out.2.get (by omega) (arN x.b)
     obtain⟨gz,hgz⟩:∃z,z=getI (arN x.b) C:=⟨_,rfl⟩
     rw[←hgz]at hlk hgb
     rw[show(arN x.b).s=ar by rw[HXE.out.2.1];rfl]at hlk
     have HK5w:Hid (Kept (·=mb) w2 w5):=hid (Kept.trans HKj.out HK5.out (fun _ _ e=>e) (fun _ _ f=>f.elim))
     have hw1:IntKind.i64.wrap (gz+1)=gz+1:=by rw[IntKind.wrap_i64];have:=HNB.out;omega
     have hw2:IntKind.i64.wrap (gz-1)=gz-1:=by rw[IntKind.wrap_i64];have:=HNB.out;omega
     have HSM:=hid HMj.out.2
     have HXT:Hid (xt=x.there∧th=thNow M (x.b,x.n)∧gz=getI (arN x.b) C∧ar=(arN x.b).s):=hid ⟨HXE.out.2.2.2,HTH.out,hgz,by rw[HXE.out.2.1];rfl⟩
     have HM5:=hid hM5
     clear hk5 hC hgz hM5 HMj c0 c1' c2 c3 c4
     cases hxt:xt with
     | true=>
      rw[hxt]at f3
      cases hth:th with
      | true=>
       have HM6:Hid (MpI w5 mb (cntW (thNow M) (ws.take (j+1)) (cntD ow D))∧SmI (100000+(j+1:Nat)) (nA+(j+1)) (cntW (thNow M) (ws.take (j+1)) (cntD ow D))):=hid (by
        have e:stepW (thNow M) C x=C:=by unfold stepW;rw[←HXT.out.1,←HXT.out.2.1,hxt,hth];rfl
        rw[HNX.out,e]
        exact⟨HM5.out,HSM.out.more (by omega) (by omega)⟩)
       clear HM5 HSM HNX
       go_wp2_with fail
       go_roundg (gk-1)
       case measure=>omega
       case rel=>exact⟨j+1,by omega,by omega,by go_num,HM6,HK5w⟩
      | false=>
       obtain⟨w6,hput,hm6,hk6⟩:=MpI.put1 HM5.out (arN x.b) (gz+1) HL5.out
       rw[←HXT.out.2.2.2]at hput
       have HM6:Hid (MpI w6 mb (cntW (thNow M) (ws.take (j+1)) (cntD ow D))∧SmI (100000+(j+1:Nat)) (nA+(j+1)) (cntW (thNow M) (ws.take (j+1)) (cntD ow D))):=hid (by
        have e:stepW (thNow M) C x=putG kN (arN x.b) (gz+1) C:=by unfold stepW;rw[←HXT.out.1,←HXT.out.2.1,hxt,hth,HXT.out.2.2.1];rfl
        rw[HNX.out,e]
        exact⟨hm6,HSM.out.put _ _ (by omega) (by omega)⟩)
       have HK6w:Hid (Kept (·=mb) w2 w6):=hid (Kept.trans HK5w.out hk6 (fun _ _ e=>e) (fun _ _ e=>e))
       have f4:=(HB5.out.kept hk6 (by have:=HKj.out.size;omega)).cell 3
       simp only[List.getElem?_toArray,List.getElem?_cons_zero,List.getElem?_cons_succ]at f4
       rw[hxt]at f4
       clear hm6 hk6 HM5 HSM HNX
       go_wp2_with fail
       go_roundg (gk-1)
       case measure=>omega
       case rel=>exact⟨j+1,by omega,by omega,by go_num,HM6,HK6w⟩
     | false=>
      rw[hxt]at f3
      cases hth:th with
      | true=>
       obtain⟨w6,hput,hm6,hk6⟩:=MpI.put1 HM5.out (arN x.b) (gz-1) HL5.out
       rw[←HXT.out.2.2.2]at hput
       have HM6:Hid (MpI w6 mb (cntW (thNow M) (ws.take (j+1)) (cntD ow D))∧SmI (100000+(j+1:Nat)) (nA+(j+1)) (cntW (thNow M) (ws.take (j+1)) (cntD ow D))):=hid (by
        have e:stepW (thNow M) C x=putG kN (arN x.b) (gz-1) C:=by unfold stepW;rw[←HXT.out.1,←HXT.out.2.1,hxt,hth,HXT.out.2.2.1];rfl
        rw[HNX.out,e]
        exact⟨hm6,HSM.out.put _ _ (by omega) (by omega)⟩)
       have HK6w:Hid (Kept (·=mb) w2 w6):=hid (Kept.trans HK5w.out hk6 (fun _ _ e=>e) (fun _ _ e=>e))
       have f4:=(HB5.out.kept hk6 (by have:=HKj.out.size;omega)).cell 3
       simp only[List.getElem?_toArray,List.getElem?_cons_zero,List.getElem?_cons_succ]at f4
       rw[hxt]at f4
       clear hm6 hk6 HM5 HSM HNX
       go_wp2_with fail
       go_roundg (gk-1)
       case measure=>omega
       case rel=>exact⟨j+1,by omega,by omega,by go_num,HM6,HK6w⟩
      | false=>
       have HM6:Hid (MpI w5 mb (cntW (thNow M) (ws.take (j+1)) (cntD ow D))∧SmI (100000+(j+1:Nat)) (nA+(j+1)) (cntW (thNow M) (ws.take (j+1)) (cntD ow D))):=hid (by
        have e:stepW (thNow M) C x=C:=by unfold stepW;rw[←HXT.out.1,←HXT.out.2.1,hxt,hth];rfl
        rw[HNX.out,e]
        exact⟨HM5.out,HSM.out.more (by omega) (by omega)⟩)
       clear HM5 HSM HNX
       go_wp2_with fail
       go_roundg (gk-1)
       case measure=>omega
       case rel=>exact⟨j+1,by omega,by omega,by go_num,HM6,HK5w⟩
    ·rw[List.take_of_length_le (by have:=HN0.out;omega)]at HMj
     obtain⟨C,hC⟩:∃C,C=cntW (thNow M) ws (cntD ow D):=⟨_,rfl⟩
     rw[←hC]at HMj
     have HCC:=hid hC
     have HMC:Hid (MpI wr mb C):=hid HMj.out.1
     have HSC:Hid (C.length≤200000∧C.Pairwise (fun p q=>p.1≠q.1)):=hid ⟨by have:=HMj.out.2.1;have:=HNB.out;omega,HMC.out.apart nameKey⟩
     have HKE:Hid (Same w wr):=hid (HKW2.out.then HKj.out (fun x hx e=>by omega))
     have q0:¬j<n0:=hlt
     clear hC HMj hjk hj hlt HC1
     go_wp2_with (at_range;refine wpList_range_own _ rfl _ 186 rfl 9 3 nameKey Tryz.underlying186 inR mb C.length (mpG kN inD C) rfl HMC.out ?_;intro w0 hrg0 hg0 hs0)
     obtain⟨r,hr⟩:∃r,r=wr.heap.size:=⟨_,rfl⟩
     rw[←hr]at hrg0 ⊢
     have HK0:Hid (Same w w0∧w.heap.size≤r):=hid ⟨HKE.out.trans ((Kept.refl _ wr).grown hg0 (fun k e=>by cases e)),by rw[hr];exact HKE.out.size⟩
     obtain⟨K0,hK0⟩:∃k,k=Maps.size (mpG kN inD C):=⟨_,rfl⟩
     have HR0:Hid (w0.ranges Tryz.prog 9 inR mb r C.length (mpG kN inD C) (Maps.has (mpG kN inD C)) K0):=hid (by rw[hK0];exact hrg0)
     clear hrg0 hg0 hs0 hr hK0 q0
     go_wp2_with fail
     go_frame
     go_loopg [14,16] K0 (fun q z4 _ wx=>∃(a:Nat) (left:Lit→Bool) (cnt:Nat),z4=.int .i64 (a:Nat)∧cnt≤q∧a≤200000∧Hid (wx.ranges Tryz.prog 9 inR mb r C.length (mpG kN inD C) left cnt∧CtI C left a∧Same w wx))
     case atStart=>exact⟨0,_,_,rfl,Nat.le_refl _,by omega,hid ⟨HR0.out,CtI.start C,HK0.out.1⟩⟩
     case round=>
      obtain⟨a,left,cnt,rfl,hcnt,ha,HI⟩:=hrel
      go_wp2_with (at_next;refine wpList_next_ranges _ rfl (.tmp 83) rfl 9 nameKey inR (fun x:Value=>x) (fun x:Value=>x) (fun key kl _=>⟨key,rfl⟩) (fun v y _=>⟨v,rfl⟩) mb r C.length (mpG kN inD C) left cnt rfl HI.out.1 ?_ ?_)
      ·intro hc0 hl0
       have HE:Hid (manyB C=decide (16<(a:Int))):=hid (HI.out.2.1.done hl0)
       clear hc0 hl0
       go_wp2_with fail
       go_ret
       exact⟨D,HIS.out,by rw[←HCC.out,HE.out];rfl,HI.out.2.2⟩
      ·intro x cc kl y1 y2 w7 cnt2 hkey hlx hv hat hrg2 hlt hg2 hs2 hen
       obtain⟨nm,rfl,rfl⟩:=keyN_inv hkey
       obtain⟨z,hgn,hy⟩:=mpI_has hat
       obtain rfl:cc=.int .i64 z:=rdInt.inv _ z y2 (by rw[hv,hy])
       have hk7:Same w w7:=Kept.trans HI.out.2.2 ((Kept.refl (·=r) wr).grown hg2 (fun k e=>.inl (by simpa using e.symm))) (fun _ _ f=>f) (fun k hk e=>by have:=HK0.out.2;omega)
       by_cases hz:64<z
       ·have HE:Hid (manyB C=true∧Same w w7):=hid ⟨many_one (getG_mem hgn) hz,hk7⟩
        clear hkey hlx hv hat hrg2 hlt hg2 hs2 hy hgn hk7
        go_wp2_with fail
        go_ret
        exact⟨D,HIS.out,by rw[←HCC.out,HE.out.1];rfl,HE.out.2⟩
       ·have HN:Hid (w7.ranges Tryz.prog 9 inR mb r C.length (mpG kN inD C) (fun y=>left y && !y.sameKey (kN nm)) cnt2∧CtI C (fun y=>left y && !y.sameKey (kN nm)) (if 0<z then a+1 else a)∧Same w w7∧cnt2<cnt):=hid ⟨hrg2,HI.out.2.1.next HSC.out.2 hgn hlx (by omega),hk7,hlt⟩
        have hal:(if 0<z then a+1 else a)≤200000:=by
         rw[HN.out.2.1.num]
         exact Nat.le_trans (List.length_filter_le _ _) HSC.out.1
        clear hkey hlx hv hat hrg2 hlt hg2 hs2 hy hgn hk7
        by_cases hz0:0<z
        ·rw[if_pos hz0]at HN hal
         go_wp2_with fail
         go_roundg (gk-1)
         case measure=>have:=HN.out.2.2.2;omega
         case rel=>exact⟨a+1,_,cnt2,by go_num,by have:=HN.out.2.2.2;omega,hal,hid ⟨HN.out.1,HN.out.2.1,HN.out.2.2.1⟩⟩
        ·rw[if_neg hz0]at HN hal
         go_wp2_with fail
         go_roundg (gk-1)
         case measure=>have:=HN.out.2.2.2;omega
         case rel=>exact⟨a,_,cnt2,by go_num,by have:=HN.out.2.2.2;omega,hal,hid ⟨HN.out.1,HN.out.2.1,HN.out.2.2.1⟩⟩

end Go.Proofs.YtcfociogljhbiaaGreatDoor

namespace Go.Proofs.YtcfociogljhbiaaGreatDoor
open Go.RowKit Go.Maps Go.Sort Go.Shelf

theorem Tryz.zeroCm:(Tryz.prog.info? 59).bind (·.zero)=some (.agg #[.int .i64 0,.slice none 0 0]):=by kernel_rfl
theorem Tryz.sizeCm:(Tryz.prog.info? 59).map (·.size)=some 2:=by kernel_rfl

def conB(M:Mst)(c:Tc)(q:Nat):Bool:=decide (0≤(chkM (c.mv q) (c.cl.drop (lowC c M q))).1)

def CkR(M:Mst)(c:Tc)(n:Nb)(t er:Int)(xs:List Wr):Prop:=
 (getK n c.L=none∧er=140∧t=0∧xs=[])∨∃q ys,getK n c.L=some q∧StW (c.mv q) ys∧ys.length≤100000 ∧
  ((ys=[]∧er=0∧t=0∧xs=[])∨(ys≠[]∧conB M c q=true∧er=142∧t=0∧xs=[]) ∨
   (ys≠[]∧conB M c q=false∧∃D,IsDm (visF M.V M.now) D ∧
    ((manyB (cntW (thNow M) ys (cntD (c.ow q).s D))=true∧er=145∧t=0∧xs=[])∨(manyB (cntW (thNow M) ys (cntD (c.ow q).s D))=false∧er=0∧t=M.now∧xs=ys))))

def CkA(w:World)(M:Mst)(c:Tc)(n:Nb)(e:Ending)(w':World):Prop:=
 Same w w'∧∃(t:Int) (a:Option Addr) (m cap:Nat) (er:Int) (xs:List Wr),e=.returned (.tuple #[.agg #[.int .i64 t,.slice a m cap],.int .i64 er])∧CkR M c n t er xs∧RowC w.heap.size 65 5 wrE w' (.slice a m cap) xs

theorem cka_none{w w1 w':World}{M:Mst}{c:Tc}{n:Nb}{er:Int}{xb:Nat}(hk:Same w w1)(hx:w.heap.size≤xb)(hk2:Kept (·=xb) w1 w')(hr:CkR M c n 0 er []):CkA w M c n (.returned (.tuple #[.agg #[.int .i64 0,.slice none 0 0],.int .i64 er])) w':=
 ⟨hk.then hk2 (fun x hx2 e=>by omega),0,none,0,0,er,[],rfl,hr,RowC.nil⟩

set_option maxRecDepth 100000 in
set_option maxHeartbeats 2000000 in
theorem tcheck_any{K N:Nat}{w:World}{p:Nat}{M:Mst}{bg:Int}{c:Tc}{τ:Nat→Nat}(h:Tk K N w p M bg c τ)(n:Nb)(hs:∀x∈c.L,0≤(c.mv x.2).t∧(c.mv x.2).t≤M.now-1∧M.now-1-(c.mv x.2).t≤c.cl.length)(hnum:∀y∈c.cl,-9223372036854775808≤y.t∧y.t≤9223372036854775807)(hn0:1≤M.now∧M.now≤9223372036854775806):
  Calls Tryz.prog 23 #[.pointer (some ⟨p,0,none⟩),.int .i64 n.v] w fun e w'=>CkA w M c n e w':=by
 have HT:=hid h
 have HS:=hid hs
 have HNU:=hid hnum
 have HN0:=hid hn0
 clear h hs hnum hn0
 go_enter Tryz.func23,Tryz.ntmps23
 go_wp2_with (with_reducible refine at_alloc 59 4 ?_;refine wpl_alloc 59 _ Tryz.zeroCm ?_;intro w1 xb hB1 hk1 hg1 hl1;have HB1:=hid hB1;have HK1:=hid hk1;clear hB1 hk1)
 have HT1:=hid (HT.out.same HK1.out)
 have HF:=tfind_any HT1.out n
 cases hg:getK n c.L with
 | none=>
  rw[hg]at HF
  change Calls _ _ _ _ (fun e w'=>e=.returned (.tuple #[.pointer none,.int .i64 140])∧w'=w1)at HF
  have HG:=hid hg
  clear hg
  refine HF.mono ?_
  rintro e w2 ⟨rfl,hw2⟩
  have hw9:=hw2.symm
  subst hw9
  clear HF
  go_wp2_with (with_reducible refine at_store 59 4 ?_;refine wpl_store 59 2 Tryz.sizeCm rfl (cells:=[.int .i64 0,.slice none 0 0]) rfl HB1.out rfl rfl (by simp[Value.oneCell']) ?_;intro w4 hB4 hk4 hs4;have HB4:=hid hB4;have HK4:=hid hk4;clear hB4 hk4)
  refine bodyPost_ret (v:=.tuple #[.agg #[.int .i64 0,.slice none 0 0],.int .i64 140]) (by rw[results_14b (p:=4) (b:=5) (ty:=59) rfl _ _ _ _ _ ⟨xb,0,none⟩ _ rfl (loadC14 HB4.out)];rfl) rfl ?_
  exact cka_none HK1.out hg1 HK4.out (.inl ⟨HG.out,rfl,rfl,rfl⟩)
 | some q=>
  rw[hg]at HF
  change Calls _ _ _ _ (fun e w'=>e=.returned (.tuple #[.pointer (some ⟨q,0,none⟩),.int .i64 0])∧w'=w1)at HF
  have HG:=hid hg
  have HM:=hid (getK_mem hg)
  clear hg
  refine HF.mono ?_
  rintro e w2 ⟨rfl,hw2⟩
  have hw9:=hw2.symm
  subst hw9
  clear HF
  have q2:w1.cell? ⟨q,2,none⟩=some (.pointer (some ⟨c.st q,0,none⟩)):=(HT1.out.tb _ HM.out).cell 2
  have HW:=xvwrites (HT1.out.ts _ HM.out)
  obtain⟨st,hst⟩:∃x,x=c.st q:=⟨_,rfl⟩
  change Calls _ _ #[.pointer (some ⟨c.st q,0,none⟩)] _ _ at HW
  rw[←hst]at q2 HW
  clear hst
  go_wp2_with fail
  refine HW.mono ?_
  rintro e w2 ⟨v,xs,rfl,hsw,hrow,hk2,hlen⟩
  obtain⟨av,cv,rfl,_⟩:=hrow.shape
  obtain⟨m,hm⟩:∃m,m=xs.length:=⟨_,rfl⟩
  rw[←hm]at hrow ⊢
  have HX:Hid (StW (c.mv q) xs∧xs.length≤100000∧m=xs.length):=hid ⟨hsw,hlen,hm⟩
  have HR:=hid hrow
  have HK2:=hid hk2
  have HB2:=hid (HB1.out.kept hk2 (fun f=>f))
  have HKw2:=hid (HK1.out.trans hk2)
  clear HW hsw hlen hm hrow hk2 q2
  rcases Nat.eq_zero_or_pos m with hm0 | hm0
  ·subst hm0
   have HE:Hid (xs=[]):=hid (List.length_eq_zero_iff.1 HX.out.2.2.symm)
   go_wp2_with (with_reducible refine at_store 59 4 ?_;refine wpl_store 59 2 Tryz.sizeCm rfl (cells:=[.int .i64 0,.slice none 0 0]) rfl HB2.out rfl rfl (by simp[Value.oneCell']) ?_;intro w4 hB4 hk4 hs4;have HB4:=hid hB4;have HK4:=hid hk4;clear hB4 hk4)
   refine bodyPost_ret (v:=.tuple #[.agg #[.int .i64 0,.slice none 0 0],.int .i64 0]) (by rw[results_14b (p:=4) (b:=5) (ty:=59) rfl _ _ _ _ _ ⟨xb,0,none⟩ _ rfl (loadC14 HB4.out)];rfl) rfl ?_
   exact cka_none HKw2.out hg1 HK4.out (.inr ⟨q,xs,HG.out,HX.out.1,HX.out.2.1,.inl ⟨HE.out,rfl,rfl,rfl⟩⟩)
  ·have HE:Hid (xs≠[]):=hid (fun e=>by have:=HX.out.2.2;rw[e]at this;simp at this;omega)
   have HC:=tconf_any (HT.out.same HKw2.out) HG.out (HS.out _ HM.out) HNU.out
   change Calls _ _ _ _ (fun e w'=>e=.returned (.bool (conB M c q))∧_)at HC
   obtain⟨cb,hcb⟩:∃b,b=conB M c q:=⟨_,rfl⟩
   rw[←hcb]at HC
   have HCB:=hid hcb
   clear hcb
   go_wp2_with fail
   refine HC.mono ?_
   rintro e w3 ⟨rfl,hk3⟩
   have HKw3:=hid (HKw2.out.trans hk3)
   have HB3:=hid (HB2.out.kept hk3 (fun f=>f))
   have HR3:=hid (HR.out.kept hk3 (fun _ _ f=>f))
   clear hk3 HC
   cases cb with
   | true=>
    go_wp2_with (with_reducible refine at_store 59 4 ?_;refine wpl_store 59 2 Tryz.sizeCm rfl (cells:=[.int .i64 0,.slice none 0 0]) rfl HB3.out rfl rfl (by simp[Value.oneCell']) ?_;intro w4 hB4 hk4 hs4;have HB4:=hid hB4;have HK4:=hid hk4;clear hB4 hk4)
    refine bodyPost_ret (v:=.tuple #[.agg #[.int .i64 0,.slice none 0 0],.int .i64 142]) (by rw[results_14b (p:=4) (b:=5) (ty:=59) rfl _ _ _ _ _ ⟨xb,0,none⟩ _ rfl (loadC14 HB4.out)];rfl) rfl ?_
    exact cka_none HKw3.out hg1 HK4.out (.inr ⟨q,xs,HG.out,HX.out.1,HX.out.2.1,.inr (.inl ⟨HE.out,HCB.out.symm,rfl,rfl,rfl⟩)⟩)
   | false=>
    obtain⟨ow,how⟩:∃x,x=(c.ow q).s:=⟨_,rfl⟩
    have q0:w3.cell? ⟨q,0,none⟩=some (.string ow):=by rw[how];exact((HT.out.same HKw3.out).tb _ HM.out).cell 0
    have HMY:=tmany_any (HT.out.same HKw3.out) ow xs av m cv _ (SrcC.ofRow wrE_ok HR3.out) HX.out.2.1
    have HOW:=hid how
    clear how
    go_wp2_with fail
    refine HMY.mono ?_
    rintro e w5 ⟨D,hD,rfl,hk5⟩
    have HD:=hid hD
    have HKw5:=hid (HKw3.out.trans hk5)
    have HB5:=hid (HB3.out.kept hk5 (fun f=>f))
    have HR5:=hid (HR3.out.kept hk5 (fun _ _ f=>f))
    obtain⟨mb,hmb⟩:∃b,b=manyB (cntW (thNow M) xs (cntD ow D)):=⟨_,rfl⟩
    rw[←hmb]
    have HMB:Hid (manyB (cntW (thNow M) xs (cntD (c.ow q).s D))=mb):=hid (by rw[←HOW.out];exact hmb.symm)
    clear hk5 HMY hD hmb q0
    cases mb with
    | true=>
     go_wp2_with (with_reducible refine at_store 59 4 ?_;refine wpl_store 59 2 Tryz.sizeCm rfl (cells:=[.int .i64 0,.slice none 0 0]) rfl HB5.out rfl rfl (by simp[Value.oneCell']) ?_;intro w4 hB4 hk4 hs4;have HB4:=hid hB4;have HK4:=hid hk4;clear hB4 hk4)
     refine bodyPost_ret (v:=.tuple #[.agg #[.int .i64 0,.slice none 0 0],.int .i64 145]) (by rw[results_14b (p:=4) (b:=5) (ty:=59) rfl _ _ _ _ _ ⟨xb,0,none⟩ _ rfl (loadC14 HB4.out)];rfl) rfl ?_
     exact cka_none HKw5.out hg1 HK4.out (.inr ⟨q,xs,HG.out,HX.out.1,HX.out.2.1,.inr (.inr ⟨HE.out,HCB.out.symm,D,HD.out,.inl ⟨HMB.out,rfl,rfl,rfl⟩⟩)⟩)
    | false=>
     have HNW:=tnow_any (HT.out.same HKw5.out)
     obtain⟨nw,hnw⟩:∃x,x=M.now-1:=⟨_,rfl⟩
     rw[←hnw]at HNW
     have hw1:IntKind.i64.wrap (nw+1)=nw+1:=by have:=HN0.out;rw[IntKind.wrap_i64];omega
     have HNE:Hid (nw+1=M.now):=hid (by omega)
     clear hnw
     go_wp2_with fail
     refine HNW.mono ?_
     rintro e w6 ⟨rfl,hw6⟩
     have hw8:=hw6.symm
     subst hw8
     clear HNW
     go_wp2_with (with_reducible refine at_store 59 4 ?_;refine wpl_store 59 2 Tryz.sizeCm rfl (cells:=[.int .i64 (nw+1),.slice av m cv]) rfl HB5.out rfl rfl (by simp[Value.oneCell']) ?_;intro w4 hB4 hk4 hs4;have HB4:=hid hB4;have HK4:=hid hk4;clear hB4 hk4)
     refine bodyPost_ret (v:=.tuple #[.agg #[.int .i64 (nw+1),.slice av m cv],.int .i64 0]) (by rw[results_14b (p:=4) (b:=5) (ty:=59) rfl _ _ _ _ _ ⟨xb,0,none⟩ _ rfl (loadC14 HB4.out)];rfl) rfl ?_
     refine⟨HKw5.out.then HK4.out (fun x hx2 e=>by omega),nw+1,av,m,cv,0,xs,rfl,.inr ⟨q,xs,HG.out,HX.out.1,HX.out.2.1,.inr (.inr ⟨HE.out,HCB.out.symm,D,HD.out,.inr ⟨HMB.out,rfl,HNE.out,rfl⟩⟩)⟩,?_⟩
     refine(HR5.out.base HK1.out.size).kept HK4.out (fun j hj e=>?_)
     subst e
     exact HR5.out.off14 HB5.out (by decide) hj

end Go.Proofs.YtcfociogljhbiaaGreatDoor

namespace Go.Proofs.YtcfociogljhbiaaGreatDoor
open Go.RowKit Go.Maps Go.Sort Go.Shelf

theorem cellsAt_cm(w:World)(y:Cm):CellsAt (w.alloc (.cells #[.int .i64 y.t,.slice y.a y.n y.c] 59)) ⟨w.heap.size,0,none⟩ ([y].flatMap cmC):=by
 intro j u hj
 match j,hj with
 | 0,hj=>simp[cmC]at hj;subst hj;simp[addAt]
 | 1,hj=>simp[cmC]at hj;subst hj;simp[addAt]
 | j+2,hj=>simp[cmC]at hj

section
variable {K N:Nat} {w:World} {p:Nat} {M:Mst} {bg:Int} {c:Tc} {τ:Nat→Nat}

theorem Tk.addCl(h:Tk K N w p M bg c τ){w':World}{cv:Value}{y:Cm}(hb:Blk w' p #[.pointer (some ⟨c.ps,0,none⟩),.int .i64 bg,.map (some c.mo),cv] 91)(hr:RowC N 59 2 cmC w' cv (c.cl++[y]))(hy:RowC N 65 5 wrE w (.slice y.a y.n y.c) y.ws)(hyo:∀k,(Value.slice y.a y.n y.c).ownBlock=some k→τ k=0)(hl:c.cl.length+1≤K)(ho:∀k,cv.ownBlock=some k→τ k=4∨w.heap.size≤k)(hk:Kept (fun k=>k=p∨τ k=4) w w'):
  ∃τ',Tk K N w' p M bg {c with cv:=cv,cl:=c.cl++[y]} τ'∧(∀k,k<w.heap.size→(Value.slice y.a y.n y.c).ownBlock≠some k→τ' k=τ k):=by
 have hno:∀k,τ k≠0→τ k≠1→τ k≠4→¬(k=p∨τ k=4):=fun k _ e1 e4 e=>by
  rcases e with e | e
  ·rw[e,h.r1]at e1;exact e1 rfl
  ·exact e4 e
 obtain⟨τ',hτ⟩:∃τ':Nat→Nat,τ'=fun k=>if (Value.slice y.a y.n y.c).ownBlock=some k then 5 else if cv.ownBlock=some k then 4 else τ k:=⟨_,rfl⟩
 have h1:∀k,k<w.heap.size→(Value.slice y.a y.n y.c).ownBlock≠some k→τ' k=τ k:=fun k hk hn=>by
  rw[hτ]
  simp only[if_neg hn]
  by_cases e:cv.ownBlock=some k
  ·rw[if_pos e]
   rcases ho k e with q | q
   ·exact q.symm
   ·omega
  ·rw[if_neg e]
 have h2:∀k,τ k≠0→τ' k=τ k:=fun k e=>h1 k (h.new k e).2 (fun e2=>e (hyo k e2))
 have h5:∀k,(Value.slice y.a y.n y.c).ownBlock=some k→τ' k=5:=fun k e=>by rw[hτ];exact if_pos e
 have hyk:RowC N 65 5 wrE w' (.slice y.a y.n y.c) y.ws:=hy.kept hk (fun k e e2=>by
  have:=hyo k e
  rcases e2 with q | q
  ·rw[q,h.r1]at this;cases this
  ·rw[this]at q;cases q)
 refine⟨τ',{h with
  blk:=hb
  sto:=h.sto.kept hk (fun k e=>by
   cases hz:c.ρ k with
   | zero=>rfl
   | succ z=>exact absurd e (hno k (by rw[h.r3 k (by omega)];decide) (by rw[h.r3 k (by omega)];decide) (by rw[h.r3 k (by omega)];decide)))
  om:=h.om.kept hk (hno c.mo (by rw[h.r2];decide) (by rw[h.r2];decide) (by rw[h.r2];decide))
  tb:=fun x hx=>(h.tb x hx).kept hk (hno _ (by rw[h.r6 x hx];omega) (by rw[h.r6 x hx];omega) (by rw[h.r6 x hx];omega))
  ts:=fun x hx=>(h.ts x hx).kept hk (fun k e=>hno k (by rw[h.r7 x hx k e];omega) (by rw[h.r7 x hx k e];omega) (by rw[h.r7 x hx k e];omega))
  cr:=hr
  cw:=fun z hz=>?_
  r1:=by rw[h2 p (by rw[h.r1];decide)];exact h.r1
  r2:=by show τ' c.mo=2;rw[h2 c.mo (by rw[h.r2];decide)];exact h.r2
  r3:=fun k e=>by rw[h2 k (by rw[h.r3 k e];decide)];exact h.r3 k e
  r4:=fun k e=>?_
  r5:=fun z hz k e=>?_
  r6:=fun x hx=>by rw[h2 x.2 (by rw[h.r6 x hx];omega)];exact h.r6 x hx
  r7:=fun x hx k e=>by rw[h2 k (by rw[h.r7 x hx k e];omega)];exact h.r7 x hx k e
  new:=fun k e=>?_
  lens:=⟨h.lens.1,by show(c.cl++[y]).length≤K;rw[List.length_append];exact hl⟩},h1⟩
 ·rcases List.mem_append.1 hz with q | q
  ·exact(h.cw z q).kept hk (fun k e=>hno k (by rw[h.r5 z q k e];decide) (by rw[h.r5 z q k e];decide) (by rw[h.r5 z q k e];decide))
  ·rw[List.mem_singleton.1 q];exact hyk
 ·have e':cv.ownBlock=some k:=e
  have hny:¬(Value.slice y.a y.n y.c).ownBlock=some k:=fun e2=>by
   rcases ho k e' with q | q
   ·rw[hyo k e2]at q;cases q
   ·have:=hy.lt e2;omega
  rw[hτ]
  simp only[if_neg hny,if_pos e']
 ·rcases List.mem_append.1 hz with q | q
  ·rw[h2 k (by rw[h.r5 z q k e];decide)];exact h.r5 z q k e
  ·rw[List.mem_singleton.1 q]at e;exact h5 k e
 ·by_cases e1:(Value.slice y.a y.n y.c).ownBlock=some k
  ·exact⟨hyk.ge e1,hyk.lt e1⟩
  ·by_cases e2:cv.ownBlock=some k
   ·exact⟨hr.ge e2,hr.lt e2⟩
   ·rw[hτ]at e
    simp only[if_neg e1,if_neg e2]at e
    exact⟨(h.new k e).1,Nat.lt_of_lt_of_le (h.new k e).2 hk.size⟩

end

def ComG(K N:Nat)(w:World)(p:Nat)(M:Mst)(bg:Int)(c:Tc)(τ:Nat→Nat)(n:Nb)(xs:List Wr)(w':World):Prop:=
 ∃w1 c1 τ1,EndA (K+3*xs.length) N w1 p (if xs=[]then M else putM M (M.now+1) xs) bg c1 τ1 n (.returned (.tuple #[])) w'∧c1.L=c.L∧c1.ow=c.ow∧c1.mv=c.mv ∧
  ((xs=[]∧c1.cl=c.cl)∨(xs≠[]∧∃y:Cm,y.t=M.now∧y.ws=xs∧c1.cl=c.cl++[y]))∧(∀k,k<w.heap.size→τ1 k=τ k)∧Kept (fun k=>τ k≠0) w w1∧w.heap.size≤w1.heap.size

def ComA(K N:Nat)(w:World)(p:Nat)(M:Mst)(bg:Int)(c:Tc)(τ:Nat→Nat)(n:Nb)(e:Ending)(w':World):Prop:=
 (getK n c.L=none∧e=.returned (.tuple #[.int .i64 0,.int .i64 140])∧Same w w')∨(getK n c.L≠none∧∃t er xs,CkR M c n t er xs∧e=.returned (.tuple #[.int .i64 t,.int .i64 er])∧ComG K N w p M bg c τ n xs w')

def ComP(K N:Nat)(w:World)(p:Nat)(M:Mst)(bg:Int)(c:Tc)(τ:Nat→Nat)(y:Cm)(g:Nat)(w':World):Prop:=
 ∃ρ' τ1,Tk (K+3*y.ws.length) N w' p (putM M (M.now+1) y.ws) bg {c with ρ:=ρ'} τ1∧(∀k,k<w.heap.size→τ1 k=τ k)∧(∀k,(Value.slice y.a y.n y.c).ownBlock=some k→τ1 k=0∧w.heap.size≤k)∧τ1 g=0∧RowC N 65 5 wrE w' (.slice y.a y.n y.c) y.ws∧Kept (fun k=>τ k≠0) w w'∧Blk w' g #[.int .i64 y.t,.slice y.a y.n y.c] 59∧g<w'.heap.size

theorem tcput{K N:Nat}{w w4:World}{p:Nat}{M:Mst}{bg:Int}{c:Tc}{τ:Nat→Nat}(h:Tk K N w p M bg c τ)(hk:Same w w4){y:Cm}(hr:RowC w.heap.size 65 5 wrE w4 (.slice y.a y.n y.c) y.ws){g:Nat}(hg:w.heap.size≤g)(hb:Blk w4 g #[.int .i64 y.t,.slice y.a y.n y.c] 59)(hn0:1≤M.now∧M.now≤9223372036854775805)(hK:K+3*y.ws.length≤100000):
  Calls Tryz.prog 36 #[.pointer (some ⟨c.ps,0,none⟩),.agg #[.int .i64 (M.now+1),.slice y.a y.n y.c]] w4 fun e w'=>e=.returned (.int .i64 0)∧ComP K N w p M bg c τ y g w':=by
 have hN:N≤w.heap.size:=by have:=h.new p (by rw[h.r1];decide);omega
 have h4:=h.same hk
 have hlow:∀k,c.ρ k≠0→k<w.heap.size:=fun k e=>(h.new k (by rw[h.r3 k e];decide)).2
 refine(xput_new h4.sto (Nat.le_trans hN hk.size) (M.now+1) (by omega) (by omega) y.ws _ _ (SrcC.ofRow wrE_ok hr) (fun j hj=>?_) hK).mono ?_
 ·cases hz:c.ρ j with
  | zero=>rfl
  | succ z=>
   have:=hlow j (by omega)
   have:=hr.ge hj
   omega
 ·rintro e w' ⟨rfl,ρ',g1,g2,g3⟩
  obtain⟨τ1,a1,a2,a3⟩:=h4.setSto g1 g2 g3 (Nat.le_add_right _ _) hK
  have hgl:g<w4.heap.size:=hb.lt
  refine⟨rfl,ρ',τ1,a1,fun k hk2=>a2 k (Nat.lt_of_lt_of_le hk2 hk.size),fun k e=>⟨?_,hr.ge e⟩,?_,?_,?_,?_,?_⟩
  ·rw[a2 k (hr.lt e)];exact h.zero (hr.ge e)
  ·rw[a2 g hgl];exact h.zero hg
  ·exact(hr.base hN).kept g3 (fun k e e2=>by have:=hlow k e2;have:=hr.ge e;omega)
  ·exact Kept.trans hk a3 (fun _ _ f=>f.elim) (fun _ _ e=>e)
  ·exact hb.kept g3 (fun e2=>by have:=hlow g e2;omega)
  ·exact Nat.lt_of_lt_of_le hgl g3.size

end Go.Proofs.YtcfociogljhbiaaGreatDoor

namespace Go.Proofs.YtcfociogljhbiaaGreatDoor
open Go.RowKit Go.Maps Go.Sort Go.Shelf

theorem CkR.err{M:Mst}{c:Tc}{n:Nb}{t er:Int}{xs:List Wr}(h:CkR M c n t er xs)(hx:xs≠[]):er=0∧t=M.now:=by
 rcases h with⟨_,_,_,e⟩ | ⟨q,ys,_,_,_,h⟩
 ·exact absurd e hx
 ·rcases h with⟨_,_,_,e⟩ | ⟨_,_,_,_,e⟩ | ⟨_,_,D,_,h⟩
  ·exact absurd e hx
  ·exact absurd e hx
  ·rcases h with⟨_,_,_,e⟩ | ⟨_,e1,e2,_⟩
   ·exact absurd e hx
   ·exact⟨e1,e2⟩

theorem com_end{K N:Nat}{w wk w5:World}{p:Nat}{M:Mst}{bg:Int}{c:Tc}{τ:Nat→Nat}{y:Cm}{g:Nat}{a3 a5:Option Addr}{n3 q3 n5 q5:Nat}
  (hP:∃ρ' τ1,Tk (K+3*y.ws.length) N wk p (putM M (M.now+1) y.ws) bg {c with ρ:=ρ'} τ1∧(∀k,k<w.heap.size→τ1 k=τ k)∧(∀k,(Value.slice y.a y.n y.c).ownBlock=some k→τ1 k=0∧w.heap.size≤k)∧τ1 g=0∧RowC N 65 5 wrE wk (.slice y.a y.n y.c) y.ws∧Kept (fun k=>τ k≠0) w wk∧Blk wk g #[.int .i64 y.t,.slice y.a y.n y.c] 59∧g<wk.heap.size)
  (hcv:c.cv=.slice a3 n3 q3) (hg:w.heap.size≤g) (hr1:τ p=1) (hpw:p<w.heap.size) (hne:y.ws≠[]) (hcl:c.cl.length≤K) (_hτ:∀k,τ k≠0→k<w.heap.size) (_hr4:∀k,c.cv.ownBlock=some k→τ k=4)
  (h5:RowC N 59 2 cmC w5 (.slice a5 n5 q5) (c.cl++[y])∧Kept (fun k=>(Value.slice a3 n3 q3).ownBlock=some k) wk w5∧∀j,(Value.slice a5 n5 q5).ownBlock=some j→(Value.slice a3 n3 q3).ownBlock=some j∨wk.heap.size≤j):
  ∃ρ' τ2,Tk (K+3*y.ws.length) N (w5.setCell ⟨p,3,none⟩ (.slice a5 n5 q5)) p (putM M (M.now+1) y.ws) bg {c with ρ:=ρ',cv:=.slice a5 n5 q5,cl:=c.cl++[y]} τ2∧(∀k,k<w.heap.size→τ2 k=τ k)∧Kept (fun k=>τ k≠0) w (w5.setCell ⟨p,3,none⟩ (.slice a5 n5 q5))∧τ2 g=0∧Blk (w5.setCell ⟨p,3,none⟩ (.slice a5 n5 q5)) g #[.int .i64 y.t,.slice y.a y.n y.c] 59:=by
 obtain⟨ρ',τ1,a1,a2,a3',a4,a5',a6,a7,a8⟩:=hP
 obtain⟨k1,k2,k3⟩:=h5
 have ho4:∀k,(Value.slice a3 n3 q3).ownBlock=some k→τ1 k=4:=fun k e=>a1.r4 k (by show c.cv.ownBlock=some k;rw[hcv];exact e)
 have hblk:Blk wk p #[.pointer (some ⟨c.ps,0,none⟩),.int .i64 bg,.map (some c.mo),.slice a3 n3 q3] 91:=by rw[←hcv];exact a1.blk
 have hb5:=hblk.kept k2 (fun e=>by have:=ho4 p e;rw[a1.r1]at this;cases this)
 have hbF:Blk (w5.setCell ⟨p,3,none⟩ (.slice a5 n5 q5)) p #[.pointer (some ⟨c.ps,0,none⟩),.int .i64 bg,.map (some c.mo),.slice a5 n5 q5] 91:=by
  have h9:=hb5.set 3 (.slice a5 n5 q5)
  simpa using h9
 have hks:Kept (·=p) w5 (w5.setCell ⟨p,3,none⟩ (.slice a5 n5 q5)):=(Kept.refl (·=p) w5).setCell _ _ (.inl rfl)
 have hkk:Kept (fun k=>k=p∨τ1 k=4) wk (w5.setCell ⟨p,3,none⟩ (.slice a5 n5 q5)):=Kept.trans k2 hks (fun k _ e=>.inr (ho4 k e)) (fun k _ e=>.inl e)
 have hl1:1≤y.ws.length:=by cases hy:y.ws with | nil=>exact absurd hy hne | cons=>simp
 obtain⟨τ2,b1,b2⟩:=a1.addCl (cv:=.slice a5 n5 q5) (y:=y) hbF (k1.kept hks (fun k e e2=>k1.off14 hb5 (by decide) (by rw[←e2];exact e))) a5' (fun k e=>(a3' k e).1) (by show c.cl.length+1≤_;omega) (fun k e=>(k3 k e).imp (ho4 k) id) hkk
 have hgp:¬(g=p∨τ1 g=4):=fun e=>by
  rcases e with e | e
  ·omega
  ·rw[a4]at e;cases e
 refine⟨ρ',τ2,b1,fun k hk=>?_,?_,?_,?_⟩
 ·rw[b2 k (Nat.lt_of_lt_of_le hk a6.size) (fun e=>by have:=(a3' k e).2;omega)]
  exact a2 k hk
 ·refine Kept.trans a6 hkk (fun _ _ e=>e) (fun k hk e=>?_)
  rcases e with e | e
  ·rw[e,hr1];decide
  ·rw[←a2 k hk,e];decide
 ·rw[b2 g a8 (fun e=>a5'.off14 a7 (by decide) e)];exact a4
 ·exact a7.kept hkk hgp

end Go.Proofs.YtcfociogljhbiaaGreatDoor

namespace Go.Proofs.YtcfociogljhbiaaGreatDoor
open Go.RowKit Go.Maps Go.Sort Go.Shelf

set_option maxRecDepth 100000 in
set_option maxHeartbeats 4000000 in
theorem tcommit_any{K N:Nat}{w:World}{p:Nat}{M:Mst}{bg:Int}{c:Tc}{τ:Nat→Nat}(h:Tk K N w p M bg c τ)(n:Nb)(hs:∀x∈c.L,0≤(c.mv x.2).t∧(c.mv x.2).t≤M.now-1∧M.now-1-(c.mv x.2).t≤c.cl.length)(hnum:∀y∈c.cl,-9223372036854775808≤y.t∧y.t≤9223372036854775807)(hn0:1≤M.now∧M.now≤9223372036854775805)(hK:∀t er xs,CkR M c n t er xs→K+3*xs.length≤100000):
  Calls Tryz.prog 18 #[.pointer (some ⟨p,0,none⟩),.int .i64 n.v] w fun e w'=>ComA K N w p M bg c τ n e w':=by
 have HF:=tfind_any h n
 have HCK:=tcheck_any h n hs hnum (by omega)
 cases hg:getK n c.L with
 | none=>
  rw[hg]at HF
  change Calls _ _ _ _ (fun e w'=>e=.returned (.tuple #[.pointer none,.int .i64 140])∧w'=w)at HF
  have HG:Hid (getK n c.L=none):=hg
  clear h hg HCK hs hn0 hnum hK
  go_enter Tryz.func18,Tryz.ntmps18
  go_wp2_with fail
  refine HF.mono ?_
  rintro e w1 ⟨rfl,rfl⟩
  go_wp2_with fail
  go_ret2
  exact .inl ⟨HG.out,rfl,Kept.refl _ _⟩
 | some q=>
  rw[hg]at HF
  change Calls _ _ _ _ (fun e w'=>e=.returned (.tuple #[.pointer (some ⟨q,0,none⟩),.int .i64 0])∧w'=w)at HF
  have HG:Hid (getK n c.L≠none):=hid (by rw[hg];exact fun e=>by cases e)
  have HT:=hid h
  have HS:=hid hs
  have HN0:=hid hn0
  have HKK0:=hid hK
  clear h hg hs hnum hn0 hK
  go_enter Tryz.func18,Tryz.ntmps18
  go_wp2_with fail
  refine HF.mono ?_
  rintro e w1 ⟨rfl,hw1⟩
  have hw9:=hw1.symm
  subst hw9
  clear HF
  go_wp2_with fail
  refine HCK.mono ?_
  rintro e w1 ⟨hk1,t,a,m,cap,er,xs,rfl,hR,hrow⟩
  have HK1:=hid hk1
  have HR:=hid hR
  have HRW:=hid hrow
  have HML:Hid (m=xs.length):=hid (by
   obtain⟨ao,cp,e,_⟩:=hrow.shape
   injection e)
  clear HCK hk1 hR hrow
  go_upto_region 5 with(first
   | (with_reducible refine at_alloc 59 8 ?_;refine wpl_alloc 59 _ Tryz.zeroCm ?_;intro w3 g8 hB3 hk3 hg3 hl3;have HB3:=hid hB3;have HK3:=hid hk3;clear hB3 hk3)
   | (with_reducible refine at_store 59 8 ?_;refine wpl_store 59 2 Tryz.sizeCm rfl (cells:=[.int .i64 t,.slice a m cap]) rfl HB3.out rfl rfl (by simp[Value.oneCell']) ?_;intro w4 hB4 hk4 hs4;have HK4:Hid (Same w1 w4):=hid (HK3.out.then hk4 (fun x hx e=>by omega));have HB4:=hid hB4;clear hB4 hk4 hs4 HB3 HK3))
  have HK4w:=hid (HK1.out.trans HK4.out)
  have HR4:=hid (HRW.out.kept HK4.out (fun _ _ f=>f))
  have hg8:w.heap.size≤g8:=by have:=HK1.out.size;omega
  have f0:=HB4.out.cell 0
  have f1:=HB4.out.cell 1
  simp only[List.getElem?_toArray,List.getElem?_cons_zero,List.getElem?_cons_succ]at f0 f1
  by_cases hx:xs=[]
  ·have HX:=hid hx
   have hm0:m=0:=by rw[HML.out,hx];rfl
   subst hm0
   have HEN:=tend_any (HT.out.same HK4w.out) n HS.out (by have:=HN0.out;omega)
   have HZ8:Hid (¬τ g8≠0):=hid (fun e=>e (HT.out.zero hg8))
   clear hx
   by_cases he:er=0
   ·subst he
    go_wp2_with fail
    refine HEN.mono ?_
    intro e w7 hE
    have HEE:=hid hE
    obtain⟨rfl,_,_,_,_,_,_,_,_,_,_,hk7⟩:=hE
    have f7:=hk7.cell f0 HZ8.out
    clear hk7 f0 f1 HEN
    go_wp2_with fail
    go_ret2
    refine .inr ⟨HG.out,t,0,xs,HR.out,rfl,w4,c,τ,?_,rfl,rfl,rfl,.inl ⟨HX.out,rfl⟩,fun _ _=>rfl,HK4w.out.mono (fun _ _ f=>f.elim),HK4w.out.size⟩
    rw[if_pos HX.out,HX.out]
    exact HEE.out
   ·have e0:((er:Int)==0)=false:=by simpa using he
    go_wp2_with fail
    refine HEN.mono ?_
    intro e w7 hE
    have HEE:=hid hE
    obtain⟨rfl,_,_,_,_,_,_,_,_,_,_,hk7⟩:=hE
    have f7:=hk7.cell f0 HZ8.out
    clear hk7 f0 f1 HEN
    go_wp2_with fail
    go_ret2
    refine .inr ⟨HG.out,t,er,xs,HR.out,rfl,w4,c,τ,?_,rfl,rfl,rfl,.inl ⟨HX.out,rfl⟩,fun _ _=>rfl,HK4w.out.mono (fun _ _ f=>f.elim),HK4w.out.size⟩
    rw[if_pos HX.out,HX.out]
    exact HEE.out
  ·have HX:=hid hx
   obtain⟨he,ht⟩:=HR.out.err hx
   subst he
   have hm0:0<m:=by
    rw[HML.out]
    exact List.length_pos_iff.2 hx
   obtain⟨y,hy⟩:∃y:Cm,y=⟨t,a,m,cap,xs⟩:=⟨_,rfl⟩
   have HY:Hid (y.t=t∧y.a=a∧y.n=m∧y.c=cap∧y.ws=xs∧t=M.now∧xs≠[]∧K+3*y.ws.length≤100000):=hid (by rw[hy];exact⟨rfl,rfl,rfl,rfl,rfl,ht,hx,HKK0.out _ _ _ HR.out⟩)
   obtain⟨ps,hps⟩:∃x,x=c.ps:=⟨_,rfl⟩
   have p0:w4.cell? ⟨p,0,none⟩=some (.pointer (some ⟨ps,0,none⟩)):=by rw[hps];exact(HT.out.same HK4w.out).blk.cell 0
   have HBE:Hid (∀w',Calls Tryz.prog 37 #[.int .i64 t] w' fun e w2=>e=.returned (.int .i64 (t+1))∧Same w' w2):=hid (fun w'=>(behind_any w' t (by have:=HN0.out;omega)).mono (fun e w2 h9=>⟨h9.1,by rw[h9.2];exact Kept.refl _ _⟩))
   have HPU:Hid (∀w',Same w4 w'→Calls Tryz.prog 36 #[.pointer (some ⟨ps,0,none⟩),.agg #[.int .i64 (t+1),.slice a m cap]] w' fun e w2=>e=.returned (.int .i64 0)∧(w2.cell? ⟨p,0,none⟩=some (.pointer (some ⟨ps,0,none⟩))∧w2.cell? ⟨g8,0,none⟩=some (.int .i64 t)∧w2.cell? ⟨g8,1,none⟩=some (.slice a m cap))∧ComP K N w p M bg c τ y g8 w2):=hid (fun w' hk=>by
    have h9:=tcput (y:=y) (g:=g8) HT.out (HK4w.out.trans hk) (by rw[hy];exact HR4.out.kept hk (fun _ _ f=>f) ) hg8 (by rw[hy];exact HB4.out.kept hk (fun f=>f)) HN0.out HY.out.2.2.2.2.2.2.2
    rw[hps]
    rw[hy,←ht]at h9
    refine h9.mono (fun e w2 h8=>⟨h8.1,?_,by rw[hy];exact h8.2⟩)
    obtain⟨ρ',τ1,a1,_,_,_,_,_,a7,_⟩:=h8.2
    exact⟨a1.blk.cell 0,a7.cell 0,a7.cell 1⟩)
   clear hx hps hy ht
   go_wp2_with fail
   have HKK:Hid (Same w4 w4):=hid (Kept.refl _ _)
   go_region_held3 (fun w'=>w'.cell? ⟨p,0,none⟩=some (.pointer (some ⟨ps,0,none⟩))∧w'.cell? ⟨g8,0,none⟩=some (.int .i64 t)∧w'.cell? ⟨g8,1,none⟩=some (.slice a m cap))
    (first
     | exact hcl
     | (go_split_ands;exact⟨hkc.cell (by assumption) (fun f=>f),hkc.cell (by assumption) (fun f=>f),hkc.cell (by assumption) (fun f=>f)⟩)
     | go_keep)
    (first
     | (go_at_call 37;refine(HBE.out _).mono ?_;rintro e wk ⟨rfl,hkc⟩;have HKK:Hid (Same w4 wk):=hid (by first | exact HKK.out.trans hkc | exact HKK.out.trans (Kept.undrewC hkc)))
     | (go_at_call 36;refine(HPU.out _ (by first | exact HKK.out | exact HKK.out.drew)).mono ?_;rintro e wk ⟨rfl,hcl,hP⟩;have HP:=hid hP;clear hP))
   go_upto_region 7 with fail
   have HPP:=hid HP.out
   unfold ComP at HPP
   have HCV:Hid (∃a3 n3 q3,c.cv=.slice a3 n3 q3):=hid (by
    obtain⟨a3,q3,e,_⟩:=HT.out.cr.shape
    exact⟨a3,_,q3,e⟩)
   obtain⟨a3,n3,q3,hcv⟩:=HCV.out
   obtain⟨d3,z3⟩:wk.cell? ⟨p,3,none⟩=some (.slice a3 n3 q3)∧wk.frozen? ⟨p,3,none⟩=false:=by
    obtain⟨ρ',τ1,a1,_⟩:=HPP.out
    rw[←hcv]
    exact⟨a1.blk.cell 3,a1.blk.frozen 3⟩
   have HRW4:Hid (∀w',Same wk w'→RowC N 59 2 cmC w' (.slice a3 n3 q3) c.cl):=hid (fun w' hk=>by
    obtain⟨ρ',τ1,a1,_⟩:=HPP.out
    rw[←hcv]
    exact a1.cr.kept hk (fun _ _ f=>f))
   have HPB:Hid (∀w',Kept (fun k=>(Value.slice a3 n3 q3).ownBlock=some k) wk w'→w'.cell? ⟨p,3,none⟩=some (.slice a3 n3 q3)∧w'.frozen? ⟨p,3,none⟩=false):=hid (fun w' hk=>by
    obtain⟨ρ',τ1,a1,_⟩:=HPP.out
    have hb:Blk wk p #[.pointer (some ⟨c.ps,0,none⟩),.int .i64 bg,.map (some c.mo),.slice a3 n3 q3] 91:=by rw[←hcv];exact a1.blk
    have h9:=hb.kept hk (fun e=>by
     have h8:=a1.r4 p (by show c.cv.ownBlock=some p;rw[hcv];exact e)
     rw[a1.r1]at h8
     cases h8)
    exact⟨h9.cell 3,h9.frozen 3⟩)
   have HNS:Hid (N≤wk.heap.size∧c.cl.length≤100000):=hid (by
    obtain⟨ρ',τ1,a1,_⟩:=HPP.out
    have h9:=a1.new p (by rw[a1.r1];decide)
    have h8:c.cl.length≤_:=a1.lens.2
    have:=a1.big
    exact⟨by omega,by omega⟩)
   have HCA:Hid (CellsAt (wk.alloc (.cells #[.int .i64 t,.slice a m cap] 59)) ⟨wk.heap.size,0,none⟩ ([y].flatMap cmC)):=hid (by
    have h9:=cellsAt_cm wk y
    rw[HY.out.1,HY.out.2.1,HY.out.2.2.1,HY.out.2.2.2.1]at h9
    exact h9)
   have HCVH:=hid hcv
   obtain⟨s0,s1,s2⟩:=hcl
   have d3a:(wk.alloc (.cells #[.int .i64 t,.slice a m cap] 59)).cell? ⟨p,3,none⟩=some (.slice a3 n3 q3):=(show Same wk _ from(Kept.refl _ _).alloc _).cell d3 (fun f=>f)
   clear HP HCV hcv p0 f0 f1 HKK HBE HPU s0 z3
   go_region_law (refine step_appendC cmC 2 cmC_ok N 89 59 (.agg #[.int .i64 0,.slice none 0 0]) 32 Tryz.underlying89 Tryz.infoCm rfl (by decide) (by rfl) (.tmp 48) (.tmp 50) (by rfl) (.slice a3 n3 q3) c.cl (by rfl) (HRW4.out _ (by first | exact((Kept.refl _ _).drew).alloc _ | exact((Kept.refl _ _).alloc _).drew | exact(Kept.refl _ _).alloc _)) ⟨wk.heap.size,0,none⟩ 1 1 [y] (by rfl) (by rfl) HCA.out (by have:=HNS.out;simp;omega) (by have:=HNS.out;simp;omega) ?_;intro v5 w5 hr5 hg5 hb5;have hk5:Kept (fun k=>(Value.slice a3 n3 q3).ownBlock=some k) wk w5:=Kept.trans (show Same wk (wk.alloc (.cells #[.int .i64 t,.slice a m cap] 59)).drew from((Kept.refl _ _).alloc _).drew) ((Kept.refl _ _).grown hg5 (fun k e=>.inl e)) (fun _ _ f=>f.elim) (fun _ _ e=>e);obtain⟨d5,z5⟩:=HPB.out w5 hk5;obtain⟨a5,n5,q5,e5⟩:∃a n q,v5=Value.slice a n q:=(by obtain⟨a,q,e,_⟩:=hr5.shape;exact⟨a,_,q,e⟩);subst e5;clear hg5)
   all_goals
    have H5:Hid (RowC N 59 2 cmC w5 (.slice a5 n5 q5) (c.cl++[y])∧Kept (fun k=>(Value.slice a3 n3 q3).ownBlock=some k) wk w5∧∀j,(Value.slice a5 n5 q5).ownBlock=some j→(Value.slice a3 n3 q3).ownBlock=some j∨wk.heap.size≤j):=hid ⟨hr5,hk5,fun j e=>(hb5 j e).imp id (fun h=>Nat.le_trans (by simp) h)⟩
    clear hr5 hk5 hb5 d5 s1 s2
    as_aux_lemma=>
    obtain⟨w6,hw6⟩:∃W,W=w5.setCell ⟨p,3,none⟩ (.slice a5 n5 q5):=⟨_,rfl⟩
    have hE6:=com_end HPP.out HCVH.out hg8 HT.out.r1 (HT.out.new p (by rw[HT.out.r1];decide)).2 (by rw[HY.out.2.2.2.2.1];exact HX.out) HT.out.lens.2 (fun k e=>(HT.out.new k e).2) HT.out.r4 H5.out
    rw[←hw6]at hE6
    obtain⟨ρ2,τ2,b1,b2,b3,b4,b5⟩:=hE6
    have HEN:=tend_any b1 n (fun x hx=>by
     have h9:=HS.out x hx
     show 0≤(c.mv x.2).t∧(c.mv x.2).t≤(M.now+1)-1∧(M.now+1)-1-(c.mv x.2).t≤((c.cl++[y]).length:Nat)
     rw[List.length_append]
     simp only[List.length_cons,List.length_nil]
     omega) (by have:=HN0.out;show 1≤M.now+1∧M.now+1≤_;omega)
    have g0:w6.cell? ⟨g8,0,none⟩=some (.int .i64 t):=by rw[←HY.out.1];exact b5.cell 0
    have HB6:Hid ((∀k,k<w.heap.size→τ2 k=τ k)∧Kept (fun k=>τ k≠0) w w6∧τ2 g8=0):=hid ⟨b2,b3,b4⟩
    clear b1 b2 b3 b4 b5
    go_wp2_with fail
    rw[←hw6]
    clear hw6
    refine HEN.mono ?_
    intro e w7 hE
    have HEE:=hid hE
    obtain⟨rfl,_,_,_,_,_,_,_,_,_,_,hk7⟩:=hE
    have g7:=hk7.cell g0 (fun e=>e HB6.out.2.2)
    clear hk7 g0 HEN
    go_wp2_with fail
    go_ret2
    refine .inr ⟨HG.out,t,0,xs,HR.out,rfl,w6,{c with ρ:=ρ2,cv:=.slice a5 n5 q5,cl:=c.cl++[y]},τ2,?_,rfl,rfl,rfl,.inr ⟨HX.out,y,by rw[HY.out.1];exact HY.out.2.2.2.2.2.1,HY.out.2.2.2.2.1,rfl⟩,HB6.out.1,HB6.out.2.1,HB6.out.2.1.size⟩
    rw[if_neg HX.out,←HY.out.2.2.2.2.1]
    exact HEE.out

end Go.Proofs.YtcfociogljhbiaaGreatDoor

namespace Go.Proofs.YtcfociogljhbiaaGreatDoor
open Go.RowKit Go.Maps Go.Sort Go.Shelf

set_option maxRecDepth 100000 in
set_option maxHeartbeats 1000000 in
theorem scheck_none(w:World):Calls Tryz.prog 34 #[.slice none 0 0] w fun e w'=>e=.returned (.int .i64 0)∧Same w w':=by
 go_enter Tryz.func34,Tryz.ntmps34
 go_wp2_with (with_reducible refine at_alloc 83 3 ?_;refine wpl_alloc 83 _ Tryz.zeroArc ?_;intro w1 xb hB1 hk1 hg1 hl1;have HK1:=hid hk1;clear hB1 hk1)
 go_loopg [4,5,11] 0 (fun q z4 z5 z wr=>z=.int .i64 0∧wr=w1)
 case atStart=>exact⟨rfl,rfl⟩
 case round=>
  obtain⟨rfl,hw⟩:=hrel
  have hw9:=hw.symm
  subst hw9
  go_wp2_with fail
  go_ret
  exact⟨rfl,HK1.out⟩

set_option maxRecDepth 100000 in
set_option maxHeartbeats 1000000 in
theorem wof_none(w:World):Calls Tryz.prog 38 #[.slice none 0 0] w fun e w'=>e=.returned (.slice none 0 0)∧Same w w':=by
 go_enter Tryz.func38,Tryz.ntmps38
 go_wp2_with fail
 go_loopg [3,11] 0 (fun q z3 z wr=>z=.int .i64 0∧z3=.slice none 0 0∧wr=w)
 case atStart=>exact⟨rfl,rfl,rfl⟩
 case round=>
  obtain⟨rfl,rfl,hw⟩:=hrel
  have hw9:=hw.symm
  subst hw9
  go_wp2_with fail
  go_ret
  exact⟨rfl,Kept.refl _ _⟩

def M14:Mst:=⟨1,0,fun _ _=>[]⟩

def NewA(w:World)(e:Ending)(w':World):Prop:=∃N p c τ,e=.returned (.tuple #[.pointer (some ⟨p,0,none⟩),.int .i64 0])∧w.heap.size≤N∧Tk 0 N w' p M14 0 c τ∧c.L=[]∧c.cl=[]∧(∀k,k<w.heap.size→τ k=0)∧Same w w'

theorem new_done{w w2 w3 w':World}{N ps p mo:Nat}{ρ ρ':Nat→Nat}(hN:w.heap.size≤N)(hN2:N≤w2.heap.size)(hs:Sto 0 N w' ps M14 ρ')(hx:ExtC w3 ρ ρ')(hz:∀k,w2.heap.size≤k→ρ k=0)(hm:MpK 3 ptC kI w3 mo [])(hmo:w2.heap.size≤mo)(hb:Blk w3 p #[.pointer (some ⟨ps,0,none⟩),.int .i64 0,.map (some mo),.slice none 0 0] 91)(hp:mo<p)(hpl:p<w3.heap.size)(hk:Kept (fun k=>ρ k≠0) w3 w')(hw:w.heap.size≤w2.heap.size)(hw3:Same w w3)(hl:∀k,k<w.heap.size→ρ k=0):NewA w (.returned (.tuple #[.pointer (some ⟨p,0,none⟩),.int .i64 0])) w':=by
 have hnp:¬ρ p≠0:=fun e=>e (hz p (by omega))
 have hnm:¬ρ mo≠0:=fun e=>e (hz mo hmo)
 have hp3:ρ' p=0:=by
  rcases hx p with e | e
  ·rw[e];exact hz p (by omega)
  ·omega
 have hm3:ρ' mo=0:=by
  rcases hx mo with e | e
  ·rw[e];exact hz mo hmo
  ·omega
 have hnew:∀k,ρ' k≠0→N≤k∧k<w'.heap.size:=fun k e=>by
  obtain⟨s,mb,hck,_⟩:=hs
  exact hck.new k e
 refine⟨N,p,⟨ps,ρ',mo,[],fun _=>⟨⟨#[]⟩,by decide⟩,fun _=>0,fun _ _=>False,fun _=>mv0 0,.slice none 0 0,[]⟩,fun k=>if k=p then 1 else if k=mo then 2 else if ρ' k≠0 then 3 else 0,rfl,hN,?_,rfl,rfl,fun k hk2=>?_,?_⟩
 ·refine {blk:=hb.kept hk hnp,sto:=hs,om:=hm.kept hk hnm,tb:=fun x hx=>(by cases hx),ts:=fun x hx=>(by cases hx),cr:=RowC.nil,cw:=fun y hy=>(by cases hy),inj:=fun x hx=>(by cases hx),r1:=if_pos rfl,r2:=?_,r3:=fun k e=>?_,r4:=fun k e=>(by cases e),r5:=fun y hy=>(by cases hy),r6:=fun x hx=>(by cases hx),r7:=fun x hx=>(by cases hx),new:=fun k e=>?_,key:=fun x hx=>(by cases hx),num:=⟨by omega,by omega⟩,lens:=⟨by simp,by simp⟩,big:=by omega}
  ·show(if mo=p then 1 else if mo=mo then 2 else if ρ' mo≠0 then 3 else 0)=2
   rw[if_neg (by omega),if_pos rfl]
  ·have e':ρ' k≠0:=e
   show(if k=p then 1 else if k=mo then 2 else if ρ' k≠0 then 3 else 0)=3
   rw[if_neg (fun q=>e' (by rw[q];exact hp3)),if_neg (fun q=>e' (by rw[q];exact hm3)),if_pos e']
  ·have hks:=hk.size
   by_cases e1:k=p
   ·subst e1;omega
   ·by_cases e2:k=mo
    ·subst e2;omega
    ·by_cases e3:ρ' k≠0
     ·exact hnew k e3
     ·simp only[if_neg e1,if_neg e2,if_neg e3]at e
      exact absurd rfl e
 ·have e3:¬ρ' k≠0:=fun e=>by have:=(hnew k e).1;omega
  show(if k=p then 1 else if k=mo then 2 else if ρ' k≠0 then 3 else 0)=0
  rw[if_neg (by omega),if_neg (by omega),if_neg e3]
 ·exact hw3.then hk (fun k hk2 e=>e (hl k hk2))

set_option maxRecDepth 100000 in
set_option maxHeartbeats 2000000 in
theorem tnew_none(w:World):Calls Tryz.prog 10 #[.slice none 0 0,.int .i64 0] w fun e w'=>NewA w e w':=by
 have hmm:=@run_makeMap Tryz.prog
 go_enter Tryz.func10,Tryz.ntmps10
 go_wp2_with fail
 refine(scheck_none w).mono ?_
 rintro e w1 ⟨rfl,hk1⟩
 have HK1:=hid hk1
 clear hk1
 go_wp2_with fail
 refine(xnew w1).mono ?_
 rintro e w2 ⟨ps,ρ,rfl,hs2,hz2,hk2⟩
 have H2:Hid (Sto 0 w1.heap.size w2 ps ⟨0,0,fun _ _=>[]⟩ ρ∧(∀k,k<w1.heap.size→ρ k=0)∧Same w1 w2):=hid ⟨hs2,hz2,hk2⟩
 clear hs2 hz2 hk2
 obtain⟨wA,hwA⟩:∃W,W=w2.alloc (.map #[] 0):=⟨_,rfl⟩
 obtain⟨mo,hmo⟩:∃x,x=w2.heap.size:=⟨_,rfl⟩
 have HM:Hid (MpK 3 ptC kI wA mo []∧Same w2 wA∧mo<wA.heap.size∧mo=w2.heap.size):=hid ⟨by rw[hwA,hmo];exact MpK.new w2,by rw[hwA];exact(Kept.refl _ w2).alloc _,by rw[hwA,hmo];simp,hmo⟩
 go_wp2_with (with_reducible refine at_box 91 ?_;rw[←hwA,←hmo];refine wpl_box 91 #[.pointer (some ⟨ps,0,none⟩),.int .i64 0,.map (some mo),.slice none 0 0] rfl ?_;intro w3 p hB3 hk3 hg3 hl3;have HB3:=hid hB3;have HK3:=hid hk3;clear hB3 hk3)
 have p0:w3.cell? ⟨p,0,none⟩=some (.pointer (some ⟨ps,0,none⟩)):=HB3.out.cell 0
 have HBE:Hid (∀w',Calls Tryz.prog 37 #[.int .i64 0] w' fun e w2=>e=.returned (.int .i64 1)∧Same w' w2):=hid (fun w'=>(behind_any w' 0 (by omega)).mono (fun e w2 h9=>⟨h9.1,by rw[h9.2];exact Kept.refl _ _⟩))
 have HPU:Hid (∀w',Same w3 w'→Calls Tryz.prog 36 #[.pointer (some ⟨ps,0,none⟩),.agg #[.int .i64 1,.slice none 0 0]] w' fun e w2=>e=.returned (.int .i64 0)∧w2.cell? ⟨p,0,none⟩=some (.pointer (some ⟨ps,0,none⟩))∧NewA w (.returned (.tuple #[.pointer (some ⟨p,0,none⟩),.int .i64 0])) w2):=hid (fun w' hk=>by
  obtain⟨h1,h2,h3⟩:=H2.out
  obtain⟨m1,m2,m3,m4⟩:=HM.out
  have hk23:Same w2 w3:=m2.trans HK3.out
  have hzz:∀k,w2.heap.size≤k→ρ k=0:=fun k hk2=>by
   cases hz:ρ k with
   | zero=>rfl
   | succ z=>
    obtain⟨s,mb,hck,_⟩:=h1
    have:=(hck.new k (by omega)).2
    omega
  refine(xput_new (h1.same (hk23.trans hk)) (Nat.le_trans (Nat.le_trans h3.size hk23.size) hk.size) 1 (by decide) (by decide) [] (.slice none 0 0) _ (SrcC.ofRow (B:=0) (t:=65) wrE_ok RowC.nil) (fun j hj=>by cases hj) (by decide)).mono ?_
  rintro e w4 ⟨rfl,ρ',g1,g2,g3⟩
  have hpb:=HB3.out.kept hk (fun f=>f)
  have hpz:¬ρ p≠0:=fun e=>e (hzz p (by omega))
  refine⟨rfl,(hpb.kept g3 hpz).cell 0,?_⟩
  exact new_done (w:=w) (w2:=w2) (w3:=w') (N:=w1.heap.size) HK1.out.size h3.size g1 g2 hzz ((m1.kept HK3.out (fun f=>f)).kept hk (fun f=>f)) (by omega) hpb (by omega) hpb.lt g3 (Nat.le_trans HK1.out.size h3.size) (((HK1.out.trans h3).trans hk23).trans hk) (fun k hk2=>h2 k (Nat.lt_of_lt_of_le hk2 HK1.out.size)))
 have HWO:Hid (∀w',Calls Tryz.prog 38 #[.slice none 0 0] w' fun e w2=>e=.returned (.slice none 0 0)∧Same w' w2):=hid wof_none
 have HKK:Hid (Same w3 w3):=hid (Kept.refl _ _)
 clear hwA hmo hmm H2 HM
 go_region_held3 (fun w'=>w'.cell? ⟨p,0,none⟩=some (.pointer (some ⟨ps,0,none⟩)))
  (first
   | exact hcl
   | exact hkc.cell (by assumption) (fun f=>f)
   | go_keep)
  (first
   | (go_at_call 37;refine(HBE.out _).mono ?_;rintro e wk ⟨rfl,hkc⟩;have HKK:Hid (Same w3 wk):=hid (by first | exact HKK.out.trans hkc | exact HKK.out.trans (Kept.undrewC hkc)))
   | (go_at_call 38;refine(HWO.out _).mono ?_;rintro e wk ⟨rfl,hkc⟩;have HKK:Hid (Same w3 wk):=hid (by first | exact HKK.out.trans hkc | exact HKK.out.trans (Kept.undrewC hkc)))
   | (go_at_call 36;refine(HPU.out _ (by first | exact HKK.out | exact HKK.out.drew)).mono ?_;rintro e wk ⟨rfl,hcl,hP⟩;have HP:=hid hP;clear hP))
 all_goals
  go_wp2_with fail
  go_ret2
  exact HP.out

end Go.Proofs.YtcfociogljhbiaaGreatDoor

namespace Go.Proofs.YtcfociogljhbiaaGreatDoor
open Go.RowKit Go.Maps Go.Sort Go.Shelf

structure Iv(B:Int)(M:Mst)(c:Tc):Prop where
 now:1≤M.now∧M.now≤B
 sn:∀x∈c.L,0≤(c.mv x.2).t∧(c.mv x.2).t≤M.now-1∧M.now-1-(c.mv x.2).t≤c.cl.length
 num:∀y∈c.cl,0≤y.t∧y.t≤B

theorem Iv.new{c:Tc}(h1:c.L=[])(h2:c.cl=[]):Iv 1 M14 c:=⟨⟨by decide,by decide⟩,(fun x hx=>by rw[h1]at hx;cases hx),(fun y hy=>by rw[h2]at hy;cases hy)⟩

theorem Iv.set{B:Int}{M:Mst}{c:Tc}(h:Iv B M c){q:Nat}{m:Mv}(hm:m.t=(c.mv q).t):Iv B M (c.set q m):=by
 refine⟨h.now,fun x hx=>?_,h.num⟩
 have h9:=h.sn x hx
 have e:((c.set q m).mv x.2).t=(c.mv x.2).t:=by
  show(if x.2=q then m else c.mv x.2).t=_
  by_cases e:x.2=q
  ·rw[if_pos e,hm,e]
  ·rw[if_neg e]
 rw[e]
 exact h9

theorem Iv.add{B:Int}{M:Mst}{c:Tc}(h:Iv B M c){nb:Nb}{q:Nat}{tn:Nm}{st:Nat}{J:Nat→Prop}(hq:∀x∈c.L,x.2≠q):Iv B M (c.add nb q tn st J (mv0 (M.now-1))):=by
 refine⟨h.now,fun x hx=>?_,h.num⟩
 rcases putK_mem.1 hx with rfl | ⟨e,_⟩
 ·show 0≤(updN c.mv q (mv0 (M.now-1)) q).t∧_∧_
  have e1:((c.add nb q tn st J (mv0 (M.now-1))).mv (nb,q).2).t=M.now-1:=by
   show(updN c.mv q (mv0 (M.now-1)) q).t=_
   rw[updN_at];rfl
  rw[e1,updN_at]
  have:=h.now
  refine⟨by show 0≤M.now-1;omega,by omega,by omega⟩
 ·have e1:(c.add nb q tn st J (mv0 (M.now-1))).mv x.2=c.mv x.2:=by
   show updN c.mv q (mv0 (M.now-1)) x.2=_
   rw[updN_off _ _ (hq x e)]
  rw[e1]
  exact h.sn x e

theorem prM_now(M:Mst)(t:Int):(prM M t).now=M.now:=by unfold prM;split<;>rfl

theorem Iv.ended{B:Int}{M:Mst}{c c':Tc}(h:Iv B M c){n:Nb}{m:Int}(hm:OldM (delK n c.L) (fun q=>(c.mv q).t) (M.now-1) m)(h1:c'.L=delK n c.L)(h2:c'.mv=c.mv)(h3:c'.cl=c.cl.drop (c.cl.length-(M.now-1-m).toNat)):Iv B (prM M (m+1)) c':=by
 obtain⟨m1,m2,m3⟩:=hm
 have hle:M.now-1-m≤c.cl.length:=by
  rcases m3 with e | ⟨x,hx,e⟩
  ·omega
  ·have:=h.sn x (delK_mem.1 hx).1
   simp only at e
   omega
 refine⟨by rw[prM_now];exact h.now,fun x hx=>?_,fun y hy=>?_⟩
 ·rw[h1]at hx
  have h9:=h.sn x (delK_mem.1 hx).1
  have h8:=m2 x hx
  simp only at h8
  rw[prM_now,h2,h3,List.length_drop]
  omega
 ·rw[h3]at hy
  exact h.num y (List.mem_of_mem_drop hy)

theorem EndA.iv{K N:Nat}{w w':World}{p:Nat}{M:Mst}{bg:Int}{c:Tc}{τ:Nat→Nat}{n:Nb}{e:Ending}{B:Int}(h:EndA K N w p M bg c τ n e w')(hi:Iv B M c):∃m c' τ',OldM (delK n c.L) (fun q=>(c.mv q).t) (M.now-1) m∧c'.L=delK n c.L∧c'.ow=c.ow∧c'.mv=c.mv∧c'.cl=c.cl.drop (c.cl.length-(M.now-1-m).toNat)∧Tk K N w' p (prM M (m+1)) bg c' τ'∧(∀k,k<w.heap.size→τ' k=τ k)∧Kept (fun k=>τ k≠0) w w'∧Iv B (prM M (m+1)) c':=by
 obtain⟨_,m,c',τ',h1,h2,h3,h4,h5,h6,h7,h8⟩:=h
 exact⟨m,c',τ',h1,h2,h3,h4,h5,h6,h7,h8,hi.ended h1 h2 h4 h5⟩

theorem Iv.com{B:Int}{M:Mst}{c c1:Tc}(h:Iv B M c){xs:List Wr}(h1:c1.L=c.L)(h2:c1.mv=c.mv)(h3:(xs=[]∧c1.cl=c.cl)∨(xs≠[]∧∃y:Cm,y.t=M.now∧y.ws=xs∧c1.cl=c.cl++[y])):Iv (B+1) (if xs=[]then M else putM M (M.now+1) xs) c1:=by
 rcases h3 with⟨e,e1⟩ | ⟨e,y,e1,e2,e3⟩
 ·rw[if_pos e]
  exact⟨⟨h.now.1,by have:=h.now;omega⟩,fun x hx=>by rw[h1]at hx;rw[h2,e1];exact h.sn x hx,fun y hy=>by rw[e1]at hy;have:=h.num y hy;omega⟩
 ·rw[if_neg e]
  refine⟨by show 1≤M.now+1∧M.now+1≤B+1;have:=h.now;omega,fun x hx=>?_,fun z hz=>?_⟩
  ·rw[h1]at hx
   have h9:=h.sn x hx
   rw[h2,e3,List.length_append]
   show 0≤(c.mv x.2).t∧(c.mv x.2).t≤M.now+1-1∧M.now+1-1-(c.mv x.2).t≤_
   simp only[List.length_cons,List.length_nil]
   omega
  ·rw[e3]at hz
   rcases List.mem_append.1 hz with q | q
   ·have:=h.num z q;omega
   ·rw[List.mem_singleton.1 q,e1]
    have:=h.now;omega

end Go.Proofs.YtcfociogljhbiaaGreatDoor

namespace Go.Proofs.YtcfociogljhbiaaGreatDoor
open Go.RowKit Go.Maps Go.Sort Go.Shelf

structure Ts where
 M:Mst
 bg:Int
 op:Nb→Option (Nm×Mv)
 ln:Nat
 cl:List (Int×List Wr)

def absT(M:Mst)(bg:Int)(c:Tc):Ts:=⟨M,bg,fun n=>(getK n c.L).map (fun q=>(c.ow q,c.mv q)),c.L.length,c.cl.map (fun y=>(y.t,y.ws))⟩

def Mg(K N:Nat)(B:Int)(w:World)(p:Nat)(S:Ts)(F:Nat→Prop):Prop:=∃c τ,Tk K N w p S.M S.bg c τ∧Iv B S.M c∧absT S.M S.bg c=S∧∀k,F k↔τ k≠0

def MgA(K N:Nat)(B:Int)(w:World)(p:Nat)(F:Nat→Prop)(S:Ts)(w':World):Prop:=∃F',Mg K N B w' p S F'∧(∀k,k<w.heap.size→(F' k↔F k))∧Kept F w w'

section
variable {K N:Nat} {B:Int} {w:World} {p:Nat} {S:Ts} {F:Nat→Prop}

theorem Mg.kept(h:Mg K N B w p S F){G:Nat→Prop}{w':World}(hk:Kept G w w')(hG:∀k,F k→¬G k):Mg K N B w' p S F:=by
 obtain⟨c,τ,h1,h2,h3,h4⟩:=h
 exact⟨c,τ,h1.kept hk (fun k g=>Decidable.byContradiction (fun e=>hG k ((h4 k).2 e) g)),h2,h3,h4⟩

theorem Mg.same(h:Mg K N B w p S F){w':World}(hk:Same w w'):Mg K N B w' p S F:=h.kept hk (fun _ _ f=>f)

theorem Mg.lt(h:Mg K N B w p S F){k:Nat}(hk:F k):N≤k∧k<w.heap.size:=by
 obtain⟨c,τ,h1,h2,h3,h4⟩:=h
 exact h1.new k ((h4 k).1 hk)

theorem Mg.still(h:Mg K N B w p S F){K':Nat}(hK:K≤K')(hb:K'≤100000){w':World}(hk:Same w w'):MgA K' N B w p F S w':=by
 obtain⟨c,τ,h1,h2,h3,h4⟩:=h
 exact⟨F,⟨c,τ,(h1.same hk).more hK hb,h2,h3,h4⟩,fun _ _=>Iff.rfl,hk.mono (fun _ _ f=>f.elim)⟩

def Ts.set(S:Ts)(n:Nb)(x:Nm×Mv):Ts:={S with op:=fun y=>if y=n then some x else S.op y}

end

theorem abs_set{K N:Nat}{w:World}{p:Nat}{M:Mst}{bg:Int}{c:Tc}{τ:Nat→Nat}(h:Tk K N w p M bg c τ){n:Nb}{q:Nat}(hg:getK n c.L=some q)(m:Mv):absT M bg (c.set q m)=(absT M bg c).set n (c.ow q,m):=by
 unfold absT Ts.set
 simp only[Ts.mk.injEq,true_and]
 refine⟨?_,rfl,rfl⟩
 funext y
 show(getK y c.L).map (fun r=>(c.ow r,if r=q then m else c.mv r))=_
 by_cases e:y=n
 ·subst e
  rw[if_pos rfl,hg]
  simp
 ·rw[if_neg e]
  cases hy:getK y c.L with
  | none=>rfl
  | some r=>
   have hne:r≠q:=fun e2=>e (h.inj _ (getK_mem hy) _ (getK_mem hg) e2)
   simp[hne]

theorem mg_set{K N:Nat}{B:Int}{w w':World}{p:Nat}{S:Ts}{F:Nat→Prop}{c:Tc}{τ:Nat→Nat}(h1:Tk K N w p S.M S.bg c τ)(h2:Iv B S.M c)(h3:absT S.M S.bg c=S)(h4:∀k,F k↔τ k≠0){n:Nb}{q:Nat}(hg:getK n c.L=some q){m:Mv}(hm:m.t=(c.mv q).t)(hT:TgA K N w p S.M S.bg τ (c.set q m) w'):MgA (K+1) N B w p F (S.set n (c.ow q,m)) w':=by
 refine⟨F,⟨c.set q m,τ,hT.1,h2.set hm,?_,h4⟩,fun _ _=>Iff.rfl,hT.2.mono (fun k _ e=>(h4 k).2 e)⟩
 have h9:=abs_set h1 hg m
 rw[h3]at h9
 exact h9

theorem mg_new{w w':World}{e:Ending}(h:NewA w e w'):∃N p F,e=.returned (.tuple #[.pointer (some ⟨p,0,none⟩),.int .i64 0])∧w.heap.size≤N∧Mg 0 N 1 w' p ⟨M14,0,fun _=>none,0,[]⟩ F∧(∀k,k<w.heap.size→¬F k)∧Same w w':=by
 obtain⟨N,p,c,τ,h1,h2,h3,h4,h5,h6,h7⟩:=h
 refine⟨N,p,fun k=>τ k≠0,h1,h2,⟨c,τ,h3,Iv.new h4 h5,?_,fun _=>Iff.rfl⟩,fun k hk e=>e (h6 k hk),h7⟩
 unfold absT
 rw[h4,h5]
 rfl

end Go.Proofs.YtcfociogljhbiaaGreatDoor

namespace Go.Proofs.YtcfociogljhbiaaGreatDoor
open Go.RowKit Go.Maps Go.Sort Go.Shelf

def ceL(a:ByteArray):List (Nm×ByteArray)→Int
 | []=>0
 | x::r=>if (nam8 (sb x.1.s) && bl14 a x.1.s)=true then(if 8192<x.2.size then 2 else ceL x.1.s r)else 1

def chE14(es:List (Nm×ByteArray)):Int:=if es.length=0 then 1 else if 64<es.length then 2 else ceL ⟨#[]⟩ es

theorem tri14(a x:ByteArray):(Op.bytesLess x.toList a.toList=true∧bl14 a x=false)∨(Op.bytesLess x.toList a.toList=false∧(x.toList==a.toList)=true∧bl14 a x=false)∨(Op.bytesLess x.toList a.toList=false∧(x.toList==a.toList)=false∧bl14 a x=true):=by
 have no:∀u v:List UInt8,¬u<v→Op.bytesLess u v=false:=fun u v h=>by
  cases e:Op.bytesLess u v with
  | false=>rfl
  | true=>exact absurd ((bless14 u v).1 e) h
 rcases list_tri a.toList x.toList with h | h | h
 ·exact .inr (.inr ⟨no _ _ (fun e=>List.lt_irrefl _ (List.lt_trans h e)),beq_eq_false_iff_ne.2 (fun e=>by rw[e]at h;exact List.lt_irrefl _ h),(bless14 _ _).2 h⟩)
 ·exact .inr (.inl ⟨no _ _ (by rw[h];exact List.lt_irrefl _),by rw[h];exact beq_self_eq_true _,no _ _ (by rw[h];exact List.lt_irrefl _)⟩)
 ·exact .inl ⟨(bless14 _ _).2 h,no _ _ (fun e=>List.lt_irrefl _ (List.lt_trans h e))⟩

theorem SrcC.at2{w:World}{I:Nat→Prop}{ao:Option Addr}{n c:Nat}{xs:List (Nm×ByteArray)}(h:SrcC 2 enE2 w I (.slice ao n c) xs)(j:Nat)(hj:j<n):∃b o t,ao=some ⟨b,o,none⟩∧I b∧xs[j]? = some t∧w.cell? ⟨b,o+j*2,none⟩=some (.string t.1.s)∧w.cell? ⟨b,o+j*2+1,none⟩=some (.string t.2):=by
 obtain⟨a',c',e,hl,hc⟩:=h
 injection e with e1 e2 e3
 have hjx:j<xs.length:=by omega
 obtain⟨b,o,h1,h2,h3⟩:=hc (fun e=>by rw[e]at hjx;simp at hjx)
 exact⟨b,o,xs[j],e1.trans h1,h2,List.getElem?_eq_getElem hjx,h3 j hjx 0 (by omega),h3 j hjx 1 (by omega)⟩

theorem SrcC.len2{w:World}{I:Nat→Prop}{ao:Option Addr}{n c:Nat}{xs:List (Nm×ByteArray)}(h:SrcC 2 enE2 w I (.slice ao n c) xs):n=xs.length:=by
 obtain⟨a',c',e,hl,hc⟩:=h
 injection e

set_option maxRecDepth 100000 in
set_option maxHeartbeats 1000000 in
theorem chkEnt(w:World)(ao:Option Addr)(n c:Nat)(es:List (Nm×ByteArray))(I:Nat→Prop)(h:SrcC 2 enE2 w I (.slice ao n c) es)(hX:Mxl w):Calls Tryz.prog 76 #[.slice ao n c] w fun e w'=>e=.returned (.int .i64 (chE14 es))∧Same w w':=by
 have hn:=h.len2
 by_cases h0:n=0
 ·have e0:((n:Int)==0)=true:=by simpa using h0
  have HR:Hid (chE14 es=1):=hid (by unfold chE14;rw[if_pos (by omega)])
  clear h h0 hn
  go_enter Tryz.func76,Tryz.ntmps76
  go_wp2_with fail
  go_ret
  exact⟨by rw[HR.out];rfl,Kept.refl _ _⟩
 by_cases h1:64<n
 ·have e0:((n:Int)==0)=false:=by simpa using h0
  have e1:decide ((64:Int)<(n:Int))=true:=by simp;omega
  have HR:Hid (chE14 es=2):=hid (by unfold chE14;rw[if_neg (by omega),if_pos (by omega)])
  clear h h0 h1 hn
  go_enter Tryz.func76,Tryz.ntmps76
  go_wp2_with fail
  go_ret
  exact⟨by rw[HR.out];rfl,Kept.refl _ _⟩
 have e0:((n:Int)==0)=false:=by simpa using h0
 have e1:decide ((64:Int)<(n:Int))=false:=by simp;omega
 have HR:Hid (chE14 es=ceL ⟨#[]⟩ es):=hid (by unfold chE14;rw[if_neg (by omega),if_neg (by omega)])
 have HS:=hid h
 have HX:=hid hX
 have HN:Hid (n=es.length∧n≤64):=hid ⟨hn,by omega⟩
 clear h hX h0 h1 hn
 go_enter Tryz.func76,Tryz.ntmps76
 go_wp2_with fail
 clear e0 e1
 go_loopg [3,14] n (fun q z3 z14 wr=>∃(i:Nat) (a:ByteArray),z3=.string a∧z14=.int .i64 (i:Nat)∧i≤n∧n-i≤q∧Hid (ceL a (es.drop i)=ceL ⟨#[]⟩ es∧Same w wr))
 case atStart=>exact⟨0,_,rfl,rfl,by omega,by omega,hid ⟨rfl,Kept.refl _ _⟩⟩
 case round=>
  obtain⟨i,a,rfl,rfl,hi,hiq,HI⟩:=hrel
  by_cases hlt:i<n
  ·have f1:decide ((i:Int)<(n:Int))=true:=by simp;omega
   have f2:decide (i<n)=true:=by simp;omega
   obtain⟨b,o,t,rfl,_,ht,k0,k1⟩:=HS.out.at2 i hlt
   have k0:=HI.out.2.cell k0 (fun f=>f)
   have k1:=HI.out.2.cell k1 (fun f=>f)
   have c1:(0:Int)≤(i:Int):=by omega
   have c2:(i:Int)<(n:Int):=by omega
   have hiw:IntKind.i64.wrap ((i:Int)+1)=((i+1:Nat):Int):=by rw[IntKind.wrap_i64];have:=HN.out;omega
   have HD:Hid (es.drop i=t::es.drop (i+1)):=hid (by
    obtain⟨hi9,e9⟩:=List.getElem?_eq_some_iff.1 ht
    rw[←e9];exact List.drop_eq_getElem_cons hi9)
   have HC:=name_any (wr.alloc (.cells #[.string t.1.s,.string t.2] 108)) t.1.s (HX.out.kept (HI.out.2.trans ((Kept.refl _ _).alloc _)) (fun f=>f))
   have HB:Hid (Blk (wr.alloc (.cells #[.string t.1.s,.string t.2] 108)) wr.heap.size #[.string t.1.s,.string t.2] 108∧Same wr (wr.alloc (.cells #[.string t.1.s,.string t.2] 108))):=hid ⟨Blk.new wr _ _,(Kept.refl _ _).alloc _⟩
   have HLT:=hid hlt
   obtain⟨gE,hgE⟩:∃g,g=wr.heap.size:=⟨_,rfl⟩
   rw[←hgE]at HB
   have HGE:Hid (gE=wr.heap.size):=hid hgE
   clear ht hlt hgE
   go_wp2_with fail
   try rw[←HGE.out]
   refine HC.mono ?_
   rintro e w2 ⟨rfl,hk2⟩
   have HB2:=hid (HB.out.1.kept hk2 (fun f=>f))
   have g0:w2.cell? ⟨gE,0,none⟩=some (.string t.1.s):=HB2.out.cell 0
   have g1:w2.cell? ⟨gE,1,none⟩=some (.string t.2):=HB2.out.cell 1
   have HK2:Hid (Same w w2):=hid (HI.out.2.trans (HB.out.2.trans hk2))
   have HCE:Hid (ceL ⟨#[]⟩ es=if (nam8 (sb t.1.s) && bl14 a t.1.s)=true then(if 8192<t.2.size then 2 else ceL t.1.s (es.drop (i+1)))else 1):=hid (by rw[←HI.out.1,HD.out];rfl)
   clear hk2 HC k0 k1
   rcases hq:nam8 (sb t.1.s)with _ | _
   ·rw[hq]at HCE
    clear hq
    go_wp2_with fail
    go_ret
    exact⟨by rw[HR.out,HCE.out];rfl,HK2.out⟩
   ·rw[hq]at HCE
    clear hq
    rcases tri14 a t.1.s with⟨b1,b2⟩ | ⟨b1,b3,b2⟩ | ⟨b1,b3,b2⟩
    ·rw[b2]at HCE
     clear b2
     go_wp2_with fail
     go_ret
     exact⟨by rw[HR.out,HCE.out];rfl,HK2.out⟩
    ·rw[b2]at HCE
     clear b2
     go_wp2_with fail
     go_ret
     exact⟨by rw[HR.out,HCE.out];rfl,HK2.out⟩
    ·rw[b2]at HCE
     clear b2
     by_cases hsz:8192<t.2.size
     ·have d1:decide ((8192:Int)<(t.2.size:Int))=true:=by simp;omega
      have HC2:Hid (ceL ⟨#[]⟩ es=2):=hid (HCE.out.trans ((if_pos rfl).trans (if_pos hsz)))
      clear hsz
      go_wp2_with fail
      go_ret
      exact⟨by rw[HR.out,HC2.out];rfl,HK2.out⟩
     ·have d1:decide ((8192:Int)<(t.2.size:Int))=false:=by simp;omega
      have HC2:Hid (ceL ⟨#[]⟩ es=ceL t.1.s (es.drop (i+1))):=hid (HCE.out.trans ((if_pos rfl).trans (if_neg hsz)))
      clear hsz
      go_wp2_with fail
      go_roundg (gk-1)
      case measure=>have:=HLT.out;omega
      case rel=>exact⟨i+1,t.1.s,rfl,by go_num,HLT.out,by omega,hid ⟨HC2.out.symm,HK2.out⟩⟩
  ·have f1:decide ((i:Int)<(n:Int))=false:=by simp;omega
   have f2:decide (i<n)=false:=by simp;omega
   have HZ:Hid (ceL ⟨#[]⟩ es=0):=hid (by rw[←HI.out.1,List.drop_eq_nil_of_le (by have:=HN.out;omega)];rfl)
   clear hlt
   go_wp2_with fail
   go_ret
   exact⟨by rw[HR.out,HZ.out];rfl,HI.out.2⟩

end Go.Proofs.YtcfociogljhbiaaGreatDoor

namespace Go.Proofs.YtcfociogljhbiaaGreatDoor
open Go.RowKit Go.Maps Go.Sort Go.Shelf

set_option maxRecDepth 100000 in
set_option maxHeartbeats 1000000 in
theorem rname14(w:World)(s:ByteArray):Calls Tryz.prog 124 #[.string s] w fun e w'=>e=.returned (.bool (nam8 (sb s)))∧w'=w:=by
 by_cases h:s.size≤64
 ·exact rname_any w s (by omega)
 ·have hf:nam8 (sb s)=false:=by
   unfold nam8
   rw[sb_size,decide_eq_false h]
   rfl
  have d1:decide ((s.size:Int)<1)=false:=decide_eq_false (by omega)
  have d2:decide ((64:Int)<(s.size:Int))=true:=decide_eq_true (by omega)
  rw[hf]
  clear hf h
  go_enter Tryz.func124,Tryz.ntmps124
  go_wp2_with fail
  go_ret
  exact⟨rfl,rfl⟩

theorem bl14_nil(x:ByteArray)(h:nam8 (sb x)=true):bl14 ⟨#[]⟩ x=true:=by
 have h0:x.size≠0:=fun e=>by
  have hl:(sb x).length=0:=by rw[sb_size,e]
  rw[List.eq_nil_of_length_eq_zero hl]at h
  cases h
 rw[bl14_lt]
 cases hx:x.data.toList with
 | nil=>
  exfalso
  have:x.data.toList.length=x.size:=Array.length_toList
  rw[hx]at this
  exact h0 this.symm
 | cons a r=>exact List.nil_lt_cons a r

set_option maxRecDepth 100000 in
set_option maxHeartbeats 1000000 in
theorem rentries14(w:World)(ao:Option Addr)(n c:Nat)(es:List (Nm×ByteArray))(I:Nat→Prop)(h:SrcC 2 enE2 w I (.slice ao n c) es):Calls Tryz.prog 123 #[.slice ao n c] w fun e w'=>e=.returned (.int .i64 (chE14 es))∧Same w w':=by
 have hn:=h.len2
 by_cases h0:n=0
 ·have e0:((n:Int)==0)=true:=by simpa using h0
  have HR:Hid (chE14 es=1):=hid (by unfold chE14;rw[if_pos (by omega)])
  clear h h0 hn
  go_enter Tryz.func123,Tryz.ntmps123
  go_wp2_with fail
  go_ret
  exact⟨by rw[HR.out];rfl,Kept.refl _ _⟩
 by_cases h1:64<n
 ·have e0:((n:Int)==0)=false:=by simpa using h0
  have e1:decide ((64:Int)<(n:Int))=true:=by simp;omega
  have HR:Hid (chE14 es=2):=hid (by unfold chE14;rw[if_neg (by omega),if_pos (by omega)])
  clear h h0 h1 hn
  go_enter Tryz.func123,Tryz.ntmps123
  go_wp2_with fail
  go_ret
  exact⟨by rw[HR.out];rfl,Kept.refl _ _⟩
 have e0:((n:Int)==0)=false:=by simpa using h0
 have e1:decide ((64:Int)<(n:Int))=false:=by simp;omega
 have HR:Hid (chE14 es=ceL ⟨#[]⟩ es):=hid (by unfold chE14;rw[if_neg (by omega),if_neg (by omega)])
 have HS:=hid h
 have HN:Hid (n=es.length∧n≤64):=hid ⟨hn,by omega⟩
 clear h h0 h1 hn
 go_enter Tryz.func123,Tryz.ntmps123
 go_wp2_with fail
 clear e0 e1
 go_loopg [3] n (fun q z3 wr=>∃(i:Nat),z3=.int .i64 (i:Nat)∧i≤n∧n-i≤q∧Hid (∃a,((i=0∧a=⟨#[]⟩)∨∃k y,i=k+1∧es[k]? = some y∧a=y.1.s)∧ceL a (es.drop i)=ceL ⟨#[]⟩ es∧Same w wr))
 case atStart=>exact⟨0,rfl,by omega,by omega,hid ⟨_,.inl ⟨rfl,rfl⟩,rfl,Kept.refl _ _⟩⟩
 case round=>
  obtain⟨i,rfl,hi,hiq,HI0⟩:=hrel
  obtain⟨a,hpre,hce,hsw⟩:=HI0.out
  have HI:Hid (ceL a (es.drop i)=ceL ⟨#[]⟩ es∧Same w wr):=hid ⟨hce,hsw⟩
  have HPR:Hid ((i=0∧a=⟨#[]⟩)∨∃k y,i=k+1∧es[k]? = some y∧a=y.1.s):=hid hpre
  clear HI0 hpre hce hsw
  by_cases hlt:i<n
  ·have f1:decide ((i:Int)<(n:Int))=true:=by simp;omega
   have f2:decide (i<n)=true:=by simp;omega
   obtain⟨b,o,t,rfl,_,ht,k0,k1⟩:=HS.out.at2 i hlt
   have k0:=HI.out.2.cell k0 (fun f=>f)
   have k1:=HI.out.2.cell k1 (fun f=>f)
   have c1:(0:Int)≤(i:Int):=by omega
   have c2:(i:Int)<(n:Int):=by omega
   have hiw:IntKind.i64.wrap ((i:Int)+1)=((i+1:Nat):Int):=by rw[IntKind.wrap_i64];have:=HN.out;omega
   have HCE:Hid (ceL ⟨#[]⟩ es=if (nam8 (sb t.1.s) && bl14 a t.1.s)=true then(if 8192<t.2.size then 2 else ceL t.1.s (es.drop (i+1)))else 1):=hid (by
    obtain⟨hi9,e9⟩:=List.getElem?_eq_some_iff.1 ht
    rw[←HI.out.1,List.drop_eq_getElem_cons hi9,e9];rfl)
   have HLT:=hid hlt
   have HT9:=hid ht
   have HNM:Hid (∀W,Calls Tryz.prog 124 #[.string t.1.s] W fun e w'=>e=.returned (.bool (nam8 (sb t.1.s)))∧w'=W):=hid (fun W=>rname14 W t.1.s)
   clear ht hlt
   rcases hq:nam8 (sb t.1.s)with _ | _
   ·rw[hq]at HCE HNM
    clear hq
    go_wp2_with fail
    go_quiet ((go_at_call 124;exact Calls.quiet_of_same (HNM.out _)))
    go_wp2_with fail
    go_ret
    exact⟨by rw[HR.out,HCE.out];rfl,HI.out.2.trans (by first | exact(Kept.refl _ _).drewN _ | exact Kept.refl _ _)⟩
   ·have HNZ:Hid (nam8 (sb t.1.s)=true):=hid hq
    rw[hq]at HCE HNM
    clear hq
    obtain⟨hi0,ha⟩ | ⟨k,y,hik,hy,ha⟩:=HPR.out
    ·have HC2:Hid (ceL ⟨#[]⟩ es=if 8192<t.2.size then 2 else ceL t.1.s (es.drop (i+1))):=hid (HCE.out.trans (by rw[ha,bl14_nil _ HNZ.out];rfl))
     have d0:decide ((0:Int)<(i:Int))=false:=decide_eq_false (by omega)
     have d9:decide (0<i)=false:=decide_eq_false (by omega)
     have HLO:Hid (wr.cell? ⟨b,o+i*2+1,none⟩=some (.string t.2)):=hid k1
     clear ha hi0
     go_wp2_with fail
     go_quiet ((go_at_call 124;exact Calls.quiet_of_same (HNM.out _)))
     by_cases hsz:8192<t.2.size
     ·have d1:decide ((8192:Int)<(t.2.size:Int))=true:=by simp;omega
      have HC3:Hid (ceL ⟨#[]⟩ es=2):=hid (HC2.out.trans (if_pos hsz))
      clear hsz
      go_wp2_with fail
      go_ret
      exact⟨by rw[HR.out,HC3.out];rfl,HI.out.2.trans ((Kept.refl _ _).drewN _)⟩
     ·have d1:decide ((8192:Int)<(t.2.size:Int))=false:=by simp;omega
      have HC3:Hid (ceL ⟨#[]⟩ es=ceL t.1.s (es.drop (i+1))):=hid (HC2.out.trans (if_neg hsz))
      clear hsz
      go_wp2_with fail
      go_roundg (gk-1)
      case measure=>have:=HLT.out;omega
      case rel=>exact⟨i+1,by go_num,HLT.out,by omega,hid ⟨t.1.s,.inr ⟨i,t,rfl,HT9.out,rfl⟩,HC3.out.symm,HI.out.2.trans ((Kept.refl _ _).drewN _)⟩⟩
    ·have hkn:k<n:=by omega
     obtain⟨b',o',t',hbo,_,ht',q0,_⟩:=HS.out.at2 k hkn
     rw[hy]at ht'
     injection ht' with ht'
     injection hbo with hbo
     injection hbo with hb9 ho9
     subst hb9 ho9 ht' ha
     have q0:=HI.out.2.cell q0 (fun f=>f)
     have d0:decide ((0:Int)<(i:Int))=true:=decide_eq_true (by omega)
     have d9:decide (0<i)=true:=decide_eq_true (by omega)
     have iw0:(i:Int)-1=(k:Int):=by omega
     have iw:IntKind.i64.wrap (k:Int)=(k:Int):=by have:=HN.out;rw[IntKind.wrap_i64];omega
     have ib0:(0:Int)≤(k:Int):=by omega
     have ib:(k:Int)<(n:Int):=by omega
     clear hy hik hkn
     rcases hbl:Op.bytesLess y.1.s.toList t.1.s.toList with _ | _
     ·rw[show bl14 y.1.s t.1.s=false from hbl]at HCE
      go_wp2_with fail
      go_quiet ((go_at_call 124;exact Calls.quiet_of_same (HNM.out _)))
      go_wp2_with fail
      go_ret
      exact⟨by rw[HR.out,HCE.out];rfl,HI.out.2.trans ((Kept.refl _ _).drewN _)⟩
     ·rw[show bl14 y.1.s t.1.s=true from hbl]at HCE
      have HC2:Hid (ceL ⟨#[]⟩ es=if 8192<t.2.size then 2 else ceL t.1.s (es.drop (i+1))):=hid (HCE.out.trans (if_pos rfl))
      go_wp2_with fail
      go_quiet ((go_at_call 124;exact Calls.quiet_of_same (HNM.out _)))
      by_cases hsz:8192<t.2.size
      ·have d1:decide ((8192:Int)<(t.2.size:Int))=true:=by simp;omega
       have HC3:Hid (ceL ⟨#[]⟩ es=2):=hid (HC2.out.trans (if_pos hsz))
       clear hsz
       go_wp2_with fail
       go_ret
       exact⟨by rw[HR.out,HC3.out];rfl,HI.out.2.trans ((Kept.refl _ _).drewN _)⟩
      ·have d1:decide ((8192:Int)<(t.2.size:Int))=false:=by simp;omega
       have HC3:Hid (ceL ⟨#[]⟩ es=ceL t.1.s (es.drop (i+1))):=hid (HC2.out.trans (if_neg hsz))
       clear hsz
       go_wp2_with fail
       go_roundg (gk-1)
       case measure=>have:=HLT.out;omega
       case rel=>exact⟨i+1,by go_num,HLT.out,by omega,hid ⟨t.1.s,.inr ⟨i,t,rfl,HT9.out,rfl⟩,HC3.out.symm,HI.out.2.trans ((Kept.refl _ _).drewN _)⟩⟩
  ·have f1:decide ((i:Int)<(n:Int))=false:=by simp;omega
   have f2:decide (i<n)=false:=by simp;omega
   have HZ:Hid (ceL ⟨#[]⟩ es=0):=hid (by rw[←HI.out.1,List.drop_eq_nil_of_le (by have:=HN.out;omega)];rfl)
   clear hlt
   go_wp2_with fail
   go_ret
   exact⟨by rw[HR.out,HZ.out];rfl,HI.out.2⟩

end Go.Proofs.YtcfociogljhbiaaGreatDoor

namespace Go.Proofs.YtcfociogljhbiaaGreatDoor
open Go.RowKit Go.Maps Go.Sort Go.Shelf Go.Lib

set_option maxRecDepth 100000 in
set_option maxHeartbeats 1000000 in
theorem sorder_any(W:World)(x y:Bx)(vx vy:Value):Calls Tryz.prog 75 #[.agg #[.string x.tn,.string x.ar,vx],.agg #[.string y.tn,.string y.ar,vy]] W fun e w'=>e=.returned (.int .i64 (cmpB x y))∧Gr W w':=by
 obtain⟨wA,hwA⟩:∃V,V=(W.alloc (.cells #[.string x.tn,.string x.ar,vx] 83)).alloc (.cells #[.string y.tn,.string y.ar,vy] 83):=⟨_,rfl⟩
 have HG:Hid (Gr W wA):=hid (by rw[hwA];exact((Gr.refl W).alloc _).alloc _)
 obtain⟨xb,hxb⟩:∃z,z=W.heap.size:=⟨_,rfl⟩
 have B1:Blk wA xb #[.string x.tn,.string x.ar,vx] 83:=by rw[hwA,hxb];exact(Blk.new W _ _).kept (F:=fun _=>False) ((Kept.refl _ _).alloc _) (fun f=>f)
 have B2:Blk wA (xb+1) #[.string y.tn,.string y.ar,vy] 83:=by
  rw[hwA,hxb]
  have:=Blk.new (W.alloc (.cells #[.string x.tn,.string x.ar,vx] 83)) #[.string y.tn,.string y.ar,vy] 83
  rwa [World.size_alloc]at this
 have HOR:Hid (∀w:World,Calls Tryz.prog 118 #[.slice (some ⟨w.heap.size,0,none⟩) 2 2] (w.alloc (.cells #[.int .i64 (compareBytes x.tn.data.toList y.tn.data.toList),.int .i64 (compareBytes x.ar.data.toList y.ar.data.toList)] 3)).drew fun e w'=>e=.returned (.int .i64 (cmpB x y))∧Gr w w'):=hid (fun w=>(or_any _ _ _ _ ((Blk.new w _ _).cell 0) ((Blk.new w _ _).cell 1)).mono (fun e w' h=>⟨h.1,by rw[h.2];exact((Gr.refl w).alloc _).drew⟩))
 have a0:=B1.cell 0
 have a1:=B1.cell 1
 have b0:=B2.cell 0
 have b1:=B2.cell 1
 simp at a0 a1 b0 b1
 clear B1 B2
 go_enter Tryz.func75,Tryz.ntmps75
 go_upto_region 1 with fail
 rw[←hwA,←hxb]
 clear hwA hxb
 go_region_held3 (fun w'=>w'.cell? ⟨xb,0,none⟩=some (.string x.tn)∧w'.cell? ⟨xb,1,none⟩=some (.string x.ar)∧w'.cell? ⟨xb+1,0,none⟩=some (.string y.tn)∧w'.cell? ⟨xb+1,1,none⟩=some (.string y.ar))
  (first
   | (go_split_ands;exact⟨hg3.same.cell ((show Same _ _ from(Kept.refl _ _).drew).cell (by assumption) (fun f=>f)) (fun f=>f),hg3.same.cell (by assumption) (fun f=>f),hg3.same.cell (by assumption) (fun f=>f),hg3.same.cell (by assumption) (fun f=>f)⟩)
   | go_keep
   | (go_split_ands;exact⟨(show Same _ _ from(Kept.refl _ _).alloc _).cell (by assumption) (fun f=>f),(show Same _ _ from(Kept.refl _ _).alloc _).cell (by assumption) (fun f=>f),(show Same _ _ from(Kept.refl _ _).alloc _).cell (by assumption) (fun f=>f),(show Same _ _ from(Kept.refl _ _).alloc _).cell (by assumption) (fun f=>f)⟩))
  (first
   | (go_at_call 119;refine(compare_any _ _ _).mono ?_;rintro e w2 ⟨rfl,rfl⟩)
   | (go_at_call 118;refine(HOR.out _).mono ?_;rintro e w3 ⟨rfl,hg3⟩))
 go_wp2_with fail
 go_ret
 exact⟨rfl,HG.out.trans hg3⟩

end Go.Proofs.YtcfociogljhbiaaGreatDoor
