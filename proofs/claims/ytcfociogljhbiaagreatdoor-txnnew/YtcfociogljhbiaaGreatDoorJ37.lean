/-
  Of the proof: parts TyE, TyF.
-/
import Derived.Test.YtcfociogljhbiaaGreatDoorJ36
import Derived.Test.YtcfociogljhbiaaGreatDoorJ32
import Derived.Test.YtcfociogljhbiaaGreatDoorJ30

namespace Go.Proofs.YtcfociogljhbiaaGreatDoor
open Go.RowKit Go.Maps Go.Sort Go.Shelf

attribute [local go_sem] Oper.semAt_some

theorem rowE_rowC{α β:Type}{B B' t t' k:Nat}{e1:α→Value}{e2:β→List Value}{w:World}{v v':Value}{xs:List α}{ys:List β}(h:RowE B t e1 w v xs)(h':RowC B' t' k e2 w v' ys)(ht:t≠t'):∀j,v'.ownBlock=some j→¬v.ownBlock=some j:=by
 intro j hj hj2
 rcases h.2 with⟨rfl,_⟩ | ⟨g,cap,cur,rfl,_,hg,_⟩
 ·cases hj2
 ·rcases h'.2 with⟨rfl,_⟩ | ⟨g',cap',cur',rfl,_,hg',_⟩
  ·cases hj
  ·simp only[Value.ownBlock,Option.some.injEq]at hj hj2
   subst hj
   subst hj2
   rw[hg]at hg'
   simp only[Option.some.injEq,Obj.cells.injEq]at hg'
   exact ht hg'.2.1

def KnI(W wr:World)(v4 v2:Value)(L:List Nm)(xs:List Wr):Prop:=RowE W.heap.size 9 nmV wr v4 L∧RowC W.heap.size 65 5 wrE wr v2 xs∧Same W wr

set_option maxRecDepth 100000 in
set_option maxHeartbeats 4000000 in
theorem tnames_in(n:Nat)(l:Nat)(go:Nat→Bool)(fp:World→Nat→Prop)(J:Nat→World→Prop){K N:Nat}{q ps:Nat}{ow:Nm}{st:Nat}{Jt:Nat→Prop}{mv:Mv}{M:Mst}{ρ:Nat→Nat}(b1 b2:Nat)(b:Bx)(hbo:b.tn=ow.s)
  (B0:Nat) (hJs:∀k W W' G,J k W→Kept G W W'→(∀j,fp W j→¬G j)→(∀j,G j→B0≤j)→J k W') (hfs:∀k W W' G,J k W→Kept G W W'→(∀j,fp W j→¬G j)→∀j,fp W' j↔fp W j) (hlt:∀k W j,J k W→fp W j→j<W.heap.size)
  (hY:∀k W1,k<(seeN mv M b).length→(k=0∨go (k-1)=true)→J k W1→YieldAt Fence.wide (n-1) Tryz.prog l #[.string ((seeN mv M b).getD k ow).s] W1 fun e W'=>e=.returned (.bool (go k))∧J (k+1) W'∧Kf fp W1 W')
  (W:World) (h0:J 0 W) (hT:Tt K N W q ps ow st Jt mv M ρ) (ht:0≤mv.t∧mv.t≤9223372036854775806) (hx1:Blk W b1 #[.pointer (some ⟨q,0,none⟩)] 110) (hx2:Blk W b2 #[.string ow.s,.string b.ar] 128) (hoff:∀k,(ρ k≠0∨Jt k∨k=q∨k=b1∨k=b2)→¬fp W k∧k<W.heap.size):
  CallsIn Fence.wide n Tryz.prog 110 #[.func (.yield l) #[] #[],.pointer (some ⟨b1,0,none⟩),.pointer (some ⟨b2,0,none⟩)] W fun e W'=>(∃v,e=.returned v)∧∃Mx,Mx≤(seeN mv M b).length∧(Mx=(seeN mv M b).length∨(0<Mx∧go (Mx-1)=false))∧J Mx W':=by
 have HAT:Hid (∀W',Same W W'→Calls Tryz.prog 94 #[.pointer (some ⟨st,0,none⟩)] W' fun e w2=>e=.returned (.int .i64 mv.t)∧Same W' w2):=hid (fun W' hk=>(xvat (hT.same hk).set).mono (fun e w2 h9=>⟨h9.1,by rw[h9.2];exact Kept.refl _ _⟩))
 have HBE:Hid (∀W',Calls Tryz.prog 37 #[.int .i64 mv.t] W' fun e w2=>e=.returned (.int .i64 (mv.t+1))∧Same W' w2):=hid (fun W'=>(behind_any W' mv.t (by omega)).mono (fun e w2 h9=>⟨h9.1,by rw[h9.2];exact Kept.refl _ _⟩))
 have HLI:Hid (∀W',Same W W'→Calls Tryz.prog 111 #[.pointer (some ⟨ps,0,none⟩),.agg #[.string ow.s,.string b.ar],.int .i64 (mv.t+1)] W' fun e w2=>∃a1 n1 c1 L,e=.returned (.slice a1 n1 c1)∧(RowE W.heap.size 9 nmV w2 (.slice a1 n1 c1) L∧(∀n,n∈L↔isTh (M.V b n) (max (mv.t+1) M.floor)=true)∧L.length≤100000)∧Same W' w2):=hid (fun W' hk=>by
  have h9:=xlist (hT.same hk).sto b (mv.t+1)
  rw[hbo]at h9
  refine h9.mono ?_
  rintro e w2 ⟨v,L,rfl,g1,g2,g3,g4,g5⟩
  obtain⟨a1,c1,e1,_⟩:=g1.shape
  subst e1
  exact⟨a1,_,c1,L,rfl,⟨g1.base hk.size,g3,g4⟩,g5⟩)
 have HT:=hid hT
 have HX1:=hid hx1
 have HX2:=hid hx2
 have HOF:=hid hoff
 have HJ0:=hid h0
 have HJS:=hid hJs
 have HFS:=hid hfs
 have HLT:=hid hlt
 have HY:=hid hY
 have HTT:=hid ht
 have HBO:=hid hbo
 have c1:W.cell? ⟨b1,0,none⟩=some (.pointer (some ⟨q,0,none⟩)):=hx1.cell 0
 have c2:W.cell? ⟨b2,0,none⟩=some (.string ow.s):=hx2.cell 0
 have c3:W.cell? ⟨b2,1,none⟩=some (.string b.ar):=hx2.cell 1
 have c4:W.cell? ⟨q,1,none⟩=some (.pointer (some ⟨ps,0,none⟩)):=hT.blk.cell 1
 have c5:W.cell? ⟨q,2,none⟩=some (.pointer (some ⟨st,0,none⟩)):=hT.blk.cell 2
 obtain⟨ar,har⟩:∃a,a=b.ar:=⟨_,rfl⟩
 obtain⟨tn,htn⟩:∃a,a=ow.s:=⟨_,rfl⟩
 obtain⟨ts,hts⟩:∃a,a=mv.t:=⟨_,rfl⟩
 rw[←har]at c3 HLI
 rw[←htn]at c2 HLI
 rw[←hts]at HAT HBE HLI
 have HAR:Hid (ar=b.ar∧tn=ow.s∧ts=mv.t):=hid ⟨har,htn,hts⟩
 clear hT hx1 hx2 hoff h0 hJs hfs hlt hY ht hbo har htn hts
 refine callsIn_of_wp Tryz.func110 rfl trivial (wpIn_wide.2 ?_) rfl
 simp only[Tryz.ntmps110,List.size_toArray,List.length_cons,List.length_nil,Nat.reduceAdd,Nat.reduceSub,Array.replicate_succ,Array.replicate_zero,List.push_toArray,List.append_toArray,List.nil_append,List.cons_append]
 have HKK:Hid (Same W W):=hid (Kept.refl _ _)
 go_wp2_with fail
 go_region_held3 (fun w'=>w'.cell? ⟨b1,0,none⟩=some (.pointer (some ⟨q,0,none⟩))∧w'.cell? ⟨b2,0,none⟩=some (.string tn)∧w'.cell? ⟨b2,1,none⟩=some (.string ar)∧w'.cell? ⟨q,1,none⟩=some (.pointer (some ⟨ps,0,none⟩))∧w'.cell? ⟨q,2,none⟩=some (.pointer (some ⟨st,0,none⟩)))
  (first
   | (go_split_ands;exact⟨hkc.cell (by assumption) (fun f=>f),hkc.cell (by assumption) (fun f=>f),hkc.cell (by assumption) (fun f=>f),hkc.cell (by assumption) (fun f=>f),hkc.cell (by assumption) (fun f=>f)⟩)
   | go_keep)
  (first
   | (go_at_call 94;refine(HAT.out _ (by first | exact HKK.out | exact HKK.out.drew)).mono ?_;rintro e wk ⟨rfl,hkc⟩;have HKK:Hid (Same W wk):=hid (by first | exact HKK.out.trans hkc | exact HKK.out.trans (Kept.undrewC hkc)))
   | (go_at_call 37;refine(HBE.out _).mono ?_;rintro e wk ⟨rfl,hkc⟩;have HKK:Hid (Same W wk):=hid (by first | exact HKK.out.trans hkc | exact HKK.out.trans (Kept.undrewC hkc)))
   | (go_at_call 111;refine(HLI.out _ (by first | exact HKK.out | exact HKK.out.drew)).mono ?_;rintro e wk ⟨a1,n1,cp1,L1,rfl,hL1,hkc⟩;have HL1:=hid hL1;clear hL1;have HKK:Hid (Same W wk):=hid (by first | exact HKK.out.trans hkc | exact HKK.out.trans (Kept.undrewC hkc))))
 have HW:=xvwrites (HT.out.same HKK.out).set
 obtain⟨d1,d5⟩:wk.cell? ⟨b1,0,none⟩=some (.pointer (some ⟨q,0,none⟩))∧wk.cell? ⟨q,2,none⟩=some (.pointer (some ⟨st,0,none⟩)):=⟨HKK.out.cell c1 (fun f=>f),HKK.out.cell c5 (fun f=>f)⟩
 clear HAT HBE HLI
 go_wp2_with fail
 refine HW.mono ?_
 rintro e w2 ⟨v2,xs,rfl,hsw,hrow2,hk2,hxl⟩
 obtain⟨av2,cv2,rfl,_⟩:=hrow2.shape
 obtain⟨m,hm⟩:∃m,m=xs.length:=⟨_,rfl⟩
 rw[←hm]at hrow2 ⊢
 have HXS:Hid (StW mv xs∧xs.length≤100000∧m=xs.length):=hid ⟨hsw,hxl,hm⟩
 have hmB:m≤100000:=by rw[hm];exact hxl
 have HKN:Hid (KnI W w2 (.slice a1 n1 cp1) (.slice av2 m cv2) (knoN L1 ar (xs.take 0)) xs):=hid ⟨by rw[List.take_zero];unfold knoN;simpa using HL1.out.1.kept hk2 (fun _ _ f=>f),hrow2.base HKK.out.size,HKK.out.trans hk2⟩
 clear HW hsw hrow2 hk2 hxl hm d1 d5
 go_wp2_with fail
 go_loopg [4,6,29] m (fun k z4 _ z wr=>∃(i:Nat) (a4:Option Addr) (n4 c4:Nat),i≤m∧m-i≤k∧z=.int .i64 (i:Nat)∧z4=.slice a4 n4 c4∧Hid (KnI W wr (.slice a4 n4 c4) (.slice av2 m cv2) (knoN L1 ar (xs.take i)) xs))
 case atStart=>exact⟨0,_,_,_,by omega,by omega,rfl,rfl,HKN⟩
 case round=>
  clear HKN
  obtain⟨i,a4,n4,c4,hi,hik,rfl,rfl,HI⟩:=hrel
  have HKI:Hid (Same W wr):=hid HI.out.2.2
  have e3:=HKI.out.cell c3 (fun f=>f)
  by_cases hil:i<m
  ·have hix:i<xs.length:=by rw[←HXS.out.2.2];exact hil
   obtain⟨g,rfl,r0,r1,r2,r3,r4⟩:∃g,av2=some ⟨g,0,none⟩∧wr.cell? ⟨g,i*5,none⟩=some (.string xs[i].b.tn)∧wr.cell? ⟨g,i*5+1,none⟩=some (.string xs[i].b.ar)∧wr.cell? ⟨g,i*5+2,none⟩=some (.string xs[i].n.s)∧wr.cell? ⟨g,i*5+3,none⟩=some (.bool xs[i].there)∧wr.cell? ⟨g,i*5+4,none⟩=some (.string xs[i].data):=by
    have hr:=HI.out.2.1
    obtain⟨ao,cp,e,hag,_⟩:=hr.shape
    obtain⟨g,rfl⟩:=hag (by rintro rfl;simp at hix)
    injection e with e1 _ _
    subst e1
    exact⟨g,rfl,RowC.cell wrE_ok hr i 0 hix (by decide),RowC.cell wrE_ok hr i 1 hix (by decide),RowC.cell wrE_ok hr i 2 hix (by decide),RowC.cell wrE_ok hr i 3 hix (by decide),RowC.cell wrE_ok hr i 4 hix (by decide)⟩
   obtain⟨x,hx⟩:∃x,x=xs[i]:=⟨_,rfl⟩
   rw[←hx]at r0 r1 r2 r3 r4
   have HXI:Hid (xs.take (i+1)=xs.take i++[x]):=hid (by rw[List.take_succ_eq_append_getElem hix,hx])
   have HLN:Hid ((knoN L1 ar (xs.take i)).length≤200000):=hid (by
    have h9:=knoN_len L1 ar (xs.take i)
    have h8:=HL1.out.2.2
    have h7:=HXS.out.2.1
    have h6:(xs.take i).length≤xs.length:=by rw[List.length_take];omega
    omega)
   obtain⟨xtn,htn⟩:∃t,t=x.b.tn:=⟨_,rfl⟩
   obtain⟨xar,har⟩:∃t,t=x.b.ar:=⟨_,rfl⟩
   obtain⟨xen,hen⟩:∃t,t=x.n.s:=⟨_,rfl⟩
   obtain⟨xth,hxt⟩:∃t,t=x.there:=⟨_,rfl⟩
   obtain⟨xd,hxd⟩:∃t,t=x.data:=⟨_,rfl⟩
   rw[←htn]at r0
   rw[←har]at r1
   rw[←hen]at r2
   rw[←hxt]at r3
   rw[←hxd]at r4
   have HXA:Hid (xar=x.b.ar∧xen=x.n.s):=hid ⟨har,hen⟩
   clear hx htn har hen hxt hxd
   by_cases hqa:xar=ar
   ·have hq1:(xar.toList==ar.toList)=true:=by rw[hqa];simp
    have HQA:=hid hqa
    clear hqa
    go_upto_region 5 with(first
     | (with_reducible refine at_alloc 65 6 ?_;refine wpl_alloc 65 _ Tryz.zeroWr ?_;intro w3 g3 hB3 hk3 hg3 hl3;have HB3:=hid hB3;have HK3:=hid hk3;clear hB3 hk3)
     | (with_reducible refine at_store 65 6 ?_;refine wpl_store 65 5 Tryz.sizeWr rfl (cells:=[.string xtn,.string xar,.string xen,.bool xth,.string xd]) rfl HB3.out rfl rfl (by simp[Value.oneCell']) ?_;intro w4 hB4 hk4 hs4;have HK4:Hid (Same wr w4):=hid (HK3.out.then hk4 (fun x hx e=>by omega));have f1:=hB4.cell 1;have f2:=hB4.cell 2;simp only[List.getElem?_toArray,List.getElem?_cons_zero,List.getElem?_cons_succ]at f1 f2;have e3:=HK4.out.cell e3 (fun f=>f);clear hB4 hk4 hs4 HB3 HK3))
    have hxe:=HXA.out.2
    subst hxe
    have HI4:Hid (KnI W w4 (.slice a4 n4 c4) (.slice (some ⟨g,0,none⟩) m cv2) (knoN L1 ar (xs.take i)) xs):=hid ⟨HI.out.1.kept HK4.out (fun _ _ f=>f),HI.out.2.1.kept HK4.out (fun _ _ f=>f),HI.out.2.2.trans HK4.out⟩
    have HR4:Hid (RowE W.heap.size 9 nmV w4 (.slice a4 n4 c4) (knoN L1 ar (xs.take i))):=hid HI4.out.1
    have HSZ:Hid (W.heap.size≤w4.heap.size):=hid HI4.out.2.2.size
    go_wp2_with (at_builtin;refine wpList_append_e _ nmV nmV_one W.heap.size 47 9 (.string ⟨#[]⟩) 16 Tryz.underlying47 Tryz.infoStr rfl (by decide) rfl (.tmp 39) (.tmp 43) rfl (.slice a4 n4 c4) (knoN L1 ar (xs.take i)) rfl (HR4.out.kept (show Same _ _ from(Kept.refl _ _).alloc _) (fun _ _ f=>f)) ⟨w4.heap.size,0,none⟩ 1 1 [x.n] rfl rfl (cellsAt_new _ _ _) (by have:=HLN.out;simp;omega) (by have:=HSZ.out;simp;omega) ?_;intro v5 w5 hr5 hg5;have HR5:=hid hr5;have HG5:=hid hg5;obtain⟨a5,n5,q5,e5⟩:∃a n q,v5=Value.slice a n q:=(by obtain⟨a,q,e,_⟩:=hr5.shape;exact⟨a,_,q,e⟩);subst e5;clear hr5 hg5)
    have HK5:Hid (Kept (fun k=>(Value.slice a4 n4 c4).ownBlock=some k) w4 w5):=hid (Kept.trans (show Same w4 _ from(Kept.refl _ _).alloc _) ((Kept.refl _ _).grown HG5.out (fun k e=>.inl e)) (fun _ _ f=>f.elim) (fun _ _ e=>e))
    go_roundg (gk-1)
    case measure=>omega
    case rel=>exact⟨i+1,a5,n5,q5,by omega,by omega,by go_num,rfl,hid (by
     rw[HXI.out,knoN_more,if_pos (by rw[←HXA.out.1];exact HQA.out)]
     exact⟨HR5.out,HI4.out.2.1.kept HK5.out (rowE_rowC HR4.out HI4.out.2.1 (by decide)),HI4.out.2.2.then HK5.out (fun k hk e=>by have:=HR4.out.ge e;omega)⟩)⟩
   ·have hq1:(xar.toList==ar.toList)=false:=by
     cases hq:(xar.toList==ar.toList) with
     | false=>rfl
     | true=>
      refine absurd ?_ hqa
      have h9:=eq_of_beq hq
      rw[ByteArray.toList_eq,ByteArray.toList_eq]at h9
      exact ByteArray.ext (Array.toList_inj.1 h9)
    have HQA:=hid hqa
    clear hqa
    go_wp2_with (first
     | (with_reducible refine at_alloc 65 6 ?_;refine wpl_alloc 65 _ Tryz.zeroWr ?_;intro w3 g3 hB3 hk3 hg3 hl3;have HB3:=hid hB3;have HK3:=hid hk3;clear hB3 hk3)
     | (with_reducible refine at_store 65 6 ?_;refine wpl_store 65 5 Tryz.sizeWr rfl (cells:=[.string xtn,.string xar,.string xen,.bool xth,.string xd]) rfl HB3.out rfl rfl (by simp[Value.oneCell']) ?_;intro w4 hB4 hk4 hs4;have HK4:Hid (Same wr w4):=hid (HK3.out.then hk4 (fun x hx e=>by omega));have f1:=hB4.cell 1;have f2:=hB4.cell 2;simp only[List.getElem?_toArray,List.getElem?_cons_zero,List.getElem?_cons_succ]at f1 f2;have e3:=HK4.out.cell e3 (fun f=>f);clear hB4 hk4 hs4 HB3 HK3))
    go_roundg (gk-1)
    case measure=>omega
    case rel=>exact⟨i+1,a4,n4,c4,by omega,by omega,by go_num,rfl,hid (by
     rw[HXI.out,knoN_more,if_neg (by rw[←HXA.out.1];exact HQA.out)]
     exact⟨HI.out.1.kept HK4.out (fun _ _ f=>f),HI.out.2.1.kept HK4.out (fun _ _ f=>f),HI.out.2.2.trans HK4.out⟩)⟩
  ·have hin:i=m:=by omega
   obtain⟨KL,hKL⟩:∃x,x=knoN L1 ar xs:=⟨_,rfl⟩
   have HK9:Hid (KnI W wr (.slice a4 n4 c4) (.slice av2 m cv2) KL xs):=hid (by
    have h9:=HI.out
    rw[List.take_of_length_le (by have:=HXS.out.2.2;omega),←hKL]at h9
    exact h9)
   have HKL:Hid (KL=knoN L1 ar xs∧KL.length≤200000):=hid ⟨hKL,by
    have h9:=knoN_len L1 ar xs
    have h8:=HL1.out.2.2
    have h7:=HXS.out.2.1
    rw[hKL]
    omega⟩
   have HR9:Hid (RowE W.heap.size 9 nmV wr (.slice a4 n4 c4) KL):=hid HK9.out.1
   have HSO:=sortN_any wr W.heap.size _ KL HR9.out (by have:=HKL.out.2;omega)
   have q0:¬i<m:=hil
   clear hKL HI hil hin hik hi
   go_wp2_with fail
   refine HSO.mono ?_
   rintro e w5 ⟨rfl,hr5,hk5⟩
   have HR5:=hid hr5
   have HKW5:Hid (Same W w5):=hid (HKI.out.then hk5 (fun k hk e=>by have:=HR9.out.ge e;omega))
   clear HSO hr5 hk5 q0
   have HCO:=compN_any w5 W.heap.size _ _ HR5.out (sortN_le KL) (by rw[List.length_mergeSort];have:=HKL.out.2;omega)
   go_wp2_with fail
   refine HCO.mono ?_
   rintro e w6 ⟨v6,C,rfl,hr6,hC,hCm,hCl,ho6,hk6⟩
   obtain⟨a6,q6,e6,_⟩:=hr6.shape
   subst e6
   obtain⟨m6,hm6⟩:∃x,x=C.length:=⟨_,rfl⟩
   rw[←hm6]at hr6 ho6 ⊢
   have HKW6:Hid (Same W w6):=hid (HKW5.out.then hk6 (fun k hk e=>by have:=HR5.out.ge e;omega))
   obtain⟨P,hP⟩:∃P:Nm→Bool,P=fun n=>seeT mv M (b,n):=⟨_,rfl⟩
   have hSN:seeN mv M b=C.filter P:=by
    rw[hP]
    refine seeN_is (see_names (L1:=L1) (xs:=xs) HT.out.set (by have h9:=HL1.out.2.1;rw[HAR.out.2.2]at h9;exact h9) HXS.out.1 hC (fun n=>?_)) ?_
    ·rw[hCm,List.mem_mergeSort,HKL.out.1,HAR.out.1]
    ·refine Nat.le_trans (List.length_filter_le _ _) ?_
     rw[List.length_mergeSort]at hCl
     have:=HKL.out.2
     omega
   have HSN:=hid hSN
   have HP:Hid (P=fun n=>seeT mv M (b,n)):=hP
   have hf6:=HFS.out 0 W w6 _ HJ0.out HKW6.out (fun _ _ f=>f)
   have HJ6:Hid (J 0 w6):=hid (HJS.out 0 W w6 _ HJ0.out HKW6.out (fun _ _ f=>f) (fun _ f=>f.elim))
   have HN6:Hid (NmS fp K N w6 q ps ow st Jt mv M ρ b1 b2 b.ar W.heap.size (.slice a6 m6 q6) C):=hid ⟨HT.out.same HKW6.out,HX1.out.kept HKW6.out (fun f=>f),HX2.out.kept HKW6.out (fun f=>f),hr6,fun k e=>by
    have hold:(ρ k≠0∨Jt k∨k=q∨k=b1∨k=b2)→¬fp w6 k∧k<w6.heap.size:=fun e=>⟨fun f=>(HOF.out k e).1 ((hf6 k).1 f),Nat.lt_of_lt_of_le (HOF.out k e).2 HKW6.out.size⟩
    rcases e with e | e | e | e | e | e
    ·exact hold (.inl e)
    ·exact hold (.inr (.inl e))
    ·exact hold (.inr (.inr (.inl e)))
    ·exact hold (.inr (.inr (.inr (.inl e))))
    ·exact hold (.inr (.inr (.inr (.inr e))))
    ·refine⟨fun f=>?_,hr6.lt e⟩
     have h1:=HLT.out 0 W k HJ0.out ((hf6 k).1 f)
     have h2:=hr6.ge e
     omega⟩
   have HM6:Hid (m6=C.length):=hm6
   have hmb6:m6≤200000:=by rw[hm6];rw[List.length_mergeSort]at hCl;have:=HKL.out.2;omega
   clear hr6 hC hCm hCl ho6 hk6 hm6 hSN hP hf6 HCO
   go_wp2_with fail
   refine(wpIn_wide (n:=n)).1 ?_
   gi_loopw [8,9,10,51] (fun _ _ _ zi wx=>∃(i k:Nat),zi=.int .i64 (i:Nat)∧i≤m6∧Hid (k=((C.take i).filter P).length)∧(k=0∨go (k-1)=true)∧Hid (J k wx)∧Hid (NmS fp K N wx q ps ow st Jt mv M ρ b1 b2 b.ar W.heap.size (.slice a6 m6 q6) C))
    (fun _ _ _ zi _=>(m6-(intOf zi)).toNat)
   case atStart=>exact⟨0,0,rfl,by omega,hid (by simp),.inl rfl,HJ6,HN6⟩
   case round=>
    clear HJ6 HN6
    obtain⟨i,k,rfl,hi,HKI2,hgo,HJ,HN⟩:=hrel
    by_cases hil:i<m6
    ·have hiC:i<C.length:=by rw[←HM6.out];exact hil
     obtain⟨nm,hnm⟩:∃x,x=C[i]:=⟨_,rfl⟩
     obtain⟨g6,rfl,hcell⟩:∃g,a6=some ⟨g,0,none⟩∧wr.cell? ⟨g,i,none⟩=some (.string nm.s):=by
      have hr:=HN.out.row
      obtain⟨ao,cp,e,hag,_⟩:=hr.shape
      obtain⟨g,rfl⟩:=hag (by rintro rfl;simp at hiC)
      injection e with e1 _ _
      subst e1
      refine⟨g,rfl,?_⟩
      rw[hnm]
      exact hr.cell i hiC
     have s1:wr.cell? ⟨b1,0,none⟩=some (.pointer (some ⟨q,0,none⟩)):=HN.out.x1.cell 0
     have s2:wr.cell? ⟨b2,0,none⟩=some (.string b.tn):=by rw[HBO.out];exact HN.out.x2.cell 0
     have s3:wr.cell? ⟨b2,1,none⟩=some (.string b.ar):=HN.out.x2.cell 1
     have HSE:=(callsIn_wide (n:=n-1)).2 (tsees_any HN.out.tt (b,nm) HTT.out)
     rw[seeA_is]at HSE
     simp only at HSE
     obtain⟨sd,hsd⟩:∃d,d=seeD mv M (b,nm):=⟨_,rfl⟩
     obtain⟨th,hth⟩:∃d,d=seeT mv M (b,nm):=⟨_,rfl⟩
     rw[←hsd,←hth]at HSE
     have HTK:Hid ((C.take (i+1)).filter P=(C.take i).filter P++(if th=true then [nm]else [])∧(th=true→k<(seeN mv M b).length∧(seeN mv M b).getD k ow=nm)):=hid (by
      have e1:C.take (i+1)=C.take i++[nm]:=by rw[List.take_succ_eq_append_getElem hiC,hnm]
      have e2:P nm=th:=by rw[HP.out,hth]
      refine⟨by rw[e1,List.filter_append];cases th<;>simp[e2],fun e=>?_⟩
      have e3:C.filter P=(C.take i).filter P++nm::(C.drop (i+1)).filter P:=by
       have h9:C=C.take i++nm::C.drop (i+1):=by rw[hnm,←List.drop_eq_getElem_cons hiC,List.take_append_drop]
       have h8:C.filter P=(C.take i++nm::C.drop (i+1)).filter P:=by rw[←h9]
       rw[h8,List.filter_append,List.filter_cons_of_pos (by rw[e2];exact e)]
      rw[HSN.out,e3,HKI2.out]
      exact⟨by simp,by simp[List.getD]⟩)
     clear hnm hsd hth
     gi_wp2
     first
      | refine HSE.mono ?_
      | refine⟨trivial,(fun h=>by simp[Fence.wide]at h),HSE.mono ?_⟩
     rintro e w7 ⟨rfl,hk7⟩
     have hf7:=HFS.out k wr w7 _ HJ.out hk7 (fun _ _ f=>f)
     have HJ7:Hid (J k w7):=hid (HJS.out k wr w7 _ HJ.out hk7 (fun _ _ f=>f) (fun _ f=>f.elim))
     have HN7:=hid (HN.out.same hk7 hf7)
     clear hk7 hf7 HSE s1 s2 s3 hcell HJ HN
     cases th with
     | false=>
      gi_wp2
      refine⟨(fun _ h=>nomatch h),?_⟩
      gi_wp2
      go_roundw
      case rel=>exact⟨i+1,k,by go_num,by omega,hid (by rw[HTK.out.1];simpa using HKI2.out),hgo,HJ7,HN7⟩
      case measure=>simp[intOf];omega
     | true=>
      obtain⟨hkl,hkn⟩:=HTK.out.2 rfl
      have HYK:=HY.out k w7 hkl hgo HJ7.out
      rw[hkn]at HYK
      obtain⟨fn,tmps,assign,body,hy,hR⟩:=HYK
      have HRR:=hid hR
      clear hR hkn
      gi_wp2
      refine⟨(fun h=>by simp[Fence.wide]at h),HRR.out.mono ?_⟩
      rintro e W3 ⟨rfl,hJ3,hk3⟩
      have HN3:=hid (HN7.out.round hk3)
      have HJ3:=hid hJ3
      clear hJ3 hk3 hy
      cases hgk:go k with
      | false=>
       have HGK:=hid hgk
       clear hgk
       gi_wp2
       refine bodyPost_ret (results_none rfl _ _ _) rfl ?_
       exact⟨⟨_,rfl⟩,k+1,hkl,.inr ⟨by omega,by simpa using HGK.out⟩,HJ3.out⟩
      | true=>
       have HGK:=hid hgk
       clear hgk
       gi_wp2
       go_roundw
       case rel=>exact⟨i+1,k+1,by go_num,by omega,hid (by rw[HTK.out.1,HKI2.out];simp),.inr (by simpa using HGK.out),HJ3,HN3⟩
       case measure=>simp[intOf];omega
    ·have hin:i=m6:=by omega
     have HE:Hid (k=(seeN mv M b).length):=hid (by
      rw[HKI2.out,HSN.out,List.take_of_length_le (by have:=HM6.out;omega)])
     have q0:¬i<m6:=hil
     gi_wp2
     go_end0
     exact⟨⟨_,rfl⟩,k,by have:=HE.out;omega,.inl HE.out,HJ.out⟩

end Go.Proofs.YtcfociogljhbiaaGreatDoor

namespace Go.Proofs.YtcfociogljhbiaaGreatDoor
open Go.RowKit Go.Maps Go.Sort Go.Shelf

attribute [local go_sem] Oper.semAt_some

set_option maxHeartbeats 1000000 in
theorem tnamesf(w:World)(q:Nat)(tn ar:ByteArray):Calls Tryz.prog 70 #[.pointer (some ⟨q,0,none⟩),.agg #[.string tn,.string ar]] w fun e w'=>∃b1 b2,e=.returned (.func (.func 110) #[] #[.pointer (some ⟨b1,0,none⟩),.pointer (some ⟨b2,0,none⟩)])∧Blk w' b1 #[.pointer (some ⟨q,0,none⟩)] 110∧Blk w' b2 #[.string tn,.string ar] 128∧w.heap.size≤b1∧w.heap.size≤b2∧Same w w':=by
 go_enter Tryz.func70,Tryz.ntmps70
 go_wp2_with fail
 go_ret
 refine⟨w.heap.size,w.heap.size+1,by simp,(Blk.new w _ _).kept (F:=fun _=>False) ((Kept.refl _ _).alloc _) (fun f=>f),?_,Nat.le_refl _,by omega,((Kept.refl _ w).alloc _).alloc _⟩
 have h9:=Blk.new (w.alloc (.cells #[.pointer (some ⟨q,0,none⟩)] 110)) #[.string tn,.string ar] 128
 simpa using h9

def fpL(bo:Nat)(W:World)(j:Nat):Prop:=j=bo∨∃v,W.cell? ⟨bo,0,none⟩=some v∧v.ownBlock=some j

structure LI(w3:World)(bo:Nat)(ns:List Nm)(k:Nat)(W:World):Prop where
 ex:∃v,Blk W bo #[v] 47∧RowE (w3.heap.size+2) 9 nmV W v (ns.take k)
 kept:Kept (fun j=>j=bo∨w3.heap.size≤j) w3 W
 lt:bo<w3.heap.size

theorem LI.lt'{w3 W:World}{bo:Nat}{ns:List Nm}{k j:Nat}(h:LI w3 bo ns k W)(hf:fpL bo W j):j<W.heap.size:=by
 obtain⟨v,hb,hr⟩:=h.ex
 have hc:W.cell? ⟨bo,0,none⟩=some v:=hb.cell 0
 rcases hf with rfl | ⟨v',hv',ho⟩
 ·exact hb.lt
 ·rw[hc]at hv'
  injection hv' with hv'
  subst hv'
  exact hr.lt ho

theorem LI.ne{w3 W:World}{bo:Nat}{ns:List Nm}{k j:Nat}(h:LI w3 bo ns k W)(hf:fpL bo W j):j≠w3.heap.size∧j≠w3.heap.size+1:=by
 obtain⟨v,hb,hr⟩:=h.ex
 have hc:W.cell? ⟨bo,0,none⟩=some v:=hb.cell 0
 have:=h.lt
 rcases hf with rfl | ⟨v',hv',ho⟩
 ·omega
 ·rw[hc]at hv'
  injection hv' with hv'
  subst hv'
  have:=hr.ge ho
  omega

theorem LI.stays{w3 W W':World}{bo:Nat}{ns:List Nm}{k:Nat}{G:Nat→Prop}(h:LI w3 bo ns k W)(hk:Kept G W W')(hG:∀j,fpL bo W j→¬G j):∀j,fpL bo W' j↔fpL bo W j:=by
 obtain⟨v,hb,hr⟩:=h.ex
 have hc:W.cell? ⟨bo,0,none⟩=some v:=hb.cell 0
 have hc':=hk.cell hc (hG bo (.inl rfl))
 intro j
 unfold fpL
 rw[hc,hc']

theorem LI.more{w3 W W':World}{bo:Nat}{ns:List Nm}{k:Nat}{G:Nat→Prop}(h:LI w3 bo ns k W)(hk:Kept G W W')(hG:∀j,fpL bo W j→¬G j)(hGb:∀j,G j→w3.heap.size≤j):LI w3 bo ns k W':=by
 obtain⟨v,hb,hr⟩:=h.ex
 have hc:W.cell? ⟨bo,0,none⟩=some v:=hb.cell 0
 exact⟨⟨v,hb.kept hk (hG bo (.inl rfl)),hr.kept hk (fun j hj=>hG j (.inr ⟨v,hc,hj⟩))⟩,Kept.trans h.kept hk (fun _ _ f=>f) (fun j _ g=>.inr (hGb j g)),h.lt⟩

theorem see_ls(mv:Mv)(M:Mst)(b:Bx):seeN (lsM mv b) M b=seeN mv M b:=rfl

end Go.Proofs.YtcfociogljhbiaaGreatDoor
