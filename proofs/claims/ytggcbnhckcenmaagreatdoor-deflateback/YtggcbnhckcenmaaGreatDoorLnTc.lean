import Derived.Test.YtggcbnhckcenmaaGreatDoorLnTb
namespace Go.Proofs.YtggcbnhckcenmaaGreatDoor
open Go.RowKit

def Tab(w:World):Prop:=∀i,i<19→w.cell? ⟨0,i,none⟩=some (.int .i64 ((ord.getD i 0:Nat):Int))

theorem Tab.kept{F:Nat→Prop}{w w':World}(h:Tab w)(hk:Kept F w w')(hF:¬F 0):Tab w':=fun i hi=>hk.cell (h i hi) hF

theorem numsAt_three(ls:List Nat)(c n i:Nat)(hi:i<(numsAt ls c (List.replicate n 3)).length):(numsAt ls c (List.replicate n 3))[i]=numAt ls (c+3*i) 3:=by
 induction n generalizing c i with
 | zero=>simp[numsAt]at hi
 | succ n ih=>
  cases i with
  | zero=>simp[List.replicate_succ,numsAt]
  | succ i=>
   simp only[List.replicate_succ,numsAt,List.getElem_cons_succ]
   rw[ih (c+3) i (by simpa[List.replicate_succ,numsAt]using hi)]
   congr 1
   omega

theorem nrow_of_l{B:Nat}{w:World}{v:Value}{xs:List Nat}(h:RowC B 3 1 natL w v xs):NRow B w v xs:=by
 unfold RowC at h
 rw[natL_flat]at h
 exact h

theorem sum_three(n:Nat):(List.replicate n 3).sum=3*n:=by
 induction n with
 | zero=>rfl
 | succ n ih=>rw[List.replicate_succ,List.sum_cons,ih];omega

theorem chk_good(l:List Nat)(hl:l.length=19)(h7:∀x∈l,x≤7)(h:chkN l=0):Good (l.map (fun(n:Nat)=>(n:Int))) l:=by
 have hg:=good_of (zs:=l.map (fun(n:Nat)=>(n:Int))) (by rw[chk_codes l hl h7];exact h)
 have e:(l.map (fun(n:Nat)=>(n:Int))).map Int.toNat=l:=by
  rw[List.map_map]
  conv=>rhs;rw[←List.map_id l]
  exact List.map_congr_left (fun x _=>by simp)
 rw[e]at hg
 exact hg

def RCodesA(w w':World)(p:Nat)(s:Value)(bs:List Nat)(c come:Nat)(e:Ending):Prop:=
 (8*bs.length<c+3*come∧e=.returned (.tuple #[.pointer none,.int .i64 10])∧∃c',c≤c'∧c'≤8*bs.length∧St w' p s bs c') ∨
 (c+3*come≤8*bs.length∧St w' p s bs (c+3*come) ∧
  ((chkN (codesF (ofBytes bs) c come)≠0∧e=.returned (.tuple #[.pointer none,.int .i64 (chkN (codesF (ofBytes bs) c come):Nat)])) ∨
   (chkN (codesF (ofBytes bs) c come)=0∧∃d vc vs,e=.returned (.tuple #[.pointer (some ⟨d,0,none⟩),.int .i64 0])∧Dec w' d vc vs (codesF (ofBytes bs) c come)∧∀k,DF d vc vs k→w.heap.size≤k)))

set_option maxRecDepth 100000 in
set_option maxHeartbeats 2000000 in
theorem lcodes_any(w:World)(p c:Nat)(s:Value)(bs:List Nat)(come:Nat)(hs:St w p s bs c)(hc:c≤8*bs.length)(hlen:bs.length≤100000000)(h19:come≤19)(hT:Tab w)(hpg:p≠0):
  Calls Tryz.prog 177 #[.pointer (some ⟨p,0,none⟩),.int .i64 (come:Nat)] w fun e w'=>RCodesA w w' p s bs c come e∧Kept (·=p) w w':=by
 obtain⟨W,hW⟩:∃W,W=w.alloc (.cells #[.int .i64 3] 3):=⟨_,rfl⟩
 have hk0:Same w W:=by rw[hW];exact(Kept.refl _ w).alloc _
 have HK0:Hid (Same w W):=hk0
 have HRP:=repeatN_any W ⟨w.heap.size,0,none⟩ 3 come (by rw[hW];exact cellsAt_new w 3 (natV 3)) (by omega)
 have HST:Hid (St W p s bs c):=hid (hs.kept hk0 (fun _ _ f=>f))
 have HT:Hid (Tab W):=hid (hT.kept hk0 (fun f=>f))
 have HP:Hid (∀k,Fp p s k→k<w.heap.size):=hid (fun k h=>hs.fp_lt h)
 have hpw:p<w.heap.size:=hs.lt
 have hsW:=hk0.size
 clear hs hT hk0
 go_enter Tryz.func177,Tryz.ntmps177
 go_wp2_with fail
 rw[←hW]
 clear hW
 refine HRP.mono ?_
 rintro e w1 ⟨g,rfl,hr1,hk1⟩
 have hr1n:=nrow_of_l hr1
 have hTK:=ltake_any w1 p c s bs (.slice (some ⟨g,0,none⟩) come come) _ (List.replicate come 3) (HST.out.kept hk1 (fun _ _ f=>f)) hc hlen (SrcE.ofRow hr1n) (fun k e=>by have:=hr1n.ge e;omega) (fun n hn=>by have:=List.eq_of_mem_replicate hn;omega) (by simp;omega)
 have HK1:Hid (Same w w1):=hid (Same.trans HK0.out hk1)
 have HT1:Hid (Tab w1):=hid (HT.out.kept hk1 (fun f=>f))
 clear hr1 hk1 HRP hr1n HST HT
 go_wp2_with fail
 refine hTK.mono ?_
 rintro e w2 ⟨hta,hk2⟩
 have HK2:Hid (Kept (·=p) w w2):=hid (Kept.trans (HK1.out.mono (fun _ _ f=>f.elim)) hk2 (fun _ _ h=>h) (fun _ _ h=>h))
 have HT2:Hid (Tab w2):=hid (HT1.out.kept hk2 (fun e=>hpg e.symm))
 have hsz1:=HK1.out.size
 have hsz2:=HK2.out.size
 have hsz12:=hk2.size
 clear hk2 hTK
 rcases hta with⟨hfit,⟨v2,rfl,hr2⟩,hs2⟩ | ⟨hbig,rfl,c',hc1,hc2,hs2⟩
 ·have HF:Hid (c+3*come≤8*bs.length):=by rw[sum_three]at hfit;exact hfit
  have HS2:Hid (St w2 p s bs (c+3*come)):=by rw[sum_three]at hs2;exact hs2
  have HR2:Hid (NRow w1.heap.size w2 v2 (numsAt (ofBytes bs) c (List.replicate come 3))):=hr2
  have hnl:=numsAt_length (ofBytes bs) c (List.replicate come 3)
  rw[List.length_replicate]at hnl
  obtain⟨a2,cap2,hv2,_⟩:=hr2.shape
  subst hv2
  rw[hnl]at HR2 ⊢
  clear hfit hs2 hr2
  have HNL:Hid ((numsAt (ofBytes bs) c (List.replicate come 3)).length=come):=hnl
  clear hnl
  go_wp2_with (at_make;refine wpList_make_e _ natV 0 w2.heap.size 45 3 8 Tryz.underlying45 Tryz.infoN rfl (by decide) rfl _ _ rfl _ _ _ _ 19 rfl rfl rfl rfl (by decide) (Nat.le_refl _) ?_;intro w3 hr3 hg3 hs3;have HR3:Hid (NRow w2.heap.size w3 (.slice (some ⟨w2.heap.size,0,none⟩) 19 19) (codesF (ofBytes bs) c 0)):=hid hr3;have HK3:Hid (Same w2 w3):=hid ((Kept.refl _ w2).grown hg3 (fun j e=>by cases e));clear hr3 hg3)
  go_loopg [9,10,25] come (fun q _ _ zi wr=>∃(i:Nat),come-i≤q∧i≤come∧zi=.int .i64 (i:Nat)∧Hid (NRow w2.heap.size wr (.slice (some ⟨w2.heap.size,0,none⟩) 19 19) (codesF (ofBytes bs) c i))∧Hid (Same w2 wr))
  case atStart=>exact⟨0,by omega,by omega,rfl,HR3,HK3⟩
  case round=>
   clear HR3 HK3 hs3
   obtain⟨i,hq,hi,rfl,HV,HK⟩:=hrel
   by_cases hlt:i<come
   ·obtain⟨b,o,cap',e,_,_,cx⟩:=(SrcE.ofRow (HR2.out.same HK.out)).get i (by rw[HNL.out];exact hlt)
    rw[HNL.out]at e
    simp only[Value.slice.injEq]at e
    obtain⟨rfl,hxe,rfl⟩:=e
    clear hxe
    rw[numsAt_three]at cx
    obtain⟨x,hx⟩:∃x,x=numAt (ofBytes bs) (c+3*i) 3:=⟨_,rfl⟩
    rw[←hx]at cx
    unfold natV at cx
    have ct:=(HT2.out.kept HK.out (fun f=>f)) i (by omega)
    have ho18:=ord_le i (by omega)
    obtain⟨oi,hoi⟩:∃x,x=ord.getD i 0:=⟨_,rfl⟩
    rw[←hoi]at ct ho18
    have cl:wr.cell? ⟨w2.heap.size,oi,none⟩=some (natV (codesF (ofBytes bs) c i)[oi]!):=by
     have h:=HV.out.cell oi (by rw[codesF_length];omega)
     rw[h]
     congr 2
     rw[getElem!_pos]
    have fl:wr.frozen? ⟨w2.heap.size,oi,none⟩=false:=HV.out.frozen oi
    have HV2:Hid (NRow w2.heap.size (wr.setCell ⟨w2.heap.size,oi,none⟩ (.int .i64 (x:Nat))) (.slice (some ⟨w2.heap.size,0,none⟩) 19 19) (codesF (ofBytes bs) c (i+1))):=hid (by
     have h:=HV.out.lay oi x
     rw[hx,hoi]at h ⊢
     exact h)
    have HKN:Hid (Same w2 (wr.setCell ⟨w2.heap.size,oi,none⟩ (.int .i64 (x:Nat)))):=hid (HK.out.setCell _ _ (.inr (Nat.le_refl _)))
    generalize (codesF (ofBytes bs) c i)[oi]! = old at cl
    clear hx hoi
    go_wp2_with fail
    go_roundg (gk-1)
    case measure=>omega
    case rel=>exact⟨i+1,by omega,by omega,by go_num,HV2,HKN⟩
   ·have hic:i=come:=by omega
    subst hic
    clear hq hlt
    have hcl:=codesF_length (ofBytes bs) c i
    have hc7:=codesF_le (ofBytes bs) (ofBytes_lt bs) c i
    have hsrc:SrcE intV wr _ (.slice (some ⟨w2.heap.size,0,none⟩) 19 19) ((codesF (ofBytes bs) c i).map (fun(n:Nat)=>(n:Int))):=(SrcE.ofRow HV.out).recode (by rw[List.map_map];rfl)
    have HSTF:Hid (St wr p s bs (c+3*i)):=hid (HS2.out.kept HK.out (fun _ _ f=>f))
    by_cases hch:chkN (codesF (ofBytes bs) c i)=0
    ·have HN:=new_good wr _ _ _ _ hsrc (chk_good _ hcl hc7 hch) (by rw[chk_codes _ hcl hc7];exact hch)
     have HCH:Hid (chkN (codesF (ofBytes bs) c i)=0):=hch
     have hszr:=HK.out.size
     clear hch hsrc hcl hc7
     go_wp2_with fail
     refine HN.mono ?_
     rintro e w5 ⟨⟨d,vc,vs,rfl,hdec,hdf⟩,hk5⟩
     have HDEC:Hid (Dec w5 d vc vs (codesF (ofBytes bs) c i)):=hdec
     have HDF:Hid (∀k,DF d vc vs k→w.heap.size≤k):=hid (fun k h=>by have:=hdf k h;omega)
     have HK5:Hid (Same wr w5):=hk5
     clear hdec hdf hk5 HN
     go_wp2_with fail
     go_ret2
     exact⟨.inr ⟨HF.out,HSTF.out.kept HK5.out (fun _ _ f=>f),.inr ⟨HCH.out,d,vc,vs,rfl,HDEC.out,HDF.out⟩⟩,Kept.trans (Kept.trans HK2.out HK.out (fun _ _ h=>h) (fun _ _ f=>f.elim)) HK5.out (fun _ _ h=>h) (fun _ _ f=>f.elim)⟩
    ·have HN:=new_bad wr _ _ _ hsrc (by simp[hcl]) (by rw[chk_codes _ hcl hc7];exact hch)
     rw[chk_codes _ hcl hc7]at HN
     have HCH:Hid (chkN (codesF (ofBytes bs) c i)≠0):=hch
     clear hch hsrc hcl hc7
     go_wp2_with fail
     refine HN.mono ?_
     rintro e w5 ⟨rfl,hk5⟩
     have HK5:Hid (Same wr w5):=hk5
     clear hk5 HN
     go_wp2_with fail
     go_ret2
     exact⟨.inr ⟨HF.out,HSTF.out.kept HK5.out (fun _ _ f=>f),.inl ⟨HCH.out,rfl⟩⟩,Kept.trans (Kept.trans HK2.out HK.out (fun _ _ h=>h) (fun _ _ f=>f.elim)) HK5.out (fun _ _ h=>h) (fun _ _ f=>f.elim)⟩
 ·have HB:Hid (8*bs.length<c+3*come):=by rw[sum_three]at hbig;exact hbig
  have HS2:Hid (St w2 p s bs c'):=hs2
  clear hbig hs2
  go_wp2_with fail
  go_ret2
  exact⟨.inl ⟨HB.out,rfl,c',hc1,hc2,HS2.out⟩,HK2.out⟩

end Go.Proofs.YtggcbnhckcenmaaGreatDoor
