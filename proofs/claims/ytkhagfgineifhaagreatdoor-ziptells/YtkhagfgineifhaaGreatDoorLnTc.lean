import Derived.Test.YtkhagfgineifhaaGreatDoorLnTb
set_option maxHeartbeats 2000000
set_option maxRecDepth 100000
namespace Go.Proofs.YtkhagfgineifhaaGreatDoor
open Go.RowKit
def Tab(w:World):Prop:=∀i,i<19->w.cell? ⟨0,i,none⟩=some (.int .i64 ((ord.getD i 0:Nat):Int))
theorem Tab.kept{F:Nat->Prop}{w w':World}(h:Tab w)(hk:Kept F w w')(hF:¬F 0):Tab w':=λi hi=>hk.cell (h i hi) hF
theorem ur(ls:List Nat)(c n i:Nat)(hi:i<(bV ls c (List.replicate n 3)).length):(bV ls c (List.replicate n 3))[i]=aX ls (c+3*i) 3:=by
 induction n generalizing c i with
 | zero=>simp[bV]at hi
 | succ n ih=>
  cases i with
  | zero=>simp[List.replicate_succ,bV]
  | succ i=>
   simp only[List.replicate_succ,bV,List.getElem_cons_succ];rw[ih (c+3) i (by simpa[List.replicate_succ,bV]using hi)];congr 1;omega
theorem C3{B:Nat}{w:World}{v:Value}{xs:List Nat}(h:RowC B 3 1 fL w v xs):NRow B w v xs:=by unfold RowC at h;rw[sM]at h;exact h
theorem n8(n:Nat):(List.replicate n 3).sum=3*n:=by
 induction n with
 | zero=>rfl
 | succ n ih=>rw[List.replicate_succ,List.sum_cons,ih];omega
theorem qK(l:List Nat)(hl:l.length=19)(h7:∀x∈l,x<=7)(h:bw l=0):Good (l.map (fun(n:Nat)=>(n:Int))) l:=by
 have hg:=JY (zs:=l.map (fun(n:Nat)=>(n:Int))) (by rw[iY l hl h7];exact h);have e:(l.map (fun(n:Nat)=>(n:Int))).map Int.toNat=l:=by
  rw[List.map_map];conv=>rhs;rw[<-List.map_id l]
  exact List.map_congr_left (λx _=>by simp)
 rw[e]at hg;exact hg
def Ju(w w':World)(p:Nat)(s:Value)(bs:List Nat)(c come:Nat)(e:Ending):Prop:=
 (8*bs.length<c+3*come/\e=.returned (.tuple #[.pointer none,.int .i64 10])/\∃c',c<=c'/\c'<=8*bs.length/\St w' p s bs c') \/
 (c+3*come<=8*bs.length/\St w' p s bs (c+3*come) /\
  ((bw (aM (ae bs) c come)≠0/\e=.returned (.tuple #[.pointer none,.int .i64 (bw (aM (ae bs) c come):Nat)])) \/
   (bw (aM (ae bs) c come)=0/\∃d vc vs,e=.returned (.tuple #[.pointer (some ⟨d,0,none⟩),.int .i64 0])/\Dec w' d vc vs (aM (ae bs) c come)/\∀k,DF d vc vs k->w.heap.size<=k)))
theorem Ak(w:World)(p c:Nat)(s:Value)(bs:List Nat)(come:Nat)(hs:St w p s bs c)(hc:c≤8*bs.length)(ag:bs.length≤100000000)(ZH:come≤19)(hT:Tab w)(Ij:p≠0):
  Calls Tryz.prog 205 #[.pointer (some ⟨p,0,none⟩),.int .i64 (come:Nat)] w λe w'=>Ju w w' p s bs c come e/\Kept (·=p) w w':=by
 obtain⟨W,hW⟩:∃W,W=w.alloc (.cells #[.int .i64 3] 3):=⟨_,rfl⟩
 have hk0:Same w W:=by rw[hW];exact(Kept.refl _ w).alloc _
 have HK0:Hid (Same w W):=hk0;have HRP:=iv W ⟨w.heap.size,0,none⟩ 3 come (by rw[hW];exact bA w 3 (am 3)) (by omega);have HST:Hid (St W p s bs c):=hid (hs.kept hk0 (λ_ _ f=>f));have HT:Hid (Tab W):=hid (hT.kept hk0 (λf=>f));have HP:Hid (∀k,Fp p s k->k<w.heap.size):=hid (λk h=>hs.fp_lt h);have ml:p<w.heap.size:=hs.lt;have VK:=hk0.size;clear hs hT hk0;go_enter Tryz.func205,Tryz.ntmps205;go_wp2_with fail;rw[<-hW];clear hW;refine HRP.mono ?_;rintro e w1 ⟨g,rfl,hr1,hk1⟩;have hr1n:=C3 hr1;have hTK:=tE w1 p c s bs (.slice (some ⟨g,0,none⟩) come come) _ (List.replicate come 3) (HST.out.kept hk1 (λ_ _ f=>f)) hc ag (SrcE.ofRow hr1n) (λk e=>by have:=hr1n.ge e;omega) (λn hn=>by have:=List.eq_of_mem_replicate hn;omega) (by simp;omega);have HK1:Hid (Same w w1):=hid (Same.trans HK0.out hk1);have HT1:Hid (Tab w1):=hid (HT.out.kept hk1 (λf=>f));clear hr1 hk1 HRP hr1n HST HT;go_wp2_with fail;refine hTK.mono ?_;rintro e w2 ⟨NE,hk2⟩;have HK2:Hid (Kept (·=p) w w2):=hid (Kept.trans (HK1.out.mono (λ_ _ f=>f.elim)) hk2 (λ_ _ h=>h) (λ_ _ h=>h));have HT2:Hid (Tab w2):=hid (HT1.out.kept hk2 (λe=>Ij e.symm));have Ix:=HK1.out.size;have lr:=HK2.out.size;have UY:=hk2.size;clear hk2 hTK;rcases NE with⟨cL,⟨v2,rfl,hr2⟩,hs2⟩ | ⟨fz,rfl,c',fF,cS,hs2⟩
 ·have HF:Hid (c+3*come<=8*bs.length):=(by rw[n8]at cL;exact cL);have HS2:Hid (St w2 p s bs (c+3*come)):=(by rw[n8]at hs2;exact hs2);have HR2:Hid (NRow w1.heap.size w2 v2 (bV (ae bs) c (List.replicate come 3))):=hr2;have rO:=lF (ae bs) c (List.replicate come 3);rw[List.length_replicate]at rO;obtain⟨a2,eS,rL,_⟩:=hr2.shape;subst rL;rw[rO]at HR2 ⊢;clear cL hs2 hr2;have HNL:Hid ((bV (ae bs) c (List.replicate come 3)).length=come):=rO;clear rO;go_wp2_with (at_make;refine dm _ am 0 w2.heap.size 143 3 8 Tryz.underlying143 Tryz.infoN rfl (by decide) rfl _ _ rfl _ _ _ _ 19 rfl rfl rfl rfl (by decide) (Nat.le_refl _) ?_;intro w3 hr3 jW hs3;have HR3:Hid (NRow w2.heap.size w3 (.slice (some ⟨w2.heap.size,0,none⟩) 19 19) (aM (ae bs) c 0)):=hid hr3;have HK3:Hid (Same w2 w3):=hid ((Kept.refl _ w2).grown jW (λj e=>by cases e));clear hr3 jW);go_loopg [9,10,25] come (λq _ _ zi wr=>∃(i:Nat),come-i<=q/\i<=come/\zi=.int .i64 (i:Nat)/\Hid (NRow w2.heap.size wr (.slice (some ⟨w2.heap.size,0,none⟩) 19 19) (aM (ae bs) c i))/\Hid (Same w2 wr))
  case atStart=>exact⟨0,by omega,by omega,rfl,HR3,HK3⟩
  case round=>
   clear HR3 HK3 hs3;obtain⟨i,hq,hi,rfl,HV,HK⟩:=hrel;by_cases hlt:i<come
   ·obtain⟨b,o,cap',e,_,_,cx⟩:=(SrcE.ofRow (HR2.out.same HK.out)).get i (by rw[HNL.out];exact hlt);rw[HNL.out]at e;simp only[Value.slice.injEq]at e;obtain⟨rfl,jC,rfl⟩:=e;clear jC;rw[ur]at cx;obtain⟨x,hx⟩:∃x,x=aX (ae bs) (c+3*i) 3:=⟨_,rfl⟩
    rw[<-hx]at cx;unfold am at cx;have ct:=(HT2.out.kept HK.out (λf=>f)) i (by omega);have IG:=uJ i (by omega);obtain⟨oi,IX⟩:∃x,x=ord.getD i 0:=⟨_,rfl⟩
    rw[<-IX]at ct IG;have cl:wr.cell? ⟨w2.heap.size,oi,none⟩=some (am (aM (ae bs) c i)[oi]!):=by have h:=HV.out.cell oi (by rw[dt];omega);rw[h];congr 2;rw[getElem!_pos]
    have fl:wr.frozen? ⟨w2.heap.size,oi,none⟩=false:=HV.out.frozen oi;have HV2:Hid (NRow w2.heap.size (wr.setCell ⟨w2.heap.size,oi,none⟩ (.int .i64 (x:Nat))) (.slice (some ⟨w2.heap.size,0,none⟩) 19 19) (aM (ae bs) c (i+1))):=hid (by
     have h:=HV.out.lay oi x;rw[hx,IX]at h ⊢;exact h)
    have HKN:Hid (Same w2 (wr.setCell ⟨w2.heap.size,oi,none⟩ (.int .i64 (x:Nat)))):=hid (HK.out.setCell _ _ (.inr (Nat.le_refl _)));generalize (aM (ae bs) c i)[oi]! = old at cl;clear hx IX;go_wp2_with fail;go_roundg (gk-1)
    case measure=>omega
    case rel=>exact⟨i+1,by omega,by omega,by go_num,HV2,HKN⟩
   ·have RO:i=come:=(by omega);subst RO;clear hq hlt;have ey:=dt (ae bs) c i;have K5:=nR (ae bs) (ay bs) c i;have hsrc:SrcE bI wr _ (.slice (some ⟨w2.heap.size,0,none⟩) 19 19) ((aM (ae bs) c i).map (fun(n:Nat)=>(n:Int))):=(SrcE.ofRow HV.out).recode (by rw[List.map_map];rfl);have HSTF:Hid (St wr p s bs (c+3*i)):=hid (HS2.out.kept HK.out (λ_ _ f=>f));by_cases yS:bw (aM (ae bs) c i)=0
    ·have HN:=vE wr _ _ _ _ hsrc (qK _ ey K5 yS) (by rw[iY _ ey K5];exact yS);have HCH:Hid (bw (aM (ae bs) c i)=0):=yS;have Yf:=HK.out.size;clear yS hsrc ey K5;go_wp2_with fail;refine HN.mono ?_;rintro e w5 ⟨⟨d,vc,vs,rfl,fR,yA⟩,hk5⟩;have HDEC:Hid (Dec w5 d vc vs (aM (ae bs) c i)):=fR;have HDF:Hid (∀k,DF d vc vs k->w.heap.size<=k):=hid (λk h=>by have:=yA k h;omega);have HK5:Hid (Same wr w5):=hk5;clear fR yA hk5 HN;go_wp2_with fail;go_ret2;exact⟨.inr ⟨HF.out,HSTF.out.kept HK5.out (λ_ _ f=>f),.inr ⟨HCH.out,d,vc,vs,rfl,HDEC.out,HDF.out⟩⟩,Kept.trans (Kept.trans HK2.out HK.out (λ_ _ h=>h) (λ_ _ f=>f.elim)) HK5.out (λ_ _ h=>h) (λ_ _ f=>f.elim)⟩
    ·have HN:=BV wr _ _ _ hsrc (by simp[ey]) (by rw[iY _ ey K5];exact yS);rw[iY _ ey K5]at HN;have HCH:Hid (bw (aM (ae bs) c i)≠0):=yS;clear yS hsrc ey K5;go_wp2_with fail;refine HN.mono ?_;rintro e w5 ⟨rfl,hk5⟩;have HK5:Hid (Same wr w5):=hk5;clear hk5 HN;go_wp2_with fail;go_ret2;exact⟨.inr ⟨HF.out,HSTF.out.kept HK5.out (λ_ _ f=>f),.inl ⟨HCH.out,rfl⟩⟩,Kept.trans (Kept.trans HK2.out HK.out (λ_ _ h=>h) (λ_ _ f=>f.elim)) HK5.out (λ_ _ h=>h) (λ_ _ f=>f.elim)⟩
 ·have HB:Hid (8*bs.length<c+3*come):=(by rw[n8]at fz;exact fz);have HS2:Hid (St w2 p s bs c'):=hs2;clear fz hs2;go_wp2_with fail;go_ret2;exact⟨.inl ⟨HB.out,rfl,c',fF,cS,HS2.out⟩,HK2.out⟩
end Go.Proofs.YtkhagfgineifhaaGreatDoor
