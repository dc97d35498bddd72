/-
  Of the proof: parts LnTh, LnRd.
-/
import Derived.Deep.RegionHeld3
import Derived.Lib.SliceRun
import Derived.Test.YtggcbnhckcenmaaGreatDoorJ24
import Derived.Test.YtggcbnhckcenmaaGreatDoorJ25

namespace Go.Proofs.YtggcbnhckcenmaaGreatDoor
open Go.RowKit

theorem bodyF_ok{ns ls:List Nat}{N:Nat}:∀(f:Nat) (l m:List Nat) (c c':Nat),bodyF ns ls N f l c=.ok (m,c')→(∀x∈l,x≤15)→l.length≤N→N-l.length≤f→m.length=N∧c≤c':=by
 intro f
 induction f with
 | zero=>
  intro l m c c' h h15 hl hf
  rw[bodyF_end (by omega)]at h
  simp only[Except.ok.injEq,Prod.mk.injEq]at h
  obtain⟨rfl,rfl⟩:=h
  omega
 | succ f ih=>
  intro l m c c' h h15 hl hf
  by_cases hlt:l.length<N
  ·cases hs:stepF ns ls c with
   | error e=>rw[bodyF_err hlt hs]at h;cases h
   | ok r=>
    obtain⟨⟨sy,x⟩,c2⟩:=r
    rw[bodyF_step hlt hs]at h
    cases hw:withM l ((sy:Int),(x:Int)) N with
    | none=>rw[hw]at h;cases h
    | some m2=>
     rw[hw]at h
     have hg:=withM_grows hw h15
     have h2:=ih m2 m c2 c' h hg.2.2 hg.2.1 (by omega)
     have h3:=stepF_ge hs
     exact⟨h2.1,by omega⟩
  ·rw[bodyF_end (by omega)]at h
   simp only[Except.ok.injEq,Prod.mk.injEq]at h
   obtain⟨rfl,rfl⟩:=h
   omega

theorem row_empty(w:World)(t:TypeId)(B:Nat)(hB:B≤w.heap.size):RowE B t natV (w.alloc (.cells #[] t)) (.slice (some ⟨w.heap.size,0,none⟩) 0 0) []:=
 ⟨rfl,.inr ⟨w.heap.size,0,#[],rfl,hB,Blk.new w #[] t,Nat.le_refl _,Nat.zero_le _,rfl,rfl⟩⟩

set_option maxRecDepth 100000 in
set_option maxHeartbeats 1000000 in
theorem lclone_any(w:World)(v:Value)(I:Nat→Prop)(ns:List Nat)(hs:SrcE natV w I v ns)(hn:ns.length≤1000000):
  Calls Tryz.prog 179 #[v] w fun e w'=>∃v',e=.returned v'∧New w w' v' ns:=by
 obtain⟨ao,cap,rfl,hcap,hc⟩:=id hs
 have q22:∀(w:World) (a:Option Addr) (n c n' c':Nat),(binOp .eql 45 (.slice a n c) (.slice none n' c')).run Tryz.prog w=.ok (.bool a.isNone) w:=fun w a n c n' c'=>Lib.run_eql_slice_nil w _ _ a n c n' c' Tryz.underlying45
 cases ao with
 | none=>
  have e0:ns=[]:=Classical.byContradiction (fun h=>by obtain⟨_,_,e,_⟩:=hc h;cases e)
  subst e0
  clear hs hc
  go_enter Tryz.func179,Tryz.ntmps179
  go_wp2_with fail
  go_ret
  exact⟨_,rfl,RowE.nil,Kept.refl _ _⟩
 | some ad=>
  have HS:Hid (SrcE natV w I (.slice (some ad) ns.length cap) ns):=hs
  have HR0:Hid (NRow w.heap.size (w.alloc (.cells #[] 3)) (.slice (some ⟨w.heap.size,0,none⟩) 0 0) []):=hid (row_empty w _ _ (Nat.le_refl _))
  have HK0:Hid (Same w (w.alloc (.cells #[] 3))):=hid ((Kept.refl _ w).alloc _)
  obtain⟨L,hL⟩:∃L,L=ns.length:=⟨_,rfl⟩
  have HL:Hid (L=ns.length):=hL
  rw[←hL]at HS hn ⊢
  clear hs hc hL hcap
  go_enter Tryz.func179,Tryz.ntmps179
  go_wp2_with (at_builtin;refine wpList_append_ints _ w.heap.size rfl (.tmp 5) (.tmp 6) rfl _ [] rfl HR0.out _ (some ad) L cap ns rfl (HS.out.same HK0.out) (fun e=>by cases e) (by have:=HL.out;simp;omega) (by simp) ?_;intro v3 w3 hr3 hg3;have HR3:Hid (NRow w.heap.size w3 v3 ns):=hid (by simpa using hr3);have HK3:Hid (Same w w3):=hid (HK0.out.grown hg3 (fun j e=>.inr (HR0.out.ge e)));clear hr3 hg3)
  go_ret
  exact⟨_,rfl,HR3.out,HK3.out⟩

def RHeadA(w w':World)(p:Nat)(s:Value)(bs:List Nat)(c:Nat)(e:Ending):Except Nat ((List Nat×List Nat)×Nat)→Prop
 | .error er=>e=.returned (.tuple #[.slice none 0 0,.slice none 0 0,.int .i64 (er:Nat)])∧er≠0∧∃c',c≤c'∧c'≤8*bs.length∧St w' p s bs c'
 | .ok (x,n)=>(∃va vb,e=.returned (.tuple #[va,vb,.int .i64 0])∧NRow w.heap.size w' va x.1∧NRow w.heap.size w' vb x.2)∧c+n≤8*bs.length∧St w' p s bs (c+n)

set_option maxRecDepth 100000 in
set_option maxHeartbeats 4000000 in
theorem lhead_any(w:World)(p c:Nat)(s:Value)(bs:List Nat)(hs:St w p s bs c)(hc:c≤8*bs.length)(hlen:bs.length≤100000000)(hT:Tab w)(hpg:p≠0):
  Calls Tryz.prog 164 #[.pointer (some ⟨p,0,none⟩)] w fun e w'=>RHeadA w w' p s bs c e (readF (ofBytes bs) c)∧Kept (·=p) w w':=by
 obtain⟨W,hW⟩:∃W,W=w.alloc (.cells #[.int .i64 5,.int .i64 5,.int .i64 4] 3):=⟨_,rfl⟩
 have hk0:Same w W:=by rw[hW];exact(Kept.refl _ w).alloc _
 have hpw:p<w.heap.size:=hs.lt
 have hsrc:SrcE natV W (fun k=>k=w.heap.size) (.slice (some ⟨w.heap.size,0,none⟩) 3 3) [5,5,4]:=by rw[hW];exact src_nats w [5,5,4] 3 rfl
 have HTK:=ltake_any W p c s bs _ _ [5,5,4] (hs.kept hk0 (fun _ _ f=>f)) hc hlen hsrc (fun k e=>by omega) (by decide) (by decide)
 have HK0:Hid (Same w W):=hk0
 have HT0:Hid (Tab W):=hid (hT.kept hk0 (fun f=>f))
 have HP:Hid (∀k,Fp p s k→k<w.heap.size):=hid (fun k h=>hs.fp_lt h)
 obtain⟨ls,hls⟩:∃ls,ls=ofBytes bs:=⟨_,rfl⟩
 have hll:ls.length=8*bs.length:=by rw[hls,ofBytes_length]
 have hbit:∀b∈ls,b<2:=by rw[hls];exact ofBytes_lt bs
 have hx1:=numAt_lt ls hbit c 5
 have hx2:=numAt_lt ls hbit (c+5) 5
 have hx3:=numAt_lt ls hbit (c+10) 4
 obtain⟨x1,hx1e⟩:∃x,x=numAt ls c 5:=⟨_,rfl⟩
 obtain⟨x2,hx2e⟩:∃x,x=numAt ls (c+5) 5:=⟨_,rfl⟩
 obtain⟨x3,hx3e⟩:∃x,x=numAt ls (c+10) 4:=⟨_,rfl⟩
 rw[←hx1e]at hx1
 rw[←hx2e]at hx2
 rw[←hx3e]at hx3
 have HNUM:Hid (numsAt (ofBytes bs) c [5,5,4]=[x1,x2,x3]):=hid (by rw[hx1e,hx2e,hx3e,hls];rfl)
 obtain⟨li,hli⟩:∃x,x=x1+257:=⟨_,rfl⟩
 obtain⟨di,hdi⟩:∃x,x=x2+1:=⟨_,rfl⟩
 obtain⟨come,hcome⟩:∃x,x=x3+4:=⟨_,rfl⟩
 have HRF:Hid (readF ls c=if 8*bs.length<c+14 then .error 10 else if 286<li∨30<di then .error 40 else if 8*bs.length<c+14+3*come then .error 10
   else if chkN (codesF ls (c+14) come)≠0 then .error (chkN (codesF ls (c+14) come))
   else match bodyF (codesF ls (c+14) come) ls (li+di) (li+di) [] (c+14+3*come) with
    | .error e=>.error e
    | .ok (l,c2)=>.ok ((l.take li,l.drop li),c2-c)):=hid (by rw[hli,hdi,hcome,hx1e,hx2e,hx3e,←hll];rfl)
 have hliI:(x1:Int)+257=(li:Int):=by omega
 have hdiI:(x2:Int)+1=(di:Int):=by omega
 have hcoI:(x3:Int)+4=(come:Int):=by omega
 have hliw:IntKind.i64.wrap (li:Int)=(li:Int):=by rw[IntKind.wrap_i64];omega
 have hdiw:IntKind.i64.wrap (di:Int)=(di:Int):=by rw[IntKind.wrap_i64];omega
 have hcow:IntKind.i64.wrap (come:Int)=(come:Int):=by rw[IntKind.wrap_i64];omega
 have hco19:come≤19:=by omega
 have hli1:li≤300:=by omega
 have hdi1:di≤40:=by omega
 have hdi0:1≤di:=by omega
 have HLS:Hid (ls=ofBytes bs):=hls
 rw[←hls]
 clear hs hT hk0 hsrc hls hll hbit hx1 hx2 hx3 hx1e hx2e hx3e hli hdi hcome
 go_enter Tryz.func164,Tryz.ntmps164
 go_wp2_with fail
 rw[←hW]
 clear hW
 refine HTK.mono ?_
 rintro e w2 ⟨hta,hk2⟩
 have HK2:Hid (Kept (·=p) w w2):=hid (Kept.trans (HK0.out.mono (fun _ _ f=>f.elim)) hk2 (fun _ _ h=>h) (fun _ _ h=>h))
 have HT2:Hid (Tab w2):=hid (HT0.out.kept hk2 (fun e=>hpg e.symm))
 have hszW:=HK0.out.size
 have hsz2:=HK2.out.size
 clear hk2 HTK HT0
 rcases hta with⟨hfit,⟨v2,rfl,hr2⟩,hs2⟩ | ⟨hbig,rfl,c',hc1,hc2,hs2⟩
 ·rw[HNUM.out]at hr2
  have hfit14:c+14≤8*bs.length:=by simpa using hfit
  have HS2:Hid (St w2 p s bs (c+14)):=hid (by simpa using hs2)
  obtain⟨a2,cap2,hv2,hg2,_⟩:=hr2.shape
  obtain⟨g2,rfl⟩:=hg2 (by simp)
  subst hv2
  have d1:w2.cell? ⟨g2,0,none⟩=some (.int .i64 (x1:Nat)):=hr2.cell 0 (by simp)
  have d2:w2.cell? ⟨g2,1,none⟩=some (.int .i64 (x2:Nat)):=hr2.cell 1 (by simp)
  have d3:w2.cell? ⟨g2,2,none⟩=some (.int .i64 (x3:Nat)):=hr2.cell 2 (by simp)
  have hg2w:g2≠p:=by have:=hr2.ge (k:=g2) rfl;omega
  clear hfit hs2 hr2 hg2
  by_cases hbad:286<li∨30<di
  ·have HE:Hid (readF ls c=.error 40):=hid (by rw[HRF.out,if_neg (by omega),if_pos hbad])
   by_cases hl2:286<li
   ·have hld:decide ((286:Int)<(li:Int))=true:=by simp;omega
    clear hbad hl2
    go_wp2_with fail
    go_quiet (fail)
    go_wp2_with fail
    refine bodyPost_ret (v:=.tuple #[.slice none 0 0,.slice none 0 0,.int .i64 40]) (by simp[results,Tryz.results164,go_sem]) rfl ?_
    refine⟨?_,HK2.out.drewN _⟩
    rw[HE.out]
    exact⟨rfl,by decide,c+14,by omega,hfit14,HS2.out.drewN _⟩
   ·have hld:decide ((286:Int)<(li:Int))=false:=by simp;omega
    have hdd:decide ((30:Int)<(di:Int))=true:=by simp;omega
    clear hbad hl2
    go_wp2_with fail
    go_quiet (fail)
    go_wp2_with fail
    refine bodyPost_ret (v:=.tuple #[.slice none 0 0,.slice none 0 0,.int .i64 40]) (by simp[results,Tryz.results164,go_sem]) rfl ?_
    refine⟨?_,HK2.out.drewN _⟩
    rw[HE.out]
    exact⟨rfl,by decide,c+14,by omega,hfit14,HS2.out.drewN _⟩
  ·have HRF2:Hid (readF ls c=if 8*bs.length<c+14+3*come then .error 10
     else if chkN (codesF ls (c+14) come)≠0 then .error (chkN (codesF ls (c+14) come))
     else match bodyF (codesF ls (c+14) come) ls (li+di) (li+di) [] (c+14+3*come) with
      | .error e=>.error e
      | .ok (l,c2)=>.ok ((l.take li,l.drop li),c2-c)):=hid (by rw[HRF.out,if_neg (by omega),if_neg hbad])
   have hld:decide ((286:Int)<(li:Int))=false:=by simp;omega
   have hdd:decide ((30:Int)<(di:Int))=false:=by simp;omega
   have HCO:=fun q=>lcodes_any (w2.drewN q) p (c+14) s bs come (HS2.out.drewN q) hfit14 hlen hco19 (HT2.out.kept ((Kept.refl (fun _=>False) w2).drewN q) (fun f=>f)) hpg
   clear hbad HRF
   go_wp2_with fail
   go_quiet (fail)
   go_wp2_with fail
   refine(HCO _).mono ?_
   rintro e w4 ⟨hca,hk4⟩
   have hk4':Kept (·=p) w2 w4:=⟨hk4.os,hk4.tape,hk4.output,hk4.size,hk4.block⟩
   have HK4:Hid (Kept (·=p) w w4):=hid (Kept.trans HK2.out hk4' (fun _ _ h=>h) (fun _ _ h=>h))
   have hsz4:=HK4.out.size
   clear HCO hk4 hk4' d1 d2 d3
   rcases hca with⟨hbig,rfl,c',hc1,hc2,hs4⟩ | ⟨hfit,hs4,⟨hch,rfl⟩ | ⟨hch,d,vc,vs,rfl,hdec,hdf⟩⟩
   ·have HE:Hid (readF ls c=.error 10):=hid (by rw[HRF2.out,if_pos (by omega)])
    have HS4:Hid (St w4 p s bs c'):=hs4
    have hcc:c≤c':=by omega
    clear hbig hs4
    go_wp2_with fail
    refine bodyPost_ret (v:=.tuple #[.slice none 0 0,.slice none 0 0,.int .i64 10]) (by simp[results,Tryz.results164,go_sem]) rfl ?_
    refine⟨?_,HK4.out⟩
    rw[HE.out]
    exact⟨rfl,by decide,c',hcc,hc2,HS4.out⟩
   ·obtain⟨er,her⟩:∃er,er=chkN (codesF (ofBytes bs) (c+14) come):=⟨_,rfl⟩
    rw[←her]at hch ⊢
    have HE:Hid (readF ls c=.error er):=hid (by rw[HRF2.out,if_neg (by omega),HLS.out,←her,if_pos hch])
    have HS4:Hid (St w4 p s bs (c+14+3*come)):=hs4
    have hed:((er:Int) != 0)=true:=by simp;omega
    have HER:Hid (er≠0):=hch
    clear hs4 hch her
    go_wp2_with fail
    refine bodyPost_ret (v:=.tuple #[.slice none 0 0,.slice none 0 0,.int .i64 (er:Nat)]) (by simp[results,Tryz.results164,go_sem]) rfl ?_
    refine⟨?_,HK4.out⟩
    rw[HE.out]
    exact⟨rfl,HER.out,c+14+3*come,by omega,hfit,HS4.out⟩
   ·obtain⟨N,hN⟩:∃N,N=li+di:=⟨_,rfl⟩
    have hNI:(li:Int)+(di:Int)=(N:Int):=by omega
    have hNw:IntKind.i64.wrap (N:Int)=(N:Int):=by rw[IntKind.wrap_i64];omega
    have hN4:N≤340:=by omega
    have HRF3:Hid (readF ls c=match bodyF (codesF (ofBytes bs) (c+14) come) (ofBytes bs) N N [] (c+14+3*come) with
      | .error e=>.error e
      | .ok (l,c2)=>.ok ((l.take li,l.drop li),c2-c)):=hid (by rw[HRF2.out,if_neg (by omega),HLS.out,if_neg (by rw[hch];simp),←hN])
    have hcl:=codesF_length (ofBytes bs) (c+14) come
    have hc7:=codesF_le (ofBytes bs) (ofBytes_lt bs) (c+14) come
    have HBD:=lsteps_any w4 d vc vs _ _ p (c+14+3*come) s bs N (chk_good _ hcl hc7 hch) hdec hs4 hfit hlen (fun k h hf=>by have h1:=hdf k h;have h2:=HP.out k hf;have h3:(w2.drewN nq).heap.size=w2.heap.size:=rfl;omega) (by omega)
    have HNLI:Hid (li<N):=hid (by omega)
    clear hcl hc7 hch hdec hdf hs4 HRF2 hN
    cases hbf:bodyF (codesF (ofBytes bs) (c+14) come) (ofBytes bs) N N [] (c+14+3*come) with
    | error er=>
     rw[hbf]at HBD
     have HE:Hid (readF ls c=.error er):=hid (by rw[HRF3.out,hbf])
     clear hbf HRF3
     go_wp2_with fail
     refine HBD.mono ?_
     rintro e w5 ⟨⟨rfl,her,c',hc1,hc2,hs5⟩,hk5⟩
     have HS5:Hid (St w5 p s bs c'):=hs5
     have HK5:Hid (Kept (·=p) w w5):=hid (Kept.trans HK4.out hk5 (fun _ _ h=>h) (fun _ _ h=>h))
     have hed:((er:Int) != 0)=true:=by simp;omega
     have HER:Hid (er≠0):=her
     have hcc:c≤c':=by omega
     clear hs5 hk5 her HBD
     go_wp2_with fail
     refine bodyPost_ret (v:=.tuple #[.slice none 0 0,.slice none 0 0,.int .i64 (er:Nat)]) (by simp[results,Tryz.results164,go_sem]) rfl ?_
     refine⟨?_,HK5.out⟩
     rw[HE.out]
     exact⟨rfl,HER.out,c',hcc,hc2,HS5.out⟩
    | ok r=>
     obtain⟨l,c2⟩:=r
     rw[hbf]at HBD
     have HE:Hid (readF ls c=.ok ((l.take li,l.drop li),c2-c)):=hid (by rw[HRF3.out,hbf])
     obtain⟨hlN,hcc2⟩:=bodyF_ok N [] l _ c2 hbf (by simp) (by simp) (by simp)
     have HLN:Hid (l.length=N):=hlN
     clear hbf HRF3
     go_wp2_with fail
     refine HBD.mono ?_
     rintro e w5 ⟨⟨⟨v5,rfl,hr5⟩,hc5,hs5⟩,hk5⟩
     have HS5:Hid (St w5 p s bs c2):=hs5
     have HK5:Hid (Kept (·=p) w w5):=hid (Kept.trans HK4.out hk5 (fun _ _ h=>h) (fun _ _ h=>h))
     have hsz5:=HK5.out.size
     have hlne:l≠[]:=fun e=>by rw[e]at hlN;simp at hlN;omega
     obtain⟨a5,cap5,hv5,hg5,_⟩:=hr5.shape
     obtain⟨g5,rfl⟩:=hg5 hlne
     subst hv5
     have hcap5:l.length≤cap5:=by obtain⟨_,_,e,_,_,h,_⟩:=hr5.shape;simp only[Value.slice.injEq]at e;obtain⟨_,_,rfl⟩:=e;exact h
     have hsr:SrcE natV w5 _ (.slice (some ⟨g5,0,none⟩) l.length cap5) l:=SrcE.ofRow hr5
     have hliN:li<N:=HNLI.out
     have hcne:¬cap5=li:=by omega
     have hA:=hsr.part li (by omega)
     have hB:=hsr.tail2 li (by omega)
     rw[hlN,Nat.zero_add,if_neg hcne]at hB
     rw[hlN]at hcap5 ⊢
     obtain⟨M,hM⟩:∃M,M=N-li:=⟨_,rfl⟩
     have hMI:(N:Int)-(li:Int)=(M:Int):=by omega
     have HCA:Hid (∀W,Same w5 W→Calls Tryz.prog 179 #[.slice (some ⟨g5,0,none⟩) li cap5] W fun e w'=>∃v',e=.returned v'∧New W w' v' (l.take li)):=hid (fun W hk=>lclone_any W _ _ _ (hA.same hk) (by simp;omega))
     have HCB:Hid (∀W,Same w5 W→Calls Tryz.prog 179 #[.slice (some ⟨g5,li,none⟩) (N-li) (cap5-li)] W fun e w'=>∃v',e=.returned v'∧New W w' v' (l.drop li)):=hid (fun W hk=>lclone_any W _ _ _ (hB.same hk) (by simp;omega))
     have i1:(0:Int)≤(li:Int):=by omega
     have i2:(li:Int)≤(N:Int):=by omega
     have i3:(li:Int)≤(cap5:Int):=by omega
     clear hs5 hk5 HBD hr5 hg5 hA hB hsr hlN hM
     go_wp2_with fail
     go_region_held3 (fun _=>True) (first | trivial | go_keep)
      (first
       | (go_at_call 179;refine(HCB.out _ (Same.trans ((Kept.refl _ w5).drew) hnA.same)).mono ?_;rintro e w7 ⟨vB,rfl,hnB⟩)
       | (go_at_call 179;refine(HCA.out _ ((Kept.refl _ w5).drew)).mono ?_;rintro e w6 ⟨vA,rfl,hnA⟩))
     all_goals
      go_wp2_with fail
      refine bodyPost_ret (v:=.tuple #[vA,vB,.int .i64 0]) (by simp[results,Tryz.results164,go_sem]) rfl ?_
      have h67:Same w5 w7:=Same.trans (Same.trans ((Kept.refl _ w5).drew) hnA.same) hnB.same
      refine⟨?_,Kept.trans HK5.out h67 (fun _ _ h=>h) (fun _ _ f=>f.elim)⟩
      rw[HE.out]
      have h6:=hnA.same.size
      have h5:w5.drew.heap.size=w5.heap.size:=rfl
      refine⟨⟨vA,vB,rfl,RowE.base (hnA.row.same hnB.same) (by omega),RowE.base hnB.row (by omega)⟩,by omega,?_⟩
      have e:c+(c2-c)=c2:=by omega
      rw[e]
      exact HS5.out.kept h67 (fun _ _ f=>f)
 ·have HE:Hid (readF ls c=.error 10):=hid (by rw[HRF.out,if_pos (by simpa using hbig)])
  have HS2:Hid (St w2 p s bs c'):=hs2
  clear hbig hs2
  go_wp2_with fail
  refine bodyPost_ret (v:=.tuple #[.slice none 0 0,.slice none 0 0,.int .i64 10]) (by simp[results,Tryz.results164,go_sem]) rfl ?_
  refine⟨?_,HK2.out⟩
  rw[HE.out]
  exact⟨rfl,by decide,c',hc1,hc2,HS2.out⟩

end Go.Proofs.YtggcbnhckcenmaaGreatDoor

namespace Go.Proofs.YtggcbnhckcenmaaGreatDoor
open Go.RowKit

def RReadA(w w':World)(p:Nat)(s:Value)(bs:List Nat)(c:Nat)(e:Ending):Except Nat ((List Nat×List Nat)×Nat)→Prop
 | .error er=>e=.returned (.tuple #[.slice none 0 0,.slice none 0 0,.int .i64 (er:Nat)])∧er≠0∧St w' p s bs c
 | .ok (x,n)=>(∃va vb,e=.returned (.tuple #[va,vb,.int .i64 0])∧NRow w.heap.size w' va x.1∧NRow w.heap.size w' vb x.2)∧c+n≤8*bs.length∧St w' p s bs (c+n)

set_option maxRecDepth 100000 in
set_option maxHeartbeats 2000000 in
theorem lread_any(w:World)(p c:Nat)(s:Value)(bs:List Nat)(hs:St w p s bs c)(hc:c≤8*bs.length)(hlen:bs.length≤100000000)(hT:Tab w)(hpg:p≠0):
  Calls Tryz.prog 144 #[.pointer (some ⟨p,0,none⟩)] w fun e w'=>RReadA w w' p s bs c e (readF (ofBytes bs) c)∧Kept (·=p) w w':=by
 have HG:=gone_any p c s bs w hs
 have HH:=lhead_any w p c s bs hs hc hlen hT hpg
 clear hs hT
 go_enter Tryz.func144,Tryz.ntmps144
 cases hrf:readF (ofBytes bs) c with
 | error er=>
  rw[hrf]at HH
  clear hrf
  go_wp2_with fail
  refine HG.mono ?_
  rintro e w1 ⟨rfl,hw1⟩
  subst hw1
  clear HG
  go_wp2_with fail
  refine HH.mono ?_
  rintro e w2 ⟨⟨rfl,her,c',hc1,hc2,hs2⟩,hk2⟩
  have hed:((er:Int) != 0)=true:=by simp;omega
  have HER:Hid (er≠0):=her
  have HK2:Hid (Kept (·=p) w1 w2):=hk2
  have HG2:=gone_any p c' s bs w2 hs2
  obtain⟨m,hm⟩:∃m,m=c'-c:=⟨_,rfl⟩
  have hmI:(c':Int)-(c:Int)=(m:Int):=by omega
  have hmw:IntKind.i64.wrap (m:Int)=(m:Int):=by rw[IntKind.wrap_i64];omega
  have HBK:=back_good p c' m s bs w2 hs2 (by omega) (by omega)
  have hcm:c'-m=c:=by omega
  rw[hcm]at HBK
  clear hs2 hk2 her HH hm hcm
  go_wp2_with fail
  refine HG2.mono ?_
  rintro e w3 ⟨rfl,hw3⟩
  subst hw3
  clear HG2
  go_wp2_with fail
  refine HBK.mono ?_
  rintro e w4 ⟨rfl,hs4,hk4⟩
  have HS4:Hid (St w4 p s bs c):=hs4
  have HK4:Hid (Kept (·=p) w1 w4):=hid (Kept.trans HK2.out hk4 (fun _ _ h=>h) (fun _ _ h=>h))
  clear hs4 hk4 HBK
  go_wp2_with fail
  refine bodyPost_ret (v:=.tuple #[.slice none 0 0,.slice none 0 0,.int .i64 (er:Nat)]) (by simp[results,Tryz.results144,go_sem]) rfl ?_
  exact⟨⟨rfl,HER.out,HS4.out⟩,HK4.out⟩
 | ok r=>
  obtain⟨x,n⟩:=r
  rw[hrf]at HH
  clear hrf
  go_wp2_with fail
  refine HG.mono ?_
  rintro e w1 ⟨rfl,hw1⟩
  subst hw1
  clear HG
  go_wp2_with fail
  refine HH.mono ?_
  rintro e w2 ⟨⟨⟨va,vb,rfl,hra,hrb⟩,hc2,hs2⟩,hk2⟩
  have HRA:Hid (NRow w1.heap.size w2 va x.1):=hra
  have HRB:Hid (NRow w1.heap.size w2 vb x.2):=hrb
  have HS2:Hid (St w2 p s bs (c+n)):=hs2
  have HK2:Hid (Kept (·=p) w1 w2):=hk2
  clear hra hrb hs2 hk2 HH
  go_wp2_with fail
  refine bodyPost_ret (v:=.tuple #[va,vb,.int .i64 0]) (by simp[results,Tryz.results144,go_sem]) rfl ?_
  exact⟨⟨⟨va,vb,rfl,HRA.out,HRB.out⟩,hc2,HS2.out⟩,HK2.out⟩

end Go.Proofs.YtggcbnhckcenmaaGreatDoor
