import Derived.Test.YtggcbnhckcenmaaGreatDoorInCq
import Derived.Test.YtggcbnhckcenmaaGreatDoorLnRead
namespace Go.Proofs.YtggcbnhckcenmaaGreatDoor
open Go.RowKit

theorem tk_c(ls:List Nat)(s:S5)(n:Nat):s.c≤(tk ls s n).2.c:=by
 unfold tk
 split
 ·exact Nat.le_refl _
 ·split
  ·exact Nat.le_refl _
  ·simp only;omega
theorem sy_c(ns ls:List Nat)(s:S5)(wrong:Nat):s.c≤(sy ns ls s wrong).2.c:=by
 unfold sy
 split
 ·exact Nat.le_refl _
 ·simp only;omega
theorem ly_c(most:Nat)(s:S5)(b:Nat):(ly most s b).c=s.c:=ly_e most s b
theorem cp5_c(most far n:Nat)(s:S5):(cp5 most far n s).c=s.c:=by
 induction n generalizing s with
 | zero=>rfl
 | succ n ih=>
  simp only[cp5]
  split
  ·rfl
  ·rw[ih,ly_c]
theorem len5_c(ls:List Nat)(s:S5)(y:Nat):s.c≤(len5 ls s y).2.c:=by
 unfold len5
 split
 ·exact Nat.le_refl _
 ·exact tk_c ls s _
theorem dist5_c(ls:List Nat)(s:S5)(y:Nat):s.c≤(dist5 ls s y).2.c:=tk_c ls s _
theorem if_c{p:Prop}[Decidable p](s:S5)(x:Nat):(if p then {s with e:=x} else s:S5).c=s.c:=by split<;>rfl

theorem copies5_c(ls:List Nat)(most:Nat)(dist:List Nat)(s:S5)(y:Nat):s.c≤(copies5 ls most dist s y).c:=by
 by_cases h:285<y
 ·unfold copies5;rw[if_pos h];exact Nat.le_refl _
 ·obtain⟨n,s1,e1⟩:∃n s1,len5 ls s y=(n,s1):=⟨_,_,rfl⟩
  obtain⟨s2,e2⟩:∃s2:S5,s2=if s1.e=0∧usedB dist=false then {s1 with e:=53} else s1:=⟨_,rfl⟩
  obtain⟨d,s3,e3⟩:∃d s3,sy dist ls s2 53=(d,s3):=⟨_,_,rfl⟩
  obtain⟨s4,e4⟩:∃s4:S5,s4=if s3.e=0∧29<d then {s3 with e:=53} else s3:=⟨_,rfl⟩
  rw[copies5_far ls most dist s y (by omega) n s1 s2 s3 s4 d e1 e2 e3 e4]
  have h1:=len5_c ls s y
  have h2:s2.c=s1.c:=by rw[e2,if_c]
  have h3:=sy_c dist ls s2 53
  have h4:s4.c=s3.c:=by rw[e4,if_c]
  have h5:=dist5_c ls s4 d
  rw[e1]at h1
  rw[e3]at h3
  simp only at h1 h3
  split
  ·omega
  ·rw[cp5_c,if_c]
   omega

theorem syms5_stuck(ls:List Nat)(most:Nat)(lit dist:List Nat)(f:Nat)(s:S5)(h:s.e≠0):syms5 ls most lit dist f s=s:=by
 cases f with
 | zero=>rfl
 | succ f=>simp only[syms5];rw[if_pos h]

theorem syms5_go(ls:List Nat)(most:Nat)(lit dist:List Nat)(f:Nat)(s:S5)(h:s.e=0)(y:Nat)(s1:S5)(hs:sy lit ls s 53=(y,s1)):
  syms5 ls most lit dist (f+1) s=if s1.e≠0 then s1 else if y<256 then syms5 ls most lit dist f (ly most s1 y)else if y=256 then s1 else syms5 ls most lit dist f (copies5 ls most dist s1 y):=by
 simp only[syms5]
 rw[if_neg (by simp[h]),hs]

theorem sy_more{ns ls:List Nat}{s:S5}{wrong y:Nat}{s1:S5}(hs:sy ns ls s wrong=(y,s1))(he:s.e=0)(hw:wrong≠0)(h1:s1.e=0):s.c<s1.c∧s1.c≤max s.c ls.length∧y<ns.length:=by
 unfold sy at hs
 rw[if_neg (by simp[he])]at hs
 simp only[Prod.mk.injEq]at hs
 obtain⟨rfl,rfl⟩:=hs
 simp only at h1 ⊢
 have hn:=nextF_is ns (ls.drop s.c)
 rcases hn with⟨hg,hi,hf,hk,_⟩ | ⟨hg,_⟩ | ⟨hg,_⟩
 ·have h2:=hf.2.length_le
  rw[rowOf_length,List.length_drop]at h2
  have h3:=hf.1
  omega
 ·rw[hg]at h1;simp at h1
 ·rw[hg]at h1;simp at h1;exact absurd h1 hw

structure Lst(w:World)(G:Nat→Prop)(v:Value)(ns:List Nat):Prop where
 src:∃J:Nat→Prop,SrcE natV w J v ns∧∀k,J k→G k
 len:ns.length≤288
 le:∀n∈ns,n≤15
 me:measure ns≤32768

theorem Lst.key{w:World}{G:Nat→Prop}{v:Value}{ns:List Nat}(h:Lst w G v ns):∀s,key ns s≤15:=by
 intro s
 by_cases e:s<ns.length
 ·rw[key_get e];exact h.le _ (List.getElem_mem e)
 ·simp[Go.Proofs.YtggcbnhckcenmaaGreatDoor.key,e]

theorem RX.le{w:World}{I G:Nat→Prop}{h:Nat}{v:Value}{ls:List Nat}{most:Nat}{s:S5}(r:RX w I G h v ls most s)(he:s.e=0):s.c≤ls.length:=by
 obtain⟨c,vo,r⟩:=r
 have:=r.pl he
 have:=r.le
 omega

set_option maxRecDepth 100000 in
set_option maxHeartbeats 8000000 in
theorem symbols5(w00 w:World)(I G:Nat→Prop)(h:Nat)(v:Value)(ls:List Nat)(most:Nat)(s:S5)(vl vd:Value)(lit dist:List Nat)(hz:Sz ls most)(hr:RX w I G h v ls most s)(hS:Same w00 w)(hlow:∀k,k<w00.heap.size→G k)
  (hsafe:s.e=0→Lst w G vl lit∧Lst w G vd dist):
  Calls Tryz.prog 102 #[.pointer (some ⟨h,0,none⟩),vl,vd] w fun r w'=>(∃u,r=.returned u)∧RX w' I G h v ls most (syms5 ls most lit dist (ls.length+1) s)∧KG G w w':=by
 obtain⟨k4,f4⟩:=hr.err
 have HR:Hid (RX w I G h v ls most s):=hr
 have HZ:Hid (Sz ls most):=hz
 by_cases he:s.e=0
 ·obtain⟨HLl,HLd⟩:=hsafe he
  have HLL:Hid (Lst w G vl lit):=HLl
  have HLD:Hid (Lst w G vd dist):=HLd
  obtain⟨Jl,hJl1,hJl2⟩:=HLl.src
  obtain⟨Jd,hJd1,hJd2⟩:=HLd.src
  have R1:=rows_any w vl Jl lit hJl1 HLl.len HLl.le HLl.me
  have HE0:Hid (s.e=0):=he
  have HJD:Hid (SrcE natV w Jd vd dist∧∀k,Jd k→G k):=⟨hJd1,hJd2⟩
  have HSW:Hid (Same w00 w∧∀k,k<w00.heap.size→G k):=⟨hS,hlow⟩
  rw[he]at k4
  obtain⟨M,hM⟩:∃M,M=ls.length:=⟨_,rfl⟩
  have HM:Hid (M=ls.length):=hM
  rw[←hM]
  clear hr hz hsafe HLl HLd hJl1 hJl2 hJd1 hJd2 he hS hlow hM
  go_enter Tryz.func102,Tryz.ntmps102
  go_wp2_with fail
  refine R1.mono ?_
  rintro r1 w1 ⟨go1,rs1,rfl,hrw1⟩
  have HRW1:Hid (RW w w1 go1 lit.length lit (fun s=>key lit s≠0) rs1):=hrw1
  have R2:=rows_any w1 vd Jd dist (HJD.out.1.same hrw1.same) HLD.out.len HLD.out.le HLD.out.me
  clear hrw1 R1
  go_wp2_with fail
  refine R2.mono ?_
  rintro r2 w2 ⟨go2,rs2,rfl,hrw2⟩
  have HRW2:Hid (RW w1 w2 go2 dist.length dist (fun s=>key dist s≠0) rs2):=hrw2
  clear hrw2 R2
  have HS2:Hid (Same w w2):=hid (Same.trans HRW1.out.same HRW2.out.same)
  obtain⟨c,vo,hrs⟩:=HR.out
  have HRS:Hid (RS w I G h v ls most s c vo):=hrs
  clear hrs
  obtain⟨A,hA⟩:∃A,A=RS.all w2 h vo:=⟨_,rfl⟩
  have HA:Hid (∀k,k<w2.heap.size→k≠h→vo.ownBlock≠some k→A k):=hid (fun k h1 h2 h3=>by rw[hA];exact⟨h1,h2,h3⟩)
  have HRA:Hid (RX w2 I A h v ls most s):=hid (by rw[hA];exact⟨c,vo,(HRS.out.same HS2.out).more⟩)
  have HGA:Hid (∀k,G k→A k):=hid (fun k g=>by rw[hA];exact(HRS.out.same HS2.out).all_of k g)
  have hhw:h<w.heap.size:=HRS.out.blk.lt
  have hvw:∀k,vo.ownBlock=some k→k<w.heap.size:=fun k e=>HRS.out.row.lt e
  have HI1:Hid (RowsIn w00 A go1 lit rs1):=hid ⟨fun k hk=>HGA.out k (HSW.out.2 k hk),HA.out _ (Nat.lt_of_lt_of_le (HRW1.out.row.lt rfl) HRW2.out.same.size) (by have:=HRW1.out.row.ge (k:=go1) rfl;omega) (fun e=>by have:=hvw _ e;have:=HRW1.out.row.ge (k:=go1) rfl;omega),
   fun t ht hp k e=>by
    have h1:=(HRW1.out.have' t ht hp).2 k e
    have h2:=(HRW1.out.have' t ht hp).1.lt e
    have h3:=HRW2.out.same.size
    exact HA.out k (by omega) (by omega) (fun e2=>by have:=hvw _ e2;omega)⟩
  have HI2:Hid (RowsIn w00 A go2 dist rs2):=hid ⟨fun k hk=>HGA.out k (HSW.out.2 k hk),HA.out _ (HRW2.out.row.lt rfl) (by have:=HRW2.out.row.ge (k:=go2) rfl;have:=HRW1.out.same.size;omega) (fun e=>by have:=hvw _ e;have:=HRW2.out.row.ge (k:=go2) rfl;have:=HRW1.out.same.size;omega),
   fun t ht hp k e=>by
    have h1:=(HRW2.out.have' t ht hp).2 k e
    have h2:=(HRW2.out.have' t ht hp).1.lt e
    have h3:=HRW1.out.same.size
    exact HA.out k (by omega) (by omega) (fun e2=>by have:=hvw _ e2;omega)⟩
  have HQ1:Hid (RW w00 w2 go1 lit.length lit (fun s=>key lit s≠0) rs1):=hid ((HRW1.out.later HRW2.out.same).down HSW.out.1)
  have HQ2:Hid (RW w00 w2 go2 dist.length dist (fun s=>key dist s≠0) rs2):=hid (HRW2.out.down (Same.trans HSW.out.1 HRW1.out.same))
  have HJ2:Hid (SrcE natV w2 Jd vd dist∧∀k,Jd k→A k):=hid ⟨HJD.out.1.same HS2.out,fun k j=>HGA.out k (HJD.out.2 k j)⟩
  have HFIN:Hid (∀(wF:World) (sF:S5),RX wF I A h v ls most sF→KG A w2 wF→RX wF I G h v ls most sF∧KG G w wF):=hid (fun wF sF hX hK=>by
   obtain⟨c2,vo2,r2⟩:=hX
   exact⟨⟨c2,vo2,r2.weak HGA.out HRS.out.ig⟩,KG.trans (KG.same HS2.out) (KG.less hK HGA.out)⟩)
  clear hA hhw hvw HRW1 HRW2 HRS HA
  obtain⟨k4,f4⟩:=HRA.out.err
  go_wp2_with fail
  go_loopg [8] (M+1) (fun q zi wr=>∃(f:Nat) (sj:S5),f≤q∧Hid (sj.e=0→M-sj.c<f)∧Hid (RX wr I A h v ls most sj)∧Hid (KG A w2 wr)∧Hid (syms5 ls most lit dist (M+1) s=syms5 ls most lit dist f sj))
  case atStart=>exact⟨M+1,s,by omega,hid (fun _=>by omega),HRA,Kept.refl _ _,hid rfl⟩
  case round=>
   obtain⟨f,sj,hfq,HCj,HRj,HKj,HEj⟩:=hrel
   obtain⟨k4,f4⟩:=HRj.out.err
   by_cases hsj:sj.e=0
   ·have hcl:=HCj.out hsj
    have hle:=HRj.out.le hsj
    obtain⟨f',rfl⟩:∃f',f=f'+1:=⟨f-1,by omega⟩
    have Y1:=sym5 wr w00 I A h v ls most sj 53 go1 lit.length lit rs1 HZ.out HRj.out (HQ1.out.inn HI1.out HKj.out) rfl HLL.out.len HLL.out.key
    obtain⟨y,s1,hy⟩:∃y s1,sy lit ls sj 53=(y,s1):=⟨_,_,rfl⟩
    rw[hy]at Y1
    have HST:=syms5_go ls most lit dist f' sj hsj y s1 hy
    have HMO:Hid (s1.e=0→sj.c<s1.c∧s1.c≤max sj.c ls.length∧y<lit.length):=hid (fun h1=>sy_more hy hsj (by decide) h1)
    have HSTEP:Hid (syms5 ls most lit dist (f'+1) sj=if s1.e≠0 then s1 else if y<256 then syms5 ls most lit dist f' (ly most s1 y)else if y=256 then s1 else syms5 ls most lit dist f' (copies5 ls most dist s1 y)):=HST
    have HCL:Hid (M-sj.c<f'+1∧sj.c≤M):=hid ⟨hcl,by have:=HM.out;omega⟩
    rw[hsj]at k4
    clear hy HST hcl hle hsj
    go_wp2_with fail
    refine Y1.mono ?_
    rintro r3 w3 ⟨rfl,hr3,hk3⟩
    obtain⟨k4',f4'⟩:=hr3.err
    have HR3:Hid (RX w3 I A h v ls most s1):=hr3
    have HK3:Hid (KG A w2 w3):=hid (HKj.out.trans hk3)
    clear hr3 hk3 Y1 k4 f4
    by_cases hs1:s1.e=0
    ·have hmo:=HMO.out hs1
     have HCN:Hid (M-s1.c<f'∧s1.c≤M):=hid (by have:=HM.out;have:=HCL.out;omega)
     have hyl:y<288:=by have:=HLL.out.len;omega
     have HS10:Hid (s1.e=0):=hs1
     rw[hs1]at k4'
     clear hmo hs1
     by_cases hy256:y<256
     ·have L3:=lay5 w3 I A h v ls most s1 y HZ.out hy256 HR3.out
      have HSG:Hid (syms5 ls most lit dist (f'+1) sj=syms5 ls most lit dist f' (ly most s1 y)):=hid (by rw[HSTEP.out,if_neg (by have:=HS10.out;simp[this]),if_pos hy256])
      go_wp2_with fail
      refine L3.mono ?_
      rintro r4 w4 ⟨⟨u,rfl⟩,hr4,hk4⟩
      have HR4:Hid (RX w4 I A h v ls most (ly most s1 y)):=hr4
      have HK4:Hid (KG A w2 w4):=hid (HK3.out.trans hk4)
      clear hr4 hk4 L3
      go_wp2_with fail
      go_roundg (gk-1)
      case measure=>omega
      case rel=>exact⟨f',_,by omega,hid (fun _=>by rw[ly_c];exact HCN.out.1),HR4,HK4,hid (by rw[HEj.out,HSG.out])⟩
     ·by_cases hyE:y=256
      ·subst hyE
       have HSG:Hid (syms5 ls most lit dist (f'+1) sj=s1):=hid (by rw[HSTEP.out,if_neg (by have:=HS10.out;simp[this]),if_neg (by omega),if_pos rfl])
       go_wp2_with fail
       refine bodyPost_ret (results_none rfl _ _ _) rfl ?_
       rw[HEj.out,HSG.out]
       have hF:=HFIN.out w3 s1 HR3.out HK3.out
       exact⟨⟨_,rfl⟩,hF.1,hF.2⟩
      ·have C1:=copies5_any w3 w00 I A Jd h v ls most s1 y vd dist go2 rs2 HZ.out (by omega) (by omega) HR3.out (HJ2.out.1.kept HK3.out (fun k hj _ f=>f (HJ2.out.2 k hj))) HJ2.out.2 (HQ2.out.inn HI2.out HK3.out) HI2.out HLD.out.len HLD.out.key
       have HSG:Hid (syms5 ls most lit dist (f'+1) sj=syms5 ls most lit dist f' (copies5 ls most dist s1 y)):=hid (by rw[HSTEP.out,if_neg (by have:=HS10.out;simp[this]),if_neg hy256,if_neg hyE])
       have hyd1:decide (y<256)=false:=by simp;omega
       have hyd2:((y:Int)==256)=false:=by simp;omega
       go_wp2_with fail
       refine C1.mono ?_
       rintro r4 w4 ⟨⟨u,rfl⟩,hr4,hk4⟩
       have HR4:Hid (RX w4 I A h v ls most (copies5 ls most dist s1 y)):=hr4
       have HK4:Hid (KG A w2 w4):=hid (HK3.out.trans hk4)
       clear hr4 hk4 C1
       go_wp2_with fail
       go_roundg (gk-1)
       case measure=>omega
       case rel=>exact⟨f',_,by omega,hid (fun _=>by have h1:=copies5_c ls most dist s1 y;have h2:=HCN.out;omega),HR4,HK4,hid (by rw[HEj.out,HSG.out])⟩
    ·have HSG:Hid (syms5 ls most lit dist (f'+1) sj=syms5 ls most lit dist f' s1):=hid (by rw[HSTEP.out,if_pos hs1,syms5_stuck _ _ _ _ _ _ hs1])
     have HS10:Hid (s1.e≠0):=hs1
     obtain⟨e7,he7⟩:∃e7,e7=s1.e:=⟨_,rfl⟩
     rw[←he7]at hs1 k4'
     have hed:((e7:Int) != 0)=true:=by simp;omega
     clear he7
     go_wp2_with fail
     go_roundg (gk-1)
     case measure=>omega
     case rel=>exact⟨f',s1,by omega,hid (fun h1=>absurd h1 HS10.out),HR3,HK3,hid (by rw[HEj.out,HSG.out])⟩
   ·have HSG:Hid (syms5 ls most lit dist f sj=sj):=hid (syms5_stuck _ _ _ _ _ _ hsj)
    obtain⟨e7,he7⟩:∃e7,e7=sj.e:=⟨_,rfl⟩
    rw[←he7]at hsj k4
    have hed:((e7:Int)==0)=false:=by simp;omega
    clear he7
    go_wp2_with fail
    go_end0
    rw[HEj.out,HSG.out]
    have hF:=HFIN.out wr sj HRj.out HKj.out
    exact⟨⟨_,rfl⟩,hF.1,hF.2⟩
 ·have HE:Hid (syms5 ls most lit dist (ls.length+1) s=s):=hid (syms5_stuck _ _ _ _ _ _ he)
  obtain⟨e7,he7⟩:∃e7,e7=s.e:=⟨_,rfl⟩
  rw[←he7]at he k4
  have hed:((e7:Int) != 0)=true:=by simp;omega
  clear he7 hr hsafe
  go_enter Tryz.func102,Tryz.ntmps102
  go_wp2_with fail
  refine bodyPost_ret (results_none rfl _ _ _) rfl ?_
  rw[HE.out]
  exact⟨⟨_,rfl⟩,HR.out,Kept.refl _ _⟩

end Go.Proofs.YtggcbnhckcenmaaGreatDoor
