import Derived.Test.YtggcbnhckcenmaaGreatDoorInCp
namespace Go.Proofs.YtggcbnhckcenmaaGreatDoor
open Go.RowKit

set_option maxRecDepth 100000 in
set_option maxHeartbeats 8000000 in
theorem copies5_any(w w0:World)(I G J:Nat→Prop)(h:Nat)(v:Value)(ls:List Nat)(most:Nat)(s:S5)(y:Nat)(vd:Value)(dist:List Nat)(go:Nat)(rs:List (Option Addr×Nat×Nat))(hz:Sz ls most)(hy:257≤y)(hy3:y≤1000)(hr:RX w I G h v ls most s)
  (hd:SrcE natV w J vd dist) (hJ:∀k,J k→G k) (hR:RW w0 w go dist.length dist (fun s=>key dist s≠0) rs) (hI:RowsIn w0 G go dist rs) (hl288:dist.length≤288) (h15:∀s,key dist s≤15):
  Calls Tryz.prog 137 #[.pointer (some ⟨h,0,none⟩),.int .i64 (y:Nat),vd,.slice (some ⟨go,0,none⟩) dist.length dist.length] w fun r w'=>(∃u,r=.returned u)∧RX w' I G h v ls most (copies5 ls most dist s y)∧KG G w w':=by
 have HR:Hid (RX w I G h v ls most s):=hr
 have HZ:Hid (Sz ls most):=hz
 have HD:Hid (SrcE natV w J vd dist∧∀k,J k→G k):=⟨hd,hJ⟩
 have HW:Hid (RW w0 w go dist.length dist (fun s=>key dist s≠0) rs):=hR
 have HI:Hid (RowsIn w0 G go dist rs):=hI
 have HA:Hid (dist.length≤288∧∀s,key dist s≤15):=⟨hl288,h15⟩
 obtain⟨k4,f4⟩:=hr.err
 have hmo:=hz.mo
 clear hr hz hd hJ hR hI h15
 by_cases hy2:285<y
 ·have HE:Hid (copies5 ls most dist s y={s with e:=53}):=hid (by unfold copies5;rw[if_pos hy2])
  go_enter Tryz.func137,Tryz.ntmps137
  go_wp2_with fail
  refine bodyPost_ret (results_none rfl _ _ _) rfl ?_
  rw[HE.out]
  have hW:=HR.out.wrong 53 (by decide)
  exact⟨⟨_,rfl⟩,hW.1,hW.2⟩
 ·have hyd:decide (285<y)=false:=by simp;omega
  have hy285:y≤285:=by omega
  have HY:Hid (y≤285):=hy285
  have T1:=length5 w I G h v ls most s y HZ.out hy hy285 HR.out
  have hn2:=len5_le ls HZ.out.bit s y hy hy285
  obtain⟨n,s1,e1⟩:∃n s1,len5 ls s y=(n,s1):=⟨_,_,rfl⟩
  rw[e1]at T1 hn2
  simp only at hn2
  have E1:Hid (len5 ls s y=(n,s1)):=e1
  clear e1 k4 f4
  go_enter Tryz.func137,Tryz.ntmps137
  go_wp2_with fail
  refine T1.mono ?_
  rintro r1 w1 ⟨rfl,hr1,hk1⟩
  have HR1:Hid (RX w1 I G h v ls most s1):=hr1
  have HK1:Hid (KG G w w1):=hk1
  have HD1:Hid (SrcE natV w1 J vd dist):=hid (HD.out.1.kept hk1 (fun k hj _ f=>f (HD.out.2 k hj)))
  have HW1:Hid (RW w0 w1 go dist.length dist (fun s=>key dist s≠0) rs):=hid (HW.out.inn HI.out hk1)
  obtain⟨k4,f4⟩:=hr1.err
  clear hr1 hk1 T1 HR
  by_cases hs1:s1.e=0
  ·obtain⟨U,hU⟩:∃U,U=usedB dist:=⟨_,rfl⟩
   have U1:=used5 w1 vd J dist HD1.out (by have:=HA.out.1;omega)
   rw[←hU]at U1
   have HU:Hid (U=usedB dist):=hU
   have HS1:Hid (s1.e=0):=hs1
   rw[hs1]at k4
   clear hU hs1
   cases U with
   | false=>
    have hW:=HR1.out.wrong 53 (by decide)
    have HX1:Hid (RX (w1.setCell ⟨h,4,none⟩ (.int .i64 53)) I G h v ls most {s1 with e:=53}):=hid hW.1
    have HX2:Hid (KG G w (w1.setCell ⟨h,4,none⟩ (.int .i64 53))):=hid (HK1.out.trans hW.2)
    have HX3:Hid (RW w0 (w1.setCell ⟨h,4,none⟩ (.int .i64 53)) go dist.length dist (fun s=>key dist s≠0) rs):=hid (HW1.out.inn HI.out hW.2)
    have Y1:=sym5 (w1.setCell ⟨h,4,none⟩ (.int .i64 53)) w0 I G h v ls most {s1 with e:=53} 53 go dist.length dist rs HZ.out HX1.out HX3.out rfl HA.out.1 HA.out.2
    rw[sy_stuck (by simp)]at Y1
    have HE:Hid (copies5 ls most dist s y={s1 with e:=53}):=hid (by
     rw[copies5_far ls most dist s y HY.out n s1 {s1 with e:=53} {s1 with e:=53} {s1 with e:=53} 0 E1.out (by rw[if_pos ⟨HS1.out,HU.out.symm⟩]) (sy_stuck (by simp)) (by rw[if_neg (fun h=>by have:=h.1;simp at this)])]
     rw[if_pos (by simp)])
    clear hW
    go_wp2_with fail
    refine U1.mono ?_
    rintro r2 wx ⟨rfl,hwx⟩
    subst hwx
    go_wp2_with fail
    refine Y1.mono ?_
    rintro r3 w3 ⟨rfl,hr3,hk3⟩
    obtain⟨k4',f4'⟩:=hr3.err
    have HR3:Hid (RX w3 I G h v ls most {s1 with e:=53}):=hr3
    have HK3:Hid (KG G w w3):=hid (HX2.out.trans hk3)
    simp only at k4'
    clear hr3 hk3 Y1
    go_wp2_with fail
    refine bodyPost_ret (results_none rfl _ _ _) rfl ?_
    rw[HE.out]
    exact⟨⟨_,rfl⟩,HR3.out,HK3.out⟩
   | true=>
    have Y1:=sym5 w1 w0 I G h v ls most s1 53 go dist.length dist rs HZ.out HR1.out HW1.out rfl HA.out.1 HA.out.2
    obtain⟨d,s3,e3⟩:∃d s3,sy dist ls s1 53=(d,s3):=⟨_,_,rfl⟩
    rw[e3]at Y1
    have E3:Hid (sy dist ls s1 53=(d,s3)):=e3
    have hd288:d≤288:=by
     have h1:=HA.out.1
     unfold sy at e3
     split at e3
     ·simp at e3;omega
     ·simp only[Prod.mk.injEq]at e3
      obtain⟨rfl,_⟩:=e3
      rcases nextF_is dist (ls.drop s1.c) with⟨_,hi,_⟩ | ⟨_,hi,_⟩ | ⟨_,hi,_⟩<;>omega
    have HF:Hid (∀s4:S5,s4=(if s3.e=0∧29<d then {s3 with e:=53} else s3)→copies5 ls most dist s y=if s4.e≠0 then s4 else cp5 most (dist5 ls s4 d).1 n (if (dist5 ls s4 d).2.e=0∧(dist5 ls s4 d).2.out.length<(dist5 ls s4 d).1 then {(dist5 ls s4 d).2 with e:=54} else(dist5 ls s4 d).2)):=hid (fun s4 h4=>copies5_far ls most dist s y HY.out n s1 s1 s3 s4 d E1.out (by rw[if_neg (fun h=>by have:=h.2;rw[←HU.out]at this;cases this)]) E3.out h4)
    clear e3
    go_wp2_with fail
    refine U1.mono ?_
    rintro r2 wx ⟨rfl,hwx⟩
    subst hwx
    go_wp2_with fail
    refine Y1.mono ?_
    rintro r3 w3 ⟨rfl,hr3,hk3⟩
    obtain⟨k4',f4'⟩:=hr3.err
    have HR3:Hid (RX w3 I G h v ls most s3):=hr3
    have HK3:Hid (KG G w w3):=hid (HK1.out.trans hk3)
    clear hr3 hk3 Y1 U1 k4 f4
    by_cases hs3:s3.e=0
    ·have HS3:Hid (s3.e=0):=hs3
     rw[hs3]at k4'
     clear hs3
     by_cases hd29:29<d
     ·have HE:Hid (copies5 ls most dist s y={s3 with e:=53}):=hid (by rw[HF.out {s3 with e:=53} (by rw[if_pos ⟨HS3.out,hd29⟩]),if_pos (by simp)])
      have hW:=HR3.out.wrong 53 (by decide)
      obtain⟨k5,f5⟩:=hW.1.err
      have HX1:Hid (RX (w3.setCell ⟨h,4,none⟩ (.int .i64 53)) I G h v ls most {s3 with e:=53}):=hid hW.1
      have HX2:Hid (KG G w (w3.setCell ⟨h,4,none⟩ (.int .i64 53))):=hid (HK3.out.trans hW.2)
      simp only at k5
      clear hW
      go_wp2_with fail
      refine bodyPost_ret (results_none rfl _ _ _) rfl ?_
      rw[HE.out]
      exact⟨⟨_,rfl⟩,HX1.out,HX2.out⟩
     ·have hdd:decide (29<d)=false:=by simp;omega
      have hd29':d≤29:=by omega
      have T5:=distance5 w3 I G h v ls most s3 d HZ.out (by omega) HR3.out
      obtain⟨far,s5,e5⟩:∃far s5,dist5 ls s3 d=(far,s5):=⟨_,_,rfl⟩
      have hfar:=dist5_le ls HZ.out.bit s3 d (by omega)
      rw[e5]at T5 hfar
      simp only at hfar
      have HF2:Hid (copies5 ls most dist s y=cp5 most far n (if s5.e=0∧s5.out.length<far then {s5 with e:=54} else s5)):=hid (by rw[HF.out s3 (by rw[if_neg (fun h=>hd29 h.2)]),if_neg (by have:=HS3.out;simp[this]),e5])
      obtain⟨hf1,hf2⟩:=hfar
      clear e5 hd29 HF
      go_wp2_with fail
      refine T5.mono ?_
      rintro r5 w5 ⟨rfl,hr5,hk5⟩
      obtain⟨k4,f4⟩:=hr5.err
      obtain⟨hol,ao,cap,k2,hcap,hcells⟩:=hr5.outs
      have HR5:Hid (RX w5 I G h v ls most s5):=hr5
      have HK5:Hid (KG G w w5):=hid (HK3.out.trans hk5)
      clear hr5 hk5 T5 k4' f4' hcells HR3 HK3
      obtain⟨L,hL⟩:∃L,L=s5.out.length:=⟨_,rfl⟩
      rw[←hL]at k2 hol hcap
      by_cases hs5:s5.e=0
      ·rw[hs5]at k4
       by_cases hlf:L<far
       ·have HE:Hid (copies5 ls most dist s y={s5 with e:=54}):=hid (by rw[HF2.out,if_pos ⟨hs5,by omega⟩,cp5_stuck _ _ _ _ (by simp)])
        have hW:=HR5.out.wrong 54 (by decide)
        obtain⟨k5,f5⟩:=hW.1.err
        have HX1:Hid (RX (w5.setCell ⟨h,4,none⟩ (.int .i64 54)) I G h v ls most {s5 with e:=54}):=hid hW.1
        have HX2:Hid (KG G w (w5.setCell ⟨h,4,none⟩ (.int .i64 54))):=hid (HK5.out.trans hW.2)
        simp only at k5
        clear hW hL hs5
        go_wp2_with fail
        go_loopg [11] 1 (fun q zi wr=>zi=.int .i64 0∧wr=w5.setCell ⟨h,4,none⟩ (.int .i64 54))
        case atStart=>exact⟨rfl,rfl⟩
        case round=>
         obtain⟨rfl,rfl⟩:=hrel
         go_wp2_with fail
         all_goals
          go_end0
          rw[HE.out]
          exact⟨⟨_,rfl⟩,HX1.out,HX2.out⟩
       ·have HE:Hid (copies5 ls most dist s y=cp5 most far n s5):=hid (by rw[HF2.out,if_neg (fun h=>by omega)])
        have HLL:Hid (far≤s5.out.length):=hid (by omega)
        have hlfd:decide (L<far)=false:=by simp;omega
        clear hL hs5 HF2
        go_wp2_with fail
        go_loopg [11] (n+1) (fun q zi wr=>∃(j:Nat) (sj:S5),n-j<q∧j≤n∧zi=.int .i64 (j:Nat)∧Hid (RX wr I G h v ls most sj)∧Hid (KG G w wr)∧Hid (cp5 most far n s5=cp5 most far (n-j) sj∧far≤sj.out.length))
        case atStart=>exact⟨0,s5,by omega,by omega,rfl,HR5,HK5,hid ⟨rfl,HLL.out⟩⟩
        case round=>
         obtain⟨j,sj,hq,hj,rfl,HRj,HKj,HEj⟩:=hrel
         obtain⟨k4,f4⟩:=HRj.out.err
         by_cases hlt2:j<n
         ·by_cases hsj:sj.e=0
          ·have hfl:=HEj.out.2
           have HS:Hid (cp5 most far (n-j) sj=cp5 most far (n-(j+1)) (ly most sj (sj.out.getD (sj.out.length-far) 0))∧far≤(ly most sj (sj.out.getD (sj.out.length-far) 0)).out.length):=hid ⟨by rw[show n-j=(n-(j+1))+1 by omega,cp5_go _ _ _ _ hsj],Nat.le_trans hfl (ly_out _ _ _)⟩
           obtain⟨hol,ao,cap,k2,hcap,hcells⟩:=HRj.out.outs
           have hne:sj.out≠[]:=by intro e;rw[e]at hfl;simp at hfl;omega
           obtain⟨g,rfl,hg⟩:=hcells hne
           obtain⟨p,hp⟩:∃p,p=sj.out.length-far:=⟨_,rfl⟩
           have hpl:p<sj.out.length:=by omega
           obtain⟨cx,hb256⟩:=hg p hpl
           have hgd:sj.out.getD (sj.out.length-far) 0=sj.out[p]:=by rw[←hp];simp[List.getD,hpl]
           rw[hgd]at HS
           obtain⟨b,hb⟩:∃b,b=sj.out[p]:=⟨_,rfl⟩
           rw[←hb]at HS cx hb256
           obtain⟨Lj,hLj⟩:∃Lj,Lj=sj.out.length:=⟨_,rfl⟩
           rw[←hLj]at k2 hcap hpl hol hp hfl
           have hpI:(Lj:Int)-(far:Int)=(p:Int):=by omega
           have hwp:IntKind.i64.wrap (p:Int)=(p:Int):=by rw[IntKind.wrap_i64];omega
           have L1:=lay5 wr.drew I G h v ls most sj b HZ.out hb256 HRj.out.drew
           have HL1:Hid (Calls Tryz.prog 134 #[.pointer (some ⟨h,0,none⟩),.int .u8 (b:Nat)] wr.drew fun r w'=>(∃u,r=.returned u)∧RX w' I G h v ls most (ly most sj b)∧KG G wr.drew w'):=L1
           rw[hsj]at k4
           clear hb hg hcells hLj hp hne hgd L1 hfl
           go_wp2_with fail
           go_region_with (go_at_call 134;refine HL1.out.mono ?_;rintro r6 w6 ⟨⟨u,rfl⟩,hr6,hk6⟩)
           all_goals
            have HR6:Hid (RX w6 I G h v ls most (ly most sj b)):=hr6
            have HK6:Hid (KG G w w6):=hid (KG.trans HKj.out.drew hk6)
            clear hr6 hk6
            go_wp2_with fail
            go_roundg (gk-1)
            case measure=>omega
            case rel=>exact⟨j+1,_,by omega,by omega,by go_num,HR6,HK6,hid ⟨by rw[HEj.out.1,HS.out.1],HS.out.2⟩⟩
          ·obtain⟨e7,he7⟩:∃e7,e7=sj.e:=⟨_,rfl⟩
           have HFF:Hid (cp5 most far n s5=sj):=hid (by rw[HEj.out.1,cp5_stuck _ _ _ _ hsj])
           rw[←he7]at hsj k4
           have hed:((e7:Int)==0)=false:=by simp;omega
           clear he7
           go_wp2_with fail
           go_end0
           rw[HE.out,HFF.out]
           exact⟨⟨_,rfl⟩,HRj.out,HKj.out⟩
         ·have hjn:n-j=0:=by omega
          have HFF:Hid (cp5 most far n s5=sj):=hid (by rw[HEj.out.1,hjn,cp5_zero])
          have hdj:decide (j<n)=false:=by simp;omega
          clear hjn
          go_wp2_with fail
          go_end0
          rw[HE.out,HFF.out]
          exact⟨⟨_,rfl⟩,HRj.out,HKj.out⟩
      ·have HE:Hid (copies5 ls most dist s y=s5):=hid (by rw[HF2.out,if_neg (fun h=>hs5 h.1),cp5_stuck _ _ _ _ hs5])
       obtain⟨e7,he7⟩:∃e7,e7=s5.e:=⟨_,rfl⟩
       rw[←he7]at hs5 k4
       have hed:((e7:Int)==0)=false:=by simp;omega
       clear he7 hL
       go_wp2_with fail
       go_loopg [11] 1 (fun q zi wr=>zi=.int .i64 0∧wr=w5)
       case atStart=>exact⟨rfl,rfl⟩
       case round=>
        obtain⟨rfl,rfl⟩:=hrel
        go_wp2_with fail
        all_goals
         go_end0
         rw[HE.out]
         exact⟨⟨_,rfl⟩,HR5.out,HK5.out⟩
    ·have HE:Hid (copies5 ls most dist s y=s3):=hid (by rw[HF.out s3 (by rw[if_neg (fun h=>hs3 h.1)]),if_pos hs3])
     obtain⟨e7,he7⟩:∃e7,e7=s3.e:=⟨_,rfl⟩
     rw[←he7]at hs3 k4'
     have hed:((e7:Int)==0)=false:=by simp;omega
     have hed2:((e7:Int) != 0)=true:=by simp;omega
     clear he7
     go_wp2_with fail
     refine bodyPost_ret (results_none rfl _ _ _) rfl ?_
     rw[HE.out]
     exact⟨⟨_,rfl⟩,HR3.out,HK3.out⟩
  ·have Y1:=sym5 w1 w0 I G h v ls most s1 53 go dist.length dist rs HZ.out HR1.out HW1.out rfl HA.out.1 HA.out.2
   rw[sy_stuck hs1]at Y1
   have HE:Hid (copies5 ls most dist s y=s1):=hid (by
    rw[copies5_far ls most dist s y HY.out n s1 s1 s1 s1 0 E1.out (by rw[if_neg (fun h=>hs1 h.1)]) (sy_stuck hs1) (by rw[if_neg (fun h=>hs1 h.1)])]
    rw[if_pos hs1])
   obtain⟨e7,he7⟩:∃e7,e7=s1.e:=⟨_,rfl⟩
   have HE7:Hid (e7=s1.e):=he7
   rw[←he7]at hs1 k4
   have hed:((e7:Int)==0)=false:=by simp;omega
   have hed2:((e7:Int) != 0)=true:=by simp;omega
   clear he7
   go_wp2_with fail
   refine Y1.mono ?_
   rintro r3 w3 ⟨rfl,hr3,hk3⟩
   obtain⟨k4',f4'⟩:=hr3.err
   have HR3:Hid (RX w3 I G h v ls most s1):=hr3
   have HK3:Hid (KG G w w3):=hid (HK1.out.trans hk3)
   rw[←HE7.out]at k4'
   clear hr3 hk3 Y1
   go_wp2_with fail
   refine bodyPost_ret (results_none rfl _ _ _) rfl ?_
   rw[HE.out]
   exact⟨⟨_,rfl⟩,HR3.out,HK3.out⟩

end Go.Proofs.YtggcbnhckcenmaaGreatDoor
