import Derived.Test.YtggcbnhckcenmaaGreatDoorInSy
namespace Go.Proofs.YtggcbnhckcenmaaGreatDoor
set_option maxRecDepth 100000
set_option maxHeartbeats 4000000
open Go.RowKit

theorem RX.err {w:World}{I G:Nat→Prop}{h:Nat}{v:Value}{ls:List Nat}{most:Nat}{s:S5}(r:RX w I G h v ls most s):w.cell? ⟨h,4,none⟩=some(.int .i64(s.e:Nat))∧w.frozen? ⟨h,4,none⟩=false:=by
 obtain⟨c,vo,r⟩:=r
 have c4:=r.blk.cell 4
 simp at c4
 exact⟨c4,r.blk.frozen 4⟩

theorem RX.wrong {w:World}{I G:Nat→Prop}{h:Nat}{v:Value}{ls:List Nat}{most:Nat}{s:S5}(r:RX w I G h v ls most s)(x:Nat)(hx:x≠0):RX(w.setCell⟨h,4,none⟩(.int .i64(x:Nat)))I G h v ls most {s with e:=x}∧KG G w(w.setCell⟨h,4,none⟩(.int .i64(x:Nat))):=by
 obtain⟨c,vo,r⟩:=r
 have hk:Kept(·=h)w(w.setCell⟨h,4,none⟩(.int .i64(x:Nat))):=(Kept.refl(·=h)w).setCell⟨h,4,none⟩_(.inl rfl)
 have hb:=r.blk.set 4(.int .i64(x:Nat))
 simp at hb
 exact⟨⟨c,vo,r.turn hk hb(fun e=>absurd e hx)r.le⟩,r.kg hk⟩

theorem ly_e(most:Nat)(s:S5)(b:Nat):(ly most s b).c=s.c:=by
 unfold ly;split
 ·rfl
 ·split<;>rfl

theorem stB_zero(ls:List Nat)(most:Nat)(s:S5):stB ls most 0 s=s:=rfl
theorem stB_stuck(ls:List Nat)(most k:Nat)(s:S5)(h:s.e≠0):stB ls most k s=s:=by
 cases k with
 | zero=>rfl
 | succ k=>simp only[stB];rw[if_pos h]
theorem stB_go(ls:List Nat)(most k:Nat)(s:S5)(h:s.e=0):stB ls most(k+1)s=stB ls most k(ly most(tk ls s 8).2(tk ls s 8).1):=by
 simp only[stB];rw[if_neg(by simp[h])]

theorem stored5_any(w:World)(I G:Nat→Prop)(h:Nat)(v:Value)(ls:List Nat)(most:Nat)(s:S5)(hz:Sz ls most)(h8:ls.length % 8=0)(he:s.e=0)(hr:RX w I G h v ls most s):
  Calls Tryz.prog 100 #[.pointer(some⟨h,0,none⟩)]w fun r w'=>(∃u,r=.returned u)∧RX w' I G h v ls most(stored5 ls most s)∧KG G w w':=by
 obtain⟨sc,so,e⟩:=s
 simp only at he
 subst he
 obtain⟨c,vo,r⟩:=hr
 have hcs:c=sc:=r.pl rfl
 subst hcs
 have HR:Hid(RS w I G h v ls most⟨c,so,0⟩c vo):=r
 have HZ:Hid(Sz ls most):=hz
 have hle:=r.le
 have hlen:=hz.len
 obtain⟨M,hM⟩:∃M,M=ls.length:=⟨_,rfl⟩
 rw[←hM]at hle hlen h8
 have HM:Hid(M=ls.length):=hM
 clear r hz hM
 obtain⟨a,ha⟩:∃a,a=(c+7) / 8*8:=⟨_,rfl⟩
 have HE:Hid(stored5 ls most⟨c,so,0⟩=stB ls most(tk ls⟨a,so,0⟩16).1(if(tk ls(tk ls⟨a,so,0⟩16).2 16).2.e=0∧(tk ls⟨a,so,0⟩16).1+(tk ls(tk ls⟨a,so,0⟩16).2 16).1≠65535 then {(tk ls(tk ls⟨a,so,0⟩16).2 16).2 with e:=51} else(tk ls(tk ls⟨a,so,0⟩16).2 16).2)):=hid(by rw[ha];rfl)
 go_enter Tryz.func100,Tryz.ntmps100
 go_wp2_with fail
 go_loopg []8(fun q wr=>∃(i:Nat),c≤i∧i≤a∧a-i≤q∧Hid(RS wr I G h v ls most⟨i,so,0⟩i vo)∧Hid(KG G w wr))
 case atStart=>exact⟨c,by omega,by omega,by omega,HR,Kept.refl _ _⟩
 case round=>
  obtain⟨i,hi0,hi,hq,HRr,HKr⟩:=hrel
  have k1:=HRr.out.blk.cell 1
  have f1:=HRr.out.blk.frozen 1
  simp at k1
  by_cases hlt:i % 8=0
  ·have hia:i=a:=by omega
   subst hia
   have T1:=take5 wr I G h v ls most⟨i,so,0⟩16 HZ.out(by decide)⟨_,_,HRr.out⟩
   have hx1:=tk_lt ls HZ.out.bit⟨i,so,0⟩16
   obtain⟨n,hn⟩:∃n,n=(tk ls⟨i,so,0⟩16).1:=⟨_,rfl⟩
   obtain⟨s2,hs2⟩:∃s2,s2=(tk ls⟨i,so,0⟩16).2:=⟨_,rfl⟩
   rw[←hn]at T1 hx1 HE
   rw[←hs2]at T1 HE
   have hn16:n<65536:=hx1
   clear hn hs2 hx1
   go_wp2_with fail
   refine T1.mono ?_
   rintro e1 w1⟨rfl,hr1,hk1⟩
   have HK1:Hid(KG G w w1):=hid(HKr.out.trans hk1)
   have T2:=take5 w1 I G h v ls most s2 16 HZ.out(by decide)hr1
   have hx2:=tk_lt ls HZ.out.bit s2 16
   obtain⟨m,hm⟩:∃m,m=(tk ls s2 16).1:=⟨_,rfl⟩
   obtain⟨s3,hs3⟩:∃s3,s3=(tk ls s2 16).2:=⟨_,rfl⟩
   rw[←hm]at T2 hx2 HE
   rw[←hs3]at T2 HE
   have hm16:m<65536:=hx2
   clear hm hs3 hx2 hr1 hk1 T1 HRr HKr k1 f1
   go_wp2_with fail
   refine T2.mono ?_
   rintro e2 w2⟨rfl,hr2,hk2⟩
   have HK2:Hid(KG G w w2):=hid(HK1.out.trans hk2)
   have HR2:Hid(RX w2 I G h v ls most s3):=hr2
   obtain⟨k4,f4⟩:=hr2.err
   clear hr2 hk2 T2
   by_cases hs30:s3.e=0
   ·by_cases hnm:n+m=65535
    ·have hs4:(if s3.e=0∧n+m≠65535 then {s3 with e:=51} else s3:S5)=s3:=by rw[if_neg(fun h=>h.2 hnm)]
     rw[hs4]at HE
     rw[hs30]at k4
     have hnmd:(((n:Int)+(m:Int)) != 65535)=false:=by simp;omega
     clear hs4
     go_wp2_with fail
     go_loopg [4](n+1)(fun q zi wr=>∃(j:Nat)(sj:S5),n-j<q∧j≤n∧zi=.int .i64(j:Nat)∧Hid(RX wr I G h v ls most sj)∧Hid(KG G w wr)∧Hid(stB ls most n s3=stB ls most(n-j)sj))
     case atStart=>exact⟨0,s3,by omega,by omega,rfl,HR2,HK2,hid rfl⟩
     case round=>
      obtain⟨j,sj,hq,hj,rfl,HRj,HKj,HEj⟩:=hrel
      obtain⟨k4,f4⟩:=HRj.out.err
      by_cases hlt2:j<n
      ·by_cases hsj:sj.e=0
       ·have HS:Hid(stB ls most(n-j)sj=stB ls most(n-(j+1))(ly most(tk ls sj 8).2(tk ls sj 8).1)):=hid(by rw[show n-j=(n-(j+1))+1 by omega,stB_go _ _ _ _ hsj])
        have T3:=take5 wr I G h v ls most sj 8 HZ.out(by decide)HRj.out
        have hx:=tk_lt ls HZ.out.bit sj 8
        obtain⟨x,hx'⟩:∃x,x=(tk ls sj 8).1:=⟨_,rfl⟩
        obtain⟨s5,hs5⟩:∃s5,s5=(tk ls sj 8).2:=⟨_,rfl⟩
        rw[←hx']at T3 hx HS
        rw[←hs5]at T3 HS
        have hx256:x<256:=hx
        rw[hsj]at k4
        clear hx hx' hs5
        go_wp2_with fail
        refine T3.mono ?_
        rintro e5 w5⟨rfl,hr5,hk5⟩
        have L1:=lay5 w5 I G h v ls most s5 x HZ.out hx256 hr5
        have HK5:Hid(KG G w w5):=hid(HKj.out.trans hk5)
        clear hr5 hk5 T3
        go_wp2_with fail
        refine L1.mono ?_
        rintro e6 w6⟨⟨u,rfl⟩,hr6,hk6⟩
        have HR6:Hid(RX w6 I G h v ls most(ly most s5 x)):=hr6
        have HK6:Hid(KG G w w6):=hid(HK5.out.trans hk6)
        clear hr6 hk6 L1
        go_wp2_with fail
        go_roundg(gk-1)
        case measure=>omega
        case rel=>exact⟨j+1,_,by omega,by omega,by go_num,HR6,HK6,hid(by rw[HEj.out,HS.out])⟩
       ·obtain⟨e3,he3⟩:∃e3,e3=sj.e:=⟨_,rfl⟩
        have HF:Hid(stB ls most n s3=sj):=hid(by rw[HEj.out,stB_stuck _ _ _ _ hsj])
        rw[←he3]at hsj k4
        have hed:((e3:Int)==0)=false:=by simp;omega
        clear he3
        go_wp2_with fail
        go_end0
        rw[HE.out,HF.out]
        exact⟨⟨_,rfl⟩,HRj.out,HKj.out⟩
      ·have hjn:n-j=0:=by omega
       have HF:Hid(stB ls most n s3=sj):=hid(by rw[HEj.out,hjn,stB_zero])
       have hdj:decide(j<n)=false:=by simp;omega
       clear hjn
       go_wp2_with fail
       go_end0
       rw[HE.out,HF.out]
       exact⟨⟨_,rfl⟩,HRj.out,HKj.out⟩
    ·have hs4:(if s3.e=0∧n+m≠65535 then {s3 with e:=51} else s3:S5)={s3 with e:=51}:=by rw[if_pos⟨hs30,hnm⟩]
     rw[hs4,stB_stuck _ _ _ _(by simp)]at HE
     have hW:=HR2.out.wrong 51(by decide)
     have HW1:Hid(RX(w2.setCell⟨h,4,none⟩(.int .i64 51))I G h v ls most {s3 with e:=51}):=hid hW.1
     have HW2:Hid(KG G w(w2.setCell⟨h,4,none⟩(.int .i64 51))):=hid(HK2.out.trans hW.2)
     rw[hs30]at k4
     have hnmd:(((n:Int)+(m:Int)) != 65535)=true:=by simp;omega
     clear hs4 hW
     go_wp2_with fail
     go_loopg [4]1(fun q zi wr=>zi=.int .i64 0∧wr=w2.setCell⟨h,4,none⟩(.int .i64 51))
     case atStart=>exact⟨rfl,rfl⟩
     case round=>
      obtain⟨rfl,rfl⟩:=hrel
      obtain⟨k4,_⟩:=HW1.out.err
      simp only at k4
      go_wp2_with fail
      all_goals
       go_end0
       rw[HE.out]
       exact⟨⟨_,rfl⟩,HW1.out,HW2.out⟩
   ·have hs4:(if s3.e=0∧n+m≠65535 then {s3 with e:=51} else s3:S5)=s3:=by rw[if_neg(fun h=>hs30 h.1)]
    rw[hs4,stB_stuck _ _ _ _ hs30]at HE
    obtain⟨e3,he3⟩:∃e3,e3=s3.e:=⟨_,rfl⟩
    rw[←he3]at hs30 k4
    have hed:((e3:Int)==0)=false:=by simp;omega
    clear hs4 he3
    go_wp2_with fail
    go_loopg [4]1(fun q zi wr=>zi=.int .i64 0∧wr=w2)
    case atStart=>exact⟨rfl,rfl⟩
    case round=>
     obtain⟨rfl,rfl⟩:=hrel
     go_wp2_with fail
     all_goals
      go_end0
      rw[HE.out]
      exact⟨⟨_,rfl⟩,HR2.out,HK2.out⟩
  ·have hi1M:i+1≤M:=by omega
   have HX:Hid(RS(wr.setCell⟨h,1,none⟩(.int .i64((i:Int)+1)))I G h v ls most⟨i+1,so,0⟩(i+1)vo∧KG G w(wr.setCell⟨h,1,none⟩(.int .i64((i:Int)+1)))):=hid(by
    have hk:Kept(·=h)wr(wr.setCell⟨h,1,none⟩(.int .i64((i:Int)+1))):=(Kept.refl(·=h)wr).setCell⟨h,1,none⟩_(.inl rfl)
    have hb:=HRr.out.blk.set 1(.int .i64((i:Int)+1))
    simp at hb
    exact⟨HRr.out.turn hk hb(fun _=>rfl)(by have:=HM.out;omega),HKr.out.trans(HRr.out.kg hk)⟩)
   go_wp2_with fail
   go_roundg(gk-1)
   case measure=>omega
   case rel=>exact⟨i+1,by omega,by omega,by omega,HX.out.1,HX.out.2⟩

end Go.Proofs.YtggcbnhckcenmaaGreatDoor
