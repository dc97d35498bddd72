import Derived.Test.YtggcbnhckcenmaaGreatDoorHNextM
namespace Go.Proofs.YtggcbnhckcenmaaGreatDoor
open Go.RowKit

theorem fit_step(r ls:List Nat)(c n:Nat)(hn:n<r.length)(hq:c+n<ls.length)(h:r.take n=(ls.drop c).take n)(he:r[n]=ls[c+n]):r.take (n+1)=(ls.drop c).take (n+1):=by
 have hd:n<(ls.drop c).length:=by rw[List.length_drop];omega
 rw[List.take_succ_eq_append_getElem hn,List.take_succ_eq_append_getElem hd,h,List.getElem_drop,he]

theorem fit_no(r ls:List Nat)(c n:Nat)(hn:n<r.length)(h:¬c+n<ls.length∨∃hq:c+n<ls.length,r[n]≠ls[c+n]):¬r <+: ls.drop c:=by
 intro hp
 have hl:=hp.length_le
 rw[List.length_drop]at hl
 rcases h with h | ⟨hq,hne⟩
 ·omega
 ·have:=List.IsPrefix.getElem hp hn
  rw[List.getElem_drop]at this
  exact hne this

theorem beg_yes(r ls:List Nat)(c n:Nat)(_hn:n<r.length)(h:r.take n=(ls.drop c).take n)(he:c+n=ls.length):ls.drop c <+: r:=by
 rw[List.take_of_length_le (l:=ls.drop c) (by rw[List.length_drop];omega)]at h
 rw[←h]
 exact List.take_prefix _ _

theorem beg_no(r ls:List Nat)(c n:Nat)(hn:n<r.length)(hq:c+n<ls.length)(hne:r[n]≠ls[c+n]):¬ls.drop c <+: r:=by
 intro hp
 have hd:n<(ls.drop c).length:=by rw[List.length_drop];omega
 have:=List.IsPrefix.getElem hp hd
 rw[List.getElem_drop]at this
 exact hne this.symm

def Tells(B:Bool)(P:Prop):Prop:=(B=true↔P)

set_option maxRecDepth 100000 in
set_option maxHeartbeats 4000000 in
theorem rnext_any(w w0:World)(go L:Nat)(ns:List Nat)(rs:List (Option Addr×Nat×Nat))(v:Value)(I:Nat→Prop)(ls:List Nat)(c:Nat)(hR:RW w0 w go L ns (fun s=>key ns s≠0) rs)(hL:L=ns.length)(hl288:L≤288)(h15:∀s,key ns s≤15)(hs:Src w I v ls)(hlen:ls.length≤100000000)(hc:c≤ls.length):
  Calls Tryz.prog 161 #[.slice (some ⟨go,0,none⟩) L L,v,.int .i64 (c:Nat)] w fun e w'=>(∃is k g:Nat,e=.returned (.tuple #[.int .i64 (is:Nat),.int .i64 (k:Nat),.int .i64 (g:Nat)])∧RNext ns (ls.drop c) is k g)∧Same w w':=by
 obtain⟨ao,cap,rfl,hsa⟩:=id hs
 have HS:Hid (Src w I (.slice ao ls.length cap) ls):=hs
 have HR:Hid (RW w0 w go L ns (fun s=>key ns s≠0) rs):=hR
 have HL:Hid (L=ns.length):=hL
 have HRL:Hid (rs.length=L):=hid hR.row.len
 have H15:Hid (∀s,key ns s≤15):=h15
 clear hs hR hL hsa h15
 obtain⟨M,hM⟩:∃M,M=ls.length:=⟨_,rfl⟩
 rw[←hM]at HS hlen hc ⊢
 have HM:Hid (M=ls.length):=hM
 clear hM
 go_enter Tryz.func161,Tryz.ntmps161
 go_wp2_with fail
 go_loopg [9,10] L (fun q zb zi wr=>∃(i:Nat) (B:Bool),L-i≤q∧i≤L∧zi=.int .i64 (i:Nat)∧zb=.bool B∧Hid (∀s,s<i→¬Fit ns (ls.drop c) s)∧Hid (Tells B (∃s,s<i∧Beg ns (ls.drop c) s))∧Hid (Same w wr))
 case atStart=>exact⟨0,false,by omega,by omega,rfl,rfl,hid (fun s h=>by omega),hid ⟨(fun h=>by cases h),(fun h=>by obtain⟨s,h,_⟩:=h;omega)⟩,Kept.refl _ _⟩
 case round=>
  obtain⟨i,B,hq,hi,rfl,rfl,HF,HB,HK⟩:=hrel
  obtain⟨gk0,hgk⟩:∃x,x=gk:=⟨_,rfl⟩
  rw[←hgk]at hq
  have HG:Hid (gk0=gk):=hgk
  clear hgk
  by_cases hlt:i<L
  ·have hirs:i<rs.length:=by have:=HRL.out;omega
   have cr:=(HR.out.row.same HK.out).cell i hirs
   by_cases hk0:key ns i=0
   ·rw[HR.out.none' i hirs (fun h=>h hk0)]at cr
    have cr2:wr.cell? ⟨go,i,none⟩=some (.slice none 0 0):=cr
    have HF2:Hid (∀s,s<i+1→¬Fit ns (ls.drop c) s):=hid (fun s h hf=>by
     by_cases e:s=i
     ·subst e;exact hf.1 hk0
     ·exact HF.out s (by omega) hf)
    have HB2:Hid (Tells B (∃s,s<i+1∧Beg ns (ls.drop c) s)):=hid (by
     have hb':=HB.out
     unfold Tells at hb' ⊢
     rw[hb']
     constructor
     ·rintro⟨s,h1,h2⟩;exact⟨s,by omega,h2⟩
     ·rintro⟨s,h1,h2⟩
      by_cases e:s=i
      ·subst e;exact absurd hk0 h2.1
      ·exact⟨s,by omega,h2⟩)
    clear cr hk0
    go_wp2_with fail
    go_roundg (gk0-1)
    case measure=>have:=HG.out;omega
    case rel=>exact⟨i+1,B,by omega,by omega,by go_num,rfl,HF2,HB2,HK⟩
   ·have hrow:Row wr (slV rs[i]) (rowOf ns i):=(HR.out.have' i hirs hk0).1.kept HK.out (fun _ _ f=>f)
    obtain⟨ar,capr,hvr,hgr⟩:=hrow.shape
    have hrl:=rowOf_length ns i
    obtain⟨gr,hgr⟩:=hgr (by intro e;rw[e]at hrl;simp at hrl;omega)
    subst hgr
    rw[hvr]at cr hrow
    rw[hrl]at cr hrow
    obtain⟨K,hK⟩:∃K,K=key ns i:=⟨_,rfl⟩
    rw[←hK]at cr hrow hrl
    have hK0:0<K:=by omega
    have hK15:K≤15:=by rw[hK];exact H15.out i
    have HRO:Hid (Row wr (.slice (some ⟨gr,0,none⟩) (rowOf ns i).length capr) (rowOf ns i)):=hid (by rw[hrl];exact hrow)
    have HRLN:Hid ((rowOf ns i).length=K):=hrl
    have HKY:Hid (K=key ns i∧key ns i≠0):=hid ⟨hK,hk0⟩
    have HCR:Hid (wr.cell? ⟨go,i,none⟩=some (.slice (some ⟨gr,0,none⟩) K capr)):=cr
    have hnz:((K:Int)==0)=false:=by simp;omega
    obtain⟨w1,hw1⟩:∃w1,w1=wr:=⟨_,rfl⟩
    subst hw1
    clear hvr hrow hrl hK hk0
    go_wp2_with fail
    clear hnz cr
    go_loopg [11] K (fun q zn wr=>∃(n:Nat),K-n≤q∧n≤K∧c+n≤M∧zn=.int .i64 (n:Nat)∧Hid ((rowOf ns i).take n=(ls.drop c).take n)∧Hid (Same w1 wr))
    case atStart=>exact⟨0,by omega,by omega,by omega,rfl,hid (by simp),Kept.refl _ _⟩
    case round=>
     obtain⟨n,hq2,hnK,hcn,rfl,HT,HK2⟩:=hrel
     have cr:wr.cell? ⟨go,i,none⟩=some (.slice (some ⟨gr,0,none⟩) K capr):=HK2.out.cell HCR.out (fun h=>h)
     obtain⟨x,hx⟩:∃x,x=c+n:=⟨_,rfl⟩
     have hxI:(c:Int)+(n:Int)=(x:Int):=by omega
     have hwx:IntKind.i64.wrap (x:Int)=(x:Int):=by rw[IntKind.wrap_i64];omega
     have HX:Hid (x=c+n):=hx
     clear hx
     by_cases hnlt:n<K
     ·have hnr:n<(rowOf ns i).length:=by have:=HRLN.out;omega
      have c1:wr.cell? ⟨gr,n,none⟩=some (.int .u8 ((rowOf ns i)[n]:Nat)):=HK2.out.cell (HRO.out.cell n hnr) (fun h=>h)
      obtain⟨y1,hy1⟩:∃y,y=(rowOf ns i)[n]:=⟨_,rfl⟩
      rw[←hy1]at c1
      have hn1:((n:Int)==(K:Int))=false:=by simp;omega
      by_cases hxl:x<M
      ·have hxl2:c+n<ls.length:=by have:=HM.out;have:=HX.out;omega
       obtain⟨b,o,rfl,_,hcell⟩:∃b o,ao=some ⟨b,o,none⟩∧True∧wr.cell? ⟨b,o+x,none⟩=some (.int .u8 (ls[c+n]:Nat)):=by
        obtain⟨ao',cap',e1,e2⟩:=(HS.out.kept (Same.trans HK.out HK2.out) (fun _ _ _ f=>f))
        injection e1 with e3 _ _
        subst e3
        obtain⟨b,o,e4,_,e5⟩:=e2 (by intro e;rw[e]at hxl2;simp at hxl2)
        refine⟨b,o,e4,trivial,?_⟩
        rw[HX.out]
        exact e5 (c+n) hxl2
       obtain⟨y2,hy2⟩:∃y,y=ls[c+n]:=⟨_,rfl⟩
       rw[←hy2]at hcell
       by_cases he:y1=y2
       ·have hd:((y1:Int)==(y2:Int))=true:=by simp[he]
        have HT2:Hid ((rowOf ns i).take (n+1)=(ls.drop c).take (n+1)):=hid (fit_step _ _ c n hnr hxl2 HT.out (by rw[←hy1,←hy2,he]))
        have hcn2:c+(n+1)≤M:=by have:=HX.out;omega
        clear hy1 hy2 he hn1
        go_wp2_with fail
        go_quiet (fail)
        go_wp2_with fail
        go_roundg (gk-1)
        case measure=>omega
        case rel=>exact⟨n+1,by omega,by omega,hcn2,by go_num,HT2,hid (HK2.out.drewN _)⟩
       ·have hd:((y1:Int)==(y2:Int))=false:=by simp;omega
        have HNF:Hid (¬Fit ns (ls.drop c) i∧¬Beg ns (ls.drop c) i):=hid ⟨fun h=>fit_no _ _ c n hnr (.inr ⟨hxl2,by rw[←hy1,←hy2];exact he⟩) h.2,fun h=>beg_no _ _ c n hnr hxl2 (by rw[←hy1,←hy2];exact he) h.2⟩
        have hxm:((x:Int)==(M:Int))=false:=by simp;omega
        clear hy1 hy2 he
        have HF2:Hid (∀s,s<i+1→¬Fit ns (ls.drop c) s):=hid (fun s h hf=>by
         by_cases e:s=i
         ·subst e;exact HNF.out.1 hf
         ·exact HF.out s (by omega) hf)
        have HB2:Hid (Tells B (∃s,s<i+1∧Beg ns (ls.drop c) s)):=hid (by
         have hb':=HB.out
         unfold Tells at hb' ⊢
         rw[hb']
         constructor
         ·rintro⟨s,h1,h2⟩;exact⟨s,by omega,h2⟩
         ·rintro⟨s,h1,h2⟩
          by_cases e:s=i
          ·subst e;exact absurd h2 HNF.out.2
          ·exact⟨s,by omega,h2⟩)
        go_wp2_with fail
        go_quiet (fail)
        cases B with
        | true=>
         go_wp2_with fail
         go_roundg (gk0-1)
         case measure=>have:=HG.out;omega
         case rel=>exact⟨i+1,true,by omega,by omega,by go_num,rfl,HF2,HB2,hid (Same.trans HK.out (HK2.out.drewN _))⟩
        | false=>
         go_wp2_with fail
         go_roundg (gk0-1)
         case measure=>have:=HG.out;omega
         case rel=>exact⟨i+1,false,by omega,by omega,by go_num,rfl,HF2,HB2,hid (Same.trans HK.out (HK2.out.drewN _))⟩
      ·have hxm:((x:Int)==(M:Int))=true:=by have:=HX.out;simp;omega
       have hxd:decide (x<M)=false:=by simp;omega
       have HNF:Hid (¬Fit ns (ls.drop c) i∧Beg ns (ls.drop c) i):=hid ⟨fun h=>fit_no _ _ c n hnr (.inl (by have:=HM.out;have:=HX.out;omega)) h.2,HKY.out.2,beg_yes _ _ c n hnr HT.out (by have:=HM.out;have:=HX.out;omega)⟩
       clear hy1 hxl
       have HF2:Hid (∀s,s<i+1→¬Fit ns (ls.drop c) s):=hid (fun s h hf=>by
        by_cases e:s=i
        ·subst e;exact HNF.out.1 hf
        ·exact HF.out s (by omega) hf)
       have HB2:Hid (Tells true (∃s,s<i+1∧Beg ns (ls.drop c) s)):=hid ⟨fun _=>⟨i,by omega,HNF.out.2⟩,fun _=>rfl⟩
       go_wp2_with fail
       go_quiet (fail)
       cases B with
       | true=>
        go_wp2_with fail
        go_roundg (gk0-1)
        case measure=>have:=HG.out;omega
        case rel=>exact⟨i+1,true,by omega,by omega,by go_num,rfl,HF2,HB2,hid (Same.trans HK.out (HK2.out.drewN _))⟩
       | false=>
        go_wp2_with fail
        go_roundg (gk0-1)
        case measure=>have:=HG.out;omega
        case rel=>exact⟨i+1,true,by omega,by omega,by go_num,rfl,HF2,HB2,hid (Same.trans HK.out (HK2.out.drewN _))⟩
     ·have hnK2:n=K:=by omega
      have hnd:decide (n<K)=false:=by simp;omega
      have hne:((n:Int)==(K:Int))=true:=by simp;omega
      have HFIT:Hid (Fit ns (ls.drop c) i∧n=key ns i):=hid (by
       refine⟨⟨HKY.out.2,?_⟩,by rw[hnK2];exact HKY.out.1⟩
       have h:=HT.out
       rw[List.take_of_length_le (by have:=HRLN.out;omega)]at h
       rw[h]
       exact List.take_prefix _ _)
      clear hnlt hnK2
      go_wp2_with fail
      go_quiet (fail)
      go_wp2_with fail
      refine bodyPost_ret (v:=.tuple #[.int .i64 (i:Nat),.int .i64 (n:Nat),.int .i64 0]) (by simp[results,Tryz.results161,go_sem]) rfl ⟨⟨i,n,0,rfl,.inl ⟨rfl,by have:=HL.out;omega,HFIT.out.1,HFIT.out.2,HF.out⟩⟩,Same.trans HK.out (HK2.out.drewN _)⟩
  ·have hil:i=L:=by omega
   have hid':decide (i<L)=false:=by simp;omega
   have HF2:Hid (∀s,s<ns.length→¬Fit ns (ls.drop c) s):=hid (fun s h=>HF.out s (by have:=HL.out;omega))
   have HB2:Hid (Tells B (∃s,s<ns.length∧Beg ns (ls.drop c) s)):=hid (by have hb':=HB.out;rw[hil,HL.out]at hb';exact hb')
   clear hil hlt
   cases B with
   | true=>
    go_wp2_with fail
    refine bodyPost_ret (v:=.tuple #[.int .i64 0,.int .i64 0,.int .i64 10]) (by simp[results,Tryz.results161,go_sem]) rfl ⟨⟨0,0,10,rfl,.inr (.inl ⟨rfl,rfl,rfl,HF2.out,HB2.out.1 rfl⟩)⟩,HK.out⟩
   | false=>
    go_wp2_with fail
    refine bodyPost_ret (v:=.tuple #[.int .i64 0,.int .i64 0,.int .i64 32]) (by simp[results,Tryz.results161,go_sem]) rfl ⟨⟨0,0,32,rfl,.inr (.inr ⟨rfl,rfl,rfl,HF2.out,fun s hs hb=>by have:=HB2.out.2 ⟨s,hs,hb⟩;cases this⟩)⟩,HK.out⟩

end Go.Proofs.YtggcbnhckcenmaaGreatDoor
