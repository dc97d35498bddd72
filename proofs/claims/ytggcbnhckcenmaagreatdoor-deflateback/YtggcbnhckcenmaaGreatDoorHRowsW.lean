import Derived.Test.YtggcbnhckcenmaaGreatDoorHRows
namespace Go.Proofs.YtggcbnhckcenmaaGreatDoor
open Go.RowKit

def Cnt(ns:List Nat)(n i code last:Nat):Prop:=(last=0∧code=0∧sumP ns n i=0)∨(0<last∧last≤n∧(code+1)*2 ^ (15-last)=sumP ns n i)

theorem sumP_le(ns:List Nat)(n i:Nat):sumP ns n i≤measure ns:=by
 unfold sumP
 rw[←sumTo_all]
 unfold sumTo
 rw[List.take_of_length_le (Nat.le_refl _)]
 generalize ris ns=l
 induction l with
 | nil=>simp
 | cons a r ih=>
  rw[List.filter_cons]
  split
  ·simp only[List.map_cons,List.sum_cons];omega
  ·simp only[List.map_cons,List.sum_cons];omega

theorem Cnt.code_le{ns:List Nat}{n i code last:Nat}(h:Cnt ns n i code last)(hm:measure ns≤32768):code≤32768:=by
 rcases h with⟨_,h,_⟩ | ⟨_,_,h⟩
 ·omega
 ·have h1:=sumP_le ns n i
  have h2:(code+1)*1≤(code+1)*2 ^ (15-last):=Nat.mul_le_mul_left _ (Nat.two_pow_pos _)
  omega

theorem Cnt.hit{ns:List Nat}{n i code last:Nat}(h:Cnt ns n i code last)(hk:key ns i=n)(hn:n≤15):codeOf ns i=(if 0<last then(code+1)*2 ^ (n-last)else code):=by
 have h1:=code_start ns i
 have h2:=sumP_hit ns i
 rw[hk]at h1 h2
 rw[←h2]at h1
 rcases h with⟨e1,e2,e3⟩ | ⟨e1,e2,e3⟩
 ·rw[if_neg (by omega),e2]
  rw[e3]at h1
  rcases Nat.mul_eq_zero.1 h1 with h | h
  ·exact h
  ·have:=Nat.two_pow_pos (15-n);omega
 ·rw[if_pos e1]
  have e4:(code+1)*2 ^ (n-last)*2 ^ (15-n)=codeOf ns i*2 ^ (15-n):=by
   rw[Nat.mul_assoc,←Nat.pow_add,show n-last+(15-n)=15-last by omega,e3,h1]
  exact(Nat.eq_of_mul_eq_mul_right (Nat.two_pow_pos _) e4).symm

theorem Cnt.next{ns:List Nat}{i:Nat}(hi:i∈ris ns):Cnt ns (key ns i) (i+1) (codeOf ns i) (key ns i):=by
 refine .inr ⟨by have:=(mem_ris.1 hi).2;omega,Nat.le_refl _,?_⟩
 rw[sumP_next ns i hi,Nat.add_mul,code_start,Nat.one_mul]

theorem Cnt.miss{ns:List Nat}{n i code last:Nat}(h:Cnt ns n i code last)(hk:key ns i≠n):Cnt ns n (i+1) code last:=by
 unfold Cnt
 rw[sumP_miss ns n i hk]
 exact h

theorem Cnt.round{ns:List Nat}{n code last:Nat}(h:Cnt ns n ns.length code last):Cnt ns (n+1) 0 code last:=by
 unfold Cnt
 rw[←sumP_round]
 rcases h with h | ⟨h1,h2,h3⟩
 ·exact .inl h
 ·exact .inr ⟨h1,by omega,h3⟩

def laidR(ns:List Nat)(n i s:Nat):Prop:=key ns s≠0∧pre ns n i s

set_option maxRecDepth 100000 in
set_option maxHeartbeats 4000000 in
theorem rows_any(w:World)(v:Value)(I:Nat→Prop)(ns:List Nat)(hs:SrcE natV w I v ns)(hn:ns.length≤288)(h15:∀n∈ns,n≤15)(hm:measure ns≤32768):
  Calls Tryz.prog 68 #[v] w fun e w'=>∃go rs,e=.returned (.slice (some ⟨go,0,none⟩) ns.length ns.length)∧RW w w' go ns.length ns (fun s=>key ns s≠0) rs:=by
 obtain⟨ao,cap,rfl,hx1,hx2⟩:=id hs
 clear hx1 hx2
 have HS:Hid (SrcE natV w I (.slice ao ns.length cap) ns):=hs
 have H15:Hid (∀n∈ns,n≤15):=h15
 have HM:Hid (measure ns≤32768):=hm
 clear hs h15 hm
 obtain⟨L,hL⟩:∃L,L=ns.length:=⟨_,rfl⟩
 rw[←hL]at HS hn ⊢
 have HL:Hid (L=ns.length):=hL
 clear hL
 go_enter Tryz.func68,Tryz.ntmps68
 go_wp2_with (at_make;refine wpList_make_e _ slV (none,0,0) w.heap.size 39 22 24 Tryz.underlying39 Tryz.infoB rfl (by decide) rfl _ _ rfl _ _ _ _ L rfl rfl rfl rfl (by omega) (Nat.le_refl _) ?_;intro w1 hr1 hg1 hs1;have HRW0:Hid (RW w w1 w.heap.size L ns (laidR ns 1 0) (List.replicate L (none,0,0))):=hid ⟨hr1,fun s hs hp=>absurd hp (by rintro⟨h1,h2 | h2⟩<;>omega),fun s hs _=>by simp,(Kept.refl _ w).grown hg1 (by simp)⟩;clear hr1 hg1)
 go_loopg [4,5,6] 15 (fun q zc zl zn wr=>∃(n code last:Nat) (rs:List (Option Addr×Nat×Nat)),16-n≤q∧1≤n∧n≤16∧code≤32768∧last≤15∧zn=.int .i64 (n:Nat)∧zc=.int .i64 (code:Nat)∧zl=.int .i64 (last:Nat)∧Hid (Cnt ns n 0 code last)∧Hid (RW w wr w.heap.size L ns (laidR ns n 0) rs∧rs.length=L))
 case atStart=>exact⟨1,0,0,_,by omega,by omega,by omega,by omega,by omega,rfl,rfl,rfl,hid (.inl ⟨rfl,rfl,sumP_start ns⟩),hid ⟨HRW0.out,by simp⟩⟩
 case round=>
  obtain⟨n,code,last,rs,hq,hn1,hn16,hcode,hlast,rfl,rfl,rfl,HC,HR⟩:=hrel
  clear HRW0
  obtain⟨gk0,hgk⟩:∃x,x=gk:=⟨_,rfl⟩
  rw[←hgk]at hq
  have HG:Hid (gk0=gk):=hgk
  clear hgk
  by_cases hn15:n≤15
  ·have bn:decide ((n:Int)≤15)=true:=by simp;omega
   go_wp2_with fail
   go_loopg [4,5,7] L (fun q zc zl zi wr=>∃(i code last:Nat) (rs:List (Option Addr×Nat×Nat)),L-i≤q∧i≤L∧code≤32768∧last≤n∧zi=.int .i64 (i:Nat)∧zc=.int .i64 (code:Nat)∧zl=.int .i64 (last:Nat)∧Hid (Cnt ns n i code last)∧Hid (RW w wr w.heap.size L ns (laidR ns n i) rs∧rs.length=L))
   case atStart=>exact⟨0,code,last,rs,by omega,by omega,by omega,by rcases HC.out with⟨h,_⟩ | ⟨_,h,_⟩<;>omega,rfl,rfl,rfl,HC,HR⟩
   case round=>
    clear HC HR hcode hlast
    obtain⟨i,code,last,rs,hq2,hi,hcode,hlast,rfl,rfl,rfl,HC,HR⟩:=hrel
    obtain⟨gk1,hgk1⟩:∃x,x=gk:=⟨_,rfl⟩
    rw[←hgk1]at hq2
    have HG1:Hid (gk1=gk):=hgk1
    clear hgk1
    by_cases hlt:i<L
    ·have hin:i<ns.length:=by have:=HL.out;omega
     obtain⟨b,o,cap',e,_,_,cx⟩:=(HS.out.same HR.out.1.same).get i hin
     simp only[Value.slice.injEq]at e
     obtain⟨rfl,hxe,rfl⟩:=e
     clear hxe
     rw[←key_get hin]at cx
     unfold natV at cx
     obtain⟨k,hk⟩:∃k,k=key ns i:=⟨_,rfl⟩
     rw[←hk]at cx
     by_cases hkn:k=n
     ·have hkn':key ns i=n:=by omega
      have hmem:i∈ris ns:=mem_ris.2 ⟨hin,by omega⟩
      have hbd:((k:Int) != (n:Int))=false:=by simp[hkn]
      obtain⟨co,hco⟩:∃co,co=codeOf ns i:=⟨_,rfl⟩
      have hcol:co≤32768:=by rw[hco];exact Cnt.code_le (Cnt.next hmem) HM.out
      have hhit:=HC.out.hit hkn' hn15
      rw[←hco]at hhit
      have HCN:Hid (Cnt ns n (i+1) co n):=hid (by have h:=Cnt.next hmem;rw[hkn',←hco]at h;exact h)
      have HFIN:Hid (∀(w5:World) (a:Option Addr) (l c:Nat),RW w w5 w.heap.size L ns (laidR ns n i) rs→Row w5 (.slice a l c) (rowB n co)→(∀k,(Value.slice a l c).ownBlock=some k→w.heap.size≤k)→RW w (w5.setCell ⟨w.heap.size,i,none⟩ (.slice a l c)) w.heap.size L ns (laidR ns n (i+1)) (rs.set i (a,l,c))):=hid (by
       intro w5 a l c h1 h2 h3
       refine(h1.put i a l c (by have:=HR.out.2;omega) (by rw[hkn',←hco];exact h2) h3).mono (fun s hs=>?_)
       unfold laidR pre
       constructor
       ·rintro(rfl | ⟨h4,h5⟩)
        ·exact⟨by omega,.inr ⟨hkn',by omega⟩⟩
        ·exact⟨h4,by rcases h5 with h5 | h5;exact .inl h5;exact .inr ⟨h5.1,by omega⟩⟩
       ·rintro⟨h4,h5⟩
        by_cases e:s=i
        ·exact .inl e
        ·exact .inr ⟨h4,by rcases h5 with h5 | h5;exact .inl h5;exact .inr ⟨h5.1,by omega⟩⟩)
      have cgo:∀w5,RW w w5 w.heap.size L ns (laidR ns n i) rs→(∃u,w5.cell? ⟨w.heap.size,i,none⟩=some u)∧w5.frozen? ⟨w.heap.size,i,none⟩=false:=fun w5 h=>⟨⟨_,h.row.cell i (by have:=HR.out.2;omega)⟩,h.row.frozen i⟩
      have HGO:Hid (∀w5,RW w w5 w.heap.size L ns (laidR ns n i) rs→(∃u,w5.cell? ⟨w.heap.size,i,none⟩=some u)∧w5.frozen? ⟨w.heap.size,i,none⟩=false):=cgo
      clear cgo hk hkn hmem hco
      by_cases hl0:0<last
      ·rw[if_pos hl0]at hhit
       have HPW:=power_any wr (n-last) (by omega)
       obtain⟨pw,hpw⟩:∃pw,pw=2 ^ (n-last):=⟨_,rfl⟩
       rw[←hpw]at HPW hhit
       have hsub:((n:Int)-(last:Int))=((n-last:Nat):Int):=by omega
       have hcoI:((code:Int)+1)*(pw:Int)=(co:Int):=by rw[hhit];simp
       have bl:decide (0<last)=true:=by simp[hl0]
       clear hpw hhit
       go_wp2_with fail
       refine HPW.mono ?_
       rintro e w2 ⟨rfl,rfl⟩
       clear HPW
       have hWs:w.heap.size<w2.heap.size:=HR.out.1.row.lt rfl
       go_wp2_with (at_make;refine wpList_make_bytes _ rfl _ _ rfl _ _ _ _ n rfl rfl rfl rfl (by omega) ?_;intro w5 hr5 hg5 hs5;have HROW0:Hid (Row w5 (.slice (some ⟨w2.heap.size,0,none⟩) n n) (List.replicate n 0)):=hr5;have HSM0:Hid (Same w2 w5):=hid ((Kept.refl _ w2).grown hg5 (by simp));clear hr5 hg5 hs5)
       go_loopg [9,10] n (fun q zc zk wx=>∃(m cc:Nat) (tl:List Nat),m≤q∧m≤n∧cc≤32768∧zc=.int .i64 (cc:Nat)∧zk=.int .i64 ((m:Int)-1)∧Hid (rowB n co=rowB m cc++tl)∧Hid (RowE 0 5 byteV wx (.slice (some ⟨w2.heap.size,0,none⟩) n n) (List.replicate m 0++tl))∧Hid (Same w2 wx))
       case atStart=>exact⟨n,co,[],by omega,by omega,by omega,rfl,by first | rfl | (congr 1;omega),hid (by simp),hid (by simpa using HROW0.out),HSM0⟩
       case round=>
        clear HROW0 HSM0
        obtain⟨m,cc,tl,hq3,hmn,hcc,rfl,rfl,HB,HROW,HSM⟩:=hrel
        cases m with
        | zero=>
         obtain⟨⟨u5,cu5⟩,fu5⟩:=HGO.out wr (HR.out.1.later HSM.out)
         have HRNEW:Hid (RW w (wr.setCell ⟨w.heap.size,i,none⟩ (.slice (some ⟨w2.heap.size,0,none⟩) n n)) w.heap.size L ns (laidR ns n (i+1)) (rs.set i (some ⟨w2.heap.size,0,none⟩,n,n))):=hid (HFIN.out wr _ n n (HR.out.1.later HSM.out) (by
          have h:=HROW.out
          have e:rowB n co=List.replicate 0 0++tl:=by rw[HB.out];rfl
          rw[←e]at h
          exact h) (fun j hj=>by simp[Value.ownBlock]at hj;omega))
         have bk:decide ((0:Int)≤((0:Nat):Int)-1)=false:=by decide
         go_wp2_with fail
         go_roundg (gk1-1)
         case measure=>have:=HG1.out;omega
         case rel=>exact⟨i+1,co,n,rs.set i (some ⟨w2.heap.size,0,none⟩,n,n),by omega,by omega,by omega,by omega,by go_num,rfl,rfl,HCN,hid ⟨HRNEW.out,by rw[List.length_set];exact HR.out.2⟩⟩
        | succ m=>
         have hkm:(((m+1:Nat):Int)-1)=(m:Int):=by omega
         have hml:m<(List.replicate (m+1) 0++tl).length:=by simp;omega
         obtain⟨y,cy⟩:∃y:Nat,wr.cell? ⟨w2.heap.size,m,none⟩=some (.int .u8 (y:Nat)):=⟨_,HROW.out.cell m hml⟩
         have fy:=HROW.out.frozen m
         obtain⟨bt,hbt⟩:∃bt,bt=cc % 2:=⟨_,rfl⟩
         obtain⟨c2,hc2⟩:∃c2,c2=cc / 2:=⟨_,rfl⟩
         have hbI:((cc:Int) % 2)=(bt:Int):=by omega
         have hcI:((cc:Int) / 2)=(c2:Int):=by omega
         have hb2:bt<2:=by omega
         have hc2l:c2≤32768:=by omega
         have HB2:Hid (rowB n co=rowB m c2++bt::tl):=hid (by rw[HB.out,hbt,hc2];simp[rowB])
         have HROW2:Hid (RowE 0 5 byteV (wr.setCell ⟨w2.heap.size,m,none⟩ (.int .u8 (bt:Nat))) (.slice (some ⟨w2.heap.size,0,none⟩) n n) (List.replicate m 0++bt::tl)):=hid (by
          have h:=HROW.out.lay m bt
          have e:(List.replicate (m+1) 0++tl).set m bt=List.replicate m 0++bt::tl:=by
           rw[List.replicate_succ',List.append_assoc,List.set_append_right _ _ (by simp)]
           simp
          rw[e]at h
          exact h)
         have HSM2:Hid (Same w2 (wr.setCell ⟨w2.heap.size,m,none⟩ (.int .u8 (bt:Nat)))):=hid (HSM.out.setCell _ _ (.inr (Nat.le_refl _)))
         clear hbt hc2
         go_wp2_with fail
         go_roundg (gk-1)
         case measure=>omega
         case rel=>exact⟨m,c2,bt::tl,by omega,by omega,hc2l,by first | rfl | (congr 1;omega),by first | rfl | (congr 1;omega),HB2,HROW2,HSM2⟩
      ·rw[if_neg hl0]at hhit
       have bl:decide (0<last)=false:=by simp;omega
       have hcoI:(code:Int)=(co:Int):=by rw[hhit]
       rw[←hhit]at *
       obtain⟨w2,hw2⟩:∃w2,w2=wr:=⟨_,rfl⟩
       subst hw2
       have hWs:w.heap.size<w2.heap.size:=HR.out.1.row.lt rfl
       go_wp2_with (at_make;refine wpList_make_bytes _ rfl _ _ rfl _ _ _ _ n rfl rfl rfl rfl (by omega) ?_;intro w5 hr5 hg5 hs5;have HROW0:Hid (Row w5 (.slice (some ⟨w2.heap.size,0,none⟩) n n) (List.replicate n 0)):=hr5;have HSM0:Hid (Same w2 w5):=hid ((Kept.refl _ w2).grown hg5 (by simp));clear hr5 hg5 hs5)
       go_loopg [9,10] n (fun q zc zk wx=>∃(m cc:Nat) (tl:List Nat),m≤q∧m≤n∧cc≤32768∧zc=.int .i64 (cc:Nat)∧zk=.int .i64 ((m:Int)-1)∧Hid (rowB n co=rowB m cc++tl)∧Hid (RowE 0 5 byteV wx (.slice (some ⟨w2.heap.size,0,none⟩) n n) (List.replicate m 0++tl))∧Hid (Same w2 wx))
       case atStart=>exact⟨n,co,[],by omega,by omega,by omega,rfl,by first | rfl | (congr 1;omega),hid (by simp),hid (by simpa using HROW0.out),HSM0⟩
       case round=>
        clear HROW0 HSM0
        obtain⟨m,cc,tl,hq3,hmn,hcc,rfl,rfl,HB,HROW,HSM⟩:=hrel
        cases m with
        | zero=>
         obtain⟨⟨u5,cu5⟩,fu5⟩:=HGO.out wr (HR.out.1.later HSM.out)
         have HRNEW:Hid (RW w (wr.setCell ⟨w.heap.size,i,none⟩ (.slice (some ⟨w2.heap.size,0,none⟩) n n)) w.heap.size L ns (laidR ns n (i+1)) (rs.set i (some ⟨w2.heap.size,0,none⟩,n,n))):=hid (HFIN.out wr _ n n (HR.out.1.later HSM.out) (by
          have h:=HROW.out
          have e:rowB n co=List.replicate 0 0++tl:=by rw[HB.out];rfl
          rw[←e]at h
          exact h) (fun j hj=>by simp[Value.ownBlock]at hj;omega))
         have bk:decide ((0:Int)≤((0:Nat):Int)-1)=false:=by decide
         go_wp2_with fail
         go_roundg (gk1-1)
         case measure=>have:=HG1.out;omega
         case rel=>exact⟨i+1,co,n,rs.set i (some ⟨w2.heap.size,0,none⟩,n,n),by omega,by omega,by omega,by omega,by go_num,rfl,rfl,HCN,hid ⟨HRNEW.out,by rw[List.length_set];exact HR.out.2⟩⟩
        | succ m=>
         have hkm:(((m+1:Nat):Int)-1)=(m:Int):=by omega
         have hml:m<(List.replicate (m+1) 0++tl).length:=by simp;omega
         obtain⟨y,cy⟩:∃y:Nat,wr.cell? ⟨w2.heap.size,m,none⟩=some (.int .u8 (y:Nat)):=⟨_,HROW.out.cell m hml⟩
         have fy:=HROW.out.frozen m
         obtain⟨bt,hbt⟩:∃bt,bt=cc % 2:=⟨_,rfl⟩
         obtain⟨c2,hc2⟩:∃c2,c2=cc / 2:=⟨_,rfl⟩
         have hbI:((cc:Int) % 2)=(bt:Int):=by omega
         have hcI:((cc:Int) / 2)=(c2:Int):=by omega
         have hb2:bt<2:=by omega
         have hc2l:c2≤32768:=by omega
         have HB2:Hid (rowB n co=rowB m c2++bt::tl):=hid (by rw[HB.out,hbt,hc2];simp[rowB])
         have HROW2:Hid (RowE 0 5 byteV (wr.setCell ⟨w2.heap.size,m,none⟩ (.int .u8 (bt:Nat))) (.slice (some ⟨w2.heap.size,0,none⟩) n n) (List.replicate m 0++bt::tl)):=hid (by
          have h:=HROW.out.lay m bt
          have e:(List.replicate (m+1) 0++tl).set m bt=List.replicate m 0++bt::tl:=by
           rw[List.replicate_succ',List.append_assoc,List.set_append_right _ _ (by simp)]
           simp
          rw[e]at h
          exact h)
         have HSM2:Hid (Same w2 (wr.setCell ⟨w2.heap.size,m,none⟩ (.int .u8 (bt:Nat)))):=hid (HSM.out.setCell _ _ (.inr (Nat.le_refl _)))
         clear hbt hc2
         go_wp2_with fail
         go_roundg (gk-1)
         case measure=>omega
         case rel=>exact⟨m,c2,bt::tl,by omega,by omega,hc2l,by first | rfl | (congr 1;omega),by first | rfl | (congr 1;omega),HB2,HROW2,HSM2⟩
     ·have hbd:((k:Int) != (n:Int))=true:=by simp;omega
      have HCM:Hid (Cnt ns n (i+1) code last):=hid (HC.out.miss (by omega))
      have HRM:Hid (RW w wr w.heap.size L ns (laidR ns n (i+1)) rs∧rs.length=L):=hid ⟨HR.out.1.mono (fun s hs=>by
       unfold laidR pre
       constructor
       ·rintro⟨h4,h5⟩
        exact⟨h4,by rcases h5 with h5 | h5;exact .inl h5;exact .inr ⟨h5.1,by omega⟩⟩
       ·rintro⟨h4,h5⟩
        refine⟨h4,?_⟩
        rcases h5 with h5 | h5
        ·exact .inl h5
        ·refine .inr ⟨h5.1,?_⟩
         by_cases e:s=i
         ·subst e;omega
         ·omega),HR.out.2⟩
      clear hk hkn
      go_wp2_with fail
      go_roundg (gk1-1)
      case measure=>have:=HG1.out;omega
      case rel=>exact⟨i+1,code,last,rs,by omega,by omega,by omega,by omega,by go_num,rfl,rfl,HCM,HRM⟩
    ·have hiL:i=L:=by omega
     have HCR:Hid (Cnt ns (n+1) 0 code last):=hid (Cnt.round (by have h:=HC.out;rw[hiL,HL.out]at h;exact h))
     have HRR:Hid (RW w wr w.heap.size L ns (laidR ns (n+1) 0) rs∧rs.length=L):=hid ⟨HR.out.1.mono (fun s hs=>by
      have:=HR.out.2
      unfold laidR pre
      constructor
      ·rintro⟨h4,h5⟩
       exact⟨h4,.inl (by omega)⟩
      ·rintro⟨h4,h5⟩
       refine⟨h4,?_⟩
       rcases h5 with h5 | h5
       ·by_cases e:key ns s<n
        ·exact .inl e
        ·exact .inr ⟨by omega,by omega⟩
       ·omega),HR.out.2⟩
     clear hiL
     go_wp2_with fail
     go_roundg (gk0-1)
     case measure=>have:=HG.out;omega
     case rel=>exact⟨n+1,code,last,rs,by omega,by omega,by omega,by omega,by omega,by go_num,rfl,rfl,HCR,HRR⟩
  ·have bn:decide ((n:Int)≤15)=false:=by simp;omega
   go_wp2_with fail
   go_ret
   refine⟨w.heap.size,rs,rfl,HR.out.1.mono (fun s hs=>?_)⟩
   have h15:key ns s≤15:=by
    by_cases e:s<ns.length
    ·rw[key_get e];exact H15.out _ (List.getElem_mem _)
    ·simp[key,e]
   unfold laidR pre
   constructor
   ·exact fun h=>h.1
   ·exact fun h=>⟨h,.inl (by omega)⟩

end Go.Proofs.YtggcbnhckcenmaaGreatDoor
