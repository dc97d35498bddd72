import Derived.Test.YtggcbnhckcenmaaGreatDoorInHd
import Derived.Test.YtggcbnhckcenmaaGreatDoorInEq
import Derived.Test.YtggcbnhckcenmaaGreatDoorOf
namespace Go.Proofs.YtggcbnhckcenmaaGreatDoor
set_option maxRecDepth 100000
set_option maxHeartbeats 8000000
open Go.RowKit

theorem blk5_of {ls:List Nat}{most:Nat}{s s1 s2:S5}{l k:Nat}(t1:tk ls s 1=(l,s1))(t2:tk ls s1 2=(k,s2)):
  (s2.e≠0→blk5 ls most s=(l,s2))∧(s2.e=0→k=0→blk5 ls most s=(l,stored5 ls most s2))∧(s2.e=0→k=1→blk5 ls most s=(l,syms5 ls most fixL fixD(ls.length+1)s2)) ∧
  (s2.e=0→k=2→∀e,head5 ls s2.c=.error e→blk5 ls most s=(l,{s2 with e:=e}))∧(s2.e=0→k=2→∀x d n,head5 ls s2.c=.ok((x,d),n)→blk5 ls most s=(l,syms5 ls most x d(ls.length+1){s2 with c:=s2.c+n})) ∧
  (s2.e=0→k≠0→k≠1→k≠2→blk5 ls most s=(l,{s2 with e:=50})):=by
 unfold blk5
 simp only[t1,t2]
 refine⟨fun h=>by rw[if_pos h],fun h hk=>by rw[if_neg(fun x=>x h),if_pos hk],fun h hk=>?_,fun h hk e he=>?_,fun h hk x d n he=>?_,fun h k0 k1 k2=>by rw[if_neg(fun x=>x h),if_neg k0,if_neg k1,if_neg k2]⟩
 ·subst hk;rw[if_neg(fun x=>x h),if_neg(by decide),if_pos rfl]
 ·subst hk;rw[if_neg(fun x=>x h),if_neg(by decide),if_neg(by decide),if_pos rfl];simp only[he]
 ·subst hk;rw[if_neg(fun x=>x h),if_neg(by decide),if_neg(by decide),if_pos rfl];simp only[he]

def RdL(ls:List Nat)(most l f:Nat)(s:S5):Prop:=(l=0∧infl5 ls most=read5 ls most f s∧(s.e=0→ls.length-s.c<f))∨(l≠0∧infl5 ls most=s)

theorem RdL.stuck {ls:List Nat}{most l f:Nat}{s:S5}(h:RdL ls most l f s)(he:l≠0∨s.e≠0):infl5 ls most=s:=by
 rcases h with⟨h0,h1,_⟩ | ⟨_,h1⟩
 ·rw[h1]
  have h9:s.e≠0:=he.resolve_left(fun h=>h h0)
  cases f with
  | zero=>rfl
  | succ f=>unfold read5;rw[if_pos h9]
 ·exact h1

theorem RdL.next {ls:List Nat}(hb:∀b∈ls,b<2){most l l' f:Nat}{s s':S5}(h:RdL ls most l f s)(h0:l=0)(he:s.e=0)(ho:s.out.length≤most)(hblk:blk5 ls most s=(l',s')):1≤f∧RdL ls most l'(f-1)s':=by
 rcases h with⟨_,h1,h2⟩ | ⟨h9,_⟩
 ·have hf:=h2 he
  obtain⟨f,rfl⟩:∃g,f=g+1:=⟨f-1,by omega⟩
  refine⟨by omega,?_⟩
  unfold read5 at h1
  rw[if_neg(by omega),hblk]at h1
  simp only at h1
  rw[Nat.add_sub_cancel]
  by_cases hl:l'=0
  ·rw[if_pos hl]at h1
   refine .inl⟨hl,h1,fun he'=>?_⟩
   have hs:=blk_says ls hb most s he ho
   rw[hblk]at hs
   rcases hs with⟨_,h4,h5,_⟩ | ⟨h4,_⟩
   ·simp only at h4 h5;omega
   ·exact absurd he' h4
  ·rw[if_neg hl]at h1
   exact .inr⟨hl,h1⟩
 ·exact absurd h0 h9

theorem SrcE.inn {α:Type}{enc:α→Value}{w:World}{I:Nat→Prop}{v:Value}{xs:List α}(h:SrcE enc w I v xs):SrcE enc w(fun k=>I k∧k<w.heap.size)v xs:=by
 obtain⟨ao,cap,h1,h2,h3⟩:=h
 refine⟨ao,cap,h1,h2,fun hne=>?_⟩
 obtain⟨b,o,h4,h5,h6⟩:=h3 hne
 have hpos:0<xs.length:=by cases xs with | nil=>exact absurd rfl hne | cons _ _=>simp
 exact⟨b,o,h4,⟨h5,World.block_lt_of_cell? w _(h6 0 hpos)⟩,h6⟩

theorem fix_lst:fixL.length≤288∧(∀n∈fixL,n≤15)∧measure fixL≤32768∧fixD.length≤288∧(∀n∈fixD,n≤15)∧measure fixD≤32768:=by
 refine⟨by decide +kernel,by decide +kernel,by decide +kernel,by decide +kernel,by decide +kernel,by decide +kernel⟩

theorem RS.out_lt {w:World}{I G:Nat→Prop}{h:Nat}{v:Value}{ls:List Nat}{most:Nat}{s:S5}{c:Nat}{vo:Value}(r:RS w I G h v ls most s c vo):∀k,vo.ownBlock=some k→k<w.heap.size:=fun _ e=>r.row.lt e

structure ReadR(w w':World)(h:Nat)(vb:Value)(c:Nat)(vo:Value)(most:Nat)(ls:List Nat)(s:S5):Prop where
 blk:RdB w' h vb c vo most s.e
 row:Row w' vo s.out
 pl:s.e=0→c=s.c
 le:c≤ls.length
 ol:s.out.length≤most
 by':∀b∈s.out,b<256
 same:Same w w'
 hnew:w.heap.size≤h
 onew:∀k,vo.ownBlock=some k→w.heap.size≤k
 ne:vo.ownBlock≠some h

theorem read5_any(w:World)(v:Value)(I:Nat→Prop)(bs:List Nat)(most:Nat)(hs:Src w I v bs)(hb:∀b∈bs,b<256)(hlen:bs.length≤100000)(hm:most≤16384):
  Calls Tryz.prog 64 #[v,.int .i64(most:Nat)]w fun x w'=>∃h vb c vo,x=.returned(.pointer(some⟨h,0,none⟩))∧ReadR w w' h vb c vo most(ofBytes bs)(infl5(ofBytes bs)most):=by
 have HOF:=refOf_any w v I bs hs(by omega)hb
 obtain⟨ls,hls⟩:∃ls,ls=ofBytes bs:=⟨_,rfl⟩
 have hl8:ls.length=8*bs.length:=by rw[hls,ofBytes_length]
 have hz:Sz ls most:=⟨by rw[hls];exact ofBytes_lt bs,by omega,by omega⟩
 have HZ:Hid(Sz ls most):=hz
 have H8:Hid(ls.length % 8=0):=hid(by omega)
 rw[←hls]at HOF ⊢
 obtain⟨M,hM⟩:∃M,M=ls.length:=⟨_,rfl⟩
 have HM:Hid(M=ls.length):=hM
 clear hs hb hls hl8 hz hM hlen
 go_enter Tryz.func64,Tryz.ntmps64
 go_wp2_with fail
 refine HOF.mono ?_
 rintro x w1⟨vb,rfl,hg1⟩
 have hk1:Same w w1:=hg1.kept.mono(fun _ _ e=>by cases e)
 have HK1:Hid(Same w w1):=hk1
 have HB1:Hid(Row w1 vb ls):=hid hg1.row
 obtain⟨ab,cb,hvb,_⟩:=hg1.row.shape
 generalize ls.length=nb at hvb
 subst hvb
 obtain⟨h,hh⟩:∃h,h=w1.heap.size:=⟨_,rfl⟩
 have HG0:Hid(RX(w1.alloc(.cells #[.slice ab nb cb,.int .i64 0,.slice none 0 0,.int .i64(most:Nat),.int .i64 0]87))(fun k=>(Value.slice ab nb cb).ownBlock=some k)(fun k=>k<w1.heap.size)h(.slice ab nb cb)ls most⟨0,[],0⟩):=hid⟨0,.slice none 0 0,by rw[hh];exact Blk.new w1 _ _,World.ownsRow_nil _ 0 5 1,(by intro e;cases e),(by omega),(fun k e=>by cases e),(fun k hk=>by simp;omega),Src.ofRow(HB1.out.kept((Kept.refl(fun _=>False)w1).alloc _)(fun _ _ f=>f)),(fun k e=>HB1.out.lt e),(fun _=>rfl),Nat.zero_le _,Nat.zero_le _,(fun b hb=>by simp at hb)⟩
 obtain⟨G,hG⟩:∃G:Nat→Prop,G=fun k=>k<w1.heap.size:=⟨_,rfl⟩
 obtain⟨J,hJ⟩:∃J:Nat→Prop,J=fun k=>(Value.slice ab nb cb).ownBlock=some k:=⟨_,rfl⟩
 rw[←hG,←hJ]at HG0
 obtain⟨W2,hW2⟩:∃W,W=w1.alloc(.cells #[.slice ab nb cb,.int .i64 0,.slice none 0 0,.int .i64(most:Nat),.int .i64 0]87):=⟨_,rfl⟩
 rw[←hW2]at HG0
 have HK2:Hid(Same w W2):=hid(by rw[hW2];exact Same.trans HK1.out((Kept.refl _ w1).alloc _))
 have HGG:Hid(∀k,k<w.heap.size→G k):=hid(fun k hk=>by rw[hG];have:=HK1.out.size;show k<w1.heap.size;omega)
 have HHN:Hid(w.heap.size≤h):=hid(by have:=HK1.out.size;omega)
 have HL0:Hid(RdL ls most 0(M+1)⟨0,[],0⟩):=hid(.inl⟨rfl,by unfold infl5;rw[HM.out],fun _=>by have:=HM.out;simp only;omega⟩)
 have HSM:Hid(∀wx,KG G W2 wx→Same w wx):=hid(fun wx hk=>Same.then HK2.out hk(fun k hk9 f=>f(HGG.out k hk9)))
 have HFIN:Hid(∀wx s,RX wx J G h(.slice ab nb cb)ls most s→KG G W2 wx→infl5 ls most=s→∃h' vb c vo,Ending.returned(Value.pointer(some⟨h,0,none⟩))=.returned(.pointer(some⟨h',0,none⟩))∧ReadR w wx h' vb c vo most ls(infl5 ls most)):=hid(fun wx s hx hk he=>by
  obtain⟨c,vo,r⟩:=hx
  rw[he]
  exact⟨h,_,c,vo,rfl,r.blk,r.row,r.pl,r.le,r.ol,r.by',HSM.out wx hk,HHN.out,fun k e=>Nat.not_lt.1(fun hlt=>r.go k e(HGG.out k hlt)),r.ne⟩)
 clear hk1 hg1 HOF
 go_wp2_with fail
 rw[←hW2,←hh]
 clear hh hW2 hG hJ
 go_loopg [6](M+1)(fun q zl wr=>∃(l f:Nat)(s:S5),zl=.int .i64(l:Nat)∧f≤q∧Hid(RdL ls most l f s)∧Hid(RX wr J G h(.slice ab nb cb)ls most s)∧Hid(KG G W2 wr))
 case atStart=>exact⟨0,M+1,⟨0,[],0⟩,rfl,Nat.le_refl _,HL0,HG0,Kept.refl _ _⟩
 case round=>
  clear HL0 HG0
  obtain⟨l,f,s,rfl,hfq,HL,HR,HK⟩:=hrel
  obtain⟨k4,f4⟩:=HR.out.err
  by_cases hl:l=0
  ·subst hl
   by_cases he:s.e=0
   ·have T1:=take5 wr J G h _ ls most s 1 HZ.out(by decide)HR.out
    obtain⟨l1,s1,ht1⟩:∃l1 s1,tk ls s 1=(l1,s1):=⟨_,_,rfl⟩
    obtain⟨k2,s2,ht2⟩:∃k2 s2,tk ls s1 2=(k2,s2):=⟨_,_,rfl⟩
    have HBO:=hid(blk5_of(most:=most)ht1 ht2)
    have hk2b:=tk_lt ls HZ.out.bit s1 2
    have HE0:Hid(s.e=0):=he
    have HOL:Hid(s.out.length≤most):=hid HR.out.outs.1
    have HNX:Hid(∀l' s',blk5 ls most s=(l',s')→1≤f∧RdL ls most l'(f-1)s'):=hid(fun l' s' hb9=>HL.out.next HZ.out.bit rfl HE0.out HOL.out hb9)
    rw[ht1]at T1
    rw[ht2]at hk2b
    have hk24:k2<4:=hk2b
    rw[he]at k4
    clear hk2b he
    have HT2:Hid(tk ls s1 2=(k2,s2)):=ht2
    clear ht1 ht2
    go_wp2_with fail
    refine T1.mono ?_
    rintro x w2⟨rfl,hr2,hk2⟩
    have HK2':Hid(KG G W2 w2):=hid(HK.out.trans hk2)
    have T2:=take5 w2 J G h _ ls most s1 2 HZ.out(by decide)hr2
    rw[HT2.out]at T2
    clear hr2 hk2 T1 HR HK k4 f4
    go_wp2_with fail
    refine T2.mono ?_
    rintro x w3⟨rfl,hr3,hk3⟩
    have HK3:Hid(KG G W2 w3):=hid(HK2'.out.trans hk3)
    have HR3:Hid(RX w3 J G h(.slice ab nb cb)ls most s2):=hr3
    obtain⟨k4,f4⟩:=hr3.err
    clear hr3 hk3 T2 HK2'
    by_cases he2:s2.e=0
    ·have HE2:Hid(s2.e=0):=he2
     rw[he2]at k4
     clear he2
     by_cases hk0:k2=0
     ·subst hk0
      have S1:=stored5_any w3 J G h _ ls most s2 HZ.out H8.out HE2.out HR3.out
      have HBK:Hid(blk5 ls most s=(l1,stored5 ls most s2)):=hid(HBO.out.2.1 HE2.out rfl)
      go_wp2_with fail
      refine S1.mono ?_
      rintro x w4⟨⟨u,rfl⟩,hr4,hk4⟩
      have HR4:Hid(RX w4 J G h(.slice ab nb cb)ls most(stored5 ls most s2)):=hr4
      have HK4:Hid(KG G W2 w4):=hid(HK3.out.trans hk4)
      have HN4:=hid(HNX.out _ _ HBK.out)
      clear hr4 hk4 S1
      go_wp2_with fail
      go_roundg(gk-1)
      case measure=>have:=HN4.out.1;omega
      case rel=>exact⟨l1,f-1,_,rfl,by omega,hid HN4.out.2,HR4,HK4⟩
     ·have hk0d:((k2:Int)==0)=false:=by simp;omega
      by_cases hk1:k2=1
      ·subst hk1
       have F1:=fixed5 w3
       have HBK:Hid(blk5 ls most s=(l1,syms5 ls most fixL fixD(ls.length+1)s2)):=hid(HBO.out.2.2.1 HE2.out rfl)
       clear hk0
       go_wp2_with fail
       refine F1.mono ?_
       rintro x w4⟨va,vd,rfl,hra,hrd,hk4⟩
       obtain⟨c3,vo3,hrs3⟩:=HR3.out
       have hr4:=hrs3.same hk4
       have HGO:Hid(∀k,G k→RS.all w4 h vo3 k):=hid(fun k g=>hr4.all_of k g)
       have HIG:Hid(∀k,J k→G k):=hid hr4.ig
       have hhl:h<w3.heap.size:=hrs3.blk.lt
       have hol:=hrs3.out_lt
       have HLA:Lst w4(RS.all w4 h vo3)va fixL:=⟨⟨_,SrcE.inn(SrcE.ofRow hra),fun k hk=>⟨hk.2,by have:=hra.ge hk.1;omega,fun e=>by have:=hra.ge hk.1;have:=hol k e;omega⟩⟩,fix_lst.1,fix_lst.2.1,fix_lst.2.2.1⟩
       have HLD:Lst w4(RS.all w4 h vo3)vd fixD:=⟨⟨_,SrcE.inn(SrcE.ofRow hrd),fun k hk=>⟨hk.2,by have:=hrd.ge hk.1;omega,fun e=>by have:=hrd.ge hk.1;have:=hol k e;omega⟩⟩,fix_lst.2.2.2.1,fix_lst.2.2.2.2.1,fix_lst.2.2.2.2.2⟩
       have HK4:Hid(KG G W2 w4):=hid(HK3.out.trans(KG.same hk4))
       have S1:=symbols5 w w4 J(RS.all w4 h vo3)h _ ls most s2 va vd fixL fixD HZ.out⟨c3,vo3,hr4.more⟩(HSM.out w4 HK4.out)(fun k hk=>HGO.out k(HGG.out k hk))(fun _=>⟨HLA,HLD⟩)
       obtain⟨aa,ca,hva,_⟩:=hra.shape
       generalize fixL.length=na at hva
       subst hva
       obtain⟨ad,cd,hvd,_⟩:=hrd.shape
       generalize fixD.length=nd at hvd
       subst hvd
       clear hra hrd hk4 hrs3 hr4 hhl hol HLA HLD F1
       go_wp2_with fail
       refine S1.mono ?_
       rintro x w5⟨⟨u,rfl⟩,hr5,hk5⟩
       have HR5:Hid(RX w5 J G h(.slice ab nb cb)ls most(syms5 ls most fixL fixD(ls.length+1)s2)):=hid(by
        obtain⟨c5,vo5,r5⟩:=hr5
        exact⟨c5,vo5,r5.weak HGO.out HIG.out⟩)
       have HK5:Hid(KG G W2 w5):=hid(HK4.out.trans(KG.less hk5 HGO.out))
       have HN4:=hid(HNX.out _ _ HBK.out)
       clear hr5 hk5 S1
       go_wp2_with fail
       go_roundg(gk-1)
       case measure=>have:=HN4.out.1;omega
       case rel=>exact⟨l1,f-1,_,rfl,by omega,hid HN4.out.2,HR5,HK5⟩
      ·have hk1d:((k2:Int)==1)=false:=by simp;omega
       by_cases hk2:k2=2
       ·subst hk2
        obtain⟨c3,vo3,hrs3⟩:=HR3.out
        obtain⟨sc,so,se⟩:=s2
        have hse:se=0:=HE2.out
        subst hse
        have hcc:c3=sc:=hrs3.pl rfl
        subst hcc
        have hhl:h<w3.heap.size:=hrs3.blk.lt
        have hol:=hrs3.out_lt
        have HD:=head5_any w w3 J G h _ ls most c3 so vo3 HZ.out hrs3(HSM.out w3 HK3.out)HHN.out
        have HRS:Hid(RS w3 J G h(.slice ab nb cb)ls most⟨c3,so,0⟩c3 vo3):=hrs3
        have HHL:Hid(h<w3.heap.size):=hhl
        have HOL3:Hid(∀k,vo3.ownBlock=some k→k<w3.heap.size):=hol
        clear hk0 hk1 hrs3 hhl hol
        go_wp2_with fail
        refine HD.mono ?_
        rintro x w4⟨hha,hk4⟩
        have HK4:Hid(KG G W2 w4):=hid(HK3.out.trans(HRS.out.kg hk4))
        cases hh5:head5 ls c3 with
        | error e=>
         rw[hh5]at hha
         obtain⟨hne,va,vd,c4,rfl,hb4,hc4⟩:=hha
         have HBK:Hid(blk5 ls most s=(l1,⟨c3,so,e⟩)):=hid(HBO.out.2.2.2.1(by first | rfl | trivial)(by first | rfl | trivial)e hh5)
         have hr4:RS w4 J G h(.slice ab nb cb)ls most⟨c4,so,e⟩c4 vo3:=HRS.out.turn hk4 hb4(fun _=>rfl)hc4
         have hr4':RX w4 J G h(.slice ab nb cb)ls most⟨c3,so,e⟩:=⟨c4,vo3,hr4.blk,hr4.row,hr4.ne,hr4.gh,hr4.go,hr4.lt,hr4.src,hr4.ig,fun h9=>absurd h9 hne,hr4.le,hr4.ol,hr4.by'⟩
         have S1:=symbols5 w w4 J G h _ ls most⟨c3,so,e⟩va vd [] []HZ.out hr4'(HSM.out w4 HK4.out)HGG.out(fun h9=>absurd h9 hne)
         rw[syms_stuck _ _ _ _ _ _ hne]at S1
         clear hb4 hc4 hr4 hr4' hh5 hne hk4 HD
         go_wp2_with fail
         refine S1.mono ?_
         rintro x w5⟨⟨u,rfl⟩,hr5,hk5⟩
         have HR5:Hid(RX w5 J G h(.slice ab nb cb)ls most⟨c3,so,e⟩):=hr5
         have HK5:Hid(KG G W2 w5):=hid(HK4.out.trans hk5)
         have HN4:=hid(HNX.out _ _ HBK.out)
         clear hr5 hk5 S1
         go_wp2_with fail
         go_roundg(gk-1)
         case measure=>have:=HN4.out.1;omega
         case rel=>exact⟨l1,f-1,_,rfl,by omega,hid HN4.out.2,HR5,HK5⟩
        | ok y=>
         obtain⟨⟨xl,xd⟩,n⟩:=y
         rw[hh5]at hha
         obtain⟨va,vd,rfl,hb4,hc4,hsa,hsd,hla,hld⟩:=hha
         have HBK:Hid(blk5 ls most s=(l1,syms5 ls most xl xd(ls.length+1)⟨c3+n,so,0⟩)):=hid(HBO.out.2.2.2.2.1(by first | rfl | trivial)(by first | rfl | trivial)xl xd n hh5)
         have hr4:RS w4 J G h(.slice ab nb cb)ls most⟨c3+n,so,0⟩(c3+n)vo3:=HRS.out.turn hk4 hb4(fun _=>rfl)hc4
         have HGO:Hid(∀k,G k→RS.all w4 h vo3 k):=hid(fun k g=>hr4.all_of k g)
         have HIG:Hid(∀k,J k→G k):=hid hr4.ig
         have HLA:Lst w4(RS.all w4 h vo3)va xl:=⟨⟨_,SrcE.inn hsa,fun k hk=>⟨hk.2,by have:=hk.1;have:=HHL.out;unfold Over at *;omega,fun e=>by have:=hk.1;have:=HOL3.out k e;unfold Over at *;omega⟩⟩,hla.1,hla.2.1,hla.2.2⟩
         have HLD:Lst w4(RS.all w4 h vo3)vd xd:=⟨⟨_,SrcE.inn hsd,fun k hk=>⟨hk.2,by have:=hk.1;have:=HHL.out;unfold Over at *;omega,fun e=>by have:=hk.1;have:=HOL3.out k e;unfold Over at *;omega⟩⟩,hld.1,hld.2.1,hld.2.2⟩
         have S1:=symbols5 w w4 J(RS.all w4 h vo3)h _ ls most⟨c3+n,so,0⟩va vd xl xd HZ.out⟨c3+n,vo3,hr4.more⟩(HSM.out w4 HK4.out)(fun k hk=>HGO.out k(HGG.out k hk))(fun _=>⟨HLA,HLD⟩)
         clear hb4 hc4 hr4 hh5 hsa hsd hla hld HLA HLD hk4 HD
         go_wp2_with fail
         refine S1.mono ?_
         rintro x w5⟨⟨u,rfl⟩,hr5,hk5⟩
         have HR5:Hid(RX w5 J G h(.slice ab nb cb)ls most(syms5 ls most xl xd(ls.length+1)⟨c3+n,so,0⟩)):=hid(by
          obtain⟨c5,vo5,r5⟩:=hr5
          exact⟨c5,vo5,r5.weak HGO.out HIG.out⟩)
         have HK5:Hid(KG G W2 w5):=hid(HK4.out.trans(KG.less hk5 HGO.out))
         have HN4:=hid(HNX.out _ _ HBK.out)
         clear hr5 hk5 S1
         go_wp2_with fail
         go_roundg(gk-1)
         case measure=>have:=HN4.out.1;omega
         case rel=>exact⟨l1,f-1,_,rfl,by omega,hid HN4.out.2,HR5,HK5⟩
       ·have hk2d:((k2:Int)==2)=false:=by simp;omega
        have HBK:Hid(blk5 ls most s=(l1,{s2 with e:=50})):=hid(HBO.out.2.2.2.2.2 HE2.out hk0 hk1 hk2)
        have hw:=HR3.out.wrong 50(by decide)
        have HW:=hid hw
        have HN4:=hid(HNX.out _ _ HBK.out)
        clear hk0 hk1 hk2 hw
        go_wp2_with fail
        go_roundg(gk-1)
        case measure=>have:=HN4.out.1;omega
        case rel=>exact⟨l1,f-1,_,rfl,by omega,hid HN4.out.2,hid HW.out.1,hid(HK3.out.trans HW.out.2)⟩
    ·have HBK:Hid(blk5 ls most s=(l1,s2)):=hid(HBO.out.1 he2)
     have HSG:Hid(infl5 ls most=s2):=hid((HNX.out _ _ HBK.out).2.stuck(.inr he2))
     obtain⟨e7,he7⟩:∃e7,e7=s2.e:=⟨_,rfl⟩
     rw[←he7]at he2 k4
     have hed:((e7:Int) != 0)=true:=by simp;omega
     clear he7
     go_wp2_with fail
     go_ret
     exact HFIN.out _ _ HR3.out HK3.out HSG.out
   ·have HSG:Hid(infl5 ls most=s):=hid(HL.out.stuck(.inr he))
    obtain⟨e7,he7⟩:∃e7,e7=s.e:=⟨_,rfl⟩
    rw[←he7]at he k4
    have hed:((e7:Int)==0)=false:=by simp;omega
    clear he7
    go_wp2_with fail
    go_ret
    exact HFIN.out _ _ HR.out HK.out HSG.out
  ·have HSG:Hid(infl5 ls most=s):=hid(HL.out.stuck(.inl hl))
   have hld:((l:Int)==0)=false:=by simp;omega
   clear hl
   go_wp2_with fail
   go_ret
   exact HFIN.out _ _ HR.out HK.out HSG.out

end Go.Proofs.YtggcbnhckcenmaaGreatDoor
