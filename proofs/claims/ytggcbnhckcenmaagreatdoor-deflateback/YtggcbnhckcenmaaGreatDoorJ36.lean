/-
  Of the proof: parts InFx.
-/
import Derived.Test.YtggcbnhckcenmaaGreatDoorJ23

namespace Go.Proofs.YtggcbnhckcenmaaGreatDoor
open Go.RowKit

theorem tk_fix{ls:List Nat}(h:ls.take 3=[1,1,0]):tk ls ⟨0,[],0⟩ 1=(1,⟨1,[],0⟩)∧tk ls ⟨1,[],0⟩ 2=(1,⟨3,[],0⟩):=by
 obtain⟨r,rfl⟩:∃r,ls=1::1::0::r:=by
  match ls,h with
  | [],h=>cases h
  | [a],h=>cases h
  | [a,b],h=>cases h
  | a::b::c::r,h=>
   simp at h
   obtain⟨rfl,rfl,rfl⟩:=h
   exact⟨r,rfl⟩
 constructor
 ·simp[tk,numAt,n2]
 ·simp[tk,numAt,n2]

set_option maxRecDepth 100000 in
set_option maxHeartbeats 8000000 in
theorem read5_fix(w:World)(v:Value)(I:Nat→Prop)(bs:List Nat)(most:Nat)(h3:(ofBytes bs).take 3=[1,1,0])(hs:Src w I v bs)(hb:∀b∈bs,b<256)(hlen:bs.length≤100000)(hm:most≤16384):
  Calls Tryz.prog 64 #[v,.int .i64 (most:Nat)] w fun x w'=>∃h vb c vo,x=.returned (.pointer (some ⟨h,0,none⟩))∧ReadR w w' h vb c vo most (ofBytes bs) (syms5 (ofBytes bs) most fixL fixD ((ofBytes bs).length+1) ⟨3,[],0⟩):=by
 have HOF:=refOf_any w v I bs hs (by omega) hb
 obtain⟨ls,hls⟩:∃ls,ls=ofBytes bs:=⟨_,rfl⟩
 have hl8:ls.length=8*bs.length:=by rw[hls,ofBytes_length]
 have hz:Sz ls most:=⟨by rw[hls];exact ofBytes_lt bs,by omega,by omega⟩
 have HZ:Hid (Sz ls most):=hz
 have H8:Hid (ls.length % 8=0):=hid (by omega)
 rw[←hls]at HOF h3 ⊢
 have H3:Hid (ls.take 3=[1,1,0]):=h3
 obtain⟨R,hR⟩:∃R,R=syms5 ls most fixL fixD (ls.length+1) ⟨3,[],0⟩:=⟨_,rfl⟩
 rw[←hR]
 have HR9:Hid (R=syms5 ls most fixL fixD (ls.length+1) ⟨3,[],0⟩):=hR
 clear hR h3
 obtain⟨M,hM⟩:∃M,M=ls.length:=⟨_,rfl⟩
 have HM:Hid (M=ls.length):=hM
 clear hs hb hls hl8 hz hM hlen
 go_enter Tryz.func64,Tryz.ntmps64
 go_wp2_with fail
 refine HOF.mono ?_
 rintro x w1 ⟨vb,rfl,hg1⟩
 have hk1:Same w w1:=hg1.kept.mono (fun _ _ e=>by cases e)
 have HK1:Hid (Same w w1):=hk1
 have HB1:Hid (Row w1 vb ls):=hid hg1.row
 obtain⟨ab,cb,hvb,_⟩:=hg1.row.shape
 generalize ls.length=nb at hvb
 subst hvb
 obtain⟨h,hh⟩:∃h,h=w1.heap.size:=⟨_,rfl⟩
 have HG0:Hid (RX (w1.alloc (.cells #[.slice ab nb cb,.int .i64 0,.slice none 0 0,.int .i64 (most:Nat),.int .i64 0] 87)) (fun k=>(Value.slice ab nb cb).ownBlock=some k) (fun k=>k<w1.heap.size) h (.slice ab nb cb) ls most ⟨0,[],0⟩):=hid ⟨0,.slice none 0 0,by rw[hh];exact Blk.new w1 _ _,World.ownsRow_nil _ 0 5 1,(by intro e;cases e),(by omega),(fun k e=>by cases e),(fun k hk=>by simp;omega),Src.ofRow (HB1.out.kept ((Kept.refl (fun _=>False) w1).alloc _) (fun _ _ f=>f)),(fun k e=>HB1.out.lt e),(fun _=>rfl),Nat.zero_le _,Nat.zero_le _,(fun b hb=>by simp at hb)⟩
 obtain⟨G,hG⟩:∃G:Nat→Prop,G=fun k=>k<w1.heap.size:=⟨_,rfl⟩
 obtain⟨J,hJ⟩:∃J:Nat→Prop,J=fun k=>(Value.slice ab nb cb).ownBlock=some k:=⟨_,rfl⟩
 rw[←hG,←hJ]at HG0
 obtain⟨W2,hW2⟩:∃W,W=w1.alloc (.cells #[.slice ab nb cb,.int .i64 0,.slice none 0 0,.int .i64 (most:Nat),.int .i64 0] 87):=⟨_,rfl⟩
 rw[←hW2]at HG0
 have HK2:Hid (Same w W2):=hid (by rw[hW2];exact Same.trans HK1.out ((Kept.refl _ w1).alloc _))
 have HGG:Hid (∀k,k<w.heap.size→G k):=hid (fun k hk=>by rw[hG];have:=HK1.out.size;show k<w1.heap.size;omega)
 have HHN:Hid (w.heap.size≤h):=hid (by have:=HK1.out.size;omega)
 have HSM:Hid (∀wx,KG G W2 wx→Same w wx):=hid (fun wx hk=>Same.then HK2.out hk (fun k hk9 f=>f (HGG.out k hk9)))
 have HFIN:Hid (∀wx s,RX wx J G h (.slice ab nb cb) ls most s→KG G W2 wx→R=s→∃h' vb c vo,Ending.returned (Value.pointer (some ⟨h,0,none⟩))=.returned (.pointer (some ⟨h',0,none⟩))∧ReadR w wx h' vb c vo most ls R):=hid (fun wx s hx hk he=>by
  obtain⟨c,vo,r⟩:=hx
  rw[he]
  exact⟨h,_,c,vo,rfl,r.blk,r.row,r.pl,r.le,r.ol,r.by',HSM.out wx hk,HHN.out,fun k e=>Nat.not_lt.1 (fun hlt=>r.go k e (HGG.out k hlt)),r.ne⟩)
 clear hk1 hg1 HOF
 go_wp2_with fail
 rw[←hW2,←hh]
 clear hh hW2 hG hJ
 go_loopg [6] 1 (fun q zl wr=>∃(l:Nat) (s:S5),zl=.int .i64 (l:Nat)∧1-l≤q∧Hid ((l=0∧s=⟨0,[],0⟩)∨(l=1∧R=s))∧Hid (RX wr J G h (.slice ab nb cb) ls most s)∧Hid (KG G W2 wr))
 case atStart=>exact⟨0,⟨0,[],0⟩,rfl,Nat.le_refl _,hid (.inl ⟨rfl,rfl⟩),HG0,Kept.refl _ _⟩
 case round=>
  clear HG0
  obtain⟨l,s,rfl,hfq,HL,HR,HK⟩:=hrel
  obtain⟨k4,f4⟩:=HR.out.err
  rcases HL.out with⟨hl,hs0⟩ | ⟨hl,hs1⟩
  ·subst hl
   subst hs0
   have T1:=take5 wr J G h _ ls most ⟨0,[],0⟩ 1 HZ.out (by decide) HR.out
   obtain⟨t1,t2⟩:=tk_fix H3.out
   rw[t1]at T1
   have k4':wr.cell? ⟨h,4,none⟩=some (.int .i64 0):=by simpa using k4
   clear k4 t1
   have HT2:Hid (tk ls ⟨1,[],0⟩ 2=(1,⟨3,[],0⟩)):=t2
   clear t2
   go_wp2_with fail
   refine T1.mono ?_
   rintro x w2 ⟨rfl,hr2,hk2⟩
   have HK2':Hid (KG G W2 w2):=hid (HK.out.trans hk2)
   have T2:=take5 w2 J G h _ ls most ⟨1,[],0⟩ 2 HZ.out (by decide) hr2
   rw[HT2.out]at T2
   clear hr2 hk2 T1 HR HK k4' f4
   go_wp2_with fail
   refine T2.mono ?_
   rintro x w3 ⟨rfl,hr3,hk3⟩
   have HK3:Hid (KG G W2 w3):=hid (HK2'.out.trans hk3)
   have HR3:Hid (RX w3 J G h (.slice ab nb cb) ls most ⟨3,[],0⟩):=hr3
   obtain⟨k4,f4⟩:=hr3.err
   have k4':w3.cell? ⟨h,4,none⟩=some (.int .i64 0):=by simpa using k4
   clear hr3 hk3 T2 HK2' k4
   have F1:=fixed5 w3
   go_wp2_with fail
   refine F1.mono ?_
   rintro x w4 ⟨va,vd,rfl,hra,hrd,hk4⟩
   obtain⟨c3,vo3,hrs3⟩:=HR3.out
   have hr4:=hrs3.same hk4
   have HGO:Hid (∀k,G k→RS.all w4 h vo3 k):=hid (fun k g=>hr4.all_of k g)
   have HIG:Hid (∀k,J k→G k):=hid hr4.ig
   have hhl:h<w3.heap.size:=hrs3.blk.lt
   have hol:=hrs3.out_lt
   have HLA:Lst w4 (RS.all w4 h vo3) va fixL:=⟨⟨_,SrcE.inn (SrcE.ofRow hra),fun k hk=>⟨hk.2,by have:=hra.ge hk.1;omega,fun e=>by have:=hra.ge hk.1;have:=hol k e;omega⟩⟩,fix_lst.1,fix_lst.2.1,fix_lst.2.2.1⟩
   have HLD:Lst w4 (RS.all w4 h vo3) vd fixD:=⟨⟨_,SrcE.inn (SrcE.ofRow hrd),fun k hk=>⟨hk.2,by have:=hrd.ge hk.1;omega,fun e=>by have:=hrd.ge hk.1;have:=hol k e;omega⟩⟩,fix_lst.2.2.2.1,fix_lst.2.2.2.2.1,fix_lst.2.2.2.2.2⟩
   have HK4:Hid (KG G W2 w4):=hid (HK3.out.trans (KG.same hk4))
   have S1:=symbols5 w w4 J (RS.all w4 h vo3) h _ ls most ⟨3,[],0⟩ va vd fixL fixD HZ.out ⟨c3,vo3,hr4.more⟩ (HSM.out w4 HK4.out) (fun k hk=>HGO.out k (HGG.out k hk)) (fun _=>⟨HLA,HLD⟩)
   obtain⟨aa,ca,hva,_⟩:=hra.shape
   generalize fixL.length=na at hva
   subst hva
   obtain⟨ad,cd,hvd,_⟩:=hrd.shape
   generalize fixD.length=nd at hvd
   subst hvd
   clear hra hrd hk4 hrs3 hr4 hhl hol HLA HLD F1
   go_wp2_with fail
   refine S1.mono ?_
   rintro x w5 ⟨⟨u,rfl⟩,hr5,hk5⟩
   have HR5:Hid (RX w5 J G h (.slice ab nb cb) ls most R):=hid (by
    rw[HR9.out]
    obtain⟨c5,vo5,r5⟩:=hr5
    exact⟨c5,vo5,r5.weak HGO.out HIG.out⟩)
   have HK5:Hid (KG G W2 w5):=hid (HK4.out.trans (KG.less hk5 HGO.out))
   clear hr5 hk5 S1
   go_wp2_with fail
   go_roundg (gk-1)
   case measure=>omega
   case rel=>exact⟨1,R,rfl,by omega,hid (.inr ⟨rfl,rfl⟩),HR5,HK5⟩
  ·subst hl
   have HSG:Hid (R=s):=hs1
   clear hs1
   go_wp2_with fail
   go_ret
   obtain⟨h',vb,c,vo,e1,hr⟩:=HFIN.out _ _ HR.out HK.out HSG.out
   exact⟨h',e1,vb,c,vo,hr⟩

theorem abc_syms:syms5 (ofBytes [75,76,74,6,0]) 9 fixL fixD ((ofBytes [75,76,74,6,0]).length+1) ⟨3,[],0⟩=⟨34,[97,98,99],0⟩:=by kernel_rfl

set_option maxRecDepth 100000 in
set_option maxHeartbeats 2000000 in
theorem rinfl_abc(w:World)(v:Value)(I:Nat→Prop)(hv:Src w I v [75,76,74,6,0]):
  Calls Tryz.prog 39 #[v,.int .i64 9] w fun x w'=>∃v',x=.returned (.tuple #[v',.int .i64 5,.int .i64 0])∧Row w' v' [97,98,99]∧Same w w':=by
 have HRD:=read5_fix w v I [75,76,74,6,0] 9 (by decide +kernel) hv (by decide) (by decide) (by decide)
 rw[abc_syms]at HRD
 clear hv
 go_enter Tryz.func39,Tryz.ntmps39
 go_wp2_with fail
 refine HRD.mono ?_
 rintro x w1 ⟨h,vb,c,vo,rfl,hr⟩
 have k1:=hr.blk.cell 1
 have k2:=hr.blk.cell 2
 have k4:=hr.blk.cell 4
 simp at k1 k2 k4
 have HSM:Hid (Same w w1):=hid hr.same
 obtain rfl:c=34:=hr.pl rfl
 have HR:Hid (Row w1 vo [97,98,99]):=hid hr.row
 obtain⟨a2,c2,rfl,_⟩:=HR.out.shape
 clear hr HRD
 go_wp2_with fail
 try go_quiet (fail)
 try go_wp2_with fail
 refine bodyPost_ret (v:=.tuple #[.slice a2 3 c2,.int .i64 5,.int .i64 0]) (by simp[results,Tryz.results39,go_sem]) rfl ?_
 exact⟨_,rfl,HR.out.kept ((Kept.refl (fun _=>False) _).drewN _) (fun _ _ f=>f),HSM.out.drewN _⟩

end Go.Proofs.YtggcbnhckcenmaaGreatDoor
