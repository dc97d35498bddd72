import Derived.Test.YtggcbnhckcenmaaGreatDoorInHm
namespace Go.Proofs.YtggcbnhckcenmaaGreatDoor
set_option maxRecDepth 100000
set_option maxHeartbeats 16000000
open Go.RowKit

theorem ibad_any(w:World)(h:Nat)(v:Value)(c:Nat)(vo:Value)(most e:Nat)(b:Bool)(hH:RdB w h v c vo most e):
  Calls Tryz.prog 138 #[.pointer(some⟨h,0,none⟩),.bool b]w fun r w'=>(∃u,r=.returned u)∧RdB w' h v c vo most(badE e b)∧Kept(·=h)w w':=by
 have c4:=hH.cell 4
 have f4:=hH.frozen 4
 simp at c4
 have HH:Hid(RdB w h v c vo most e):=hH
 clear hH
 by_cases he:e=0
 ·subst he
  cases b with
  | false=>
   go_enter Tryz.func138,Tryz.ntmps138
   go_wp2_with fail
   go_end0
   exact⟨⟨_,rfl⟩,by rw[badE_false];exact HH.out,Kept.refl _ _⟩
  | true=>
   go_enter Tryz.func138,Tryz.ntmps138
   go_wp2_with fail
   go_end0
   refine⟨⟨_,rfl⟩,?_,(Kept.refl(·=h)w).setCell⟨h,4,none⟩_(.inl rfl)⟩
   have hb:=HH.out.set 4(.int .i64 52)
   simp at hb
   rw[badE_true]
   exact hb
 ·have hed:((e:Int)==0)=false:=by simp;omega
  have HE:Hid(badE e b=e):=hid(badE_stuck he b)
  clear he
  go_enter Tryz.func138,Tryz.ntmps138
  go_wp2_with fail
  go_end0
  exact⟨⟨_,rfl⟩,by rw[HE.out];exact HH.out,Kept.refl _ _⟩

theorem places5(w:World):Calls Tryz.prog 139 #[]w fun r w'=>r=.returned(.slice(some⟨w.heap.size,0,none⟩)19 19)∧SrcE natV w'(fun k=>k=w.heap.size)(.slice(some⟨w.heap.size,0,none⟩)19 19)ord∧Same w w'∧w'.heap.size=w.heap.size+1:=by
 have HOR:Hid(SrcE natV(w.alloc(.cells #[.int .i64 16,.int .i64 17,.int .i64 18,.int .i64 0,.int .i64 8,.int .i64 7,.int .i64 9,.int .i64 6,.int .i64 10,.int .i64 5,.int .i64 11,.int .i64 4,.int .i64 12,.int .i64 3,.int .i64 13,.int .i64 2,.int .i64 14,.int .i64 1,.int .i64 15]3))(fun k=>k=w.heap.size)(.slice(some⟨w.heap.size,0,none⟩)19 19)ord):=src_nats w ord 19 rfl
 go_enter Tryz.func139,Tryz.ntmps139
 go_wp2_with fail
 go_ret
 exact⟨rfl,HOR.out,(Kept.refl _ w).alloc _,by simp⟩

def LenOk(l:List Nat):Prop:=l.length≤288∧(∀n∈l,n≤15)∧measure l≤32768

def HeadA(w w':World)(h:Nat)(v vo:Value)(most a:Nat)(ls:List Nat)(r:Ending):Except Nat((List Nat×List Nat)×Nat)→Prop
 | .error e=>e≠0∧∃va vb c,r=.returned(.tuple #[va,vb])∧RdB w' h v c vo most e∧c≤ls.length
 | .ok((l,d),n)=>∃va vb,r=.returned(.tuple #[va,vb])∧RdB w' h v(a+n)vo most 0∧a+n≤ls.length∧SrcE natV w'(Over w.heap.size)va l∧SrcE natV w'(Over w.heap.size)vb d∧LenOk l∧LenOk d

theorem headA_err {w w':World}{h:Nat}{v vo:Value}{most a:Nat}{ls:List Nat}{e:Nat}{va vb:Value}{c:Nat}(he:e≠0)(hh:head5 ls a=.error e)(hb:RdB w' h v c vo most e)(hc:c≤ls.length):HeadA w w' h v vo most a ls(.returned(.tuple #[va,vb]))(head5 ls a):=by
 rw[hh]
 exact⟨he,va,vb,c,rfl,hb,hc⟩

theorem tk_bound(ls:List Nat)(s:S5)(n M:Nat)(hM:M=ls.length)(h:s.c≤M):(tk ls s n).2.c≤M:=by
 subst hM
 exact tk_le ls s n h

theorem head5_any(w00 w:World)(I G:Nat→Prop)(h:Nat)(v:Value)(ls:List Nat)(most a:Nat)(so:List Nat)(vo:Value)(hz:Sz ls most)(hr:RS w I G h v ls most⟨a,so,0⟩a vo)(hS:Same w00 w)(hh0:w00.heap.size≤h):
  Calls Tryz.prog 103 #[.pointer(some⟨h,0,none⟩)]w fun r w'=>HeadA w w' h v vo most a ls r(head5 ls a)∧Kept(·=h)w w':=by
 have HZ:Hid(Sz ls most):=hz
 have HSW:Hid(Same w00 w):=hS
 have HRS:Hid(RS w I G h v ls most⟨a,so,0⟩a vo):=hr
 have hah:=hr.le
 have hhw:=hr.blk.lt
 have hlen:=hz.len
 obtain⟨M,hM⟩:∃M,M=ls.length:=⟨_,rfl⟩
 rw[←hM]at hah hlen
 have HM:Hid(M=ls.length):=hM
 have HERR:Hid(∀(e:Nat)(va vb:Value)(c:Nat)(wF:World),e≠0→head5 ls a=.error e→RdB wF h v c vo most e→c≤M→Kept(·=h)w wF→HeadA w wF h v vo most a ls(.returned(.tuple #[va,vb]))(head5 ls a)∧Kept(·=h)w wF):=hid(fun e va vb c wF h1 h2 h3 h4 h5=>⟨headA_err h1 h2 h3(by omega),h5⟩)
 have HT:Hid(∀(wx:World)(c e n:Nat),Kept(·=h)w wx→RdB wx h v c vo most e→n≤32→c≤M→Calls Tryz.prog 99 #[.pointer(some⟨h,0,none⟩),.int .i64(n:Nat)]wx fun r w'=>r=.returned(.int .i64((tk ls⟨c,so,e⟩n).1:Nat))∧RdB w' h v(tk ls⟨c,so,e⟩n).2.c vo most(tk ls⟨c,so,e⟩n).2.e∧Kept(·=h)wx w'):=hid(fun wx c e n hk hH hn hc=>itake_any wx h v I ls c vo so most e n hH(hr.src.kept hk(fun k hi _ e=>by subst e;exact hr.gh(hr.ig _ hi)))hz.bit hn(by omega)(by omega))
 have hb0:=hr.blk
 simp only at hb0
 have HH0:Hid(RdB w h v a vo most 0):=hb0
 clear hM hr hz hb0 hS
 have T1:=HT.out w a 0 5(Kept.refl _ _)HH0.out(by decide)hah
 obtain⟨t1,ht1⟩:∃t,tk ls⟨a,so,0⟩5=t:=⟨_,rfl⟩
 have hc1:=tk_bound ls⟨a,so,0⟩5 M HM.out hah
 have hx1:=tk_lt ls HZ.out.bit⟨a,so,0⟩5
 have ho1:=tk_out ls⟨a,so,0⟩5
 rw[ht1]at T1 hc1 hx1 ho1
 obtain⟨x1,c1,o1,e1⟩:=t1
 simp only at T1 hc1 hx1 ho1
 subst ho1
 have hx1':x1≤31:=by omega
 have HT1:Hid(tk ls⟨a,o1,0⟩5=(x1,⟨c1,o1,e1⟩)):=ht1
 clear ht1 hx1
 go_enter Tryz.func103,Tryz.ntmps103
 go_wp2_with fail
 refine T1.mono ?_
 rintro r w1⟨rfl,hh1,hk1⟩
 have HH1:Hid(RdB w1 h v c1 vo most e1):=hh1
 have HK1:Hid(Kept(·=h)w w1):=hk1
 clear hh1 hk1 T1 HH0
 have T2:=HT.out w1 c1 e1 5 HK1.out HH1.out(by decide)hc1
 obtain⟨t2,ht2⟩:∃t,tk ls⟨c1,o1,e1⟩5=t:=⟨_,rfl⟩
 have hc2:=tk_bound ls⟨c1,o1,e1⟩5 M HM.out hc1
 have hx2:=tk_lt ls HZ.out.bit⟨c1,o1,e1⟩5
 have ho2:=tk_out ls⟨c1,o1,e1⟩5
 rw[ht2]at T2 hc2 hx2 ho2
 obtain⟨x2,c2,o2,e2⟩:=t2
 simp only at T2 hc2 hx2 ho2
 subst ho2
 have hx2':x2≤31:=by omega
 have HT2:Hid(tk ls⟨c1,o2,e1⟩5=(x2,⟨c2,o2,e2⟩)):=ht2
 clear ht2 hx2
 go_wp2_with fail
 refine T2.mono ?_
 rintro r w2⟨rfl,hh2,hk2⟩
 have HH2:Hid(RdB w2 h v c2 vo most e2):=hh2
 have HK2:Hid(Kept(·=h)w w2):=hid(HK1.out.trans hk2(fun _ _ f=>f)(fun _ _ f=>f))
 clear hh2 hk2 T2 HH1
 have T3:=HT.out w2 c2 e2 4 HK2.out HH2.out(by decide)hc2
 obtain⟨t3,ht3⟩:∃t,tk ls⟨c2,o2,e2⟩4=t:=⟨_,rfl⟩
 have hc3:=tk_bound ls⟨c2,o2,e2⟩4 M HM.out hc2
 have hx3:=tk_lt ls HZ.out.bit⟨c2,o2,e2⟩4
 have ho3:=tk_out ls⟨c2,o2,e2⟩4
 rw[ht3]at T3 hc3 hx3 ho3
 obtain⟨x3,c3,o3,e3⟩:=t3
 simp only at T3 hc3 hx3 ho3
 subst ho3
 have hx3':x3≤15:=by omega
 have HT3:Hid(tk ls⟨c2,o3,e2⟩4=(x3,⟨c3,o3,e3⟩)):=ht3
 clear ht3 hx3
 go_wp2_with fail
 refine T3.mono ?_
 rintro r w3⟨rfl,hh3,hk3⟩
 have HH3:Hid(RdB w3 h v c3 vo most e3):=hh3
 have HK3:Hid(Kept(·=h)w w3):=hid(HK2.out.trans hk3(fun _ _ f=>f)(fun _ _ f=>f))
 clear hh3 hk3 T3 HH2
 obtain⟨lit,hlit⟩:∃lit,lit=x1+257:=⟨_,rfl⟩
 obtain⟨dist,hdist⟩:∃dist,dist=x2+1:=⟨_,rfl⟩
 obtain⟨many,hmany⟩:∃many,many=x3+4:=⟨_,rfl⟩
 have hlI:(257:Int)+(x1:Int)=(lit:Int):=by omega
 have hdI:(1:Int)+(x2:Int)=(dist:Int):=by omega
 have hmI:(4:Int)+(x3:Int)=(many:Int):=by omega
 have HA3:Hid(∀B:Bool,(B=true↔(286<lit∨30<dist))→At3 ls a c3(badE e3 B)lit dist many):=hid(fun B hB=>by
  have h9:=at3_of ls a o3 _ _ _ HT1.out HT2.out HT3.out B(by simp only;rw[←hlit,←hdist];exact hB)
  simp only at h9
  rw[←hlit,←hdist,←hmany]at h9
  exact h9)
 have hml:many≤19:=by omega
 have hll:lit≤288:=by omega
 have hl257:257≤lit:=by omega
 have hdd:dist≤32:=by omega
 have hd1:1≤dist:=by omega
 clear hlit hdist hmany HT1 HT2 HT3 hc1 hc2 hx1' hx2' hx3'
 go_upto_region 4 with fail
 go_cut []from 25 to 32(fun wx=>∃e4,Hid(RdB wx h v c3 vo most e4)∧Hid(Kept(·=h)w wx)∧Hid(At3 ls a c3 e4 lit dist many))
 case first=>
  by_cases hbig:286<lit
  ·have b1:decide((286:Int)<(lit:Int))=true:=by simp;omega
   have B1:=ibad_any w3 h v c3 vo most e3 true HH3.out
   have HAB:Hid(At3 ls a c3(badE e3 true)lit dist many):=hid(HA3.out true⟨fun _=>.inl hbig,fun _=>rfl⟩)
   go_wp2_with fail
   refine B1.mono ?_
   rintro r w4⟨⟨u,rfl⟩,hh4,hk4⟩
   have HH4:Hid(RdB w4 h v c3 vo most(badE e3 true)):=hh4
   have HK4:Hid(Kept(·=h)w w4):=hid(HK3.out.trans hk4(fun _ _ f=>f)(fun _ _ f=>f))
   clear hh4 hk4 B1
   go_wp2_with fail
   go_meet
   exact⟨_,HH4,HK4,HAB⟩
  ·have b1:decide((286:Int)<(lit:Int))=false:=by simp;omega
   by_cases hbig2:30<dist
   ·have b2:decide((30:Int)<(dist:Int))=true:=by simp;omega
    have B1:=ibad_any w3 h v c3 vo most e3 true HH3.out
    have HAB:Hid(At3 ls a c3(badE e3 true)lit dist many):=hid(HA3.out true⟨fun _=>.inr hbig2,fun _=>rfl⟩)
    go_wp2_with fail
    refine B1.mono ?_
    rintro r w4⟨⟨u,rfl⟩,hh4,hk4⟩
    have HH4:Hid(RdB w4 h v c3 vo most(badE e3 true)):=hh4
    have HK4:Hid(Kept(·=h)w w4):=hid(HK3.out.trans hk4(fun _ _ f=>f)(fun _ _ f=>f))
    clear hh4 hk4 B1
    go_wp2_with fail
    go_meet
    exact⟨_,HH4,HK4,HAB⟩
   ·have b2:decide((30:Int)<(dist:Int))=false:=by simp;omega
    have B1:=ibad_any w3 h v c3 vo most e3 false HH3.out
    have HAB:Hid(At3 ls a c3(badE e3 false)lit dist many):=hid(HA3.out false⟨fun h=>(by cases h),fun h=>absurd h(by omega)⟩)
    go_wp2_with fail
    refine B1.mono ?_
    rintro r w4⟨⟨u,rfl⟩,hh4,hk4⟩
    have HH4:Hid(RdB w4 h v c3 vo most(badE e3 false)):=hh4
    have HK4:Hid(Kept(·=h)w w4):=hid(HK3.out.trans hk4(fun _ _ f=>f)(fun _ _ f=>f))
    clear hh4 hk4 B1
    go_wp2_with fail
    go_meet
    exact⟨_,HH4,HK4,HAB⟩
 case rest=>
  obtain⟨e4,HH4,HK4,HA4⟩:=hcut
  clear HA3 HH3 HK3 HK2 HK1 hlI hdI hmI
  have hhz:h<wc.heap.size:=HH4.out.lt
  have hwz:=HK4.out.size
  go_wp2_with(at_make;refine wpList_make_e _ natV 0 wc.heap.size 45 3 8 Tryz.underlying45 Tryz.infoN rfl(by decide)rfl _ _ rfl _ _ _ _ 19 rfl rfl rfl rfl(by omega)(Nat.le_refl _) ?_;intro w5 hr5 hg5 hs5;have HR5:Hid(NRow wc.heap.size w5(.slice(some⟨wc.heap.size,0,none⟩)19 19)(List.replicate 19 0)):=hr5;have HKN:Hid(Same wc w5):=hid((Kept.refl _ wc).grown hg5(by simp));clear hr5 hg5)
  obtain⟨gC,hgC⟩:∃g,g=wc.heap.size:=⟨_,rfl⟩
  rw[←hgC]at HR5 hhz hwz ⊢
  have hgC5:gC<w5.heap.size:=HR5.out.lt rfl
  have HK5:Hid(Kept(·=h)w w5):=hid(HK4.out.trans HKN.out(fun _ _ f=>f)(fun _ _ f=>f.elim))
  have HH5:Hid(RdB w5 h v c3 vo most e4):=hid(HH4.out.kept HKN.out(fun f=>f))
  clear HK4 HH4 hgC
  refine(places5 w5).mono ?_
  rintro r w6⟨rfl,ho6,hk6,hs6⟩
  obtain⟨gO,hgO⟩:∃g,g=w5.heap.size:=⟨_,rfl⟩
  rw[←hgO]at ho6 hgC5 ⊢
  have HO6:Hid(SrcE natV w6(fun k=>k=gO)(.slice(some⟨gO,0,none⟩)19 19)ord):=ho6
  have HK6:Hid(Kept(·=h)w w6):=hid(HK5.out.trans hk6(fun _ _ f=>f)(fun _ _ f=>f.elim))
  have HH6:Hid(RdB w6 h v c3 vo most e4):=hid(HH5.out.kept hk6(fun f=>f))
  have HR6:Hid(NRow gC w6(.slice(some⟨gC,0,none⟩)19 19)(List.replicate 19 0)):=hid(HR5.out.same hk6)
  clear ho6 hk6 hs6 hgO HH5 HR5 HK5 HKN hs5
  go_wp2_with fail
  go_loopg [9]many(fun q zi wr=>∃(i c e:Nat)(xs:List Nat),many-i≤q∧i≤many∧zi=.int .i64(i:Nat)∧c≤M∧Hid(RdB wr h v c vo most e)∧Hid(NRow gC wr(.slice(some⟨gC,0,none⟩)19 19)xs∧∀x∈xs,x≤7)∧Hid(AtC ls a i c e lit dist many xs)∧Hid(SrcE natV wr(fun k=>k=gO)(.slice(some⟨gO,0,none⟩)19 19)ord)∧Hid(Kept(·=h)w wr))
  case atStart=>exact⟨0,c3,e4,_,by omega,by omega,rfl,hc3,HH6,hid⟨HR6.out,fun x hx=>by have:=List.eq_of_mem_replicate hx;omega⟩,hid HA4.out.codes,HO6,HK6⟩
  case round=>
   clear HH6 HR6 HO6 HK6 HA4
   obtain⟨i,c,e,xs,hq,hi,rfl,hcM,HHr,HRr,HCr,HOr,HKr⟩:=hrel
   have hxl:xs.length=19:=HRr.out.1.len
   have k4:=HHr.out.cell 4
   simp at k4
   have HCK:=rcheck_any wr(.slice(some⟨gC,0,none⟩)19 19)_(xs.map(fun(n:Nat)=>(n:Int)))(SrcE.recode(enc':=intV)(SrcE.ofRow HRr.out.1)(by rw[List.map_map];rfl))(by rw[List.length_map];omega)
   rw[chk_codes xs hxl HRr.out.2]at HCK
   obtain⟨ck,hck⟩:∃ck,ck=chkN xs:=⟨_,rfl⟩
   rw[←hck]at HCK
   have HXL:Hid(xs.length=19∧ck=chkN xs):=⟨hxl,hck⟩
   clear hck hxl
   by_cases he:e=0
   ·subst he
    by_cases hlt:i<many
    ·clear HCK
     obtain⟨b,o,cap2,e2,_,_,cO⟩:=HOr.out.get i(by show i<19;omega)
     simp only[Value.slice.injEq,Option.some.injEq,Addr.mk.injEq,and_true]at e2
     obtain⟨⟨rfl,rfl⟩,hxe,rfl⟩:=e2
     clear hxe
     obtain⟨oi,hoi⟩:∃oi,oi=ord.getD i 0:=⟨_,rfl⟩
     have hio:i<ord.length:=by show i<19;omega
     have hog:ord[i]=oi:=by rw[hoi];simp[List.getD,hio]
     rw[hog,Nat.zero_add]at cO
     unfold natV at cO
     have ho18:oi≤18:=by rw[hoi];exact ord_le i(by omega)
     obtain⟨t,ht⟩:∃t,tk ls⟨c,o3,0⟩3=t:=⟨_,rfl⟩
     have HTX0:=HT.out wr.drew c 0 3 HKr.out.drew HHr.out(by decide)hcM
     have hc':=tk_bound ls⟨c,o3,0⟩3 M HM.out hcM
     have hx':=tk_lt ls HZ.out.bit⟨c,o3,0⟩3
     rw[ht]at HTX0 hc' hx'
     obtain⟨x,s'⟩:=t
     simp only at HTX0 hc' hx'
     have HTX:Hid(Calls Tryz.prog 99 #[.pointer(some⟨h,0,none⟩),.int .i64 3]wr.drew fun r w'=>r=.returned(.int .i64(x:Nat))∧RdB w' h v s'.c vo most s'.e∧Kept(·=h)wr.drew w'):=HTX0
     have HCN:Hid(AtC ls a(i+1)s'.c s'.e lit dist many(xs.set oi x)):=hid(by rw[hoi];exact HCr.out.next hlt ht)
     have H7:Hid(∀y∈xs.set oi x,y≤7):=hid(fun y hy=>by
      rcases List.mem_or_eq_of_mem_set hy with hy | rfl
      ·exact HRr.out.2 y hy
      ·omega)
     have hgh:¬gC=h:=by omega
     have hwh2:¬gO=h:=by omega
     have hi19:i<19:=by omega
     have ho19:oi<19:=by omega
     have HCO:Hid(wr.cell? ⟨gO,i,none⟩=some(.int .i64(oi:Nat))):=cO
     have HRO:Hid(NRow gC wr(.slice(some⟨gC,0,none⟩)19 19)xs):=hid HRr.out.1
     clear hoi hio hog HTX0 ht ho18 hx'
     go_wp2_with fail
     go_region_with(go_at_call 99;refine HTX.out.mono ?_;rintro r w5⟨rfl,hh5,hk5⟩;have cO5:w5.cell? ⟨gO,i,none⟩=some(.int .i64(oi:Nat)):=hk5.cell HCO.out hwh2;have hr5:NRow gC w5(.slice(some⟨gC,0,none⟩)19 19)xs:=RowE.kept(show NRow gC wr.drew(.slice(some⟨gC,0,none⟩)19 19)xs from HRO.out)hk5(fun k hk e=>by simp[Value.ownBlock]at hk;omega);have cS5:=hr5.cell oi(by have:=HXL.out.1;omega);have fS5:=hr5.frozen oi;have HR5:Hid(NRow gC w5(.slice(some⟨gC,0,none⟩)19 19)xs):=hr5;have HH5:Hid(RdB w5 h v s'.c vo most s'.e):=hh5;have HK5:Hid(Kept(·=h)wr w5):=hid⟨hk5.os,hk5.tape,hk5.output,hk5.size,hk5.block⟩;clear hr5 hh5 hk5)
     all_goals
      have HR6:Hid(NRow gC(w5.setCell⟨gC,oi,none⟩(.int .i64(x:Nat)))(.slice(some⟨gC,0,none⟩)19 19)(xs.set oi x)):=hid(HR5.out.lay oi x)
      have HKS:Hid(Kept(·=gC)w5(w5.setCell⟨gC,oi,none⟩(.int .i64(x:Nat)))):=hid((Kept.refl(·=gC)w5).setCell⟨gC,oi,none⟩_(.inl rfl))
      have HH6:Hid(RdB(w5.setCell⟨gC,oi,none⟩(.int .i64(x:Nat)))h v s'.c vo most s'.e):=hid(HH5.out.kept HKS.out(fun e=>by omega))
      have HO6:Hid(SrcE natV(w5.setCell⟨gC,oi,none⟩(.int .i64(x:Nat)))(fun k=>k=gO)(.slice(some⟨gO,0,none⟩)19 19)ord):=hid((HOr.out.kept HK5.out(fun k hk _ e=>by omega)).kept HKS.out(fun k hk _ e=>by omega))
      have HK6:Hid(Kept(·=h)w(w5.setCell⟨gC,oi,none⟩(.int .i64(x:Nat)))):=hid((HKr.out.trans HK5.out(fun _ _ f=>f)(fun _ _ f=>f)).trans HKS.out(fun _ _ f=>f)(fun x hx e=>by omega))
      go_wp2_with fail
      go_roundg(gk-1)
      case measure=>omega
      case rel=>exact⟨i+1,s'.c,s'.e,_,by omega,by omega,by go_num,hc',HH6,hid⟨HR6.out,H7.out⟩,HCN,HO6,HK6⟩
    ·have him:i=many:=by omega
     subst him
     have hlt':decide(i<i)=false:=by simp
     have hCC:=HCr.out.check
     have hcq:c=a+14+3*i∧lit≤286∧dist≤30:=by
      rcases HCr.out with⟨h1,_⟩ | ⟨_,h2,_,_,_,h6,h7⟩
      ·exact absurd rfl h1
      ·exact⟨h2,h6,h7⟩
     rw[←HXL.out.2]at hCC
     clear hlt hq hi
     by_cases hck0:ck=0
     ·have HRI:Hid(readF ls a=finF lit a(bodyF xs ls(lit+dist)(lit+dist) []c)):=hid(hCC.2 hck0)
      have hac:a≤c:=by omega
      have hl286:lit≤286:=hcq.2.1
      have hd30:dist≤30:=hcq.2.2
      have hckn:chkN xs=0:=by rw[←HXL.out.2];exact hck0
      have HME:Hid(measure xs≤32768):=hid(chkN_measure hckn)
      subst hck0
      have B1:=ibad_any wr h v c vo most 0 false HHr.out
      rw[badE_false]at B1
      clear hCC hcq hckn
      go_wp2_with fail
      clear hlt'
      refine HCK.mono ?_
      rintro r wx⟨rfl,hwx⟩
      subst hwx
      clear HCK
      go_wp2_with fail
      refine B1.mono ?_
      rintro r w7⟨⟨u,rfl⟩,hh7,hk7⟩
      have HH7:Hid(RdB w7 h v c vo most 0):=hh7
      have HK7:Hid(Kept(·=h)w w7):=hid(HKr.out.trans hk7(fun _ _ f=>f)(fun _ _ f=>f))
      have hgh:gC≠h:=by omega
      have HR7:Hid(NRow gC w7(.slice(some⟨gC,0,none⟩)19 19)xs):=hid(HRr.out.1.kept hk7(fun k hk e=>by simp[Value.ownBlock]at hk;omega))
      have H77:Hid(∀x∈xs,x≤7):=hid HRr.out.2
      have k4':=HH7.out.cell 4
      simp at k4'
      have RO:=rows_any w7(.slice(some⟨gC,0,none⟩)19 19)_ xs(SrcE.ofRow HR7.out)(by have:=HXL.out.1;omega)(fun n hn=>by have:=H77.out n hn;omega)HME.out
      rw[HXL.out.1]at RO
      clear hh7 hk7 B1 HHr HRr HCr HOr HKr k4
      go_wp2_with fail
      refine RO.mono ?_
      rintro r w8⟨go,rs,rfl,hrw⟩
      have hgoR:w7.heap.size≤go:=hrw.row.ge rfl
      have hh7:h<w7.heap.size:=HH7.out.lt
      have HS07:Hid(Same w00 w7):=hid(Same.then HSW.out HK7.out(fun x hx e=>by omega))
      have HRW8:Hid(RW w00 w8 go 19 xs(fun s=>key xs s≠0)rs):=hid(hrw.down HS07.out)
      have HOFF:Hid(RowsOff w00 go xs rs h):=hid⟨hh0,by omega,fun s hs hp e=>by have:=(hrw.have' s hs hp).2 h e;omega⟩
      have HH8:Hid(RdB w8 h v c vo most 0):=hid(HH7.out.kept hrw.same(fun f=>f))
      have HK8:Hid(Kept(·=h)w w8):=hid(HK7.out.trans hrw.same(fun _ _ f=>f)(fun _ _ f=>f.elim))
      have HGB:Hid(RW w7 w8 go 19 xs(fun s=>key xs s≠0)rs):=hrw
      clear hrw RO HH7 HR7 k4'
      obtain⟨N,hN⟩:∃N,N=lit+dist:=⟨_,rfl⟩
      have hNI:(lit:Int)+(dist:Int)=(N:Int):=by omega
      have hN316:N≤316:=by omega
      have HN:Hid(N=lit+dist):=hN
      obtain⟨B,hB⟩:∃B,B=w8.heap.size:=⟨_,rfl⟩
      have hhB:h<B:=by rw[hB];exact HH8.out.lt
      have hwB:w.heap.size≤B:=by rw[hB];exact HK8.out.size
      have HRB:Hid(go<B∧∀s(hs:s<rs.length),key xs s≠0→∀k,(slV rs[s]).ownBlock=some k→k<B):=hid⟨by rw[hB];exact HGB.out.row.lt rfl,fun s hs hp k e=>by rw[hB];exact(HGB.out.have' s hs hp).1.lt e⟩
      have HKO:Hid(∀wx wy,RW w00 wx go 19 xs(fun s=>key xs s≠0)rs→Kept(Over B)wx wy→RW w00 wy go 19 xs(fun s=>key xs s≠0)rs):=hid(fun wx wy hr hk=>hr.kept hk(fun k hlt f=>by unfold Over at f;have:=HS07.out.size;have:=HK8.out.size;omega)(fun f=>by unfold Over at f;have:=HRB.out.1;omega)(fun s hs hp k e f=>by unfold Over at f;have:=HRB.out.2 s hs hp k e;omega))
      have HB8:Hid(B≤w8.heap.size):=hid(by omega)
      have HAB0:Hid(AtB ls a lit dist xs N c 0 []):=hid(.inr(.inr⟨rfl,by simp,by simp;omega,hac,by simp,by rw[HRI.out,hN]⟩))
      clear hN hB HRI HGB hgoR hh7
      go_wp2_with fail
      go_loopg [11]N(fun q zl wr=>∃(f c2 e:Nat)(l:List Nat),f≤q∧c2≤M∧l.length≤1000∧Hid(AtB ls a lit dist xs f c2 e l)∧Hid(NRow B wr zl l)∧Hid(RdB wr h v c2 vo most e)∧Hid(RW w00 wr go 19 xs(fun s=>key xs s≠0)rs)∧Hid(Kept(·=h)w wr)∧Hid(B≤wr.heap.size))
      case atStart=>exact⟨N,c,0,[],by omega,hcM,by simp,HAB0,RowE.nil,HH8,HRW8,HK8,HB8⟩
      case round=>
       clear HAB0 HH8 HRW8 HK8 HB8
       obtain⟨f,c2,e,l,hfq,hc2M,hl1000,HAB,HL,HHr,HRW,HKr,HBr⟩:=hrel
       obtain⟨al,capl,hvl,hal,hal0,hlc,_⟩:=HL.out.shape
       subst hvl
       obtain⟨Ln,hLn⟩:∃Ln,Ln=l.length:=⟨_,rfl⟩
       rw[←hLn]at HL hlc hl1000 ⊢
       have HLn:Hid(Ln=l.length):=hLn
       have k4:=HHr.out.cell 4
       simp at k4
       by_cases he:e=0
       ·subst he
        by_cases hlt:Ln<N
        ·have hlt0:l.length<lit+dist:=by have:=HN.out;omega
         have hf1:1≤f:=by
          rcases HAB.out with⟨h1,_⟩ | ⟨_,h1,_⟩ | ⟨_,_,h3,_⟩
          ·exact absurd rfl h1
          ·omega
          ·omega
         obtain⟨is,k,g,hnf⟩:∃is k g,nextF xs(ls.drop c2)=(is,k,g):=⟨_,_,_,rfl⟩
         have hrn:=nextF_is xs(ls.drop c2)
         rw[hnf]at hrn
         simp only at hrn
         have hkle:c2+k≤M:=by
          have:=hrn.fits
          rw[List.length_drop]at this
          have:=HM.out
          omega
         have his:is<19:=by have:=hrn.sym_lt(by have:=HXL.out.1;omega);have:=HXL.out.1;omega
         have hg3:=hrn.small
         have HNF:Hid(nextF xs(ls.drop c2)=(is,k,g)):=hnf
         have HLT:Hid(l.length<lit+dist):=hlt0
         have Y1:=isym_any wr w00 h v I ls c2 vo most 0 52 go 19 xs rs HHr.out(HRS.out.src.kept HKr.out(fun k hi _ e=>by subst e;exact HRS.out.gh(HRS.out.ig _ hi)))(by have:=HM.out;omega)(by have:=HM.out;omega)HRW.out HXL.out.1.symm(by decide)(fun s=>by
          by_cases e:s<xs.length
          ·rw[key_get e];have:=H77.out _(List.getElem_mem e);omega
          ·simp[key,e])
         have Y2:Calls Tryz.prog 136 #[.pointer(some⟨h,0,none⟩),.slice(some⟨go,0,none⟩)19 19,.int .i64 52]wr fun r w'=>r=.returned(.int .i64(is:Nat))∧RdB w' h v(c2+k)vo most(syE g 52)∧Kept(·=h)wr w':=Y1.mono(by
          rintro e w'⟨hA,hk⟩
          unfold SymA at hA
          rw[if_neg(by simp),hnf]at hA
          exact⟨hA.1,hA.2,hk⟩)
         obtain⟨ck2,hck2⟩:∃ck2,ck2=c2+k:=⟨_,rfl⟩
         rw[←hck2]at Y2 hkle
         have HCK2:Hid(ck2=c2+k):=hck2
         clear hrn hnf Y1 hLn hck2 hlt0
         go_wp2_with fail
         refine Y2.mono ?_
         rintro r w9⟨rfl,hh9,hk9⟩
         have HL9:Hid(NRow B w9(.slice al Ln capl)l):=hid(HL.out.kept hk9(fun k hk e=>by have:=HL.out.ge hk;omega))
         have HRW9:Hid(RW w00 w9 go 19 xs(fun s=>key xs s≠0)rs):=hid(HRW.out.off HOFF.out hk9)
         have HK9:Hid(Kept(·=h)w w9):=hid(HKr.out.trans hk9(fun _ _ f=>f)(fun _ _ f=>f))
         have HB9:Hid(B≤w9.heap.size):=hid(Nat.le_trans HBr.out hk9.size)
         have HH9:Hid(RdB w9 h v ck2 vo most(syE g 52)):=hh9
         clear hh9 hk9 Y2 HL HRW HKr HBr HHr k4
         by_cases hg0:g=0
         ·subst hg0
          have HH9':Hid(RdB w9 h v ck2 vo most 0):=HH9
          clear HH9
          have k4':=HH9'.out.cell 4
          simp at k4'
          have HWALK:Hid(∀w10 v10 l',NRow B w10 v10 l'→Kept(Over B)w9 w10→RW w00 w10 go 19 xs(fun s=>key xs s≠0)rs∧Kept(·=h)w w10∧B≤w10.heap.size∧(∀c e,RdB w9 h v c vo most e→RdB w10 h v c vo most e)):=hid(fun w10 v10 l' _ hkO=>⟨HKO.out w9 w10 HRW9.out hkO,HK9.out.trans hkO(fun _ _ f=>f)(fun x hx f=>by unfold Over at f;omega),Nat.le_trans HB9.out hkO.size,fun c e hb=>hb.kept hkO(fun f=>by unfold Over at f;omega)⟩)
          by_cases hi16:is<16
          ·have HNEW:Hid(AtB ls a lit dist xs(f-1)ck2 0(l++[is])):=hid(by
            have hxb:xbits is=0:=by unfold xbits;rw[if_neg(by omega),if_neg(by omega),if_neg(by omega)]
            have h9:=HAB.out.says HLT.out HNF.out(x:=0)(v:=is)(n:=1)(by rw[hxb];have:=HM.out;have:=HCK2.out;omega)(by rw[hxb];simp[numAt,n2])(by unfold saysM;rw[if_pos⟨by simp,by simp;omega,rfl⟩];simp)
            rw[hxb,Nat.add_zero,←HCK2.out]at h9
            exact h9)
           have HLen:Hid(l.length+1≤1000000000):=hid(by have:=HLn.out;omega)
           go_wp2_with(at_builtin;refine wpList_append_nat _ B rfl(.tmp 97)(.tmp 99)rfl(.slice al Ln capl)l rfl(World.ownsRow.alloc HL9.out _)⟨w9.heap.size,0,none⟩is rfl(nat_new _ _)HLen.out(by have:=HB9.out;simp;omega) ?_;intro v10 w10 hr10 hg10)
           have hkO:Kept(Over B)w9 w10:=((Kept.refl _ w9).alloc _).grown hg10(fun k e=>.inl(HL9.out.ge e))
           have hW:=HWALK.out w10 v10 _ hr10 hkO
           have HL10:Hid(NRow B w10 v10(l++[is])):=hr10
           have HF10:Hid(RW w00 w10 go 19 xs(fun s=>key xs s≠0)rs∧Kept(·=h)w w10∧B≤w10.heap.size∧RdB w10 h v ck2 vo most 0):=hid⟨hW.1,hW.2.1,hW.2.2.1,hW.2.2.2 ck2 0 HH9'.out⟩
           clear hr10 hg10 hkO hW
           go_wp2_with fail
           go_roundg(gk-1)
           case measure=>omega
           case rel=>exact⟨f-1,ck2,0,_,by omega,hkle,by have:=HLn.out;simp;omega,HNEW,HL10,hid HF10.out.2.2.2,hid HF10.out.1,hid HF10.out.2.1,hid HF10.out.2.2.1⟩
          ·have hi16d:decide(is<16)=false:=by simp;omega
           by_cases h16:is=16
           ·subst h16
            have T1:=HT.out w9 ck2 0 2 HK9.out HH9'.out(by decide)hkle
            rcases tk_cases ls ck2 o3 2 with⟨hft,htk⟩ | ⟨hft,htk⟩
            ·have hx4:=tk_lt ls HZ.out.bit⟨ck2,o3,0⟩2
             rw[htk]at T1 hx4
             simp only at T1 hx4
             obtain⟨x,hx⟩:∃x,x=numAt ls ck2 2:=⟨_,rfl⟩
             rw[←hx]at T1 hx4
             obtain⟨n,hn⟩:∃n,n=3+x:=⟨_,rfl⟩
             have hnI:(3:Int)+(x:Int)=(n:Int):=by omega
             have HXN:Hid(x=numAt ls(c2+k)(xbits 16)∧c2+k+xbits 16≤ls.length∧n=x+3):=hid⟨by rw[←HCK2.out];exact hx,by rw[←HCK2.out];exact hft,by omega⟩
             have hftM:ck2+2≤M:=by have:=HM.out;omega
             have HX4:Hid(x<4):=hid hx4
             have hn200:n≤200:=by have:=HX4.out;omega
             clear hx htk hft hx4 hn
             go_wp2_with fail
             refine T1.mono ?_
             rintro r w10⟨rfl,hh10,hk10⟩
             have HH10:Hid(RdB w10 h v(ck2+2)vo most 0):=hh10
             have HL10:Hid(NRow B w10(.slice al Ln capl)l):=hid(HL9.out.kept hk10(fun k hk e=>by have:=HL9.out.ge hk;omega))
             have HRW10:Hid(RW w00 w10 go 19 xs(fun s=>key xs s≠0)rs):=hid(HRW9.out.off HOFF.out hk10)
             have HK10:Hid(Kept(·=h)w w10):=hid(HK9.out.trans hk10(fun _ _ f=>f)(fun _ _ f=>f))
             have HB10:Hid(B≤w10.heap.size):=hid(Nat.le_trans HB9.out hk10.size)
             clear hh10 hk10 T1 HL9 HRW9 HK9 HB9 HH9' k4' HWALK
             by_cases hL0:Ln=0
             ·subst hL0
              have B1:=ibad_any w10 h v(ck2+2)vo most 0 true HH10.out
              rw[badE_true]at B1
              have HE:Hid(head5 ls a=.error 52):=hid(HAB.out.none HLT.out HNF.out HXN.out.2.1 HXN.out.1(by
               have hl0:l.length=0:=HLn.out.symm
               unfold saysM
               rw[if_neg(by simp),if_neg(by omega),if_neg(by simp),if_neg(by simp)]))
              go_wp2_with fail
              refine B1.mono ?_
              rintro r w11⟨⟨u,rfl⟩,hh11,hk11⟩
              have HH11:Hid(RdB w11 h v(ck2+2)vo most 52):=hh11
              have HF11:Hid(NRow B w11(.slice al 0 capl)l∧RW w00 w11 go 19 xs(fun s=>key xs s≠0)rs∧Kept(·=h)w w11∧B≤w11.heap.size):=hid⟨HL10.out.kept hk11(fun k hk e=>by have:=HL10.out.ge hk;omega),HRW10.out.off HOFF.out hk11,HK10.out.trans hk11(fun _ _ f=>f)(fun _ _ f=>f),Nat.le_trans HB10.out hk11.size⟩
              have k5:=HH11.out.cell 4
              simp at k5
              clear hh11 hk11 B1
              go_wp2_with fail
              go_roundg(gk-1)
              case measure=>omega
              case rel=>exact⟨f-1,ck2+2,52,l,by omega,hftM,by have:=HLn.out;omega,hid(.inl⟨by decide,HE.out⟩),hid HF11.out.1,HH11,hid HF11.out.2.1,hid HF11.out.2.2.1,hid HF11.out.2.2.2⟩
             ·have hL0d:((Ln:Int)==0)=false:=by simp;omega
              have B1:=ibad_any w10 h v(ck2+2)vo most 0 false HH10.out
              rw[badE_false]at B1
              obtain⟨gl,hgl⟩:=hal(by intro e;rw[e]at HLn;have:=HLn.out;simp at this;omega)
              subst hgl
              go_wp2_with fail
              refine B1.mono ?_
              rintro r w11⟨⟨u,rfl⟩,hh11,hk11⟩
              have HH11:Hid(RdB w11 h v(ck2+2)vo most 0):=hh11
              have HL11:Hid(NRow B w11(.slice(some⟨gl,0,none⟩)Ln capl)l):=hid(HL10.out.kept hk11(fun k hk e=>by have:=HL10.out.ge hk;omega))
              have HF11:Hid(RW w00 w11 go 19 xs(fun s=>key xs s≠0)rs∧Kept(·=h)w w11∧B≤w11.heap.size):=hid⟨HRW10.out.off HOFF.out hk11,HK10.out.trans hk11(fun _ _ f=>f)(fun _ _ f=>f),Nat.le_trans HB10.out hk11.size⟩
              have k5:=HH11.out.cell 4
              simp at k5
              obtain⟨p,hp⟩:∃p,p=Ln-1:=⟨_,rfl⟩
              have hpI:(Ln:Int)-1=(p:Int):=by omega
              have hpl:p<l.length:=by have:=HLn.out;omega
              have hpL:p<Ln:=by omega
              have cx:=HL11.out.cell p hpl
              obtain⟨y,hy⟩:∃y,y=l[p]:=⟨_,rfl⟩
              rw[←hy]at cx
              unfold natV at cx
              have TT:=times5 w11 B(.slice(some⟨gl,0,none⟩)Ln capl)l n y HL11.out HF11.out.2.2(by have:=HLn.out;omega)
              have HNEW:Hid(AtB ls a lit dist xs(f-1)(ck2+2)0(l++List.replicate n y)):=hid(by
               have hla:lastN l=y:=by
                unfold lastN
                rw[←HLn.out,←hp,hy]
                simp[List.getD,hpl]
               have h9:=HAB.out.says HLT.out HNF.out(x:=x)(v:=y)(n:=n)HXN.out.2.1 HXN.out.1(by
                unfold saysM
                rw[if_neg(by simp),if_pos⟨rfl,by have:=HX4.out;omega,by have:=HX4.out;omega,by have:=HX4.out;omega⟩,hla]
                have:=HXN.out.2.2
                simp;omega)
               rw[←HCK2.out]at h9
               exact h9)
              clear hh11 hk11 B1 hy hp
              go_wp2_with fail
              refine TT.mono ?_
              rintro r w12⟨v12,rfl,hr12,hkO⟩
              have HL12:Hid(NRow B w12 v12(l++List.replicate n y)):=hr12
              have HF12:Hid(RW w00 w12 go 19 xs(fun s=>key xs s≠0)rs∧Kept(·=h)w w12∧B≤w12.heap.size∧RdB w12 h v(ck2+2)vo most 0):=hid⟨HKO.out w11 w12 HF11.out.1 hkO,HF11.out.2.1.trans hkO(fun _ _ f=>f)(fun x hx f=>by unfold Over at f;omega),Nat.le_trans HF11.out.2.2 hkO.size,HH11.out.kept hkO(fun f=>by unfold Over at f;omega)⟩
              clear hr12 hkO TT
              go_wp2_with fail
              go_roundg(gk-1)
              case measure=>omega
              case rel=>exact⟨f-1,ck2+2,0,_,by omega,hftM,by have:=HLn.out;simp;omega,HNEW,HL12,hid HF12.out.2.2.2,hid HF12.out.1,hid HF12.out.2.1,hid HF12.out.2.2.1⟩
            ·rw[htk]at T1
             simp only at T1
             have HE:Hid(head5 ls a=.error 55):=hid(HAB.out.short HLT.out HNF.out(by rw[←HCK2.out];exact hft))
             clear htk hft
             go_wp2_with fail
             refine T1.mono ?_
             rintro r w10⟨rfl,hh10,hk10⟩
             have HH10:Hid(RdB w10 h v ck2 vo most 55):=hh10
             have B1:Hid(∀b:Bool,Calls Tryz.prog 138 #[.pointer(some⟨h,0,none⟩),.bool b]w10 fun r w'=>(∃u,r=.returned u)∧RdB w' h v ck2 vo most 55∧Kept(·=h)w10 w'):=hid(fun b=>by
              have h9:=ibad_any w10 h v ck2 vo most 55 b HH10.out
              rw[badE_stuck(by decide)]at h9
              exact h9)
             have HF10:Hid(NRow B w10(.slice al Ln capl)l∧RW w00 w10 go 19 xs(fun s=>key xs s≠0)rs∧Kept(·=h)w w10∧B≤w10.heap.size):=hid⟨HL9.out.kept hk10(fun k hk e=>by have:=HL9.out.ge hk;omega),HRW9.out.off HOFF.out hk10,HK9.out.trans hk10(fun _ _ f=>f)(fun _ _ f=>f),Nat.le_trans HB9.out hk10.size⟩
             clear hh10 hk10 T1
             go_wp2_with fail
             refine(B1.out _).mono ?_
             rintro r w11⟨⟨u,rfl⟩,hh11,hk11⟩
             have HH11:Hid(RdB w11 h v ck2 vo most 55):=hh11
             have HF11:Hid(NRow B w11(.slice al Ln capl)l∧RW w00 w11 go 19 xs(fun s=>key xs s≠0)rs∧Kept(·=h)w w11∧B≤w11.heap.size):=hid⟨HF10.out.1.kept hk11(fun k hk e=>by have:=HF10.out.1.ge hk;omega),HF10.out.2.1.off HOFF.out hk11,HF10.out.2.2.1.trans hk11(fun _ _ f=>f)(fun _ _ f=>f),Nat.le_trans HF10.out.2.2.2 hk11.size⟩
             have k5:=HH11.out.cell 4
             simp at k5
             clear hh11 hk11
             go_wp2_with fail
             go_roundg(gk-1)
             case measure=>omega
             case rel=>exact⟨f-1,ck2,55,l,by omega,hkle,by have:=HLn.out;omega,hid(.inl⟨by decide,HE.out⟩),hid HF11.out.1,HH11,hid HF11.out.2.1,hid HF11.out.2.2.1,hid HF11.out.2.2.2⟩
           ·have h16d:((is:Int)==16)=false:=by simp;omega
            by_cases h17:is=17
            ·subst h17
             have T1:=HT.out w9 ck2 0 3 HK9.out HH9'.out(by decide)hkle
             rcases tk_cases ls ck2 o3 3 with⟨hft,htk⟩ | ⟨hft,htk⟩
             ·have hx4:=tk_lt ls HZ.out.bit⟨ck2,o3,0⟩3
              rw[htk]at T1 hx4
              simp only at T1 hx4
              obtain⟨x,hx⟩:∃x,x=numAt ls ck2 3:=⟨_,rfl⟩
              rw[←hx]at T1 hx4
              have hx4':x<8:=hx4
              obtain⟨n,hn⟩:∃n,n=3+x:=⟨_,rfl⟩
              have hnI:(3:Int)+(x:Int)=(n:Int):=by omega
              have hn200:n≤200:=by omega
              have HNEW:Hid(AtB ls a lit dist xs(f-1)(ck2+3)0(l++List.replicate n 0)):=hid(by
               have h9:=HAB.out.says HLT.out HNF.out(x:=x)(v:=0)(n:=n)(by rw[←HCK2.out];exact hft)(by rw[←HCK2.out];exact hx)(by
                unfold saysM
                rw[if_neg(by simp),if_neg(by simp),if_pos⟨rfl,by omega,by omega⟩]
                simp;omega)
               rw[←HCK2.out]at h9
               exact h9)
              have hftM:ck2+3≤M:=by have:=HM.out;omega
              clear hx htk hft hx4 hx4' hn
              go_wp2_with fail
              refine T1.mono ?_
              rintro r w10⟨rfl,hh10,hk10⟩
              have HH10:Hid(RdB w10 h v(ck2+3)vo most 0):=hh10
              have HL10:Hid(NRow B w10(.slice al Ln capl)l):=hid(HL9.out.kept hk10(fun k hk e=>by have:=HL9.out.ge hk;omega))
              have HF10:Hid(RW w00 w10 go 19 xs(fun s=>key xs s≠0)rs∧Kept(·=h)w w10∧B≤w10.heap.size):=hid⟨HRW9.out.off HOFF.out hk10,HK9.out.trans hk10(fun _ _ f=>f)(fun _ _ f=>f),Nat.le_trans HB9.out hk10.size⟩
              have TT:=times5 w10 B(.slice al Ln capl)l n 0 HL10.out HF10.out.2.2(by have:=HLn.out;omega)
              clear hh10 hk10 T1
              go_wp2_with fail
              refine TT.mono ?_
              rintro r w12⟨v12,rfl,hr12,hkO⟩
              have HL12:Hid(NRow B w12 v12(l++List.replicate n 0)):=hr12
              have HF12:Hid(RW w00 w12 go 19 xs(fun s=>key xs s≠0)rs∧Kept(·=h)w w12∧B≤w12.heap.size∧RdB w12 h v(ck2+3)vo most 0):=hid⟨HKO.out w10 w12 HF10.out.1 hkO,HF10.out.2.1.trans hkO(fun _ _ f=>f)(fun x hx f=>by unfold Over at f;omega),Nat.le_trans HF10.out.2.2 hkO.size,HH10.out.kept hkO(fun f=>by unfold Over at f;omega)⟩
              clear hr12 hkO TT
              go_wp2_with fail
              go_roundg(gk-1)
              case measure=>omega
              case rel=>exact⟨f-1,ck2+3,0,_,by omega,hftM,by have:=HLn.out;simp;omega,HNEW,HL12,hid HF12.out.2.2.2,hid HF12.out.1,hid HF12.out.2.1,hid HF12.out.2.2.1⟩
             ·rw[htk]at T1
              simp only at T1
              have HE:Hid(head5 ls a=.error 55):=hid(HAB.out.short HLT.out HNF.out(by rw[←HCK2.out];exact hft))
              clear htk hft
              go_wp2_with fail
              refine T1.mono ?_
              rintro r w10⟨rfl,hh10,hk10⟩
              have HH10:Hid(RdB w10 h v ck2 vo most 55):=hh10
              have HL10:Hid(NRow B w10(.slice al Ln capl)l):=hid(HL9.out.kept hk10(fun k hk e=>by have:=HL9.out.ge hk;omega))
              have HF10:Hid(RW w00 w10 go 19 xs(fun s=>key xs s≠0)rs∧Kept(·=h)w w10∧B≤w10.heap.size):=hid⟨HRW9.out.off HOFF.out hk10,HK9.out.trans hk10(fun _ _ f=>f)(fun _ _ f=>f),Nat.le_trans HB9.out hk10.size⟩
              have TT:=times5 w10 B(.slice al Ln capl)l 3 0 HL10.out HF10.out.2.2(by have:=HLn.out;omega)
              clear hh10 hk10 T1
              go_wp2_with fail
              refine TT.mono ?_
              rintro r w12⟨v12,rfl,hr12,hkO⟩
              have HL12:Hid(NRow B w12 v12(l++List.replicate 3 0)):=hr12
              have HF12:Hid(RW w00 w12 go 19 xs(fun s=>key xs s≠0)rs∧Kept(·=h)w w12∧B≤w12.heap.size∧RdB w12 h v ck2 vo most 55):=hid⟨HKO.out w10 w12 HF10.out.1 hkO,HF10.out.2.1.trans hkO(fun _ _ f=>f)(fun x hx f=>by unfold Over at f;omega),Nat.le_trans HF10.out.2.2 hkO.size,HH10.out.kept hkO(fun f=>by unfold Over at f;omega)⟩
              clear hr12 hkO TT
              go_wp2_with fail
              go_roundg(gk-1)
              case measure=>omega
              case rel=>exact⟨f-1,ck2,55,_,by omega,hkle,by have:=HLn.out;simp;omega,hid(.inl⟨by decide,HE.out⟩),HL12,hid HF12.out.2.2.2,hid HF12.out.1,hid HF12.out.2.1,hid HF12.out.2.2.1⟩
            ·have h18:is=18:=by omega
             subst h18
             have T1:=HT.out w9 ck2 0 7 HK9.out HH9'.out(by decide)hkle
             rcases tk_cases ls ck2 o3 7 with⟨hft,htk⟩ | ⟨hft,htk⟩
             ·have hx4:=tk_lt ls HZ.out.bit⟨ck2,o3,0⟩7
              rw[htk]at T1 hx4
              simp only at T1 hx4
              obtain⟨x,hx⟩:∃x,x=numAt ls ck2 7:=⟨_,rfl⟩
              rw[←hx]at T1 hx4
              have hx4':x<128:=hx4
              obtain⟨n,hn⟩:∃n,n=11+x:=⟨_,rfl⟩
              have hnI:(11:Int)+(x:Int)=(n:Int):=by omega
              have hn200:n≤200:=by omega
              have HNEW:Hid(AtB ls a lit dist xs(f-1)(ck2+7)0(l++List.replicate n 0)):=hid(by
               have h9:=HAB.out.says HLT.out HNF.out(x:=x)(v:=0)(n:=n)(by rw[←HCK2.out];exact hft)(by rw[←HCK2.out];exact hx)(by
                unfold saysM
                rw[if_neg(by simp),if_neg(by simp),if_neg(by simp),if_pos⟨rfl,by omega,by omega⟩]
                simp;omega)
               rw[←HCK2.out]at h9
               exact h9)
              have hftM:ck2+7≤M:=by have:=HM.out;omega
              clear hx htk hft hx4 hx4' hn
              go_wp2_with fail
              refine T1.mono ?_
              rintro r w10⟨rfl,hh10,hk10⟩
              have HH10:Hid(RdB w10 h v(ck2+7)vo most 0):=hh10
              have HL10:Hid(NRow B w10(.slice al Ln capl)l):=hid(HL9.out.kept hk10(fun k hk e=>by have:=HL9.out.ge hk;omega))
              have HF10:Hid(RW w00 w10 go 19 xs(fun s=>key xs s≠0)rs∧Kept(·=h)w w10∧B≤w10.heap.size):=hid⟨HRW9.out.off HOFF.out hk10,HK9.out.trans hk10(fun _ _ f=>f)(fun _ _ f=>f),Nat.le_trans HB9.out hk10.size⟩
              have TT:=times5 w10 B(.slice al Ln capl)l n 0 HL10.out HF10.out.2.2(by have:=HLn.out;omega)
              clear hh10 hk10 T1
              go_wp2_with fail
              refine TT.mono ?_
              rintro r w12⟨v12,rfl,hr12,hkO⟩
              have HL12:Hid(NRow B w12 v12(l++List.replicate n 0)):=hr12
              have HF12:Hid(RW w00 w12 go 19 xs(fun s=>key xs s≠0)rs∧Kept(·=h)w w12∧B≤w12.heap.size∧RdB w12 h v(ck2+7)vo most 0):=hid⟨HKO.out w10 w12 HF10.out.1 hkO,HF10.out.2.1.trans hkO(fun _ _ f=>f)(fun x hx f=>by unfold Over at f;omega),Nat.le_trans HF10.out.2.2 hkO.size,HH10.out.kept hkO(fun f=>by unfold Over at f;omega)⟩
              clear hr12 hkO TT
              go_wp2_with fail
              go_roundg(gk-1)
              case measure=>omega
              case rel=>exact⟨f-1,ck2+7,0,_,by omega,hftM,by have:=HLn.out;simp;omega,HNEW,HL12,hid HF12.out.2.2.2,hid HF12.out.1,hid HF12.out.2.1,hid HF12.out.2.2.1⟩
             ·rw[htk]at T1
              simp only at T1
              have HE:Hid(head5 ls a=.error 55):=hid(HAB.out.short HLT.out HNF.out(by rw[←HCK2.out];exact hft))
              clear htk hft
              go_wp2_with fail
              refine T1.mono ?_
              rintro r w10⟨rfl,hh10,hk10⟩
              have HH10:Hid(RdB w10 h v ck2 vo most 55):=hh10
              have HL10:Hid(NRow B w10(.slice al Ln capl)l):=hid(HL9.out.kept hk10(fun k hk e=>by have:=HL9.out.ge hk;omega))
              have HF10:Hid(RW w00 w10 go 19 xs(fun s=>key xs s≠0)rs∧Kept(·=h)w w10∧B≤w10.heap.size):=hid⟨HRW9.out.off HOFF.out hk10,HK9.out.trans hk10(fun _ _ f=>f)(fun _ _ f=>f),Nat.le_trans HB9.out hk10.size⟩
              have TT:=times5 w10 B(.slice al Ln capl)l 11 0 HL10.out HF10.out.2.2(by have:=HLn.out;omega)
              clear hh10 hk10 T1
              go_wp2_with fail
              refine TT.mono ?_
              rintro r w12⟨v12,rfl,hr12,hkO⟩
              have HL12:Hid(NRow B w12 v12(l++List.replicate 11 0)):=hr12
              have HF12:Hid(RW w00 w12 go 19 xs(fun s=>key xs s≠0)rs∧Kept(·=h)w w12∧B≤w12.heap.size∧RdB w12 h v ck2 vo most 55):=hid⟨HKO.out w10 w12 HF10.out.1 hkO,HF10.out.2.1.trans hkO(fun _ _ f=>f)(fun x hx f=>by unfold Over at f;omega),Nat.le_trans HF10.out.2.2 hkO.size,HH10.out.kept hkO(fun f=>by unfold Over at f;omega)⟩
              clear hr12 hkO TT
              go_wp2_with fail
              go_roundg(gk-1)
              case measure=>omega
              case rel=>exact⟨f-1,ck2,55,_,by omega,hkle,by have:=HLn.out;simp;omega,hid(.inl⟨by decide,HE.out⟩),HL12,hid HF12.out.2.2.2,hid HF12.out.1,hid HF12.out.2.1,hid HF12.out.2.2.1⟩
         ·have he7:syE g 52≠0:=by unfold syE;rcases hg3 with h | h | h<;>simp[h]<;>omega
          have HE:Hid(head5 ls a=.error(syE g 52)):=hid(by
           rw[HAB.out.bad HLT.out HNF.out hg0]
           rcases hg3 with h | h | h
           ·exact absurd h hg0
           ·rw[h];rfl
           ·rw[h];rfl)
          obtain⟨e7,hee⟩:∃e7,e7=syE g 52:=⟨_,rfl⟩
          rw[←hee]at HH9 he7 HE
          have hed:((e7:Int) != 0)=true:=by simp;omega
          have HE7:Hid(e7≠0):=he7
          have k4':=HH9.out.cell 4
          simp at k4'
          clear hee he7 hg0
          go_wp2_with fail
          go_roundg(gk-1)
          case measure=>omega
          case rel=>exact⟨f-1,ck2,e7,l,by omega,hkle,by have:=HLn.out;omega,hid(.inl⟨HE7.out,HE.out⟩),HL9,HH9,HRW9,HK9,HB9⟩
        ·have hltd:decide(Ln<N)=false:=by simp;omega
         by_cases hov:N<Ln
         ·have HE:Hid(head5 ls a=.error 52):=hid(HAB.out.over(by have:=HN.out;omega))
          have B1:=ibad_any wr h v c2 vo most 0 true HHr.out
          rw[badE_true]at B1
          clear hLn hlt
          go_wp2_with fail
          refine B1.mono ?_
          rintro r w9⟨⟨u,rfl⟩,hh9,hk9⟩
          have HH9:Hid(RdB w9 h v c2 vo most 52):=hh9
          have HK9:Hid(Kept(·=h)w w9):=hid(HKr.out.trans hk9(fun _ _ f=>f)(fun _ _ f=>f))
          have k4':=HH9.out.cell 4
          simp at k4'
          clear hh9 hk9 B1
          go_wp2_with fail
          go_ret2
          exact HERR.out 52 _ _ c2 _(by decide)HE.out HH9.out hc2M HK9.out
         ·have hovd:decide(N<Ln)=false:=by simp;omega
          have hD:=HAB.out.done(by have:=HN.out;omega)
          have HD:Hid(readF ls a=.ok((l.take lit,l.drop lit),c2-a)∧a≤c2∧(∀x∈l,x≤15)):=hD
          have hLN1:Ln≤N:=by omega
          have hLN2:N≤Ln:=by omega
          have B1:=ibad_any wr h v c2 vo most 0 false HHr.out
          rw[badE_false]at B1
          obtain⟨gl,hgl⟩:=hal(by intro e;rw[e]at hLn;simp at hLn;omega)
          subst hgl
          clear hD hLn hlt
          go_wp2_with fail
          refine B1.mono ?_
          rintro r w9⟨⟨u,rfl⟩,hh9,hk9⟩
          have HH9:Hid(RdB w9 h v c2 vo most 0):=hh9
          have HK9:Hid(Kept(·=h)w w9):=hid(HKr.out.trans hk9(fun _ _ f=>f)(fun _ _ f=>f))
          have HL9:Hid(NRow B w9(.slice(some⟨gl,0,none⟩)Ln capl)l):=hid(HL.out.kept hk9(fun k hk e=>by have:=HL.out.ge hk;omega))
          have hglb:B≤gl:=HL9.out.ge rfl
          have k4':=HH9.out.cell 4
          simp at k4'
          clear hh9 hk9 B1 k4
          have hlitc:lit≤capl:=by omega
          have hlitL:lit≤Ln:=by omega
          have hlitc2:lit<capl:=by omega
          have h256:256<l.length:=by have:=HLn.out;have:=HN.out;omega
          have h256c:256<capl:=by omega
          have cx:=HL9.out.cell 256 h256
          obtain⟨x6,hx6⟩:∃x6,x6=l[256]:=⟨_,rfl⟩
          rw[←hx6]at cx
          unfold natV at cx
          obtain⟨la,hla⟩:∃la,la=l.take lit:=⟨_,rfl⟩
          obtain⟨da,hda⟩:∃da,da=l.drop lit:=⟨_,rfl⟩
          have HSA:Hid(SrcE natV w9(Over w.heap.size)(.slice(some⟨gl,0,none⟩)lit capl)la):=hid(by
           have h0:=(SrcE.ofRow HL9.out).mono(J:=Over w.heap.size)(fun k hk=>by simp[Value.ownBlock]at hk;unfold Over;omega)
           rw[HLn.out]at h0
           rw[hla]
           exact h0.part lit(by have:=HLn.out;omega))
          have HSB:Hid(SrcE natV w9(Over w.heap.size)(.slice(some⟨gl,lit,none⟩)(Ln-lit)(capl-lit))da):=hid(by
           have h0:=(SrcE.ofRow HL9.out).mono(J:=Over w.heap.size)(fun k hk=>by simp[Value.ownBlock]at hk;unfold Over;omega)
           rw[HLn.out]at h0 ⊢
           rw[hda]
           exact h0.tail lit lit(by have:=HLn.out;omega)(fun _=>by have:=HLn.out;omega))
          have hg6:la.getD 256 0=x6:=by rw[hla,hx6];simp[List.getD,h256,show 256<lit by omega]
          have hlal:la.length=lit:=by rw[hla,List.length_take];have:=HLn.out;omega
          have hdal:da.length=Ln-lit:=by rw[hda,List.length_drop];have:=HLn.out;omega
          have hla15:∀n∈la,n≤15:=fun n hn=>HD.out.2.2 n(by rw[hla]at hn;exact List.mem_of_mem_take hn)
          have hda15:∀n∈da,n≤15:=fun n hn=>HD.out.2.2 n(by rw[hda]at hn;exact List.mem_of_mem_drop hn)
          have HHD:Hid(head5 ls a=if x6=0∨chkN la≠0∨(usedB da=true∧chkN da≠0)then .error 52 else .ok((la,da),c2-a)):=hid(by
           unfold head5
           rw[HD.out.1,←hla,←hda]
           simp only
           rw[hg6])
          have C1:=rcheck_any w9(.slice(some⟨gl,0,none⟩)lit capl)_(la.map(fun(n:Nat)=>(n:Int)))(SrcE.recode(enc':=intV)HSA.out(by rw[List.map_map];rfl))(by rw[List.length_map];omega)
          rw[chk_nats la(by omega)(by omega)hla15]at C1
          have C2:=rcheck_any w9(.slice(some⟨gl,lit,none⟩)(Ln-lit)(capl-lit))_(da.map(fun(n:Nat)=>(n:Int)))(SrcE.recode(enc':=intV)HSB.out(by rw[List.map_map];rfl))(by rw[List.length_map];omega)
          rw[chk_nats da(by omega)(by omega)hda15]at C2
          have U1:=used5 w9(.slice(some⟨gl,lit,none⟩)(Ln-lit)(capl-lit))_ da HSB.out(by omega)
          obtain⟨ca,hca⟩:∃ca,ca=chkN la:=⟨_,rfl⟩
          obtain⟨cd,hcd⟩:∃cd,cd=chkN da:=⟨_,rfl⟩
          obtain⟨U,hU⟩:∃U,U=usedB da:=⟨_,rfl⟩
          rw[←hca]at C1 HHD
          rw[←hcd]at C2 HHD
          rw[←hU]at U1 HHD
          have HOK:Hid(ca=0→(U=true→cd=0)→LenOk la∧LenOk da):=hid(fun h1 h2=>⟨⟨by omega,hla15,chkN_measure(by omega)⟩,⟨by omega,hda15,by
           cases hUU:U with
           | true=>exact chkN_measure(by have:=h2 hUU;omega)
           | false=>rw[unused_measure(by rw[←hU];exact hUU)];omega⟩⟩)
          have HBAD:Hid(∀b:Bool,Calls Tryz.prog 138 #[.pointer(some⟨h,0,none⟩),.bool b]w9 fun r w'=>(∃u,r=.returned u)∧RdB w' h v c2 vo most(badE 0 b)∧Kept(·=h)w9 w'):=hid(fun b=>ibad_any w9 h v c2 vo most 0 b HH9.out)
          have HGOOD:Hid(∀wF,head5 ls a=.ok((la,da),c2-a)→LenOk la∧LenOk da→RdB wF h v c2 vo most 0→Kept(·=h)w9 wF→HeadA w wF h v vo most a ls(.returned(.tuple #[.slice(some⟨gl,0,none⟩)lit capl,.slice(some⟨gl,lit,none⟩)(Ln-lit)(capl-lit)]))(head5 ls a)∧Kept(·=h)w wF):=hid(fun wF h1 h2 h3 h4=>by
           rw[h1]
           refine⟨⟨_,_,rfl,?_,?_,HSA.out.kept h4(fun k hk _ e=>by unfold Over at hk;omega),HSB.out.kept h4(fun k hk _ e=>by unfold Over at hk;omega),h2.1,h2.2⟩,HK9.out.trans h4(fun _ _ f=>f)(fun _ _ f=>f)⟩
           ·rw[show a+(c2-a)=c2 by have:=HD.out.2.1;omega];exact h3
           ·have:=HD.out.2.1;have:=HM.out;omega)
          have HFAIL:Hid(∀(va vb:Value)(wF:World),head5 ls a=.error 52→RdB wF h v c2 vo most 52→Kept(·=h)w9 wF→HeadA w wF h v vo most a ls(.returned(.tuple #[va,vb]))(head5 ls a)∧Kept(·=h)w wF):=hid(fun va vb wF h1 h2 h3=>HERR.out 52 va vb c2 wF(by decide)h1 h2 hc2M(HK9.out.trans h3(fun _ _ f=>f)(fun _ _ f=>f)))
          clear hg6 hlal hdal hla15 hda15 hla hda hca hcd hU hx6 h256
          by_cases hx60:x6=0
          ·have HE:Hid(head5 ls a=.error 52):=hid(by rw[HHD.out,if_pos(.inl hx60)])
           subst hx60
           go_wp2_with fail
           refine(HBAD.out true).mono ?_
           rintro r w10⟨⟨u,rfl⟩,hh10,hk10⟩
           rw[badE_true]at hh10
           have HF10:Hid(RdB w10 h v c2 vo most 52∧Kept(·=h)w9 w10):=⟨hh10,hk10⟩
           clear hh10 hk10
           go_wp2_with fail
           go_ret2
           exact HFAIL.out _ _ _ HE.out HF10.out.1 HF10.out.2
          ·have hx6d:((x6:Int)==0)=false:=by simp;omega
           by_cases hca0:ca=0
           ·cases U with
            | true=>
             by_cases hcd0:cd=0
             ·have HE:Hid(head5 ls a=.ok((la,da),c2-a)):=hid(by rw[HHD.out,if_neg(by omega)])
              have HLO:Hid(LenOk la∧LenOk da):=hid(HOK.out hca0(fun _=>hcd0))
              subst hca0 hcd0
              go_wp2_with fail
              refine C1.mono ?_
              rintro r wx⟨rfl,hwx⟩
              subst hwx
              go_wp2_with fail
              refine U1.mono ?_
              rintro r wx⟨rfl,hwx⟩
              subst hwx
              go_wp2_with fail
              refine C2.mono ?_
              rintro r wx⟨rfl,hwx⟩
              subst hwx
              go_wp2_with fail
              refine(HBAD.out false).mono ?_
              rintro r w10⟨⟨u,rfl⟩,hh10,hk10⟩
              rw[badE_false]at hh10
              have HF10:Hid(RdB w10 h v c2 vo most 0∧Kept(·=h)wx w10):=⟨hh10,hk10⟩
              clear hh10 hk10
              go_wp2_with fail
              go_ret2
              exact HGOOD.out _ HE.out HLO.out HF10.out.1 HF10.out.2
             ·have HE:Hid(head5 ls a=.error 52):=hid(by rw[HHD.out,if_pos(.inr(.inr⟨rfl,hcd0⟩))])
              have hcdd:((cd:Int) != 0)=true:=by simp;omega
              subst hca0
              go_wp2_with fail
              refine C1.mono ?_
              rintro r wx⟨rfl,hwx⟩
              subst hwx
              go_wp2_with fail
              refine U1.mono ?_
              rintro r wx⟨rfl,hwx⟩
              subst hwx
              go_wp2_with fail
              refine C2.mono ?_
              rintro r wx⟨rfl,hwx⟩
              subst hwx
              go_wp2_with fail
              refine(HBAD.out true).mono ?_
              rintro r w10⟨⟨u,rfl⟩,hh10,hk10⟩
              rw[badE_true]at hh10
              have HF10:Hid(RdB w10 h v c2 vo most 52∧Kept(·=h)wx w10):=⟨hh10,hk10⟩
              clear hh10 hk10
              go_wp2_with fail
              go_ret2
              exact HFAIL.out _ _ _ HE.out HF10.out.1 HF10.out.2
            | false=>
             have HE:Hid(head5 ls a=.ok((la,da),c2-a)):=hid(by rw[HHD.out,if_neg(by simp;omega)])
             have HLO:Hid(LenOk la∧LenOk da):=hid(HOK.out hca0(fun h=>by cases h))
             subst hca0
             go_wp2_with fail
             refine C1.mono ?_
             rintro r wx⟨rfl,hwx⟩
             subst hwx
             go_wp2_with fail
             refine U1.mono ?_
             rintro r wx⟨rfl,hwx⟩
             subst hwx
             go_wp2_with fail
             refine(HBAD.out false).mono ?_
             rintro r w10⟨⟨u,rfl⟩,hh10,hk10⟩
             rw[badE_false]at hh10
             have HF10:Hid(RdB w10 h v c2 vo most 0∧Kept(·=h)wx w10):=⟨hh10,hk10⟩
             clear hh10 hk10
             go_wp2_with fail
             go_ret2
             exact HGOOD.out _ HE.out HLO.out HF10.out.1 HF10.out.2
           ·have HE:Hid(head5 ls a=.error 52):=hid(by rw[HHD.out,if_pos(.inr(.inl hca0))])
            have hcad:((ca:Int) != 0)=true:=by simp;omega
            go_wp2_with fail
            refine C1.mono ?_
            rintro r wx⟨rfl,hwx⟩
            subst hwx
            go_wp2_with fail
            refine(HBAD.out true).mono ?_
            rintro r w10⟨⟨u,rfl⟩,hh10,hk10⟩
            rw[badE_true]at hh10
            have HF10:Hid(RdB w10 h v c2 vo most 52∧Kept(·=h)wx w10):=⟨hh10,hk10⟩
            clear hh10 hk10
            go_wp2_with fail
            go_ret2
            exact HFAIL.out _ _ _ HE.out HF10.out.1 HF10.out.2
       ·have HE:Hid(head5 ls a=.error e):=hid(HAB.out.wrong he)
        have hed:((e:Int)==0)=false:=by simp;omega
        have hed2:((e:Int) != 0)=true:=by simp;omega
        have HEN:Hid(e≠0):=he
        have B1:Hid(∀b:Bool,Calls Tryz.prog 138 #[.pointer(some⟨h,0,none⟩),.bool b]wr fun r w'=>(∃u,r=.returned u)∧RdB w' h v c2 vo most e∧Kept(·=h)wr w'):=hid(fun b=>by
         have h9:=ibad_any wr h v c2 vo most e b HHr.out
         rw[badE_stuck he]at h9
         exact h9)
        clear he
        go_wp2_with fail
        all_goals
         refine(B1.out _).mono ?_
         rintro r w9⟨⟨u,rfl⟩,hh9,hk9⟩
         have HH9:Hid(RdB w9 h v c2 vo most e):=hh9
         have HK9:Hid(Kept(·=h)w w9):=hid(HKr.out.trans hk9(fun _ _ f=>f)(fun _ _ f=>f))
         have k4':=HH9.out.cell 4
         simp at k4'
         clear hh9 hk9
         go_wp2_with fail
         go_ret2
         exact HERR.out e _ _ c2 _ HEN.out HE.out HH9.out hc2M HK9.out
     ·have HE:Hid(head5 ls a=.error 52):=hid(hCC.1 hck0)
      have hckd:((ck:Int) != 0)=true:=by simp;omega
      have B1:=ibad_any wr h v c vo most 0 true HHr.out
      rw[badE_true]at B1
      clear hCC hcq
      go_wp2_with fail
      refine HCK.mono ?_
      rintro r wx⟨rfl,hwx⟩
      subst hwx
      go_wp2_with fail
      refine B1.mono ?_
      rintro r w7⟨⟨u,rfl⟩,hh7,hk7⟩
      have HH7:Hid(RdB w7 h v c vo most 52):=hh7
      have HK7:Hid(Kept(·=h)w w7):=hid(HKr.out.trans hk7(fun _ _ f=>f)(fun _ _ f=>f))
      have k4':=HH7.out.cell 4
      simp at k4'
      clear hh7 hk7 B1
      go_wp2_with fail
      go_ret2
      exact HERR.out 52 _ _ c _(by decide)HE.out HH7.out hcM HK7.out
   ·have HE:Hid(head5 ls a=.error e):=hid(by
     rcases HCr.out with⟨_,h2⟩ | ⟨h1,_⟩
     ·exact h2
     ·exact absurd h1 he)
    have hed:((e:Int)==0)=false:=by simp;omega
    have hed2:((e:Int) != 0)=true:=by simp;omega
    have HEN:Hid(e≠0):=he
    have B1:Hid(∀b:Bool,Calls Tryz.prog 138 #[.pointer(some⟨h,0,none⟩),.bool b]wr fun r w'=>(∃u,r=.returned u)∧RdB w' h v c vo most e∧Kept(·=h)wr w'):=hid(fun b=>by
     have h9:=ibad_any wr h v c vo most e b HHr.out
     rw[badE_stuck he]at h9
     exact h9)
    clear he
    go_wp2_with fail
    all_goals
     refine HCK.mono ?_
     rintro r wx⟨rfl,hwx⟩
     subst hwx
     go_wp2_with fail
     refine(B1.out _).mono ?_
     rintro r w7⟨⟨u,rfl⟩,hh7,hk7⟩
     have HH7:Hid(RdB w7 h v c vo most e):=hh7
     have HK7:Hid(Kept(·=h)w w7):=hid(HKr.out.trans hk7(fun _ _ f=>f)(fun _ _ f=>f))
     have k4':=HH7.out.cell 4
     simp at k4'
     clear hh7 hk7
     go_wp2_with fail
     go_ret2
     exact HERR.out e _ _ c _ HEN.out HE.out HH7.out hcM HK7.out

end Go.Proofs.YtggcbnhckcenmaaGreatDoor
