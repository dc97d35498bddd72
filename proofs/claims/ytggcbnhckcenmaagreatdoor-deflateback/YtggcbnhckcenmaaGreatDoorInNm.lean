import Derived.Test.YtggcbnhckcenmaaGreatDoorInTk
import Derived.Test.YtggcbnhckcenmaaGreatDoorHRef
import Derived.Test.YtggcbnhckcenmaaGreatDoorLnRef
namespace Go.Proofs.YtggcbnhckcenmaaGreatDoor
open Go.RowKit

set_option maxHeartbeats 1000000 in
theorem power5(w:World)(n:Nat)(hn:n≤15):Calls Tryz.prog 173 #[.int .i64 (n:Nat)] w fun e w'=>e=.returned (.int .i64 ((2 ^ n:Nat):Int))∧w'=w:=by
 go_enter Tryz.func173,Tryz.ntmps173
 go_wp2_with fail
 go_loopg [3,4] n (fun q zp zi wr=>∃(i p:Nat),n-i≤q∧i≤n∧p≤32768∧zi=.int .i64 (i:Nat)∧zp=.int .i64 (p:Nat)∧wr=w∧Hid (p=2 ^ i))
 case atStart=>exact⟨0,1,by omega,by omega,by omega,rfl,rfl,rfl,hid rfl⟩
 case round=>
  obtain⟨i,p,hq,hi,hp,rfl,rfl,rfl,HP⟩:=hrel
  by_cases hlt:i<n
  ·have hp2:2*p≤32768:=by
    rw[HP.out]
    have h2:2 ^ (i+1)≤2 ^ 15:=Nat.pow_le_pow_right (by omega) (by omega)
    rw[Nat.pow_succ]at h2
    have h3:(2:Nat) ^ 15=32768:=by decide
    omega
   go_wp2_with fail
   go_roundg (gk-1)
   case measure=>omega
   case rel=>exact⟨i+1,2*p,by omega,by omega,hp2,by go_num,by congr 1<;>omega,rfl,hid (by rw[HP.out,Nat.pow_succ];omega)⟩
  ·have hin:i=n:=by omega
   subst hin
   go_wp2_with fail
   go_ret
   exact⟨by rw[←HP.out];rfl,rfl⟩

set_option maxRecDepth 100000 in
set_option maxHeartbeats 1000000 in
theorem extra5(w:World)(s:Nat)(hs:s≤1000):Calls Tryz.prog 174 #[.int .i64 (s:Nat)] w fun e w'=>e=.returned (.int .i64 (xlen s:Nat))∧w'=w:=by
 go_enter Tryz.func174,Tryz.ntmps174
 by_cases hlt:s<265
 ·have HE:Hid (xlen s=0):=hid (by unfold xlen;rw[if_pos hlt])
  go_wp2_with fail
  go_ret
  exact⟨by rw[HE.out];rfl,rfl⟩
 ·obtain⟨d,hd⟩:∃d,d=s-261:=⟨_,rfl⟩
  have hdI:(s:Int)-261=(d:Int):=by omega
  have HE:Hid (xlen s=d / 4):=hid (by unfold xlen;rw[if_neg hlt,hd])
  go_wp2_with fail
  go_ret
  exact⟨by rw[HE.out];go_num,rfl⟩

set_option maxRecDepth 100000 in
set_option maxHeartbeats 1000000 in
theorem wide5(w:World)(s:Nat)(hs:s≤1000):Calls Tryz.prog 175 #[.int .i64 (s:Nat)] w fun e w'=>e=.returned (.int .i64 (xdist s:Nat))∧w'=w:=by
 go_enter Tryz.func175,Tryz.ntmps175
 by_cases hlt:s<4
 ·have HE:Hid (xdist s=0):=hid (by unfold xdist;rw[if_pos hlt])
  go_wp2_with fail
  go_ret
  exact⟨by rw[HE.out];rfl,rfl⟩
 ·obtain⟨d,hd⟩:∃d,d=s-2:=⟨_,rfl⟩
  have hdI:(s:Int)-2=(d:Int):=by omega
  have HE:Hid (xdist s=d / 2):=hid (by unfold xdist;rw[if_neg hlt,hd])
  go_wp2_with fail
  go_ret
  exact⟨by rw[HE.out];go_num,rfl⟩

theorem lbase_succ(k:Nat)(h:257≤k):lbase (k+1)=lbase k+2 ^ xlen k:=by
 unfold lbase
 rw[show k+1-257=(k-257)+1 by omega,List.range_succ,List.map_append,List.sum_append]
 simp[show 257+(k-257)=k by omega]
 omega
theorem dbase_succ(k:Nat):dbase (k+1)=dbase k+2 ^ xdist k:=by
 unfold dbase
 rw[List.range_succ,List.map_append,List.sum_append]
 simp
 omega
theorem xlen_le(s:Nat)(h:s≤284):xlen s≤5:=by
 unfold xlen;split<;>omega
theorem xdist_le(s:Nat)(h:s≤29):xdist s≤13:=by
 unfold xdist;split<;>omega

set_option maxHeartbeats 1000000 in
theorem used5(w:World)(v:Value)(I:Nat→Prop)(ns:List Nat)(hs:SrcE natV w I v ns)(hn:ns.length≤1000000):
  Calls Tryz.prog 140 #[v] w fun e w'=>e=.returned (.bool (usedB ns))∧w'=w:=by
 obtain⟨ao,cap,rfl,hx1,hx2⟩:=id hs
 clear hx1 hx2
 have HS:Hid (SrcE natV w I (.slice ao ns.length cap) ns):=hs
 clear hs
 go_enter Tryz.func140,Tryz.ntmps140
 go_wp2_with fail
 go_loopg [3] ns.length (fun q zi wr=>∃(i:Nat),ns.length-i≤q∧i≤ns.length∧zi=.int .i64 (i:Nat)∧wr=w∧Hid (usedB (ns.take i)=false))
 case atStart=>exact⟨0,by omega,by omega,rfl,rfl,hid rfl⟩
 case round=>
  obtain⟨i,hq,hi,rfl,rfl,HC⟩:=hrel
  by_cases hlt:i<ns.length
  ·obtain⟨b,o,cap',e,_,_,cx⟩:=HS.out.get i hlt
   simp only[Value.slice.injEq]at e
   obtain⟨rfl,hxe,rfl⟩:=e
   clear hxe
   obtain⟨x,hx⟩:∃x,x=ns[i]:=⟨_,rfl⟩
   rw[←hx]at cx
   unfold natV at cx
   have HX:Hid (x=ns[i]):=hx
   clear hx
   by_cases h0:x=0
   ·have HZ:Hid (usedB (ns.take (i+1))=false):=hid (by
     rw[List.take_succ_eq_append_getElem hlt,←HX.out,h0]
     have h:=HC.out
     unfold usedB at h ⊢
     rw[List.any_append,h]
     rfl)
    rw[h0]at cx
    clear h0
    go_wp2_with fail
    go_roundg (gk-1)
    case measure=>omega
    case rel=>exact⟨i+1,by omega,by omega,by go_num,rfl,HZ⟩
   ·have hpos:0<x:=by omega
    have HZ:Hid (usedB ns=true):=hid (by
     unfold usedB
     exact List.any_eq_true.2 ⟨x,by rw[HX.out];exact List.getElem_mem _,by simp;omega⟩)
    clear h0
    go_wp2_with fail
    go_ret
    exact⟨by rw[HZ.out];rfl,rfl⟩
  ·have hin:i=ns.length:=by omega
   subst hin
   go_wp2_with fail
   go_ret
   have h:=HC.out
   rw[List.take_of_length_le (Nat.le_refl _)]at h
   exact⟨by rw[h];rfl,rfl⟩

theorem nat_new(w:World)(x:Nat):CellsAt (w.alloc (.cells #[.int .i64 (x:Nat)] 3)) ⟨w.heap.size,0,none⟩ ([x].map natV):=cellsAt_new w _ _

theorem Tryz.infoI5:(Tryz.prog.info? 3).map (fun i=>(i.zero,i.size,i.bytes))=some (some (.int .i64 0),1,8):=by kernel_rfl

theorem wpList_append_nat{ops:Array Oper}{rest:List Oper}{o:Oper}{a:Act}{Q:Exit→Act→World→Prop}(w:World)(B:Nat)(hgd:o.guard=none)(s x:Operand)
  (ho:o.op=.call {callee:=.builtin .append,args:=#[s,x],argTypes:=#[45,45]})
  (v:Value) (xs:List Nat) (hs:a.eval s=v) (hrow:NRow B w v xs) (ad:Addr) (y:Nat) (hx:a.eval x=.slice (some ad) 1 1) (hcs:CellsAt w ad ([y].map natV)) (hlen:xs.length+1≤1000000000) (hB:B≤w.heap.size)
  (h:∀v' w',NRow B w' v' (xs++[y])→w.grownBy w' v.ownBlock→wpList Tryz.prog ops Q rest (a.put o.dst v') w'):wpList Tryz.prog ops Q (o::rest) a w:=
 wpList_append_e w natV natV_one B 45 3 (.int .i64 0) 8 Tryz.underlying45 Tryz.infoI5 rfl (by decide) hgd s x ho v xs hs hrow ad 1 1 [y] hx rfl hcs hlen hB h

set_option maxHeartbeats 1000000 in
theorem times5(w:World)(B:Nat)(v:Value)(xs:List Nat)(n x:Nat)(hrow:NRow B w v xs)(hB:B≤w.heap.size)(hlen:xs.length+n≤1000000):
  Calls Tryz.prog 135 #[v,.int .i64 (n:Nat),.int .i64 (x:Nat)] w fun e w'=>∃v',e=.returned v'∧NRow B w' v' (xs++List.replicate n x)∧Kept (Over B) w w':=by
 have HR:Hid (NRow B w v xs):=hrow
 clear hrow
 go_enter Tryz.func135,Tryz.ntmps135
 go_wp2_with fail
 go_loopg [0,7] n (fun q zv zi wr=>∃(i:Nat),n-i≤q∧i≤n∧zi=.int .i64 (i:Nat)∧Hid (NRow B wr zv (xs++List.replicate i x))∧Hid (Kept (Over B) w wr))
 case atStart=>exact⟨0,by omega,by omega,rfl,hid (by simpa using HR.out),Kept.refl _ _⟩
 case round=>
  obtain⟨i,hq,hi,rfl,HV,HK⟩:=hrel
  by_cases hlt:i<n
  ·have hsz:=HK.out.size
   have HL:Hid ((xs++List.replicate i x).length+1≤1000000000):=hid (by simp;omega)
   go_wp2_with (at_builtin;refine wpList_append_nat _ B rfl (.tmp 13) (.tmp 15) rfl u0 _ rfl (World.ownsRow.alloc HV.out _) ⟨wr.heap.size,0,none⟩ x rfl (nat_new _ _) HL.out (by simp;omega) ?_;intro v1 w1 hr1 hg1)
   have HV1:Hid (NRow B w1 v1 (xs++List.replicate (i+1) x)):=hid (by rw[List.replicate_succ',←List.append_assoc];exact hr1)
   have HK1:Hid (Kept (Over B) w w1):=hid ((HK.out.alloc _).grown hg1 (fun k e=>.inl (by have:=HV.out.ge e;exact this)))
   clear hr1 hg1
   go_wp2_with fail
   go_roundg (gk-1)
   case measure=>omega
   case rel=>exact⟨i+1,by omega,by omega,by go_num,HV1,HK1⟩
  ·have hin:i=n:=by omega
   go_wp2_with fail
   go_ret
   exact⟨_,rfl,by rw[←hin];exact HV.out,HK.out⟩

set_option maxHeartbeats 2000000 in
theorem fixed5(w:World):
  Calls Tryz.prog 101 #[] w fun e w'=>∃va vb,e=.returned (.tuple #[va,vb])∧NRow w.heap.size w' va fixL∧NRow w.heap.size w' vb fixD∧Same w w':=by
 have T1:=times5 w w.heap.size (.slice none 0 0) [] 144 8 RowE.nil (Nat.le_refl _) (by decide)
 go_enter Tryz.func101,Tryz.ntmps101
 go_wp2_with fail
 refine T1.mono ?_
 rintro e1 w1 ⟨v1,rfl,hr1,hk1⟩
 have T2:=times5 w1 w.heap.size v1 _ 112 9 hr1 hk1.size (by simp only[List.length_append,List.length_replicate,List.length_nil];omega)
 have HK1:Hid (Kept (Over w.heap.size) w w1):=hk1
 clear hr1 hk1 T1
 go_wp2_with fail
 refine T2.mono ?_
 rintro e2 w2 ⟨v2,rfl,hr2,hk2⟩
 have HK2:Hid (Kept (Over w.heap.size) w w2):=hid (HK1.out.over hk2)
 have T3:=times5 w2 w.heap.size v2 _ 24 7 hr2 HK2.out.size (by simp only[List.length_append,List.length_replicate,List.length_nil];omega)
 clear hr2 hk2 T2
 go_wp2_with fail
 refine T3.mono ?_
 rintro e3 w3 ⟨v3,rfl,hr3,hk3⟩
 have HK3:Hid (Kept (Over w.heap.size) w w3):=hid (HK2.out.over hk3)
 have T4:=times5 w3 w.heap.size v3 _ 8 8 hr3 HK3.out.size (by simp only[List.length_append,List.length_replicate,List.length_nil];omega)
 clear hr3 hk3 T3
 go_wp2_with fail
 refine T4.mono ?_
 rintro e4 w4 ⟨v4,rfl,hr4,hk4⟩
 have HK4:Hid (Kept (Over w.heap.size) w w4):=hid (HK3.out.over hk4)
 have HR4:Hid (NRow w.heap.size w4 v4 fixL):=hid (by rw[List.nil_append]at hr4;exact hr4)
 have T5:=times5 w4 w4.heap.size (.slice none 0 0) [] 32 5 RowE.nil (Nat.le_refl _) (by decide)
 clear hr4 hk4 T4
 go_wp2_with fail
 refine T5.mono ?_
 rintro e5 w5 ⟨v5,rfl,hr5,hk5⟩
 have hS:Same w4 w5:=hk5.same_over (Nat.le_refl _)
 have HK5:Hid (Same w w5):=hid (Same.trans (HK4.out.same_over (Nat.le_refl _)) hS)
 have HR5:Hid (NRow w.heap.size w5 v4 fixL):=hid (HR4.out.same hS)
 have HV5:Hid (NRow w.heap.size w5 v5 fixD):=hid (RowE.base (by rw[List.nil_append]at hr5;exact hr5) HK4.out.size)
 clear hr5 hk5 hS T5
 go_wp2_with fail
 go_ret2
 exact⟨_,_,rfl,HR5.out,HV5.out,HK5.out⟩

set_option maxRecDepth 100000 in
set_option maxHeartbeats 2000000 in
theorem length5(w:World)(I G:Nat→Prop)(h:Nat)(v:Value)(ls:List Nat)(most:Nat)(s:S5)(y:Nat)(hz:Sz ls most)(hy:257≤y)(hy2:y≤285)(hr:RX w I G h v ls most s):
  Calls Tryz.prog 162 #[.pointer (some ⟨h,0,none⟩),.int .i64 (y:Nat)] w fun r w'=>r=.returned (.int .i64 ((len5 ls s y).1:Nat))∧RX w' I G h v ls most (len5 ls s y).2∧KG G w w':=by
 have HR:Hid (RX w I G h v ls most s):=hr
 have HZ:Hid (Sz ls most):=hz
 clear hr hz
 by_cases h285:y=285
 ·subst h285
  have HE:Hid (len5 ls s 285=(258,s)):=hid (by unfold len5;rw[if_pos rfl])
  go_enter Tryz.func162,Tryz.ntmps162
  go_wp2_with fail
  go_ret
  rw[HE.out]
  exact⟨rfl,HR.out,Kept.refl _ _⟩
 ·have hne:((y:Int)==285)=false:=by simp;omega
  have hx:=xlen_le y (by omega)
  have HE:Hid (len5 ls s y=(lbase y+(tk ls s (xlen y)).1,(tk ls s (xlen y)).2)):=hid (by unfold len5;rw[if_neg h285])
  have HY:Hid (¬y=285):=h285
  clear h285
  go_enter Tryz.func162,Tryz.ntmps162
  go_wp2_with fail
  go_loopg [5,6] y (fun q zp zi wr=>∃(i p:Nat),y-i≤q∧257≤i∧i≤y∧p≤3+32*(i-257)∧zi=.int .i64 (i:Nat)∧zp=.int .i64 (p:Nat)∧wr=w∧Hid (p=lbase i))
  case atStart=>exact⟨257,3,by omega,by omega,by omega,by omega,rfl,rfl,rfl,hid rfl⟩
  case round=>
   obtain⟨i,p,hq,hi0,hi,hp,rfl,rfl,rfl,HP⟩:=hrel
   by_cases hlt:i<y
   ·have hxi:=xlen_le i (by omega)
    obtain⟨x,hx'⟩:∃x,x=xlen i:=⟨_,rfl⟩
    have HX:Hid (x=xlen i):=hx'
    rw[←hx']at hxi
    have E1:=extra5 wr i (by omega)
    rw[←hx']at E1
    have P1:=power5 wr x (by omega)
    obtain⟨q2,hq2⟩:∃q2,q2=2 ^ x:=⟨_,rfl⟩
    rw[←hq2]at P1
    have hq32:q2≤32:=by
     rw[hq2]
     exact Nat.le_trans (Nat.pow_le_pow_right (by omega) hxi) (by decide)
    have HQ:Hid (q2=2 ^ x):=hq2
    clear hx' hq2
    go_wp2_with fail
    refine E1.mono ?_
    rintro e w1 ⟨rfl,hw1⟩
    subst hw1
    go_wp2_with fail
    refine P1.mono ?_
    rintro e w1 ⟨rfl,hw1⟩
    subst hw1
    go_wp2_with fail
    go_roundg (gk-1)
    case measure=>omega
    case rel=>exact⟨i+1,p+q2,by omega,by omega,by omega,by omega,by go_num,by go_num,rfl,hid (by rw[lbase_succ i hi0,←HX.out,←HQ.out,HP.out])⟩
   ·have hin:i=y:=by omega
    subst hin
    have E1:=extra5 wr i (by omega)
    have T1:=take5 wr I G h v ls most s (xlen i) HZ.out (by omega) HR.out
    have hxl:=tk_lt ls HZ.out.bit s (xlen i)
    have hxl2:2 ^ xlen i≤32:=Nat.le_trans (Nat.pow_le_pow_right (by omega) hx) (by decide)
    obtain⟨x,hx'⟩:∃x,x=xlen i:=⟨_,rfl⟩
    rw[←hx']at E1 T1 hxl hxl2 HE
    obtain⟨t,ht⟩:∃t,t=(tk ls s x).1:=⟨_,rfl⟩
    rw[←ht]at T1 hxl HE
    clear hx' ht
    go_wp2_with fail
    refine E1.mono ?_
    rintro e w1 ⟨rfl,hw1⟩
    subst hw1
    go_wp2_with fail
    refine T1.mono ?_
    rintro e w2 ⟨rfl,hr2,hk2⟩
    have HR2:Hid (RX w2 I G h v ls most (tk ls s x).2):=hr2
    have HK2:Hid (KG G w1 w2):=hk2
    clear hr2 hk2 T1
    go_wp2_with fail
    go_ret
    rw[HE.out,←HP.out]
    exact⟨by go_num,HR2.out,HK2.out⟩

set_option maxRecDepth 100000 in
set_option maxHeartbeats 2000000 in
theorem distance5(w:World)(I G:Nat→Prop)(h:Nat)(v:Value)(ls:List Nat)(most:Nat)(s:S5)(y:Nat)(hz:Sz ls most)(hy2:y≤29)(hr:RX w I G h v ls most s):
  Calls Tryz.prog 163 #[.pointer (some ⟨h,0,none⟩),.int .i64 (y:Nat)] w fun r w'=>r=.returned (.int .i64 ((dist5 ls s y).1:Nat))∧RX w' I G h v ls most (dist5 ls s y).2∧KG G w w':=by
 have HR:Hid (RX w I G h v ls most s):=hr
 have HZ:Hid (Sz ls most):=hz
 clear hr hz
 have hx:=xdist_le y hy2
 have HE:Hid (dist5 ls s y=(dbase y+(tk ls s (xdist y)).1,(tk ls s (xdist y)).2)):=hid rfl
 go_enter Tryz.func163,Tryz.ntmps163
 go_wp2_with fail
 go_loopg [5,6] y (fun q zp zi wr=>∃(i p:Nat),y-i≤q∧i≤y∧p≤1+8192*i∧zi=.int .i64 (i:Nat)∧zp=.int .i64 (p:Nat)∧wr=w∧Hid (p=dbase i))
 case atStart=>exact⟨0,1,by omega,by omega,by omega,rfl,rfl,rfl,hid rfl⟩
 case round=>
  obtain⟨i,p,hq,hi,hp,rfl,rfl,rfl,HP⟩:=hrel
  by_cases hlt:i<y
  ·have hxi:=xdist_le i (by omega)
   obtain⟨x,hx'⟩:∃x,x=xdist i:=⟨_,rfl⟩
   have HX:Hid (x=xdist i):=hx'
   rw[←hx']at hxi
   have E1:=wide5 wr i (by omega)
   rw[←hx']at E1
   have P1:=power5 wr x (by omega)
   obtain⟨q2,hq2⟩:∃q2,q2=2 ^ x:=⟨_,rfl⟩
   rw[←hq2]at P1
   have hq32:q2≤8192:=by
    rw[hq2]
    exact Nat.le_trans (Nat.pow_le_pow_right (by omega) hxi) (by decide)
   have HQ:Hid (q2=2 ^ x):=hq2
   clear hx' hq2
   go_wp2_with fail
   refine E1.mono ?_
   rintro e w1 ⟨rfl,hw1⟩
   subst hw1
   go_wp2_with fail
   refine P1.mono ?_
   rintro e w1 ⟨rfl,hw1⟩
   subst hw1
   go_wp2_with fail
   go_roundg (gk-1)
   case measure=>omega
   case rel=>exact⟨i+1,p+q2,by omega,by omega,by omega,by go_num,by go_num,rfl,hid (by rw[dbase_succ i,←HX.out,←HQ.out,HP.out])⟩
  ·have hin:i=y:=by omega
   subst hin
   have E1:=wide5 wr i (by omega)
   have T1:=take5 wr I G h v ls most s (xdist i) HZ.out (by omega) HR.out
   have hxl:=tk_lt ls HZ.out.bit s (xdist i)
   have hxl2:2 ^ xdist i≤8192:=Nat.le_trans (Nat.pow_le_pow_right (by omega) hx) (by decide)
   obtain⟨x,hx'⟩:∃x,x=xdist i:=⟨_,rfl⟩
   rw[←hx']at E1 T1 hxl hxl2 HE
   obtain⟨t,ht⟩:∃t,t=(tk ls s x).1:=⟨_,rfl⟩
   rw[←ht]at T1 hxl HE
   clear hx' ht
   go_wp2_with fail
   refine E1.mono ?_
   rintro e w1 ⟨rfl,hw1⟩
   subst hw1
   go_wp2_with fail
   refine T1.mono ?_
   rintro e w2 ⟨rfl,hr2,hk2⟩
   have HR2:Hid (RX w2 I G h v ls most (tk ls s x).2):=hr2
   have HK2:Hid (KG G w1 w2):=hk2
   clear hr2 hk2 T1
   go_wp2_with fail
   go_ret
   rw[HE.out,←HP.out]
   exact⟨by go_num,HR2.out,HK2.out⟩

end Go.Proofs.YtggcbnhckcenmaaGreatDoor
