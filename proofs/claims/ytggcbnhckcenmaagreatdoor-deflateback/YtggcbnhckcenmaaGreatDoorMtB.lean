import Derived.Test.YtggcbnhckcenmaaGreatDoorMtA
namespace Go.Proofs.YtggcbnhckcenmaaGreatDoor
open Go.RowKit

def okT:Except Nat Nat→Nat
 | .ok n=>n
 | .error _=>0

theorem TkSrc.at{w w':World}{I:Nat→Prop}{ao:Option Addr}{n cap:Nat}{ts:List TK}(h:TkSrc w I (.slice ao n cap) ts)(hk:Same w w')(j:Nat)(hj:j<ts.length):
  ∃b o,ao=some ⟨b,o,none⟩∧w'.cell? ⟨b,o+j*3,none⟩=some (.int .u8 (ts[j].lit:Nat))∧w'.cell? ⟨b,o+j*3+1,none⟩=some (.int .i64 ts[j].len)∧w'.cell? ⟨b,o+j*3+2,none⟩=some (.int .i64 ts[j].dist):=by
 obtain⟨ao',cap',e1,_,e2⟩:=h.kept tkC_ok hk (fun _ _ _ f=>f)
 injection e1 with e3 _ _
 subst e3
 obtain⟨b,o,e4,_,e5⟩:=e2 (by intro e;rw[e]at hj;simp at hj)
 have:=e5 j hj
 exact⟨b,o,e4,this 0 (by decide),this 1 (by decide),this 2 (by decide)⟩

set_option maxRecDepth 100000 in
set_option maxHeartbeats 2000000 in
theorem mmeas_any(w:World)(v:Value)(I:Nat→Prop)(ts:List TK)(most:Nat)(hs:TkSrc w I v ts)(hlen:ts.length≤10000000)(hm:most≤16384):
  Calls Tryz.prog 66 #[v,.int .i64 (most:Nat)] w fun e w'=>e=.returned (.tuple #[.int .i64 (okT (measT most ts 0):Nat),.int .i64 (errT (measT most ts 0):Nat)])∧Same w w':=by
 obtain⟨ao,cap,rfl,hx1,hx2⟩:=id hs
 clear hx1 hx2
 have HS:Hid (TkSrc w I (.slice ao ts.length cap) ts):=hs
 clear hs
 go_enter Tryz.func66,Tryz.ntmps66
 go_wp2_with fail
 go_loopg [6,12] ts.length (fun q zc zi wr=>∃(i c:Nat),ts.length-i≤q∧i≤ts.length∧zi=.int .i64 (i:Nat)∧zc=.int .i64 (c:Nat)∧c≤most∧Hid (measT most (ts.drop i) c=measT most ts 0)∧Hid (Same w wr))
 case atStart=>exact⟨0,0,by omega,by omega,rfl,rfl,by omega,hid rfl,hid (Kept.refl _ _)⟩
 case round=>
  obtain⟨i,c,hq,hi,rfl,rfl,hc,HM,HK⟩:=hrel
  by_cases hlt:i<ts.length
  ·obtain⟨b,o,e1,c1,c2,c3⟩:=HS.out.at HK.out i hlt
   subst e1
   obtain⟨t,ht⟩:∃t,t=ts[i]:=⟨_,rfl⟩
   rw[←ht]at c1 c2 c3
   have HD:Hid (measT most ts 0=measT most (t::ts.drop (i+1)) c):=hid (by rw[←HM.out,List.drop_eq_getElem_cons hlt,ht])
   obtain⟨lit,len,dist⟩:=t
   clear ht HM
   have hk0:Same wr (wr.alloc (.cells #[.int .u8 (lit:Nat),.int .i64 len,.int .i64 dist] 33)):=(Kept.refl _ wr).alloc _
   have HMY:=mmay_any (wr.alloc (.cells #[.int .u8 (lit:Nat),.int .i64 len,.int .i64 dist] 33)) ⟨lit,len,dist⟩ c
   simp only[tkA]at HMY
   have HB0:Hid (Blk (wr.alloc (.cells #[.int .u8 (lit:Nat),.int .i64 len,.int .i64 dist] 33)) wr.heap.size #[.int .u8 (lit:Nat),.int .i64 len,.int .i64 dist] 33):=hid (Blk.new wr _ _)
   have HK0:Hid (Same w (wr.alloc (.cells #[.int .u8 (lit:Nat),.int .i64 len,.int .i64 dist] 33))):=hid (Same.trans HK.out hk0)
   clear hk0
   cases hmy:mayT ⟨lit,len,dist⟩ c with
   | false=>
    have HE:Hid (measT most ts 0=.error 60):=hid (by rw[HD.out,measT,if_pos hmy])
    rw[hmy]at HMY
    clear hmy HD
    go_wp2_with fail
    refine HMY.mono ?_
    rintro e w1 ⟨rfl,hk1⟩
    have HK1:Hid (Same w w1):=hid (Same.trans HK0.out hk1)
    clear hk1 HMY
    go_wp2_with fail
    go_ret2
    exact⟨by rw[HE.out];rfl,HK1.out⟩
   | true=>
    obtain⟨tl,htl⟩:∃n:Nat,n=tlen ⟨lit,len,dist⟩:=⟨_,rfl⟩
    have htl2:tl≤258∧1≤tl:=by
     rcases mayT_cases hmy with⟨_,_,h⟩ | ⟨n,d,_,_,_,_,_,_,_,h⟩<;>omega
    have hmax:max len 1=(tl:Int):=by rw[htl];unfold tlen;simp only;omega
    have HD2:Hid (measT most ts 0=if most<c+tl then .error 2 else measT most (ts.drop (i+1)) (c+tl)):=hid (by rw[HD.out,measT,if_neg (by rw[hmy];decide),htl])
    rw[hmy]at HMY
    obtain⟨le,hle⟩:∃x:Nat,x=most-c:=⟨_,rfl⟩
    have hsub:(most:Int)-(c:Int)=(le:Int):=by omega
    clear hmy HD htl
    by_cases hbig:most<c+tl
    ·have HE:Hid (measT most ts 0=.error 2):=hid (by rw[HD2.out,if_pos hbig])
     have hg:le<tl:=by omega
     clear hbig HD2 hle
     go_wp2_with fail
     refine HMY.mono ?_
     rintro e w1 ⟨rfl,hk1⟩
     have HK1:Hid (Same w w1):=hid (Same.trans HK0.out hk1)
     have d1:w1.cell? ⟨wr.heap.size,1,none⟩=some (.int .i64 len):=(HB0.out.kept hk1 (fun f=>f)).cell 1
     clear hk1 HMY c1 c2 c3
     go_wp2_with fail
     all_goals first
      | (exfalso;omega)
      | (go_ret2;exact⟨by rw[HE.out];rfl,HK1.out⟩)
    ·have HE:Hid (measT most (ts.drop (i+1)) (c+tl)=measT most ts 0):=hid (by rw[HD2.out,if_neg hbig])
     have hg:¬le<tl:=by omega
     obtain⟨c2',hc2⟩:∃x:Nat,x=c+tl:=⟨_,rfl⟩
     have hadd:(c:Int)+(tl:Int)=(c2':Int):=by omega
     have hc2m:c2'≤most:=by omega
     rw[←hc2]at HE
     clear hbig HD2 hle hc2
     go_wp2_with fail
     refine HMY.mono ?_
     rintro e w1 ⟨rfl,hk1⟩
     have HK1:Hid (Same w w1):=hid (Same.trans HK0.out hk1)
     have d1:w1.cell? ⟨wr.heap.size,1,none⟩=some (.int .i64 len):=(HB0.out.kept hk1 (fun f=>f)).cell 1
     clear hk1 HMY c1 c2 c3
     go_wp2_with fail
     all_goals first
      | (exfalso;omega)
      | (go_roundg (gk-1)
         case measure=>omega
         case rel=>exact⟨i+1,c2',by omega,by omega,by go_num,by congr 1;omega,hc2m,HE,HK1⟩)
  ·have hik:i=ts.length:=by omega
   have HE:Hid (measT most ts 0=.ok c):=hid (by rw[←HM.out,hik,List.drop_length];rfl)
   clear hik
   go_wp2_with fail
   go_ret2
   exact⟨by rw[HE.out];rfl,HK.out⟩

set_option maxHeartbeats 1000000 in
theorem mcheck_any(w:World)(v:Value)(I:Nat→Prop)(ts:List TK)(hs:TkSrc w I v ts)(hlen:ts.length≤10000000):
  Calls Tryz.prog 41 #[v] w fun e w'=>e=.returned (.int .i64 (errT (measT 16384 ts 0):Nat))∧Same w w':=by
 have HM:=mmeas_any w v I ts 16384 hs hlen (Nat.le_refl _)
 clear hs
 go_enter Tryz.func41,Tryz.ntmps41
 go_wp2_with fail
 refine HM.mono ?_
 rintro e w1 ⟨rfl,hk⟩
 have HK:Hid (Same w w1):=hk
 clear hk HM
 go_wp2_with fail
 go_ret
 exact⟨rfl,HK.out⟩

end Go.Proofs.YtggcbnhckcenmaaGreatDoor
