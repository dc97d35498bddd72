/-
  Of the proof: parts MtA, MtB.
-/
import Derived.Test.YtggcbnhckcenmaaGreatDoorJ1
import Derived.Test.YtggcbnhckcenmaaGreatDoorJ10
import Derived.Test.YtggcbnhckcenmaaGreatDoorJ3
import Derived.Test.YtggcbnhckcenmaaGreatDoorJ11

namespace Go.Proofs.YtggcbnhckcenmaaGreatDoor
open Go.RowKit

def tkC(t:TK):List Value:=[.int .u8 (t.lit:Nat),.int .i64 t.len,.int .i64 t.dist]
def tkA(t:TK):Array Value:=#[.int .u8 (t.lit:Nat),.int .i64 t.len,.int .i64 t.dist]

theorem tkC_ok:EncOk tkC 3:=⟨fun _=>rfl,fun x u hu=>by simp[tkC]at hu;rcases hu with rfl | rfl | rfl<;>rfl,by decide⟩

abbrev TkRow(B:Nat):=RowC B 33 3 tkC
abbrev TkSrc:=@SrcC TK 3 tkC

theorem Tryz.infoTk:(Tryz.prog.info? 33).map (fun i=>(i.zero,i.size,i.bytes))=some (some (.agg #[.int .u8 0,.int .i64 0,.int .i64 0]),3,24):=by kernel_rfl

def inT(n lo hi:Int):Bool:=decide (lo≤n) && decide (n≤hi)

set_option maxHeartbeats 1000000 in
theorem mwithin_any(w:World)(n lo hi:Int):
  Calls Tryz.prog 141 #[.int .i64 n,.int .i64 lo,.int .i64 hi] w fun e w'=>e=.returned (.bool (inT n lo hi))∧w'=w:=by
 go_enter Tryz.func141,Tryz.ntmps141
 by_cases h:lo≤n
 ·go_wp2_with fail
  go_ret
  exact⟨by simp only[inT,h,decide_true,Bool.true_and];rfl,rfl⟩
 ·go_wp2_with fail
  go_ret
  have hd:decide (lo≤n)=false:=by simp;omega
  exact⟨by simp only[inT,hd,Bool.false_and];rfl,rfl⟩

theorem mayT_zero{t:TK}(h:t.len=0)(said:Nat):mayT t said=(t.dist==0):=by
 unfold mayT;rw[if_pos h,Bool.eq_iff_iff];simp
theorem mayT_copy{t:TK}(h:t.len≠0)(said:Nat):mayT t said=(decide (t.lit=0) && (inT t.len 3 258 && inT t.dist 1 (said:Int))):=by
 unfold mayT;rw[if_neg h,Bool.eq_iff_iff];simp[inT,and_assoc]

set_option maxRecDepth 100000 in
set_option maxHeartbeats 2000000 in
theorem mmay_any(w:World)(t:TK)(said:Nat):
  Calls Tryz.prog 104 #[.agg (tkA t),.int .i64 (said:Nat)] w fun e w'=>e=.returned (.bool (mayT t said))∧Same w w':=by
 obtain⟨lit,len,dist⟩:=t
 have HW1:=mwithin_any (w.alloc (.cells #[.int .u8 (lit:Nat),.int .i64 len,.int .i64 dist] 33)) len 3 258
 have HW2:=mwithin_any (w.alloc (.cells #[.int .u8 (lit:Nat),.int .i64 len,.int .i64 dist] 33)) dist 1 (said:Nat)
 have HK0:Hid (Same w (w.alloc (.cells #[.int .u8 (lit:Nat),.int .i64 len,.int .i64 dist] 33))):=hid ((Kept.refl _ w).alloc _)
 by_cases h0:len=0
 ·have HM:Hid (mayT ⟨lit,len,dist⟩ said=(dist==0)):=hid (mayT_zero h0 said)
  have e0:(len==0)=true:=by simp[h0]
  clear h0 HW1 HW2
  simp only[tkA]
  go_enter Tryz.func104,Tryz.ntmps104
  go_wp2_with fail
  go_ret
  exact⟨by rw[HM.out];rfl,HK0.out⟩
 ·have HM:Hid (mayT ⟨lit,len,dist⟩ said=(decide (lit=0) && (inT len 3 258 && inT dist 1 (said:Int)))):=hid (mayT_copy h0 said)
  have e0:(len==0)=false:=by simp[h0]
  clear h0
  simp only[tkA]
  by_cases hl:lit=0
  ·subst hl
   cases h1:inT len 3 258 with
   | false=>
    rw[h1]at HW1 HM
    clear h1 HW2
    go_enter Tryz.func104,Tryz.ntmps104
    go_wp2_with fail
    refine HW1.mono ?_
    rintro e w1 ⟨rfl,rfl⟩
    clear HW1
    go_wp2_with fail
    go_ret
    exact⟨by rw[HM.out];rfl,HK0.out⟩
   | true=>
    rw[h1]at HW1 HM
    clear h1
    go_enter Tryz.func104,Tryz.ntmps104
    go_wp2_with fail
    refine HW1.mono ?_
    rintro e w1 ⟨rfl,rfl⟩
    clear HW1
    go_wp2_with fail
    refine HW2.mono ?_
    rintro e w1 ⟨rfl,rfl⟩
    clear HW2
    go_wp2_with fail
    go_ret
    exact⟨by rw[HM.out];rfl,HK0.out⟩
  ·have el:((lit:Int)==0)=false:=by simp;omega
   have HL:Hid (decide (lit=0)=false):=hid (by simp[hl])
   clear hl HW1 HW2
   go_enter Tryz.func104,Tryz.ntmps104
   go_wp2_with fail
   go_ret
   exact⟨by rw[HM.out,HL.out];rfl,HK0.out⟩

end Go.Proofs.YtggcbnhckcenmaaGreatDoor

namespace Go.Proofs.YtggcbnhckcenmaaGreatDoor
open Go.RowKit

def okT:Except Nat Nat→Nat
 | .ok n=>n
 | .error _=>0

theorem TkSrc.at{w w':World}{I:Nat→Prop}{ao:Option Addr}{n cap:Nat}{ts:List TK}(h:TkSrc w I (.slice ao n cap) ts)(hk:Same w w')(j:Nat)(hj:j<ts.length):
  ∃b o,ao=some ⟨b,o,none⟩∧w'.cell? ⟨b,o+j*3,none⟩=some (.int .u8 (ts[j].lit:Nat))∧w'.cell? ⟨b,o+j*3+1,none⟩=some (.int .i64 ts[j].len)∧w'.cell? ⟨b,o+j*3+2,none⟩=some (.int .i64 ts[j].dist):=by
 obtain⟨ao',cap',e1,_,e2⟩:=h.kept tkC_ok hk (fun _ _ _ f=>f)
 injection e1 with e3 _ _
 subst e3
 obtain⟨b,o,e4,_,e5⟩:=e2 (by intro e;rw[e]at hj;simp at hj)
 have:=e5 j hj
 exact⟨b,o,e4,this 0 (by decide),this 1 (by decide),this 2 (by decide)⟩

set_option maxRecDepth 100000 in
set_option maxHeartbeats 2000000 in
theorem mmeas_any(w:World)(v:Value)(I:Nat→Prop)(ts:List TK)(most:Nat)(hs:TkSrc w I v ts)(hlen:ts.length≤10000000)(hm:most≤16384):
  Calls Tryz.prog 66 #[v,.int .i64 (most:Nat)] w fun e w'=>e=.returned (.tuple #[.int .i64 (okT (measT most ts 0):Nat),.int .i64 (errT (measT most ts 0):Nat)])∧Same w w':=by
 obtain⟨ao,cap,rfl,hx1,hx2⟩:=id hs
 clear hx1 hx2
 have HS:Hid (TkSrc w I (.slice ao ts.length cap) ts):=hs
 clear hs
 go_enter Tryz.func66,Tryz.ntmps66
 go_wp2_with fail
 go_loopg [6,12] ts.length (fun q zc zi wr=>∃(i c:Nat),ts.length-i≤q∧i≤ts.length∧zi=.int .i64 (i:Nat)∧zc=.int .i64 (c:Nat)∧c≤most∧Hid (measT most (ts.drop i) c=measT most ts 0)∧Hid (Same w wr))
 case atStart=>exact⟨0,0,by omega,by omega,rfl,rfl,by omega,hid rfl,hid (Kept.refl _ _)⟩
 case round=>
  obtain⟨i,c,hq,hi,rfl,rfl,hc,HM,HK⟩:=hrel
  by_cases hlt:i<ts.length
  ·obtain⟨b,o,e1,c1,c2,c3⟩:=HS.out.at HK.out i hlt
   subst e1
   obtain⟨t,ht⟩:∃t,t=ts[i]:=⟨_,rfl⟩
   rw[←ht]at c1 c2 c3
   have HD:Hid (measT most ts 0=measT most (t::ts.drop (i+1)) c):=hid (by rw[←HM.out,List.drop_eq_getElem_cons hlt,ht])
   obtain⟨lit,len,dist⟩:=t
   clear ht HM
   have hk0:Same wr (wr.alloc (.cells #[.int .u8 (lit:Nat),.int .i64 len,.int .i64 dist] 33)):=(Kept.refl _ wr).alloc _
   have HMY:=mmay_any (wr.alloc (.cells #[.int .u8 (lit:Nat),.int .i64 len,.int .i64 dist] 33)) ⟨lit,len,dist⟩ c
   simp only[tkA]at HMY
   have HB0:Hid (Blk (wr.alloc (.cells #[.int .u8 (lit:Nat),.int .i64 len,.int .i64 dist] 33)) wr.heap.size #[.int .u8 (lit:Nat),.int .i64 len,.int .i64 dist] 33):=hid (Blk.new wr _ _)
   have HK0:Hid (Same w (wr.alloc (.cells #[.int .u8 (lit:Nat),.int .i64 len,.int .i64 dist] 33))):=hid (Same.trans HK.out hk0)
   clear hk0
   cases hmy:mayT ⟨lit,len,dist⟩ c with
   | false=>
    have HE:Hid (measT most ts 0=.error 60):=hid (by rw[HD.out,measT,if_pos hmy])
    rw[hmy]at HMY
    clear hmy HD
    go_wp2_with fail
    refine HMY.mono ?_
    rintro e w1 ⟨rfl,hk1⟩
    have HK1:Hid (Same w w1):=hid (Same.trans HK0.out hk1)
    clear hk1 HMY
    go_wp2_with fail
    go_ret2
    exact⟨by rw[HE.out];rfl,HK1.out⟩
   | true=>
    obtain⟨tl,htl⟩:∃n:Nat,n=tlen ⟨lit,len,dist⟩:=⟨_,rfl⟩
    have htl2:tl≤258∧1≤tl:=by
     rcases mayT_cases hmy with⟨_,_,h⟩ | ⟨n,d,_,_,_,_,_,_,_,h⟩<;>omega
    have hmax:max len 1=(tl:Int):=by rw[htl];unfold tlen;simp only;omega
    have HD2:Hid (measT most ts 0=if most<c+tl then .error 2 else measT most (ts.drop (i+1)) (c+tl)):=hid (by rw[HD.out,measT,if_neg (by rw[hmy];decide),htl])
    rw[hmy]at HMY
    obtain⟨le,hle⟩:∃x:Nat,x=most-c:=⟨_,rfl⟩
    have hsub:(most:Int)-(c:Int)=(le:Int):=by omega
    clear hmy HD htl
    by_cases hbig:most<c+tl
    ·have HE:Hid (measT most ts 0=.error 2):=hid (by rw[HD2.out,if_pos hbig])
     have hg:le<tl:=by omega
     clear hbig HD2 hle
     go_wp2_with fail
     refine HMY.mono ?_
     rintro e w1 ⟨rfl,hk1⟩
     have HK1:Hid (Same w w1):=hid (Same.trans HK0.out hk1)
     have d1:w1.cell? ⟨wr.heap.size,1,none⟩=some (.int .i64 len):=(HB0.out.kept hk1 (fun f=>f)).cell 1
     clear hk1 HMY c1 c2 c3
     go_wp2_with fail
     all_goals first
      | (exfalso;omega)
      | (go_ret2;exact⟨by rw[HE.out];rfl,HK1.out⟩)
    ·have HE:Hid (measT most (ts.drop (i+1)) (c+tl)=measT most ts 0):=hid (by rw[HD2.out,if_neg hbig])
     have hg:¬le<tl:=by omega
     obtain⟨c2',hc2⟩:∃x:Nat,x=c+tl:=⟨_,rfl⟩
     have hadd:(c:Int)+(tl:Int)=(c2':Int):=by omega
     have hc2m:c2'≤most:=by omega
     rw[←hc2]at HE
     clear hbig HD2 hle hc2
     go_wp2_with fail
     refine HMY.mono ?_
     rintro e w1 ⟨rfl,hk1⟩
     have HK1:Hid (Same w w1):=hid (Same.trans HK0.out hk1)
     have d1:w1.cell? ⟨wr.heap.size,1,none⟩=some (.int .i64 len):=(HB0.out.kept hk1 (fun f=>f)).cell 1
     clear hk1 HMY c1 c2 c3
     go_wp2_with fail
     all_goals first
      | (exfalso;omega)
      | (go_roundg (gk-1)
         case measure=>omega
         case rel=>exact⟨i+1,c2',by omega,by omega,by go_num,by congr 1;omega,hc2m,HE,HK1⟩)
  ·have hik:i=ts.length:=by omega
   have HE:Hid (measT most ts 0=.ok c):=hid (by rw[←HM.out,hik,List.drop_length];rfl)
   clear hik
   go_wp2_with fail
   go_ret2
   exact⟨by rw[HE.out];rfl,HK.out⟩

set_option maxHeartbeats 1000000 in
theorem mcheck_any(w:World)(v:Value)(I:Nat→Prop)(ts:List TK)(hs:TkSrc w I v ts)(hlen:ts.length≤10000000):
  Calls Tryz.prog 41 #[v] w fun e w'=>e=.returned (.int .i64 (errT (measT 16384 ts 0):Nat))∧Same w w':=by
 have HM:=mmeas_any w v I ts 16384 hs hlen (Nat.le_refl _)
 clear hs
 go_enter Tryz.func41,Tryz.ntmps41
 go_wp2_with fail
 refine HM.mono ?_
 rintro e w1 ⟨rfl,hk⟩
 have HK:Hid (Same w w1):=hk
 clear hk HM
 go_wp2_with fail
 go_ret
 exact⟨rfl,HK.out⟩

end Go.Proofs.YtggcbnhckcenmaaGreatDoor
