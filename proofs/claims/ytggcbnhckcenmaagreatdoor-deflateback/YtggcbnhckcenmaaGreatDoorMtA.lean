import Derived.Test.YtggcbnhckcenmaaGreatDoorMtM
import Derived.Test.YtggcbnhckcenmaaGreatDoorCln
import Derived.Test.YtggcbnhckcenmaaGreatDoorBlk
import Derived.Test.YtggcbnhckcenmaaGreatDoorCopyK
namespace Go.Proofs.YtggcbnhckcenmaaGreatDoor
open Go.RowKit

def tkC(t:TK):List Value:=[.int .u8 (t.lit:Nat),.int .i64 t.len,.int .i64 t.dist]
def tkA(t:TK):Array Value:=#[.int .u8 (t.lit:Nat),.int .i64 t.len,.int .i64 t.dist]

theorem tkC_ok:EncOk tkC 3:=⟨fun _=>rfl,fun x u hu=>by simp[tkC]at hu;rcases hu with rfl | rfl | rfl<;>rfl,by decide⟩

abbrev TkRow(B:Nat):=RowC B 33 3 tkC
abbrev TkSrc:=@SrcC TK 3 tkC

theorem Tryz.infoTk:(Tryz.prog.info? 33).map (fun i=>(i.zero,i.size,i.bytes))=some (some (.agg #[.int .u8 0,.int .i64 0,.int .i64 0]),3,24):=by kernel_rfl

def inT(n lo hi:Int):Bool:=decide (lo≤n) && decide (n≤hi)

set_option maxHeartbeats 1000000 in
theorem mwithin_any(w:World)(n lo hi:Int):
  Calls Tryz.prog 141 #[.int .i64 n,.int .i64 lo,.int .i64 hi] w fun e w'=>e=.returned (.bool (inT n lo hi))∧w'=w:=by
 go_enter Tryz.func141,Tryz.ntmps141
 by_cases h:lo≤n
 ·go_wp2_with fail
  go_ret
  exact⟨by simp only[inT,h,decide_true,Bool.true_and];rfl,rfl⟩
 ·go_wp2_with fail
  go_ret
  have hd:decide (lo≤n)=false:=by simp;omega
  exact⟨by simp only[inT,hd,Bool.false_and];rfl,rfl⟩

theorem mayT_zero{t:TK}(h:t.len=0)(said:Nat):mayT t said=(t.dist==0):=by
 unfold mayT;rw[if_pos h,Bool.eq_iff_iff];simp
theorem mayT_copy{t:TK}(h:t.len≠0)(said:Nat):mayT t said=(decide (t.lit=0) && (inT t.len 3 258 && inT t.dist 1 (said:Int))):=by
 unfold mayT;rw[if_neg h,Bool.eq_iff_iff];simp[inT,and_assoc]

set_option maxRecDepth 100000 in
set_option maxHeartbeats 2000000 in
theorem mmay_any(w:World)(t:TK)(said:Nat):
  Calls Tryz.prog 104 #[.agg (tkA t),.int .i64 (said:Nat)] w fun e w'=>e=.returned (.bool (mayT t said))∧Same w w':=by
 obtain⟨lit,len,dist⟩:=t
 have HW1:=mwithin_any (w.alloc (.cells #[.int .u8 (lit:Nat),.int .i64 len,.int .i64 dist] 33)) len 3 258
 have HW2:=mwithin_any (w.alloc (.cells #[.int .u8 (lit:Nat),.int .i64 len,.int .i64 dist] 33)) dist 1 (said:Nat)
 have HK0:Hid (Same w (w.alloc (.cells #[.int .u8 (lit:Nat),.int .i64 len,.int .i64 dist] 33))):=hid ((Kept.refl _ w).alloc _)
 by_cases h0:len=0
 ·have HM:Hid (mayT ⟨lit,len,dist⟩ said=(dist==0)):=hid (mayT_zero h0 said)
  have e0:(len==0)=true:=by simp[h0]
  clear h0 HW1 HW2
  simp only[tkA]
  go_enter Tryz.func104,Tryz.ntmps104
  go_wp2_with fail
  go_ret
  exact⟨by rw[HM.out];rfl,HK0.out⟩
 ·have HM:Hid (mayT ⟨lit,len,dist⟩ said=(decide (lit=0) && (inT len 3 258 && inT dist 1 (said:Int)))):=hid (mayT_copy h0 said)
  have e0:(len==0)=false:=by simp[h0]
  clear h0
  simp only[tkA]
  by_cases hl:lit=0
  ·subst hl
   cases h1:inT len 3 258 with
   | false=>
    rw[h1]at HW1 HM
    clear h1 HW2
    go_enter Tryz.func104,Tryz.ntmps104
    go_wp2_with fail
    refine HW1.mono ?_
    rintro e w1 ⟨rfl,rfl⟩
    clear HW1
    go_wp2_with fail
    go_ret
    exact⟨by rw[HM.out];rfl,HK0.out⟩
   | true=>
    rw[h1]at HW1 HM
    clear h1
    go_enter Tryz.func104,Tryz.ntmps104
    go_wp2_with fail
    refine HW1.mono ?_
    rintro e w1 ⟨rfl,rfl⟩
    clear HW1
    go_wp2_with fail
    refine HW2.mono ?_
    rintro e w1 ⟨rfl,rfl⟩
    clear HW2
    go_wp2_with fail
    go_ret
    exact⟨by rw[HM.out];rfl,HK0.out⟩
  ·have el:((lit:Int)==0)=false:=by simp;omega
   have HL:Hid (decide (lit=0)=false):=hid (by simp[hl])
   clear hl HW1 HW2
   go_enter Tryz.func104,Tryz.ntmps104
   go_wp2_with fail
   go_ret
   exact⟨by rw[HM.out,HL.out];rfl,HK0.out⟩

end Go.Proofs.YtggcbnhckcenmaaGreatDoor
