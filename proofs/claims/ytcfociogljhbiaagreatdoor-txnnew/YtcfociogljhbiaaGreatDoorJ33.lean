/-
  Of the proof: parts TzR, TzV, TzS, TzW, TzN, UaA, TyB, UaB, TzT.
-/
import Derived.Deep.CutRange
import Derived.Laws.StructEq
import Derived.BigQuiet
import Derived.Test.YtcfociogljhbiaaGreatDoorJ32
import Derived.Test.YtcfociogljhbiaaGreatDoorJ2
import Derived.Test.YtcfociogljhbiaaGreatDoorJ8
import Derived.Test.YtcfociogljhbiaaGreatDoorJ14
import Derived.Test.YtcfociogljhbiaaGreatDoorJ31
import Derived.Test.YtcfociogljhbiaaGreatDoorJ25

namespace Go.Proofs.YtcfociogljhbiaaGreatDoor
open Go.RowKit Go.Maps Go.Sort Go.Shelf Go.Lib

def ArcI(w:World)(I:Nat→Prop)(v:Value)(As:List Ad):Prop:=SrcC 3 adE w I v As∧∀x∈As,SrcC 2 enE2 w I (.slice x.a x.n x.c) x.es

def bx0:Bx:=⟨⟨#[]⟩,⟨#[]⟩,⟨Nat.zero_le _,Nat.zero_le _⟩⟩

def ckL(p:Bx)(t a:Nat):List Ad→Int
 | []=>0
 | x::r=>if (sho x.b.tn && sho x.b.ar && decide (cmpB p x.b<0))=true then(
   if 16<(if x.b.tn=p.tn then a else 0)+1∨8<(if x.b.tn=p.tn then t else t+1)then 2
   else if chE14 x.es=0 then ckL x.b (if x.b.tn=p.tn then t else t+1) ((if x.b.tn=p.tn then a else 0)+1) r else chE14 x.es)else 1

theorem ArcI.at3{w:World}{I:Nat→Prop}{ao:Option Addr}{n c:Nat}{xs:List Ad}(h:ArcI w I (.slice ao n c) xs)(j:Nat)(hj:j<n):∃b o x,ao=some ⟨b,o,none⟩∧xs[j]? = some x∧w.cell? ⟨b,o+j*3,none⟩=some (.string x.b.tn)∧w.cell? ⟨b,o+j*3+1,none⟩=some (.string x.b.ar)∧w.cell? ⟨b,o+j*3+2,none⟩=some (.slice x.a x.n x.c)∧SrcC 2 enE2 w I (.slice x.a x.n x.c) x.es:=by
 obtain⟨⟨a',c',e,hl,hc⟩,h2⟩:=h
 injection e with e1 e2 e3
 have hjx:j<xs.length:=by omega
 obtain⟨b,o,h1,h3,h4⟩:=hc (fun e=>by rw[e]at hjx;simp at hjx)
 exact⟨b,o,xs[j],e1.trans h1,List.getElem?_eq_getElem hjx,h4 j hjx 0 (by omega),h4 j hjx 1 (by omega),h4 j hjx 2 (by omega),h2 _ (List.getElem_mem _)⟩

theorem ArcI.len3{w:World}{I:Nat→Prop}{ao:Option Addr}{n c:Nat}{xs:List Ad}(h:ArcI w I (.slice ao n c) xs):n=xs.length:=by
 obtain⟨⟨a',c',e,hl,hc⟩,h2⟩:=h
 injection e

set_option maxRecDepth 100000 in
set_option maxHeartbeats 2000000 in
theorem scheck_any(w:World)(ao:Option Addr)(n c:Nat)(As:List Ad)(h:ArcI w (fun k=>k<w.heap.size) (.slice ao n c) As)(hX:Mxl w)(hn:n≤1000000):Calls Tryz.prog 34 #[.slice ao n c] w fun e w'=>e=.returned (.int .i64 (ckL bx0 0 0 As))∧Same w w':=by
 have HA:=hid h
 have HX:=hid hX
 have HN:Hid (n=As.length∧n≤1000000):=hid ⟨h.len3,hn⟩
 clear h hX hn
 go_enter Tryz.func34,Tryz.ntmps34
 go_wp2_with fail
 obtain⟨w1,hw1⟩:∃W,W=w.alloc (.cells #[.string ⟨#[]⟩,.string ⟨#[]⟩,.slice none 0 0] 83):=⟨_,rfl⟩
 obtain⟨g,hg⟩:∃g,g=w.heap.size:=⟨_,rfl⟩
 have HB1:Hid (Blk w1 g #[.string bx0.tn,.string bx0.ar,.slice none 0 0] 83∧Same w w1):=hid (by rw[hw1,hg];exact⟨Blk.new w _ _,(Kept.refl _ _).alloc _⟩)
 have HG:Hid (w.heap.size≤g):=hid (by omega)
 rw[←hw1,←hg]
 clear hw1 hg
 go_loopg [4,5,11] n (fun q z4 z5 z11 wr=>∃(i t a:Nat) (p:Bx) (pv:Value),z4=.int .i64 (t:Nat)∧z5=.int .i64 (a:Nat)∧z11=.int .i64 (i:Nat)∧i≤n∧n-i≤q∧Hid (ckL p t a (As.drop i)=ckL bx0 0 0 As∧Same w wr∧Blk wr g #[.string p.tn,.string p.ar,pv] 83∧t≤8∧a≤16))
 case atStart=>exact⟨0,0,0,bx0,.slice none 0 0,rfl,rfl,rfl,by omega,by omega,hid ⟨rfl,HB1.out.2,HB1.out.1,by omega,by omega⟩⟩
 case round=>
  clear HB1
  obtain⟨i,t,a,p,pv,rfl,rfl,rfl,hi,hiq,HI⟩:=hrel
  by_cases hlt:i<n
  ·have f1:decide ((i:Int)<(n:Int))=true:=by simp;omega
   have f2:decide (i<n)=true:=by simp;omega
   obtain⟨b,o,x,rfl,hx,k0,k1,k2,hes⟩:=HA.out.at3 i hlt
   have k0:=HI.out.2.1.cell k0 (fun f=>f)
   have k1:=HI.out.2.1.cell k1 (fun f=>f)
   have k2:=HI.out.2.1.cell k2 (fun f=>f)
   have HES:Hid (SrcC 2 enE2 w (fun k=>k<w.heap.size) (.slice x.a x.n x.c) x.es):=hid hes
   have c1:(0:Int)≤(i:Int):=by omega
   have c2:(i:Int)<(n:Int):=by omega
   have hiw:IntKind.i64.wrap ((i:Int)+1)=((i+1:Nat):Int):=by rw[IntKind.wrap_i64];have:=HN.out;omega
   have HD:Hid (As.drop i=x::As.drop (i+1)):=hid (by
    obtain⟨hi9,e9⟩:=List.getElem?_eq_some_iff.1 hx
    rw[←e9];exact List.drop_eq_getElem_cons hi9)
   obtain⟨wA,hwA⟩:∃W,W=wr.alloc (.cells #[.string x.b.tn,.string x.b.ar,.slice x.a x.n x.c] 83):=⟨_,rfl⟩
   obtain⟨gA,hgA⟩:∃g,g=wr.heap.size:=⟨_,rfl⟩
   have HBA:Hid (Blk wA gA #[.string x.b.tn,.string x.b.ar,.slice x.a x.n x.c] 83∧Same wr wA∧Blk wA g #[.string p.tn,.string p.ar,pv] 83∧g<gA):=hid (by
    rw[hwA,hgA]
    exact⟨Blk.new wr _ _,(Kept.refl _ _).alloc _,HI.out.2.2.1.kept (show Same wr _ from(Kept.refl _ _).alloc _) (fun f=>f),HI.out.2.2.1.lt⟩)
   have HC1:=short_any wA x.b.tn
   rw[hwA]at HC1
   have HLT:=hid hlt
   clear hx hlt hes
   go_wp2_with fail
   refine HC1.mono ?_
   rw[←hwA,←hgA]
   rintro e w2 ⟨rfl,hk2⟩
   have HK2:Hid (Same wA w2):=hid hk2
   have HCE:Hid (ckL bx0 0 0 As=if (sho x.b.tn && sho x.b.ar && decide (cmpB p x.b<0))=true then(
    if 16<(if x.b.tn=p.tn then a else 0)+1∨8<(if x.b.tn=p.tn then t else t+1)then 2
    else if chE14 x.es=0 then ckL x.b (if x.b.tn=p.tn then t else t+1) ((if x.b.tn=p.tn then a else 0)+1) (As.drop (i+1))else chE14 x.es)else 1):=hid (by rw[←HI.out.1,HD.out];rfl)
   have m1:w2.cell? ⟨gA,1,none⟩=some (.string x.b.ar):=(HBA.out.1.kept hk2 (fun f=>f)).cell 1
   have HC2:=short_any w2 x.b.ar
   clear HC1 hk2 k0 k1 k2 hwA hgA
   rcases hq:sho x.b.tn with _ | _
   ·rw[hq]at HCE
    clear hq HC2
    go_wp2_with fail
    go_ret
    exact⟨by rw[HCE.out];rfl,HI.out.2.1.trans (HBA.out.2.1.trans HK2.out)⟩
   rw[hq]at HCE
   clear hq
   go_wp2_with fail
   refine HC2.mono ?_
   rintro e w3 ⟨rfl,hk3⟩
   have HK3:Hid (Same wA w3):=hid (HK2.out.trans hk3)
   clear HC2 hk3 m1
   rcases hq:sho x.b.ar with _ | _
   ·rw[hq]at HCE
    clear hq
    go_wp2_with fail
    go_ret
    exact⟨by rw[HCE.out];rfl,HI.out.2.1.trans (HBA.out.2.1.trans HK3.out)⟩
   rw[hq]at HCE
   clear hq
   have HC3:=sorder_any w3 p x.b pv (.slice x.a x.n x.c)
   have m0:w3.cell? ⟨gA,0,none⟩=some (.string x.b.tn):=(HBA.out.1.kept HK3.out (fun f=>f)).cell 0
   have m1:w3.cell? ⟨gA,1,none⟩=some (.string x.b.ar):=(HBA.out.1.kept HK3.out (fun f=>f)).cell 1
   have m2:w3.cell? ⟨gA,2,none⟩=some (.slice x.a x.n x.c):=(HBA.out.1.kept HK3.out (fun f=>f)).cell 2
   have q0:w3.cell? ⟨g,0,none⟩=some (.string p.tn):=(HBA.out.2.2.1.kept HK3.out (fun f=>f)).cell 0
   have q1:w3.cell? ⟨g,1,none⟩=some (.string p.ar):=(HBA.out.2.2.1.kept HK3.out (fun f=>f)).cell 1
   have q2:w3.cell? ⟨g,2,none⟩=some pv:=(HBA.out.2.2.1.kept HK3.out (fun f=>f)).cell 2
   go_wp2_with fail
   refine HC3.mono ?_
   rintro e w4 ⟨rfl,hg4⟩
   have HK4:Hid (Same wA w4):=hid (HK3.out.trans hg4.same)
   clear HC3 hg4 m0 m1 m2 q0 q1 q2
   by_cases hc:cmpB p x.b<0
   case neg=>
    have d1:decide (0≤cmpB p x.b)=true:=decide_eq_true (by omega)
    rw[decide_eq_false hc]at HCE
    clear hc
    go_wp2_with fail
    go_ret
    exact⟨by rw[HCE.out];rfl,HI.out.2.1.trans (HBA.out.2.1.trans HK4.out)⟩
   have d1:decide (0≤cmpB p x.b)=false:=decide_eq_false (by omega)
   rw[decide_eq_true hc]at HCE
   clear hc
   have m0:w4.cell? ⟨gA,0,none⟩=some (.string x.b.tn):=(HBA.out.1.kept HK4.out (fun f=>f)).cell 0
   have q0:w4.cell? ⟨g,0,none⟩=some (.string p.tn):=(HBA.out.2.2.1.kept HK4.out (fun f=>f)).cell 0
   obtain⟨T,hT⟩:∃T,T=if x.b.tn=p.tn then t else t+1:=⟨_,rfl⟩
   obtain⟨A0,hA0⟩:∃A0,A0=if x.b.tn=p.tn then a else 0:=⟨_,rfl⟩
   rw[←hT,←hA0]at HCE
   have HTA:Hid (T=(if x.b.tn=p.tn then t else t+1)∧A0=(if x.b.tn=p.tn then a else 0)∧T≤9∧A0≤16):=hid ⟨hT,hA0,by rw[hT];have:=HI.out.2.2.2;split<;>omega,by rw[hA0];have:=HI.out.2.2.2;split<;>omega⟩
   clear hT hA0
   have s1:=streq14 x.b.tn p.tn
   by_cases he:x.b.tn=p.tn
   ·rw[decide_eq_true he]at s1
    have HT9:Hid (T=t∧A0=a):=hid ⟨HTA.out.1.trans (if_pos he),HTA.out.2.1.trans (if_pos he)⟩
    have aw:IntKind.i64.wrap ((a:Int)+1)=((a+1:Nat):Int):=by rw[IntKind.wrap_i64];have:=HI.out.2.2.2;omega
    clear he
    by_cases hl:16<A0+1∨8<T
    ·by_cases h16:16<a+1
     ·have d2:decide ((16:Int)<(a:Int)+1)=true:=decide_eq_true (by omega)
      clear h16
      have HC2:Hid (ckL bx0 0 0 As=2):=hid (HCE.out.trans ((if_pos rfl).trans (if_pos hl)))
      clear hl
      go_wp2_with fail
      go_ret
      exact⟨by rw[HC2.out];rfl,HI.out.2.1.trans (HBA.out.2.1.trans HK4.out)⟩
     ·have d2:decide ((16:Int)<(a:Int)+1)=false:=decide_eq_false (by omega)
      have d3:decide ((8:Int)<(t:Int))=true:=decide_eq_true (by have:=HT9.out;omega)
      clear h16
      have HC2:Hid (ckL bx0 0 0 As=2):=hid (HCE.out.trans ((if_pos rfl).trans (if_pos hl)))
      clear hl
      go_wp2_with fail
      go_ret
      exact⟨by rw[HC2.out];rfl,HI.out.2.1.trans (HBA.out.2.1.trans HK4.out)⟩
    ·have d2:decide ((16:Int)<(a:Int)+1)=false:=decide_eq_false (by have:=HT9.out;omega)
     have d3:decide ((8:Int)<(t:Int))=false:=decide_eq_false (by have:=HT9.out;omega)
     have HL:Hid (¬(16<A0+1∨8<T)):=hid hl
     have HC2:Hid (ckL bx0 0 0 As=if chE14 x.es=0 then ckL x.b T (A0+1) (As.drop (i+1))else chE14 x.es):=hid (HCE.out.trans ((if_pos rfl).trans (if_neg hl)))
     have HSW:Hid (Same w w4):=hid (HI.out.2.1.trans (HBA.out.2.1.trans HK4.out))
     have HC5:=chkEnt w4 x.a x.n x.c x.es (fun k=>k<w.heap.size) (HES.out.kept enE2_ok HSW.out (fun _ _ _ f=>f)) (HX.out.kept HSW.out (fun f=>f))
     have m2:w4.cell? ⟨gA,2,none⟩=some (.slice x.a x.n x.c):=(HBA.out.1.kept HK4.out (fun f=>f)).cell 2
     clear hl
     go_wp2_with fail
     refine HC5.mono ?_
     rintro e w5 ⟨rfl,hk5⟩
     have HK5:Hid (Same wA w5):=hid (HK4.out.trans hk5)
     clear HC5 hk5 m0 m2 q0 s1
     by_cases hz:chE14 x.es=0
     case neg=>
      have d3:(chE14 x.es != 0)=true:=by simpa[bne]using hz
      have HC3:Hid (ckL bx0 0 0 As=chE14 x.es):=hid (HC2.out.trans (if_neg hz))
      clear hz
      go_wp2_with fail
      go_ret
      exact⟨by rw[HC3.out];rfl,HI.out.2.1.trans (HBA.out.2.1.trans HK5.out)⟩
     have HC3:Hid (ckL bx0 0 0 As=ckL x.b T (A0+1) (As.drop (i+1))):=hid (HC2.out.trans (if_pos hz))
     rw[hz]
     clear hz
     have m0:w5.cell? ⟨gA,0,none⟩=some (.string x.b.tn):=(HBA.out.1.kept HK5.out (fun f=>f)).cell 0
     have m1:w5.cell? ⟨gA,1,none⟩=some (.string x.b.ar):=(HBA.out.1.kept HK5.out (fun f=>f)).cell 1
     have m2:w5.cell? ⟨gA,2,none⟩=some (.slice x.a x.n x.c):=(HBA.out.1.kept HK5.out (fun f=>f)).cell 2
     have HBG:Hid (Blk w5 g #[.string p.tn,.string p.ar,pv] 83):=hid (HBA.out.2.2.1.kept HK5.out (fun f=>f))
     go_wp2_with (with_reducible refine at_store 83 3 ?_;refine wpl_store 83 3 Tryz.sizeArc rfl (cells:=[.string x.b.tn,.string x.b.ar,.slice x.a x.n x.c]) rfl HBG.out rfl rfl (by simp[Value.oneCell']) ?_;intro w6 hB6 hk6 hs6;have HB6:=hid hB6;have HK6:=hid hk6;clear hB6 hk6 hs6)
     go_roundg (gk-1)
     case measure=>have:=HLT.out;omega
     case rel=>exact⟨i+1,T,A0+1,x.b,.slice x.a x.n x.c,by rw[HT9.out.1];first | done | go_num,by rw[HT9.out.2];first | done | go_num,by go_num,HLT.out,by omega,hid ⟨HC3.out.symm,Kept.trans (HI.out.2.1.trans (HBA.out.2.1.trans HK5.out)) HK6.out (fun _ _ f=>f) (fun k hk e=>by have:=HG.out;omega),HB6.out,by have:=HL.out;omega,by have:=HL.out;omega⟩⟩
   ·rw[decide_eq_false he]at s1
    have HT9:Hid (T=t+1∧A0=0):=hid ⟨HTA.out.1.trans (if_neg he),HTA.out.2.1.trans (if_neg he)⟩
    have tw:IntKind.i64.wrap ((t:Int)+1)=((t+1:Nat):Int):=by rw[IntKind.wrap_i64];have:=HI.out.2.2.2;omega
    clear he
    by_cases hl:16<A0+1∨8<T
    ·have d3:decide ((8:Int)<(t:Int)+1)=true:=decide_eq_true (by have:=HT9.out;omega)
     have HC2:Hid (ckL bx0 0 0 As=2):=hid (HCE.out.trans ((if_pos rfl).trans (if_pos hl)))
     clear hl
     go_wp2_with fail
     go_ret
     exact⟨by rw[HC2.out];rfl,HI.out.2.1.trans (HBA.out.2.1.trans HK4.out)⟩
    ·have d3:decide ((8:Int)<(t:Int)+1)=false:=decide_eq_false (by have:=HT9.out;omega)
     have HL:Hid (¬(16<A0+1∨8<T)):=hid hl
     have HC2:Hid (ckL bx0 0 0 As=if chE14 x.es=0 then ckL x.b T (A0+1) (As.drop (i+1))else chE14 x.es):=hid (HCE.out.trans ((if_pos rfl).trans (if_neg hl)))
     have HSW:Hid (Same w w4):=hid (HI.out.2.1.trans (HBA.out.2.1.trans HK4.out))
     have HC5:=chkEnt w4 x.a x.n x.c x.es (fun k=>k<w.heap.size) (HES.out.kept enE2_ok HSW.out (fun _ _ _ f=>f)) (HX.out.kept HSW.out (fun f=>f))
     have m2:w4.cell? ⟨gA,2,none⟩=some (.slice x.a x.n x.c):=(HBA.out.1.kept HK4.out (fun f=>f)).cell 2
     clear hl
     go_wp2_with fail
     refine HC5.mono ?_
     rintro e w5 ⟨rfl,hk5⟩
     have HK5:Hid (Same wA w5):=hid (HK4.out.trans hk5)
     clear HC5 hk5 m0 m2 q0 s1
     by_cases hz:chE14 x.es=0
     case neg=>
      have d3:(chE14 x.es != 0)=true:=by simpa[bne]using hz
      have HC3:Hid (ckL bx0 0 0 As=chE14 x.es):=hid (HC2.out.trans (if_neg hz))
      clear hz
      go_wp2_with fail
      go_ret
      exact⟨by rw[HC3.out];rfl,HI.out.2.1.trans (HBA.out.2.1.trans HK5.out)⟩
     have HC3:Hid (ckL bx0 0 0 As=ckL x.b T (A0+1) (As.drop (i+1))):=hid (HC2.out.trans (if_pos hz))
     rw[hz]
     clear hz
     have m0:w5.cell? ⟨gA,0,none⟩=some (.string x.b.tn):=(HBA.out.1.kept HK5.out (fun f=>f)).cell 0
     have m1:w5.cell? ⟨gA,1,none⟩=some (.string x.b.ar):=(HBA.out.1.kept HK5.out (fun f=>f)).cell 1
     have m2:w5.cell? ⟨gA,2,none⟩=some (.slice x.a x.n x.c):=(HBA.out.1.kept HK5.out (fun f=>f)).cell 2
     have HBG:Hid (Blk w5 g #[.string p.tn,.string p.ar,pv] 83):=hid (HBA.out.2.2.1.kept HK5.out (fun f=>f))
     go_wp2_with (with_reducible refine at_store 83 3 ?_;refine wpl_store 83 3 Tryz.sizeArc rfl (cells:=[.string x.b.tn,.string x.b.ar,.slice x.a x.n x.c]) rfl HBG.out rfl rfl (by simp[Value.oneCell']) ?_;intro w6 hB6 hk6 hs6;have HB6:=hid hB6;have HK6:=hid hk6;clear hB6 hk6 hs6)
     go_roundg (gk-1)
     case measure=>have:=HLT.out;omega
     case rel=>exact⟨i+1,T,A0+1,x.b,.slice x.a x.n x.c,by rw[HT9.out.1];first | done | go_num,by rw[HT9.out.2];first | done | go_num,by go_num,HLT.out,by omega,hid ⟨HC3.out.symm,Kept.trans (HI.out.2.1.trans (HBA.out.2.1.trans HK5.out)) HK6.out (fun _ _ f=>f) (fun k hk e=>by have:=HG.out;omega),HB6.out,by have:=HL.out;omega,by have:=HL.out;omega⟩⟩
  ·have f1:decide ((i:Int)<(n:Int))=false:=by simp;omega
   have f2:decide (i<n)=false:=by simp;omega
   have HZ:Hid (ckL bx0 0 0 As=0):=hid (by rw[←HI.out.1,List.drop_eq_nil_of_le (by have:=HN.out;omega)];rfl)
   clear hlt
   go_wp2_with fail
   go_ret
   exact⟨by rw[HZ.out];rfl,HI.out.2.1⟩

end Go.Proofs.YtcfociogljhbiaaGreatDoor

namespace Go.Proofs.YtcfociogljhbiaaGreatDoor
open Go.RowKit Go.Maps Go.Sort Go.Shelf Go.Lib

theorem sho_ne(x:ByteArray)(h:sho x=true):([]:List UInt8)<x.data.toList:=by
 cases hx:x.data.toList with
 | nil=>
  exfalso
  unfold sho at h
  have e:x.toList.isEmpty=true:=by rw[Lib.toList_data,hx];rfl
  rw[e]at h
  simp at h
 | cons a r=>exact List.nil_lt_cons a r

theorem bl_false{u v:List UInt8}(h:¬u<v):Op.bytesLess u v=false:=by
 cases e:Op.bytesLess u v with
 | false=>rfl
 | true=>exact absurd ((bless14 u v).1 e) h

set_option maxRecDepth 100000 in
set_option maxHeartbeats 4000000 in
theorem rcheck14(w:World)(ao:Option Addr)(n c:Nat)(As:List Ad)(h:ArcI w (fun k=>k<w.heap.size) (.slice ao n c) As)(hn:n≤1000000):Calls Tryz.prog 80 #[.slice ao n c] w fun e w'=>e=.returned (.int .i64 (ckL bx0 0 0 As))∧Same w w':=by
 have HA:=hid h
 have HN:Hid (n=As.length∧n≤1000000):=hid ⟨h.len3,hn⟩
 clear h hn
 go_enter Tryz.func80,Tryz.ntmps80
 go_wp2_with fail
 go_loopg [3,4,5] n (fun q z3 z4 z5 wr=>∃(i t a:Nat),z3=.int .i64 (t:Nat)∧z4=.int .i64 (a:Nat)∧z5=.int .i64 (i:Nat)∧i≤n∧n-i≤q∧Hid (∃p,((i=0∧p=bx0)∨∃k y,i=k+1∧As[k]? = some y∧p=y.b)∧ckL p t a (As.drop i)=ckL bx0 0 0 As∧Same w wr∧t≤8∧a≤16))
 case atStart=>exact⟨0,0,0,rfl,rfl,rfl,by omega,by omega,hid ⟨bx0,.inl ⟨rfl,rfl⟩,rfl,Kept.refl _ _,by omega,by omega⟩⟩
 case round=>
  obtain⟨i,t,a,rfl,rfl,rfl,hi,hiq,HI0⟩:=hrel
  obtain⟨p,hpre,hce,hsw,hta⟩:=HI0.out
  have HI:Hid (ckL p t a (As.drop i)=ckL bx0 0 0 As∧Same w wr∧t≤8∧a≤16):=hid ⟨hce,hsw,hta⟩
  have HPR:Hid ((i=0∧p=bx0)∨∃k y,i=k+1∧As[k]? = some y∧p=y.b):=hid hpre
  clear HI0 hpre hce hsw hta
  by_cases hlt:i<n
  ·have f1:decide ((i:Int)<(n:Int))=true:=by simp;omega
   have f2:decide (i<n)=true:=by simp;omega
   obtain⟨b,o,x,rfl,hx,k0,k1,k2,hes⟩:=HA.out.at3 i hlt
   have k0:=HI.out.2.1.cell k0 (fun f=>f)
   have k1:=HI.out.2.1.cell k1 (fun f=>f)
   have k2:=HI.out.2.1.cell k2 (fun f=>f)
   have HES:Hid (SrcC 2 enE2 w (fun k=>k<w.heap.size) (.slice x.a x.n x.c) x.es):=hid hes
   have HXI:=hid hx
   have c1:(0:Int)≤(i:Int):=by omega
   have c2:(i:Int)<(n:Int):=by omega
   have hiw:IntKind.i64.wrap ((i:Int)+1)=((i+1:Nat):Int):=by rw[IntKind.wrap_i64];have:=HN.out;omega
   have HCE:Hid (ckL bx0 0 0 As=if (sho x.b.tn && sho x.b.ar && decide (cmpB p x.b<0))=true then(
    if 16<(if x.b.tn=p.tn then a else 0)+1∨8<(if x.b.tn=p.tn then t else t+1)then 2
    else if chE14 x.es=0 then ckL x.b (if x.b.tn=p.tn then t else t+1) ((if x.b.tn=p.tn then a else 0)+1) (As.drop (i+1))else chE14 x.es)else 1):=hid (by
    obtain⟨hi9,e9⟩:=List.getElem?_eq_some_iff.1 hx
    rw[←HI.out.1,List.drop_eq_getElem_cons hi9,e9];rfl)
   obtain⟨wA,hwA⟩:∃W,W=wr.alloc (.cells #[.string x.b.tn,.string x.b.ar,.slice x.a x.n x.c] 83):=⟨_,rfl⟩
   obtain⟨gA,hgA⟩:∃g,g=wr.heap.size:=⟨_,rfl⟩
   have HBA:Hid (Blk wA gA #[.string x.b.tn,.string x.b.ar,.slice x.a x.n x.c] 83∧Same wr wA):=hid (by
    rw[hwA,hgA]
    exact⟨Blk.new wr _ _,(Kept.refl _ _).alloc _⟩)
   have HC1:=short11_any wA x.b.tn
   rw[hwA]at HC1
   have HLT:=hid hlt
   clear hx hlt hes
   go_wp2_with fail
   refine HC1.mono ?_
   rw[←hwA,←hgA]
   rintro e w2 ⟨rfl,hk2⟩
   have HK2:Hid (Same wA w2):=hid hk2
   have m1:w2.cell? ⟨gA,1,none⟩=some (.string x.b.ar):=(HBA.out.1.kept hk2 (fun f=>f)).cell 1
   have HC2:=short11_any w2 x.b.ar
   clear HC1 hk2 k0 k1 k2 hwA hgA
   rcases hq:sho x.b.tn with _ | _
   ·rw[hq]at HCE
    clear hq HC2
    go_wp2_with fail
    go_ret
    exact⟨by rw[HCE.out];rfl,HI.out.2.1.trans (HBA.out.2.trans HK2.out)⟩
   have HSH:=hid hq
   rw[hq]at HCE
   clear hq
   go_wp2_with fail
   refine HC2.mono ?_
   rintro e w3 ⟨rfl,hk3⟩
   have HK3:Hid (Same wA w3):=hid (HK2.out.trans hk3)
   clear HC2 hk3 m1
   rcases hq:sho x.b.ar with _ | _
   ·rw[hq]at HCE
    clear hq
    go_wp2_with fail
    go_ret
    exact⟨by rw[HCE.out];rfl,HI.out.2.1.trans (HBA.out.2.trans HK3.out)⟩
   rw[hq]at HCE
   clear hq
   have m0:w3.cell? ⟨gA,0,none⟩=some (.string x.b.tn):=(HBA.out.1.kept HK3.out (fun f=>f)).cell 0
   have m1:w3.cell? ⟨gA,1,none⟩=some (.string x.b.ar):=(HBA.out.1.kept HK3.out (fun f=>f)).cell 1
   have m2:w3.cell? ⟨gA,2,none⟩=some (.slice x.a x.n x.c):=(HBA.out.1.kept HK3.out (fun f=>f)).cell 2
   have HSW:Hid (Same w w3):=hid (HI.out.2.1.trans (HBA.out.2.trans HK3.out))
   have tw:IntKind.i64.wrap ((t:Int)+1)=((t+1:Nat):Int):=by rw[IntKind.wrap_i64];have:=HI.out.2.2;omega
   have aw:IntKind.i64.wrap ((a:Int)+1)=((a+1:Nat):Int):=by rw[IntKind.wrap_i64];have:=HI.out.2.2;omega
   obtain⟨T,hT⟩:∃T,T=if x.b.tn=p.tn then t else t+1:=⟨_,rfl⟩
   obtain⟨A0,hA0⟩:∃A0,A0=if x.b.tn=p.tn then a else 0:=⟨_,rfl⟩
   rw[←hT,←hA0]at HCE
   have HTA:Hid (T=(if x.b.tn=p.tn then t else t+1)∧A0=(if x.b.tn=p.tn then a else 0)):=hid ⟨hT,hA0⟩
   clear hT hA0
   obtain⟨hi0,hp⟩ | ⟨k,y,hik,hy,hp⟩:=HPR.out
   ·have hlt9:cmpB p x.b<0:=(cmpB_lt _ _).2 (.inl (by rw[hp];exact sho_ne _ HSH.out))
    have he:¬x.b.tn=p.tn:=fun e=>by
     have h9:=sho_ne _ HSH.out
     rw[e,hp]at h9
     exact List.lt_irrefl _ h9
    have d0:decide ((0:Int)<(i:Int))=false:=decide_eq_false (by omega)
    have d9:decide (0<i)=false:=decide_eq_false (by omega)
    have d8:((i:Int)==0)=true:=by simp;omega
    rw[decide_eq_true hlt9]at HCE
    clear hp hi0 hlt9
    have HT9:Hid (T=t+1∧A0=0):=hid ⟨HTA.out.1.trans (if_neg he),HTA.out.2.trans (if_neg he)⟩
    clear he
    by_cases hl:16<A0+1∨8<T
    ·have d3:decide ((8:Int)<(t:Int)+1)=true:=decide_eq_true (by have:=HT9.out;omega)
     have HC2:Hid (ckL bx0 0 0 As=2):=hid (HCE.out.trans ((if_pos rfl).trans (if_pos hl)))
     clear hl
     go_wp2_with fail
     go_quiet (fail)
     go_wp2_with fail
     go_quiet (fail)
     go_wp2_with fail
     go_ret
     exact⟨by rw[HC2.out];rfl,HSW.out.trans (by first | exact(Same.trans ((Kept.refl _ _).drewN _) ((Kept.refl _ _).drewN _)) | exact(Kept.refl _ _).drewN _)⟩
    ·have d3:decide ((8:Int)<(t:Int)+1)=false:=decide_eq_false (by have:=HT9.out;omega)
     have HL:Hid (¬(16<A0+1∨8<T)):=hid hl
     have HC2:Hid (ckL bx0 0 0 As=if chE14 x.es=0 then ckL x.b T (A0+1) (As.drop (i+1))else chE14 x.es):=hid (HCE.out.trans ((if_pos rfl).trans (if_neg hl)))
     have HEN:Hid (∀W,Same w W→Calls Tryz.prog 123 #[.slice x.a x.n x.c] W fun e w'=>e=.returned (.int .i64 (chE14 x.es))∧Same w w'):=hid (fun W hk=>(rentries14 W x.a x.n x.c x.es _ (HES.out.kept enE2_ok hk (fun _ _ _ f=>f))).mono (fun e w' h9=>⟨h9.1,hk.trans h9.2⟩))
     clear hl
     go_wp2_with fail
     go_quiet (fail)
     go_wp2_with fail
     go_quiet (fail)
     go_wp2_with fail
     refine(HEN.out _ (HSW.out.trans (by first | exact(Same.trans ((Kept.refl _ _).drewN _) ((Kept.refl _ _).drewN _)) | exact(Kept.refl _ _).drewN _))).mono ?_
     rintro e w5 ⟨rfl,hk5⟩
     have HK5:=hid hk5
     clear HEN hk5
     by_cases hz:chE14 x.es=0
     ·rw[hz]
      have HC3:Hid (ckL bx0 0 0 As=ckL x.b T (A0+1) (As.drop (i+1))):=hid (HC2.out.trans (if_pos hz))
      clear hz
      go_wp2_with fail
      go_roundg (gk-1)
      case measure=>have:=HLT.out;omega
      case rel=>exact⟨i+1,T,A0+1,by rw[HT9.out.1];first | done | go_num,by rw[HT9.out.2];first | done | go_num,by go_num,HLT.out,by omega,hid ⟨x.b,.inr ⟨i,x,rfl,HXI.out,rfl⟩,HC3.out.symm,HK5.out,by have:=HL.out;omega,by have:=HL.out;omega⟩⟩
     ·have d5:(chE14 x.es != 0)=true:=by simpa[bne]using hz
      have HC3:Hid (ckL bx0 0 0 As=chE14 x.es):=hid (HC2.out.trans (if_neg hz))
      clear hz
      go_wp2_with fail
      go_ret
      exact⟨by rw[HC3.out];rfl,HK5.out⟩
   ·have hkn:k<n:=by have:=HLT.out;omega
    obtain⟨b',o',t',hbo,ht',q0,q1,_,_⟩:=HA.out.at3 k hkn
    rw[hy]at ht'
    injection ht' with ht'
    injection hbo with hbo
    injection hbo with hb9 ho9
    subst hb9 ho9 ht' hp
    have q0:=HSW.out.cell q0 (fun f=>f)
    have q1:=HSW.out.cell q1 (fun f=>f)
    have d0:decide ((0:Int)<(i:Int))=true:=decide_eq_true (by omega)
    have d9:decide (0<i)=true:=decide_eq_true (by omega)
    have d8:((i:Int)==0)=false:=by simp;omega
    have iw0:(i:Int)-1=(k:Int):=by omega
    have iw:IntKind.i64.wrap (k:Int)=(k:Int):=by have:=HN.out;rw[IntKind.wrap_i64];omega
    have ib0:(0:Int)≤(k:Int):=by omega
    have ib:(k:Int)<(n:Int):=by omega
    have HTR:Hid (y.b.tn.data.toList<x.b.tn.data.toList∨y.b.tn.data.toList=x.b.tn.data.toList∨x.b.tn.data.toList<y.b.tn.data.toList):=hid (list_tri _ _)
    clear hy hik hkn
    rcases HTR.out with hlt9 | heq | hgt
    ·have he:¬x.b.tn=y.b.tn:=fun e=>by rw[e]at hlt9;exact List.lt_irrefl _ hlt9
     have s1:(y.b.tn.toList==x.b.tn.toList)=false:=by rw[streq14];exact decide_eq_false (fun e=>he e.symm)
     have s2:(x.b.tn.toList==y.b.tn.toList)=false:=by rw[streq14];exact decide_eq_false he
     have s3:Op.bytesLess x.b.tn.toList y.b.tn.toList=false:=by rw[Lib.toList_data,Lib.toList_data];exact bl_false (fun e=>List.lt_irrefl _ (List.lt_trans e hlt9))
     have s4:Op.bytesLess y.b.tn.toList x.b.tn.toList=true:=by rw[Lib.toList_data,Lib.toList_data];exact(bless14 _ _).2 hlt9
     rw[decide_eq_true ((cmpB_lt y.b x.b).2 (.inl hlt9))]at HCE
     clear hlt9
     have HT9:Hid (T=t+1∧A0=0):=hid ⟨HTA.out.1.trans (if_neg he),HTA.out.2.trans (if_neg he)⟩
     clear he
     by_cases hl:16<A0+1∨8<T
     ·have d3:decide ((8:Int)<(t:Int)+1)=true:=decide_eq_true (by have:=HT9.out;omega)
      have HC2:Hid (ckL bx0 0 0 As=2):=hid (HCE.out.trans ((if_pos rfl).trans (if_pos hl)))
      clear hl
      go_wp2_with fail
      go_quiet (fail)
      go_wp2_with fail
      go_quiet (fail)
      go_wp2_with fail
      go_ret
      exact⟨by rw[HC2.out];rfl,HSW.out.trans (by first | exact(Same.trans ((Kept.refl _ _).drewN _) ((Kept.refl _ _).drewN _)) | exact(Kept.refl _ _).drewN _)⟩
     ·have d3:decide ((8:Int)<(t:Int)+1)=false:=decide_eq_false (by have:=HT9.out;omega)
      have HL:Hid (¬(16<A0+1∨8<T)):=hid hl
      have HC2:Hid (ckL bx0 0 0 As=if chE14 x.es=0 then ckL x.b T (A0+1) (As.drop (i+1))else chE14 x.es):=hid (HCE.out.trans ((if_pos rfl).trans (if_neg hl)))
      have HEN:Hid (∀W,Same w W→Calls Tryz.prog 123 #[.slice x.a x.n x.c] W fun e w'=>e=.returned (.int .i64 (chE14 x.es))∧Same w w'):=hid (fun W hk=>(rentries14 W x.a x.n x.c x.es _ (HES.out.kept enE2_ok hk (fun _ _ _ f=>f))).mono (fun e w' h9=>⟨h9.1,hk.trans h9.2⟩))
      clear hl
      go_wp2_with fail
      go_quiet (fail)
      go_wp2_with fail
      go_quiet (fail)
      go_wp2_with fail
      refine(HEN.out _ (HSW.out.trans (by first | exact(Same.trans ((Kept.refl _ _).drewN _) ((Kept.refl _ _).drewN _)) | exact(Kept.refl _ _).drewN _))).mono ?_
      rintro e w5 ⟨rfl,hk5⟩
      have HK5:=hid hk5
      clear HEN hk5
      by_cases hz:chE14 x.es=0
      ·rw[hz]
       have HC3:Hid (ckL bx0 0 0 As=ckL x.b T (A0+1) (As.drop (i+1))):=hid (HC2.out.trans (if_pos hz))
       clear hz
       go_wp2_with fail
       go_roundg (gk-1)
       case measure=>have:=HLT.out;omega
       case rel=>exact⟨i+1,T,A0+1,by rw[HT9.out.1];first | done | go_num,by rw[HT9.out.2];first | done | go_num,by go_num,HLT.out,by omega,hid ⟨x.b,.inr ⟨i,x,rfl,HXI.out,rfl⟩,HC3.out.symm,HK5.out,by have:=HL.out;omega,by have:=HL.out;omega⟩⟩
      ·have d5:(chE14 x.es != 0)=true:=by simpa[bne]using hz
       have HC3:Hid (ckL bx0 0 0 As=chE14 x.es):=hid (HC2.out.trans (if_neg hz))
       clear hz
       go_wp2_with fail
       go_ret
       exact⟨by rw[HC3.out];rfl,HK5.out⟩
    ·have he:x.b.tn=y.b.tn:=(bytesC_inj14 heq).symm
     have s1:(y.b.tn.toList==x.b.tn.toList)=true:=by rw[streq14];exact decide_eq_true he.symm
     have s2:(x.b.tn.toList==y.b.tn.toList)=true:=by rw[streq14];exact decide_eq_true he
     have s3:Op.bytesLess x.b.tn.toList y.b.tn.toList=false:=by rw[Lib.toList_data,Lib.toList_data];exact bl_false (by rw[heq];exact List.lt_irrefl _)
     have s4:Op.bytesLess y.b.tn.toList x.b.tn.toList=false:=by rw[Lib.toList_data,Lib.toList_data];exact bl_false (by rw[heq];exact List.lt_irrefl _)
     by_cases har:y.b.ar.data.toList<x.b.ar.data.toList
     ·have s5:Op.bytesLess y.b.ar.toList x.b.ar.toList=true:=by rw[Lib.toList_data,Lib.toList_data];exact(bless14 _ _).2 har
      rw[decide_eq_true ((cmpB_lt y.b x.b).2 (.inr ⟨heq,har⟩))]at HCE
      clear heq har
      have HT9:Hid (T=t∧A0=a):=hid ⟨HTA.out.1.trans (if_pos he),HTA.out.2.trans (if_pos he)⟩
      clear he
      by_cases hl:16<A0+1∨8<T
      ·by_cases h16:16<a+1
       ·have d2:decide ((16:Int)<(a:Int)+1)=true:=decide_eq_true (by omega)
        clear h16
        have HC2:Hid (ckL bx0 0 0 As=2):=hid (HCE.out.trans ((if_pos rfl).trans (if_pos hl)))
        clear hl
        go_wp2_with fail
        go_quiet (fail)
        go_wp2_with fail
        go_quiet (fail)
        go_wp2_with fail
        go_ret
        exact⟨by rw[HC2.out];rfl,HSW.out.trans (by first | exact(Same.trans ((Kept.refl _ _).drewN _) ((Kept.refl _ _).drewN _)) | exact(Kept.refl _ _).drewN _)⟩
       ·have d2:decide ((16:Int)<(a:Int)+1)=false:=decide_eq_false (by omega)
        have d3:decide ((8:Int)<(t:Int))=true:=decide_eq_true (by have:=HT9.out;omega)
        have d4:decide (8<t)=true:=decide_eq_true (by have:=HT9.out;omega)
        clear h16
        have HC2:Hid (ckL bx0 0 0 As=2):=hid (HCE.out.trans ((if_pos rfl).trans (if_pos hl)))
        clear hl
        go_wp2_with fail
        go_quiet (fail)
        go_wp2_with fail
        go_quiet (fail)
        go_wp2_with fail
        go_ret
        exact⟨by rw[HC2.out];rfl,HSW.out.trans (by first | exact(Same.trans ((Kept.refl _ _).drewN _) ((Kept.refl _ _).drewN _)) | exact(Kept.refl _ _).drewN _)⟩
      ·have d2:decide ((16:Int)<(a:Int)+1)=false:=decide_eq_false (by have:=HT9.out;omega)
       have d3:decide ((8:Int)<(t:Int))=false:=decide_eq_false (by have:=HT9.out;omega)
       have d4:decide (8<t)=false:=decide_eq_false (by have:=HT9.out;omega)
       have HL:Hid (¬(16<A0+1∨8<T)):=hid hl
       have HC2:Hid (ckL bx0 0 0 As=if chE14 x.es=0 then ckL x.b T (A0+1) (As.drop (i+1))else chE14 x.es):=hid (HCE.out.trans ((if_pos rfl).trans (if_neg hl)))
       have HEN:Hid (∀W,Same w W→Calls Tryz.prog 123 #[.slice x.a x.n x.c] W fun e w'=>e=.returned (.int .i64 (chE14 x.es))∧Same w w'):=hid (fun W hk=>(rentries14 W x.a x.n x.c x.es _ (HES.out.kept enE2_ok hk (fun _ _ _ f=>f))).mono (fun e w' h9=>⟨h9.1,hk.trans h9.2⟩))
       clear hl
       go_wp2_with fail
       go_quiet (fail)
       go_wp2_with fail
       go_quiet (fail)
       go_wp2_with fail
       refine(HEN.out _ (HSW.out.trans (by first | exact(Same.trans ((Kept.refl _ _).drewN _) ((Kept.refl _ _).drewN _)) | exact(Kept.refl _ _).drewN _))).mono ?_
       rintro e w5 ⟨rfl,hk5⟩
       have HK5:=hid hk5
       clear HEN hk5
       by_cases hz:chE14 x.es=0
       ·rw[hz]
        have HC3:Hid (ckL bx0 0 0 As=ckL x.b T (A0+1) (As.drop (i+1))):=hid (HC2.out.trans (if_pos hz))
        clear hz
        go_wp2_with fail
        go_roundg (gk-1)
        case measure=>have:=HLT.out;omega
        case rel=>exact⟨i+1,T,A0+1,by rw[HT9.out.1];first | done | go_num,by rw[HT9.out.2];first | done | go_num,by go_num,HLT.out,by omega,hid ⟨x.b,.inr ⟨i,x,rfl,HXI.out,rfl⟩,HC3.out.symm,HK5.out,by have:=HL.out;omega,by have:=HL.out;omega⟩⟩
       ·have d5:(chE14 x.es != 0)=true:=by simpa[bne]using hz
        have HC3:Hid (ckL bx0 0 0 As=chE14 x.es):=hid (HC2.out.trans (if_neg hz))
        clear hz
        go_wp2_with fail
        go_ret
        exact⟨by rw[HC3.out];rfl,HK5.out⟩
     ·have s5:Op.bytesLess y.b.ar.toList x.b.ar.toList=false:=by rw[Lib.toList_data,Lib.toList_data];exact bl_false har
      have hnc:¬cmpB y.b x.b<0:=fun e=>by
       rcases(cmpB_lt _ _).1 e with e | ⟨_,e⟩
       ·have e9:y.b.tn.data.toList<x.b.tn.data.toList:=e
        rw[heq]at e9;exact List.lt_irrefl _ e9
       ·exact har e
      clear heq har he
      have HC2:Hid (ckL bx0 0 0 As=1):=hid (HCE.out.trans (by rw[decide_eq_false hnc];rfl))
      clear hnc
      go_wp2_with fail
      go_quiet (fail)
      go_wp2_with fail
      go_quiet (fail)
      go_wp2_with fail
      go_ret
      exact⟨by rw[HC2.out];rfl,HSW.out.trans (by first | exact(Same.trans ((Kept.refl _ _).drewN _) ((Kept.refl _ _).drewN _)) | exact(Kept.refl _ _).drewN _)⟩
    ·have he:¬x.b.tn=y.b.tn:=fun e=>by rw[e]at hgt;exact List.lt_irrefl _ hgt
     have s1:(y.b.tn.toList==x.b.tn.toList)=false:=by rw[streq14];exact decide_eq_false (fun e=>he e.symm)
     have s2:(x.b.tn.toList==y.b.tn.toList)=false:=by rw[streq14];exact decide_eq_false he
     have s3:Op.bytesLess x.b.tn.toList y.b.tn.toList=true:=by rw[Lib.toList_data,Lib.toList_data];exact(bless14 _ _).2 hgt
     have s4:Op.bytesLess y.b.tn.toList x.b.tn.toList=false:=by rw[Lib.toList_data,Lib.toList_data];exact bl_false (fun e=>List.lt_irrefl _ (List.lt_trans e hgt))
     have hnc:¬cmpB y.b x.b<0:=fun e=>by
      rcases(cmpB_lt _ _).1 e with e | ⟨e,_⟩
      ·have e9:y.b.tn.data.toList<x.b.tn.data.toList:=e
       exact List.lt_irrefl _ (List.lt_trans e9 hgt)
      ·have e9:y.b.tn.data.toList=x.b.tn.data.toList:=e
       rw[e9]at hgt;exact List.lt_irrefl _ hgt
     clear hgt he
     have HC2:Hid (ckL bx0 0 0 As=1):=hid (HCE.out.trans (by rw[decide_eq_false hnc];rfl))
     clear hnc
     go_wp2_with fail
     go_quiet (fail)
     go_wp2_with fail
     go_quiet (fail)
     go_wp2_with fail
     go_ret
     exact⟨by rw[HC2.out];rfl,HSW.out.trans (by first | exact(Same.trans ((Kept.refl _ _).drewN _) ((Kept.refl _ _).drewN _)) | exact(Kept.refl _ _).drewN _)⟩
  ·have f1:decide ((i:Int)<(n:Int))=false:=by simp;omega
   have f2:decide (i<n)=false:=by simp;omega
   have HZ:Hid (ckL bx0 0 0 As=0):=hid (by rw[←HI.out.1,List.drop_eq_nil_of_le (by have:=HN.out;omega)];rfl)
   clear hlt
   go_wp2_with fail
   go_ret
   exact⟨by rw[HZ.out];rfl,HI.out.2.1⟩

end Go.Proofs.YtcfociogljhbiaaGreatDoor

namespace Go.Proofs.YtcfociogljhbiaaGreatDoor
open Go.RowKit Go.Maps Go.Sort Go.Shelf Go.Lib

def wrOf14(b:Bx)(e:Nm×ByteArray):Wr:=if h:e.2.size≤maxLen then⟨b,e.1,true,e.2,h⟩ else⟨b,e.1,true,⟨#[]⟩,Nat.zero_le _⟩

theorem wrOf14_of(b:Bx)(e:Nm×ByteArray)(h:e.2.size≤maxLen):(wrOf14 b e).b=b∧(wrOf14 b e).n=e.1∧(wrOf14 b e).there=true∧(wrOf14 b e).data=e.2:=by
 unfold wrOf14
 rw[dif_pos h]
 exact⟨rfl,rfl,rfl,rfl⟩

def wrsOf14(As:List Ad):List Wr:=As.flatMap (fun x=>x.es.map (wrOf14 x.b))

theorem wrsOf14_take(As:List Ad)(i:Nat)(hi:i<As.length):wrsOf14 (As.take (i+1))=wrsOf14 (As.take i)++(As[i]).es.map (wrOf14 (As[i]).b):=by
 unfold wrsOf14
 rw[List.take_succ_eq_append_getElem hi,List.flatMap_append]
 simp

theorem wrsOf14_len(As:List Ad)(h:∀x∈As,x.es.length≤64):(wrsOf14 As).length≤64*As.length:=by
 induction As with
 | nil=>exact Nat.zero_le _
 | cons x r ih=>
  have h1:=ih (fun y hy=>h y (List.mem_cons_of_mem _ hy))
  have h2:=h x List.mem_cons_self
  have e:wrsOf14 (x::r)=x.es.map (wrOf14 x.b)++wrsOf14 r:=rfl
  rw[e,List.length_append,List.length_map,List.length_cons]
  omega

set_option maxRecDepth 100000 in
set_option maxHeartbeats 2000000 in
theorem writesOf_any(w:World)(ao:Option Addr)(n c:Nat)(As:List Ad)(h:ArcI w (fun k=>k<w.heap.size) (.slice ao n c) As)(hs:∀x∈As,x.es.length≤64∧∀e∈x.es,e.2.size≤8192)(hn:n≤4096):Calls Tryz.prog 38 #[.slice ao n c] w fun e w'=>∃v,e=.returned v∧RowC w.heap.size 65 5 wrE w' v (wrsOf14 As)∧Same w w':=by
 have HA:=hid h
 have HN:Hid (n=As.length∧n≤4096):=hid ⟨h.len3,hn⟩
 have HS:=hid hs
 clear h hs hn
 go_enter Tryz.func38,Tryz.ntmps38
 go_wp2_with fail
 go_loopg [3,11] n (fun q z3 z11 wr=>∃(i:Nat) (a3:Option Addr) (m3 c3:Nat),z3=.slice a3 m3 c3∧z11=.int .i64 (i:Nat)∧i≤n∧n-i≤q∧Hid (RowC w.heap.size 65 5 wrE wr (.slice a3 m3 c3) (wrsOf14 (As.take i))∧Same w wr))
 case atStart=>exact⟨0,_,_,_,rfl,rfl,by omega,by omega,hid ⟨RowC.nil,Kept.refl _ _⟩⟩
 case round=>
  obtain⟨i,a3,m3,c3,rfl,rfl,hi,hiq,HI⟩:=hrel
  by_cases hlt:i<n
  ·have f1:decide ((i:Int)<(n:Int))=true:=by simp;omega
   have f2:decide (i<n)=true:=by simp;omega
   obtain⟨b,o,x,rfl,hx,k0,k1,k2,hes⟩:=HA.out.at3 i hlt
   have k0:=HI.out.2.cell k0 (fun f=>f)
   have k1:=HI.out.2.cell k1 (fun f=>f)
   have k2:=HI.out.2.cell k2 (fun f=>f)
   have HES:Hid (SrcC 2 enE2 w (fun k=>k<w.heap.size) (.slice x.a x.n x.c) x.es∧x.n=x.es.length):=hid ⟨hes,hes.len2⟩
   have c1:(0:Int)≤(i:Int):=by omega
   have c2:(i:Int)<(n:Int):=by omega
   have hiw:IntKind.i64.wrap ((i:Int)+1)=((i+1:Nat):Int):=by rw[IntKind.wrap_i64];have:=HN.out;omega
   obtain⟨hi9,e9⟩:=List.getElem?_eq_some_iff.1 hx
   have HD:Hid (wrsOf14 (As.take (i+1))=wrsOf14 (As.take i)++x.es.map (wrOf14 x.b)):=hid (by rw[wrsOf14_take As i hi9,e9])
   have HSX:Hid (x.es.length≤64∧∀e∈x.es,e.2.size≤8192):=hid (HS.out x (List.mem_of_getElem? hx))
   have HWL:Hid ((wrsOf14 (As.take i)).length≤64*4096):=hid (by
    have h9:=wrsOf14_len (As.take i) (fun y hy=>(HS.out y (List.mem_of_mem_take hy)).1)
    rw[List.length_take]at h9
    have:=HN.out
    have:min i As.length≤4096:=by omega
    omega)
   obtain⟨wA,hwA⟩:∃W,W=wr.alloc (.cells #[.string x.b.tn,.string x.b.ar,.slice x.a x.n x.c] 83):=⟨_,rfl⟩
   obtain⟨gA,hgA⟩:∃g,g=wr.heap.size:=⟨_,rfl⟩
   have HBA:Hid (Blk wA gA #[.string x.b.tn,.string x.b.ar,.slice x.a x.n x.c] 83∧Same wr wA):=hid (by
    rw[hwA,hgA]
    exact⟨Blk.new wr _ _,(Kept.refl _ _).alloc _⟩)
   have HLT:=hid hlt
   obtain⟨xa,xn,xc,hxs⟩:∃a n c,a=x.a∧n=x.n∧c=x.c:=⟨_,_,_,rfl,rfl,rfl⟩
   obtain⟨hxa,hxn,hxc⟩:=hxs
   rw[←hxa,←hxn,←hxc]at HES HBA k2 hwA
   have HI2:Hid (Same w wA):=hid (HI.out.2.trans HBA.out.2)
   obtain⟨G,rfl⟩:∃G,G=gk:=⟨_,rfl⟩
   clear hx hlt hes hi9 e9 hxa hxn hxc
   go_wp2_with fail
   rw[←hwA,←hgA]
   clear k0 k1 k2 hwA hgA
   go_loopg [3,18] xn (fun q y3 y18 wq=>∃(k:Nat) (a3:Option Addr) (m3 c3:Nat),y3=.slice a3 m3 c3∧y18=.int .i64 (k:Nat)∧k≤xn∧xn-k≤q∧Hid (RowC w.heap.size 65 5 wrE wq (.slice a3 m3 c3) (wrsOf14 (As.take i)++(x.es.take k).map (wrOf14 x.b))∧Same w wq∧Blk wq gA #[.string x.b.tn,.string x.b.ar,.slice xa xn xc] 83))
   case atStart=>exact⟨0,_,_,_,rfl,rfl,by omega,by omega,hid ⟨by rw[List.take_zero,List.map_nil,List.append_nil];exact HI.out.1.kept HBA.out.2 (fun _ _ f=>f),HI2.out,HBA.out.1⟩⟩
   case round=>
    clear HI
    obtain⟨k,a3,m3,c3,rfl,rfl,hk,hkq,HJ⟩:=hrel
    by_cases hkl:k<xn
    ·have f3:decide ((k:Int)<(xn:Int))=true:=by simp;omega
     have f4:decide (k<xn)=true:=by simp;omega
     obtain⟨b2,o2,y,rfl,_,hy,j0,j1⟩:=HES.out.1.at2 k hkl
     have HSW:Hid (Same w wr):=hid HJ.out.2.1
     have j0:=HSW.out.cell j0 (fun f=>f)
     have j1:=HSW.out.cell j1 (fun f=>f)
     have l0:wr.cell? ⟨gA,0,none⟩=some (.string x.b.tn):=HJ.out.2.2.cell 0
     have l1:wr.cell? ⟨gA,1,none⟩=some (.string x.b.ar):=HJ.out.2.2.cell 1
     have p3:(0:Int)≤(k:Int):=by omega
     have p4:(k:Int)<(xn:Int):=by omega
     have hkw:IntKind.i64.wrap ((k:Int)+1)=((k+1:Nat):Int):=by rw[IntKind.wrap_i64];have:=HES.out.2;have:=HSX.out.1;omega
     obtain⟨hk9,e9⟩:=List.getElem?_eq_some_iff.1 hy
     have HR:=wrOf14_of x.b y (by have:=HSX.out.2 y (List.mem_of_getElem? hy);unfold maxLen;omega)
     obtain⟨r,hr⟩:∃r,r=wrOf14 x.b y:=⟨_,rfl⟩
     rw[←hr]at HR
     obtain⟨h1,h2,h3,h4⟩:=HR
     have HTK:Hid ((x.es.take (k+1)).map (wrOf14 x.b)=(x.es.take k).map (wrOf14 x.b)++[r]):=hid (by rw[List.take_succ_eq_append_getElem hk9,List.map_append,e9,hr];rfl)
     have HKL:=hid hkl
     obtain⟨w6,hw6⟩:∃W,W=(wr.alloc (.cells #[.string y.1.s,.string y.2] 108)).alloc (.cells #[.string x.b.tn,.string x.b.ar,.string y.1.s] 63):=⟨_,rfl⟩
     have HW6:Hid (Same wr w6):=hid (by rw[hw6];exact((Kept.refl _ wr).alloc _).alloc _)
     have HCA:Hid (CellsAt (w6.alloc (.cells #[.string x.b.tn,.string x.b.ar,.string y.1.s,.bool true,.string y.2] 65)) ⟨w6.heap.size,0,none⟩ ([r].flatMap wrE)):=hid (by
      have h9:=cellsAt_wr w6 r
      rw[h1,h2,h3,h4]at h9
      exact h9)
     have HLN:Hid ((wrsOf14 (As.take i)++(x.es.take k).map (wrOf14 x.b)).length+1≤1000000):=hid (by
      have h9:=HWL.out
      have h8:=HSX.out.1
      rw[List.length_append,List.length_map,List.length_take]
      have:min k x.es.length≤64:=by omega
      omega)
     obtain⟨ytn,hyt⟩:∃z,z=y.1.s:=⟨_,rfl⟩
     rw[←hyt]at hw6 HCA j0
     have l2:(wr.alloc (.cells #[.string ytn,.string y.2] 108)).cell? ⟨gA,0,none⟩=some (.string x.b.tn):=(HJ.out.2.2.kept (show Same wr _ from(Kept.refl _ wr).alloc _) (fun f=>f)).cell 0
     have l3:(wr.alloc (.cells #[.string ytn,.string y.2] 108)).cell? ⟨gA,1,none⟩=some (.string x.b.ar):=(HJ.out.2.2.kept (show Same wr _ from(Kept.refl _ wr).alloc _) (fun f=>f)).cell 1
     have B1:Blk w6 wr.heap.size #[.string ytn,.string y.2] 108:=by rw[hw6];exact(Blk.new wr _ _).kept (F:=fun _=>False) ((Kept.refl _ _).alloc _) (fun f=>f)
     have B2:Blk w6 (wr.heap.size+1) #[.string x.b.tn,.string x.b.ar,.string ytn] 63:=by
      rw[hw6]
      have:=Blk.new (wr.alloc (.cells #[.string ytn,.string y.2] 108)) #[.string x.b.tn,.string x.b.ar,.string ytn] 63
      rwa [World.size_alloc]at this
     have t1:w6.cell? ⟨wr.heap.size,1,none⟩=some (.string y.2):=B1.cell 1
     have t2:w6.cell? ⟨wr.heap.size+1,0,none⟩=some (.string x.b.tn):=B2.cell 0
     have t3:w6.cell? ⟨wr.heap.size+1,1,none⟩=some (.string x.b.ar):=B2.cell 1
     have t4:w6.cell? ⟨wr.heap.size+1,2,none⟩=some (.string ytn):=B2.cell 2
     clear hy hkl hk9 e9 hr h1 h2 h3 h4 hyt B1 B2
     go_upto_region 9 with fail
     rw[←hw6]
     clear hw6
     go_wp2_with (at_builtin;refine wpList_append_12 _ wrE 5 wrE_ok (by decide) w.heap.size 57 65 (.agg #[.string ⟨#[]⟩,.string ⟨#[]⟩,.string ⟨#[]⟩,.bool false,.string ⟨#[]⟩]) 72 Tryz.underlying57 Tryz.infoWr rfl (by decide) rfl (.tmp 29) (.tmp 34) rfl (.slice a3 m3 c3) (wrsOf14 (As.take i)++(x.es.take k).map (wrOf14 x.b)) rfl (HJ.out.1.kept (HW6.out.trans ((Kept.refl _ _).alloc _)) (fun _ _ f=>f)) (some ⟨w6.heap.size,0,none⟩) 1 1 [r] rfl rfl (fun ad e=>by cases e;exact HCA.out) (fun e=>by cases e) (by have:=HLN.out;simp only[List.length_singleton];omega) (by have:=HSW.out.size;have:=HW6.out.size;simp;omega) ?_;intro v5 w5 hr5 hg5;have HR5:=hid hr5;have HG5:=hid hg5;obtain⟨a5,n5,q5,e5⟩:∃a n q,v5=Value.slice a n q:=(by obtain⟨a,q,e,_⟩:=hr5.shape;exact⟨a,_,q,e⟩);subst e5;clear hr5 hg5)
     have HK5:Hid (Kept (fun k=>(Value.slice a3 m3 c3).ownBlock=some k) wr w5):=hid (Kept.trans (show Same wr _ from HW6.out.trans ((Kept.refl _ _).alloc _)) ((Kept.refl _ _).grown HG5.out (fun k e=>.inl e)) (fun _ _ f=>f.elim) (fun _ _ e=>e))
     go_roundg (gk-1)
     case measure=>have:=HKL.out;omega
     case rel=>exact⟨k+1,a5,n5,q5,rfl,by go_num,HKL.out,by omega,hid ⟨by rw[HTK.out,←List.append_assoc];exact HR5.out,HSW.out.then HK5.out (fun k hk e=>by have:=HJ.out.1.ge e;omega),HJ.out.2.2.kept HK5.out (HJ.out.1.offB HJ.out.2.2 (by decide))⟩⟩
    ·have f3:decide ((k:Int)<(xn:Int))=false:=by simp;omega
     have f4:decide (k<xn)=false:=by simp;omega
     have HZ:Hid (x.es.take k=x.es):=hid (List.take_of_length_le (by have:=HES.out.2;omega))
     clear hkl
     go_wp2_with fail
     go_roundg (G-1)
     case measure=>have:=HLT.out;omega
     case rel=>exact⟨i+1,a3,m3,c3,rfl,by go_num,HLT.out,by omega,hid ⟨by rw[HD.out];have h9:=HJ.out.1;rw[HZ.out]at h9;exact h9,HJ.out.2.1⟩⟩
  ·have f1:decide ((i:Int)<(n:Int))=false:=by simp;omega
   have f2:decide (i<n)=false:=by simp;omega
   have HZ:Hid (As.take i=As):=hid (List.take_of_length_le (by have:=HN.out;omega))
   clear hlt
   go_wp2_with fail
   go_ret
   exact⟨_,rfl,by rw[←HZ.out];exact HI.out.1,HI.out.2⟩

end Go.Proofs.YtcfociogljhbiaaGreatDoor

namespace Go.Proofs.YtcfociogljhbiaaGreatDoor
open Go.RowKit Go.Maps Go.Sort Go.Shelf Go.Lib

structure Et where
 b:Bx
 n:Nm
 d:ByteArray

def etE(x:Et):List Value:=[.string x.b.tn,.string x.b.ar,.string x.n.s,.string x.d]
theorem etE_ok:EncOk etE 4:=⟨fun _=>rfl,fun x u hu=>by simp[etE]at hu;rcases hu with rfl | rfl | rfl | rfl<;>rfl,by decide⟩
theorem Tryz.infoIt14:(Tryz.prog.info? 150).map (fun i=>(i.zero,i.size,i.bytes))=some (some (.agg #[.string ⟨#[]⟩,.string ⟨#[]⟩,.string ⟨#[]⟩,.string ⟨#[]⟩]),4,64):=by kernel_rfl

theorem cellsAt_et(w:World)(x:Et):CellsAt (w.alloc (.cells #[.string x.b.tn,.string x.b.ar,.string x.n.s,.string x.d] 150)) ⟨w.heap.size,0,none⟩ ([x].flatMap etE):=by
 intro j u hj
 match j,hj with
 | 0,hj=>simp[etE]at hj;subst hj;simp[addAt]
 | 1,hj=>simp[etE]at hj;subst hj;simp[addAt]
 | 2,hj=>simp[etE]at hj;subst hj;simp[addAt]
 | 3,hj=>simp[etE]at hj;subst hj;simp[addAt]
 | j+4,hj=>simp[etE]at hj

def etsOf14(As:List Ad):List Et:=As.flatMap (fun x=>x.es.map (fun e=>⟨x.b,e.1,e.2⟩))

theorem etsOf14_take(As:List Ad)(i:Nat)(hi:i<As.length):etsOf14 (As.take (i+1))=etsOf14 (As.take i)++(As[i]).es.map (fun e=>⟨(As[i]).b,e.1,e.2⟩):=by
 unfold etsOf14
 rw[List.take_succ_eq_append_getElem hi,List.flatMap_append]
 simp

theorem etsOf14_len(As:List Ad):(etsOf14 As).length=(wrsOf14 As).length:=by
 unfold etsOf14 wrsOf14
 rw[List.length_flatMap,List.length_flatMap]
 simp

set_option maxRecDepth 100000 in
set_option maxHeartbeats 2000000 in
theorem rof14_good(w:World)(ao:Option Addr)(n c:Nat)(As:List Ad)(h:ArcI w (fun k=>k<w.heap.size) (.slice ao n c) As)(hs:∀x∈As,x.es.length≤64∧∀e∈x.es,e.2.size≤8192)(hn:n≤4096)(hc:ckL bx0 0 0 As=0):Calls Tryz.prog 39 #[.slice ao n c] w fun e w'=>∃v,e=.returned (.tuple #[v,.bool true])∧RowC w.heap.size 150 4 etE w' v (etsOf14 As)∧Same w w':=by
 have HC:=rcheck14 w ao n c As h (by omega)
 rw[hc]at HC
 have HA:=hid h
 have HN:Hid (n=As.length∧n≤4096):=hid ⟨h.len3,hn⟩
 have HS:=hid hs
 clear h hs hn hc
 go_enter Tryz.func39,Tryz.ntmps39
 go_wp2_with fail
 refine HC.mono ?_
 rintro e w1 ⟨rfl,hk1⟩
 have HK1:=hid hk1
 clear HC hk1
 go_wp2_with fail
 have HA1:Hid (ArcI w1 (fun k=>k<w.heap.size) (.slice ao n c) As):=hid ⟨HA.out.1.kept adE_ok HK1.out (fun _ _ _ f=>f),fun x hx=>(HA.out.2 x hx).kept enE2_ok HK1.out (fun _ _ _ f=>f)⟩
 go_loopg [4,5] n (fun q z4 z5 wr=>∃(i:Nat) (a4:Option Addr) (m4 q4:Nat),z4=.slice a4 m4 q4∧z5=.int .i64 (i:Nat)∧i≤n∧n-i≤q∧Hid (RowC w1.heap.size 150 4 etE wr (.slice a4 m4 q4) (etsOf14 (As.take i))∧Same w1 wr))
 case atStart=>exact⟨0,_,_,_,rfl,rfl,by omega,by omega,hid ⟨RowC.nil,Kept.refl _ _⟩⟩
 case round=>
  obtain⟨i,a4,m4,q4,rfl,rfl,hi,hiq,HI⟩:=hrel
  by_cases hlt:i<n
  ·have f1:decide ((i:Int)<(n:Int))=true:=by simp;omega
   have f2:decide (i<n)=true:=by simp;omega
   obtain⟨b,o,x,rfl,hx,k0,k1,k2,hes⟩:=HA1.out.at3 i hlt
   have HKS:Hid (w1.cell? ⟨b,o+i*3,none⟩=some (.string x.b.tn)∧w1.cell? ⟨b,o+i*3+1,none⟩=some (.string x.b.ar)∧w1.cell? ⟨b,o+i*3+2,none⟩=some (.slice x.a x.n x.c)):=hid ⟨k0,k1,k2⟩
   have HES:Hid (SrcC 2 enE2 w1 (fun k=>k<w.heap.size) (.slice x.a x.n x.c) x.es∧x.n=x.es.length):=hid ⟨hes,hes.len2⟩
   have c1:(0:Int)≤(i:Int):=by omega
   have c2:(i:Int)<(n:Int):=by omega
   have hiw:IntKind.i64.wrap ((i:Int)+1)=((i+1:Nat):Int):=by rw[IntKind.wrap_i64];have:=HN.out;omega
   obtain⟨hi9,e9⟩:=List.getElem?_eq_some_iff.1 hx
   have HD:Hid (etsOf14 (As.take (i+1))=etsOf14 (As.take i)++x.es.map (fun e=>⟨x.b,e.1,e.2⟩)):=hid (by rw[etsOf14_take As i hi9,e9])
   have HSX:Hid (x.es.length≤64∧∀e∈x.es,e.2.size≤8192):=hid (HS.out x (List.mem_of_getElem? hx))
   have HWL:Hid ((etsOf14 (As.take i)).length≤64*4096):=hid (by
    rw[etsOf14_len]
    have h9:=wrsOf14_len (As.take i) (fun y hy=>(HS.out y (List.mem_of_mem_take hy)).1)
    rw[List.length_take]at h9
    have:=HN.out
    have:min i As.length≤4096:=by omega
    omega)
   have HLT:=hid hlt
   obtain⟨xa,xn,xc,hxs⟩:∃a n c,a=x.a∧n=x.n∧c=x.c:=⟨_,_,_,rfl,rfl,rfl⟩
   obtain⟨hxa,hxn,hxc⟩:=hxs
   rw[←hxa,←hxn,←hxc]at HES HKS
   obtain⟨G,rfl⟩:∃G,G=gk:=⟨_,rfl⟩
   clear hx hlt hes hi9 e9 hxa hxn hxc k0 k1 k2
   go_wp2_with fail
   go_loopg [4,6] xn (fun q y4 y6 wq=>∃(k:Nat) (a4:Option Addr) (m4 q4:Nat),y4=.slice a4 m4 q4∧y6=.int .i64 (k:Nat)∧k≤xn∧xn-k≤q∧Hid (RowC w1.heap.size 150 4 etE wq (.slice a4 m4 q4) (etsOf14 (As.take i)++(x.es.take k).map (fun e=>⟨x.b,e.1,e.2⟩))∧Same w1 wq))
   case atStart=>exact⟨0,_,_,_,rfl,rfl,by omega,by omega,hid ⟨by rw[List.take_zero,List.map_nil,List.append_nil];exact HI.out.1,HI.out.2⟩⟩
   case round=>
    clear HI
    obtain⟨k,a4,m4,q4,rfl,rfl,hk,hkq,HJ⟩:=hrel
    have k0:=HJ.out.2.cell HKS.out.1 (fun f=>f)
    have k1:=HJ.out.2.cell HKS.out.2.1 (fun f=>f)
    have k2:=HJ.out.2.cell HKS.out.2.2 (fun f=>f)
    by_cases hkl:k<xn
    ·have f3:decide ((k:Int)<(xn:Int))=true:=by simp;omega
     have f4:decide (k<xn)=true:=by simp;omega
     obtain⟨b2,o2,y,rfl,_,hy,j0,j1⟩:=HES.out.1.at2 k hkl
     have j0:=HJ.out.2.cell j0 (fun f=>f)
     have j1:=HJ.out.2.cell j1 (fun f=>f)
     have p3:(0:Int)≤(k:Int):=by omega
     have p4:(k:Int)<(xn:Int):=by omega
     have hkw:IntKind.i64.wrap ((k:Int)+1)=((k+1:Nat):Int):=by rw[IntKind.wrap_i64];have:=HES.out.2;have:=HSX.out.1;omega
     obtain⟨hk9,e9⟩:=List.getElem?_eq_some_iff.1 hy
     obtain⟨r,hr⟩:∃r:Et,r=⟨x.b,y.1,y.2⟩:=⟨_,rfl⟩
     have HTK:Hid ((x.es.take (k+1)).map (fun e=>(⟨x.b,e.1,e.2⟩:Et))=(x.es.take k).map (fun e=>⟨x.b,e.1,e.2⟩)++[r]):=hid (by rw[List.take_succ_eq_append_getElem hk9,List.map_append,e9,hr];rfl)
     have HKL:=hid hkl
     obtain⟨w6,hw6⟩:∃W,W=wr.alloc (.cells #[.string y.1.s,.string y.2] 108):=⟨_,rfl⟩
     have HW6:Hid (Same wr w6∧Same w1 w6):=hid (by rw[hw6];exact⟨(Kept.refl _ wr).alloc _,HJ.out.2.trans ((Kept.refl _ wr).alloc _)⟩)
     have HCA:Hid (∀W:World,CellsAt (W.alloc (.cells #[.string x.b.tn,.string x.b.ar,.string y.1.s,.string y.2] 150)) ⟨W.heap.size,0,none⟩ ([r].flatMap etE)):=hid (fun W=>by rw[hr];exact cellsAt_et W ⟨x.b,y.1,y.2⟩)
     have HLN:Hid ((etsOf14 (As.take i)++(x.es.take k).map (fun e=>(⟨x.b,e.1,e.2⟩:Et))).length+1≤1000000000):=hid (by
      have h9:=HWL.out
      have h8:=HSX.out.1
      rw[List.length_append,List.length_map,List.length_take]
      have:min k x.es.length≤64:=by omega
      omega)
     have HRW6:Hid (RowC w1.heap.size 150 4 etE w6 (.slice a4 m4 q4) (etsOf14 (As.take i)++(x.es.take k).map (fun e=>(⟨x.b,e.1,e.2⟩:Et)))):=hid (HJ.out.1.kept HW6.out.1 (fun _ _ f=>f))
     have g9:wr.heap.size<w6.heap.size:=by rw[hw6];simp
     have B1:Blk w6 wr.heap.size #[.string y.1.s,.string y.2] 108:=by rw[hw6];exact Blk.new wr _ _
     have t0:w6.cell? ⟨wr.heap.size,0,none⟩=some (.string y.1.s):=B1.cell 0
     have t1:w6.cell? ⟨wr.heap.size,1,none⟩=some (.string y.2):=B1.cell 1
     have l0:=HW6.out.2.cell HKS.out.1 (fun f=>f)
     have l1:=HW6.out.2.cell HKS.out.2.1 (fun f=>f)
     clear hy hkl hk9 e9 hr B1
     go_upto_region 11 with fail
     rw[←hw6]
     clear hw6
     obtain⟨ge,hge⟩:∃g,g=wr.heap.size:=⟨_,rfl⟩
     rw[←hge]at t0 t1 ⊢
     clear hge g9 k0 k1 k2 j0 j1
     go_region_law (refine step_appendC etE 4 etE_ok w1.heap.size 96 150 (.agg #[.string ⟨#[]⟩,.string ⟨#[]⟩,.string ⟨#[]⟩,.string ⟨#[]⟩]) 64 Tryz.underlying96 Tryz.infoIt14 rfl (by decide) (by rfl) (.tmp 35) (.tmp 52) (by rfl) (.slice a4 m4 q4) (etsOf14 (As.take i)++(x.es.take k).map (fun e=>(⟨x.b,e.1,e.2⟩:Et))) (by rfl) (HRW6.out.kept (show Same w6 _ by first | exact((Kept.refl _ _).drew).alloc _ | exact((Kept.refl _ _).alloc _).drew | exact(Kept.refl _ _).alloc _) (fun _ _ f=>f)) ⟨w6.heap.size,0,none⟩ 1 1 [r] (by rfl) (by rfl) (by first | exact HCA.out _ | exact HCA.out w6) (by have:=HLN.out;simp only[List.length_singleton];omega) (by have:=HW6.out.2.size;simp;omega) ?_;intro v5 w5 hr5 hg5 hb5;have HR5:=hid hr5;have HG5:Hid (Same w1 w5):=hid (Same.then HW6.out.2 (show Kept (fun k=>(Value.slice a4 m4 q4).ownBlock=some k) w6 w5 from Kept.trans (show Same w6 _ by first | exact((Kept.refl _ _).alloc _).drew | exact((Kept.refl _ _).drew).alloc _ | exact(Kept.refl _ _).alloc _) ((Kept.refl _ _).grown hg5 (fun k e=>.inl e)) (fun _ _ f=>f.elim) (fun _ _ e=>e)) (fun k hk e=>by have:=HRW6.out.ge e;omega));clear hr5 hg5 hb5)
     all_goals
      obtain⟨a5,n5,q5,e5⟩:∃a n q,v5=Value.slice a n q:=(by obtain⟨a,q,e,_⟩:=HR5.out.shape;exact⟨a,_,q,e⟩)
      subst e5
      go_wp2_with fail
      go_roundg (gk-1)
      case measure=>have:=HKL.out;omega
      case rel=>exact⟨k+1,a5,n5,q5,rfl,by go_num,HKL.out,by omega,hid ⟨by rw[HTK.out,←List.append_assoc];exact HR5.out,HG5.out⟩⟩
    ·have f3:decide ((k:Int)<(xn:Int))=false:=by simp;omega
     have f4:decide (k<xn)=false:=by simp;omega
     have HZ:Hid (x.es.take k=x.es):=hid (List.take_of_length_le (by have:=HES.out.2;omega))
     clear hkl
     go_wp2_with fail
     go_roundg (G-1)
     case measure=>have:=HLT.out;omega
     case rel=>exact⟨i+1,a4,m4,q4,rfl,by go_num,HLT.out,by omega,hid ⟨by rw[HD.out];have h9:=HJ.out.1;rw[HZ.out]at h9;exact h9,HJ.out.2⟩⟩
  ·have f1:decide ((i:Int)<(n:Int))=false:=by simp;omega
   have f2:decide (i<n)=false:=by simp;omega
   have HZ:Hid (As.take i=As):=hid (List.take_of_length_le (by have:=HN.out;omega))
   clear hlt
   go_wp2_with fail
   go_ret2
   exact⟨_,rfl,by rw[←HZ.out];exact HI.out.1.base HK1.out.size,HK1.out.trans HI.out.2⟩

end Go.Proofs.YtcfociogljhbiaaGreatDoor

namespace Go.Proofs.YtcfociogljhbiaaGreatDoor
open Go.RowKit Go.Maps Go.Sort Go.Shelf

def keE(x:Et):Ke:=(x.b,x.n)

def etW(w:Wr):Et:=⟨w.b,w.n,w.data⟩

def withL(w:Wr):Bool→List Et→List Et
 | inn,[]=>if inn then []else [etW w]
 | inn,x::r=>(if !inn && bef14 (keO w) (keE x)then [etW w]else [])++((if keE x=keO w then []else [x])++withL w (inn || bef14 (keO w) (keE x)) r)

theorem mem_withL(w:Wr):∀(es:List Et) (inn:Bool) (y:Et),y∈withL w inn es↔(y∈es∧keE y≠keO w)∨(inn=false∧y=etW w)
 | [],inn,y=>by
  cases inn<;>simp[withL]
 | x::r,inn,y=>by
  rw[withL,List.mem_append,List.mem_append,mem_withL w r]
  have hbk:bef14 (keO w) (keE x)=true→keE x≠keO w:=fun hb hk=>by
   rw[bef14_iff,hk]at hb
   exact ltK_irr _ hb
  cases hb:bef14 (keO w) (keE x)<;>cases inn<;>by_cases hk:keE x=keO w<;>simp[hk]<;>grind

def RisE(es:List Et):Prop:=es.Pairwise (fun x y=>ltK (keE x) (keE y))

theorem ris_withL(w:Wr):∀(es:List Et) (inn:Bool),RisE es→RisE (withL w inn es)
 | [],inn,_=>by
  cases inn
  ·exact List.pairwise_singleton _ _
  ·exact List.Pairwise.nil
 | x::r,inn,h=>by
  obtain⟨h1,h2⟩:=List.pairwise_cons.1 h
  have ih:=fun i=>ris_withL w r i h2
  rw[withL]
  by_cases hb:bef14 (keO w) (keE x)=true
  ·rw[hb]
   have hlt:ltK (keO w) (keE x):=(bef14_iff _ _).1 hb
   have hk:¬keE x=keO w:=fun e=>by rw[e]at hlt;exact ltK_irr _ hlt
   rw[if_neg hk,Bool.or_true]
   have hx:RisE (x::withL w true r):=List.pairwise_cons.2 ⟨fun y hy=>(by
    rcases(mem_withL w r true y).1 hy with⟨e,_⟩ | ⟨e,_⟩
    ·exact h1 y e
    ·cases e),ih true⟩
   cases inn
   ·refine List.pairwise_cons.2 ⟨fun y hy=>?_,hx⟩
    rcases List.mem_cons.1 hy with rfl | hy
    ·exact hlt
    ·rcases(mem_withL w r true y).1 hy with⟨e,_⟩ | ⟨e,_⟩
     ·exact ltK_trans hlt (h1 y e)
     ·cases e
   ·exact hx
  ·have hb':bef14 (keO w) (keE x)=false:=by simpa using hb
   rw[hb',Bool.and_false,Bool.or_false]
   by_cases hk:keE x=keO w
   ·rw[if_pos hk]
    exact ih inn
   ·rw[if_neg hk]
    refine List.pairwise_cons.2 ⟨fun y hy=>?_,ih inn⟩
    rcases(mem_withL w r inn y).1 hy with⟨e,_⟩ | ⟨_,e⟩
    ·exact h1 y e
    ·rw[e]
     rcases ltK_tri (keE x) (keO w)with q | q | q
     ·exact q
     ·exact absurd q hk
     ·exact absurd ((bef14_iff _ _).2 q) hb

end Go.Proofs.YtcfociogljhbiaaGreatDoor

namespace Go.Proofs.YtcfociogljhbiaaGreatDoor
open Go.RowKit Go.Maps Go.Sort Go.Shelf

theorem nm_ext14{a b:Nm}(h:a.s=b.s):a=b:=by
 cases a
 cases b
 simp only at h
 subst h
 rfl

def fndE(es:List Et)(k:Ke):Int:=match es.findIdx? (fun x=>decide (keE x=k))with | some i=>(i:Nat) | none=>-1

set_option maxRecDepth 100000 in
set_option maxHeartbeats 1000000 in
theorem rfind14(w:World)(N:Nat)(a:Option Addr)(n c:Nat)(es:List Et)(h:RowC N 150 4 etE w (.slice a n c) es)(hn:n≤1000000)(k:Ke):Calls Tryz.prog 85 #[.slice a n c,.agg #[.string k.1.tn,.string k.1.ar,.string k.2.s]] w fun e w'=>e=.returned (.int .i64 (fndE es k))∧Same w w':=by
 have HR:=hid h
 have HN:Hid (n=es.length∧n≤1000000):=hid ⟨by obtain⟨a',c',e,_⟩:=h.shape;injection e,hn⟩
 clear h hn
 go_enter Tryz.func85,Tryz.ntmps85
 go_wp2_with fail
 obtain⟨w1,hw1⟩:∃W,W=w.alloc (.cells #[.string k.1.tn,.string k.1.ar,.string k.2.s] 63):=⟨_,rfl⟩
 obtain⟨g,hg⟩:∃g,g=w.heap.size:=⟨_,rfl⟩
 have HB1:Hid (Blk w1 g #[.string k.1.tn,.string k.1.ar,.string k.2.s] 63∧Same w w1):=hid (by rw[hw1,hg];exact⟨Blk.new w _ _,(Kept.refl _ _).alloc _⟩)
 try rw[←hw1]
 try rw[←hg]
 clear hw1 hg
 go_loopg [5] n (fun q z wr=>∃i:Nat,z=.int .i64 (i:Nat)∧i≤n∧n-i≤q∧Hid ((∀j (hj:j<es.length),j<i→keE es[j]≠k)∧Same w1 wr))
 case atStart=>exact⟨0,rfl,by omega,by omega,hid ⟨fun j hj h=>by omega,Kept.refl _ _⟩⟩
 case round=>
  obtain⟨i,rfl,hi,hiq,HI⟩:=hrel
  by_cases hlt:i<n
  ·have f1:decide ((i:Int)<(n:Int))=true:=by simp;omega
   have f2:decide (i<n)=true:=by simp;omega
   have hix:i<es.length:=by rw[←HN.out.1];exact hlt
   obtain⟨b,rfl,r0,r1,r2⟩:∃g,a=some ⟨g,0,none⟩∧wr.cell? ⟨g,i*4,none⟩=some (.string es[i].b.tn)∧wr.cell? ⟨g,i*4+1,none⟩=some (.string es[i].b.ar)∧wr.cell? ⟨g,i*4+2,none⟩=some (.string es[i].n.s):=by
    have hr:=(HR.out.kept HB1.out.2 (fun _ _ f=>f)).kept HI.out.2 (fun _ _ f=>f)
    obtain⟨ao,cp,e,hag,_⟩:=hr.shape
    obtain⟨g,rfl⟩:=hag (by rintro rfl;simp at hix)
    injection e with e1 _ _
    subst e1
    exact⟨g,rfl,RowC.cell etE_ok hr i 0 hix (by decide),RowC.cell etE_ok hr i 1 hix (by decide),RowC.cell etE_ok hr i 2 hix (by decide)⟩
   obtain⟨x,hx⟩:∃x,x=es[i]:=⟨_,rfl⟩
   rw[←hx]at r0 r1 r2
   have q0:wr.cell? ⟨g,0,none⟩=some (.string k.1.tn):=(HB1.out.1.kept HI.out.2 (fun f=>f)).cell 0
   have q1:wr.cell? ⟨g,1,none⟩=some (.string k.1.ar):=(HB1.out.1.kept HI.out.2 (fun f=>f)).cell 1
   have q2:wr.cell? ⟨g,2,none⟩=some (.string k.2.s):=(HB1.out.1.kept HI.out.2 (fun f=>f)).cell 2
   have c1:(0:Int)≤(i:Int):=by omega
   have c2:(i:Int)<(n:Int):=by omega
   have s1:=streq14 x.b.tn k.1.tn
   have s2:=streq14 x.b.ar k.1.ar
   have s3:=streq14 x.n.s k.2.s
   have HLT:=hid hlt
   have hiw:IntKind.i64.wrap ((i:Int)+1)=((i+1:Nat):Int):=by rw[IntKind.wrap_i64];have:=HN.out;omega
   have HXI:Hid (x=es[i]):=hid hx
   have HIX:=hid hix
   clear hlt hx
   by_cases he:x.b.tn=k.1.tn
   ·rw[decide_eq_true he]at s1
    have HE1:=hid he
    clear he
    by_cases he:x.b.ar=k.1.ar
    ·rw[decide_eq_true he]at s2
     have HE2:=hid he
     clear he
     by_cases he:x.n.s=k.2.s
     ·rw[decide_eq_true he]at s3
      have HEQ:Hid (keE x=k):=hid (Prod.ext (Bx.ext' HE1.out HE2.out) (nm_ext14 he))
      clear he
      go_wp2_with fail
      go_quiet (fail)
      go_wp2_with fail
      go_ret
      refine⟨?_,HB1.out.2.trans (HI.out.2.trans (by first | exact(Kept.refl _ _).drewN _ | exact Kept.refl _ _))⟩
      have hf:fndE es k=(i:Int):=by
       unfold fndE
       have:es.findIdx? (fun x=>decide (keE x=k))=some i:=by
        rw[List.findIdx?_eq_some_iff_getElem]
        exact⟨HIX.out,by rw[←HXI.out];exact decide_eq_true HEQ.out,fun j hj=>by simpa using HI.out.1 j (by have:=HIX.out;omega) hj⟩
       rw[this]
      rw[hf]
      rfl
     ·rw[decide_eq_false he]at s3
      have HNE:Hid (keE x≠k):=hid (fun e=>he (by rw[←e];rfl))
      clear he
      go_wp2_with fail
      go_quiet (fail)
      go_wp2_with fail
      go_roundg (gk-1)
      case measure=>have:=HLT.out;omega
      case rel=>exact⟨i+1,by go_num,HLT.out,by omega,hid ⟨fun j hj h=>by
       by_cases hji:j<i
       ·exact HI.out.1 j hj hji
       ·obtain rfl:j=i:=by omega
        have:=HNE.out
        rwa [HXI.out]at this,HI.out.2.trans (by first | exact(Kept.refl _ _).drewN _ | exact Kept.refl _ _)⟩⟩
    ·rw[decide_eq_false he]at s2
     have HNE:Hid (keE x≠k):=hid (fun e=>he (by rw[←e];rfl))
     clear he
     go_wp2_with fail
     go_quiet (fail)
     go_wp2_with fail
     go_roundg (gk-1)
     case measure=>have:=HLT.out;omega
     case rel=>exact⟨i+1,by go_num,HLT.out,by omega,hid ⟨fun j hj h=>by
      by_cases hji:j<i
      ·exact HI.out.1 j hj hji
      ·obtain rfl:j=i:=by omega
       have:=HNE.out
       rwa [HXI.out]at this,HI.out.2.trans (by first | exact(Kept.refl _ _).drewN _ | exact Kept.refl _ _)⟩⟩
   ·rw[decide_eq_false he]at s1
    have HNE:Hid (keE x≠k):=hid (fun e=>he (by rw[←e];rfl))
    clear he
    go_wp2_with fail
    go_quiet (fail)
    go_wp2_with fail
    go_roundg (gk-1)
    case measure=>have:=HLT.out;omega
    case rel=>exact⟨i+1,by go_num,HLT.out,by omega,hid ⟨fun j hj h=>by
     by_cases hji:j<i
     ·exact HI.out.1 j hj hji
     ·obtain rfl:j=i:=by omega
      have:=HNE.out
      rwa [HXI.out]at this,HI.out.2.trans (by first | exact(Kept.refl _ _).drewN _ | exact Kept.refl _ _)⟩⟩
  ·have f1:decide ((i:Int)<(n:Int))=false:=by simp;omega
   have f2:decide (i<n)=false:=by simp;omega
   have HZ:Hid (fndE es k=-1):=hid (by
    unfold fndE
    have:es.findIdx? (fun x=>decide (keE x=k))=none:=by
     rw[List.findIdx?_eq_none_iff]
     intro x hx
     obtain⟨j,hj,rfl⟩:=List.getElem_of_mem hx
     exact decide_eq_false (HI.out.1 j hj (by have:=HN.out;omega))
    rw[this])
   clear hlt
   go_wp2_with fail
   go_ret
   exact⟨by rw[HZ.out];rfl,HB1.out.2.trans HI.out.2⟩

end Go.Proofs.YtcfociogljhbiaaGreatDoor

namespace Go.Proofs.YtcfociogljhbiaaGreatDoor
open Go.RowKit Go.Maps Go.Sort Go.Shelf

theorem wrap_more(s l:Int):IntKind.i64.wrap (IntKind.i64.wrap s+l)=IntKind.i64.wrap (s+l):=by simp only[IntKind.wrap_i64];omega

def byA(es:List Ent):Nat:=(es.map (fun e=>e.2.size)).sum
def useB(ow:ByteArray)(D:List (Bx×List Ent)):Nat:=(D.map (fun x=>if x.1.tn=ow then byA x.2 else 0)).sum
def useN(ow:ByteArray)(D:List (Bx×List Ent)):Nat:=(D.map (fun x=>if x.1.tn=ow then x.2.length else 0)).sum
def wr14(n:Nat):Int:=IntKind.i64.wrap (n:Int)
theorem wr14_more(n l:Nat):IntKind.i64.wrap (wr14 n+(l:Int))=wr14 (n+l):=by unfold wr14;rw[wrap_more];congr 1

theorem Tryz.zeroUs:(Tryz.prog.info? 78).bind (·.zero)=some (.agg #[.int .i64 0,.int .i64 0]):=by kernel_rfl
theorem Tryz.sizeUs:(Tryz.prog.info? 78).map (·.size)=some 2:=by kernel_rfl
theorem Tryz.zeroEn:(Tryz.prog.info? 108).bind (·.zero)=some (.agg #[.string ⟨#[]⟩,.string ⟨#[]⟩]):=by kernel_rfl
theorem Tryz.sizeEn:(Tryz.prog.info? 108).map (·.size)=some 2:=by kernel_rfl

def UseI(w2 wr:World)(u:Nat)(b n:Nat):Prop:=Blk wr u #[.int .i64 (wr14 b),.int .i64 (wr14 n)] 78∧Kept (·=u) w2 wr

theorem UseI.setB{w2 wr:World}{u b n:Nat}(h:UseI w2 wr u b n)(b':Nat):UseI w2 (wr.setCell ⟨u,0,none⟩ (.int .i64 (wr14 b'))) u b' n:=by
 refine⟨?_,h.2.setCell _ _ (.inl rfl)⟩
 have h9:=h.1.set 0 (.int .i64 (wr14 b'))
 simpa using h9

theorem UseI.setN{w2 wr:World}{u b n:Nat}(h:UseI w2 wr u b n)(n':Nat):UseI w2 (wr.setCell ⟨u,1,none⟩ (.int .i64 (wr14 n'))) u b n':=by
 refine⟨?_,h.2.setCell _ _ (.inl rfl)⟩
 have h9:=h.1.set 1 (.int .i64 (wr14 n'))
 simpa using h9

theorem UseI.same{w2 wr wr':World}{u b n:Nat}(h:UseI w2 wr u b n)(hk:Same wr wr'):UseI w2 wr' u b n:=⟨h.1.kept hk (fun f=>f),Kept.trans h.2 hk (fun _ _ e=>e) (fun _ _ f=>f.elim)⟩

set_option maxRecDepth 100000 in
set_option maxHeartbeats 2000000 in
theorem tuse_any{K N:Nat}{w:World}{p:Nat}{M:Mst}{bg:Int}{c:Tc}{τ:Nat→Nat}(h:Tk K N w p M bg c τ)(ow:ByteArray):
  Calls Tryz.prog 32 #[.pointer (some ⟨p,0,none⟩),.string ow] w fun e w'=>∃D,IsDm (visF M.V M.now) D∧e=.returned (.agg #[.int .i64 (wr14 (useB ow D)),.int .i64 (wr14 (useN ow D))])∧Same w w':=by
 have HT:=hid h
 clear h
 go_enter Tryz.func32,Tryz.ntmps32
 go_wp2_with (first
  | (with_reducible refine at_alloc 78 4 ?_;refine wpl_alloc 78 _ Tryz.zeroUs ?_;intro wR rb hBR hkR hgR hlR;have HBR:=hid hBR;have HKR:=hid hkR;clear hBR hkR)
  | (with_reducible refine at_alloc 78 5 ?_;refine wpl_alloc 78 _ Tryz.zeroUs ?_;intro wA u hBA hkA hgA hlA;have HBA:=hid hBA;have HKA:=hid hkA;clear hBA hkA))
 have HKW:=hid (HKR.out.trans HKA.out)
 refine(tdump_any (HT.out.same HKW.out)).mono ?_
 rintro e w2 ⟨v2,As,rfl,hdm,hisd,hAl,hAe,hk2⟩
 obtain⟨av,cv,rfl,_⟩:=hdm.ofs
 obtain⟨nA,hnA⟩:∃n,n=As.length:=⟨_,rfl⟩
 rw[←hnA]at hdm ⊢
 have HDM:Hid (∀W,Kept (·=u) w2 W→∀i (hi:i<As.length),∃g,av=some ⟨g,0,none⟩∧W.cell? ⟨g,i*3,none⟩=some (.string As[i].b.tn)∧W.cell? ⟨g,i*3+1,none⟩=some (.string As[i].b.ar)∧W.cell? ⟨g,i*3+2,none⟩=some (.slice As[i].a As[i].es.length As[i].c)∧∀j (hj:j<As[i].es.length),∃k,As[i].a=some ⟨k,0,none⟩∧W.cell? ⟨k,j*2,none⟩=some (.string As[i].es[j].1.s)∧W.cell? ⟨k,j*2+1,none⟩=some (.string As[i].es[j].2)):=hid (fun W hW i hi=>by
  obtain⟨ao,cap,e1,h9⟩:=(hdm.kept hW (fun k e e2=>by have:=hdm.row.ge e;omega) (fun x hx k e e2=>by have:=(hdm.ent x hx).ge e;omega)).ofs
  injection e1 with e2 _ _
  subst e2
  obtain⟨g,a1,a2,a3,a4,_,a6⟩:=h9 i hi
  exact⟨g,a1,a2,a3,a4,a6⟩)
 have HIS:Hid (IsDm (visF M.V M.now) (adD As)∧As.length≤100000∧(∀x∈As,x.es.length≤100000)∧nA=As.length):=hid ⟨hisd,hAl,hAe,hnA⟩
 have HK2:=hid hk2
 have HU0:Hid (UseI w2 w2 u (useB ow (adD (As.take 0))) (useN ow (adD (As.take 0)))):=hid ⟨HBA.out.kept hk2 (fun f=>f),Kept.refl _ _⟩
 have HLU:Hid (wR.heap.size≤u):=hid hgA
 have hnB:nA≤100000:=by rw[hnA];exact hAl
 clear hdm hisd hAl hAe hk2 hnA
 go_wp2_with fail
 go_loopg [7,9,13] nA (fun k _ _ z wr=>∃i:Nat,i≤nA∧nA-i≤k∧z=.int .i64 (i:Nat)∧Hid (UseI w2 wr u (useB ow (adD (As.take i))) (useN ow (adD (As.take i)))))
 case atStart=>exact⟨0,by omega,by omega,rfl,HU0⟩
 case round=>
  clear HU0
  obtain⟨i,hi,hik,rfl,HI⟩:=hrel
  by_cases hlt:i<nA
  ·have hiA:i<As.length:=by rw[←HIS.out.2.2.2];exact hlt
   obtain⟨g,rfl,d0,d1,d2,hen⟩:=HDM.out wr HI.out.2 i hiA
   obtain⟨x,hx⟩:∃x,x=As[i]:=⟨_,rfl⟩
   rw[←hx]at d0 d1 d2
   have HX:Hid (adD (As.take (i+1))=adD (As.take i)++[(x.b,x.es)]∧x.es.length≤100000∧x=As[i]):=hid ⟨by unfold adD;rw[List.take_succ_eq_append_getElem hiA,List.map_append,hx];rfl,HIS.out.2.2.1 x (by rw[hx];exact List.getElem_mem _),hx⟩
   obtain⟨tn,htn⟩:∃t,t=x.b.tn:=⟨_,rfl⟩
   obtain⟨ar,har⟩:∃t,t=x.b.ar:=⟨_,rfl⟩
   obtain⟨le,hle⟩:∃t,t=x.es.length:=⟨_,rfl⟩
   obtain⟨xa,hxa⟩:∃t,t=x.a:=⟨_,rfl⟩
   obtain⟨xc,hxc⟩:∃t,t=x.c:=⟨_,rfl⟩
   rw[←htn]at d0
   rw[←har]at d1
   rw[←hle,←hxa,←hxc]at d2
   have HXE:Hid (tn=x.b.tn∧le=x.es.length∧xa=x.a):=hid ⟨htn,hle,hxa⟩
   obtain⟨B0,hB0⟩:∃b,b=useB ow (adD (As.take i)):=⟨_,rfl⟩
   obtain⟨N0,hN0⟩:∃b,b=useN ow (adD (As.take i)):=⟨_,rfl⟩
   rw[←hB0,←hN0]at HI
   have HBN:Hid (useB ow (adD (As.take (i+1)))=(if tn=ow then B0+byA x.es else B0)∧useN ow (adD (As.take (i+1)))=(if tn=ow then N0+le else N0)):=hid (by
    rw[HX.out.1]
    unfold useB at hB0 ⊢
    unfold useN at hN0 ⊢
    rw[List.map_append,List.sum_append,List.map_append,List.sum_append,←hB0,←hN0,htn,hle]
    simp only[List.map_cons,List.map_nil,List.sum_cons,List.sum_nil]
    constructor<;>(split<;>rfl))
   have hle2:le≤100000:=by rw[hle];exact HX.out.2.1
   clear htn har hle hxa hxc hB0 hN0 hen hx
   by_cases hto:tn=ow
   ·have ht1:(tn.toList==ow.toList)=true:=by rw[hto];simp
    rw[if_pos hto,if_pos hto]at HBN
    have HBU:Hid (Blk wr u #[.int .i64 (wr14 B0),.int .i64 (wr14 N0)] 78):=hid HI.out.1
    have u0:=HBU.out.cell 0
    have u1:=HBU.out.cell 1
    simp only[List.getElem?_toArray,List.getElem?_cons_zero,List.getElem?_cons_succ]at u0 u1
    have hw1:IntKind.i64.wrap (wr14 N0+(le:Int))=wr14 (N0+le):=wr14_more N0 le
    clear hto
    go_wp2_with (first
     | (with_reducible refine at_alloc 83 7 ?_;refine wpl_alloc 83 _ Tryz.zeroArc ?_;intro w3 g3 hB3 hk3 hg3 hl3;have HB3:=hid hB3;have HK3:=hid hk3;clear hB3 hk3)
     | (with_reducible refine at_store 83 7 ?_;refine wpl_store 83 3 Tryz.sizeArc rfl (cells:=[.string tn,.string ar,.slice xa le xc]) rfl HB3.out rfl rfl (by simp[Value.oneCell']) ?_;intro w4 hB4 hk4 hs4;have HK4:Hid (Same wr w4):=hid (HK3.out.then hk4 (fun x hx e=>by omega));have HB4:=hid hB4;have f0:=hB4.cell 0;have f2:=hB4.cell 2;simp only[List.getElem?_toArray,List.getElem?_cons_zero,List.getElem?_cons_succ]at f0 f2;have u0:=HK4.out.cell u0 (fun f=>f);have u1:=HK4.out.cell u1 (fun f=>f);have z1:=(HBU.out.kept HK4.out (fun f=>f)).frozen 1;clear hB4 hk4 hs4 HB3 HK3))
    obtain⟨w5,hw5⟩:∃W,W=w4.setCell ⟨u,1,none⟩ (.int .i64 (wr14 (N0+le))):=⟨_,rfl⟩
    rw[←hw5]
    have HJ0:Hid (UseI w2 w5 u (B0+byA (x.es.take 0)) (N0+le)):=hid (by rw[hw5];exact(HI.out.same HK4.out).setN _)
    obtain⟨gk0,hgk0⟩:∃g,g=gk:=⟨_,rfl⟩
    rw[←hgk0]at hik
    clear hw5 f0 f2 u0 u1 z1 hw1 d0 d1 d2 HBU ht1
    go_loopg [9,31] le (fun k _ z wx=>∃j:Nat,j≤le∧le-j≤k∧z=.int .i64 (j:Nat)∧Hid (UseI w2 wx u (B0+byA (x.es.take j)) (N0+le)))
    case atStart=>exact⟨0,by omega,by omega,rfl,HJ0⟩
    case round=>
     clear HJ0
     obtain⟨j,hj,hjk,rfl,HJ⟩:=hrel
     by_cases hjl:j<le
     ·have hjx:j<x.es.length:=by rw[←HXE.out.2.1];exact hjl
      obtain⟨g9,hg9,_,_,_,hen⟩:=HDM.out wr HJ.out.2 i hiA
      have hex:=HX.out.2.2
      obtain⟨k,hxk,c0,c1⟩:∃k,xa=some ⟨k,0,none⟩∧wr.cell? ⟨k,j*2,none⟩=some (.string x.es[j].1.s)∧wr.cell? ⟨k,j*2+1,none⟩=some (.string x.es[j].2):=by
       rw[HXE.out.2.2]
       subst hex
       exact hen j hjx
      subst hxk
      obtain⟨en,hen2⟩:∃e,e=x.es[j].1.s:=⟨_,rfl⟩
      obtain⟨ed,hed⟩:∃e,e=x.es[j].2:=⟨_,rfl⟩
      rw[←hen2]at c0
      rw[←hed]at c1
      have HSM:Hid (byA (x.es.take (j+1))=byA (x.es.take j)+ed.size):=hid (by
       unfold byA
       rw[List.take_succ_eq_append_getElem hjx,List.map_append,List.sum_append,hed]
       simp)
      obtain⟨B1,hB1⟩:∃b,b=B0+byA (x.es.take j):=⟨_,rfl⟩
      rw[←hB1]at HJ
      have HB1:=hid hB1
      have HBU:Hid (Blk wr u #[.int .i64 (wr14 B1),.int .i64 (wr14 (N0+le))] 78):=hid HJ.out.1
      have u0:=HBU.out.cell 0
      simp only[List.getElem?_toArray,List.getElem?_cons_zero]at u0
      have hw2:IntKind.i64.wrap (wr14 B1+(ed.size:Int))=wr14 (B1+ed.size):=wr14_more B1 ed.size
      clear hen hex hen2 hed hB1 hg9
      go_wp2_with (first
       | (with_reducible refine at_alloc 108 9 ?_;refine wpl_alloc 108 _ Tryz.zeroEn ?_;intro w6 g6 hB6 hk6 hg6 hl6;have HB6:=hid hB6;have HK6:=hid hk6;clear hB6 hk6)
       | (with_reducible refine at_store 108 9 ?_;refine wpl_store 108 2 Tryz.sizeEn rfl (cells:=[.string en,.string ed]) rfl HB6.out rfl rfl (by simp[Value.oneCell']) ?_;intro w7 hB7 hk7 hs7;have HK7:Hid (Same wr w7):=hid (HK6.out.then hk7 (fun x hx e=>by omega));have f1:=hB7.cell 1;simp only[List.getElem?_toArray,List.getElem?_cons_zero,List.getElem?_cons_succ]at f1;have u0:=HK7.out.cell u0 (fun f=>f);have z0:=(HBU.out.kept HK7.out (fun f=>f)).frozen 0;clear hB7 hk7 hs7 HB6 HK6))
      go_roundg (gk-1)
      case measure=>omega
      case rel=>exact⟨j+1,by omega,by omega,by go_num,hid (by rw[HSM.out,←Nat.add_assoc,←HB1.out];exact(HJ.out.same HK7.out).setB _)⟩
     ·have hjn:j=le:=by omega
      have q0:¬j<le:=hjl
      go_wp2_with fail
      go_roundg (gk0-1)
      case measure=>omega
      case rel=>
       refine⟨i+1,by omega,by omega,by go_num,hid ?_⟩
       rw[HBN.out.1,HBN.out.2]
       have h9:=HJ.out
       rw[List.take_of_length_le (by have:=HXE.out.2.1;omega)]at h9
       exact h9
   ·have ht1:(tn.toList==ow.toList)=false:=by
     cases hq:(tn.toList==ow.toList) with
     | false=>rfl
     | true=>
      refine absurd ?_ hto
      have h9:=eq_of_beq hq
      rw[ByteArray.toList_eq,ByteArray.toList_eq]at h9
      exact ByteArray.ext (Array.toList_inj.1 h9)
    rw[if_neg hto,if_neg hto]at HBN
    clear hto
    go_wp2_with (first
     | (with_reducible refine at_alloc 83 7 ?_;refine wpl_alloc 83 _ Tryz.zeroArc ?_;intro w3 g3 hB3 hk3 hg3 hl3;have HB3:=hid hB3;have HK3:=hid hk3;clear hB3 hk3)
     | (with_reducible refine at_store 83 7 ?_;refine wpl_store 83 3 Tryz.sizeArc rfl (cells:=[.string tn,.string ar,.slice xa le xc]) rfl HB3.out rfl rfl (by simp[Value.oneCell']) ?_;intro w4 hB4 hk4 hs4;have HK4:Hid (Same wr w4):=hid (HK3.out.then hk4 (fun x hx e=>by omega));have f0:=hB4.cell 0;simp only[List.getElem?_toArray,List.getElem?_cons_zero]at f0;clear hB4 hk4 hs4 HB3 HK3))
    go_roundg (gk-1)
    case measure=>omega
    case rel=>exact⟨i+1,by omega,by omega,by go_num,hid (by rw[HBN.out.1,HBN.out.2];exact HI.out.same HK4.out)⟩
  ·have hin:i=nA:=by omega
   have HE:Hid (UseI w2 wr u (useB ow (adD As)) (useN ow (adD As))):=hid (by
    have h9:=HI.out
    rw[List.take_of_length_le (by have:=HIS.out.2.2.2;omega)]at h9
    exact h9)
   obtain⟨B0,hB0⟩:∃b,b=useB ow (adD As):=⟨_,rfl⟩
   obtain⟨N0,hN0⟩:∃b,b=useN ow (adD As):=⟨_,rfl⟩
   rw[←hB0,←hN0]at HE
   have HRB:Hid (Blk wr rb #[.int .i64 0,.int .i64 0] 78):=hid ((((HBR.out.kept HKA.out (fun f=>f)).kept HK2.out (fun f=>f)).kept HE.out.2 (by have:=HLU.out;omega)))
   have HKE:Hid (Same w wr):=hid ((HKW.out.trans HK2.out).then HE.out.2 (fun k hk e=>by have:=HKR.out.size;have:=HLU.out;omega))
   have HBU:Hid (Blk wr u #[.int .i64 (wr14 B0),.int .i64 (wr14 N0)] 78):=hid HE.out.1
   have hq:¬i<nA:=hlt
   go_wp2_with (first
    | (with_reducible refine at_load 78 44 ?_;refine wpl_load 78 2 _ Tryz.underlying78 rfl Tryz.sizeUs rfl HBU.out [.int .i64 (wr14 B0),.int .i64 (wr14 N0)] (by simp) (by simp) ?_)
    | (with_reducible refine at_store 78 4 ?_;refine wpl_store 78 2 Tryz.sizeUs rfl (cells:=[.int .i64 (wr14 B0),.int .i64 (wr14 N0)]) rfl HRB.out rfl rfl (by simp[Value.oneCell']) ?_;intro w4 hB4 hk4 hs4;have HB4:=hid hB4;have HK4:=hid hk4;clear hB4 hk4))
   refine bodyPost_ret (v:=.agg #[.int .i64 (wr14 B0),.int .i64 (wr14 N0)]) (by rw[results_cell15 rfl 2 _ Tryz.underlying78 rfl Tryz.sizeUs _ rfl HB4.out rfl]) rfl ?_
   exact⟨adD As,HIS.out.1,by rw[hB0,hN0],HKE.out.then HK4.out (fun k hk e=>by omega)⟩

end Go.Proofs.YtcfociogljhbiaaGreatDoor

namespace Go.Proofs.YtcfociogljhbiaaGreatDoor
open Go.RowKit Go.Maps Go.Sort Go.Shelf

def useE(es:List Et)(tn:ByteArray):Nat×Nat:=es.foldl (fun u x=>if x.b.tn=tn then(u.1+x.d.size,u.2+1)else u) (0,0)

theorem useE_take(es:List Et)(tn:ByteArray)(i:Nat)(hi:i<es.length):useE (es.take (i+1)) tn=if es[i].b.tn=tn then((useE (es.take i) tn).1+es[i].d.size,(useE (es.take i) tn).2+1)else useE (es.take i) tn:=by
 unfold useE
 rw[List.take_succ_eq_append_getElem hi,List.foldl_append]
 rfl

set_option maxRecDepth 100000 in
set_option maxHeartbeats 1000000 in
theorem ruse14(w:World)(N:Nat)(a:Option Addr)(n c:Nat)(es:List Et)(h:RowC N 150 4 etE w (.slice a n c) es)(hn:n≤1000000)(hd:∀x∈es,x.d.size≤100000)(tn:ByteArray):Calls Tryz.prog 54 #[.slice a n c,.string tn] w fun e w'=>e=.returned (.agg #[.int .i64 ((useE es tn).1:Nat),.int .i64 ((useE es tn).2:Nat)])∧Same w w':=by
 have HR:=hid h
 have HN:Hid (n=es.length∧n≤1000000):=hid ⟨by obtain⟨a',c',e,_⟩:=h.shape;injection e,hn⟩
 have HD:=hid hd
 clear h hn hd
 go_enter Tryz.func54,Tryz.ntmps54
 go_wp2_with fail
 obtain⟨w1,hw1⟩:∃W,W=(w.alloc (.cells #[.int .i64 0,.int .i64 0] 78)).alloc (.cells #[.int .i64 0,.int .i64 0] 78):=⟨_,rfl⟩
 obtain⟨g,hg⟩:∃g,g=w.heap.size+1:=⟨_,rfl⟩
 obtain⟨gr,hgr⟩:∃g,g=w.heap.size:=⟨_,rfl⟩
 have HB1:Hid (Blk w1 g #[.int .i64 0,.int .i64 0] 78∧Same w w1∧g=w.heap.size+1):=hid (by
  rw[hw1,hg]
  have h9:=Blk.new (w.alloc (.cells #[.int .i64 0,.int .i64 0] 78)) #[.int .i64 0,.int .i64 0] 78
  rw[World.size_alloc]at h9
  exact⟨h9,((Kept.refl _ w).alloc _).alloc _,rfl⟩)
 have HBR:Hid (Blk w1 gr #[.int .i64 0,.int .i64 0] 78∧gr=w.heap.size∧gr≠g):=hid ⟨by rw[hw1,hgr];exact(Blk.new w _ _).kept (F:=fun _=>False) ((Kept.refl _ _).alloc _) (fun f=>f),hgr,by omega⟩
 rw[←hw1,←hg,←hgr]
 clear hw1 hg hgr
 go_loopg [6] n (fun q z wr=>∃i:Nat,z=.int .i64 (i:Nat)∧i≤n∧n-i≤q∧Hid (Blk wr g #[.int .i64 ((useE (es.take i) tn).1:Nat),.int .i64 ((useE (es.take i) tn).2:Nat)] 78∧Kept (·=g) w1 wr∧(useE (es.take i) tn).1≤i*100000∧(useE (es.take i) tn).2≤i))
 case atStart=>exact⟨0,rfl,by omega,by omega,hid ⟨HB1.out.1,Kept.refl _ _,by rw[List.take_zero];exact Nat.zero_le _,by rw[List.take_zero];exact Nat.zero_le _⟩⟩
 case round=>
  obtain⟨i,rfl,hi,hiq,HI⟩:=hrel
  obtain⟨u0,hu0⟩:∃z,z=(useE (es.take i) tn).1:=⟨_,rfl⟩
  obtain⟨u1,hu1⟩:∃z,z=(useE (es.take i) tn).2:=⟨_,rfl⟩
  rw[←hu0,←hu1]at HI
  have HU:Hid (u0=(useE (es.take i) tn).1∧u1=(useE (es.take i) tn).2):=hid ⟨hu0,hu1⟩
  have g0:wr.cell? ⟨g,0,none⟩=some (.int .i64 (u0:Nat)):=HI.out.1.cell 0
  have g1:wr.cell? ⟨g,1,none⟩=some (.int .i64 (u1:Nat)):=HI.out.1.cell 1
  have z0:=HI.out.1.frozen 0
  have z1:=HI.out.1.frozen 1
  clear hu0 hu1
  by_cases hlt:i<n
  ·have f1:decide ((i:Int)<(n:Int))=true:=by simp;omega
   have f2:decide (i<n)=true:=by simp;omega
   have hix:i<es.length:=by rw[←HN.out.1];exact hlt
   obtain⟨b,rfl,r0,r3⟩:∃g,a=some ⟨g,0,none⟩∧wr.cell? ⟨g,i*4,none⟩=some (.string es[i].b.tn)∧wr.cell? ⟨g,i*4+3,none⟩=some (.string es[i].d):=by
    have hr:=(HR.out.kept HB1.out.2.1 (fun _ _ f=>f)).kept HI.out.2.1 (fun j hj e=>by have:=(World.ownsRow.lt HR.out j hj).2;have:=HB1.out.2.2;omega)
    obtain⟨ao,cp,e,hag,_⟩:=hr.shape
    obtain⟨g,rfl⟩:=hag (by rintro rfl;simp at hix)
    injection e with e1 _ _
    subst e1
    exact⟨g,rfl,RowC.cell etE_ok hr i 0 hix (by decide),RowC.cell etE_ok hr i 3 hix (by decide)⟩
   have HTK:=hid (useE_take es tn i hix)
   have HDX:Hid (es[i].d.size≤100000):=hid (HD.out _ (List.getElem_mem _))
   obtain⟨x,hx⟩:∃x,x=es[i]:=⟨_,rfl⟩
   rw[←hx]at r0 r3 HTK HDX
   have c1:(0:Int)≤(i:Int):=by omega
   have c2:(i:Int)<(n:Int):=by omega
   have hiw:IntKind.i64.wrap ((i:Int)+1)=((i+1:Nat):Int):=by rw[IntKind.wrap_i64];have:=HN.out;omega
   have hw0:IntKind.i64.wrap ((u0:Int)+(x.d.size:Int))=((u0+x.d.size:Nat):Int):=by rw[IntKind.wrap_i64];have:=HN.out;have:=HI.out.2.2;have:=HDX.out;omega
   have hw1:IntKind.i64.wrap ((u1:Int)+1)=((u1+1:Nat):Int):=by rw[IntKind.wrap_i64];have:=HN.out;have:=HI.out.2.2;omega
   have s1:=streq14 x.b.tn tn
   have HLT:=hid hlt
   clear hlt hix hx
   by_cases he:x.b.tn=tn
   ·rw[decide_eq_true he]at s1
    rw[if_pos he,←HU.out.1,←HU.out.2]at HTK
    clear he
    go_wp2_with fail
    go_region_with (fail)
    all_goals go_wp2_with fail
    all_goals
     have HS2:Hid (Blk ((wr.setCell ⟨g,0,none⟩ (.int .i64 ((u0+x.d.size:Nat):Int))).setCell ⟨g,1,none⟩ (.int .i64 ((u1+1:Nat):Int))).drew g #[.int .i64 ((u0+x.d.size:Nat):Int),.int .i64 ((u1+1:Nat):Int)] 78∧Kept (·=g) wr ((wr.setCell ⟨g,0,none⟩ (.int .i64 ((u0+x.d.size:Nat):Int))).setCell ⟨g,1,none⟩ (.int .i64 ((u1+1:Nat):Int))).drew):=hid (by
      obtain⟨h8,h9⟩:=set2 (x0:=.int .i64 ((u0+x.d.size:Nat):Int)) (x1:=.int .i64 ((u1+1:Nat):Int)) HI.out.1
      exact⟨h8,Kept.trans h9 (show Same _ _ from(Kept.refl _ _).drew) (fun _ _ e=>e) (fun _ _ f=>f.elim)⟩)
     rw[show((u0+x.d.size:Nat):Int)=(u0:Int)+(x.d.size:Int)from by omega,show((u1+1:Nat):Int)=(u1:Int)+1 from by omega]at HS2
     go_roundg (gk-1)
     case measure=>have:=HLT.out;omega
     case rel=>exact⟨i+1,by go_num,HLT.out,by omega,hid (by
      rw[HTK.out]
      refine⟨by simpa using HS2.out.1,Kept.trans HI.out.2.1 HS2.out.2 (fun _ _ e=>e) (fun _ _ e=>e),?_,?_⟩
      ·have:=HI.out.2.2;have:=HDX.out;show u0+x.d.size≤(i+1)*100000;omega
      ·have:=HI.out.2.2;show u1+1≤i+1;omega)⟩
   ·rw[decide_eq_false he]at s1
    rw[if_neg he]at HTK
    clear he
    go_wp2_with fail
    go_roundg (gk-1)
    case measure=>have:=HLT.out;omega
    case rel=>exact⟨i+1,by go_num,HLT.out,by omega,hid (by rw[HTK.out,←HU.out.1,←HU.out.2];exact⟨HI.out.1,HI.out.2.1,by have:=HI.out.2.2;omega,by have:=HI.out.2.2;omega⟩)⟩
  ·have f1:decide ((i:Int)<(n:Int))=false:=by simp;omega
   have f2:decide (i<n)=false:=by simp;omega
   have HZ:Hid (u0=(useE es tn).1∧u1=(useE es tn).2):=hid (by
    have h9:=HU.out
    rw[List.take_of_length_le (show es.length≤i by have:=HN.out;omega)]at h9
    exact h9)
   have HG:Hid (Blk wr gr #[.int .i64 0,.int .i64 0] 78):=hid (HBR.out.1.kept HI.out.2.1 (fun e=>HBR.out.2.2 e))
   have y2:wr.cell? ⟨gr,0,none⟩=some (.int .i64 0):=HG.out.cell 0
   have y3:wr.cell? ⟨gr,1,none⟩=some (.int .i64 0):=HG.out.cell 1
   have y0:=HG.out.frozen 0
   have y1:=HG.out.frozen 1
   clear hlt
   go_wp2_with fail
   obtain⟨W9,hW9⟩:∃W,W=(wr.setCell ⟨gr,0,none⟩ (.int .i64 (u0:Nat))).setCell ⟨gr,1,none⟩ (.int .i64 (u1:Nat)):=⟨_,rfl⟩
   obtain⟨h8,h9⟩:=set2 (x0:=.int .i64 (u0:Nat)) (x1:=.int .i64 (u1:Nat)) HG.out
   rw[←hW9]at h8 h9 ⊢
   have HK9:Hid (Same w W9):=hid (Kept.trans (Kept.trans HB1.out.2.1 HI.out.2.1 (H:=fun k=>k=g∨k=gr) (fun _ _ f=>f.elim) (fun _ _ e=>.inl e)) h9 (fun k hk e=>by have:=HB1.out.2.2;have:=HBR.out.2.1;rcases e with e | e<;>omega) (fun k hk e=>by have:=HBR.out.2.1;omega))
   refine bodyPost_ret (results_cell15 (cs:=[.int .i64 (u0:Nat),.int .i64 (u1:Nat)]) rfl 2 _ Tryz.underlying78 rfl (by kernel_rfl) _ rfl h8 rfl) rfl ?_
   exact⟨by rw[HZ.out.1,HZ.out.2],HK9.out⟩

end Go.Proofs.YtcfociogljhbiaaGreatDoor

namespace Go.Proofs.YtcfociogljhbiaaGreatDoor
open Go.RowKit Go.Maps Go.Sort Go.Shelf

def NewM(K:Nat)(M:Mst)(w:World)(e:Ending)(w':World):Prop:=∃N p c τ,e=.returned (.tuple #[.pointer (some ⟨p,0,none⟩),.int .i64 0])∧w.heap.size≤N∧Tk K N w' p M 0 c τ∧c.L=[]∧c.cl=[]∧(∀k,k<w.heap.size→τ k=0)∧Same w w'

theorem new_doneL{K:Nat}{M:Mst}(hKb:K≤100000){w w2 w3 w':World}{N ps p mo:Nat}{ρ ρ':Nat→Nat}(hN:w.heap.size≤N)(hN2:N≤w2.heap.size)(hs:Sto K N w' ps M ρ')(hx:ExtC w3 ρ ρ')(hz:∀k,w2.heap.size≤k→ρ k=0)(hm:MpK 3 ptC kI w3 mo [])(hmo:w2.heap.size≤mo)(hb:Blk w3 p #[.pointer (some ⟨ps,0,none⟩),.int .i64 0,.map (some mo),.slice none 0 0] 91)(hp:mo<p)(hpl:p<w3.heap.size)(hk:Kept (fun k=>ρ k≠0) w3 w')(hw:w.heap.size≤w2.heap.size)(hw3:Same w w3)(hl:∀k,k<w.heap.size→ρ k=0):NewM K M w (.returned (.tuple #[.pointer (some ⟨p,0,none⟩),.int .i64 0])) w':=by
 have hnp:¬ρ p≠0:=fun e=>e (hz p (by omega))
 have hnm:¬ρ mo≠0:=fun e=>e (hz mo hmo)
 have hp3:ρ' p=0:=by
  rcases hx p with e | e
  ·rw[e];exact hz p (by omega)
  ·omega
 have hm3:ρ' mo=0:=by
  rcases hx mo with e | e
  ·rw[e];exact hz mo hmo
  ·omega
 have hnew:∀k,ρ' k≠0→N≤k∧k<w'.heap.size:=fun k e=>by
  obtain⟨s,mb,hck,_⟩:=hs
  exact hck.new k e
 refine⟨N,p,⟨ps,ρ',mo,[],fun _=>⟨⟨#[]⟩,by decide⟩,fun _=>0,fun _ _=>False,fun _=>mv0 0,.slice none 0 0,[]⟩,fun k=>if k=p then 1 else if k=mo then 2 else if ρ' k≠0 then 3 else 0,rfl,hN,?_,rfl,rfl,fun k hk2=>?_,?_⟩
 ·refine {blk:=hb.kept hk hnp,sto:=hs,om:=hm.kept hk hnm,tb:=fun x hx=>(by cases hx),ts:=fun x hx=>(by cases hx),cr:=RowC.nil,cw:=fun y hy=>(by cases hy),inj:=fun x hx=>(by cases hx),r1:=if_pos rfl,r2:=?_,r3:=fun k e=>?_,r4:=fun k e=>(by cases e),r5:=fun y hy=>(by cases hy),r6:=fun x hx=>(by cases hx),r7:=fun x hx=>(by cases hx),new:=fun k e=>?_,key:=fun x hx=>(by cases hx),num:=⟨by omega,by omega⟩,lens:=⟨by simp,by simp⟩,big:=hKb}
  ·show(if mo=p then 1 else if mo=mo then 2 else if ρ' mo≠0 then 3 else 0)=2
   rw[if_neg (by omega),if_pos rfl]
  ·have e':ρ' k≠0:=e
   show(if k=p then 1 else if k=mo then 2 else if ρ' k≠0 then 3 else 0)=3
   rw[if_neg (fun q=>e' (by rw[q];exact hp3)),if_neg (fun q=>e' (by rw[q];exact hm3)),if_pos e']
  ·have hks:=hk.size
   by_cases e1:k=p
   ·subst e1;omega
   ·by_cases e2:k=mo
    ·subst e2;omega
    ·by_cases e3:ρ' k≠0
     ·exact hnew k e3
     ·simp only[if_neg e1,if_neg e2,if_neg e3]at e
      exact absurd rfl e
 ·have e3:¬ρ' k≠0:=fun e=>by have:=(hnew k e).1;omega
  show(if k=p then 1 else if k=mo then 2 else if ρ' k≠0 then 3 else 0)=0
  rw[if_neg (by omega),if_neg (by omega),if_neg e3]
 ·exact hw3.then hk (fun k hk2 e=>e (hl k hk2))

set_option maxRecDepth 100000 in
set_option maxHeartbeats 2000000 in
theorem tnew_good(w:World)(ao:Option Addr)(n c:Nat)(As:List Ad)(t:Int)(h:ArcI w (fun k=>k<w.heap.size) (.slice ao n c) As)(hX:Mxl w)(hn:n≤4096)(ht:0≤t∧t≤1000000000)(hc:ckL bx0 0 0 As=0)(hl:(wrsOf14 As).length≤30000)(hs:∀x∈As,x.es.length≤64∧∀e∈x.es,e.2.size≤8192):Calls Tryz.prog 10 #[.slice ao n c,.int .i64 t] w fun e w'=>NewM (3*(wrsOf14 As).length) (putM ⟨0,0,fun _ _=>[]⟩ (t+1) (wrsOf14 As)) w e w':=by
 have HA:=hid h
 have HX:=hid hX
 have HSS:=hid hs
 have HAT:Hid (n≤1000000∧(0≤t∧t≤1000000000)∧ckL bx0 0 0 As=0∧(wrsOf14 As).length≤30000∧n≤4096):=hid ⟨by omega,ht,hc,hl,hn⟩
 have d1:decide (t<0)=false:=decide_eq_false (by omega)
 have d2:decide ((1000000000:Int)<t)=false:=decide_eq_false (by omega)
 clear h hX hn ht hc hl hs
 have hmm:=@run_makeMap Tryz.prog
 go_enter Tryz.func10,Tryz.ntmps10
 go_wp2_with fail
 refine(scheck_any w ao n c As HA.out HX.out HAT.out.1).mono ?_
 rintro e w1 ⟨rfl,hk1⟩
 rw[HAT.out.2.2.1]
 have HK1:=hid hk1
 clear hk1
 go_wp2_with fail
 refine(xnew w1).mono ?_
 rintro e w2 ⟨ps,ρ,rfl,hs2,hz2,hk2⟩
 have H2:Hid (Sto 0 w1.heap.size w2 ps ⟨0,0,fun _ _=>[]⟩ ρ∧(∀k,k<w1.heap.size→ρ k=0)∧Same w1 w2):=hid ⟨hs2,hz2,hk2⟩
 clear hs2 hz2 hk2
 obtain⟨wA,hwA⟩:∃W,W=w2.alloc (.map #[] 0):=⟨_,rfl⟩
 obtain⟨mo,hmo⟩:∃x,x=w2.heap.size:=⟨_,rfl⟩
 have HM:Hid (MpK 3 ptC kI wA mo []∧Same w2 wA∧mo<wA.heap.size∧mo=w2.heap.size):=hid ⟨by rw[hwA,hmo];exact MpK.new w2,by rw[hwA];exact(Kept.refl _ w2).alloc _,by rw[hwA,hmo];simp,hmo⟩
 go_wp2_with (with_reducible refine at_box 91 ?_;rw[←hwA,←hmo];refine wpl_box 91 #[.pointer (some ⟨ps,0,none⟩),.int .i64 0,.map (some mo),.slice none 0 0] rfl ?_;intro w3 p hB3 hk3 hg3 hl3;have HB3:=hid hB3;have HK3:=hid hk3;clear hB3 hk3)
 have p0:w3.cell? ⟨p,0,none⟩=some (.pointer (some ⟨ps,0,none⟩)):=HB3.out.cell 0
 have HBE:Hid (∀w',Calls Tryz.prog 37 #[.int .i64 t] w' fun e w2=>e=.returned (.int .i64 (t+1))∧Same w' w2):=hid (fun w'=>(behind_any w' t (by have:=HAT.out.2.1;omega)).mono (fun e w2 h9=>⟨h9.1,by rw[h9.2];exact Kept.refl _ _⟩))
 have HPU:Hid (∀w' v,Same w3 w'→RowC w3.heap.size 65 5 wrE w' v (wrsOf14 As)→Calls Tryz.prog 36 #[.pointer (some ⟨ps,0,none⟩),.agg #[.int .i64 (t+1),v]] w' fun e w2=>e=.returned (.int .i64 0)∧w2.cell? ⟨p,0,none⟩=some (.pointer (some ⟨ps,0,none⟩))∧NewM (3*(wrsOf14 As).length) (putM ⟨0,0,fun _ _=>[]⟩ (t+1) (wrsOf14 As)) w (.returned (.tuple #[.pointer (some ⟨p,0,none⟩),.int .i64 0])) w2):=hid (fun w' v hk hrow=>by
  obtain⟨h1,h2,h3⟩:=H2.out
  obtain⟨m1,m2,m3,m4⟩:=HM.out
  have hk23:Same w2 w3:=m2.trans HK3.out
  have hzz:∀k,w2.heap.size≤k→ρ k=0:=fun k hk2=>by
   cases hz:ρ k with
   | zero=>rfl
   | succ z=>
    obtain⟨s,mb,hck,_⟩:=h1
    have:=(hck.new k (by omega)).2
    omega
  refine(xput_new (h1.same (hk23.trans hk)) (Nat.le_trans (Nat.le_trans h3.size hk23.size) hk.size) (t+1) (by show(0:Int)<t+1;have:=HAT.out.2.1;omega) (by have:=HAT.out.2.1;omega) (wrsOf14 As) v _ (SrcC.ofRow wrE_ok hrow) (fun j hj=>hzz j (by have:=hrow.ge hj;have:=hk23.size;omega)) (by have:=HAT.out.2.2.2.1;omega)).mono ?_
  rintro e w4 ⟨rfl,ρ',g1,g2,g3⟩
  have hpb:=HB3.out.kept hk (fun f=>f)
  have hpz:¬ρ p≠0:=fun e=>e (hzz p (by omega))
  refine⟨rfl,(hpb.kept g3 hpz).cell 0,?_⟩
  rw[Nat.zero_add]at g1
  exact new_doneL (by have:=HAT.out.2.2.2.1;omega) (w:=w) (w2:=w2) (w3:=w') (N:=w1.heap.size) HK1.out.size h3.size g1 g2 hzz ((m1.kept HK3.out (fun f=>f)).kept hk (fun f=>f)) (by omega) hpb (by omega) hpb.lt g3 (Nat.le_trans HK1.out.size h3.size) (((HK1.out.trans h3).trans hk23).trans hk) (fun k hk2=>h2 k (Nat.lt_of_lt_of_le hk2 HK1.out.size)))
 have HWO:Hid (∀w',Same w3 w'→Calls Tryz.prog 38 #[.slice ao n c] w' fun e w2=>∃a m q,e=.returned (.slice a m q)∧RowC w3.heap.size 65 5 wrE w2 (.slice a m q) (wrsOf14 As)∧Same w' w2):=hid (fun w' hk=>by
  have hka:Same w w':=((HK1.out.trans H2.out.2.2).trans (HM.out.2.1.trans HK3.out)).trans hk
  refine(writesOf_any w' ao n c As ⟨HA.out.1.kept adE_ok hka (fun _ _ _ f=>f) |>.mono (fun k hk9=>Nat.lt_of_lt_of_le hk9 hka.size),fun x hx=>((HA.out.2 x hx).kept enE2_ok hka (fun _ _ _ f=>f)).mono (fun k hk9=>Nat.lt_of_lt_of_le hk9 hka.size)⟩ HSS.out HAT.out.2.2.2.2).mono ?_
  rintro e w2 ⟨v,rfl,hr,hk9⟩
  obtain⟨a,q,e,_⟩:=hr.shape
  exact⟨a,_,q,by rw[e],by rw[←e];exact hr.base hk.size,hk9⟩)
 have HKK:Hid (Same w3 w3):=hid (Kept.refl _ _)
 clear hwA hmo hmm H2 HM
 go_region_held3 (fun w'=>w'.cell? ⟨p,0,none⟩=some (.pointer (some ⟨ps,0,none⟩)))
  (first
   | exact hcl
   | exact hkc.cell (by assumption) (fun f=>f)
   | go_keep)
  (first
   | (go_at_call 37;refine(HBE.out _).mono ?_;rintro e wk ⟨rfl,hkc⟩;have HKK:Hid (Same w3 wk):=hid (by first | exact HKK.out.trans hkc | exact HKK.out.trans (Kept.undrewC hkc));try (have HRW:=hid (HRW.out.kept (by first | exact hkc | exact Kept.undrewC hkc) (fun _ _ f=>f))))
   | (go_at_call 38;refine(HWO.out _ (by first | exact HKK.out | exact HKK.out.drew)).mono ?_;rintro e wk ⟨va,vm,vq,rfl,hrw,hkc⟩;have HRW:=hid hrw;clear hrw;have HKK:Hid (Same w3 wk):=hid (by first | exact HKK.out.trans hkc | exact HKK.out.trans (Kept.undrewC hkc)))
   | (go_at_call 36;refine(HPU.out _ _ (by first | exact HKK.out | exact HKK.out.drew) (by first | exact HRW.out | exact HRW.out.kept (show Same _ _ from(Kept.refl _ _).drew) (fun _ _ f=>f))).mono ?_;rintro e wk ⟨rfl,hcl,hP⟩;have HP:=hid hP;clear hP))
 all_goals
  go_wp2_with fail
  go_ret2
  exact HP.out

set_option maxRecDepth 100000 in
set_option maxHeartbeats 2000000 in
theorem tnew_bad(w:World)(ao:Option Addr)(n c:Nat)(As:List Ad)(t:Int)(h:ArcI w (fun k=>k<w.heap.size) (.slice ao n c) As)(hX:Mxl w)(hn:n≤4096)(hb:t<0∨1000000000<t∨ckL bx0 0 0 As≠0):Calls Tryz.prog 10 #[.slice ao n c,.int .i64 t] w fun e w'=>e=.returned (.tuple #[.pointer none,.int .i64 1])∧Same w w':=by
 by_cases h1:t<0
 ·have d1:decide (t<0)=true:=decide_eq_true h1
  clear h hX hn hb h1
  go_enter Tryz.func10,Tryz.ntmps10
  go_wp2_with fail
  go_ret2
  exact⟨rfl,Kept.refl _ _⟩
 have d1:decide (t<0)=false:=decide_eq_false h1
 by_cases h2:1000000000<t
 ·have d2:decide ((1000000000:Int)<t)=true:=decide_eq_true h2
  clear h hX hn hb h1 h2
  go_enter Tryz.func10,Tryz.ntmps10
  go_wp2_with fail
  go_ret2
  exact⟨rfl,Kept.refl _ _⟩
 have d2:decide ((1000000000:Int)<t)=false:=decide_eq_false h2
 have hc:ckL bx0 0 0 As≠0:=by
  rcases hb with e | e | e
  ·exact absurd e h1
  ·exact absurd e h2
  ·exact e
 have d3:(ckL bx0 0 0 As != 0)=true:=by simpa[bne]using hc
 have HC:=scheck_any w ao n c As h hX (by omega)
 clear h hX hn hb h1 h2 hc
 go_enter Tryz.func10,Tryz.ntmps10
 go_wp2_with fail
 refine HC.mono ?_
 rintro e w1 ⟨rfl,hk1⟩
 have HK1:=hid hk1
 clear HC hk1
 go_wp2_with fail
 go_ret2
 exact⟨rfl,HK1.out⟩

end Go.Proofs.YtcfociogljhbiaaGreatDoor
