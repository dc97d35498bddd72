/-
  Of the proof: parts DfBakLaw.
-/
import Derived.Laws.StructEq
import Derived.BigQuiet
import Derived.Test.YtggcbnhckcenmaaGreatDoorJ37
import Derived.Test.YtggcbnhckcenmaaGreatDoorJ9
import Derived.Test.YtggcbnhckcenmaaGreatDoorJ7
import Derived.Test.YtggcbnhckcenmaaGreatDoorJ6
import Derived.Test.YtggcbnhckcenmaaGreatDoorJ20
import Derived.Test.YtggcbnhckcenmaaGreatDoorJ12
import Derived.Test.YtggcbnhckcenmaaGreatDoorJ11
import Derived.Test.YtggcbnhckcenmaaGreatDoorJ3
import Derived.Test.YtggcbnhckcenmaaGreatDoorJ13
import Derived.Test.YtggcbnhckcenmaaGreatDoorJ19
import Derived.Test.YtggcbnhckcenmaaGreatDoorJ39

namespace Go.Proofs.YtggcbnhckcenmaaGreatDoor
open Go.RowKit

theorem Row.lenCap7{w:World}{a:Option Addr}{n c:Nat}{bs:List Nat}(h:Row w (.slice a n c) bs):n≤c:=by
 rcases h.2 with⟨e,_⟩ | ⟨g,cp,cu,e,_,_,h1,_⟩
 ·simp only[Value.slice.injEq]at e;omega
 ·simp only[Value.slice.injEq]at e;omega

set_option maxRecDepth 100000 in
set_option maxHeartbeats 1000000 in
theorem dback_good(W:World)(a sa:Option Addr)(len cap sl sc:Nat)(bs:List Nat)(sz:List Int)(hs:Src W (fun j=>j<W.heap.size) (.slice a len cap) bs)(hl:bs.length=len)(hb:∀x∈bs,x<256)(hn:∀n c,Value.slice a len cap=.slice none n c→n=0∧c=0)(hss:SrcE intV W (fun j=>j<W.heap.size) (.slice sa sl sc) sz)(hls:sz.length=sl)(hlen:len≤16384)(hsl:sl≤100)(hT:Tab W):
  Calls Tryz.prog 7 #[.slice a len cap,.slice sa sl sc] W fun e w'=>e=.returned (.bool true)∧Same W w':=by
 have HI:=deflate_any W (.slice a len cap) _ bs hs hb hn (by omega) hT
 have b1:decide ((65536:Int)<(len:Int))=false:=by simp;omega
 have b2:decide ((100:Int)<(sl:Int))=false:=by simp;omega
 have HT:Hid (Tab W):=hT
 have HS:Hid (Src W (fun j=>j<W.heap.size) (.slice a len cap) bs):=hs
 have HSZ:Hid (SrcE intV W (fun j=>j<W.heap.size) (.slice sa sl sc) sz∧sz.length=sl):=hid ⟨hss,hls⟩
 have HL:Hid (bs.length=len):=hl
 have HB:Hid (∀x∈bs,x<256):=hb
 clear hs hss hl hls hb hn hT
 go_enter Tryz.func7,Tryz.ntmps7
 go_wp2_with fail
 refine HI.mono ?_
 rintro x w1 ⟨v2,y,rfl,hn2,hp2⟩
 obtain⟨t0,he0,ho0,hc0⟩:=hp2.reads HB.out (most:=len) (by rw[HL.out];exact Nat.le_refl _) hlen
 have HE0:Hid (Ends (ofBytes y) len ps0 t0 0∧t0.out=bs∧(t0.c+7) / 8=y.length):=hid ⟨he0,ho0,hc0⟩
 have hyl:=hp2.short.1
 rw[HL.out]at hyl
 have HYB:Hid (∀b∈y,b<256):=hid hn2.byte
 have HK1:Hid (Same W w1):=hid hn2.same
 have HRY:Hid (Row w1 v2 y):=hid hn2.row
 obtain⟨a2,c2,hv2,_⟩:=hn2.row.shape
 obtain⟨L,hL⟩:∃L,L=y.length:=⟨_,rfl⟩
 rw[←hL]at hv2 hyl
 subst hv2
 have HLY:Hid (L=y.length):=hL
 have hcapL:L≤c2:=hn2.row.lenCap7
 have HPI:=pinfl_any w1 (.slice a2 L c2) _ y len (Src.ofRow hn2.row) HYB.out (Row.nil5 hn2.row) (by rw[←hL];omega) hlen (HT.out.kept HK1.out (fun f=>f))
 clear hn2 hp2 HI hL he0 ho0 hc0 b1 b2
 go_wp2_with fail
 refine HPI.mono ?_
 rintro x w2 hi
 obtain⟨v3,rfl,hr3,_,hk3⟩:=hi.is HE0.out.1
 rw[HE0.out.2.1]at hr3
 rw[HE0.out.2.2,←HLY.out]
 have HK2:Hid (Same w1 w2):=hk3
 have HR3:Hid (Row w2 v3 bs):=hr3
 obtain⟨a3,c3,hv3,_⟩:=hr3.shape
 rw[HL.out]at hv3
 subst hv3
 have HNW:=pnewS_good w2 len hlen
 clear hi hr3 hk3 HPI
 go_wp2_with fail
 refine HNW.mono ?_
 rintro x w3 ⟨rfl,hsm3,hk3⟩
 have HK3:Hid (Same w2 w3):=hk3
 obtain⟨N,hNN⟩:∃N,N=w2.heap.size:=⟨_,rfl⟩
 obtain⟨F0,hst0⟩:=StI.new w2 w3 len hlen hsm3 (HT.out.kept (Same.trans HK1.out HK2.out) (fun f=>f)) hk3
 have HKB:=keepBytes_same w3 (.slice a3 len c3) (.slice a len cap) _ _ bs (Src.ofRow (HR3.out.kept hk3 (fun _ _ f=>f))) (HS.out.kept (Same.trans HK1.out (Same.trans HK2.out hk3)) (fun _ _ _ f=>f)) (by rw[HL.out];omega)
 rw[←hNN]at hst0 ⊢
 have HON:Hid (0<N∧w2.heap.size≤N):=hid ⟨by have:=HT.out.lt;have:=HK1.out.size;have:=HK2.out.size;omega,by omega⟩
 have HST0:Hid (StI N w3 N len [] ps0 55 F0):=hst0
 clear hsm3 hk3 hst0 hNN HNW HR3
 go_wp2_with fail
 refine HKB.mono ?_
 rintro x w4 ⟨rfl,hk4⟩
 have HT0:Hid (Told N w4 N len (y.take 0) [] (.slice none 0 0) ps0 55 F0):=hid ⟨by rw[List.take_zero];exact HST0.out.kept hk4 (fun _ _ f=>f) (fun f=>f),World.ownsRow_nil w4 0 5 1,fun _=>rfl,Nat.zero_le _,fun k e=>by cases e⟩
 have HK4:Hid (Same w2 w4):=hid (Same.trans HK3.out hk4)
 clear hk4 HKB HST0 HK3
 go_wp2_with fail
 go_loopg [12,13,14] (sl+1) (fun qq z12 z13 z14 wr=>∃(i at':Nat) (all:List Nat) (t:Ps) (er':Nat) (F:Nat→Prop),z13=.int .i64 (at':Nat)∧z14=.int .i64 (i:Nat)∧i≤sl+1∧sl+1-i≤qq∧at'≤L∧(i=sl+1→at'=L)∧Hid (Told N wr N len (y.take at') all z12 t er' F)∧Hid (Same w2 wr))
 case atStart=>exact⟨0,0,[],ps0,55,F0,rfl,rfl,by omega,by omega,by omega,fun h9=>by omega,HT0,HK4⟩
 case round=>
  clear HT0 HK4
  obtain⟨i,at',all,t,er',F,rfl,rfl,hi1,hiq,hat,hend,HTO,HKi⟩:=hrel
  obtain⟨va,hva⟩:∃va,va=u12:=⟨_,rfl⟩
  rw[←hva]at HTO ⊢
  clear hva
  by_cases hi:i≤sl
  ·have y1:decide ((i:Int)≤(sl:Int))=true:=by simp;omega
   have HIL:Hid (i≤sl):=hi
   have HRYr:Hid (Row wr (.slice a2 L c2) y):=hid (HRY.out.kept (Same.trans HK2.out HKi.out) (fun _ _ f=>f))
   have HFD:Hid (∀(e1:Nat) (a':Option Addr) (c':Nat),at'≤e1→e1≤y.length→(at'<e1→∃b o,a2=some ⟨b,o,none⟩∧a'=some ⟨b,o+at',none⟩)→(∀n c,Value.slice a' (e1-at') c'=.slice none n c→n=0∧c=0)→Calls Tryz.prog 29 #[.pointer (some ⟨N,0,none⟩),.slice a' (e1-at') c'] wr fun x w'=>∃u t' er2 F',FedA N wr w' N len (y.take at'++(y.drop at').take (e1-at')) t F x u t' er2 F'):=hid (fun e1 a' c' h1 h2 ha hnil=>stI_feed wr N len (y.take at') t er' F HTO.out.st _ _ _ (Src.part (Src.ofRow HRYr.out) h1 h2 ha) (fun b hb=>HYB.out b (List.mem_of_mem_drop (List.mem_of_mem_take hb))) hnil (by rw[List.length_take,List.length_take,List.length_drop];have:=HLY.out;omega) HON.out.1)
   have HAD:Hid (∀e1,at'<e1→e1≤y.length→∃b o,a2=some ⟨b,o,none⟩):=hid (fun e1 h8 h9=>by
    obtain⟨g9,hg9⟩:=HRYr.out.addr (fun e=>by rw[e]at h9;simp at h9;omega)
    exact⟨g9,0,hg9⟩)
   have HNB:Hid (∀n c,Value.slice a2 L c2=.slice none n c→n=0∧c=0):=hid (Row.nil5 HRYr.out)
   have HSZr:Hid (SrcE intV wr (fun j=>j<W.heap.size) (.slice sa sl sc) sz):=hid (HSZ.out.1.same (Same.trans HK1.out (Same.trans HK2.out HKi.out)))
   obtain⟨d,hd⟩:∃d,d=L-at':=⟨_,rfl⟩
   have hdI:(L:Int)-(at':Int)=(d:Int):=by omega
   have hdw:IntKind.i64.wrap (d:Int)=(d:Int):=by rw[IntKind.wrap_i64];omega
   have HENDS:Hid (∀(P rest:List Nat) (t4:Ps) (er4:Nat),P++rest=y→Ends (ofBytes P) len ps0 t4 er4→er4=0∨er4=55):=hid (fun P rest t4 er4 hP he=>by
    by_cases h55:er4=55
    ·exact .inr h55
    ·have h1:=ends_behind rest he h55
     rw[hP]at h1
     exact .inl (h1.det HE0.out.1).2)
   have hcase:∃e1:Nat,at'≤e1∧e1≤L∧((i<sl∧∃zn:Nat,∃b o:Nat,sa=some ⟨b,o,none⟩∧wr.cell? ⟨b,o+i,none⟩=some (.int .i64 (zn:Nat))∧zn≤d∧e1=at'+zn)∨(e1=L∧i<sl∧∃z:Int,∃b o:Nat,sa=some ⟨b,o,none⟩∧wr.cell? ⟨b,o+i,none⟩=some (.int .i64 z)∧(z<0))∨(e1=L∧i<sl∧∃z:Int,∃b o:Nat,sa=some ⟨b,o,none⟩∧wr.cell? ⟨b,o+i,none⟩=some (.int .i64 z)∧0≤z∧(d:Int)<z)∨(e1=L∧i=sl)):=by
    by_cases hisl:i<sl
    ·obtain⟨b,o,cap2,e2,_,_,cO⟩:=HSZr.out.get i (by rw[HSZ.out.2];exact hisl)
     simp only[Value.slice.injEq]at e2
     obtain⟨z,hz⟩:∃z,z=sz[i]'(by rw[HSZ.out.2];exact hisl):=⟨_,rfl⟩
     rw[←hz]at cO
     unfold intV at cO
     by_cases h3:z<0
     ·exact⟨L,hat,Nat.le_refl _,.inr (.inl ⟨rfl,hisl,z,b,o,e2.1,cO,h3⟩)⟩
     ·by_cases h4:(d:Int)<z
      ·exact⟨L,hat,Nat.le_refl _,.inr (.inr (.inl ⟨rfl,hisl,z,b,o,e2.1,cO,by omega,h4⟩))⟩
      ·obtain⟨zn,rfl⟩:∃k:Nat,z=(k:Int):=⟨z.toNat,by omega⟩
       exact⟨at'+zn,by omega,by omega,.inl ⟨hisl,zn,b,o,e2.1,cO,by omega,rfl⟩⟩
    ·exact⟨L,hat,Nat.le_refl _,.inr (.inr (.inr ⟨rfl,by omega⟩))⟩
   obtain⟨e1,h1e,he1,hcs⟩:=hcase
   have HE1:Hid (at'≤e1∧e1≤y.length∧e1≤L):=hid ⟨h1e,by rw[←HLY.out];exact he1,he1⟩
   have HLAST:Hid (i+1=sl+1→e1=L):=hid (fun h9=>by
    rcases hcs with⟨h8,_⟩ | ⟨h8,_⟩ | ⟨h8,_⟩ | ⟨h8,_⟩
    ·omega
    ·exact h8
    ·exact h8
    ·exact h8)
   have i1:(0:Int)≤(at':Int):=by omega
   have i2:(at':Int)≤(e1:Int):=by omega
   have i3:(e1:Int)≤(c2:Int):=by omega
   have i4:(at':Int)≤(c2:Int):=by omega
   rcases hcs with⟨hisl,zn,b,o,rfl,cO,hzn,he⟩ | ⟨he,hisl,z,b,o,rfl,cO,hz⟩ | ⟨he,hisl,z,b,o,rfl,cO,hz0,hz⟩ | ⟨he,hisl⟩
   all_goals first
    | (have heI:(at':Int)+(zn:Int)=(e1:Int):=by omega
       have hew:IntKind.i64.wrap (e1:Int)=(e1:Int):=by rw[IntKind.wrap_i64];omega
       clear he hd hi hend)
    | (have b3:decide ((0:Int)≤z)=false:=by simp;omega
       subst he
       clear hd hi hend)
    | (have b3:decide ((0:Int)≤z)=true:=by simp;omega
       have b4:decide (z≤(d:Int))=false:=by simp;omega
       subst he
       clear hd hi hend)
    | (have b5:decide ((i:Int)<(sl:Int))=false:=by simp;omega
       have b6:decide (i<sl)=false:=by simp;omega
       have hge:sl≤i:=by omega
       subst he
       clear hd hi hend hisl)
   all_goals
    go_wp2_with fail
   all_goals
    try
     have hcc:=h.symm
     subst hcc
    refine(HFD.out e1 _ _ HE1.out.1 HE1.out.2.1 ?_ ?_).mono ?_
    ·intro h9
     first
      | (exfalso;omega)
      | (obtain⟨b9,o9,hab⟩:=HAD.out e1 h9 HE1.out.2.1;exact⟨b9,o9,hab,by rw[hab];simp[addAt]⟩)
    ·intro n c e9
     first
      | (simp only[Value.slice.injEq]at e9;omega)
      | (cases a2 with
       | none=>have:=HNB.out _ _ rfl;omega
       | some x9=>simp at e9)
    rintro x w5 ⟨u,t4,er4,F4,hf4⟩
    have her:=HENDS.out _ (y.drop e1) t4 er4 (by rw[take_part y at' e1 HE1.out.1,List.take_append_drop]) hf4.st.ends
    have hx:=hf4.ret
    rw[show(if er4=55 then 0 else er4)=0 by rcases her with h9 | h9<;>simp[h9]]at hx
    subst hx
    obtain⟨p4,hp4⟩:∃p:List Nat,(if er4=0∨er4=55 then t4.out.drop t.out.length else [])=p:=⟨_,rfl⟩
    have hr4:=hf4.row
    rw[hp4]at hr4
    obtain⟨au,cu,hu,_⟩:=hr4.shape
    obtain⟨nu,hnu⟩:∃n,n=p4.length:=⟨_,rfl⟩
    rw[←hnu]at hu
    subst hu
    have HFA:Hid (∃x,FedA N wr w5 N len (y.take at'++(y.drop at').take (e1-at')) t F x (.slice au nu cu) t4 er4 F4):=hid ⟨_,hf4⟩
    have HSU:Hid (Src w5 (fun k=>(Value.slice au nu cu).ownBlock=some k) (.slice au nu cu) p4):=hid (Src.ofRow hr4)
    have HNU:Hid (∀n c,Value.slice au nu cu=.slice none n c→n=0∧c=0):=hid hr4.nil5
    have HVA4:Hid (Row w5 va all):=hid (HTO.out.row.kept hf4.kept (fun k e f9=>(HTO.out.own k e).2 f9))
    have HP4:Hid ((if er4=0∨er4=55 then t4.out.drop t.out.length else [])=p4):=hp4
    have hpl:p4.length≤16384:=by
     have h8:=(ends_in hf4.st.ends).2
     rw[←hp4,if_pos her,List.length_drop]
     omega
    have HLA:Hid (all.length+p4.length≤1000000000000):=hid (by have:=HTO.out.ol;omega)
    have HK5:Hid (Same w2 w5):=hid (Same.then HKi.out hf4.kept (fun k hk9 f9=>by have:=HTO.out.st.from' k f9;have:=HON.out.2;omega))
    clear hf4 hr4 hp4 hpl hnu her
    go_wp2_with (at_builtin;refine wpList_append_any _ rfl (.tmp 122) (.tmp 123) rfl va all rfl HVA4.out _ (.slice au nu cu) p4 rfl HNU.out HSU.out HLA.out ?_)
    intro v6 w6 hr6 hg6 ho6
    have HTO6:Hid (Told N w6 N len (y.take e1) (all++p4) v6 t4 er4 F4):=hid (by
     obtain⟨x9,hfa⟩:=HFA.out
     have h9:=HTO.out.fed hfa (w2:=w6) (v':=v6) (by rw[HP4.out];exact hr6) hg6 ho6 (hfa.back HTO.out.st) HON.out.1
     rw[HP4.out,take_part y at' e1 HE1.out.1]at h9
     exact h9)
    have HK6:Hid (Same w2 w6):=hid (Same.then HK5.out ((Kept.refl (fun k=>va.ownBlock=some k) w5).grown hg6 (fun k e=>.inl e)) (fun k hk9 f9=>by have:=(HTO.out.own k f9).1;have:=HON.out.2;omega))
    clear hr6 hg6 ho6
    go_wp2_with fail
    go_roundg (gk-1)
    case measure=>have:=HIL.out;omega
    case rel=>exact⟨i+1,e1,all++p4,t4,er4,F4,rfl,by go_num,by have:=HIL.out;omega,by have:=HIL.out;omega,HE1.out.2.2,(by first | exact HLAST.out | exact fun _=>rfl),HTO6,HK6⟩
  ·obtain rfl:i=sl+1:=by omega
   have hatl:at'=L:=hend rfl
   subst hatl
   have y1:decide ((((sl+1:Nat):Int))≤(sl:Int))=false:=by simp;omega
   have y2:decide (sl+1≤sl)=false:=by simp
   have hbt:y.take at'=y:=List.take_of_length_le (by rw[←HLY.out];exact Nat.le_refl _)
   rw[hbt]at HTO
   obtain⟨ht0,hee⟩:=HTO.out.st.ends.det HE0.out.1
   subst ht0 hee
   obtain⟨mo,vl,bv,vah,go,hobj⟩:=HTO.out.st.obj
   have hall:all=bs:=by rw[HTO.out.tell (.inl rfl)];exact HE0.out.2.1
   have HDN:=fun(W2:World) (hk:Same wr W2)=>pdone_any W2 N mo vl bv vah go 0 (hobj.kept hk (fun f=>f))
   have HDNh:=hid HDN
   have HAW:=dawake_any wr HTO.out.st.tab
   have HRA:Hid (Row wr va bs):=hid (by rw[←hall];exact HTO.out.row)
   obtain⟨aa,ca,hva,_⟩:=HTO.out.row.shape
   obtain⟨na,hna⟩:∃n,n=all.length:=⟨_,rfl⟩
   rw[←hna]at hva
   subst hva
   clear hend hi hbt hobj hna hall HDN
   go_wp2_with fail
   refine HAW.mono ?_
   rintro x w5 ⟨rfl,hk5⟩
   have HK5:Hid (Same wr w5):=hk5
   have HD5:=HDNh.out w5 hk5
   simp only[show((0:Nat)==0)=true from by decide]at HD5
   clear hk5 HAW HDNh
   go_wp2_with fail
   refine HD5.mono ?_
   rintro x w6 ⟨rfl,m6,hw6⟩
   have HK6:Hid (Same wr w6):=hid (Same.trans HK5.out (by rw[hw6];exact(Kept.refl _ w5).drewN m6))
   have HKB:=keepBytes_same w6 (.slice aa na ca) (.slice a len cap) _ _ bs (Src.ofRow (HRA.out.kept HK6.out (fun _ _ f=>f))) (HS.out.kept (Same.trans HK1.out (Same.trans HK2.out (Same.trans HKi.out HK6.out))) (fun _ _ _ f=>f)) (by rw[HL.out];omega)
   clear hw6 HD5
   go_wp2_with fail
   refine HKB.mono ?_
   rintro x w7 ⟨rfl,hk7⟩
   have HK7:Hid (Same W w7):=hid (Same.trans HK1.out (Same.trans HK2.out (Same.trans HKi.out (Same.trans HK6.out hk7))))
   clear hk7 HKB
   go_wp2_with fail
   go_ret
   exact⟨rfl,HK7.out⟩

set_option maxRecDepth 100000 in
set_option maxHeartbeats 400000 in
theorem deflateBack_all(a:Option Addr)(len cap:Nat)(zs:List Int)(sa:Option Addr)(sl sc:Nat)(zo:List Int)(W:World)(h:IsRow .u8 W a len cap zs)(ho:IsRow .i64 W sa sl sc zo)(hT:Tab W):
  Calls Tryz.prog 7 #[.slice a len cap,.slice sa sl sc] W fun e w'=>e=.returned (.bool true)∧Below W.heap.size W w':=by
 suffices H:Calls Tryz.prog 7 #[.slice a len cap,.slice sa sl sc] W fun e w'=>e=.returned (.bool true)∧Same W w' from H.mono (fun e w' h=>⟨h.1,h.2.bel⟩)
 obtain⟨bs,hs,hl,hb⟩:=h.src
 by_cases hlong:65536<len
 ·have b1:decide ((65536:Int)<(len:Int))=true:=by simp;omega
  clear hlong hT h ho hs hl hb
  go_enter Tryz.func7,Tryz.ntmps7
  go_wp2_with fail
  go_ret
  exact⟨rfl,Kept.refl _ _⟩
 ·have b1:decide ((65536:Int)<(len:Int))=false:=by simp;omega
  by_cases hsl:100<sl
  ·have b2:decide ((100:Int)<(sl:Int))=true:=by simp;omega
   clear hlong hsl hT h ho hs hl hb
   go_enter Tryz.func7,Tryz.ntmps7
   go_wp2_with fail
   go_ret
   exact⟨rfl,Kept.refl _ _⟩
  ·have b2:decide ((100:Int)<(sl:Int))=false:=by simp;omega
   by_cases hbig:16384<len
   ·have HI:=deflate_long W a len cap hbig
    have b3:decide ((16384:Int)<(len:Int))=true:=by simp;omega
    have HT:Hid (Tab W):=hT
    clear hlong hsl hT h ho hs hl hb
    go_enter Tryz.func7,Tryz.ntmps7
    go_wp2_with fail
    refine HI.mono ?_
    rintro x w1 ⟨rfl,hk⟩
    have HK1:Hid (Same W w1):=hk
    have HAW:=dawake_any w1 (HT.out.kept hk (fun f=>f))
    clear hk HI
    go_wp2_with fail
    refine HAW.mono ?_
    rintro x w2 ⟨rfl,hk2⟩
    have HK2:Hid (Same W w2):=hid (Same.trans HK1.out hk2)
    clear hk2 HAW
    go_wp2_with fail
    go_ret
    exact⟨rfl,HK2.out⟩
   ·exact dback_good W a sa len cap sl sc bs _ hs hl hb h.nil5 ho.ints.1 ho.ints.2 (by omega) (by omega) hT

end Go.Proofs.YtggcbnhckcenmaaGreatDoor
