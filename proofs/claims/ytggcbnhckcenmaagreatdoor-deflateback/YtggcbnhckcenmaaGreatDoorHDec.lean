import Derived.Test.YtggcbnhckcenmaaGreatDoorHDecM
import Derived.Test.YtggcbnhckcenmaaGreatDoorReader
namespace Go.Proofs.YtggcbnhckcenmaaGreatDoor
open Go.RowKit

set_option maxRecDepth 100000 in
set_option maxHeartbeats 1000000 in
theorem max_any(w:World)(v:Value)(I:Nat→Prop)(ns:List Nat)(hs:SrcE natV w I v ns)(hn:ns.length≤1000000)(h0:0<ns.length)(h15:∀n∈ns,n≤1000000000000):
  Calls Tryz.prog 143 #[v] w fun e w'=>e=.returned (.int .i64 (mxL ns:Nat))∧w'=w:=by
 obtain⟨b,o,cap,rfl,_,_,c0⟩:=hs.get 0 h0
 have HS:Hid (SrcE natV w I (.slice (some ⟨b,o,none⟩) ns.length cap) ns):=hs
 have H15:Hid (∀n∈ns,n≤1000000000000):=h15
 clear hs h15
 obtain⟨x0,hx0⟩:∃x,x=ns[0]:=⟨_,rfl⟩
 rw[←hx0]at c0
 unfold natV at c0
 have HX0:Hid (x0=ns[0]):=hx0
 clear hx0
 rw[Nat.add_zero]at c0
 have hlen:((ns.length:Int)<1)=False:=by simp;omega
 go_enter Tryz.func143,Tryz.ntmps143
 go_wp2_with fail
 clear hlen
 go_loopg [3,4] ns.length (fun q zm zi wr=>∃(i m:Nat),ns.length-i≤q∧i≤ns.length∧1≤i∧zi=.int .i64 (i:Nat)∧zm=.int .i64 (m:Nat)∧wr=w∧Hid (m=(ns.take i).foldl max 0))
 case atStart=>exact⟨1,x0,by omega,by omega,by omega,rfl,rfl,rfl,hid (by
  rw[show(1:Nat)=0+1 from rfl,List.take_succ_eq_append_getElem h0,←HX0.out];simp)⟩
 case round=>
  obtain⟨i,m,hq,hi,h1i,rfl,rfl,rfl,HF⟩:=hrel
  by_cases hlt:i<ns.length
  ·obtain⟨b2,o2,cap2,e,_,_,c1⟩:=HS.out.get i hlt
   simp only[Value.slice.injEq,Option.some.injEq,Addr.mk.injEq,and_true]at e
   obtain⟨⟨rfl,rfl⟩,hxe,rfl⟩:=e
   clear hxe
   obtain⟨x,hx⟩:∃x,x=ns[i]:=⟨_,rfl⟩
   rw[←hx]at c1
   unfold natV at c1
   have HX:Hid (x=ns[i]):=hx
   clear hx
   by_cases hmx:m<x
   ·go_wp2_with fail
    go_roundg (gk-1)
    case measure=>omega
    case rel=>exact⟨i+1,x,by omega,by omega,by omega,by go_num,by first | rfl | (congr 1;omega),rfl,hid (by rw[List.take_succ_eq_append_getElem hlt,List.foldl_append,←HF.out,←HX.out];simp[Nat.max_eq_right (show m≤x by omega)])⟩
   ·go_wp2_with fail
    go_roundg (gk-1)
    case measure=>omega
    case rel=>exact⟨i+1,m,by omega,by omega,by omega,by go_num,by first | rfl | (congr 1;omega),rfl,hid (by rw[List.take_succ_eq_append_getElem hlt,List.foldl_append,←HF.out,←HX.out];simp[Nat.max_eq_left (show x≤m by omega)])⟩
  ·have hi2:i=ns.length:=by omega
   subst hi2
   go_wp2_with fail
   go_ret
   have h:=HF.out
   rw[List.take_of_length_le (Nat.le_refl _)]at h
   exact⟨by rw[mxL,←h];rfl,rfl⟩

structure Dec(w:World)(p:Nat)(vc vs:Value)(ns:List Nat):Prop where
 cc:w.cell? ⟨p,0,none⟩=some vc
 cs:w.cell? ⟨p,1,none⟩=some vs
 rc:NRow 0 w vc (cntL ns)
 rs:NRow 0 w vs (ris ns)

def DF(p:Nat)(vc vs:Value)(k:Nat):Prop:=k=p∨vc.ownBlock=some k∨vs.ownBlock=some k

theorem Dec.kept{F:Nat→Prop}{w w':World}{p:Nat}{vc vs:Value}{ns:List Nat}(h:Dec w p vc vs ns)(hk:Kept F w w')(hF:∀k,DF p vc vs k→¬F k):Dec w' p vc vs ns:=
 ⟨hk.cell h.cc (hF p (.inl rfl)),hk.cell h.cs (hF p (.inl rfl)),h.rc.kept hk (fun k e=>hF k (.inr (.inl e))),h.rs.kept hk (fun k e=>hF k (.inr (.inr e)))⟩

theorem Dec.lt{w:World}{p:Nat}{vc vs:Value}{ns:List Nat}(h:Dec w p vc vs ns){k:Nat}(hk:DF p vc vs k):k<w.heap.size:=by
 rcases hk with rfl | hk | hk
 ·exact World.block_lt_of_cell? w _ h.cc
 ·exact h.rc.lt hk
 ·exact h.rs.lt hk

theorem new_bad(w:World)(v:Value)(I:Nat→Prop)(zs:List Int)(hs:SrcE intV w I v zs)(hn:zs.length≤1000000)(hb:chk zs≠0):
  Calls Tryz.prog 111 #[v] w fun e w'=>e=.returned (.tuple #[.pointer none,.int .i64 (chk zs:Nat)])∧Same w w':=by
 have HC:=check_any w v I zs hs hn
 generalize chk zs=c at HC hb
 have hd:((c:Int) != 0)=true:=by simp;omega
 clear hs hb
 go_enter Tryz.func111,Tryz.ntmps111
 go_wp2_with fail
 refine HC.mono ?_
 rintro e w2 ⟨rfl,hk⟩
 have HK:Hid (Same w w2):=hk
 clear hk HC
 go_wp2_with fail
 first
  | (go_ret2;exact⟨rfl,HK.out⟩)
  | (go_quiet (fail);go_wp2_with fail;go_ret2;exact⟨rfl,HK.out.drewN _⟩)

set_option maxRecDepth 100000 in
set_option maxHeartbeats 2000000 in
theorem search_any(w:World)(p:Nat)(vc vs:Value)(ns:List Nat)(R h:Nat)(hd:Dec w p vc vs ns)(hm:mxL ns≤15)(hns:ns.length≤288)(hh:h≤mxL ns)(hR:R<4294967296):
  Calls Tryz.prog 166 #[.pointer (some ⟨p,0,none⟩),.int .u32 (R:Nat),.int .i64 (h:Nat)] w fun e w'=>(∃sym long er,e=.returned (.tuple #[.int .i64 (sym:Nat),.int .i64 (long:Nat),.int .i64 (er:Nat)])∧Ans ns h R sym long er)∧Same w w':=by
 obtain⟨ac,capc,rfl,shc,_⟩:=hd.rc.shape
 obtain⟨as',caps,rfl,shs,_⟩:=hd.rs.shape
 have c1:=hd.cc
 have c2:=hd.cs
 have HD:Hid (Dec w p (.slice ac (cntL ns).length capc) (.slice as' (ris ns).length caps) ns):=hd
 have HM:Hid (mxL ns=(cntL ns).length):=hid (by simp[cntL])
 have hcl:(cntL ns).length≤15:=by have:=HM.out;omega
 have hhl:h≤(cntL ns).length:=by have:=HM.out;omega
 have HRL:Hid ((ris ns).length≤288):=hid (Nat.le_trans (ris_length ns) hns)
 clear hd hm shc shs hh
 generalize hcn:(cntL ns).length=cn at *
 have HCN:Hid ((cntL ns).length=cn):=hcn
 clear hcn
 go_enter Tryz.func166,Tryz.ntmps166
 go_wp2_with fail
 go_step3
 go_wp2_with fail
 go_step3
 go_wp2_with fail
 go_loopg [6,7,8,9,10,18] cn (fun q z6 z7 z8 zp za zn wr=>∃(n place ahead:Nat),cn-n≤q∧n≤cn∧n≤h∧place≤32768∧ahead≤288∧z6=.int .i64 0∧z7=.int .i64 0∧z8=.int .i64 32∧zp=.int .i64 (place:Nat)∧za=.int .i64 (ahead:Nat)∧zn=.int .i64 (n:Nat)∧Hid (Seek ns R n place ahead)∧Hid (Same w wr))
 case atStart=>exact⟨0,0,0,by omega,by omega,by omega,by omega,by omega,rfl,rfl,rfl,rfl,rfl,rfl,Seek.start ns R,Kept.refl _ _⟩
 case round=>
  obtain⟨n,place,ahead,hq,hn,hnh,hp1,hp2,rfl,rfl,rfl,rfl,rfl,rfl,HF,HK⟩:=hrel
  have d2:wr.cell? ⟨p,1,none⟩=some (.slice as' (ris ns).length caps):=HK.out.cell c2 (fun h=>h)
  by_cases hlt:n<cn
  ·obtain⟨b,o,cap',e,_,_,cx⟩:=(SrcE.ofRow (HD.out.rc.same HK.out)).get n (by have:=HCN.out;omega)
   simp only[Value.slice.injEq]at e
   obtain⟨rfl,hxe,rfl⟩:=e
   clear hxe
   obtain⟨x,hx⟩:∃x,x=ofN ns (n+1):=⟨_,rfl⟩
   have cx2:wr.cell? ⟨b,o+n,none⟩=some (.int .i64 (x:Int)):=by rw[cx,hx];simp[natV,cntL]
   have HX:Hid (x=ofN ns (n+1)):=hx
   clear cx hx
   obtain⟨bt,hbt⟩:∃bt,bt=R / 2 ^ n % 2:=⟨_,rfl⟩
   have hbl:bt<2:=by omega
   have hbi:bits .and .u32 ((R:Int) / 2 ^ n) 1=(bt:Int):=by
    have e1:(R:Int) / 2 ^ n=((R / 2 ^ n:Nat):Int):=by simp
    have:=u32_and_nat (R / 2 ^ n) 1 (Nat.lt_of_le_of_lt (Nat.div_le_self _ _) hR) (by decide)
    rw[e1,hbt]
    rw[Nat.and_one_is_mod]at this
    exact this
   have HB:Hid (bt=R / 2 ^ n % 2):=hbt
   have hx288:x≤288:=by
    have h1:=upN_succ ns n;have h2:=upN_le ns (n+1);have h3:=HX.out;have h4:=HRL.out;omega
   clear hbt
   by_cases hend:n=h
   ·have hdn:((n:Int)==(h:Int))=true:=by simp[hend]
    have HE:Hid (n=h):=hend
    clear hend
    go_wp2_with fail
    rw[Exit.noGoto_ret]
    go_ret3
    refine⟨⟨0,0,10,rfl,.inr (.inl ⟨rfl,rfl,rfl,?_,?_⟩)⟩,HK.out⟩
    ·have:=HM.out;have:=HCN.out;have:=HE.out;omega
    ·have h1:=HF.out.pl
     rw[HE.out]at h1
     omega
   ·have hdn:((n:Int)==(h:Int))=false:=by simp;omega
    by_cases hfd:2*place+bt<x
    ·obtain⟨hk,hkey,hcode⟩:=HF.out.found (by omega) (by rw[←HB.out,←HX.out];exact hfd)
     obtain⟨b3,o3,cap3,e3,_,_,c3⟩:=(SrcE.ofRow (HD.out.rs.same HK.out)).get _ hk
     simp only[Value.slice.injEq]at e3
     obtain⟨rfl,hxe,rfl⟩:=e3
     clear hxe
     obtain⟨sy,hsy⟩:∃sy,sy=(ris ns)[ahead+(2*place+R / 2 ^ n % 2)]:=⟨_,rfl⟩
     rw[←hsy]at c3 hkey hcode
     rw[←HB.out]at c3 hk
     unfold natV at c3
     have HANS:Hid (Ans ns h R sy (n+1) 0):=hid (.inl ⟨rfl,by rw[hsy];exact List.getElem_mem _,hkey.symm,by omega,hcode⟩)
     clear hsy hkey hcode
     have hrl:=HRL.out
     go_wp2_with fail
     rw[Exit.noGoto_ret]
     go_ret3
     exact⟨⟨sy,n+1,0,rfl,HANS.out⟩,HK.out⟩
    ·have HS2:Hid (Seek ns R (n+1) (2*place+bt-x) (ahead+x)):=hid (by
      have:=HF.out.next (by omega) (by rw[←HB.out,←HX.out];exact hfd)
      rw[←HB.out,←HX.out]at this;exact this)
     have hah:ahead+x≤288:=by
      have h1:=HS2.out.ah;have h2:=upN_le ns (n+1);have h4:=HRL.out;omega
     have hpl:2*place+bt-x≤32768:=by
      have h1:=HS2.out.pl
      have h2:=rv_lt (n+1) R
      have h3:rv (n+1) R*2 ^ (15-(n+1))≤2 ^ (n+1)*2 ^ (15-(n+1)):=Nat.mul_le_mul_right _ (by omega)
      rw[←Nat.pow_add,show n+1+(15-(n+1))=15 by omega]at h3
      have h4:(2*place+bt-x)*1≤(2*place+bt-x)*2 ^ (15-(n+1)):=Nat.mul_le_mul_left _ (Nat.two_pow_pos _)
      have h5:(2:Nat) ^ 15=32768:=by decide
      omega
     go_wp2_with fail
     go_roundg (gk-1)
     case measure=>omega
     case rel=>exact⟨n+1,2*place+bt-x,ahead+x,by omega,by omega,by omega,hpl,hah,rfl,rfl,rfl,by congr 1;omega,by congr 1,by go_num,HS2,HK⟩
  ·have hn2:n=cn:=by omega
   subst hn2
   go_wp2_with fail
   rw[Exit.noGoto_ret]
   go_ret3
   refine⟨⟨0,0,32,rfl,.inr (.inr ⟨rfl,rfl,rfl,?_,?_⟩)⟩,HK.out⟩
   ·have:=HM.out;have:=HCN.out;omega
   ·have h1:=HF.out.pl
    have h2:n=mxL ns:=by have:=HM.out;have:=HCN.out;omega
    have h3:n=h:=by omega
    rw[←sumTo_all,←upN_all ns,←h2,←h3]
    omega

end Go.Proofs.YtggcbnhckcenmaaGreatDoor
