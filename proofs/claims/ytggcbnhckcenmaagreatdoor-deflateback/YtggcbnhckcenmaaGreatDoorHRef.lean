import Derived.Test.YtggcbnhckcenmaaGreatDoorHArgs
import Derived.Test.YtggcbnhckcenmaaGreatDoorHChk
namespace Go.Proofs.YtggcbnhckcenmaaGreatDoor
set_option maxRecDepth 100000
set_option maxHeartbeats 2000000
open Go.RowKit

theorem power_any(w:World)(n:Nat)(hn:n≤15):Calls Tryz.prog 107 #[.int .i64(n:Nat)]w fun e w'=>e=.returned(.int .i64((2 ^ n:Nat):Int))∧w'=w:=by
 go_enter Tryz.func107,Tryz.ntmps107
 go_wp2_with fail
 go_loopg [3,4]n(fun q zp zi wr=>∃(i p:Nat),n-i≤q∧i≤n∧p≤32768∧zi=.int .i64(i:Nat)∧zp=.int .i64(p:Nat)∧wr=w∧Hid(p=2 ^ i))
 case atStart=>exact⟨0,1,by omega,by omega,by omega,rfl,rfl,rfl,hid rfl⟩
 case round=>
  obtain⟨i,p,hq,hi,hp,rfl,rfl,rfl,HP⟩:=hrel
  by_cases hlt:i<n
  ·have hp2:2*p≤32768:=by
    rw[HP.out]
    have h2:2 ^ (i+1)≤2 ^ 15:=Nat.pow_le_pow_right(by omega)(by omega)
    rw[Nat.pow_succ]at h2
    have h3:(2:Nat) ^ 15=32768:=by decide
    omega
   go_wp2_with fail
   go_roundg(gk-1)
   case measure=>omega
   case rel=>exact⟨i+1,2*p,by omega,by omega,hp2,by go_num,by congr 1<;>omega,rfl,hid(by rw[HP.out,Nat.pow_succ];omega)⟩
  ·have hin:i=n:=by omega
   subst hin
   go_wp2_with fail
   go_ret
   exact⟨by rw[←HP.out];rfl,rfl⟩

theorem used_any(w:World)(v:Value)(I:Nat→Prop)(ns:List Nat)(hs:SrcE natV w I v ns)(hn:ns.length≤1000000):
  Calls Tryz.prog 106 #[v]w fun e w'=>e=.returned(.int .i64(usedN ns:Nat))∧w'=w:=by
 obtain⟨ao,cap,rfl,hx1,hx2⟩:=id hs
 clear hx1 hx2
 have HS:Hid(SrcE natV w I(.slice ao ns.length cap)ns):=hs
 clear hs
 go_enter Tryz.func106,Tryz.ntmps106
 go_wp2_with fail
 go_loopg [3,4]ns.length(fun q zn zi wr=>∃(i c:Nat),ns.length-i≤q∧i≤ns.length∧c≤i∧zi=.int .i64(i:Nat)∧zn=.int .i64(c:Nat)∧wr=w∧Hid(c=usedN(ns.take i)))
 case atStart=>exact⟨0,0,by omega,by omega,by omega,rfl,rfl,rfl,hid rfl⟩
 case round=>
  obtain⟨i,c,hq,hi,hc,rfl,rfl,rfl,HC⟩:=hrel
  by_cases hlt:i<ns.length
  ·obtain⟨b,o,cap',e,_,_,cx⟩:=HS.out.get i hlt
   simp only[Value.slice.injEq]at e
   obtain⟨rfl,hxe,rfl⟩:=e
   clear hxe
   obtain⟨x,hx⟩:∃x,x=ns[i]:=⟨_,rfl⟩
   rw[←hx]at cx
   unfold natV at cx
   have hu:usedN(ns.take(i+1))=usedN(ns.take i)+(if x=0 then 0 else 1):=by rw[List.take_succ_eq_append_getElem hlt,usedN_snoc,hx]
   have HU:Hid(usedN(ns.take(i+1))=usedN(ns.take i)+(if x=0 then 0 else 1)):=hu
   clear hx hu
   by_cases h0:x=0
   ·have HZ:Hid(x=0):=h0
    rw[h0]at cx
    clear h0
    go_wp2_with fail
    go_roundg(gk-1)
    case measure=>omega
    case rel=>exact⟨i+1,c,by omega,by omega,by omega,by go_num,rfl,rfl,hid(by rw[HU.out,if_pos HZ.out,HC.out];rfl)⟩
   ·have hpos:0<x:=by omega
    have HZ:Hid(¬x=0):=h0
    clear h0
    go_wp2_with fail
    go_roundg(gk-1)
    case measure=>omega
    case rel=>exact⟨i+1,c+1,by omega,by omega,by omega,by go_num,by go_num,rfl,hid(by rw[HU.out,if_neg HZ.out,HC.out])⟩
  ·have hin:i=ns.length:=by omega
   subst hin
   go_wp2_with fail
   go_ret
   have h:=HC.out
   rw[List.take_of_length_le(Nat.le_refl _)]at h
   exact⟨by rw[←h];rfl,rfl⟩

theorem measure_any(w:World)(v:Value)(I:Nat→Prop)(ns:List Nat)(hs:SrcE natV w I v ns)(hn:ns.length≤288)(h15:∀n∈ns,n≤15):
  Calls Tryz.prog 105 #[v]w fun e w'=>e=.returned(.int .i64(measure ns:Nat))∧w'=w:=by
 obtain⟨ao,cap,rfl,hx1,hx2⟩:=id hs
 clear hx1 hx2
 have HS:Hid(SrcE natV w I(.slice ao ns.length cap)ns):=hs
 have H15:Hid(∀n∈ns,n≤15):=h15
 clear hs h15
 go_enter Tryz.func105,Tryz.ntmps105
 go_wp2_with fail
 go_loopg [3,4]ns.length(fun q zn zi wr=>∃(i c:Nat),ns.length-i≤q∧i≤ns.length∧c≤16384*288∧zi=.int .i64(i:Nat)∧zn=.int .i64(c:Nat)∧wr=w∧Hid(c=measure(ns.take i)))
 case atStart=>exact⟨0,0,by omega,by omega,by omega,rfl,rfl,rfl,hid rfl⟩
 case round=>
  obtain⟨i,c,hq,hi,hc,rfl,rfl,rfl,HC⟩:=hrel
  by_cases hlt:i<ns.length
  ·obtain⟨b,o,cap',e,_,_,cx⟩:=HS.out.get i hlt
   simp only[Value.slice.injEq]at e
   obtain⟨rfl,hxe,rfl⟩:=e
   clear hxe
   obtain⟨x,hx⟩:∃x,x=ns[i]:=⟨_,rfl⟩
   rw[←hx]at cx
   unfold natV at cx
   have hx15:x≤15:=by rw[hx];exact H15.out _(List.getElem_mem _)
   have hu:measure(ns.take(i+1))=measure(ns.take i)+unit x:=by rw[List.take_succ_eq_append_getElem hlt,measure_snoc,hx]
   have hb1:measure(ns.take(i+1))≤16384*288:=Nat.le_trans(measure_le _)(Nat.mul_le_mul_left _(by simp;omega))
   have HU:Hid(measure(ns.take(i+1))=c+unit x):=hid(by rw[hu,HC.out])
   have hb2:c+unit x≤16384*288:=by rw[←HU.out];exact hb1
   clear hx hu hb1
   by_cases h0:x=0
   ·have HZ:Hid(unit x=0):=hid(by simp[unit,h0])
    rw[h0]at cx
    clear h0 hb2
    go_wp2_with fail
    go_roundg(gk-1)
    case measure=>omega
    case rel=>exact⟨i+1,c,by omega,by omega,by omega,by go_num,rfl,rfl,hid(by rw[HU.out,HZ.out];rfl)⟩
   ·have hpos:0<x:=by omega
    have hux:unit x=2 ^ (15-x):=by rw[unit,if_neg h0]
    have HP:=power_any wr(15-x)(by omega)
    rw[←hux]at HP
    have hsub:((15:Int)-(x:Int))=((15-x:Nat):Int):=by omega
    generalize unit x=ux at *
    clear h0 hux
    go_wp2_with fail
    refine HP.mono ?_
    rintro e w2⟨rfl,rfl⟩
    clear HP
    go_wp2_with fail
    go_roundg(gk-1)
    case measure=>omega
    case rel=>exact⟨i+1,c+ux,by omega,by omega,hb2,by go_num,by go_num,rfl,hid HU.out.symm⟩
  ·have hin:i=ns.length:=by omega
   subst hin
   go_wp2_with fail
   go_ret
   have h:=HC.out
   rw[List.take_of_length_le(Nat.le_refl _)]at h
   exact⟨by rw[←h];rfl,rfl⟩

theorem rcheck_any(w:World)(v:Value)(I:Nat→Prop)(zs:List Int)(hs:SrcE intV w I v zs)(hn:zs.length≤1000000):
  Calls Tryz.prog 67 #[v]w fun e w'=>e=.returned(.int .i64(chk zs:Nat))∧w'=w:=by
 obtain⟨ao,cap,rfl,hx1,hx2⟩:=id hs
 clear hx1 hx2
 have HS:Hid(SrcE intV w I(.slice ao zs.length cap)zs):=hs
 clear hs
 by_cases h0:zs.length<1
 ·have HE:Hid(chk zs=1):=hid(by simp[chk,okAll];omega)
  have b0:decide((zs.length:Int)<1)=true:=by simp;omega
  go_enter Tryz.func67,Tryz.ntmps67
  go_wp2_with fail
  go_ret
  exact⟨by rw[HE.out];rfl,rfl⟩
 ·have b0:decide((zs.length:Int)<1)=false:=by simp;omega
  by_cases h288:288<zs.length
  ·have HE:Hid(chk zs=1):=hid(by simp[chk,okAll];omega)
   have b1:decide((288:Int)<(zs.length:Int))=true:=by simp;omega
   clear h0
   go_enter Tryz.func67,Tryz.ntmps67
   go_wp2_with fail
   go_ret
   exact⟨by rw[HE.out];rfl,rfl⟩
  ·have b1:decide((288:Int)<(zs.length:Int))=false:=by simp;omega
   go_enter Tryz.func67,Tryz.ntmps67
   go_wp2_with fail
   clear b0 b1
   go_loopg [3]zs.length(fun q zi wr=>∃(i:Nat),zs.length-i≤q∧i≤zs.length∧zi=.int .i64(i:Nat)∧wr=w∧Hid((zs.take i).any(badI 0 15)=false))
   case atStart=>exact⟨0,by omega,by omega,rfl,rfl,hid(by simp)⟩
   case round=>
    obtain⟨i,hq,hi,rfl,rfl,HF⟩:=hrel
    by_cases hlt:i<zs.length
    ·obtain⟨b,o,cap',e,_,_,cx⟩:=HS.out.get i hlt
     simp only[Value.slice.injEq]at e
     obtain⟨rfl,hxe,rfl⟩:=e
     clear hxe
     obtain⟨x,hx⟩:∃x,x=zs[i]:=⟨_,rfl⟩
     rw[←hx]at cx
     unfold intV at cx
     have HX:Hid(x=zs[i]):=hx
     have HBAD:Hid(badI 0 15 x=true→chk zs=1):=hid(fun h=>by
      have:zs.any(badI 0 15)=true:=List.any_eq_true.2⟨x,by rw[hx];exact List.getElem_mem _,h⟩
      simp[chk,okAll,this])
     clear hx
     by_cases hneg:x<0
     ·have HE:Hid(chk zs=1):=hid(HBAD.out(by simp[badI];omega))
      go_wp2_with fail
      go_ret
      exact⟨by rw[HE.out];rfl,rfl⟩
     ·by_cases hbig:15<x
      ·have HE:Hid(chk zs=1):=hid(HBAD.out(by simp[badI];omega))
       go_wp2_with fail
       go_ret
       exact⟨by rw[HE.out];rfl,rfl⟩
      ·have HOKX:Hid(badI 0 15 x=false):=hid(by simp[badI];omega)
       go_wp2_with fail
       go_roundg(gk-1)
       case measure=>omega
       case rel=>exact⟨i+1,by omega,by omega,by go_num,rfl,hid(by rw[List.take_succ_eq_append_getElem hlt,List.any_append,HF.out,←HX.out];simp[HOKX.out])⟩
    ·have hin:i=zs.length:=by omega
     have hany:zs.any(badI 0 15)=false:=by have h:=HF.out;rw[hin,List.take_of_length_le(Nat.le_refl _)]at h;exact h
     have hok:okAll zs 0 15=true:=by simp[okAll,hany];omega
     obtain⟨eN,h0',h288',h15⟩:=okAll_nat hok
     have HCH:Hid(chk zs=chkN(zs.map Int.toNat)):=hid(by simp[chk,hok])
     have hsn:=HS.out.recode eN
     have hnl:(zs.map Int.toNat).length=zs.length:=by simp
     generalize zs.map Int.toNat=ns at *
     have HME:=measure_any wr _ I ns hsn(by omega)(fun n hn=>by have:=h15 n hn;omega)
     have HUS:=used_any wr _ I ns hsn(by omega)
     have hml:=measure_le ns
     obtain⟨m,hm⟩:∃m,m=measure ns:=⟨_,rfl⟩
     obtain⟨u,hu⟩:∃u,u=usedN ns:=⟨_,rfl⟩
     rw[←hm]at HME hml
     rw[←hu]at HUS
     have HMU:Hid(chkN ns=if 32768<m then 30 else if m=32768 then 0 else if u=1∧m=16384 then 0 else 31):=hid(by rw[chkN,hm,hu])
     clear hsn hm hu hok hany h15 hin
     go_wp2_with fail
     refine HME.mono ?_
     rintro e w2⟨rfl,rfl⟩
     clear HME
     by_cases hover:32768<m
     ·have HE:Hid(chk zs=30):=hid(by rw[HCH.out,HMU.out,if_pos hover])
      have b3:decide((32768:Int)<(m:Int))=true:=by simp;omega
      clear hover
      go_wp2_with fail
      go_ret
      exact⟨by rw[HE.out];rfl,rfl⟩
     ·have b3:decide((32768:Int)<(m:Int))=false:=by simp;omega
      by_cases hfull:m=32768
      ·have HE:Hid(chk zs=0):=hid(by rw[HCH.out,HMU.out,if_neg hover,if_pos hfull])
       have b4:((m:Int)==32768)=true:=by simp;omega
       clear hover hfull
       go_wp2_with fail
       go_ret
       exact⟨by rw[HE.out];rfl,rfl⟩
      ·have b4:((m:Int)==32768)=false:=by simp;omega
       by_cases hu1:u=1
       ·by_cases hm2:m=16384
        ·have HE:Hid(chk zs=0):=hid(by rw[HCH.out,HMU.out,if_neg hover,if_neg hfull,if_pos⟨hu1,hm2⟩])
         have b5:((u:Int)==1)=true:=by simp;omega
         have b6:((m:Int)==16384)=true:=by simp;omega
         clear hover hfull hu1 hm2
         go_wp2_with fail
         refine HUS.mono ?_
         rintro e w3⟨rfl,rfl⟩
         go_wp2_with fail
         go_ret
         exact⟨by rw[HE.out];rfl,rfl⟩
        ·have HE:Hid(chk zs=31):=hid(by rw[HCH.out,HMU.out,if_neg hover,if_neg hfull,if_neg(fun h=>hm2 h.2)])
         have b5:((u:Int)==1)=true:=by simp;omega
         have b6:((m:Int)==16384)=false:=by simp;omega
         clear hover hfull hu1 hm2
         go_wp2_with fail
         refine HUS.mono ?_
         rintro e w3⟨rfl,rfl⟩
         go_wp2_with fail
         go_ret
         exact⟨by rw[HE.out];rfl,rfl⟩
       ·have HE:Hid(chk zs=31):=hid(by rw[HCH.out,HMU.out,if_neg hover,if_neg hfull,if_neg(fun h=>hu1 h.1)])
        have b5:((u:Int)==1)=false:=by simp;omega
        clear hover hfull hu1
        go_wp2_with fail
        refine HUS.mono ?_
        rintro e w3⟨rfl,rfl⟩
        go_wp2_with fail
        go_ret
        exact⟨by rw[HE.out];rfl,rfl⟩

end Go.Proofs.YtggcbnhckcenmaaGreatDoor
