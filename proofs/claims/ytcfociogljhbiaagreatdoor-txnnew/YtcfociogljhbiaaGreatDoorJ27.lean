/-
  Of the proof: parts Sh11, Sh14.
-/
import Derived.Test.YtcfociogljhbiaaGreatDoorJ20
import Derived.Test.YtcfociogljhbiaaGreatDoorJ25

namespace Go.Proofs.YtcfociogljhbiaaGreatDoor
open Go.RowKit Go.Shelf

theorem str_at11(s:ByteArray)(i:Nat)(hi:i<s.size)(W:World):(Instr.index 9 (.string s) (.int .i64 (i:Nat))).run Tryz.prog W=.ok (.int .u8 ((s.data.toList.getD i 0).toNat:Nat)) W:=by
 have hu:=run_underlying (P:=Tryz.prog) Tryz.underlying9 W
 have h3:s.data.toList.getD i 0=s.data[i]'hi:=by
  rw[List.getD_eq_getElem?_getD,List.getElem?_eq_getElem (by simpa using hi)]
  simp
 rw[h3]
 simp[Instr.index,Sem.run_bind,asIntOf,hu]
 rw[show s[i]? = some (s[i]'hi)from getElem?_pos s i hi]
 rfl

def let11(c:Nat):Bool:=(decide (97≤c) && decide (c≤122)) || (decide (48≤c) && decide (c≤57)) || c==45

theorem let11_fin:∀n:Fin 256,lets14.contains (UInt8.ofNat n.val)=let11 n.val:=by decide +kernel

theorem let11_is(b:UInt8):lets14.contains b=let11 b.toNat:=by
 have:=let11_fin ⟨b.toNat,b.toNat_lt⟩
 simpa using this

theorem take_all11{l:List UInt8}{i:Nat}(hi:i<l.length)(f:UInt8→Bool):(l.take (i+1)).all f=((l.take i).all f && f (l.getD i 0)):=by
 rw[List.take_add_one,List.getElem?_eq_getElem hi,List.all_append,List.getD_eq_getElem?_getD,List.getElem?_eq_getElem hi]
 simp

set_option maxRecDepth 100000 in
set_option maxHeartbeats 1000000 in
theorem short11_any(w:World)(s:ByteArray):Calls Tryz.prog 122 #[.string s] w fun e w'=>e=.returned (.bool (sho s))∧Same w w':=by
 have hL:s.data.toList.length=s.size:=Array.length_toList
 have HL:=hid hL
 have hem:s.toList.isEmpty=decide (s.size=0):=by
  rw[Lib.toList_data]
  by_cases h:s.size=0
  ·rw[decide_eq_true h,List.isEmpty_iff];exact List.eq_nil_of_length_eq_zero (by omega)
  ·rw[decide_eq_false h]
   cases hl:s.data.toList with
   | nil=>rw[hl]at hL;simp at hL;omega
   | cons a r=>rfl
 by_cases h0:s.size<1
 ·have b1:decide ((s.size:Int)<1)=true:=by simp;omega
  have hz:sho s=false:=by unfold sho;rw[hem,decide_eq_true (by omega)];rfl
  rw[hz]
  clear h0 hz hem hL
  go_enter Tryz.func122,Tryz.ntmps122
  go_wp2_with fail
  go_ret
  exact⟨rfl,Kept.refl _ _⟩
 ·have b1:decide ((s.size:Int)<1)=false:=by simp;omega
  by_cases h16:16<s.size
  ·have b2:decide ((16:Int)<(s.size:Int))=true:=by simp;omega
   have hz:sho s=false:=by unfold sho;rw[decide_eq_false (show ¬s.size≤16 by omega)];simp
   rw[hz]
   clear h0 hz hem hL h16
   go_enter Tryz.func122,Tryz.ntmps122
   go_wp2_with fail
   go_ret
   exact⟨rfl,Kept.refl _ _⟩
  ·have b2:decide ((16:Int)<(s.size:Int))=false:=by simp;omega
   have hz:sho s=s.data.toList.all (lets14.contains ·):=by unfold sho;rw[hem,decide_eq_false (by omega),decide_eq_true (show s.size≤16 by omega)];rfl
   rw[hz]
   have H16:Hid (s.size≤16):=hid (by omega)
   clear h0 hz hem hL h16
   go_enter Tryz.func122,Tryz.ntmps122
   go_wp2_with fail
   go_loopg [3] s.size (fun qq z3 wr=>∃i:Nat,z3=.int .i64 (i:Nat)∧i≤s.size∧s.size-i≤qq∧Hid (wr=w)∧Hid ((s.data.toList.take i).all (lets14.contains ·)=true))
   case atStart=>exact⟨0,rfl,by omega,by omega,hid rfl,hid rfl⟩
   case round=>
    obtain⟨i,rfl,hi,hiq,HW,HI⟩:=hrel
    by_cases hlt:i<s.size
    ·have hix:=fun W=>str_at11 s i hlt W
     have HST:=hid (take_all11 (l:=s.data.toList) (i:=i) (by rw[HL.out];exact hlt) (lets14.contains ·))
     obtain⟨c,hc⟩:∃c,c=(s.data.toList.getD i 0).toNat:=⟨_,rfl⟩
     have HLC:Hid (lets14.contains (s.data.toList.getD i 0)=let11 c):=hid (by rw[hc];exact let11_is _)
     rw[←hc]at hix
     have hd1:decide ((i:Int)<(s.size:Int))=true:=by simp;omega
     have hd2:decide (i<s.size)=true:=by simp;omega
     have HLT:=hid hlt
     have hiw:IntKind.i64.wrap ((i:Int)+1)=((i+1:Nat):Int):=by rw[IntKind.wrap_i64];have:=H16.out;omega
     have HNX:Hid (let11 c=true→(s.data.toList.take (i+1)).all (lets14.contains ·)=true):=hid (fun h=>by rw[HST.out,HI.out,HLC.out,h];rfl)
     have HNO:Hid (let11 c=false→s.data.toList.all (lets14.contains ·)=false):=hid (fun h=>by
      rw[List.all_eq_false]
      refine⟨s.data.toList.getD i 0,?_,by rw[HLC.out,h];decide⟩
      rw[List.getD_eq_getElem?_getD,List.getElem?_eq_getElem (by rw[HL.out];exact hlt)]
      exact List.getElem_mem _)
     clear hc hlt
     by_cases c1:c<97
     ·have e1:decide ((c:Int)<97)=true:=by simp;omega
      by_cases c2:c<48
      ·have e2:decide ((c:Int)<48)=true:=by simp;omega
       by_cases c3:c=45
       ·have e3:((c:Int) != 45)=false:=by rw[c3];rfl
        have e3':(c != 45)=false:=by rw[c3];rfl
        have HN:=hid (HNX.out (by rw[c3];rfl))
        clear c1 c2 c3
        go_wp2_with fail
        go_roundg (gk-1)
        case measure=>have:=HLT.out;omega
        case rel=>exact⟨i+1,by go_num,HLT.out,by omega,HW,HN⟩
       ·have e3:((c:Int) != 45)=true:=by simp;omega
        have e3':(c != 45)=true:=by simp;omega
        have HN:=hid (HNO.out (by unfold let11;simp;omega))
        clear c1 c2 c3
        go_wp2_with fail
        go_ret
        exact⟨by rw[HN.out];rfl,by rw[HW.out];exact Kept.refl _ _⟩
      ·have e2:decide ((c:Int)<48)=false:=by simp;omega
       by_cases c3:57<c
       ·have e3:decide ((57:Int)<(c:Int))=true:=by simp;omega
        have e4:((c:Int) != 45)=true:=by simp;omega
        have e4':(c != 45)=true:=by simp;omega
        have HN:=hid (HNO.out (by unfold let11;simp;omega))
        clear c1 c2 c3
        go_wp2_with fail
        go_ret
        exact⟨by rw[HN.out];rfl,by rw[HW.out];exact Kept.refl _ _⟩
       ·have e3:decide ((57:Int)<(c:Int))=false:=by simp;omega
        have HN:=hid (HNX.out (by unfold let11;simp;omega))
        clear c1 c2 c3
        go_wp2_with fail
        go_roundg (gk-1)
        case measure=>have:=HLT.out;omega
        case rel=>exact⟨i+1,by go_num,HLT.out,by omega,HW,HN⟩
     ·have e1:decide ((c:Int)<97)=false:=by simp;omega
      by_cases c2:122<c
      ·have e2:decide ((122:Int)<(c:Int))=true:=by simp;omega
       have e3:decide ((c:Int)<48)=false:=by simp;omega
       have e4:decide ((57:Int)<(c:Int))=true:=by simp;omega
       have e5:((c:Int) != 45)=true:=by simp;omega
       have e5':(c != 45)=true:=by simp;omega
       have HN:=hid (HNO.out (by unfold let11;simp;omega))
       clear c1 c2
       go_wp2_with fail
       go_ret
       exact⟨by rw[HN.out];rfl,by rw[HW.out];exact Kept.refl _ _⟩
      ·have e2:decide ((122:Int)<(c:Int))=false:=by simp;omega
       have HN:=hid (HNX.out (by unfold let11;simp;omega))
       clear c1 c2
       go_wp2_with fail
       go_roundg (gk-1)
       case measure=>have:=HLT.out;omega
       case rel=>exact⟨i+1,by go_num,HLT.out,by omega,HW,HN⟩
    ·have hd1:decide ((i:Int)<(s.size:Int))=false:=by simp;omega
     have hd2:decide (i<s.size)=false:=by simp;omega
     have HE:Hid (s.data.toList.all (lets14.contains ·)=true):=hid (by
      have h9:=HI.out
      rw[List.take_of_length_le (by rw[HL.out];omega)]at h9
      exact h9)
     clear hlt
     go_wp2_with fail
     go_ret
     exact⟨by rw[HE.out];rfl,by rw[HW.out];exact Kept.refl _ _⟩

end Go.Proofs.YtcfociogljhbiaaGreatDoor

namespace Go.Proofs.YtcfociogljhbiaaGreatDoor
open Go.RowKit Go.Shelf

set_option maxRecDepth 100000 in
set_option maxHeartbeats 1000000 in
theorem short14r_any(w:World)(s:ByteArray):Calls Tryz.prog 81 #[.string s] w fun e w'=>e=.returned (.bool (sho s))∧Same w w':=by
 have hL:s.data.toList.length=s.size:=Array.length_toList
 have HL:=hid hL
 have hem:s.toList.isEmpty=decide (s.size=0):=by
  rw[Lib.toList_data]
  by_cases h:s.size=0
  ·rw[decide_eq_true h,List.isEmpty_iff];exact List.eq_nil_of_length_eq_zero (by omega)
  ·rw[decide_eq_false h]
   cases hl:s.data.toList with
   | nil=>rw[hl]at hL;simp at hL;omega
   | cons a r=>rfl
 by_cases h0:s.size<1
 ·have b1:decide ((s.size:Int)<1)=true:=by simp;omega
  have hz:sho s=false:=by unfold sho;rw[hem,decide_eq_true (by omega)];rfl
  rw[hz]
  clear h0 hz hem hL
  go_enter Tryz.func81,Tryz.ntmps81
  go_wp2_with fail
  go_ret
  exact⟨rfl,Kept.refl _ _⟩
 ·have b1:decide ((s.size:Int)<1)=false:=by simp;omega
  by_cases h16:16<s.size
  ·have b2:decide ((16:Int)<(s.size:Int))=true:=by simp;omega
   have hz:sho s=false:=by unfold sho;rw[decide_eq_false (show ¬s.size≤16 by omega)];simp
   rw[hz]
   clear h0 hz hem hL h16
   go_enter Tryz.func81,Tryz.ntmps81
   go_wp2_with fail
   go_ret
   exact⟨rfl,Kept.refl _ _⟩
  ·have b2:decide ((16:Int)<(s.size:Int))=false:=by simp;omega
   have hz:sho s=s.data.toList.all (lets14.contains ·):=by unfold sho;rw[hem,decide_eq_false (by omega),decide_eq_true (show s.size≤16 by omega)];rfl
   rw[hz]
   have H16:Hid (s.size≤16):=hid (by omega)
   clear h0 hz hem hL h16
   go_enter Tryz.func81,Tryz.ntmps81
   go_wp2_with fail
   go_loopg [3] s.size (fun qq z3 wr=>∃i:Nat,z3=.int .i64 (i:Nat)∧i≤s.size∧s.size-i≤qq∧Hid (wr=w)∧Hid ((s.data.toList.take i).all (lets14.contains ·)=true))
   case atStart=>exact⟨0,rfl,by omega,by omega,hid rfl,hid rfl⟩
   case round=>
    obtain⟨i,rfl,hi,hiq,HW,HI⟩:=hrel
    by_cases hlt:i<s.size
    ·have hix:=fun W=>str_at11 s i hlt W
     have HST:=hid (take_all11 (l:=s.data.toList) (i:=i) (by rw[HL.out];exact hlt) (lets14.contains ·))
     obtain⟨c,hc⟩:∃c,c=(s.data.toList.getD i 0).toNat:=⟨_,rfl⟩
     have HLC:Hid (lets14.contains (s.data.toList.getD i 0)=let11 c):=hid (by rw[hc];exact let11_is _)
     rw[←hc]at hix
     have hd1:decide ((i:Int)<(s.size:Int))=true:=by simp;omega
     have hd2:decide (i<s.size)=true:=by simp;omega
     have HLT:=hid hlt
     have hiw:IntKind.i64.wrap ((i:Int)+1)=((i+1:Nat):Int):=by rw[IntKind.wrap_i64];have:=H16.out;omega
     have HNX:Hid (let11 c=true→(s.data.toList.take (i+1)).all (lets14.contains ·)=true):=hid (fun h=>by rw[HST.out,HI.out,HLC.out,h];rfl)
     have HNO:Hid (let11 c=false→s.data.toList.all (lets14.contains ·)=false):=hid (fun h=>by
      rw[List.all_eq_false]
      refine⟨s.data.toList.getD i 0,?_,by rw[HLC.out,h];decide⟩
      rw[List.getD_eq_getElem?_getD,List.getElem?_eq_getElem (by rw[HL.out];exact hlt)]
      exact List.getElem_mem _)
     clear hc hlt
     by_cases c1:c<97
     ·have e1:decide ((c:Int)<97)=true:=by simp;omega
      by_cases c2:c<48
      ·have e2:decide ((c:Int)<48)=true:=by simp;omega
       by_cases c3:c=45
       ·have e3:((c:Int) != 45)=false:=by rw[c3];rfl
        have e3':(c != 45)=false:=by rw[c3];rfl
        have HN:=hid (HNX.out (by rw[c3];rfl))
        clear c1 c2 c3
        go_wp2_with fail
        go_roundg (gk-1)
        case measure=>have:=HLT.out;omega
        case rel=>exact⟨i+1,by go_num,HLT.out,by omega,HW,HN⟩
       ·have e3:((c:Int) != 45)=true:=by simp;omega
        have e3':(c != 45)=true:=by simp;omega
        have HN:=hid (HNO.out (by unfold let11;simp;omega))
        clear c1 c2 c3
        go_wp2_with fail
        go_ret
        exact⟨by rw[HN.out];rfl,by rw[HW.out];exact Kept.refl _ _⟩
      ·have e2:decide ((c:Int)<48)=false:=by simp;omega
       by_cases c3:57<c
       ·have e3:decide ((57:Int)<(c:Int))=true:=by simp;omega
        have e4:((c:Int) != 45)=true:=by simp;omega
        have e4':(c != 45)=true:=by simp;omega
        have HN:=hid (HNO.out (by unfold let11;simp;omega))
        clear c1 c2 c3
        go_wp2_with fail
        go_ret
        exact⟨by rw[HN.out];rfl,by rw[HW.out];exact Kept.refl _ _⟩
       ·have e3:decide ((57:Int)<(c:Int))=false:=by simp;omega
        have HN:=hid (HNX.out (by unfold let11;simp;omega))
        clear c1 c2 c3
        go_wp2_with fail
        go_roundg (gk-1)
        case measure=>have:=HLT.out;omega
        case rel=>exact⟨i+1,by go_num,HLT.out,by omega,HW,HN⟩
     ·have e1:decide ((c:Int)<97)=false:=by simp;omega
      by_cases c2:122<c
      ·have e2:decide ((122:Int)<(c:Int))=true:=by simp;omega
       have e3:decide ((c:Int)<48)=false:=by simp;omega
       have e4:decide ((57:Int)<(c:Int))=true:=by simp;omega
       have e5:((c:Int) != 45)=true:=by simp;omega
       have e5':(c != 45)=true:=by simp;omega
       have HN:=hid (HNO.out (by unfold let11;simp;omega))
       clear c1 c2
       go_wp2_with fail
       go_ret
       exact⟨by rw[HN.out];rfl,by rw[HW.out];exact Kept.refl _ _⟩
      ·have e2:decide ((122:Int)<(c:Int))=false:=by simp;omega
       have HN:=hid (HNX.out (by unfold let11;simp;omega))
       clear c1 c2
       go_wp2_with fail
       go_roundg (gk-1)
       case measure=>have:=HLT.out;omega
       case rel=>exact⟨i+1,by go_num,HLT.out,by omega,HW,HN⟩
    ·have hd1:decide ((i:Int)<(s.size:Int))=false:=by simp;omega
     have hd2:decide (i<s.size)=false:=by simp;omega
     have HE:Hid (s.data.toList.all (lets14.contains ·)=true):=hid (by
      have h9:=HI.out
      rw[List.take_of_length_le (by rw[HL.out];omega)]at h9
      exact h9)
     clear hlt
     go_wp2_with fail
     go_ret
     exact⟨by rw[HE.out];rfl,by rw[HW.out];exact Kept.refl _ _⟩

end Go.Proofs.YtcfociogljhbiaaGreatDoor
