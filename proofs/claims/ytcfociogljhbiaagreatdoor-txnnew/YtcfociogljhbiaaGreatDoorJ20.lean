/-
  Of the proof: parts ShoM, Sho.
-/
import Derived.Lib.SplitLaws
import Derived.Lib.SlTrimSet
import Derived.Test.YtcfociogljhbiaaGreatDoorJ2
import Derived.Test.YtcfociogljhbiaaGreatDoorJ19

namespace Go.Proofs.YtcfociogljhbiaaGreatDoor

def lets14:List UInt8:=[97,98,99,100,101,102,103,104,105,106,107,108,109,110,111,112,113,114,115,116,117,118,119,120,121,122,48,49,50,51,52,53,54,55,56,57,45]

theorem trim14(L l:List UInt8):Lib.trimS l L=[]↔l.all (L.contains ·)=true:=by
 unfold Lib.trimS Lib.trimLeftS Lib.trimRightS
 constructor
 ·intro h
  have hd:∀(q:UInt8→Bool) (m:List UInt8),m.dropWhile q=[]→m.all q=true:=by
   intro q m hm
   induction m with
   | nil=>rfl
   | cons x r ih=>
    rw[List.dropWhile_cons]at hm
    split at hm
    ·rename_i hx;simp[hx,ih hm]
    ·cases hm
  have h1:=hd _ _ h
  cases hr:l.reverse.dropWhile (L.contains ·) with
  | nil=>
   have:=hd _ _ hr
   rw[List.all_reverse]at this
   exact this
  | cons x r=>
   exfalso
   have hx:=List.head_dropWhile_not (p:=(L.contains ·)) (l:=l.reverse) (by rw[hr];simp)
   have e:(l.reverse.dropWhile (L.contains ·)).head (by rw[hr];simp)=x:=by simp only[hr,List.head_cons]
   rw[e]at hx
   rw[hr]at h1
   have h2:L.contains x=true:=by
    rw[List.all_eq_true]at h1
    exact h1 x (by simp)
   rw[h2]at hx
   cases hx
 ·intro h
  have hr:l.reverse.dropWhile (L.contains ·)=[]:=by
   have h2:l.reverse.all (L.contains ·)=true:=by rw[List.all_reverse];exact h
   generalize l.reverse=m at h2
   induction m with
   | nil=>rfl
   | cons x r ih=>
    simp only[List.all_cons,Bool.and_eq_true]at h2
    rw[List.dropWhile_cons,if_pos h2.1]
    exact ih h2.2
  rw[hr]
  rfl

def sho(s:ByteArray):Bool:=!s.toList.isEmpty && (decide (s.size≤16) && s.data.toList.all (lets14.contains ·))

theorem empty14(l:List UInt8):(⟨l.toArray⟩:ByteArray).toList.isEmpty=true↔l=[]:=by
 rw[Lib.toList_data,List.isEmpty_iff]

end Go.Proofs.YtcfociogljhbiaaGreatDoor

namespace Go.Proofs.YtcfociogljhbiaaGreatDoor
open Go.RowKit Go.Shelf

def Mxl(w:World):Prop:=∃m:Int,w.cell? ⟨0,0,none⟩=some (.int .i64 m)

theorem Mxl.kept{F:Nat→Prop}{w w':World}(h:Mxl w)(hk:Kept F w w')(hF:¬F 0):Mxl w':=by
 obtain⟨m,hm⟩:=h
 exact⟨m,hk.cell hm hF⟩

set_option maxRecDepth 100000 in
set_option maxHeartbeats 1000000 in
theorem short_any(w:World)(s:ByteArray):Calls Tryz.prog 57 #[.string s] w fun e w'=>e=.returned (.bool (sho s))∧Same w w':=by
 unfold sho
 cases B1:s.toList.isEmpty with
 | true=>
  go_enter Tryz.func57,Tryz.ntmps57
  go_wp2_with fail
  go_ret
  exact⟨rfl,Kept.refl _ _⟩
 | false=>
  by_cases hl:s.size≤16
  ·have b2:(s.size:Int)≤16:=by omega
   have b3:decide (s.size≤16)=true:=decide_eq_true hl
   have HTR:=Any.strings_Trim_laid Tryz.lays160 (by kernel_rfl) s ⟨#[97,98,99,100,101,102,103,104,105,106,107,108,109,110,111,112,113,114,115,116,117,118,119,120,121,122,48,49,50,51,52,53,54,55,56,57,45]⟩ w (by omega) (by decide) (ascii_of_all (by decide))
   obtain⟨tr,htr⟩:∃tr:ByteArray,tr=⟨(Lib.trimS s.data.toList lets14).toArray⟩:=⟨_,rfl⟩
   have HTE:Hid (tr.toList.isEmpty=s.data.toList.all (lets14.contains ·)):=hid (by
    rw[htr]
    have h1:=empty14 (Lib.trimS s.data.toList lets14)
    have h2:=trim14 lets14 s.data.toList
    cases h3:s.data.toList.all (lets14.contains ·) with
    | true=>exact h1.2 (h2.2 h3)
    | false=>
     cases h4:(⟨(Lib.trimS s.data.toList lets14).toArray⟩:ByteArray).toList.isEmpty with
     | false=>rfl
     | true=>rw[h2.1 (h1.1 h4)]at h3;cases h3)
   rw[b3,Bool.not_false,Bool.true_and,Bool.true_and,←HTE.out]
   clear hl HTE
   go_enter Tryz.func57,Tryz.ntmps57
   go_wp2_with fail
   refine HTR.mono ?_
   rintro x w2 ⟨rfl,hb2⟩
   have HK2:Hid (Same w w2):=hid (Kept.ofBelow hb2)
   rw[show(⟨(Lib.trimS s.data.toList (ByteArray.mk #[97,98,99,100,101,102,103,104,105,106,107,108,109,110,111,112,113,114,115,116,117,118,119,120,121,122,48,49,50,51,52,53,54,55,56,57,45]).data.toList).toArray⟩:ByteArray)=tr from htr.symm]
   clear htr hb2 HTR
   cases B4:tr.toList.isEmpty with
   | false=>
    go_wp2_with fail
    go_ret
    exact⟨by rw[B4];rfl,HK2.out⟩
   | true=>
    go_wp2_with fail
    go_ret
    exact⟨by rw[B4];rfl,HK2.out⟩
  ·have b2:¬(s.size:Int)≤16:=by omega
   have b3:decide (s.size≤16)=false:=decide_eq_false hl
   have b4:decide ((s.size:Int)≤16)=false:=decide_eq_false b2
   rw[b3]
   clear hl
   go_enter Tryz.func57,Tryz.ntmps57
   go_wp2_with fail
   go_ret
   exact⟨rfl,Kept.refl _ _⟩

end Go.Proofs.YtcfociogljhbiaaGreatDoor
