/-
  Of the proof: parts Rng, ZpN, ZpI, ZrC.
-/
import Derived.RangeFuncBox
import Derived.RangeFuncLeaves
import Derived.Shelf.Abstract
import Derived.WalkKit
import Derived.OwnWalkIn
import Derived.TacticsInMore
import Derived.LoopNIn
import Derived.LoopIn
import Derived.Lib.Split
import Derived.Lib.SlTrimSet
import Derived.Laws.BitsAllLaws
import Derived.WalkLawsBesides
import Derived.Laws.ResultCell
import Derived.Laws.BytesArg
import Derived.Laws.IdiomStrings
import Derived.Laws.AppendOwn
import Derived.Laws.StructEq
import Derived.Lib.Strings
import Derived.Deep.RegionHeld3
import Derived.RegionDies
import Derived.Lib.SplitLaws
import Derived.Test.YtcfociogljhbiaaGreatDoorJ2
import Derived.Test.YtcfociogljhbiaaGreatDoorJ20

namespace Go.Proofs.YtcfociogljhbiaaGreatDoor
open Go.RowKit Go.Shelf

attribute [local go_sem] Oper.semAt_some
def Kf(fp:World→Nat→Prop)(A B:World):Prop:=Kept (fp A) A B∧∀j,fp B j→fp A j∨A.heap.size≤j

theorem kept_putObj(w:World)(l:Nat)(o:Obj):Kept (·=l) w (w.putObj l o):=
 ⟨rfl,rfl,rfl,by simp[World.putObj],fun k _ hn=>World.putObj_heap_other hn⟩

def fpR(D:Nat)(fp:World→Nat→Prop)(W:World)(j:Nat):Prop:=j=D∨j=D+1∨fp W j

def endG(go:Bool)(bid:Nat):Exit:=if go=true then .normal else .exit bid

end Go.Proofs.YtcfociogljhbiaaGreatDoor

namespace Go.Proofs.YtcfociogljhbiaaGreatDoor

def let8(c:Nat):Bool:=decide (97≤c∧c≤122) || decide (48≤c∧c≤57) || c==46 || c==95 || c==45

def prt8(p:List Nat):Bool:=!(p==[]) && !(p==[46]) && !(p==[46,46])

def okp8(p:List Nat):Bool:=prt8 p && p.all let8

def spl8:List Nat→List (List Nat)
 | []=>[[]]
 | c::r=>if c=47 then []::spl8 r else match spl8 r with
  | []=>[[c]]
  | p::ps=>(c::p)::ps

theorem spl8_ne(l:List Nat):∃p ps,spl8 l=p::ps:=by
 cases l with
 | nil=>exact⟨_,_,rfl⟩
 | cons c r=>
  unfold spl8
  split
  ·exact⟨_,_,rfl⟩
  ·split
   ·exact⟨_,_,rfl⟩
   ·exact⟨_,_,rfl⟩

theorem spl8_cons{c:Nat}{r p:List Nat}{ps:List (List Nat)}(hc:c≠47)(h:spl8 r=p::ps):spl8 (c::r)=(c::p)::ps:=by
 rw[spl8,if_neg hc,h]

def nam8(l:List Nat):Bool:=decide (l.length≤64) && (spl8 l).all okp8

def go8(cur:List Nat):List Nat→Bool
 | []=>prt8 cur
 | c::r=>if c=47 then prt8 cur && go8 [] r else let8 c && go8 (cur++[c]) r

theorem go8_is(cur l:List Nat)(h:cur.all let8=true){p:List Nat}{ps:List (List Nat)}(hs:spl8 l=p::ps):go8 cur l=(okp8 (cur++p) && ps.all okp8):=by
 induction l generalizing cur p ps with
 | nil=>
  simp only[spl8,List.cons.injEq]at hs
  obtain⟨rfl,rfl⟩:=hs
  simp[go8,okp8,h]
 | cons c r ih=>
  by_cases hc:c=47
  ·subst hc
   rw[spl8,if_pos rfl]at hs
   simp only[List.cons.injEq]at hs
   obtain⟨rfl,rfl⟩:=hs
   obtain⟨q,qs,hq⟩:=spl8_ne r
   rw[go8,if_pos rfl,ih [] rfl hq,hq]
   simp[okp8,h]
  ·obtain⟨q,qs,hq⟩:=spl8_ne r
   rw[spl8_cons hc hq]at hs
   simp only[List.cons.injEq]at hs
   obtain⟨rfl,rfl⟩:=hs
   rw[go8,if_neg hc]
   by_cases hl:let8 c=true
   ·rw[hl,Bool.true_and,ih (cur++[c]) (by simp[h,hl]) hq]
    simp
   ·have hl':let8 c=false:=by simpa using hl
    rw[hl']
    have:okp8 (cur++c::q)=false:=by simp[okp8,hl']
    rw[this]
    simp

theorem go8_nam(l:List Nat):(decide (l.length≤64) && go8 [] l)=nam8 l:=by
 obtain⟨p,ps,h⟩:=spl8_ne l
 rw[go8_is [] l rfl h,nam8,h]
 simp

end Go.Proofs.YtcfociogljhbiaaGreatDoor

namespace Go.Proofs.YtcfociogljhbiaaGreatDoor
open Go.RowKit

theorem splitK_eq(k:Nat)(l:List UInt8):Lib.splitK [47] 0 (k+1) (47::l)=[]::Lib.splitK [47] 0 k l:=by
 have h:Lib.index (47::l) [47]=0:=by rw[Lib.index_one];simp[Lib.indexByte]
 rw[Lib.splitK,h]
 simp

theorem splitK_ne(b:UInt8)(hb:b≠47)(k:Nat)(l:List UInt8):∃p ps,Lib.splitK [47] 0 k l=p::ps∧Lib.splitK [47] 0 k (b::l)=(b::p)::ps:=by
 cases k with
 | zero=>exact⟨l,[],rfl,rfl⟩
 | succ k=>
  have h1:Lib.index (b::l) [47]=if Lib.index l [47]==-1 then -1 else Lib.index l [47]+1:=by
   rw[Lib.index_one,Lib.index_one,Lib.indexByte,if_neg (by simpa using hb)]
  have hge:=Lib.index_ge l [47]
  by_cases h:Lib.index l [47]=-1
  ·refine⟨l,[],?_,?_⟩
   ·rw[Lib.splitK,if_pos (by simp[h])]
   ·rw[Lib.splitK,h1,h];simp
  ·obtain⟨i,hi⟩:∃i:Nat,Lib.index l [47]=(i:Int):=⟨(Lib.index l [47]).toNat,by omega⟩
   have hne:¬((i:Int)==-1)=true:=by simp
   refine⟨l.take (i+0),Lib.splitK [47] 0 k (l.drop (i+1)),?_,?_⟩
   ·rw[Lib.splitK,hi,if_neg hne];simp
   ·rw[Lib.splitK,h1,hi,if_neg hne,if_neg (by simp;omega)]
    have e:((i:Int)+1).toNat=i+1:=by omega
    rw[e]
    simp

theorem split_spl(l:List UInt8):(Lib.splitK [47] 0 (l.count 47) l).map (·.map UInt8.toNat)=spl8 (l.map UInt8.toNat):=by
 induction l with
 | nil=>rfl
 | cons b r ih=>
  by_cases hb:b=47
  ·subst hb
   rw[List.count_cons_self,splitK_eq,List.map_cons,List.map_cons,spl8,if_pos (by decide),ih]
   rfl
  ·obtain⟨p,ps,h1,h2⟩:=splitK_ne b hb (r.count 47) r
   rw[List.count_cons_of_ne (by simpa using hb),h2,List.map_cons]
   rw[h1,List.map_cons]at ih
   have hb':b.toNat≠47:=fun e=>hb (by have:=congrArg UInt8.ofNat e;simpa using this)
   have e:=spl8_cons hb' ih.symm
   show _=spl8 (b.toNat::List.map UInt8.toNat r)
   rw[e]
   rfl

def lets8:List UInt8:=[97,98,99,100,101,102,103,104,105,106,107,108,109,110,111,112,113,114,115,116,117,118,119,120,121,122,48,49,50,51,52,53,54,55,56,57,46,95,45]

theorem lets_fin:∀n:Fin 256,lets8.contains (UInt8.ofNat n.val)=let8 n.val:=by decide +kernel

theorem lets_is(b:UInt8):lets8.contains b=let8 b.toNat:=by
 have:=lets_fin ⟨b.toNat,b.toNat_lt⟩
 simpa using this

theorem trim_nil(l:List UInt8):Lib.trimS l lets8=[]↔(l.map UInt8.toNat).all let8=true:=by
 have hall:(l.map UInt8.toNat).all let8=l.all (lets8.contains ·):=by
  rw[List.all_map]
  congr 1
  funext b
  exact(lets_is b).symm
 rw[hall]
 unfold Lib.trimS Lib.trimLeftS Lib.trimRightS
 constructor
 ·intro h
  have hd:∀(q:UInt8→Bool) (m:List UInt8),m.dropWhile q=[]→m.all q=true:=by
   intro q m hm
   induction m with
   | nil=>rfl
   | cons x r ih=>
    rw[List.dropWhile_cons]at hm
    split at hm
    ·rename_i hx;simp[hx,ih hm]
    ·cases hm
  have h1:=hd _ _ h
  cases hr:l.reverse.dropWhile (lets8.contains ·) with
  | nil=>
   have:=hd _ _ hr
   rw[List.all_reverse]at this
   exact this
  | cons x r=>
   exfalso
   have hx:=List.head_dropWhile_not (p:=(lets8.contains ·)) (l:=l.reverse) (by rw[hr];simp)
   have e:(l.reverse.dropWhile (lets8.contains ·)).head (by rw[hr];simp)=x:=by simp only[hr,List.head_cons]
   rw[e]at hx
   rw[hr]at h1
   have h2:lets8.contains x=true:=by
    rw[List.all_eq_true]at h1
    exact h1 x (by simp)
   rw[h2]at hx
   cases hx
 ·intro h
  have hr:l.reverse.dropWhile (lets8.contains ·)=[]:=by
   have h2:l.reverse.all (lets8.contains ·)=true:=by rw[List.all_reverse];exact h
   generalize l.reverse=m at h2
   induction m with
   | nil=>rfl
   | cons x r ih=>
    simp only[List.all_cons,Bool.and_eq_true]at h2
    rw[List.dropWhile_cons,if_pos h2.1]
    exact ih h2.2
  rw[hr]
  rfl

def prts(s:ByteArray):List ByteArray:=Lib.splitB ⟨#[47]⟩ 0 (Lib.countB s ⟨#[47]⟩) s

theorem prts_spl(s:ByteArray):(prts s).map sb=spl8 (sb s):=by
 have h:=Lib.splitB_data ⟨#[47]⟩ 0 (Lib.countB s ⟨#[47]⟩) s
 have h2:=split_spl s.data.toList
 have e:Lib.countB s ⟨#[47]⟩=s.data.toList.count 47:=Lib.count_one 47 _
 rw[←e,←h,List.map_map]at h2
 exact h2

theorem prts_len(s:ByteArray):(prts s).length=Lib.countB s ⟨#[47]⟩+1:=Lib.splitB_all ⟨#[47]⟩ (by decide) 0 _ s rfl

theorem map_toNat_inj:∀{l m:List UInt8},l.map UInt8.toNat=m.map UInt8.toNat→l=m
 | [],[],_=>rfl
 | [],_::_,h=>by simp at h
 | _::_,[],h=>by simp at h
 | a::l,b::m,h=>by
  simp only[List.map_cons,List.cons.injEq]at h
  rw[UInt8.toNat_inj.1 h.1,map_toNat_inj h.2]

theorem part_is(t:ByteArray):okp8 (sb t)=(!t.toList.isEmpty && !(t.toList==[46]) && !(t.toList==[46,46]) && (⟨(Lib.trimS t.data.toList lets8).toArray⟩:ByteArray).toList.isEmpty):=by
 have hm:∀l m:List UInt8,(l.map UInt8.toNat==m.map UInt8.toNat)=(l==m):=by
  intro l m
  by_cases h:l=m
  ·subst h;simp
  ·have h2:l.map UInt8.toNat≠m.map UInt8.toNat:=fun e=>h (map_toNat_inj e)
   rw[beq_eq_false_iff_ne.2 h,beq_eq_false_iff_ne.2 h2]
 have h0:t.toList.isEmpty=(sb t==[]):=by
  rw[Lib.toList_data]
  have:=hm t.data.toList []
  unfold sb
  rw[show([]:List Nat)=([]:List UInt8).map UInt8.toNat from rfl,this]
  cases t.data.toList<;>rfl
 have h1:(t.toList==[46])=(sb t==[46]):=by rw[Lib.toList_data];exact(hm t.data.toList [46]).symm
 have h2:(t.toList==[46,46])=(sb t==[46,46]):=by rw[Lib.toList_data];exact(hm t.data.toList [46,46]).symm
 have h3:(⟨(Lib.trimS t.data.toList lets8).toArray⟩:ByteArray).toList.isEmpty=(sb t).all let8:=by
  rw[Lib.toList_data]
  show(Lib.trimS t.data.toList lets8).isEmpty=_
  have:=trim_nil t.data.toList
  unfold sb
  cases h4:(List.map UInt8.toNat t.data.toList).all let8 with
  | true=>rw[this.2 h4];rfl
  | false=>
   cases h5:Lib.trimS t.data.toList lets8 with
   | nil=>rw[this.1 h5]at h4;cases h4
   | cons x r=>rfl
 rw[h0,h1,h2,h3]
 rfl

theorem nam_bad{s t:ByteArray}{n i:Nat}(h:nam8 (sb s)=(prts s).all (fun t=>okp8 (sb t)))(hn:n=(prts s).length)(ht:t=(prts s).getD i ⟨#[]⟩∧i<n)(hb:okp8 (sb t)=false):nam8 (sb s)=false:=by
 rw[h,List.all_eq_false]
 refine⟨t,?_,by rw[hb];simp⟩
 rw[ht.1,List.getD_eq_getElem?_getD,List.getElem?_eq_getElem (by omega)]
 exact List.getElem_mem _

theorem spl8_len(l:List Nat):∀p∈spl8 l,p.length≤l.length:=by
 induction l with
 | nil=>intro p hp;simp[spl8]at hp;subst hp;simp
 | cons c r ih=>
  intro p hp
  by_cases hc:c=47
  ·rw[spl8,if_pos hc]at hp
   rcases List.mem_cons.1 hp with rfl | hp
   ·simp
   ·have:=ih p hp;simp;omega
  ·obtain⟨q,qs,hq⟩:=spl8_ne r
   rw[spl8_cons hc hq]at hp
   rcases List.mem_cons.1 hp with rfl | hp
   ·have:=ih q (by rw[hq];simp);simp;omega
   ·have:=ih p (by rw[hq];simp[hp]);simp;omega

theorem prt_size{s t:ByteArray}{i n:Nat}(hn:n=(prts s).length)(ht:t=(prts s).getD i ⟨#[]⟩∧i<n):t.size≤s.size:=by
 have h1:sb t∈spl8 (sb s):=by
  rw[←prts_spl]
  refine List.mem_map.2 ⟨t,?_,rfl⟩
  rw[ht.1,List.getD_eq_getElem?_getD,List.getElem?_eq_getElem (by omega)]
  exact List.getElem_mem _
 have:=spl8_len _ _ h1
 rw[sb_size,sb_size]at this
 exact this

set_option maxRecDepth 100000 in
set_option maxHeartbeats 400000 in
theorem name_any(w:World)(s:ByteArray)(hx:Mxl w):
  Calls Tryz.prog 107 #[.string s] w fun e w'=>e=.returned (.bool (nam8 (sb s)))∧Same w w':=by
 obtain⟨mx,hmx⟩:=hx
 have hsz:=sb_size s
 by_cases hbig:64<s.size
 ·have b1:(64:Int)<(s.size:Int):=by omega
  have HN:Hid (nam8 (sb s)=false):=hid (by unfold nam8;rw[hsz];simp;omega)
  clear hmx hsz hbig
  go_enter Tryz.func107,Tryz.ntmps107
  go_wp2_with fail
  go_ret
  exact⟨by rw[HN.out];rfl,Kept.refl _ _⟩
 ·have b1:(s.size:Int)≤(64:Int):=by omega
  obtain⟨n,hn⟩:∃n,n=(prts s).length:=⟨_,rfl⟩
  have hcn:Lib.countB s ⟨#[47]⟩+1=n:=by rw[hn,prts_len]
  have HSP:=Any.strings_Split Tryz.lays146 (by kernel_rfl) s ⟨#[47]⟩ mx w (by omega) hmx (by decide)
  rw[hcn]at HSP
  have HN:Hid (nam8 (sb s)=(prts s).all (fun t=>okp8 (sb t))):=hid (by
   unfold nam8
   rw[hsz,←prts_spl,List.all_map]
   have:decide (s.size≤64)=true:=by simp;omega
   rw[this];rfl)
  have HLN:Hid (n=(prts s).length∧n≤65):=hid ⟨hn,by rw[←hcn];have:=Lib.countB_le ⟨#[47]⟩ (by decide) s.size s (Nat.le_refl _);omega⟩
  obtain⟨h0,hh0⟩:∃h0,h0=w.heap.size:=⟨_,rfl⟩
  rw[←hh0]at HSP
  have HCL:Hid (∀j,j<n→(w.alloc (.cells ((prts s).map Value.string).toArray 9)).cell? ⟨h0,j,none⟩=some (.string ((prts s).getD j ⟨#[]⟩))):=hid (by
   intro j hj
   have hb:=Blk.new w ((prts s).map Value.string).toArray 9
   have h9:=hb.cell j
   rw[hh0,h9]
   simp[List.getD_eq_getElem?_getD,List.getElem?_eq_getElem (show j<(prts s).length by omega)])
  clear hmx hsz hbig hn hcn
  go_enter Tryz.func107,Tryz.ntmps107
  go_wp2_with fail
  refine HSP.mono ?_
  rintro x w1 ⟨rfl,hw1⟩
  have HK1:Hid (Same w w1):=hid (by rw[hw1];exact(Kept.refl _ _).alloc _)
  have HC1:Hid (∀j,j<n→w1.cell? ⟨h0,j,none⟩=some (.string ((prts s).getD j ⟨#[]⟩))):=hid (by rw[hw1];exact HCL.out)
  clear hw1 HCL hh0 HSP
  go_wp2_with fail
  go_loopg [11] n (fun qq z11 wr=>∃i:Nat,z11=.int .i64 (i:Nat)∧i≤n∧n-i≤qq∧Hid (∀j,j<i→okp8 (sb ((prts s).getD j ⟨#[]⟩))=true)∧Hid (Same w1 wr))
  case atStart=>exact⟨0,rfl,by omega,by omega,hid (fun j hj=>by omega),hid (Kept.refl _ _)⟩
  case round=>
   obtain⟨i,rfl,hi1,hiq,HOK,HKi⟩:=hrel
   by_cases hi:i<n
   ·have hli:decide (i<n)=true:=by simp;omega
    obtain⟨t,ht⟩:∃t,t=(prts s).getD i ⟨#[]⟩:=⟨_,rfl⟩
    have hc:=HKi.out.cell (HC1.out i hi) (fun f=>f)
    rw[←ht]at hc
    have HP:Hid _:=hid (part_is t)
    have HTT:Hid (t=(prts s).getD i ⟨#[]⟩∧i<n):=hid ⟨ht,hi⟩
    have hiw:IntKind.i64.wrap ((i:Int)+1)=((i+1:Nat):Int):=by rw[IntKind.wrap_i64];have:=HLN.out.2;omega
    have h64:n≤65:=HLN.out.2
    clear ht HC1
    cases B1:t.toList.isEmpty with
    | true=>
     go_wp2_with fail
     go_ret
     refine⟨?_,Same.trans HK1.out HKi.out⟩
     rw[nam_bad HN.out HLN.out.1 HTT.out (by rw[HP.out,B1];rfl)]
     rfl
    | false=>
     cases B2:(t.toList==[46]) with
     | true=>
      go_wp2_with fail
      go_ret
      refine⟨?_,Same.trans HK1.out HKi.out⟩
      rw[nam_bad HN.out HLN.out.1 HTT.out (by rw[HP.out,B1,B2];rfl)]
      rfl
     | false=>
      cases B3:(t.toList==[46,46]) with
      | true=>
       go_wp2_with fail
       go_ret
       refine⟨?_,Same.trans HK1.out HKi.out⟩
       rw[nam_bad HN.out HLN.out.1 HTT.out (by rw[HP.out,B1,B2,B3];rfl)]
       rfl
      | false=>
       have HTR:=Any.strings_Trim_laid Tryz.lays160 (by kernel_rfl) t ⟨#[97,98,99,100,101,102,103,104,105,106,107,108,109,110,111,112,113,114,115,116,117,118,119,120,121,122,48,49,50,51,52,53,54,55,56,57,46,95,45]⟩ wr (by have:=prt_size HLN.out.1 HTT.out;omega) (by decide) (ascii_of_all (by decide))
       go_wp2_with fail
       refine HTR.mono ?_
       rintro x w2 ⟨rfl,hb2⟩
       have HK2:Hid (Same wr w2):=hid (Kept.ofBelow hb2)
       obtain⟨tr,htr⟩:∃tr:ByteArray,tr=⟨(Lib.trimS t.data.toList lets8).toArray⟩:=⟨_,rfl⟩
       have HP:Hid (okp8 (sb t)=(!t.toList.isEmpty && !(t.toList==[46]) && !(t.toList==[46,46]) && tr.toList.isEmpty)):=hid (by rw[htr];exact HP.out)
       rw[show(⟨(Lib.trimS t.data.toList (ByteArray.mk #[97,98,99,100,101,102,103,104,105,106,107,108,109,110,111,112,113,114,115,116,117,118,119,120,121,122,48,49,50,51,52,53,54,55,56,57,46,95,45]).data.toList).toArray⟩:ByteArray)=tr from htr.symm]
       clear htr hb2 HTR
       cases B4:tr.toList.isEmpty with
       | false=>
        go_wp2_with fail
        go_ret
        refine⟨?_,Same.trans HK1.out (Same.trans HKi.out HK2.out)⟩
        rw[nam_bad HN.out HLN.out.1 HTT.out (by rw[HP.out,B1,B2,B3,B4];rfl)]
        rfl
       | true=>
        go_wp2_with fail
        have HO2:Hid (∀j,j<i+1→okp8 (sb ((prts s).getD j ⟨#[]⟩))=true):=hid (by
         intro j hj
         by_cases e:j<i
         ·exact HOK.out j e
         ·obtain rfl:j=i:=by omega
          rw[←HTT.out.1,HP.out,B1,B2,B3,B4]
          rfl)
        go_roundg (gk-1)
        case measure=>omega
        case rel=>exact⟨i+1,by go_num,by omega,by omega,HO2,hid (Same.trans HKi.out HK2.out)⟩
   ·have hli:decide (i<n)=false:=by simp;omega
    obtain rfl:i=n:=by omega
    clear HC1
    go_wp2_with fail
    go_ret
    refine⟨?_,Same.trans HK1.out HKi.out⟩
    have h9:nam8 (sb s)=true:=by
     rw[HN.out,List.all_eq_true]
     intro t ht
     obtain⟨j,hj,e⟩:=List.getElem_of_mem ht
     have:=HOK.out j (by have:=HLN.out;omega)
     rw[List.getD_eq_getElem?_getD,List.getElem?_eq_getElem hj,e]at this
     exact this
    rw[h9]
    rfl

end Go.Proofs.YtcfociogljhbiaaGreatDoor

namespace Go.Proofs.YtcfociogljhbiaaGreatDoor
open Go.RowKit

theorem sb_list(s:ByteArray):sb s=s.toList.map UInt8.toNat:=by rw[Lib.toList_data];rfl

theorem map_beq(l:List UInt8)(r:List UInt8):(l.map UInt8.toNat==r.map UInt8.toNat)=(l==r):=by
 by_cases h:l=r
 ·subst h;simp
 ·rw[beq_eq_false_iff_ne.2 h]
  refine beq_eq_false_iff_ne.2 (fun e=>h ?_)
  have hi:Function.Injective UInt8.toNat:=fun a b e=>UInt8.toNat_inj.1 e
  exact List.map_inj_right (fun a b e=>hi e) |>.1 e

theorem prt8_is(s:ByteArray):prt8 (sb s)=(!(s.toList==[]) && !(s.toList==[46]) && !(s.toList==[46,46])):=by
 have h0:=map_beq s.toList []
 have h1:=map_beq s.toList [46]
 have h2:=map_beq s.toList [46,46]
 unfold prt8
 rw[sb_list,←h0,←h1,←h2]
 rfl

theorem sb_ext(s:ByteArray)(f i:Nat):sb (s.extract f i)=((sb s).take i).drop f:=by
 unfold sb
 rw[ByteArray.data_extract,Array.toList_extract,List.extract_eq_take_drop,←List.map_take,←List.map_drop,List.drop_take]

theorem sb_at(s:ByteArray)(i:Nat)(h:i<s.size):(sb s)[i]? = some s[i].toNat:=by
 unfold sb
 rw[List.getElem?_map]
 have:s.data.toList[i]? = some s[i]:=by
  rw[Array.getElem?_toList,Array.getElem?_eq_getElem h]
  rfl
 rw[this]
 rfl

theorem go8_step(cur l:List Nat)(i x:Nat)(h:l[i]? = some x):go8 cur (l.drop i)=if x=47 then prt8 cur && go8 [] (l.drop (i+1))else let8 x && go8 (cur++[x]) (l.drop (i+1)):=by
 have hi:=(List.getElem?_eq_some_iff.1 h).1
 have e:=(List.getElem?_eq_some_iff.1 h).2
 rw[List.drop_eq_getElem_cons hi,e,go8]

theorem cur_step(l:List Nat)(f i x:Nat)(h:l[i]? = some x)(hf:f≤i):(l.take (i+1)).drop f=(l.take i).drop f++[x]:=by
 have hi:=(List.getElem?_eq_some_iff.1 h).1
 rw[List.take_add_one,h,List.drop_append_of_le_length (by rw[List.length_take];omega)]
 rfl

set_option maxHeartbeats 400000 in
theorem rpart_any(w:World)(s:ByteArray):
  Calls Tryz.prog 153 #[.string s] w fun e w'=>e=.returned (.bool (prt8 (sb s)))∧w'=w:=by
 have HP:Hid (prt8 (sb s)=(!(s.toList==[]) && !(s.toList==[46]) && !(s.toList==[46,46]))):=hid (prt8_is s)
 go_enter Tryz.func153,Tryz.ntmps153
 go_wp2_with fail
 all_goals
  go_ret
  refine⟨?_,rfl⟩
  rw[HP.out]
  simp_all

set_option maxRecDepth 100000 in
set_option maxHeartbeats 1000000 in
theorem rname_any(w:World)(s:ByteArray)(hn:s.size≤100000000):
  Calls Tryz.prog 124 #[.string s] w fun e w'=>e=.returned (.bool (nam8 (sb s)))∧w'=w:=by
 obtain⟨l,hl⟩:∃l,l=sb s:=⟨_,rfl⟩
 obtain⟨n,hnn⟩:∃n,n=s.size:=⟨_,rfl⟩
 have HN:Hid (l=sb s∧n=s.size∧l.length=n):=hid ⟨hl,hnn,by rw[hl,sb_size,hnn]⟩
 rw[←hl]
 have hlen:(s.size:Int)=(n:Int):=by rw[hnn]
 have HG:Hid (nam8 l=(decide (n≤64) && go8 [] l)):=hid (by rw[←HN.out.2.2,go8_nam])
 have hnb:n≤100000000:=by omega
 clear hl hnn hn
 by_cases h1:n<1
 ·have HF:Hid (nam8 l=false):=hid (by
   have:l=[]:=List.eq_nil_of_length_eq_zero (by have:=HN.out;omega)
   rw[this];rfl)
  go_enter Tryz.func124,Tryz.ntmps124
  go_wp2_with fail
  all_goals
   go_ret
   exact⟨by rw[HF.out];rfl,rfl⟩
 ·by_cases h2:64<n
  ·have HF:Hid (nam8 l=false):=hid (by
    rw[HG.out,decide_eq_false (by omega)];rfl)
   go_enter Tryz.func124,Tryz.ntmps124
   go_wp2_with fail
   all_goals
    go_ret
    exact⟨by rw[HF.out];rfl,rfl⟩
  ·have HF:Hid (nam8 l=go8 [] l):=hid (by rw[HG.out,decide_eq_true (by omega)];rfl)
   clear HG
   go_enter Tryz.func124,Tryz.ntmps124
   go_wp2_with fail
   go_loopg [3,4] (n+1) (fun k z3 z4 wr=>∃(f i:Nat),z3=.int .i64 (f:Nat)∧z4=.int .i64 (i:Nat)∧n+1-i≤k∧wr=w∧i≤n+1∧f≤i∧Hid ((i≤n→nam8 l=go8 ((l.take i).drop f) (l.drop i))∧(i=n+1→nam8 l=true)))
   case atStart=>exact⟨0,0,rfl,rfl,by omega,rfl,by omega,by omega,hid ⟨fun _=>by rw[HF.out];rfl,fun h=>by omega⟩⟩
   case round=>
    obtain⟨f,i,rfl,rfl,hk,rfl,hi,hfi,HI⟩:=hrel
    have hiw:IntKind.i64.wrap ((i:Int)+1)=((i+1:Nat):Int):=by rw[IntKind.wrap_i64];omega
    have f0:(0:Int)≤(f:Int):=by omega
    have f1:(f:Int)≤(i:Int):=by omega
    by_cases hin:i≤n
    ·have f2:(i:Int)≤(n:Int):=by omega
     have b1:decide ((i:Int)≤(n:Int))=true:=by simp;omega
     have b1':decide (i≤n)=true:=by simp;omega
     have HPT:=rpart_any wr (s.extract f i)
     rw[sb_ext,←HN.out.1]at HPT
     obtain⟨cur,hcur⟩:∃c,c=(l.take i).drop f:=⟨_,rfl⟩
     rw[←hcur]at HPT HI
     have HCU:Hid (cur=(l.take i).drop f):=hcur
     obtain⟨T,hT⟩:∃T,T=s.extract f i:=⟨_,rfl⟩
     rw[←hT]at HPT
     clear hcur
     by_cases hie:i=n
     ·have b2:((i:Int)==(n:Int))=true:=by simp;omega
      have HG:Hid (nam8 l=prt8 cur):=hid (by
       rw[HI.out.1 hin,List.drop_eq_nil_of_le (by have:=HN.out;omega)]
       rfl)
      have HIE:Hid (i=n):=hie
      clear hie
      cases hp:prt8 cur with
      | true=>
       rw[hp]at HPT
       have HG:Hid (nam8 l=true):=hid (by rw[HG.out,hp])
       clear hp
       go_wp2_with fail
       try rw[←hT]
       refine HPT.mono ?_
       rintro e w2 ⟨rfl,hw2⟩
       subst hw2
       clear HPT
       go_wp2_with fail
       go_roundg (gk-1)
       case measure=>omega
       case rel=>exact⟨i+1,i+1,by go_num,by go_num,by omega,rfl,by omega,Nat.le_refl _,hid ⟨fun h=>by have:=HIE.out;omega,fun _=>HG.out⟩⟩
      | false=>
       rw[hp]at HPT
       have HG:Hid (nam8 l=false):=hid (by rw[HG.out,hp])
       clear hp
       go_wp2_with fail
       try rw[←hT]
       refine HPT.mono ?_
       rintro e w2 ⟨rfl,hw2⟩
       subst hw2
       clear HPT
       go_wp2_with fail
       go_ret
       exact⟨by rw[HG.out];rfl,rfl⟩
     ·have i1:(0:Int)≤(i:Int):=by omega
      have i2:(i:Int)<(n:Int):=by omega
      have b2:((i:Int)==(n:Int))=false:=by simp;omega
      have hsz:i<s.size:=by have:=HN.out;omega
      have hat:=sb_at s i hsz
      rw[←HN.out.1]at hat
      obtain⟨x,hx⟩:∃x,x=s[i].toNat:=⟨_,rfl⟩
      rw[←hx]at hat
      have HG:Hid (nam8 l=if x=47 then prt8 cur && go8 [] (l.drop (i+1))else let8 x && go8 (cur++[x]) (l.drop (i+1))):=hid (by rw[HI.out.1 hin];exact go8_step cur l i x hat)
      have HCS:Hid ((l.take (i+1)).drop f=cur++[x]):=hid (by rw[HCU.out];exact cur_step l f i x hat hfi)
      have hxI:(s[i].toNat:Int)=(x:Int):=by rw[hx]
      clear hx hat hie HI HCU
      by_cases h47:x=47
      ·have b3:((x:Int)==47)=true:=by simp;omega
       have HG:Hid (nam8 l=(prt8 cur && go8 [] (l.drop (i+1)))):=hid (by rw[HG.out,if_pos h47])
       clear h47
       cases hp:prt8 cur with
       | true=>
        rw[hp]at HPT
        have HG:Hid (nam8 l=go8 [] (l.drop (i+1))):=hid (by rw[HG.out,hp];rfl)
        clear hp
        go_wp2_with fail
        try rw[←hT]
        refine HPT.mono ?_
        rintro e w2 ⟨rfl,hw2⟩
        subst hw2
        clear HPT
        go_wp2_with fail
        go_roundg (gk-1)
        case measure=>omega
        case rel=>exact⟨i+1,i+1,by go_num,by go_num,by omega,rfl,by omega,Nat.le_refl _,hid ⟨fun h=>by rw[show(l.take (i+1)).drop (i+1)=[]from List.drop_eq_nil_of_le (by rw[List.length_take];omega)];exact HG.out,fun h=>by omega⟩⟩
       | false=>
        rw[hp]at HPT
        have HG:Hid (nam8 l=false):=hid (by rw[HG.out,hp];rfl)
        clear hp
        go_wp2_with fail
        try rw[←hT]
        refine HPT.mono ?_
        rintro e w2 ⟨rfl,hw2⟩
        subst hw2
        clear HPT
        go_wp2_with fail
        go_ret
        exact⟨by rw[HG.out];rfl,rfl⟩
      ·have b3:((x:Int)==47)=false:=by simp;omega
       have HG:Hid (nam8 l=(let8 x && go8 (cur++[x]) (l.drop (i+1)))):=hid (by rw[HG.out,if_neg h47])
       have HNX:Hid (let8 x=true→(i+1≤n→nam8 l=go8 ((l.take (i+1)).drop f) (l.drop (i+1)))∧(i+1=n+1→nam8 l=true)):=hid (fun h=>⟨fun _=>by rw[HG.out,h,HCS.out];rfl,fun h=>by omega⟩)
       have HNO:Hid (let8 x=false→nam8 l=false):=hid (fun h=>by rw[HG.out,h];rfl)
       have hcl:(97≤x∧x≤122)∨(48≤x∧x≤57)∨x=46∨x=95∨x=45∨(x<48∧x≠45∧x≠46)∨(58≤x∧x≤96∧x≠95)∨123≤x:=by omega
       clear h47 HG HPT hT HCS
       rcases hcl with hc | hc | hc | hc | hc | hc | hc | hc
       all_goals
        first | (have q1:decide ((x:Int)<97)=true:=by simp;omega) | (have q1:decide ((x:Int)<97)=false:=by simp;omega)
        first | (have q2:decide (122<(x:Int))=true:=by simp;omega) | (have q2:decide (122<(x:Int))=false:=by simp;omega)
        first | (have q3:decide ((x:Int)<48)=true:=by simp;omega) | (have q3:decide ((x:Int)<48)=false:=by simp;omega)
        first | (have q4:decide (57<(x:Int))=true:=by simp;omega) | (have q4:decide (57<(x:Int))=false:=by simp;omega)
        first | (have q5:((x:Int) != 46)=true:=by simp;omega) | (have q5:((x:Int) != 46)=false:=by simp;omega)
        first | (have q6:((x:Int) != 95)=true:=by simp;omega) | (have q6:((x:Int) != 95)=false:=by simp;omega)
        first | (have q7:((x:Int) != 45)=true:=by simp;omega) | (have q7:((x:Int) != 45)=false:=by simp;omega)
        first
         | (have HL:Hid (let8 x=true):=hid (by unfold let8;simp;omega)
            clear hc
            go_wp2_with fail
            go_roundg (gk-1)
            case measure=>omega
            case rel=>exact⟨f,i+1,rfl,by go_num,by omega,rfl,by omega,by omega,hid (HNX.out HL.out)⟩)
         | (have HL:Hid (let8 x=false):=hid (by unfold let8;simp;omega)
            clear hc
            go_wp2_with fail
            go_ret
            exact⟨by rw[HNO.out HL.out];rfl,rfl⟩)
    ·have b1:decide ((i:Int)≤(n:Int))=false:=by simp;omega
     have b1':decide (i≤n)=false:=by simp;omega
     have HG:Hid (nam8 l=true):=hid (HI.out.2 (by omega))
     clear hin
     go_wp2_with fail
     go_ret
     exact⟨by rw[HG.out];rfl,rfl⟩

end Go.Proofs.YtcfociogljhbiaaGreatDoor
