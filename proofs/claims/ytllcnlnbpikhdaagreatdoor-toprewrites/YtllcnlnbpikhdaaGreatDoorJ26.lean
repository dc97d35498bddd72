import Derived.Lib.SplitLaws
import Derived.Test.YtllcnlnbpikhdaaGreatDoorJ22
import Derived.Test.YtllcnlnbpikhdaaGreatDoorJ5
set_option maxHeartbeats 1000000
set_option maxRecDepth 100000
namespace Go.Proofs.YtllcnlnbpikhdaaGreatDoor
open Go.RowKit
theorem Dx(k:Nat)(l:List UInt8):Lib.splitK [47] 0 (k+1) (47::l)=[]::Lib.splitK [47] 0 k l:=by
 have h:Lib.index (47::l) [47]=0:=by rw[Lib.index_one];simp[Lib.indexByte]
 rw[Lib.splitK,h];simp
theorem CM(b:UInt8)(hb:b≠47)(k:Nat)(l:List UInt8):∃p ps,Lib.splitK [47] 0 k l=p::ps/\Lib.splitK [47] 0 k (b::l)=(b::p)::ps:=by
 cases k with
 | zero=>exact⟨l,[],rfl,rfl⟩
 | succ k=>
  have h1:Lib.index (b::l) [47]=if Lib.index l [47]==-1 then -1 else Lib.index l [47]+1:=(by rw[Lib.index_one,Lib.index_one,Lib.indexByte,if_neg (by simpa using hb)]);have MD:=Lib.index_ge l [47];by_cases h:Lib.index l [47]=-1
  ·refine⟨l,[],?_,?_⟩
   ·rw[Lib.splitK,if_pos (by simp[h])]
   ·rw[Lib.splitK,h1,h];simp
  ·obtain⟨i,hi⟩:∃i:Nat,Lib.index l [47]=(i:Int):=⟨(Lib.index l [47]).toNat,by omega⟩
   have bh:¬((i:Int)==-1)=true:=(by simp);refine⟨l.take (i+0),Lib.splitK [47] 0 k (l.drop (i+1)),?_,?_⟩
   ·rw[Lib.splitK,hi,if_neg bh];simp
   ·rw[Lib.splitK,h1,hi,if_neg bh,if_neg (by simp;omega)];have e:((i:Int)+1).toNat=i+1:=(by omega);rw[e];simp
theorem DK(l:List UInt8):(Lib.splitK [47] 0 (l.count 47) l).map (·.map UInt8.toNat)=kP (l.map UInt8.toNat):=by
 induction l with
 | nil=>rfl
 | cons b r ih=>
  by_cases hb:b=47
  ·subst hb;rw[List.count_cons_self,Dx,List.map_cons,List.map_cons,kP,if_pos (by decide),ih];rfl
  ·obtain⟨p,ps,h1,h2⟩:=CM b hb (r.count 47) r;rw[List.count_cons_of_ne (by simpa using hb),h2,List.map_cons];rw[h1,List.map_cons]at ih;have iH:b.toNat≠47:=λe=>hb (by have:=congrArg UInt8.ofNat e;simpa using this)
   have e:=sd iH ih.symm;show _=kP (b.toNat::List.map UInt8.toNat r);rw[e];rfl
def lets8:List UInt8:=[97,98,99,100,101,102,103,104,105,106,107,108,109,110,111,112,113,114,115,116,117,118,119,120,121,122,48,49,50,51,52,53,54,55,56,57,46,95,45]
theorem Fk:∀n:Fin 256,lets8.contains (UInt8.ofNat n.val)=yB n.val:=by decide +kernel
theorem Jf(b:UInt8):lets8.contains b=yB b.toNat:=by have:=Fk ⟨b.toNat,b.toNat_lt⟩;simpa using this
theorem FN(l:List UInt8):Lib.trimS l lets8=[]↔(l.map UInt8.toNat).all yB=true:=by
 have Eg:(l.map UInt8.toNat).all yB=l.all (lets8.contains ·):=by rw[List.all_map];congr 1;funext b;exact(Jf b).symm
 rw[Eg];unfold Lib.trimS Lib.trimLeftS Lib.trimRightS;constructor
 ·intro h;have hd:∀(q:UInt8->Bool) (m:List UInt8),m.dropWhile q=[]->m.all q=true:=by
   intro q m hm
   induction m with
   | nil=>rfl
   | cons x r ih=>
    rw[List.dropWhile_cons]at hm;split at hm
    ·rename_i hx;simp[hx,ih hm]
    ·cases hm
  have h1:=hd _ _ h;cases hr:l.reverse.dropWhile (lets8.contains ·) with
  | nil=>
   have:=hd _ _ hr;rw[List.all_reverse]at this;exact this
  | cons x r=>
   exfalso;have hx:=List.head_dropWhile_not (p:=(lets8.contains ·)) (l:=l.reverse) (by rw[hr];simp);have e:(l.reverse.dropWhile (lets8.contains ·)).head (by rw[hr];simp)=x:=(by simp only[hr,List.head_cons]);rw[e]at hx;rw[hr]at h1;have h2:lets8.contains x=true:=by rw[List.all_eq_true]at h1;exact h1 x (by simp)
   rw[h2]at hx;cases hx
 ·intro h;have hr:l.reverse.dropWhile (lets8.contains ·)=[]:=by
   have h2:l.reverse.all (lets8.contains ·)=true:=(by rw[List.all_reverse];exact h);generalize l.reverse=m at h2
   induction m with
   | nil=>rfl
   | cons x r ih=>
    simp only[List.all_cons,Bool.and_eq_true]at h2;rw[List.dropWhile_cons,if_pos h2.1];exact ih h2.2
  rw[hr];rfl
def Mxl(w:World):Prop:=∃m:Int,w.cell? ⟨1,0,none⟩=some (.int .i64 m)
theorem Mxl.kept{F:Nat->Prop}{w w':World}(h:Mxl w)(hk:Kept F w w')(hF:¬F 1):Mxl w':=by obtain⟨m,hm⟩:=h;exact⟨m,hk.cell hm hF⟩
def jo(s:ByteArray):List ByteArray:=Lib.splitB ⟨#[47]⟩ 0 (Lib.countB s ⟨#[47]⟩) s
theorem xD(s:ByteArray):(jo s).map sb=kP (sb s):=by have h:=Lib.splitB_data ⟨#[47]⟩ 0 (Lib.countB s ⟨#[47]⟩) s;have h2:=DK s.data.toList;have e:Lib.countB s ⟨#[47]⟩=s.data.toList.count 47:=Lib.count_one 47 _;rw[<-e,<-h,List.map_map]at h2;exact h2
theorem EZ(s:ByteArray):(jo s).length=Lib.countB s ⟨#[47]⟩+1:=Lib.splitB_all ⟨#[47]⟩ (by decide) 0 _ s rfl
theorem lr:∀{l m:List UInt8},l.map UInt8.toNat=m.map UInt8.toNat->l=m
 | [],[],_=>rfl
 | [],_::_,h=>by simp at h
 | _::_,[],h=>by simp at h
 | a::l,b::m,h=>by simp only[List.map_cons,List.cons.injEq]at h;rw[UInt8.toNat_inj.1 h.1,lr h.2]
theorem I5(t:ByteArray):vx (sb t)=(!t.toList.isEmpty && !(t.toList==[46]) && !(t.toList==[46,46]) && (⟨(Lib.trimS t.data.toList lets8).toArray⟩:ByteArray).toList.isEmpty):=by
 have hm:∀l m:List UInt8,(l.map UInt8.toNat==m.map UInt8.toNat)=(l==m):=by
  intro l m;by_cases h:l=m
  ·subst h;simp
  ·have h2:l.map UInt8.toNat≠m.map UInt8.toNat:=λe=>h (lr e)
   rw[beq_eq_false_iff_ne.2 h,beq_eq_false_iff_ne.2 h2]
 have h0:t.toList.isEmpty=(sb t==[]):=by rw[Lib.toList_data];have:=hm t.data.toList [];unfold sb;rw[show([]:List Nat)=([]:List UInt8).map UInt8.toNat from rfl,this];cases t.data.toList<;>rfl
 have h1:(t.toList==[46])=(sb t==[46]):=by rw[Lib.toList_data];exact(hm t.data.toList [46]).symm
 have h2:(t.toList==[46,46])=(sb t==[46,46]):=by rw[Lib.toList_data];exact(hm t.data.toList [46,46]).symm
 have h3:(⟨(Lib.trimS t.data.toList lets8).toArray⟩:ByteArray).toList.isEmpty=(sb t).all yB:=by
  rw[Lib.toList_data];show(Lib.trimS t.data.toList lets8).isEmpty=_;have:=FN t.data.toList;unfold sb;cases h4:(List.map UInt8.toNat t.data.toList).all yB with
  | true=>rw[this.2 h4];rfl
  | false=>
   cases h5:Lib.trimS t.data.toList lets8 with
   | nil=>rw[this.1 h5]at h4;cases h4
   | cons x r=>rfl
 rw[h0,h1,h2,h3];rfl
theorem pt{s t:ByteArray}{n i:Nat}(h:fa (sb s)=(jo s).all (λt=>vx (sb t)))(hn:n=(jo s).length)(ht:t=(jo s).getD i ⟨#[]⟩/\i<n)(hb:vx (sb t)=false):fa (sb s)=false:=by rw[h,List.all_eq_false];refine⟨t,?_,by rw[hb];simp⟩;rw[ht.1,List.getD_eq_getElem?_getD,List.getElem?_eq_getElem (by omega)];exact List.getElem_mem _
theorem GD(l:List Nat):∀p∈kP l,p.length<=l.length:=by
 induction l with
 | nil=>intro p hp;simp[kP]at hp;subst hp;simp
 | cons c r ih=>
  intro p hp;by_cases hc:c=47
  ·rw[kP,if_pos hc]at hp;rcases List.mem_cons.1 hp with rfl | hp
   ·simp
   ·have:=ih p hp;simp;omega
  ·obtain⟨q,qs,hq⟩:=JA r;rw[sd hc hq]at hp;rcases List.mem_cons.1 hp with rfl | hp
   ·have:=ih q (by rw[hq];simp);simp;omega
   ·have:=ih p (by rw[hq];simp[hp]);simp;omega
theorem GF{s t:ByteArray}{i n:Nat}(hn:n=(jo s).length)(ht:t=(jo s).getD i ⟨#[]⟩/\i<n):t.size<=s.size:=by
 have h1:sb t∈kP (sb s):=by rw[<-xD];refine List.mem_map.2 ⟨t,?_,rfl⟩;rw[ht.1,List.getD_eq_getElem?_getD,List.getElem?_eq_getElem (by omega)];exact List.getElem_mem _
 have:=GD _ _ h1;rw[dU,dU]at this;exact this
theorem xi(w:World)(s:ByteArray)(hx:Mxl w):
  Calls Tryz.prog 28 #[.string s] w λe w'=>e=.returned (.bool (fa (sb s)))/\Same w w':=by
 obtain⟨mx,rn⟩:=hx;have cX:=dU s;by_cases ei:64<s.size
 ·have b1:(64:Int)<(s.size:Int):=(by omega);have HN:Hid (fa (sb s)=false):=hid (by unfold fa;rw[cX];simp;omega);clear rn cX ei;go_enter Tryz.func28,Tryz.ntmps28;go_wp2_with fail;go_ret;exact⟨by rw[HN.out];rfl,Kept.refl _ _⟩
 ·have b1:(s.size:Int)<=(64:Int):=(by omega);obtain⟨n,hn⟩:∃n,n=(jo s).length:=⟨_,rfl⟩
  have ti:Lib.countB s ⟨#[47]⟩+1=n:=(by rw[hn,EZ]);have HSP:=Any.strings_Split Tryz.lays146 (by kernel_rfl) s ⟨#[47]⟩ mx w (by omega) rn (by decide);rw[ti]at HSP;have HN:Hid (fa (sb s)=(jo s).all (λt=>vx (sb t))):=hid (by
   unfold fa;rw[cX,<-xD,List.all_map];have:decide (s.size<=64)=true:=(by simp;omega);rw[this];rfl)
  have HLN:Hid (n=(jo s).length/\n<=65):=hid ⟨hn,by rw[<-ti];have:=Lib.countB_le ⟨#[47]⟩ (by decide) s.size s (Nat.le_refl _);omega⟩;obtain⟨h0,RY⟩:∃h0,h0=w.heap.size:=⟨_,rfl⟩
  rw[<-RY]at HSP;have HCL:Hid (∀j,j<n->(w.alloc (.cells ((jo s).map Value.string).toArray 9)).cell? ⟨h0,j,none⟩=some (.string ((jo s).getD j ⟨#[]⟩))):=hid (by
   intro j hj;have hb:=Blk.new w ((jo s).map Value.string).toArray 9;have h9:=hb.cell j;rw[RY,h9];simp[List.getD_eq_getElem?_getD,List.getElem?_eq_getElem (show j<(jo s).length by omega)])
  clear rn cX ei hn ti;go_enter Tryz.func28,Tryz.ntmps28;go_wp2_with fail;refine HSP.mono ?_;rintro x w1 ⟨rfl,hw1⟩;have HK1:Hid (Same w w1):=hid (by rw[hw1];exact(Kept.refl _ _).alloc _);have HC1:Hid (∀j,j<n->w1.cell? ⟨h0,j,none⟩=some (.string ((jo s).getD j ⟨#[]⟩))):=hid (by rw[hw1];exact HCL.out);clear hw1 HCL RY HSP;go_wp2_with fail;go_loopg [11] n (λqq z11 wr=>∃i:Nat,z11=.int .i64 (i:Nat)/\i<=n/\n-i<=qq/\Hid (∀j,j<i->vx (sb ((jo s).getD j ⟨#[]⟩))=true)/\Hid (Same w1 wr))
  case atStart=>exact⟨0,rfl,by omega,by omega,hid (λj hj=>by omega),hid (Kept.refl _ _)⟩
  case round=>
   obtain⟨i,rfl,yd,KV,HOK,HKi⟩:=hrel;by_cases hi:i<n
   ·have rj:decide (i<n)=true:=(by simp;omega);obtain⟨t,ht⟩:∃t,t=(jo s).getD i ⟨#[]⟩:=⟨_,rfl⟩
    have hc:=HKi.out.cell (HC1.out i hi) (λf=>f);rw[<-ht]at hc;have HP:Hid _:=hid (I5 t);have HTT:Hid (t=(jo s).getD i ⟨#[]⟩/\i<n):=hid ⟨ht,hi⟩;have GY:IntKind.i64.wrap ((i:Int)+1)=((i+1:Nat):Int):=(by rw[IntKind.wrap_i64];have:=HLN.out.2;omega);have h64:n<=65:=HLN.out.2;clear ht HC1;cases B1:t.toList.isEmpty with
    | true=>
     go_wp2_with fail;go_ret;refine⟨?_,Same.trans HK1.out HKi.out⟩;rw[pt HN.out HLN.out.1 HTT.out (by rw[HP.out,B1];rfl)];rfl
    | false=>
     cases B2:(t.toList==[46]) with
     | true=>
      go_wp2_with fail;go_ret;refine⟨?_,Same.trans HK1.out HKi.out⟩;rw[pt HN.out HLN.out.1 HTT.out (by rw[HP.out,B1,B2];rfl)];rfl
     | false=>
      cases B3:(t.toList==[46,46]) with
      | true=>
       go_wp2_with fail;go_ret;refine⟨?_,Same.trans HK1.out HKi.out⟩;rw[pt HN.out HLN.out.1 HTT.out (by rw[HP.out,B1,B2,B3];rfl)];rfl
      | false=>
       have HTR:=Any.strings_Trim_laid Tryz.lays160 (by kernel_rfl) t ⟨#[97,98,99,100,101,102,103,104,105,106,107,108,109,110,111,112,113,114,115,116,117,118,119,120,121,122,48,49,50,51,52,53,54,55,56,57,46,95,45]⟩ wr (by have:=GF HLN.out.1 HTT.out;omega) (by decide) (ascii_of_all (by decide));go_wp2_with fail;refine HTR.mono ?_;rintro x w2 ⟨rfl,hb2⟩;have HK2:Hid (Same wr w2):=hid (Kept.ofBelow hb2);obtain⟨tr,htr⟩:∃tr:ByteArray,tr=⟨(Lib.trimS t.data.toList lets8).toArray⟩:=⟨_,rfl⟩
       have HP:Hid (vx (sb t)=(!t.toList.isEmpty && !(t.toList==[46]) && !(t.toList==[46,46]) && tr.toList.isEmpty)):=hid (by rw[htr];exact HP.out);rw[show(⟨(Lib.trimS t.data.toList (ByteArray.mk #[97,98,99,100,101,102,103,104,105,106,107,108,109,110,111,112,113,114,115,116,117,118,119,120,121,122,48,49,50,51,52,53,54,55,56,57,46,95,45]).data.toList).toArray⟩:ByteArray)=tr from htr.symm];clear htr hb2 HTR;cases B4:tr.toList.isEmpty with
       | false=>
        go_wp2_with fail;go_ret;refine⟨?_,Same.trans HK1.out (Same.trans HKi.out HK2.out)⟩;rw[pt HN.out HLN.out.1 HTT.out (by rw[HP.out,B1,B2,B3,B4];rfl)];rfl
       | true=>
        go_wp2_with fail;have UZ:Hid (∀j,j<i+1->vx (sb ((jo s).getD j ⟨#[]⟩))=true):=hid (by
         intro j hj;by_cases e:j<i
         ·exact HOK.out j e
         ·obtain rfl:j=i:=by omega
          rw[<-HTT.out.1,HP.out,B1,B2,B3,B4];rfl)
        go_roundg (gk-1)
        case measure=>omega
        case rel=>exact⟨i+1,by go_num,by omega,by omega,UZ,hid (Same.trans HKi.out HK2.out)⟩
   ·have rj:decide (i<n)=false:=(by simp;omega);obtain rfl:i=n:=(by omega);clear HC1;go_wp2_with fail;go_ret;refine⟨?_,Same.trans HK1.out HKi.out⟩;have h9:fa (sb s)=true:=(by rw[HN.out,List.all_eq_true];intro t ht;obtain⟨j,hj,e⟩:=List.getElem_of_mem ht;have:=HOK.out j (by have:=HLN.out;omega);rw[List.getD_eq_getElem?_getD,List.getElem?_eq_getElem hj,e]at this;exact this);rw[h9];rfl
structure En where
 n:ByteArray
 d:ByteArray
instance:Inhabited En:=⟨⟨⟨#[]⟩,⟨#[]⟩⟩⟩
def Ents(w:World)(I:Nat->Prop)(a:Option Addr)(len:Nat)(E:Nat->En):Prop:=
 ∀j,j<len->∃b o,a=some ⟨b,o,none⟩/\I b/\w.cell? ⟨b,o+j*2,none⟩=some (.string (E j).n)/\w.cell? ⟨b,o+j*2+1,none⟩=some (.string (E j).d)
theorem Ents.kept{F I:Nat->Prop}{w w':World}{a:Option Addr}{len:Nat}{E:Nat->En}(h:Ents w I a len E)(hk:Kept F w w')(hF:∀b,I b->¬F b):Ents w' I a len E:=by intro j hj;obtain⟨b,o,h1,h2,h3,h4⟩:=h j hj;exact⟨b,o,h1,h2,hk.cell h3 (hF b h2),hk.cell h4 (hF b h2)⟩
theorem JD(s t:ByteArray):(s.toList==t.toList)=decide (s=t):=by
 rw[Lib.toList_data,Lib.toList_data];by_cases h:s=t
 ·subst h;simp
 ·simp only[h,decide_false];refine beq_eq_false_iff_ne.2 (λe=>h ?_);cases s;cases t;simp only at e;rw[Array.toList_inj]at e;rw[e]
theorem yt(w:World)(y:En)(s:ByteArray)(g:Nat)(hg:w.cell? ⟨g,0,none⟩=some (.string s)):
  Calls Tryz.prog 30 #[.agg #[.string y.n,.string y.d],.pointer (some ⟨g,0,none⟩)] w λe w'=>e=.returned (.bool (decide (y.n=s)))/\Same w w':=by
 have U9:∀o,(w.alloc o).cell? ⟨g,0,none⟩=some (.string s):=λo=>(show Same w (w.alloc o) from(Kept.refl _ w).alloc o).cell hg (λf=>f)
 have hq:=JD y.n s;obtain⟨B,hB⟩:∃B,B=decide (y.n=s):=⟨_,rfl⟩
 rw[<-hB]at hq ⊢;clear hB;go_enter Tryz.func30,Tryz.ntmps30;go_wp2_with fail;go_ret;exact⟨rfl,(Kept.refl _ w).alloc _⟩
abbrev Bp(g:Nat):Value:=.func (.func 30) #[] #[.pointer (some ⟨g,0,none⟩)]
def kK(E:Nat->En)(s:ByteArray):Nat->Bool
 | 0=>false
 | n+1=>kK E s n || decide ((E n).n=s)
theorem Bf{E:Nat->En}{s:ByteArray}{n i:Nat}(hi:i<n)(h:(E i).n=s):kK E s n=true:=by
 induction n with
 | zero=>omega
 | succ n ih=>
  unfold kK;by_cases e:i<n
  ·rw[ih e];rfl
  ·obtain rfl:i=n:=by omega
   simp[h]
theorem Ai(w:World)(a:Option Addr)(len cap:Nat)(E:Nat→En)(s:ByteArray)(g:Nat)(I:Nat→Prop)(hs:Ents w I a len E)(hg:w.cell? ⟨g,0,none⟩=some (.string s))(hn:len≤10000000):
  Calls Tryz.prog 49 #[.slice a len cap,Bp g] w λe w'=>(∃z:Int,e=.returned (.int .i64 z)/\decide (0<=z)=kK E s len)/\Same w w':=by
 have HS:Hid (Ents w I a len E):=hs;have HG:Hid (w.cell? ⟨g,0,none⟩=some (.string s)):=hg;clear hs hg;go_enter Tryz.func49,Tryz.ntmps49;go_wp2_with fail;go_loopg [8] len (λk z wr=>∃i:Nat,len-i<=k/\i<=len/\z=.int .i64 (i:Nat)/\Hid (kK E s i=false)/\Hid (Same w wr))
 case atStart=>exact⟨0,by omega,by omega,rfl,hid rfl,hid (Kept.refl _ _)⟩
 case round=>
  obtain⟨i,hk,AA,rfl,HF,HK⟩:=hrel;by_cases hlt:i<len
  ·have rj:decide (i<len)=true:=(by simp;omega);obtain⟨b,o,ha,_,re,eH⟩:=HS.out i hlt;subst ha;have re:=HK.out.cell re (λf=>f);have eH:=HK.out.cell eH (λf=>f);obtain⟨y,hy⟩:∃y,y=E i:=⟨_,rfl⟩
   rw[<-hy]at re eH;have HY:Hid (y=E i):=hy;have HC:=yt wr y s g (HK.out.cell HG.out (λf=>f));have GY:IntKind.i64.wrap ((i:Int)+1)=((i+1:Nat):Int):=(by rw[IntKind.wrap_i64];omega);clear hy;cases hb:decide (y.n=s) with
   | true=>
    rw[hb]at HC;have HB:Hid (y.n=s):=hid (of_decide_eq_true hb);clear hb;go_wp2_with fail;refine HC.mono ?_;rintro e w2 ⟨rfl,hk2⟩;have HK2:Hid (Same w w2):=hid (Same.trans HK.out hk2);clear hk2 HC;go_wp2_with fail;go_ret;refine⟨⟨_,rfl,?_⟩,HK2.out⟩;rw[Bf hlt (by rw[<-HY.out];exact HB.out)];simp
   | false=>
    rw[hb]at HC;have HB:Hid (decide (y.n=s)=false):=hb;clear hb;go_wp2_with fail;refine HC.mono ?_;rintro e w2 ⟨rfl,hk2⟩;have HK2:Hid (Same w w2):=hid (Same.trans HK.out hk2);clear hk2 HC;go_wp2_with fail;go_roundg (gk-1)
    case measure=>omega
    case rel=>exact⟨i+1,by omega,by omega,by go_num,hid (by unfold kK;rw[HF.out,<-HY.out,HB.out];rfl),HK2⟩
  ·have rj:decide (i<len)=false:=(by simp;omega);obtain rfl:i=len:=(by omega);go_wp2_with fail;go_ret;refine⟨⟨_,rfl,?_⟩,HK.out⟩;rw[HF.out];simp
theorem rz(w:World)(a:Option Addr)(len cap:Nat)(E:Nat→En)(s:ByteArray)(g:Nat)(I:Nat→Prop)(hs:Ents w I a len E)(hg:w.cell? ⟨g,0,none⟩=some (.string s))(hn:len≤10000000):
  Calls Tryz.prog 29 #[.slice a len cap,Bp g] w λe w'=>e=.returned (.bool (kK E s len))/\Same w w':=by
 have H:=Ai w a len cap E s g I hs hg hn;clear hs hg;go_enter Tryz.func29,Tryz.ntmps29;go_wp2_with fail;refine H.mono ?_;rintro e w2 ⟨⟨z,rfl,hz⟩,hk⟩;have HZ:Hid (decide (0<=z)=kK E s len):=hz;have HK:Hid (Same w w2):=hk;clear hz hk H;go_wp2_with fail;go_ret;exact⟨by rw[<-HZ.out];rfl,HK.out⟩
def uy(E:Nat->En)(i:Nat):Nat:=if fa (sb (E i).n)=false\/kK E (E i).n i=true then 80 else if 8192<(E i).d.size then 87 else 0
def iP(E:Nat->En):Nat->Nat->Nat
 | 0,_=>0
 | n+1,i=>if uy E i=0 then iP E n (i+1)else uy E i
def gZ(E:Nat->En)(n:Nat):Nat:=if 64<n then 86 else iP E n 0
theorem yx(E:Nat->En)(n i:Nat)(hi:i<n)(h:uy E i=0):iP E (n-i) i=iP E (n-(i+1)) (i+1):=by
 obtain⟨k,hk⟩:∃k,n-i=k+1:=⟨n-i-1,by omega⟩
 rw[hk,iP,if_pos h];congr 1;omega
theorem nJ(E:Nat->En)(n i:Nat)(hi:i<n)(h:uy E i≠0):iP E (n-i) i=uy E i:=by
 obtain⟨k,hk⟩:∃k,n-i=k+1:=⟨n-i-1,by omega⟩
 rw[hk,iP,if_neg h]
theorem zw(w:World)(a:Option Addr)(len cap:Nat)(E:Nat→En)(hs:Ents w (fun _=>True) a len E)(hn:len≤100000000)(cj:len≤cap)(hx:Mxl w):
  Calls Tryz.prog 16 #[.slice a len cap] w λe w'=>e=.returned (.int .i64 (gZ E len:Nat))/\Same w w':=by
 by_cases ei:64<len
 ·have b1:(64:Int)<(len:Int):=(by omega);have HE:Hid (gZ E len=86):=hid (by unfold gZ;rw[if_pos ei]);clear hs ei;go_enter Tryz.func16,Tryz.ntmps16;go_wp2_with fail;go_ret;exact⟨by rw[HE.out];rfl,Kept.refl _ _⟩
 ·have b1:(len:Int)<=64:=(by omega);have HE:Hid (gZ E len=iP E (len-0) 0):=hid (by unfold gZ;rw[if_neg ei];rfl);have HS:Hid (Ents w (λ_=>True) a len E):=hs;have HX:Hid (Mxl w):=hx;clear hs ei hx;go_enter Tryz.func16,Tryz.ntmps16;go_wp2_with fail;go_loopg [10] len (λk z wr=>∃i:Nat,len-i<=k/\i<=len/\z=.int .i64 (i:Nat)/\Hid (gZ E len=iP E (len-i) i)/\Hid (Same w wr))
  case atStart=>exact⟨0,by omega,by omega,rfl,HE,hid (Kept.refl _ _)⟩
  case round=>
   obtain⟨i,hk,AA,rfl,HF,HK⟩:=hrel;by_cases hlt:i<len
   ·have rj:decide (i<len)=true:=(by simp;omega);obtain⟨b,o,ha,_,re,eH⟩:=HS.out i hlt;subst ha;have re:=HK.out.cell re (λf=>f);have eH:=HK.out.cell eH (λf=>f);obtain⟨y,hy⟩:∃y,y=E i:=⟨_,rfl⟩
    rw[<-hy]at re eH;have HY:Hid (y=E i):=hy;have GY:IntKind.i64.wrap ((i:Int)+1)=((i+1:Nat):Int):=(by rw[IntKind.wrap_i64];omega);have HNM:=xi (wr.alloc (.cells #[.string y.n,.string y.d] 39)) y.n (HX.out.kept (Same.trans HK.out ((Kept.refl _ wr).alloc _)) (λf=>f));have HBX:Hid (Blk (wr.alloc (.cells #[.string y.n,.string y.d] 39)) wr.heap.size #[.string y.n,.string y.d] 39):=hid (Blk.new wr _ _);have HKA:Hid (Same w (wr.alloc (.cells #[.string y.n,.string y.d] 39))):=hid (Same.trans HK.out ((Kept.refl _ wr).alloc _));obtain⟨xb,gW⟩:∃xb,xb=wr.heap.size:=⟨_,rfl⟩
    rw[<-gW]at HBX;cases hnb:fa (sb y.n) with
    | false=>
     rw[hnb]at HNM;have HW:Hid (uy E i=80):=hid (by unfold uy;rw[<-HY.out,hnb,if_pos (.inl rfl)]);clear hy hnb;go_wp2_with fail;refine HNM.mono ?_;rintro e w2 ⟨rfl,hk2⟩;have HK2:Hid (Same w w2):=hid (Same.trans HKA.out hk2);clear hk2 HNM;go_wp2_with fail;go_ret;refine⟨?_,HK2.out⟩;rw[HF.out,nJ E len i hlt (by rw[HW.out];decide),HW.out];rfl
    | true=>
     rw[hnb]at HNM;have HNB:Hid (fa (sb y.n)=true):=hnb;clear hy hnb;have j1:(0:Int)<=(i:Int):=(by omega);have j2:(i:Int)<=(cap:Int):=(by omega);go_wp2_with fail;rw[<-gW];clear gW;refine HNM.mono ?_;rintro e w2 ⟨rfl,hk2⟩;have HK2:Hid (Same w w2):=hid (Same.trans HKA.out hk2);have hb2:=HBX.out.kept hk2 (λf=>f);have x0:w2.cell? ⟨xb,0,none⟩=some (.string y.n):=hb2.cell 0;have x1:w2.cell? ⟨xb,1,none⟩=some (.string y.d):=hb2.cell 1;have HCT:=λcap'=>rz w2 (some ⟨b,o,none⟩) i cap' E y.n xb (λ_=>True) (λj hj=>(HS.out.kept HK2.out (λ_ _ f=>f)) j (by omega)) x0 (by omega)
     have HBB:Hid (Blk w2 xb #[.string y.n,.string y.d] 39):=hb2;clear hk2 HNM hb2;cases JT:kK E y.n i with
     | true=>
      rw[JT]at HCT;have HW:Hid (uy E i=80):=hid (by unfold uy;rw[<-HY.out,if_pos (.inr JT)]);clear JT;go_wp2_with fail;refine(HCT _).mono ?_;rintro e w3 ⟨rfl,hk3⟩;have HK3:Hid (Same w w3):=hid (Same.trans HK2.out hk3);clear hk3 HCT;go_wp2_with fail;go_ret;refine⟨?_,HK3.out⟩;rw[HF.out,nJ E len i hlt (by rw[HW.out];decide),HW.out];rfl
     | false=>
      rw[JT]at HCT;have HAN:Hid (kK E y.n i=false):=JT;clear JT;go_wp2_with fail;refine(HCT _).mono ?_;rintro e w3 ⟨rfl,hk3⟩;have HK3:Hid (Same w w3):=hid (Same.trans HK2.out hk3);have y1:w3.cell? ⟨xb,1,none⟩=some (.string y.d):=hk3.cell x1 (λf=>f);clear hk3 HCT x0 x1;by_cases hd:8192<y.d.size
      ·have TP:(8192:Int)<(y.d.size:Int):=(by omega);have HW:Hid (uy E i=87):=hid (by unfold uy;rw[<-HY.out,if_neg (by rw[HNB.out,HAN.out];simp),if_pos hd]);clear hd;go_wp2_with fail;go_ret;refine⟨?_,HK3.out⟩;rw[HF.out,nJ E len i hlt (by rw[HW.out];decide),HW.out];rfl
      ·have TP:(y.d.size:Int)<=8192:=(by omega);have HW:Hid (uy E i=0):=hid (by unfold uy;rw[<-HY.out,if_neg (by rw[HNB.out,HAN.out];simp),if_neg hd]);clear hd;go_wp2_with fail;go_roundg (gk-1)
       case measure=>omega
       case rel=>exact⟨i+1,by omega,by omega,by go_num,hid (by rw[HF.out,yx E len i hlt HW.out]),HK3⟩
   ·have rj:decide (i<len)=false:=(by simp;omega);obtain rfl:i=len:=(by omega);go_wp2_with fail;go_ret;refine⟨?_,HK.out⟩;rw[HF.out,Nat.sub_self];rfl
def Itms(w:World)(a:Option Addr)(len:Nat)(M:Nat->Mk)(V:Nat->Value):Prop:=
 ∀j,j<len->∃b o,a=some ⟨b,o,none⟩/\w.cell? ⟨b,o+j*6,none⟩=some (.int .u16 ((M j).way:Nat))/\w.cell? ⟨b,o+j*6+1,none⟩=some (.int .u32 ((M j).sum:Nat))/\w.cell? ⟨b,o+j*6+2,none⟩=some (.int .u32 ((M j).packed:Nat))/\w.cell? ⟨b,o+j*6+3,none⟩=some (.int .u32 ((M j).size:Nat))/\w.cell? ⟨b,o+j*6+4,none⟩=some (.string (bF (M j).name))/\w.cell? ⟨b,o+j*6+5,none⟩=some (V j)
theorem Itms.kept{w w':World}{a:Option Addr}{len:Nat}{M:Nat->Mk}{V:Nat->Value}(h:Itms w a len M V)(hk:Same w w'):Itms w' a len M V:=by intro j hj;obtain⟨b,o,h0,h1,h2,h3,h4,h5,h6⟩:=h j hj;exact⟨b,o,h0,hk.cell h1 (λf=>f),hk.cell h2 (λf=>f),hk.cell h3 (λf=>f),hk.cell h4 (λf=>f),hk.cell h5 (λf=>f),hk.cell h6 (λf=>f)⟩
def kM(p:Nat->Bool):Nat->Nat->Nat
 | 0,i=>i
 | n+1,i=>if p i then i else kM p n (i+1)
theorem ED(p:Nat->Bool)(n i:Nat)(hi:i<n)(h:p i=true):kM p (n-i) i=i:=by
 obtain⟨k,hk⟩:∃k,n-i=k+1:=⟨n-i-1,by omega⟩
 rw[hk,kM,if_pos h]
theorem DZ(p:Nat->Bool)(n i:Nat)(hi:i<n)(h:p i=false):kM p (n-i) i=kM p (n-(i+1)) (i+1):=by
 obtain⟨k,hk⟩:∃k,n-i=k+1:=⟨n-i-1,by omega⟩
 rw[hk,kM,if_neg (by rw[h];decide)];congr 1;omega
def Kv(p:Nat->Bool)(len:Nat):Int:=if kM p len 0<len then(kM p len 0:Int)else -1
theorem yV(w:World)(a:Option Addr)(len cap:Nat)(M:Nat→Mk)(V:Nat→Value)(f g:Nat)(p:Nat→Bool)(hs:Itms w a len M V)(hn:len≤10000000)(MF:∀args w,(callFunc f args).run Tryz.prog w=.ok (.enter f args) w)
  (hp:∀i wx,i<len->Same w wx->Calls Tryz.prog f #[.agg (jE (M i) (V i)),.pointer (some ⟨g,0,none⟩)] wx λe w'=>e=.returned (.bool (p i))/\Same wx w'):
  Calls Tryz.prog 66 #[.slice a len cap,.func (.func f) #[] #[.pointer (some ⟨g,0,none⟩)]] w λe w'=>e=.returned (.int .i64 (Kv p len))/\Same w w':=by
 have HS:Hid (Itms w a len M V):=hs;have HP:Hid (∀i wx,i<len->Same w wx->Calls Tryz.prog f #[.agg (jE (M i) (V i)),.pointer (some ⟨g,0,none⟩)] wx λe w'=>e=.returned (.bool (p i))/\Same wx w'):=hp;clear hs hp;go_enter Tryz.func66,Tryz.ntmps66;go_wp2_with fail;go_loopg [8] len (λk z wr=>∃i:Nat,len-i<=k/\i<=len/\z=.int .i64 (i:Nat)/\Hid (kM p len 0=kM p (len-i) i)/\Hid (Same w wr))
 case atStart=>exact⟨0,by omega,by omega,rfl,hid rfl,hid (Kept.refl _ _)⟩
 case round=>
  obtain⟨i,hk,AA,rfl,HF,HK⟩:=hrel;by_cases hlt:i<len
  ·have rj:decide (i<len)=true:=(by simp;omega);obtain⟨b,o,ha,k0,k1,k2,k3,k4,k5⟩:=(HS.out.kept HK.out) i hlt;subst ha;have HC:=HP.out i wr hlt HK.out;unfold jE at HC;obtain⟨m,hm⟩:∃m,m=M i:=⟨_,rfl⟩
   obtain⟨v,hv⟩:∃v,v=V i:=⟨_,rfl⟩
   rw[<-hm]at k0 k1 k2 k3 k4 HC;rw[<-hv]at k5 HC;have GY:IntKind.i64.wrap ((i:Int)+1)=((i+1:Nat):Int):=(by rw[IntKind.wrap_i64];omega);clear hm hv;cases hb:p i with
   | true=>
    rw[hb]at HC;have HB:Hid (p i=true):=hb;clear hb;go_wp2_with fail;refine HC.mono ?_;rintro e w2 ⟨rfl,hk2⟩;have HK2:Hid (Same w w2):=hid (Same.trans HK.out hk2);clear hk2 HC;go_wp2_with fail;go_ret;refine⟨?_,HK2.out⟩;have h9:kM p len 0=i:=(by rw[HF.out,ED p len i hlt HB.out]);have h8:Kv p len=(i:Int):=(by unfold Kv;rw[h9,if_pos hlt]);rw[h8];rfl
   | false=>
    rw[hb]at HC;have HB:Hid (p i=false):=hb;clear hb;go_wp2_with fail;refine HC.mono ?_;rintro e w2 ⟨rfl,hk2⟩;have HK2:Hid (Same w w2):=hid (Same.trans HK.out hk2);clear hk2 HC;go_wp2_with fail;go_roundg (gk-1)
    case measure=>omega
    case rel=>exact⟨i+1,by omega,by omega,by go_num,hid (by rw[HF.out,DZ p len i hlt HB.out]),HK2⟩
  ·have rj:decide (i<len)=false:=(by simp;omega);obtain rfl:i=len:=(by omega);go_wp2_with fail;go_ret;refine⟨?_,HK.out⟩;have h9:kM p i 0=i:=(by rw[HF.out,Nat.sub_self];rfl);have h8:Kv p i=-1:=(by unfold Kv;rw[h9,if_neg (by omega)]);rw[h8];rfl
theorem II(p:Nat->Bool)(n i:Nat):(kM p n i<n+i)↔∃j,i<=j/\j<n+i/\p j=true:=by
 induction n generalizing i with
 | zero=>simp[kM];intro j h1 h2;omega
 | succ n ih=>
  unfold kM;by_cases h:p i=true
  ·rw[if_pos h];exact⟨λ_=>⟨i,Nat.le_refl _,by omega,h⟩,λ_=>by omega⟩
  ·rw[if_neg h,show n+1+i=n+(i+1)by omega,ih (i+1)];constructor
   ·rintro⟨j,h1,h2,h3⟩;exact⟨j,by omega,h2,h3⟩
   ·rintro⟨j,h1,h2,h3⟩;refine⟨j,?_,h2,h3⟩;rcases Nat.lt_or_ge i j with h4 | h4
    ·omega
    ·exact absurd h3 (by rw[show j=i by omega];exact h)
def jz(M:Nat->Mk)(len:Nat):List (List Nat):=(List.range len).map (λj=>(M j).name)
theorem y4(M:Nat->Mk)(len:Nat)(s:List Nat):decide (0<=Kv (λi=>decide ((M i).name=s)) len)=decide (s∈jz M len):=by
 have h:=II (λi=>decide ((M i).name=s)) len 0;have h2:s∈jz M len↔∃j,j<len/\(M j).name=s:=by simp[jz]
 unfold Kv;by_cases h3:kM (λi=>decide ((M i).name=s)) len 0<len
 ·rw[if_pos h3];obtain⟨j,_,h5,h6⟩:=h.1 h3;have:s∈jz M len:=h2.2 ⟨j,by omega,of_decide_eq_true h6⟩;simp[this]
 ·rw[if_neg h3];have:¬s∈jz M len:=λh9=>by
   obtain⟨j,h5,h6⟩:=h2.1 h9;exact h3 (h.2 ⟨j,Nat.zero_le _,by omega,decide_eq_true h6⟩)
  simp[this]
theorem Tryz.enters138:∀args w,(callFunc 45 args).run Tryz.prog w=.ok (.enter 45 args) w:=enters_of Tryz.func45 (by kernel_rfl) rfl
theorem ry(w:World)(a:Option Addr)(len cap:Nat)(M:Nat→Mk)(V:Nat→Value)(g:Nat)(m:Mk)(hs:Itms w a len M V)(hn:len≤10000000)(hg:LabBk w g m)(hb:∀b∈m.name,b<256)(hM:∀i,i<len→∀b∈(M i).name,b<256):
  Calls Tryz.prog 46 #[.slice a len cap,.func (.func 45) #[] #[.pointer (some ⟨g,0,none⟩)]] w λe w'=>e=.returned (.bool (decide (m.name∈jz M len)))/\Same w w':=by
 have H:=yV w a len cap M V 45 g (λi=>decide ((M i).name=m.name)) hs hn Tryz.enters138 (λi wx hi hk=>CJ wx (M i) m (V i) g ((hg.kept hk).cells.2.2.2.2) (hM i hi) hb);have HZ:=y4 M len m.name;clear hs hg hb hM;obtain⟨z,hz⟩:∃z,z=Kv (λi=>decide ((M i).name=m.name)) len:=⟨_,rfl⟩
 rw[<-hz]at H HZ;have HZ:Hid (decide (0<=z)=decide (m.name∈jz M len)):=HZ;clear hz;go_enter Tryz.func46,Tryz.ntmps46;go_wp2_with fail;refine H.mono ?_;rintro e w2 ⟨rfl,hk⟩;have HK:Hid (Same w w2):=hk;clear hk H;go_wp2_with fail;go_ret;exact⟨by rw[<-HZ.out];rfl,HK.out⟩
def LblA(w w':World)(n:Nat)(e:Ending):Prop:=(n=0->e=.returned (.tuple #[]))/\(n≠0->e=aG n)/\Same w w'
theorem LblA.ok{w w':World}{n:Nat}{e:Ending}(h:n=0)(he:e=.returned (.tuple #[]))(hk:Same w w'):LblA w w' n e:=⟨λ_=>he,λh9=>absurd h h9,hk⟩
theorem LblA.no{w w':World}{n k:Nat}{e:Ending}(h:n=k)(hk0:k≠0)(he:e=aG k)(hk:Same w w'):LblA w w' n e:=⟨λh9=>absurd (h ▸ h9) hk0,λ_=>by rw[h];exact he,hk⟩
theorem qm(w:World)(m:Mk)(a:Option Addr)(len cap:Nat)(M:Nat→Mk)(V:Nat→Value)(hs:Itms w a len M V)(hn:len≤10000000)(hb:∀b∈m.name,b<256)(hM:∀i,i<len→∀b∈(M i).name,b<256)(hx:Mxl w):
  Calls Tryz.prog 26 #[.agg (k7 m),.slice a len cap] w λe w'=>LblA w w' (de m (jz M len)) e:=by
 obtain⟨W1,hW1⟩:∃W,W=w.alloc (.cells #[.int .u16 (m.way:Nat),.int .u32 (m.sum:Nat),.int .u32 (m.packed:Nat),.int .u32 (m.size:Nat),.string (bF m.name)] 47):=⟨_,rfl⟩
 obtain⟨mb,lZ⟩:∃b,b=w.heap.size:=⟨_,rfl⟩
 have HK1:Hid (Same w W1):=hid (by rw[hW1];exact(Kept.refl _ w).alloc _);have HL1:Hid (LabBk W1 mb m):=hid (by rw[hW1,lZ];exact Blk.new w _ _);have HNM:=xi W1 (bF m.name) (hx.kept HK1.out (λf=>f));rw[qe m.name hb]at HNM;have HCT:=λwx (hk:Same w wx) (hl:LabBk wx mb m)=>ry wx a len cap M V mb m (hs.kept hk) hn hl hb hM
 have HCT:Hid _:=hid HCT;obtain⟨N,hN⟩:∃N,N=jz M len:=⟨_,rfl⟩
 rw[<-hN]at HCT ⊢;clear hs hn hb hM hx hN;unfold k7;go_enter Tryz.func26,Tryz.ntmps26;go_wp2_with fail;rw[<-hW1,<-lZ];clear hW1 lZ;cases hnb:fa m.name with
 | false=>
  rw[hnb]at HNM;have HE:Hid (de m N=80):=hid (by unfold de;rw[if_pos (.inl hnb)]);clear hnb;refine HNM.mono ?_;rintro e w2 ⟨rfl,hk2⟩;have HK2:Hid (Same w w2):=hid (Same.trans HK1.out hk2);have HO:=aM w2 80;clear hk2 HNM;go_wp2_with fail;refine HO.mono ?_;rintro e w3 ⟨rfl,hw3⟩;subst hw3;clear HO;unfold aG;go_wp2_with fail;exact⟨rfl,LblA.no HE.out (by decide) rfl HK2.out⟩
 | true=>
  rw[hnb]at HNM;refine HNM.mono ?_;rintro e w2 ⟨rfl,hk2⟩;have HK2:Hid (Same w w2):=hid (Same.trans HK1.out hk2);have HL2:Hid (LabBk w2 mb m):=hid (HL1.out.kept hk2);have HC2:=HCT.out w2 HK2.out HL2.out;clear hk2 HNM HL1;by_cases fM:m.name∈N
  ·have HE:Hid (de m N=80):=hid (by unfold de;rw[if_pos (.inr fM)]);rw[decide_eq_true fM]at HC2;clear fM hnb;go_wp2_with fail;refine HC2.mono ?_;rintro e w3 ⟨rfl,hk3⟩;have HK3:Hid (Same w w3):=hid (Same.trans HK2.out hk3);have HO:=aM w3 80;clear hk3 HC2;go_wp2_with fail;refine HO.mono ?_;rintro e w4 ⟨rfl,hw4⟩;subst hw4;clear HO;unfold aG;go_wp2_with fail;exact⟨rfl,LblA.no HE.out (by decide) rfl HK3.out⟩
  ·have HE0:Hid (¬(fa m.name=false\/m.name∈N)):=hid (by rw[hnb];simp[fM]);rw[decide_eq_false fM]at HC2;clear fM hnb;go_wp2_with fail;refine HC2.mono ?_;rintro e w3 ⟨rfl,hk3⟩;have HK3:Hid (Same w w3):=hid (Same.trans HK2.out hk3);obtain⟨c0,c1,c2,c3,c4⟩:=(HL2.out.kept hk3).cells;have HO:=bi w3 (.int .i64 80);clear hk3 HC2;go_wp2_with fail;refine HO.mono ?_;rintro e w4 ⟨rfl,hw4⟩;subst hw4;clear HO HCT;have HE1:=HE0.out;by_cases q0:m.way=0\/m.way=8
   ·have q0n:¬(m.way≠0/\m.way≠8):=(by omega);have wb:(((m.way:Int)==0) || ((m.way:Int)==8))=true:=by rcases q0 with h | h<;>simp[h]
    rcases q0 with q0 | q0
    ·have w0:((m.way:Int)==0)=true:=(by simp;omega);have w8:((m.way:Int)==8)=false:=(by simp;omega);clear wb;have HO:=bi w4 (.int .i64 82);go_wp2_with fail;refine HO.mono ?_;rintro e w5 ⟨rfl,l5⟩;subst l5;clear HO;by_cases q1:8192<m.size
     ·have HE:Hid (de m N=87):=hid (by unfold de;rw[if_neg HE1,if_neg q0n,if_pos (.inl q1)]);have s1:decide ((m.size:Int)<=8192)=false:=(by simp;omega);have Rp:decide (m.size<=8192)=false:=(by simp;omega);clear q0n HE1;have HO:=aM w5 87;go_wp2_with fail;refine HO.mono ?_;rintro e w6 ⟨rfl,hw6⟩;subst hw6;clear HO;unfold aG;go_wp2_with fail;exact⟨rfl,LblA.no HE.out (by decide) rfl HK3.out⟩
     ·have s1:decide ((m.size:Int)<=8192)=true:=(by simp;omega);have Rp:decide (m.size<=8192)=true:=(by simp;omega);by_cases q2:16384<m.packed
      ·have HE:Hid (de m N=87):=hid (by unfold de;rw[if_neg HE1,if_neg q0n,if_pos (.inr q2)]);have s2:decide ((m.packed:Int)<=16384)=false:=(by simp;omega);have Sc:decide (m.packed<=16384)=false:=(by simp;omega);clear q0n HE1;have HO:=aM w5 87;go_wp2_with fail;refine HO.mono ?_;rintro e w6 ⟨rfl,hw6⟩;subst hw6;clear HO;unfold aG;go_wp2_with fail;exact⟨rfl,LblA.no HE.out (by decide) rfl HK3.out⟩
      ·have s2:decide ((m.packed:Int)<=16384)=true:=(by simp;omega);have Sc:decide (m.packed<=16384)=true:=(by simp;omega);have q3:¬(8192<m.size\/16384<m.packed):=(by omega);have HO:=bi w5 (.int .i64 87);go_wp2_with fail;refine HO.mono ?_;rintro e w6 ⟨rfl,hw6⟩;subst hw6;clear HO;by_cases q4:m.packed=m.size
       ·have HE:Hid (de m N=0):=hid (by unfold de;rw[if_neg HE1,if_neg q0n,if_neg q3,if_neg (λh=>h.2 q4)]);have s4:((m.packed:Int)==(m.size:Int))=true:=(by simp;omega);clear q0n HE1 q3;have HO:=bi w6 (.int .i64 81);go_wp2_with fail;refine HO.mono ?_;rintro e w7 ⟨rfl,B8⟩;subst B8;clear HO;go_wp2_with fail;go_end0;exact LblA.ok HE.out rfl HK3.out
       ·have HE:Hid (de m N=81):=hid (by unfold de;rw[if_neg HE1,if_neg q0n,if_neg q3,if_pos ⟨by omega,q4⟩]);have s4:((m.packed:Int)==(m.size:Int))=false:=(by simp;omega);clear q0n HE1 q3;have HO:=aM w6 81;go_wp2_with fail;refine HO.mono ?_;rintro e w7 ⟨rfl,B8⟩;subst B8;clear HO;unfold aG;go_wp2_with fail;exact⟨rfl,LblA.no HE.out (by decide) rfl HK3.out⟩
    ·have w0:((m.way:Int)==0)=false:=(by simp;omega);have w8:((m.way:Int)==8)=true:=(by simp;omega);clear wb;have HO:=bi w4 (.int .i64 82);go_wp2_with fail;refine HO.mono ?_;rintro e w5 ⟨rfl,l5⟩;subst l5;clear HO;by_cases q1:8192<m.size
     ·have HE:Hid (de m N=87):=hid (by unfold de;rw[if_neg HE1,if_neg q0n,if_pos (.inl q1)]);have s1:decide ((m.size:Int)<=8192)=false:=(by simp;omega);have Rp:decide (m.size<=8192)=false:=(by simp;omega);clear q0n HE1;have HO:=aM w5 87;go_wp2_with fail;refine HO.mono ?_;rintro e w6 ⟨rfl,hw6⟩;subst hw6;clear HO;unfold aG;go_wp2_with fail;exact⟨rfl,LblA.no HE.out (by decide) rfl HK3.out⟩
     ·have s1:decide ((m.size:Int)<=8192)=true:=(by simp;omega);have Rp:decide (m.size<=8192)=true:=(by simp;omega);by_cases q2:16384<m.packed
      ·have HE:Hid (de m N=87):=hid (by unfold de;rw[if_neg HE1,if_neg q0n,if_pos (.inr q2)]);have s2:decide ((m.packed:Int)<=16384)=false:=(by simp;omega);have Sc:decide (m.packed<=16384)=false:=(by simp;omega);clear q0n HE1;have HO:=aM w5 87;go_wp2_with fail;refine HO.mono ?_;rintro e w6 ⟨rfl,hw6⟩;subst hw6;clear HO;unfold aG;go_wp2_with fail;exact⟨rfl,LblA.no HE.out (by decide) rfl HK3.out⟩
      ·have s2:decide ((m.packed:Int)<=16384)=true:=(by simp;omega);have Sc:decide (m.packed<=16384)=true:=(by simp;omega);have q3:¬(8192<m.size\/16384<m.packed):=(by omega);have HO:=bi w5 (.int .i64 87);go_wp2_with fail;refine HO.mono ?_;rintro e w6 ⟨rfl,hw6⟩;subst hw6;clear HO;have HE:Hid (de m N=0):=hid (by unfold de;rw[if_neg HE1,if_neg q0n,if_neg q3,if_neg (λh=>h.1 q0)]);clear q0n HE1 q3;have HO:=bi w6 (.int .i64 81);go_wp2_with fail;refine HO.mono ?_;rintro e w7 ⟨rfl,B8⟩;subst B8;clear HO;go_wp2_with fail;go_end0;exact LblA.ok HE.out rfl HK3.out
   ·have HE:Hid (de m N=82):=hid (by unfold de;rw[if_neg HE1,if_pos (by omega)]);have w0:((m.way:Int)==0)=false:=(by simp;omega);have w8:((m.way:Int)==8)=false:=(by simp;omega);clear HE1;have HO:=aM w4 82;go_wp2_with fail;refine HO.mono ?_;rintro e w5 ⟨rfl,l5⟩;subst l5;clear HO;unfold aG;go_wp2_with fail;exact⟨rfl,LblA.no HE.out (by decide) rfl HK3.out⟩
end Go.Proofs.YtllcnlnbpikhdaaGreatDoor
