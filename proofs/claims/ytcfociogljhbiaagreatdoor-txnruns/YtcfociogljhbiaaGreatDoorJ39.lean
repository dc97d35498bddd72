/-
  Of the proof: parts UbM, UcA, UcB, UcC, UcD, UbD, UbF, UbR.
-/
import Derived.Deep.CutRange
import Derived.Deep.RegionHeld3
import Derived.Deep.RegionLaw
import Derived.Test.YtcfociogljhbiaaGreatDoorJ33
import Derived.Test.YtcfociogljhbiaaGreatDoorJ38
import Derived.Test.YtcfociogljhbiaaGreatDoorJ17
import Derived.Test.YtcfociogljhbiaaGreatDoorJ26
import Derived.Test.YtcfociogljhbiaaGreatDoorJ24
import Derived.Test.YtcfociogljhbiaaGreatDoorJ14

namespace Go.Proofs.YtcfociogljhbiaaGreatDoor
open Go.RowKit Go.Maps Go.Sort Go.Shelf

abbrev Vf:=Ke→Option ByteArray

def etK(k:Ke)(d:ByteArray):Et:=⟨k.1,k.2,d⟩

theorem etK_eta(x:Et):etK (keE x) x.d=x:=rfl
theorem keE_etK(k:Ke)(d:ByteArray):keE (etK k d)=k:=rfl

structure StE(f:Vf)(es:List Et):Prop where
 ris:RisE es
 mem:∀k d,etK k d∈es↔f k=some d

def upW(w:Wr)(f:Vf):Vf:=fun k=>if keO w=k then(if w.there then some w.data else none)else f k
def upsW(ws:List Wr)(f:Vf):Vf:=ws.foldl (fun f w=>upW w f) f
def allL(ws:List Wr)(es:List Et):List Et:=ws.foldl (fun s w=>withL w (!w.there) s) es

theorem StE.upd{f:Vf}{es:List Et}(h:StE f es)(w:Wr):StE (upW w f) (withL w (!w.there) es):=by
 refine⟨ris_withL w es _ h.ris,fun k d=>?_⟩
 rw[mem_withL,keE_etK]
 unfold upW
 by_cases e:keO w=k
 ·subst e
  rw[if_pos rfl]
  have h1:etK (keO w) d=etW w↔d=w.data:=by
   unfold etK etW keO
   simp
  rw[h1]
  cases hw:w.there
  ·simp
  ·simp only[Bool.not_true,true_and,if_true,Option.some.injEq]
   constructor
   ·rintro(⟨_,q⟩ | q)
    ·exact absurd rfl q
    ·exact q.symm
   ·exact fun q=>.inr q.symm
 ·rw[if_neg e,←h.mem]
  constructor
  ·rintro(⟨q,_⟩ | ⟨_,q⟩)
   ·exact q
   ·refine absurd ?_ e
    have:=congrArg keE q
    exact this.symm
  ·exact fun q=>.inl ⟨q,fun q2=>e q2.symm⟩

theorem StE.all{f:Vf}{es:List Et}(h:StE f es)(ws:List Wr):StE (upsW ws f) (allL ws es):=by
 induction ws generalizing f es with
 | nil=>exact h
 | cons w r ih=>exact ih (h.upd w)

theorem allL_take(ws:List Wr)(es:List Et)(i:Nat)(hi:i<ws.length):allL (ws.take (i+1)) es=withL ws[i] (!ws[i].there) (allL (ws.take i) es):=by
 unfold allL
 rw[List.take_succ_eq_append_getElem hi,List.foldl_append]
 rfl

theorem upsW_at{ws:List Wr}(f:Vf)(hp:ws.Pairwise (fun x y=>keO x≠keO y))(k:Ke):upsW ws f k=match ws.find? (fun x=>decide (keO x=k))with | some w=>(if w.there then some w.data else none) | none=>f k:=by
 induction ws generalizing f with
 | nil=>rfl
 | cons w r ih=>
  obtain⟨h1,h2⟩:=List.pairwise_cons.1 hp
  have h3:upsW (w::r) f k=upsW r (upW w f) k:=rfl
  rw[h3,ih _ h2]
  by_cases e:keO w=k
  ·rw[show List.find? (fun x=>decide (keO x=k)) (w::r)=some w from by simp[e]]
   have h4:r.find? (fun x=>decide (keO x=k))=none:=by
    rw[List.find?_eq_none]
    intro x hx
    have:=h1 x hx
    rw[e]at this
    simpa using fun q=>this q.symm
   rw[h4]
   show upW w f k=_
   unfold upW
   rw[if_pos e]
  ·rw[show List.find? (fun x=>decide (keO x=k)) (w::r)=r.find? (fun x=>decide (keO x=k))from by simp[e]]
   cases h4:r.find? (fun x=>decide (keO x=k)) with
   | some x=>rfl
   | none=>
    show upW w f k=_
    unfold upW
    rw[if_neg e]

theorem ltW_ne{ws:List Wr}(h:ws.Pairwise ltW):ws.Pairwise (fun x y=>keO x≠keO y):=h.imp (fun {x y} q e=>by unfold ltW at q;rw[e]at q;exact ltK_irr _ q)

theorem ups_stW{mv:Mv}{ws:List Wr}(h:StW mv ws)(hk:∀k r,mv.st k=some r→keO r=k)(f:Vf)(k:Ke):upsW ws f k=match mv.st k with | some r=>(if r.there then some r.data else none) | none=>f k:=by
 rw[upsW_at f (ltW_ne h.1) k]
 cases hs:mv.st k with
 | some r=>
  have hm:r∈ws:=(h.2 r).2 (by rw[hk k r hs];exact hs)
  cases hf:ws.find? (fun x=>decide (keO x=k)) with
  | none=>
   have:=List.find?_eq_none.1 hf r hm
   exact absurd (hk k r hs) (by simpa using this)
  | some x=>
   have h1:keO x=k:=by simpa using List.find?_some hf
   have h2:=(h.2 x).1 (List.mem_of_find?_eq_some hf)
   rw[h1,hs]at h2
   injection h2 with h2
   subst h2
   rfl
 | none=>
  cases hf:ws.find? (fun x=>decide (keO x=k)) with
  | none=>rfl
  | some x=>
   have h1:keO x=k:=by simpa using List.find?_some hf
   have h2:=(h.2 x).1 (List.mem_of_find?_eq_some hf)
   rw[h1,hs]at h2
   cases h2

def vkF(V:Vs)(t:Int):Vf:=fun k=>visV (V k.1 k.2) t

theorem vis_put{V:Vs}{t u:Int}(h:UpTo V t)(x:Wr)(hu:t≤u):vkF (putF V x t) u=upW x (vkF V u):=by
 funext k
 obtain⟨b,n⟩:=k
 unfold vkF upW putF
 by_cases e:b=x.b∧n=x.n
 ·rw[if_pos e,if_pos (Prod.ext e.1.symm e.2.symm)]
  unfold visV
  rw[newV_put_new (h b n).1 _ (by rw[verOf_t];exact hu)]
  unfold verOf
  cases x.there<;>simp
 ·rw[if_neg e,if_neg (fun q=>e ⟨(congrArg Prod.fst q).symm,(congrArg Prod.snd q).symm⟩)]

theorem vis_puts{V:Vs}{t u:Int}(h:UpTo V t)(ws:List Wr)(hu:t≤u):vkF (putsF V ws t) u=upsW ws (vkF V u):=by
 induction ws generalizing V with
 | nil=>rfl
 | cons x r ih=>
  show vkF (putsF (putF V x t) r t) u=upsW r (upW x (vkF V u))
  rw[ih (h.put x),vis_put h x hu]

theorem vis_old{V:Vs}{t u:Int}(h:UpTo V t)(ws:List Wr)(hu:u<t):vkF (putsF V ws t) u=vkF V u:=by
 funext k
 unfold vkF visV
 rw[puts_old h ws k.1 k.2 hu]

theorem StE.det{f:Vf}{es es':List Et}(h:StE f es)(h':StE f es'):es=es':=
 strict_ext (R:=fun x y:Et=>ltK (keE x) (keE y)) (fun _=>ltK_irr _) (fun _ _ _=>ltK_trans) h.ris h'.ris (fun x=>by
  have h1:=h.mem (keE x) x.d
  have h2:=h'.mem (keE x) x.d
  rw[etK_eta]at h1 h2
  rw[h1,h2])

theorem fnd_none{f:Vf}{es:List Et}(h:StE f es){k:Ke}(hk:f k=none):fndE es k=-1:=by
 unfold fndE
 have:es.findIdx? (fun x=>decide (keE x=k))=none:=by
  rw[List.findIdx?_eq_none_iff]
  intro x hx
  refine decide_eq_false (fun e=>?_)
  have:=(h.mem (keE x) x.d).1 (by rw[etK_eta];exact hx)
  rw[e,hk]at this
  cases this
 rw[this]

theorem fnd_some{f:Vf}{es:List Et}(h:StE f es){k:Ke}{d:ByteArray}(hk:f k=some d):∃(i:Nat) (hi:i<es.length),fndE es k=(i:Nat)∧es[i]=etK k d:=by
 obtain⟨j,hj,ej⟩:=List.getElem_of_mem ((h.mem k d).2 hk)
 unfold fndE
 cases hf:es.findIdx? (fun x=>decide (keE x=k)) with
 | none=>
  rw[List.findIdx?_eq_none_iff]at hf
  have:=hf _ (List.getElem_mem hj)
  rw[ej,keE_etK]at this
  simp at this
 | some i=>
  rw[List.findIdx?_eq_some_iff_getElem]at hf
  obtain⟨hi,h1,_⟩:=hf
  have h1:keE es[i]=k:=by simpa using h1
  refine⟨i,hi,rfl,?_⟩
  have h2:=(h.mem (keE es[i]) es[i].d).1 (by rw[etK_eta];exact List.getElem_mem hi)
  rw[h1,hk]at h2
  injection h2 with h2
  rw[h2]
  have h5:=etK_eta es[i]
  rw[h1]at h5
  exact h5.symm

def lisE(es:List Et)(b:Bx):List Nm:=(es.filter (fun x=>decide (x.b=b))).map (·.n)

theorem lisE_take(es:List Et)(b:Bx)(i:Nat)(hi:i<es.length):lisE (es.take (i+1)) b=if es[i].b=b then lisE (es.take i) b++[es[i].n]else lisE (es.take i) b:=by
 unfold lisE
 rw[List.take_succ_eq_append_getElem hi,List.filter_append,List.map_append]
 by_cases e:es[i].b=b
 ·rw[if_pos e,show List.filter (fun x=>decide (x.b=b)) [es[i]]=[es[i]]from by simp[e]]
  rfl
 ·rw[if_neg e,show List.filter (fun x=>decide (x.b=b)) [es[i]]=[]from by simp[e]]
  simp

theorem lis_mem{f:Vf}{es:List Et}(h:StE f es)(b:Bx)(n:Nm):n∈lisE es b↔f (b,n)≠none:=by
 unfold lisE
 rw[List.mem_map]
 constructor
 ·rintro⟨x,hx,rfl⟩
  rw[List.mem_filter]at hx
  have h1:x.b=b:=by simpa using hx.2
  have:=(h.mem (keE x) x.d).1 (by rw[etK_eta];exact hx.1)
  subst h1
  show f (keE x)≠none
  rw[this]
  simp
 ·intro hn
  cases hd:f (b,n) with
  | none=>exact absurd hd hn
  | some d=>exact⟨etK (b,n) d,List.mem_filter.2 ⟨(h.mem _ _).2 hd,by simp[etK]⟩,rfl⟩

theorem lis_ris{es:List Et}(h:RisE es)(b:Bx):RisN (lisE es b):=by
 unfold lisE RisN
 rw[List.pairwise_map]
 refine List.Pairwise.imp_of_mem ?_ (h.filter _)
 intro x y hx hy hlt
 have h1:x.b=b:=by simpa using(List.mem_filter.1 hx).2
 have h2:y.b=b:=by simpa using(List.mem_filter.1 hy).2
 rcases hlt with q | ⟨_,q | ⟨_,q⟩⟩
 ·have:kT (keE x)=kT (keE y):=by unfold kT keE;rw[h1,h2]
  rw[this]at q
  exact absurd q (List.lt_irrefl _)
 ·have:kA (keE x)=kA (keE y):=by unfold kA keE;rw[h1,h2]
  rw[this]at q
  exact absurd q (List.lt_irrefl _)
 ·exact q

end Go.Proofs.YtcfociogljhbiaaGreatDoor

namespace Go.Proofs.YtcfociogljhbiaaGreatDoor
open Go.RowKit Go.Maps Go.Sort Go.Shelf Go.Lib

def wiP(x:Wr)(inn:Bool)(y:Et):Bool:=!inn && bef14 (keO x) (keE y)

theorem withL_cons(x:Wr)(inn:Bool)(y:Et)(r:List Et):withL x inn (y::r)=(if wiP x inn y then [etW x]else [])++((if keE y=keO x then []else [y])++withL x (inn || wiP x inn y) r):=by
 rw[withL]
 unfold wiP
 cases inn<;>simp

theorem wi_b1{a b:Bool}(h:(!a && b)=false):(a || b)=a:=by cases a<;>cases b<;>simp_all
theorem wi_b2{a b:Bool}(h:(!a && b)=true):(a || b)=true:=by cases a<;>cases b<;>simp_all

set_option maxRecDepth 100000 in
set_option maxHeartbeats 4000000 in
theorem rwith14(w:World)(N:Nat)(a:Option Addr)(n c:Nat)(es:List Et)(h:RowC N 150 4 etE w (.slice a n c) es)(hn:n≤1000000)(x:Wr):Calls Tryz.prog 125 #[.slice a n c,.agg #[.string x.b.tn,.string x.b.ar,.string x.n.s,.bool x.there,.string x.data]] w fun e w'=>∃v,e=.returned v∧RowC w.heap.size 150 4 etE w' v (withL x (!x.there) es)∧Same w w':=by
 have HR:Hid (∀w',Same w w'→RowC N 150 4 etE w' (.slice a n c) es):=hid (fun w' hk=>h.kept hk (fun _ _ f=>f))
 obtain⟨_,_,hsh,hag,_⟩:=h.shape
 have HN:Hid (n=es.length∧n≤1000000∧(es≠[]→∃g,a=some ⟨g,0,none⟩)):=hid (by injection hsh with e1 e2 _;exact⟨e2,hn,by rw[e1];exact hag⟩)
 have y3:(w.alloc (.cells #[.string x.b.tn,.string x.b.ar,.string x.n.s,.bool x.there,.string x.data] 65)).cell? ⟨w.heap.size,3,none⟩=some (.bool x.there):=(Blk.new w _ _).cell 3
 clear h hn hsh hag
 go_enter Tryz.func125,Tryz.ntmps125
 go_wp2_with fail
 obtain⟨w1,hw1⟩:∃W,W=w.alloc (.cells #[.string x.b.tn,.string x.b.ar,.string x.n.s,.bool x.there,.string x.data] 65):=⟨_,rfl⟩
 obtain⟨g,hg⟩:∃g,g=w.heap.size:=⟨_,rfl⟩
 have HB:Hid (Blk w1 g #[.string x.b.tn,.string x.b.ar,.string x.n.s,.bool x.there,.string x.data] 65∧Same w w1):=hid (by rw[hw1,hg];exact⟨Blk.new w _ _,(Kept.refl _ _).alloc _⟩)
 have HSZ:Hid (w.heap.size≤w1.heap.size):=hid HB.out.2.size
 rw[←hw1,←hg]
 clear hw1 hg y3
 have HX:Hid (∀w',Same w1 w'→w'.cell? ⟨g,0,none⟩=some (.string x.b.tn)∧w'.cell? ⟨g,1,none⟩=some (.string x.b.ar)∧w'.cell? ⟨g,2,none⟩=some (.string x.n.s)∧w'.cell? ⟨g,4,none⟩=some (.string x.data)):=hid (fun w' hk=>by
  have hb:=HB.out.1.kept hk (fun f=>f)
  exact⟨hb.cell 0,hb.cell 1,hb.cell 2,hb.cell 4⟩)
 go_loopg [5,6,7] n (fun q z5 z6 z7 wr=>∃(i:Nat) (inn:Bool) (a5:Option Addr) (m5 q5:Nat) (out:List Et),z5=.slice a5 m5 q5∧z6=.bool inn∧z7=.int .i64 (i:Nat)∧i≤n∧n-i≤q∧Hid (RowC w1.heap.size 150 4 etE wr (.slice a5 m5 q5) out∧Same w1 wr∧out++withL x inn (es.drop i)=withL x (!x.there) es∧out.length≤2*i))
 case atStart=>exact⟨0,!x.there,none,0,0,[],rfl,rfl,rfl,by omega,by omega,hid ⟨RowC.nil,Kept.refl _ _,rfl,Nat.le_refl _⟩⟩
 case round=>
  obtain⟨i,inn,a5,m5,q5,out,rfl,rfl,rfl,hi,hiq,HI⟩:=hrel
  by_cases hlt:i<n
  ·have f1:decide ((i:Int)<(n:Int))=true:=by simp;omega
   have f2:decide (i<n)=true:=by simp;omega
   have hix:i<es.length:=by rw[←HN.out.1];exact hlt
   obtain⟨b,hb⟩:=HN.out.2.2 (fun e=>by rw[e]at hix;simp at hix)
   subst hb
   obtain⟨y,hy⟩:∃y,y=es[i]:=⟨_,rfl⟩
   have HY:Hid (∀w',Same w1 w'→w'.cell? ⟨b,i*4,none⟩=some (.string y.b.tn)∧w'.cell? ⟨b,i*4+1,none⟩=some (.string y.b.ar)∧w'.cell? ⟨b,i*4+2,none⟩=some (.string y.n.s)∧w'.cell? ⟨b,i*4+3,none⟩=some (.string y.d)):=hid (fun w' hk=>by
    have hr:=HR.out w' (HB.out.2.trans hk)
    rw[hy]
    exact⟨RowC.cell etE_ok hr i 0 hix (by decide),RowC.cell etE_ok hr i 1 hix (by decide),RowC.cell etE_ok hr i 2 hix (by decide),RowC.cell etE_ok hr i 3 hix (by decide)⟩)
   obtain⟨bf,hbf⟩:∃z,z=bef14 (keO x) (keE y):=⟨_,rfl⟩
   have HLS:Hid (∀w',Calls Tryz.prog 25 #[.agg #[.string x.b.tn,.string x.b.ar,.string x.n.s],.agg #[.string y.b.tn,.string y.b.ar,.string y.n.s]] w' fun e w2=>e=.returned (.bool bf)∧Same w' w2):=hid (fun w'=>(rless14 w' (keO x) (keE y)).mono (fun e w2 h9=>⟨by rw[hbf];exact h9.1,h9.2.same⟩))
   have HCO:Hid (withL x inn (es.drop i)=(if (!inn && bf)=true then [etW x]else [])++((if keE y=keO x then []else [y])++withL x (inn || bf) (es.drop (i+1)))):=hid (by
    rw[List.drop_eq_getElem_cons hix,withL_cons,←hy]
    unfold wiP
    rw[←hbf]
    cases inn<;>simp)
   have c1:(0:Int)≤(i:Int):=by omega
   have c2:(i:Int)<(n:Int):=by omega
   have hiw:IntKind.i64.wrap ((i:Int)+1)=((i+1:Nat):Int):=by rw[IntKind.wrap_i64];have:=HN.out;omega
   have HLT:Hid (i<n∧n≤1000000):=hid ⟨hlt,HN.out.2.1⟩
   have k0:=HX.out wr HI.out.2.1
   have k1:=HY.out wr HI.out.2.1
   obtain⟨k0,k4,k5,k6⟩:=k0
   obtain⟨k1,k7,k8,k9⟩:=k1
   clear hlt hix hy hbf
   go_upto_region 6 with fail
   go_cut [28]from 11 to 51 (fun z wx=>z=.bool (!inn && bf)∧Hid (Same wr wx))
   case first=>
    cases inn with
    | true=>
     go_wp2_with fail
     go_quiet (fail)
     go_wp2_with fail
     go_meet
     exact⟨rfl,hid ((Kept.refl _ _).drewN _)⟩
    | false=>
     go_region_held3 (fun w'=>w'.cell? ⟨g,0,none⟩=some (.string x.b.tn)∧w'.cell? ⟨g,1,none⟩=some (.string x.b.ar)∧w'.cell? ⟨g,2,none⟩=some (.string x.n.s)∧w'.cell? ⟨b,i*4,none⟩=some (.string y.b.tn)∧w'.cell? ⟨b,i*4+1,none⟩=some (.string y.b.ar)∧w'.cell? ⟨b,i*4+2,none⟩=some (.string y.n.s))
      (first
       | (go_split_ands;exact⟨hkc.cell (by assumption) (fun f=>f),hkc.cell (by assumption) (fun f=>f),hkc.cell (by assumption) (fun f=>f),hkc.cell (by assumption) (fun f=>f),hkc.cell (by assumption) (fun f=>f),hkc.cell (by assumption) (fun f=>f)⟩)
       | go_keep)
      (first
       | (go_at_call 25;refine(HLS.out _).mono ?_;rintro e wk ⟨rfl,hkc⟩;have HKK:Hid (Same wr wk):=hid (by first | exact Kept.undrewV hkc | exact Kept.undrewC hkc | exact hkc)))
     go_wp2_with fail
     go_meet
     exact⟨rfl,HKK⟩
   case rest=>
    obtain⟨rfl,HX1⟩:=hcut
    clear k0 k1 k4 k5 k6 k7 k8 k9
    have HW1:Hid (Same w1 wc):=hid (HI.out.2.1.trans HX1.out)
    have HO1:Hid (RowC w1.heap.size 150 4 etE wc (.slice a5 m5 q5) out∧out.length≤2*i∧w1.heap.size≤wc.heap.size):=hid ⟨HI.out.1.kept HX1.out (fun _ _ f=>f),HI.out.2.2.2,HW1.out.size⟩
    obtain⟨bp,hbp⟩:∃z,z=(!inn && bf):=⟨_,rfl⟩
    obtain⟨i2,hi2⟩:∃z,z=(inn || bf):=⟨_,rfl⟩
    rw[←hbp,←hi2]at HCO
    rw[←hbp]
    have HBP:Hid (bp=false→i2=inn):=hid (fun e=>by rw[e]at hbp;rw[hi2];exact wi_b1 hbp.symm)
    have HBT:Hid (bp=true→i2=true):=hid (fun e=>by rw[e]at hbp;rw[hi2];exact wi_b2 hbp.symm)
    clear hbp hi2 HLS
    go_upto_if 28 with fail
    go_cut [5,6]from 11 to 51 (fun z5 z6 wx=>∃(a6:Option Addr) (m6 q6:Nat),z5=.slice a6 m6 q6∧z6=.bool i2∧Hid (RowC w1.heap.size 150 4 etE wx (.slice a6 m6 q6) (out++(if bp=true then [etW x]else []))∧Same w1 wx))
    case first=>
     cases bp with
     | false=>
      have HE:=hid (HBP.out rfl)
      go_wp2_with fail
      go_meet
      exact⟨_,_,_,rfl,by rw[HE.out],hid ⟨by simpa using HO1.out.1,HW1.out⟩⟩
     | true=>
      have HE:=hid (HBT.out rfl)
      obtain⟨k0,k4,k5,k6⟩:=HX.out wc HW1.out
      go_wp2_with (at_builtin;refine wpList_append_c _ etE 4 etE_ok (by decide) w1.heap.size 96 150 (.agg #[.string ⟨#[]⟩,.string ⟨#[]⟩,.string ⟨#[]⟩,.string ⟨#[]⟩]) 64 Tryz.underlying96 Tryz.infoIt14 rfl (by decide) rfl (.tmp 29) (.tmp 35) rfl (.slice a5 m5 q5) out rfl (HO1.out.1.kept (show Same _ _ from(Kept.refl _ _).alloc _) (fun _ _ f=>f)) ⟨wc.heap.size,0,none⟩ 1 1 [etW x] rfl rfl (cellsAt_et _ (etW x)) (by have:=HO1.out;have:=HLT.out;simp only[List.length_singleton];omega) (by have:=HO1.out;simp;omega) ?_)
      intro v7 w7 hr7 hg7
      have H7:Hid (RowC w1.heap.size 150 4 etE w7 v7 (out++[etW x])∧Same w1 w7):=hid ⟨hr7,Kept.grown (Same.trans HW1.out ((Kept.refl _ wc).alloc _)) hg7 (fun k e=>.inr (RowC.ge HO1.out.1 e))⟩
      obtain⟨a7,c7,hv7,_⟩:=hr7.shape
      obtain⟨l7,hl7⟩:∃n,n=(out++[etW x]).length:=⟨_,rfl⟩
      rw[←hl7]at hv7
      subst hv7
      clear hr7 hg7 hl7 k0 k4 k5 k6
      go_wp2_with fail
      go_meet
      exact⟨_,_,_,rfl,by rw[HE.out],H7⟩
    case rest=>
     obtain⟨a6,m6,q6,rfl,rfl,HO⟩:=hcut
     obtain⟨k0,k4,k5,k6⟩:=HX.out wc HO.out.2
     obtain⟨k1,k7,k8,k9⟩:=HY.out wc HO.out.2
     have s1:=streq14 y.b.tn x.b.tn
     have s2:=streq14 y.b.ar x.b.ar
     have s3:=streq14 y.n.s x.n.s
     obtain⟨d1,e1⟩:∃q,q=decide (y.b.tn=x.b.tn):=⟨_,rfl⟩
     obtain⟨d2,e2⟩:∃q,q=decide (y.b.ar=x.b.ar):=⟨_,rfl⟩
     obtain⟨d3,e3⟩:∃q,q=decide (y.n.s=x.n.s):=⟨_,rfl⟩
     have HEQ:Hid ((d1 && d2 && d3)=decide (keE y=keO x)):=hid (by
      rw[e1,e2,e3,←Bool.decide_and,←Bool.decide_and]
      exact decide_eq_decide.2 ⟨fun e=>Prod.ext (Bx.ext' e.1.1 e.1.2) (Nm.ext' e.2),fun e=>by
       unfold keE keO at e
       injection e with e4 e5
       rw[e4,e5]
       exact⟨⟨rfl,rfl⟩,rfl⟩⟩)
     rw[←e1]at s1
     rw[←e2]at s2
     rw[←e3]at s3
     clear e1 e2 e3
     go_upto_region 9 with fail
     go_cut [44]from 11 to 51 (fun z wx=>z=.bool (!(d1 && d2 && d3))∧Hid (Same wc wx))
     case first=>
      cases d1<;>cases d2<;>cases d3
      all_goals go_quiet (fail)
      all_goals go_wp2_with fail
      all_goals go_meet
      all_goals exact⟨rfl,hid ((Kept.refl _ _).drewN _)⟩
     case rest=>
      obtain⟨rfl,HX2⟩:=hcut
      clear k0 k1 k4 k5 k6 k7 k8 k9 s1 s2 s3
      obtain⟨ne,hne⟩:∃z,z=(!(d1 && d2 && d3)):=⟨_,rfl⟩
      have HNE:Hid ((if keE y=keO x then([]:List Et)else [y])=if ne=true then [y]else []):=hid (by
       rw[hne,HEQ.out]
       by_cases e:keE y=keO x
       ·simp[e]
       ·simp[e])
      rw[←hne]
      clear hne
      rename_i _ wc0 _ wc
      have HW2:Hid (Same w1 wc):=hid (HO.out.2.trans HX2.out)
      have HO2:Hid (RowC w1.heap.size 150 4 etE wc (.slice a6 m6 q6) (out++(if bp=true then [etW x]else []))∧(out++(if bp=true then [etW x]else [])).length≤2*i+1∧w1.heap.size≤wc.heap.size):=hid ⟨HO.out.1.kept HX2.out (fun _ _ f=>f),by rw[List.length_append];have:=HO1.out.2.1;split<;>simp<;>omega,HW2.out.size⟩
      have HFI:Hid (((out++(if bp=true then [etW x]else []))++(if ne=true then [y]else []))++withL x i2 (es.drop (i+1))=withL x (!x.there) es):=hid (by
       rw[←HI.out.2.2.1,HCO.out,HNE.out]
       simp only[List.append_assoc])
      obtain⟨o2,ho2⟩:∃z,z=out++(if bp=true then [etW x]else []):=⟨_,rfl⟩
      rw[←ho2]at HO2 HFI
      clear ho2
      cases ne with
      | false=>
       go_wp2_with fail
       go_roundg (gk-1)
       case measure=>have:=HLT.out;omega
       case rel=>exact⟨i+1,i2,_,_,_,o2,rfl,rfl,by go_num,HLT.out.1,by omega,hid ⟨HO2.out.1,HW2.out,by simpa using HFI.out,by have:=HO2.out.2.1;omega⟩⟩
      | true=>
       obtain⟨k1,k7,k8,k9⟩:=HY.out wc HW2.out
       go_wp2_with (at_builtin;refine wpList_append_c _ etE 4 etE_ok (by decide) w1.heap.size 96 150 (.agg #[.string ⟨#[]⟩,.string ⟨#[]⟩,.string ⟨#[]⟩,.string ⟨#[]⟩]) 64 Tryz.underlying96 Tryz.infoIt14 rfl (by decide) rfl (.tmp 45) (.tmp 50) rfl (.slice a6 m6 q6) o2 rfl (HO2.out.1.kept (show Same _ _ from(Kept.refl _ _).alloc _) (fun _ _ f=>f)) ⟨wc.heap.size,0,none⟩ 1 1 [y] rfl rfl (cellsAt_et _ y) (by have:=HO2.out;have:=HLT.out;simp only[List.length_singleton];omega) (by have:=HO2.out;simp;omega) ?_)
       intro v7 w7 hr7 hg7
       have H7:Hid (RowC w1.heap.size 150 4 etE w7 v7 (o2++[y])∧Same w1 w7):=hid ⟨hr7,Kept.grown (Same.trans HW2.out ((Kept.refl _ wc).alloc _)) hg7 (fun k e=>.inr (RowC.ge HO2.out.1 e))⟩
       obtain⟨a7,c7,hv7,_⟩:=hr7.shape
       obtain⟨l7,hl7⟩:∃n,n=(o2++[y]).length:=⟨_,rfl⟩
       rw[←hl7]at hv7
       subst hv7
       clear hr7 hg7 hl7 k1 k7 k8 k9
       go_wp2_with fail
       go_roundg (gk-1)
       case measure=>have:=HLT.out;omega
       case rel=>exact⟨i+1,i2,_,_,_,o2++[y],rfl,rfl,by go_num,HLT.out.1,by omega,hid ⟨H7.out.1,H7.out.2,by simpa using HFI.out,by have:=HO2.out.2.1;rw[List.length_append];simp;omega⟩⟩
  ·have f1:decide ((i:Int)<(n:Int))=false:=by simp;omega
   have f2:decide (i<n)=false:=by simp;omega
   have HZ:Hid (out++(if inn=true then []else [etW x])=withL x (!x.there) es∧out.length≤2000000):=hid ⟨by
    have h9:=HI.out.2.2.1
    rw[List.drop_eq_nil_of_le (by have:=HN.out;omega),withL]at h9
    exact h9,by have:=HI.out.2.2.2;have:=HN.out;omega⟩
   have HO1:Hid (w1.heap.size≤wr.heap.size):=hid HI.out.2.1.size
   obtain⟨k0,k4,k5,k6⟩:=HX.out wr HI.out.2.1
   clear hlt
   cases inn with
   | true=>
    go_wp2_with fail
    go_ret
    exact⟨_,rfl,by rw[←HZ.out.1];simpa using HI.out.1.base HSZ.out,HB.out.2.trans HI.out.2.1⟩
   | false=>
    go_wp2_with (at_builtin;refine wpList_append_c _ etE 4 etE_ok (by decide) w1.heap.size 96 150 (.agg #[.string ⟨#[]⟩,.string ⟨#[]⟩,.string ⟨#[]⟩,.string ⟨#[]⟩]) 64 Tryz.underlying96 Tryz.infoIt14 rfl (by decide) rfl (.tmp 54) (.tmp 60) rfl (.slice a5 m5 q5) out rfl (HI.out.1.kept (show Same _ _ from(Kept.refl _ _).alloc _) (fun _ _ f=>f)) ⟨wr.heap.size,0,none⟩ 1 1 [etW x] rfl rfl (cellsAt_et _ (etW x)) (by have:=HZ.out;simp only[List.length_singleton];omega) (by have:=HO1.out;simp;omega) ?_)
    intro v7 w7 hr7 hg7
    have H7:Hid (RowC w1.heap.size 150 4 etE w7 v7 (out++[etW x])∧Same w1 w7):=hid ⟨hr7,Kept.grown (Same.trans HI.out.2.1 ((Kept.refl _ wr).alloc _)) hg7 (fun k e=>.inr (RowC.ge HI.out.1 e))⟩
    obtain⟨a7,c7,hv7,_⟩:=hr7.shape
    obtain⟨l7,hl7⟩:∃n,n=(out++[etW x]).length:=⟨_,rfl⟩
    rw[←hl7]at hv7
    subst hv7
    clear hr7 hg7 hl7 k0 k4 k5 k6
    go_wp2_with fail
    go_ret
    exact⟨_,rfl,by rw[←HZ.out.1];simpa using H7.out.1.base HSZ.out,HB.out.2.trans H7.out.2⟩

end Go.Proofs.YtcfociogljhbiaaGreatDoor

namespace Go.Proofs.YtcfociogljhbiaaGreatDoor
open Go.RowKit Go.Maps Go.Sort Go.Shelf Go.Lib

theorem withL_len(x:Wr):∀(es:List Et) (inn:Bool),(withL x inn es).length≤es.length+(if inn=true then 0 else 1)
 | [],inn=>by cases inn<;>simp[withL]
 | y::r,inn=>by
  rw[withL_cons,List.length_append,List.length_append,List.length_cons]
  have:=withL_len x r (inn || wiP x inn y)
  unfold wiP at this ⊢
  generalize bef14 (keO x) (keE y)=bf at this ⊢
  cases inn<;>cases bf<;>by_cases e:keE y=keO x<;>simp[e]at this ⊢<;>omega

theorem allL_len(ws:List Wr):∀es:List Et,(allL ws es).length≤es.length+ws.length:=by
 induction ws with
 | nil=>intro es;exact Nat.le_refl _
 | cons w r ih=>
  intro es
  have h1:=ih (withL w (!w.there) es)
  have h2:=withL_len w es (!w.there)
  show(allL r (withL w (!w.there) es)).length≤_
  rw[List.length_cons]
  split at h2<;>omega

theorem SrcC.at5x{w:World}{I:Nat→Prop}{ao:Option Addr}{n c:Nat}{xs:List Wr}(h:SrcC 5 wrE w I (.slice ao n c) xs)(j:Nat)(hj:j<n):∃b o t,ao=some ⟨b,o,none⟩∧I b∧xs[j]? = some t∧w.cell? ⟨b,o+j*5,none⟩=some (.string t.b.tn)∧w.cell? ⟨b,o+j*5+1,none⟩=some (.string t.b.ar)∧w.cell? ⟨b,o+j*5+2,none⟩=some (.string t.n.s)∧w.cell? ⟨b,o+j*5+3,none⟩=some (.bool t.there)∧w.cell? ⟨b,o+j*5+4,none⟩=some (.string t.data):=by
 obtain⟨a',c',e,hl,hc⟩:=h
 injection e with e1 e2 e3
 have hjx:j<xs.length:=by omega
 obtain⟨b,o,h1,h2,h3⟩:=hc (fun e=>by rw[e]at hjx;simp at hjx)
 exact⟨b,o,xs[j],e1.trans h1,h2,List.getElem?_eq_getElem hjx,h3 j hjx 0 (by omega),h3 j hjx 1 (by omega),h3 j hjx 2 (by omega),h3 j hjx 3 (by omega),h3 j hjx 4 (by omega)⟩

set_option maxRecDepth 100000 in
set_option maxHeartbeats 1000000 in
theorem rall14b(w:World)(N:Nat)(a:Option Addr)(n c:Nat)(es:List Et)(h:RowC N 150 4 etE w (.slice a n c) es)(hN:N≤w.heap.size)(wa:Option Addr)(wn wc:Nat)(ws:List Wr)(hw:SrcC 5 wrE w (fun k=>k<w.heap.size) (.slice wa wn wc) ws)(hl:es.length+ws.length≤1000000):Calls Tryz.prog 90 #[.slice a n c,.slice wa wn wc] w fun e w'=>∃v,e=.returned v∧RowC N 150 4 etE w' v (allL ws es)∧Same w w'∧(∀k,v.ownBlock=some k→(Value.slice a n c).ownBlock=some k∨w.heap.size≤k):=by
 have HR:=hid h
 have HW:=hid hw
 have HN:Hid (N≤w.heap.size∧wn=ws.length∧es.length+ws.length≤1000000):=hid ⟨hN,by obtain⟨_,_,e,_⟩:=hw;injection e,hl⟩
 clear h hw hl hN
 go_enter Tryz.func90,Tryz.ntmps90
 go_wp2_with fail
 go_loopg [5,6] wn (fun q z5 z6 wr=>∃(i:Nat) (a5:Option Addr) (m5 q5:Nat),z5=.slice a5 m5 q5∧z6=.int .i64 (i:Nat)∧i≤wn∧wn-i≤q∧Hid (RowC N 150 4 etE wr (.slice a5 m5 q5) (allL (ws.take i) es)∧Same w wr∧(∀k,(Value.slice a5 m5 q5).ownBlock=some k→(Value.slice a n c).ownBlock=some k∨w.heap.size≤k)))
 case atStart=>exact⟨0,_,_,_,rfl,rfl,by omega,by omega,hid ⟨HR.out,Kept.refl _ _,fun _ e=>.inl e⟩⟩
 case round=>
  obtain⟨i,a5,m5,q5,rfl,rfl,hi,hiq,HI⟩:=hrel
  by_cases hlt:i<wn
  ·have f1:decide ((i:Int)<(wn:Int))=true:=by simp;omega
   have f2:decide (i<wn)=true:=by simp;omega
   obtain⟨b,o,x,rfl,_,hx,k0,k1,k2,k3,k4⟩:=HW.out.at5x i hlt
   have k0:=HI.out.2.1.cell k0 (fun f=>f)
   have k1:=HI.out.2.1.cell k1 (fun f=>f)
   have k2:=HI.out.2.1.cell k2 (fun f=>f)
   have k3:=HI.out.2.1.cell k3 (fun f=>f)
   have k4:=HI.out.2.1.cell k4 (fun f=>f)
   obtain⟨hi9,e9⟩:=List.getElem?_eq_some_iff.1 hx
   have HT:Hid (allL (ws.take (i+1)) es=withL x (!x.there) (allL (ws.take i) es)):=hid (by rw[allL_take ws es i hi9,e9])
   have HM:Hid (m5≤1000000):=hid (by
    obtain⟨_,_,e,_⟩:=HI.out.1.shape
    injection e with _ e _
    have h1:=allL_len (ws.take i) es
    have h2:=HN.out.2.2
    rw[List.length_take]at h1
    omega)
   have HC:=rwith14 wr N a5 m5 q5 _ HI.out.1 HM.out x
   have c1:(0:Int)≤(i:Int):=by omega
   have c2:(i:Int)<(wn:Int):=by omega
   have hiw:IntKind.i64.wrap ((i:Int)+1)=((i+1:Nat):Int):=by rw[IntKind.wrap_i64];have:=HN.out;omega
   have HLT:=hid hlt
   clear hlt hx hi9 e9
   go_wp2_with fail
   refine HC.mono ?_
   rintro e w5 ⟨v5,rfl,hr5,hk5⟩
   obtain⟨a7,c7,hv7,_⟩:=hr5.shape
   have H5:Hid (RowC N 150 4 etE w5 v5 (allL (ws.take (i+1)) es)∧Same w w5∧(∀k,v5.ownBlock=some k→(Value.slice a n c).ownBlock=some k∨w.heap.size≤k)):=hid ⟨by rw[HT.out];exact hr5.base (Nat.le_trans HN.out.1 HI.out.2.1.size),HI.out.2.1.trans hk5,fun k e=>.inr (Nat.le_trans HI.out.2.1.size (hr5.ge e))⟩
   obtain⟨l7,hl7⟩:∃n,n=(withL x (!x.there) (allL (ws.take i) es)).length:=⟨_,rfl⟩
   rw[←hl7]at hv7
   subst hv7
   clear HC hr5 hk5 hl7 k0 k1 k2 k3 k4
   go_wp2_with fail
   go_roundg (gk-1)
   case measure=>have:=HLT.out;omega
   case rel=>exact⟨i+1,_,_,_,rfl,by go_num,HLT.out,by omega,H5⟩
  ·have f1:decide ((i:Int)<(wn:Int))=false:=by simp;omega
   have f2:decide (i<wn)=false:=by simp;omega
   have HZ:Hid (ws.take i=ws):=hid (List.take_of_length_le (by have:=HN.out;omega))
   clear hlt
   go_wp2_with fail
   go_ret
   exact⟨_,rfl,by have:=HI.out.1;rw[HZ.out]at this;exact this,HI.out.2.1,HI.out.2.2⟩

theorem rall14(w:World)(N:Nat)(a:Option Addr)(n c:Nat)(es:List Et)(h:RowC N 150 4 etE w (.slice a n c) es)(hN:N≤w.heap.size)(wa:Option Addr)(wn wc:Nat)(ws:List Wr)(hw:SrcC 5 wrE w (fun k=>k<w.heap.size) (.slice wa wn wc) ws)(hl:es.length+ws.length≤1000000):Calls Tryz.prog 90 #[.slice a n c,.slice wa wn wc] w fun e w'=>∃v,e=.returned v∧RowC N 150 4 etE w' v (allL ws es)∧Same w w':=
 (rall14b w N a n c es h hN wa wn wc ws hw hl).mono (fun _ _ ⟨v,h1,h2,h3,_⟩=>⟨v,h1,h2,h3⟩)

end Go.Proofs.YtcfociogljhbiaaGreatDoor

namespace Go.Proofs.YtcfociogljhbiaaGreatDoor
open Go.RowKit Go.Maps Go.Sort Go.Shelf Go.Lib

theorem lisE_len(es:List Et)(b:Bx):(lisE es b).length≤es.length:=by
 unfold lisE
 rw[List.length_map]
 exact List.length_filter_le _ _

set_option maxRecDepth 100000 in
set_option maxHeartbeats 2000000 in
theorem rlist14(w:World)(N:Nat)(a:Option Addr)(n c:Nat)(es:List Et)(h:RowC N 150 4 etE w (.slice a n c) es)(hn:n≤1000000)(bx:Bx):Calls Tryz.prog 86 #[.slice a n c,.agg #[.string bx.tn,.string bx.ar]] w fun e w'=>∃v,e=.returned v∧RowE w.heap.size 9 nmV w' v (lisE es bx)∧Same w w':=by
 have HR:Hid (∀w',Same w w'→RowC N 150 4 etE w' (.slice a n c) es):=hid (fun w' hk=>h.kept hk (fun _ _ f=>f))
 obtain⟨_,_,hsh,hag,_⟩:=h.shape
 have HN:Hid (n=es.length∧n≤1000000∧(es≠[]→∃g,a=some ⟨g,0,none⟩)):=hid (by injection hsh with e1 e2 _;exact⟨e2,hn,by rw[e1];exact hag⟩)
 clear h hn hsh hag
 go_enter Tryz.func86,Tryz.ntmps86
 go_wp2_with fail
 obtain⟨w1,hw1⟩:∃W,W=w.alloc (.cells #[.string bx.tn,.string bx.ar] 128):=⟨_,rfl⟩
 obtain⟨g,hg⟩:∃g,g=w.heap.size:=⟨_,rfl⟩
 have HB:Hid (Blk w1 g #[.string bx.tn,.string bx.ar] 128∧Same w w1):=hid (by rw[hw1,hg];exact⟨Blk.new w _ _,(Kept.refl _ _).alloc _⟩)
 have HSZ:Hid (w.heap.size≤w1.heap.size):=hid HB.out.2.size
 rw[←hw1,←hg]
 clear hw1 hg
 go_loopg [5,6] n (fun q z5 z6 wr=>∃(i:Nat) (a5:Option Addr) (m5 q5:Nat),z5=.slice a5 m5 q5∧z6=.int .i64 (i:Nat)∧i≤n∧n-i≤q∧Hid (RowE w1.heap.size 9 nmV wr (.slice a5 m5 q5) (lisE (es.take i) bx)∧Same w1 wr))
 case atStart=>exact⟨0,none,0,0,rfl,rfl,by omega,by omega,hid ⟨RowE.nil,Kept.refl _ _⟩⟩
 case round=>
  obtain⟨i,a5,m5,q5,rfl,rfl,hi,hiq,HI⟩:=hrel
  by_cases hlt:i<n
  ·have f1:decide ((i:Int)<(n:Int))=true:=by simp;omega
   have f2:decide (i<n)=true:=by simp;omega
   have hix:i<es.length:=by rw[←HN.out.1];exact hlt
   obtain⟨b,hb⟩:=HN.out.2.2 (fun e=>by rw[e]at hix;simp at hix)
   subst hb
   obtain⟨y,hy⟩:∃y,y=es[i]:=⟨_,rfl⟩
   have HY:Hid (∀w',Same w1 w'→w'.cell? ⟨b,i*4,none⟩=some (.string y.b.tn)∧w'.cell? ⟨b,i*4+1,none⟩=some (.string y.b.ar)∧w'.cell? ⟨b,i*4+2,none⟩=some (.string y.n.s)):=hid (fun w' hk=>by
    have hr:=HR.out w' (HB.out.2.trans hk)
    rw[hy]
    exact⟨RowC.cell etE_ok hr i 0 hix (by decide),RowC.cell etE_ok hr i 1 hix (by decide),RowC.cell etE_ok hr i 2 hix (by decide)⟩)
   have HT:=hid (lisE_take es bx i hix)
   rw[←hy]at HT
   have c1:(0:Int)≤(i:Int):=by omega
   have c2:(i:Int)<(n:Int):=by omega
   have hiw:IntKind.i64.wrap ((i:Int)+1)=((i+1:Nat):Int):=by rw[IntKind.wrap_i64];have:=HN.out;omega
   have HLT:Hid (i<n∧n≤1000000):=hid ⟨hlt,HN.out.2.1⟩
   have HLL:Hid ((lisE (es.take i) bx).length≤1000000):=hid (by have h1:=lisE_len (es.take i) bx;rw[List.length_take]at h1;have:=HLT.out;omega)
   obtain⟨k0,k1,k2⟩:=HY.out wr HI.out.2
   have hbb:=HB.out.1.kept HI.out.2 (fun f=>f)
   have q0:wr.cell? ⟨g,0,none⟩=some (.string bx.tn):=hbb.cell 0
   have q1:wr.cell? ⟨g,1,none⟩=some (.string bx.ar):=hbb.cell 1
   have s1:=streq14 y.b.tn bx.tn
   have s2:=streq14 y.b.ar bx.ar
   obtain⟨d1,e1⟩:∃q,q=decide (y.b.tn=bx.tn):=⟨_,rfl⟩
   obtain⟨d2,e2⟩:∃q,q=decide (y.b.ar=bx.ar):=⟨_,rfl⟩
   have HEQ:Hid ((d1 && d2)=decide (y.b=bx)):=hid (by
    rw[e1,e2,←Bool.decide_and]
    exact decide_eq_decide.2 ⟨fun e=>Bx.ext' e.1 e.2,fun e=>by rw[e];exact⟨rfl,rfl⟩⟩)
   rw[←e1]at s1
   rw[←e2]at s2
   clear hlt hix hy e1 e2 hbb
   go_upto_region 5 with fail
   go_cut [32]from 7 to 41 (fun z wx=>z=.bool (d1 && d2)∧Hid (Same wr wx))
   case first=>
    cases d1<;>cases d2
    all_goals go_quiet (fail)
    all_goals go_wp2_with fail
    all_goals go_meet
    all_goals exact⟨rfl,hid ((Kept.refl _ _).drewN _)⟩
   case rest=>
    obtain⟨rfl,HX2⟩:=hcut
    clear k0 k1 k2 q0 q1 s1 s2
    have HW2:Hid (Same w1 wc∧w1.heap.size≤wc.heap.size):=hid ⟨HI.out.2.trans HX2.out,(HI.out.2.trans HX2.out).size⟩
    have HO2:Hid (RowE w1.heap.size 9 nmV wc (.slice a5 m5 q5) (lisE (es.take i) bx)):=hid (HI.out.1.kept HX2.out (fun _ _ f=>f))
    obtain⟨eq,heq⟩:∃z,z=(d1 && d2):=⟨_,rfl⟩
    have HQ:Hid (lisE (es.take (i+1)) bx=if eq=true then lisE (es.take i) bx++[y.n]else lisE (es.take i) bx):=hid (by
     rw[HT.out,heq,HEQ.out]
     by_cases e:y.b=bx<;>simp[e])
    rw[←heq]
    clear heq
    cases eq with
    | false=>
     have HE:Hid (lisE (es.take (i+1)) bx=lisE (es.take i) bx):=hid (by simpa using HQ.out)
     go_wp2_with fail
     go_roundg (gk-1)
     case measure=>have:=HLT.out;omega
     case rel=>exact⟨i+1,_,_,_,rfl,by go_num,HLT.out.1,by omega,hid ⟨by rw[HE.out];exact HO2.out,HW2.out.1⟩⟩
    | true=>
     have HE:Hid (lisE (es.take (i+1)) bx=lisE (es.take i) bx++[y.n]):=hid (by simpa using HQ.out)
     obtain⟨k0,k1,k2⟩:=HY.out wc HW2.out.1
     go_wp2_with (at_builtin;refine wpList_append_e _ nmV nmV_one w1.heap.size 47 9 (.string ⟨#[]⟩) 16 Tryz.underlying47 Tryz.infoStr rfl (by decide) rfl (.tmp 33) (.tmp 40) rfl (.slice a5 m5 q5) (lisE (es.take i) bx) rfl (HO2.out.kept (show Same wc _ from(Kept.refl _ _).alloc _) (fun _ _ f=>f)) ⟨wc.heap.size,0,none⟩ 1 1 [y.n] rfl rfl (cellsAt_new _ _ _) (by have:=HLL.out;simp;omega) (by have:=HW2.out.2;simp;omega) ?_)
     intro v7 w7 hr7 hg7
     have H7:Hid (RowE w1.heap.size 9 nmV w7 v7 (lisE (es.take (i+1)) bx)∧Same w1 w7):=hid ⟨by rw[HE.out];exact hr7,Kept.grown (Same.trans HW2.out.1 ((Kept.refl _ wc).alloc _)) hg7 (fun k e=>.inr (RowE.ge HO2.out e))⟩
     obtain⟨a7,c7,hv7,_⟩:=hr7.shape
     obtain⟨l7,hl7⟩:∃n,n=(lisE (es.take i) bx++[y.n]).length:=⟨_,rfl⟩
     rw[←hl7]at hv7
     subst hv7
     clear hr7 hg7 hl7 k0 k1 k2
     go_wp2_with fail
     go_roundg (gk-1)
     case measure=>have:=HLT.out;omega
     case rel=>exact⟨i+1,_,_,_,rfl,by go_num,HLT.out.1,by omega,H7⟩
  ·have f1:decide ((i:Int)<(n:Int))=false:=by simp;omega
   have f2:decide (i<n)=false:=by simp;omega
   have HZ:Hid (es.take i=es):=hid (List.take_of_length_le (by have:=HN.out;omega))
   clear hlt
   go_wp2_with fail
   go_ret
   exact⟨_,rfl,by have:=HI.out.1.base HSZ.out;rw[HZ.out]at this;exact this,HB.out.2.trans HI.out.2⟩

end Go.Proofs.YtcfociogljhbiaaGreatDoor

namespace Go.Proofs.YtcfociogljhbiaaGreatDoor
open Go.RowKit Go.Maps Go.Sort Go.Shelf Go.Lib

theorem row_len{α:Type}{B t k:Nat}{en:α→List Value}{w:World}{a:Option Addr}{n c:Nat}{xs:List α}(h:RowC B t k en w (.slice a n c) xs):n=xs.length:=by
 obtain⟨_,_,e,_⟩:=h.shape
 injection e

theorem row_at{α:Type}{B t:Nat}{en:α→List Value}{w:World}{a:Option Addr}{n c:Nat}{xs:List α}(ok:EncOk en 1)(h:RowC B t 1 en w (.slice a n c) xs)(i:Nat)(hi:i<xs.length):∃g,a=some ⟨g,0,none⟩∧w.cell? ⟨g,i,none⟩=(en xs[i])[0]?:=by
 obtain⟨_,_,e,hg,_⟩:=h.shape
 injection e with e1 e2 e3
 obtain⟨g,e4⟩:=hg (fun q=>by rw[q]at hi;simp at hi)
 have ea:a=some ⟨g,0,none⟩:=e1.trans e4
 subst ea
 have:=RowC.cell ok h i 0 hi (by decide)
 rw[Nat.mul_one,Nat.add_zero]at this
 exact⟨g,rfl,this⟩

def visE(es:List Et):Bx→Nm→Option ByteArray:=fun b n=>(es.find? (fun x=>decide (keE x=(b,n)))).map (·.d)

theorem ltK_split{a b:Ke}(h:ltK a b):ltB a.1 b.1∨(a.1=b.1∧bysN a.2<bysN b.2):=by
 rcases h with h | ⟨h,h' | ⟨h',h''⟩⟩
 ·exact .inl (.inl h)
 ·exact .inl (.inr ⟨h,h'⟩)
 ·exact .inr ⟨Bx.ext' (bytesC_inj14 h) (bytesC_inj14 h'),h''⟩

theorem visE_none{es:List Et}{b:Bx}{n:Nm}:visE es b n=none↔∀x∈es,keE x≠(b,n):=by
 unfold visE
 rw[Option.map_eq_none_iff,List.find?_eq_none]
 simp

theorem visE_succ{es:List Et}(h:RisE es)(i:Nat)(hi:i<es.length):visE (es.take (i+1))=vis1 (visE (es.take i)) es[i].b es[i].n es[i].d:=by
 funext b n
 by_cases e:b=es[i].b∧n=es[i].n
 ·have hk:keE es[i]=(b,n):=by rw[e.1,e.2];rfl
  have hno:∀x∈es.take i,keE x≠(b,n):=fun x hx e2=>by
   obtain⟨j,hj,rfl⟩:=List.getElem_of_mem hx
   rw[List.length_take]at hj
   rw[List.getElem_take]at e2
   have:=List.pairwise_iff_getElem.1 h j i (by omega) hi (by omega)
   rw[e2,hk]at this
   exact ltK_irr _ this
  have h1:vis1 (visE (es.take i)) es[i].b es[i].n es[i].d b n=some es[i].d:=if_pos e
  rw[h1]
  unfold visE
  rw[List.take_succ_eq_append_getElem hi,List.find?_append,List.find?_eq_none.2 (fun x hx=>by simpa using hno x hx),Option.none_or,List.find?_cons_of_pos (by simpa using hk)]
  rfl
 ·rw[vis1_miss e]
  unfold visE
  rw[List.take_succ_eq_append_getElem hi,List.find?_append,List.find?_cons_of_neg (by
   intro q
   have q:keE es[i]=(b,n):=by simpa using q
   exact e ⟨(congrArg Prod.fst q).symm,(congrArg Prod.snd q).symm⟩),List.find?_nil,Option.or_none]

theorem visE_lt{es:List Et}(h:RisE es)(i:Nat)(hi:i<es.length):∀b' n',visE (es.take i) b' n'≠none→ltB b' es[i].b∨(b'=es[i].b∧bysN n'<bysN es[i].n):=fun b' n' hv=>by
 by_cases he:∃x∈es.take i,keE x=(b',n')
 ·obtain⟨x,hx,e⟩:=he
  obtain⟨j,hj,rfl⟩:=List.getElem_of_mem hx
  rw[List.length_take]at hj
  rw[List.getElem_take]at e
  have:=List.pairwise_iff_getElem.1 h j i (by omega) hi (by omega)
  rw[e]at this
  exact ltK_split this
 ·exact absurd (visE_none.2 (fun x hx e=>he ⟨x,hx,e⟩)) hv

theorem visE_is{f:Vf}{es:List Et}(h:StE f es):visE es=fun b n=>f (b,n):=by
 funext b n
 cases hf:f (b,n) with
 | none=>exact visE_none.2 (fun x hx e=>by
   have:=(h.mem (keE x) x.d).1 (by rw[etK_eta];exact hx)
   rw[e,hf]at this
   cases this)
 | some d=>
  have hm:=(h.mem (b,n) d).2 hf
  unfold visE
  cases hd:es.find? (fun x=>decide (keE x=(b,n))) with
  | none=>
   have:=List.find?_eq_none.1 hd _ hm
   rw[keE_etK]at this
   simp at this
  | some x=>
   have h1:keE x=(b,n):=by simpa using List.find?_some hd
   have h2:=(h.mem (keE x) x.d).1 (by rw[etK_eta];exact List.mem_of_find?_eq_some hd)
   rw[h1,hf]at h2
   injection h2 with h2
   rw[Option.map_some,h2]

set_option maxRecDepth 100000 in
set_option maxHeartbeats 8000000 in
theorem rdump14(w:World)(N:Nat)(a:Option Addr)(kl kc:Nat)(es:List Et)(f:Vf)(h:RowC N 150 4 etE w (.slice a kl kc) es)(hn:kl≤90000)(hf:StE f es):Calls Tryz.prog 55 #[.slice a kl kc] w fun e w'=>DumA w (fun b n=>f (b,n)) e w':=by
 have HR:Hid (∀w',Same w w'→RowC N 150 4 etE w' (.slice a kl kc) es):=hid (fun w' hk=>h.kept hk (fun _ _ f=>f))
 obtain⟨_,_,hsh,hag,_⟩:=h.shape
 have HI:Hid (kl=es.length∧kl≤90000∧(es≠[]→∃g,a=some ⟨g,0,none⟩)):=hid (by injection hsh with e1 e2 _;exact⟨e2,hn,by rw[e1];exact hag⟩)
 have HF:=hid hf
 clear h hn hsh hag hf
 go_enter Tryz.func55,Tryz.ntmps55
 go_wp2_with fail
 go_loopg [3,4] kl (fun q z5 z7 wr=>∃(i:Nat) (As:List Ad) (a0:Option Addr) (l0 c0:Nat),kl-i≤q∧i≤kl∧z5=.slice a0 l0 c0∧z7=.int .i64 (i:Nat)∧Hid (DmAt w.heap.size wr (.slice a0 l0 c0) As∧IsDm (visE (es.take i)) (adD As)∧As.length≤i∧(∀x∈As,x.es.length≤i)∧Same w wr))
 case atStart=>exact⟨0,[],none,0,0,by omega,by omega,rfl,rfl,hid ⟨⟨RowC.nil,fun x hx=>(by cases hx),List.Pairwise.nil⟩,by
   have e9:visE (es.take 0)=fun _ _=>none:=by funext b n;rw[List.take_zero];rfl
   rw[e9];exact IsDm.nil,by simp,fun x hx=>(by cases hx),Kept.refl _ _⟩⟩
 case round=>
  obtain⟨i,As,a0,l0,c0,hq,hil,rfl,rfl,HS⟩:=hrel
  by_cases hlt:i<kl
  ·have hli:decide (i<kl)=true:=decide_eq_true hlt
   have hli2:(i:Int)<(kl:Int):=by omega
   have hli3:(0:Int)≤(i:Int):=by omega
   have hlt2:i<es.length:=by have:=HI.out.1;omega
   obtain⟨g,hg⟩:=HI.out.2.2 (fun e=>by rw[e]at hlt2;simp at hlt2)
   subst hg
   obtain⟨y,hy⟩:∃y,y=es[i]:=⟨_,rfl⟩
   obtain⟨b,n,d⟩:=y
   have HCW:Hid (∀w',Same w w'→w'.cell? ⟨g,i*4,none⟩=some (.string b.tn)∧w'.cell? ⟨g,i*4+1,none⟩=some (.string b.ar)∧w'.cell? ⟨g,i*4+2,none⟩=some (.string n.s)∧w'.cell? ⟨g,i*4+3,none⟩=some (.string d)):=hid (fun w' hk=>by
    have hcw:∀q u,q<4→(etE ⟨b,n,d⟩)[q]? = some u→w'.cell? ⟨g,i*4+q,none⟩=some u:=fun q u hq e=>by rw[RowC.cell etE_ok (HR.out w' hk) i q hlt2 hq,←hy,e]
    exact⟨hcw 0 _ (by decide) rfl,hcw 1 _ (by decide) rfl,hcw 2 _ (by decide) rfl,hcw 3 _ (by decide) rfl⟩)
   have hiw:IntKind.i64.wrap ((i:Int)+1)=((i+1:Nat):Int):=by have:=HI.out.2.1;rw[IntKind.wrap_i64];omega
   have HVS:Hid (visE (es.take (i+1))=vis1 (visE (es.take i)) b n d∧∀b' n',visE (es.take i) b' n'≠none→ltB b' b∨(b'=b∧bysN n'<bysN n)):=hid (by
    have h1:=visE_succ HF.out.ris i hlt2
    have h2:=visE_lt HF.out.ris i hlt2
    rw[←hy]at h1 h2
    exact⟨h1,h2⟩)
   have hl0:l0=As.length:=by
    obtain⟨a9,c9,hv9,_⟩:=HS.out.1.row.shape
    injection hv9
   have HL0:Hid (l0=As.length∧l0≤99999):=hid ⟨hl0,by have:=HS.out.2.2.1;have:=HI.out.2.1;omega⟩
   obtain⟨k0,k1,k2,k3⟩:=HCW.out wr HS.out.2.2.2.2
   clear hy hl0
   go_upto_region 7 with fail
   obtain⟨w6,hw6⟩:∃W,W=wr.alloc (.cells #[.string b.tn,.string b.ar,.string n.s] 63):=⟨_,rfl⟩
   obtain⟨kg,hkg⟩:∃g,g=wr.heap.size:=⟨_,rfl⟩
   have HKB:Hid (Blk w6 kg #[.string b.tn,.string b.ar,.string n.s] 63∧Same wr w6∧w.heap.size≤kg):=hid (by rw[hw6,hkg];exact⟨Blk.new wr _ _,(Kept.refl _ _).alloc _,HS.out.2.2.2.2.size⟩)
   rw[←hw6,←hkg]
   clear hw6 hkg k0 k1 k2 k3
   have HS6:Hid (DmAt w.heap.size w6 (.slice a0 l0 c0) As∧Same w w6):=hid ⟨HS.out.1.same HKB.out.2.1,HS.out.2.2.2.2.trans HKB.out.2.1⟩
   have q0:w6.cell? ⟨kg,0,none⟩=some (.string b.tn):=HKB.out.1.cell 0
   have q1:w6.cell? ⟨kg,1,none⟩=some (.string b.ar):=HKB.out.1.cell 1
   have HKC:Hid (∀w',Same w6 w'→w'.cell? ⟨kg,0,none⟩=some (.string b.tn)∧w'.cell? ⟨kg,1,none⟩=some (.string b.ar)∧w'.cell? ⟨kg,2,none⟩=some (.string n.s)):=hid (fun w' hk=>by
    have hb:=HKB.out.1.kept hk (fun f=>f)
    exact⟨hb.cell 0,hb.cell 1,hb.cell 2⟩)
   go_cut [43]from 7 to 74 (fun z wx=>z=.bool (newA As b)∧Hid (Same w6 wx))
   case first=>
    by_cases hz:l0=0
    ·have be:((l0:Int)==0)=true:=by rw[hz];rfl
     have HE:Hid (newA As b=true):=hid (by rw[List.eq_nil_of_length_eq_zero (HL0.out.1.symm.trans hz)];exact newA_nil b)
     clear hz
     go_quiet (fail)
     go_wp2_with fail
     go_meet
     exact⟨by rw[HE.out],hid ((Kept.refl _ _).drewN _)⟩
    ·obtain⟨m,hm⟩:∃m,l0=m+1:=⟨l0-1,by omega⟩
     have hmA:m<As.length:=by have:=HL0.out.1;omega
     obtain⟨ga,hga⟩:∃g,a0=some ⟨g,0,none⟩:=by
      obtain⟨a9,c9,hv9,hg9,_⟩:=HS6.out.1.row.shape
      injection hv9 with e9 _ _
      obtain⟨g,e8⟩:=hg9 (fun e=>by rw[e]at hmA;simp at hmA)
      exact⟨g,by rw[e9,e8]⟩
     subst hga
     obtain⟨x,hx⟩:∃x,x=As[m]:=⟨_,rfl⟩
     have hxr:∀q u,q<3→(adE x)[q]? = some u→w6.cell? ⟨ga,m*3+q,none⟩=some u:=fun q u hq e=>by rw[RowC.cell adE_ok HS6.out.1.row m q hmA hq,←hx,e]
     have x0:=hxr 0 (.string x.b.tn) (by decide) rfl
     have x1:=hxr 1 (.string x.b.ar) (by decide) rfl
     rw[Nat.add_zero]at x0
     have be:((l0:Int)==0)=false:=by simp;omega
     have iw0:(l0:Int)-1=(m:Int):=by omega
     have iw:IntKind.i64.wrap (m:Int)=(m:Int):=by have:=HL0.out.2;rw[IntKind.wrap_i64];omega
     have ib:(m:Int)<(l0:Int):=by omega
     have HNA:Hid (newA As b = !decide (x.b=b)):=hid (by rw[newA_last As b m (by have:=HL0.out.1;omega),←hx])
     have s1:=streq14 x.b.tn b.tn
     have s2:=streq14 x.b.ar b.ar
     obtain⟨d1,e1⟩:∃q,q=decide (x.b.tn=b.tn):=⟨_,rfl⟩
     obtain⟨d2,e2⟩:∃q,q=decide (x.b.ar=b.ar):=⟨_,rfl⟩
     have HNB:Hid (newA As b = !(d1 && d2)):=hid (by
      rw[HNA.out,e1,e2,←Bool.decide_and]
      exact congrArg (!·) (decide_eq_decide.2 ⟨fun e=>by rw[e];exact⟨rfl,rfl⟩,fun e=>Bx.ext' e.1 e.2⟩))
     rw[←e1]at s1
     rw[←e2]at s2
     clear e1 e2 hx hxr hz HNA hm
     cases d1<;>cases d2
     all_goals
      go_quiet (fail)
      go_wp2_with fail
      go_meet
      exact⟨by rw[HNB.out];rfl,hid ((Kept.refl _ _).drewN _)⟩
   case rest=>
    obtain⟨rfl,HX⟩:=hcut
    clear q0 q1
    have HSX:Hid (DmAt w.heap.size wc (.slice a0 l0 c0) As∧Same w wc∧Same w6 wc):=hid ⟨HS6.out.1.same HX.out,HS6.out.2.trans HX.out,HX.out⟩
    have HSZ:Hid (w.heap.size≤wc.heap.size):=hid HSX.out.2.1.size
    obtain⟨nb,hnb⟩:∃q,q=newA As b:=⟨_,rfl⟩
    rw[←hnb]
    have HNB:Hid (nb=newA As b):=hnb
    clear hnb
    go_upto_if 43 with fail
    go_cut [3,6]from 7 to 74 (fun z5 z8 wx=>∃(As':List Ad) (x:Ad) (a5:Option Addr) (m5 c5:Nat),z5=.slice a5 (m5+1) c5∧z8=.int .i64 ((m5+1:Nat):Int)∧Hid (DmL w.heap.size wx (.slice a5 (m5+1) c5) As b As' x∧m5=As'.length∧Same w wx∧As'.length≤i∧wx.cell? ⟨kg,2,none⟩=some (.string n.s)))
    case first=>
     cases nb with
     | false=>
      obtain⟨As',x,hAs,hxb⟩:=newA_yes HNB.out.symm
      have hl9:l0=As'.length+1:=by rw[HL0.out.1,hAs,List.length_append];rfl
      subst hl9
      go_wp2_with fail
      go_meet
      exact⟨As',x,a0,As'.length,c0,rfl,rfl,hid ⟨⟨by rw[←hAs];exact HSX.out.1,hxb,.inl hAs⟩,rfl,HSX.out.2.1,by have h1:=HS.out.2.2.1;rw[hAs,List.length_append]at h1;simp at h1;omega,(HKC.out wc HSX.out.2.2).2.2⟩⟩
     | true=>
      have HNO:=hid (newA_no HNB.out.symm)
      obtain⟨q0,q1,q2⟩:=HKC.out wc HSX.out.2.2
      go_wp2_with (at_builtin;refine wpList_append_c _ adE 3 adE_ok (by decide) w.heap.size 22 83 (.agg #[.string ⟨#[]⟩,.string ⟨#[]⟩,.slice none 0 0]) 56 Tryz.underlying22 Tryz.infoArc rfl (by decide) rfl (.tmp 44) (.tmp 50) rfl (.slice a0 l0 c0) As rfl (HSX.out.1.row.kept (show Same wc _ from(Kept.refl _ _).alloc _) (fun _ _ f=>f)) ⟨wc.heap.size,0,none⟩ 1 1 [(⟨b,none,0,0,[]⟩:Ad)] rfl rfl (cellsAt_ad _ ⟨b,none,0,0,[]⟩) (by have:=HL0.out;simp;omega) (by have:=HSZ.out;simp;omega) ?_)
      intro v9 w9 hr9 hg9
      have hk9:Kept (fun k=>(Value.slice a0 l0 c0).ownBlock=some k) wc w9:=Kept.trans (F:=fun _=>False) (show Same wc _ from(Kept.refl _ _).alloc _) ((Kept.refl _ _).grown hg9 (fun k e=>.inl e)) (fun _ _ f=>False.elim f) (fun _ _ e=>e)
      obtain⟨a9,n9,q9,e9⟩:∃a n q,v9=Value.slice a n q:=by
       obtain⟨a,q,e,_⟩:=hr9.shape
       exact⟨a,_,q,e⟩
      subst e9
      have hn9:n9=l0+1:=by
       obtain⟨a8,c8,hv8,_⟩:=hr9.shape
       injection hv8 with _ e8 _
       rw[e8,List.length_append,HL0.out.1];rfl
      subst hn9
      have HF9:Hid (DmL w.heap.size w9 (.slice a9 (l0+1) q9) As b As ⟨b,none,0,0,[]⟩∧Same w w9∧w9.cell? ⟨kg,2,none⟩=some (.string n.s)):=hid ⟨⟨HSX.out.1.arch hr9 hk9,rfl,.inr ⟨rfl,rfl,HNO.out⟩⟩,Kept.trans HSX.out.2.1 hk9 (fun _ _ f=>f) (fun k hk e=>by have:=HSX.out.1.row.ge e;omega),by
       have hb:Blk wc kg #[.string b.tn,.string b.ar,.string n.s] 63:=HKB.out.1.kept HSX.out.2.2 (fun f=>f)
       exact(hb.kept hk9 (fun e=>RowC.off14 HSX.out.1.row hb (by decide) e)).cell 2⟩
      clear hr9 hk9 hg9 q0 q1 q2
      have iwn:IntKind.i64.wrap ((l0:Int)+1)=((l0+1:Nat):Int):=by have:=HL0.out.2;rw[IntKind.wrap_i64];omega
      go_wp2_with fail
      go_meet
      exact⟨As,⟨b,none,0,0,[]⟩,a9,l0,q9,rfl,by go_num,hid ⟨HF9.out.1,HL0.out.1,HF9.out.2.1,HS.out.2.2.1,HF9.out.2.2⟩⟩
    case rest=>
     obtain⟨As',x,a5,m5,c5,rfl,rfl,HD⟩:=hcut
     obtain⟨g5,hg5⟩:∃g,a5=some ⟨g,0,none⟩:=by
      obtain⟨a9,c9,hv9,hg9,_⟩:=HD.out.1.1.row.shape
      injection hv9 with e9 _ _
      obtain⟨g,e8⟩:=hg9 (by simp)
      exact⟨g,by rw[e9,e8]⟩
     subst hg5
     obtain⟨wq,hwq⟩:∃W,W=wc:=⟨_,rfl⟩
     rw[←hwq]at HD ⊢
     clear hwq
     have HQ:Hid (DmL w.heap.size wq (.slice (some ⟨g5,0,none⟩) (m5+1) c5) As b As' x∧Same w wq∧m5=As'.length∧As'.length≤i):=hid ⟨HD.out.1,HD.out.2.2.1,HD.out.2.1,HD.out.2.2.2.1⟩
     have hxm:m5<(As'++[x]).length:=by rw[HQ.out.2.2.1];simp
     have hx9:(As'++[x])[m5]=x:=by simp[HQ.out.2.2.1]
     have x2:wq.cell? ⟨g5,m5*3+2,none⟩=some (.slice x.a x.n x.c):=by rw[RowC.cell adE_ok HQ.out.1.1.row m5 2 hxm (by decide),hx9];rfl
     have HXS:Hid (x.es.length≤i∧w.heap.size≤wq.heap.size∧i≤100000):=hid ⟨by
      rcases HQ.out.1.2.2 with e | ⟨_,e,_⟩
      ·exact HS.out.2.2.2.1 x (by rw[e];exact List.mem_append.2 (.inr (List.mem_singleton.2 rfl)))
      ·rw[e];exact Nat.zero_le _,HQ.out.2.1.size,by have:=HI.out.2.1;omega⟩
     have HXR:Hid (RowC w.heap.size 108 2 enE2 wq (.slice x.a x.n x.c) x.es):=hid (HQ.out.1.1.ent x (List.mem_append.2 (.inr (List.mem_singleton.2 rfl))))
     have HXO:Hid (∀w9,Kept (fun k=>(Value.slice x.a x.n x.c).ownBlock=some k) wq w9→w9.frozen? ⟨g5,m5*3+2,none⟩=false∧w9.cell? ⟨g5,m5*3+2,none⟩=some (.slice x.a x.n x.c)):=hid (fun w9 hk=>by
      have h9:=HQ.out.1.1.row.kept hk (fun k e1 e2=>rows_apart HXR.out HQ.out.1.1.row (by decide) k e2 e1)
      exact⟨h9.frozen (m5*3+2),by rw[RowC.cell adE_ok h9 m5 2 hxm (by decide),hx9];rfl⟩)
     have q2:wq.cell? ⟨kg,2,none⟩=some (.string n.s):=HD.out.2.2.2.2
     clear hxm hx9
     obtain⟨k0,k1,k2,k3⟩:=HCW.out wq HQ.out.2.1
     have iw0:((m5+1:Nat):Int)-1=(m5:Int):=by omega
     have iw:IntKind.i64.wrap (m5:Int)=(m5:Int):=by have:=HQ.out;have:=HXS.out;rw[IntKind.wrap_i64];omega
     have ib:(m5:Int)<((m5+1:Nat):Int):=by omega
     have iw1:((m5:Int)+1)-1=(m5:Int):=by omega
     have ib1:(m5:Int)<(m5:Int)+1:=by omega
     go_upto_region 10 with fail
     have hs0:Same wq wq:=Kept.refl _ _
     have hsA:Same wq (wq.alloc (.cells #[.string n.s,.string d] 108)):=(Kept.refl _ _).alloc _
     have x2a:=hsA.cell x2 (fun f=>f)
     clear hsA k0 k1 k2
     go_region_law (first
      | (refine step_appendC enE2 2 enE2_ok w.heap.size 81 108 (.agg #[.string ⟨#[]⟩,.string ⟨#[]⟩]) 32 Tryz.underlying81 Tryz.infoEnt rfl (by decide) (by rfl) (.tmp 62) (.tmp 71) (by rfl) (.slice x.a x.n x.c) x.es (by rfl) (HXR.out.kept (show Same wq _ from by first | exact hs0.alloc _ | exact(hs0.drew).alloc _ | exact(hs0.alloc _).drew) (fun _ _ f=>f)) _ 1 1 [((n,d):Ent)] (by rfl) (by rfl) (cellsAt_ent _ (n,d)) (by have:=HXS.out;simp;omega) (by have:=HXS.out;simp;omega) ?_;intro v9 w9 hr9 hg9 hb9;have hk9:Kept (fun k=>(Value.slice x.a x.n x.c).ownBlock=some k) wq w9:=Kept.trans (F:=fun _=>False) (show Same wq _ from by first | exact hs0.alloc _ | exact(hs0.drew).alloc _ | exact(hs0.alloc _).drew) ((Kept.refl _ _).grown hg9 (fun k e=>.inl e)) (fun _ _ f=>False.elim f) (fun _ _ e=>e);have hb9':∀j,v9.ownBlock=some j→(Value.slice x.a x.n x.c).ownBlock=some j∨wq.heap.size≤j:=(fun j e=>(hb9 j e).imp id (fun h=>by(try simp at h);omega));obtain⟨z9,d9⟩:=HXO.out w9 hk9;obtain⟨a9,n9,q9,e9⟩:∃a n q,v9=Value.slice a n q:=(by obtain⟨a,q,e,_⟩:=hr9.shape;exact⟨a,_,q,e⟩);subst e9;clear hg9 hb9))
     all_goals
      have HF9:Hid (DmAt w.heap.size (w9.setCell ⟨g5,m5*3+2,none⟩ (.slice a9 n9 q9)) (.slice (some ⟨g5,0,none⟩) (m5+1) c5) (As'++[⟨x.b,a9,n9,q9,x.es++[(n,d)]⟩])∧Same w (w9.setCell ⟨g5,m5*3+2,none⟩ (.slice a9 n9 q9))):=hid (by
       have h9:=HQ.out.1.1.entry hr9 hk9 hb9'
       rw[←HQ.out.2.2.1]at h9
       refine⟨h9,Kept.trans (Kept.trans HQ.out.2.1 hk9 (fun _ _ f=>f) (fun k hk e=>by have:=HXR.out.ge e;omega)) ((Kept.refl (·=g5) w9).setCell _ _ (.inl rfl)) (fun _ _ f=>f) (fun k hk e=>by have:=HQ.out.1.1.row.ge (j:=g5) rfl;omega)⟩)
      have HFD:Hid (IsDm (visE (es.take (i+1))) (adD (As'++[⟨x.b,a9,n9,q9,x.es++[(n,d)]⟩]))):=hid (by
       rw[HVS.out.1]
       exact HQ.out.1.dm HS.out.2.1 HVS.out.2 a9 n9 q9)
      have HFL:Hid ((As'++[(⟨x.b,a9,n9,q9,x.es++[(n,d)]⟩:Ad)]).length≤i+1∧∀z∈As'++[(⟨x.b,a9,n9,q9,x.es++[(n,d)]⟩:Ad)],z.es.length≤i+1):=hid ⟨by rw[List.length_append];have:=HQ.out.2.2.2;simp;omega,fun z hz=>by
       rcases List.mem_append.1 hz with e | e
       ·have h8:z∈As:=by
         rcases HQ.out.1.2.2 with e9 | ⟨e9,_⟩
         ·rw[e9];exact List.mem_append.2 (.inl e)
         ·rw[e9];exact e
        exact Nat.le_succ_of_le (HS.out.2.2.2.1 z h8)
       ·rw[List.mem_singleton.1 e]
        show(x.es++[(n,d)]).length≤i+1
        rw[List.length_append];have:=HXS.out.1;simp;omega⟩
      clear hr9 hk9 hb9'
      go_wp2_with fail
      go_roundg (gk-1)
     all_goals first
      | (case measure=>omega)
      | skip
     all_goals exact⟨i+1,_,_,_,_,by omega,by omega,rfl,by go_num,hid ⟨by first | exact HF9.out.1 | exact HF9.out.1.same ((Kept.refl _ _).drew),HFD.out,HFL.out.1,HFL.out.2,by first | exact HF9.out.2 | exact HF9.out.2.drew⟩⟩
  ·have hli:decide (i<kl)=false:=decide_eq_false hlt
   have HE:Hid (visE (es.take i)=fun b n=>f (b,n)):=hid (by
    rw[List.take_of_length_le (by have:=HI.out.1;omega)]
    exact visE_is HF.out)
   have HF:Hid (DumA w (fun b n=>f (b,n)) (.returned (.slice a0 l0 c0)) wr):=hid (by
    obtain⟨h1,h2,h3,h4,h5⟩:=HS.out
    rw[HE.out]at h2
    have h6:=HI.out
    exact⟨_,As,rfl,h1,h2,by omega,fun x hx=>Nat.le_trans (h4 x hx) (by omega),h5⟩)
   go_wp2_with fail
   go_ret
   exact HF.out

end Go.Proofs.YtcfociogljhbiaaGreatDoor

namespace Go.Proofs.YtcfociogljhbiaaGreatDoor
open Go.RowKit Go.Maps Go.Sort Go.Shelf

def etsD(D:List (Bx×List Ent)):List Et:=D.flatMap (fun x=>x.2.map (fun e=>⟨x.1,e.1,e.2⟩))

theorem ltK_of_ltB{a b:Ke}(h:ltB a.1 b.1):ltK a b:=by
 rcases h with q | ⟨q,q'⟩
 ·exact .inl q
 ·exact .inr ⟨q,.inl q'⟩

theorem ltK_of_n{b:Bx}{n m:Nm}(h:bysN n<bysN m):ltK (b,n) (b,m):=.inr ⟨rfl,.inr ⟨rfl,h⟩⟩

theorem dm_ets{f:Vf}{D:List (Bx×List Ent)}(h:IsDm (fun b n=>f (b,n)) D):StE f (etsD D):=by
 refine⟨?_,fun k d=>?_⟩
 ·unfold etsD RisE
  rw[List.pairwise_flatMap]
  refine⟨fun x hx=>?_,h.ris.imp (fun {x y} q u hu v hv=>?_)⟩
  ·rw[List.pairwise_map]
   exact(h.ent x hx).1.imp (fun q=>ltK_of_n q)
  ·rw[List.mem_map]at hu hv
   obtain⟨p,_,rfl⟩:=hu
   obtain⟨r,_,rfl⟩:=hv
   exact ltK_of_ltB q
 ·unfold etsD
  rw[List.mem_flatMap]
  constructor
  ·rintro⟨x,hx,hm⟩
   rw[List.mem_map]at hm
   obtain⟨p,hp,e⟩:=hm
   unfold etK at e
   injection e with e1 e2 e3
   have:=((h.ent x hx).2 p.1 p.2).1 hp
   rw[e1,e2,e3]at this
   exact this
  ·intro hf
   obtain⟨x,hx,e⟩:=h.all k.1 k.2 (by show f k≠none;rw[hf];simp)
   have:=((h.ent x hx).2 k.2 d).2 (by rw[e];exact hf)
   refine⟨x,hx,List.mem_map.2 ⟨_,this,?_⟩⟩
   unfold etK
   rw[e]

theorem useE_acc(es:List Et)(tn:ByteArray)(u:Nat×Nat):es.foldl (fun u x=>if x.b.tn=tn then(u.1+x.d.size,u.2+1)else u) u=(u.1+(useE es tn).1,u.2+(useE es tn).2):=by
 induction es generalizing u with
 | nil=>rfl
 | cons x r ih=>
  unfold useE
  rw[List.foldl_cons,List.foldl_cons,ih,ih (if x.b.tn=tn then _ else _)]
  by_cases e:x.b.tn=tn
  ·rw[if_pos e,if_pos e]
   simp only[Nat.zero_add]
   rw[Nat.add_assoc,Nat.add_assoc]
  ·rw[if_neg e,if_neg e]
   simp

theorem useE_app(a b:List Et)(tn:ByteArray):useE (a++b) tn=((useE a tn).1+(useE b tn).1,(useE a tn).2+(useE b tn).2):=by
 show(a++b).foldl _ _=_
 rw[List.foldl_append,useE_acc b]
 rfl

theorem useE_box(b:Bx)(es:List Ent)(tn:ByteArray):useE (es.map (fun e=>(⟨b,e.1,e.2⟩:Et))) tn=if b.tn=tn then(byA es,es.length) else(0,0):=by
 induction es with
 | nil=>split<;>rfl
 | cons e r ih=>
  rw[List.map_cons,←List.singleton_append,useE_app,ih]
  unfold useE byA
  by_cases h:b.tn=tn
  ·simp[h]
   omega
  ·simp[h]

theorem use_ets(D:List (Bx×List Ent))(tn:ByteArray):useE (etsD D) tn=(useB tn D,useN tn D):=by
 induction D with
 | nil=>rfl
 | cons x r ih=>
  have h1:etsD (x::r)=x.2.map (fun e=>(⟨x.1,e.1,e.2⟩:Et))++etsD r:=rfl
  rw[h1,useE_app,ih,useE_box]
  unfold useB useN
  by_cases h:x.1.tn=tn
  ·simp[h]
  ·simp[h]

theorem use_dm{f:Vf}{D:List (Bx×List Ent)}{es:List Et}(h:IsDm (fun b n=>f (b,n)) D)(h':StE f es)(tn:ByteArray):useE es tn=(useB tn D,useN tn D):=by
 rw[h'.det (dm_ets h),use_ets]

theorem dm_lis{f:Vf}{D:List (Bx×List Ent)}{es:List Et}(h:IsDm (fun b n=>f (b,n)) D)(h':StE f es){x:Bx×List Ent}(hx:x∈D):x.2.map (·.1)=lisE es x.1:=by
 refine lis_det (f:=fun n=>(f (x.1,n)).isSome) ⟨?_,fun n=>?_⟩ ⟨lis_ris h'.ris _,fun n=>?_⟩
 ·unfold RisN
  rw[List.pairwise_map]
  exact(h.ent x hx).1
 ·rw[List.mem_map,Option.isSome_iff_exists]
  constructor
  ·rintro⟨p,hp,rfl⟩
   exact⟨p.2,((h.ent x hx).2 p.1 p.2).1 hp⟩
  ·rintro⟨d,hd⟩
   exact⟨(n,d),((h.ent x hx).2 n d).2 hd,rfl⟩
 ·rw[lis_mem h',Option.isSome_iff_ne_none]

end Go.Proofs.YtcfociogljhbiaaGreatDoor

namespace Go.Proofs.YtcfociogljhbiaaGreatDoor
open Go.RowKit Go.Maps Go.Sort Go.Shelf

def FitD(D:List (Bx×List Ent)):Prop:=(∀x∈D,x.2.length≤64)∧∀tn:ByteArray,(D.filter (fun x=>decide (x.1.tn=tn))).length≤16

structure CtL(ow:Nm)(es:List Et)(L:List (Nm×Int)):Prop where
 apt:L.Pairwise (fun p q=>p.1≠q.1)
 cnt:∀b:Bx,b.tn=ow.s→getI (arN b) L=((lisE es b).length:Nat)

theorem getI_put{s t:Nm}{z:Int}{L:List (Nm×Int)}(ha:L.Pairwise (fun p q=>p.1≠q.1)):getI t (putG kN s z L)=if s=t then z else getI t L:=by
 unfold getI
 rw[getG_put ha]
 split<;>rfl

theorem arN_inj{a b:Bx}(h:a.tn=b.tn)(h2:arN a=arN b):a=b:=Bx.ext' h (congrArg Nm.s h2)

theorem stepD_apt(ow:ByteArray){L:List (Nm×Int)}(ha:L.Pairwise (fun p q=>p.1≠q.1))(x:Bx×List Ent):(stepD ow L x).Pairwise (fun p q=>p.1≠q.1):=by
 unfold stepD
 split
 ·exact putG_apart ha
 ·exact ha

theorem cntD_off(ow:ByteArray)(b:Bx)(hb:b.tn=ow):∀(D:List (Bx×List Ent)) (L:List (Nm×Int)),L.Pairwise (fun p q=>p.1≠q.1)→(∀x∈D,x.1≠b)→getI (arN b) (D.foldl (stepD ow) L)=getI (arN b) L
 | [],_,_,_=>rfl
 | x::r,L,ha,h=>by
  rw[List.foldl_cons,cntD_off ow b hb r _ (stepD_apt ow ha x) (fun y hy=>h y (List.mem_cons_of_mem _ hy))]
  unfold stepD
  split
  ·rename_i e
   rw[getI_put ha,if_neg (fun q=>h x (List.mem_cons_self ..) (arN_inj (e.trans hb.symm) q))]
  ·rfl

theorem cntD_at(ow:ByteArray):∀(D:List (Bx×List Ent)) (L:List (Nm×Int)),L.Pairwise (fun p q=>p.1≠q.1)→D.Pairwise (fun x y=>x.1≠y.1)→∀x∈D,x.1.tn=ow→getI (arN x.1) (D.foldl (stepD ow) L)=(x.2.length:Nat)
 | [],_,_,_,x,hx,_=>by cases hx
 | y::r,L,ha,hd,x,hx,hb=>by
  obtain⟨h1,h2⟩:=List.pairwise_cons.1 hd
  rw[List.foldl_cons]
  rcases List.mem_cons.1 hx with e | e
  ·subst e
   rw[cntD_off ow x.1 hb r _ (stepD_apt ow ha x) (fun z hz q=>h1 z hz q.symm)]
   unfold stepD
   rw[if_pos hb,getI_put ha,if_pos rfl]
  ·exact cntD_at ow r _ (stepD_apt ow ha y) h2 x e hb

theorem cntD_apt(ow:ByteArray):∀(D:List (Bx×List Ent)) (L:List (Nm×Int)),L.Pairwise (fun p q=>p.1≠q.1)→(D.foldl (stepD ow) L).Pairwise (fun p q=>p.1≠q.1)
 | [],_,ha=>ha
 | x::r,_,ha=>cntD_apt ow r _ (stepD_apt ow ha x)

theorem dm_ne{f:Vf}{D:List (Bx×List Ent)}(h:IsDm (fun b n=>f (b,n)) D):D.Pairwise (fun x y=>x.1≠y.1):=h.ris.imp (fun {x y} q e=>by rw[e]at q;exact ltB_irr _ q)

theorem dm_len{f:Vf}{D:List (Bx×List Ent)}{es:List Et}(h:IsDm (fun b n=>f (b,n)) D)(h':StE f es){x:Bx×List Ent}(hx:x∈D):x.2.length=(lisE es x.1).length:=by
 rw[←dm_lis h h' hx,List.length_map]

theorem dm_no{f:Vf}{D:List (Bx×List Ent)}{es:List Et}(h:IsDm (fun b n=>f (b,n)) D)(h':StE f es){b:Bx}(hb:∀x∈D,x.1≠b):lisE es b=[]:=by
 rw[List.eq_nil_iff_forall_not_mem]
 intro n hn
 obtain⟨x,hx,e⟩:=h.all b n ((lis_mem h' b n).1 hn)
 exact hb x hx e

theorem CtL.dump{f:Vf}{D:List (Bx×List Ent)}{es:List Et}(h:IsDm (fun b n=>f (b,n)) D)(h':StE f es)(ow:Nm):CtL ow es (cntD ow.s D):=by
 refine⟨cntD_apt _ D [] List.Pairwise.nil,fun b hb=>?_⟩
 unfold cntD
 by_cases he:∃x∈D,x.1=b
 ·obtain⟨x,hx,e⟩:=he
  subst e
  rw[cntD_at ow.s D [] List.Pairwise.nil (dm_ne h) x hx hb,dm_len h h' hx]
 ·have he':∀x∈D,x.1≠b:=fun x hx e=>he ⟨x,hx,e⟩
  rw[cntD_off ow.s b hb D [] List.Pairwise.nil he',dm_no h h' he']
  rfl

theorem lis_upd{f:Vf}{es:List Et}(h:StE f es)(w:Wr)(b:Bx):((lisE (withL w (!w.there) es) b).length:Int)=(lisE es b).length+(if w.b=b then(if w.there=true then(if f (keO w)=none then 1 else 0) else(if f (keO w)=none then 0 else -1))else 0):=by
 have hu:=h.upd w
 have n1:(lisE es b).Nodup:=(lis_ris h.ris b).imp (fun {x y} q e=>by rw[e]at q;exact List.lt_irrefl _ q)
 have n2:(lisE (withL w (!w.there) es) b).Nodup:=(lis_ris hu.ris b).imp (fun {x y} q e=>by rw[e]at q;exact List.lt_irrefl _ q)
 have m1:=lis_mem h b
 have m2:=lis_mem hu b
 by_cases hb:w.b=b
 ·rw[if_pos hb]
  have hk:∀n,keO w=(b,n)↔n=w.n:=fun n=>by
   unfold keO
   rw[hb,Prod.mk.injEq]
   exact⟨fun q=>q.2.symm,fun q=>⟨rfl,q.symm⟩⟩
  have hkw:keO w=(b,w.n):=(hk w.n).2 rfl
  cases hw:w.there
  ·simp only[Bool.false_eq_true,if_false]
   have hm:∀n,n∈lisE (withL w (!w.there) es) b↔n∈(lisE es b).erase w.n:=fun n=>by
    rw[n1.mem_erase_iff,m2,m1]
    unfold upW
    by_cases e:n=w.n
    ·rw[if_pos ((hk n).2 e),hw]
     simp[e]
    ·rw[if_neg (fun q=>e ((hk n).1 q))]
     simp[e]
   have hl:=((List.perm_ext_iff_of_nodup n2 (n1.erase _)).2 hm).length_eq
   rw[hw]at hl
   rw[hl]
   by_cases hf:f (keO w)=none
   ·rw[if_pos hf,List.erase_of_not_mem (fun q=>((m1 _).1 q) (by rw[←hkw];exact hf))]
    omega
   ·rw[if_neg hf]
    have hin:w.n∈lisE es b:=(m1 _).2 (by rw[←hkw];exact hf)
    rw[List.length_erase_of_mem hin]
    have:=List.length_pos_of_mem hin
    omega
  ·simp only[if_true]
   by_cases hf:f (keO w)=none
   ·rw[if_pos hf]
    have hni:w.n∉lisE es b:=fun q=>((m1 _).1 q) (by rw[←hkw];exact hf)
    have hm:∀n,n∈lisE (withL w (!w.there) es) b↔n∈w.n::lisE es b:=fun n=>by
     rw[List.mem_cons,m2,m1]
     unfold upW
     by_cases e:n=w.n
     ·rw[if_pos ((hk n).2 e),hw]
      simp[e]
     ·rw[if_neg (fun q=>e ((hk n).1 q))]
      simp[e]
    have hl:=((List.perm_ext_iff_of_nodup n2 (List.nodup_cons.2 ⟨hni,n1⟩)).2 hm).length_eq
    rw[hw]at hl
    rw[hl,List.length_cons]
    omega
   ·rw[if_neg hf]
    have hm:∀n,n∈lisE (withL w (!w.there) es) b↔n∈lisE es b:=fun n=>by
     rw[m2,m1]
     unfold upW
     by_cases e:n=w.n
     ·rw[if_pos ((hk n).2 e),hw,e,←hkw]
      simp[hf]
     ·rw[if_neg (fun q=>e ((hk n).1 q))]
    have hl:=((List.perm_ext_iff_of_nodup n2 n1).2 hm).length_eq
    rw[hw]at hl
    rw[hl]
    omega
 ·rw[if_neg hb]
  have hm:∀n,n∈lisE (withL w (!w.there) es) b↔n∈lisE es b:=fun n=>by
   rw[m2,m1]
   unfold upW
   rw[if_neg (fun q=>hb (by have:=congrArg Prod.fst q;exact this))]
  have hl:=((List.perm_ext_iff_of_nodup n2 n1).2 hm).length_eq
  rw[hl]
  omega

theorem stepW_apt(th:Ke→Bool){L:List (Nm×Int)}(ha:L.Pairwise (fun p q=>p.1≠q.1))(x:Wr):(stepW th L x).Pairwise (fun p q=>p.1≠q.1):=by
 unfold stepW
 simp only
 split
 ·split
  ·exact putG_apart (putG_apart ha)
  ·exact putG_apart ha
 ·split
  ·exact putG_apart ha
  ·exact ha

theorem CtL.step{f:Vf}{ow:Nm}{es:List Et}{L:List (Nm×Int)}(h:CtL ow es L)(h':StE f es)(w:Wr)(hw:w.b.tn=ow.s){th:Ke→Bool}(ht:th (keO w)=(f (keO w)).isSome):CtL ow (withL w (!w.there) es) (stepW th L w):=by
 refine⟨stepW_apt th h.apt w,fun b hb=>?_⟩
 have h1:=lis_upd h' w b
 have h2:=h.cnt b hb
 have h3:arN w.b=arN b↔w.b=b:=⟨fun q=>arN_inj (hw.trans hb.symm) q,fun q=>by rw[q]⟩
 have h4:=h.cnt w.b hw
 have ht':th (w.b,w.n)=(f (keO w)).isSome:=ht
 unfold stepW
 simp only[ht']
 rw[h1]
 cases hwt:w.there<;>cases hf:f (keO w)
 ·simp[h2]
 ·simp only[Bool.false_and,Bool.false_eq_true,if_false,Bool.not_false,Option.isSome_some,Bool.true_and,if_true]
  rw[getI_put h.apt]
  by_cases e:w.b=b
  ·subst e
   rw[if_pos rfl,h4]
   simp
   omega
  ·rw[if_neg (fun q=>e (h3.1 q)),h2,if_neg e]
   omega
 ·simp only[Option.isSome_none,Bool.not_false,Bool.and_self,if_true,Bool.not_true,Bool.false_eq_true,if_false]
  rw[getI_put h.apt]
  by_cases e:w.b=b
  ·subst e
   rw[if_pos rfl,h4]
   simp
  ·rw[if_neg (fun q=>e (h3.1 q)),h2,if_neg e]
   omega
 ·simp[h2]

theorem CtL.steps{ow:Nm}{th:Ke→Bool}:∀(ws:List Wr) {f:Vf} {es:List Et} {L:List (Nm×Int)},CtL ow es L→StE f es→ws.Pairwise (fun x y=>keO x≠keO y)→(∀w∈ws,w.b.tn=ow.s∧th (keO w)=(f (keO w)).isSome)→CtL ow (allL ws es) (cntW th ws L)
 | [],_,_,_,h,_,_,_=>h
 | w::r,f,es,L,h,h',hp,hw=>by
  obtain⟨p1,p2⟩:=List.pairwise_cons.1 hp
  have h0:=hw w (List.mem_cons_self ..)
  refine CtL.steps r (h.step h' w h0.1 h0.2) (h'.upd w) p2 (fun x hx=>?_)
  have hx':=hw x (List.mem_cons_of_mem _ hx)
  refine⟨hx'.1,?_⟩
  unfold upW
  rw[if_neg (p1 x hx)]
  exact hx'.2

theorem many_fit{f:Vf}{ow:Nm}{es:List Et}{L:List (Nm×Int)}{D:List (Bx×List Ent)}(h:CtL ow es L)(h':StE f es)(hd:IsDm (fun b n=>f (b,n)) D):manyB L=false↔(∀x∈D,x.1.tn=ow.s→x.2.length≤64)∧(D.filter (fun x=>decide (x.1.tn=ow.s))).length≤16:=by
 have hbx:∀n:Nm,∃b:Bx,b.tn=ow.s∧arN b=n:=fun n=>⟨⟨ow.s,n.s,⟨ow.ok,n.ok⟩⟩,rfl,rfl⟩
 have hget:∀p∈L,getI p.1 L=p.2:=fun p hp=>by unfold getI;rw[getG_of_mem h.apt (s:=p.1) (f:=p.2) hp];rfl
 have hall:(∀p∈L,p.2≤64)↔∀x∈D,x.1.tn=ow.s→x.2.length≤64:=by
  constructor
  ·intro hp x hx hb
   have h1:=h.cnt x.1 hb
   rw[←dm_len hd h' hx]at h1
   unfold getI at h1
   cases hg:getG (arN x.1) L with
   | none=>rw[hg]at h1;simp at h1;omega
   | some z=>
    have:=hp _ (getG_mem hg)
    rw[hg]at h1
    simp at h1
    simp at this
    omega
  ·intro hx p hp
   obtain⟨b,hb,hn⟩:=hbx p.1
   have h1:=h.cnt b hb
   rw[hn,hget p hp]at h1
   by_cases he:∃x∈D,x.1=b
   ·obtain⟨x,hxd,e⟩:=he
    subst e
    have:=hx x hxd hb
    rw[dm_len hd h' hxd]at this
    omega
   ·rw[dm_no hd h' (fun x hxd e=>he ⟨x,hxd,e⟩)]at h1
    simp at h1
    omega
 have hlen:(L.filter (fun p=>decide (0<p.2))).length=(D.filter (fun x=>decide (x.1.tn=ow.s))).length:=by
  have n1:((L.filter (fun p=>decide (0<p.2))).map (·.1)).Nodup:=by
   unfold List.Nodup
   rw[List.pairwise_map]
   exact h.apt.filter _
  have n2:((D.filter (fun x=>decide (x.1.tn=ow.s))).map (fun x=>arN x.1)).Nodup:=by
   unfold List.Nodup
   rw[List.pairwise_map]
   refine List.Pairwise.imp_of_mem ?_ ((dm_ne hd).filter _)
   intro x y hx hy q e
   have h1:x.1.tn=ow.s:=by simpa using(List.mem_filter.1 hx).2
   have h2:y.1.tn=ow.s:=by simpa using(List.mem_filter.1 hy).2
   exact q (arN_inj (h1.trans h2.symm) e)
  have hm:∀n,n∈(L.filter (fun p=>decide (0<p.2))).map (·.1)↔n∈(D.filter (fun x=>decide (x.1.tn=ow.s))).map (fun x=>arN x.1):=fun n=>by
   rw[List.mem_map,List.mem_map]
   constructor
   ·rintro⟨p,hp,rfl⟩
    obtain⟨hp,hpos⟩:=List.mem_filter.1 hp
    have hpos:0<p.2:=by simpa using hpos
    obtain⟨b,hb,hn⟩:=hbx p.1
    have h1:=h.cnt b hb
    rw[hn,hget p hp]at h1
    by_cases he:∃x∈D,x.1=b
    ·obtain⟨x,hxd,e⟩:=he
     exact⟨x,List.mem_filter.2 ⟨hxd,by rw[e];exact decide_eq_true hb⟩,by rw[e];exact hn⟩
    ·rw[dm_no hd h' (fun x hxd e=>he ⟨x,hxd,e⟩)]at h1
     simp at h1
     omega
   ·rintro⟨x,hx,rfl⟩
    obtain⟨hx,hb⟩:=List.mem_filter.1 hx
    have hb:x.1.tn=ow.s:=by simpa using hb
    have h1:=h.cnt x.1 hb
    rw[←dm_len hd h' hx]at h1
    have hpos:0<x.2.length:=List.length_pos_iff.2 (hd.ne x hx)
    unfold getI at h1
    cases hg:getG (arN x.1) L with
    | none=>rw[hg]at h1;simp at h1;omega
    | some z=>
     rw[hg]at h1
     simp at h1
     exact⟨(arN x.1,z),List.mem_filter.2 ⟨getG_mem hg,by simp;omega⟩,rfl⟩
  have:=((List.perm_ext_iff_of_nodup n1 n2).2 hm).length_eq
  simpa using this
 unfold manyB
 rw[Bool.or_eq_false_iff,hlen,←hall,List.any_eq_false]
 simp

theorem fit_all{f:Vf}{ow:Nm}{es:List Et}{D D':List (Bx×List Ent)}(h':StE f es)(hd:IsDm (fun b n=>f (b,n)) D)(hf:FitD D)(ws:List Wr)(hw:∀w∈ws,w.b.tn=ow.s)(hd':IsDm (fun b n=>upsW ws f (b,n)) D'):FitD D'↔(∀x∈D',x.1.tn=ow.s→x.2.length≤64)∧(D'.filter (fun x=>decide (x.1.tn=ow.s))).length≤16:=by
 have hoff:∀k:Ke,k.1.tn≠ow.s→upsW ws f k=f k:=fun k hk=>by
  clear hd'
  induction ws generalizing f es D with
  | nil=>rfl
  | cons w r ih=>
   have h1:upsW (w::r) f k=upsW r (upW w f) k:=rfl
   have h2:∀(f:Vf),upsW r f k=f k:=fun f=>by
    clear ih h1
    induction r generalizing f with
    | nil=>rfl
    | cons y r ih2=>
     have h3:upsW (y::r) f k=upsW r (upW y f) k:=rfl
     rw[h3,ih2 (fun z hz=>by
      rcases List.mem_cons.1 hz with e | e
      ·exact hw z (by rw[e];exact List.mem_cons_self ..)
      ·exact hw z (List.mem_cons_of_mem _ (List.mem_cons_of_mem _ e)))]
     unfold upW
     rw[if_neg (fun e=>hk (by rw[←e];exact hw y (List.mem_cons_of_mem _ (List.mem_cons_self ..))))]
   rw[h1,h2]
   unfold upW
   rw[if_neg (fun e=>hk (by rw[←e];exact hw w (List.mem_cons_self ..)))]
 have hsame:∀tn:ByteArray,tn≠ow.s→D'.filter (fun x=>decide (x.1.tn=tn))=D.filter (fun x=>decide (x.1.tn=tn)):=fun tn htn=>by
  have hone:∀{D1 D2:List (Bx×List Ent)} {g1 g2:Vf},IsDm (fun b n=>g1 (b,n)) D1→IsDm (fun b n=>g2 (b,n)) D2→(∀k:Ke,k.1.tn=tn→g1 k=g2 k)→∀x∈D1,x.1.tn=tn→x∈D2:=by
   intro D1 D2 g1 g2 a1 a2 he x hx hb
   obtain⟨p,hp⟩:=List.exists_mem_of_ne_nil _ (a1.ne x hx)
   have h1:=((a1.ent x hx).2 p.1 p.2).1 hp
   have h1':g2 (x.1,p.1)=some p.2:=by rw[←he (x.1,p.1) hb];exact h1
   obtain⟨y,hy,e⟩:=a2.all x.1 p.1 (by show g2 (x.1,p.1)≠none;rw[h1'];simp)
   have h2:x.2=y.2:=strict_ext (R:=fun p q:Ent=>bysN p.1<bysN q.1) (fun _=>List.lt_irrefl _) (fun _ _ _=>List.lt_trans) (a1.ent x hx).1 (a2.ent y hy).1 (fun q=>by
    have i1:=(a1.ent x hx).2 q.1 q.2
    have i2:=(a2.ent y hy).2 q.1 q.2
    have i3:g1 (x.1,q.1)=g2 (y.1,q.1):=by rw[he _ hb,e]
    simp only[i3]at i1
    exact i1.trans i2.symm)
   have:x=y:=Prod.ext e.symm h2
   rw[this]
   exact hy
  refine strict_ext (R:=fun x y:Bx×List Ent=>ltB x.1 y.1) (fun _=>ltB_irr _) (fun _ _ _=>ltB_trans) (hd'.ris.filter _) (hd.ris.filter _) (fun x=>?_)
  rw[List.mem_filter,List.mem_filter]
  have hg:∀k:Ke,k.1.tn=tn→upsW ws f k=f k:=fun k hk=>hoff k (by rw[hk];exact htn)
  constructor
  ·rintro⟨q1,q2⟩
   exact⟨hone hd' hd hg x q1 (by simpa using q2),q2⟩
  ·rintro⟨q1,q2⟩
   exact⟨hone hd hd' (fun k hk=>(hg k hk).symm) x q1 (by simpa using q2),q2⟩
 constructor
 ·rintro⟨q1,q2⟩
  exact⟨fun x hx _=>q1 x hx,q2 _⟩
 ·rintro⟨q1,q2⟩
  refine⟨fun x hx=>?_,fun tn=>?_⟩
  ·by_cases e:x.1.tn=ow.s
   ·exact q1 x hx e
   ·have hm:x∈D'.filter (fun y=>decide (y.1.tn=x.1.tn)):=List.mem_filter.2 ⟨hx,by simp⟩
    rw[hsame _ e]at hm
    exact hf.1 x (List.mem_filter.1 hm).1
  ·by_cases e:tn=ow.s
   ·rw[e];exact q2
   ·rw[hsame _ e];exact hf.2 tn

end Go.Proofs.YtcfociogljhbiaaGreatDoor

namespace Go.Proofs.YtcfociogljhbiaaGreatDoor
open Go.RowKit Go.Maps Go.Sort Go.Shelf

structure Tx14 where
 num:Int
 snap:Nat
 tn:Nm
 st:List Wr
 rd:List Ke
 ls:List Bx

structure Rs14 where
 first:Int
 ss:List (List Et)
 ws:List (List Wr)
 ts:List Tx14
 nx:Int

structure TxR(S:Ts)(P:Rs14)(ow:Nm)(mv:Mv)(t:Tx14):Prop where
 own:OwnM ow (P.first+t.snap) mv
 tn:t.tn=ow
 sn:t.snap+1≤P.ss.length
 st:StW mv t.st
 emp:mv.emp=t.st.isEmpty
 rd:∀k,mv.rd k=true↔k∈t.rd
 ls:∀b,mv.ls b=true↔b∈t.ls
 fl:S.M.floor≤P.first+t.snap+1
 vis:StE (vkF S.M.V (P.first+t.snap+1)) (P.ss.getD t.snap [])
 cl:P.ws.length-t.snap≤S.cl.length

def wsT(P:Rs14):List (Int×List Wr):=P.ws.mapIdx (fun i w=>(P.first+(i:Int)+1,w))

structure Rl(S:Ts)(P:Rs14):Prop where
 fi:0≤P.first
 now:S.M.now=P.first+P.ss.length
 wl:P.ws.length+1=P.ss.length
 fl:S.M.floor≤S.M.now
 top:UpTo S.M.V S.M.now
 van:∀b n,∀v∈S.M.V b n,v.there=false→v.data=⟨#[]⟩
 bg:P.nx=S.bg+1
 ln:P.ts.length=S.ln
 nums:P.ts.Pairwise (fun a b=>a.num<b.num)
 low:∀t∈P.ts,1≤t.num∧t.num≤S.bg
 op1:∀t∈P.ts,∀n:Nb,n.v=t.num→∃ow mv,S.op n=some (ow,mv)∧TxR S P ow mv t
 op0:∀n:Nb,S.op n≠none→∃t∈P.ts,t.num=n.v
 cur:StE (vkF S.M.V S.M.now) (P.ss.getD (P.ss.length-1) [])
 cl:S.cl=(wsT P).drop (P.ws.length-S.cl.length)∧S.cl.length≤P.ws.length
 fit:∀D,IsDm (fun b n=>vkF S.M.V S.M.now (b,n)) D→FitD D

theorem nb_ext{a b:Nb}(h:a.v=b.v):a=b:=by
 cases a
 cases b
 simp only at h
 subst h
 rfl

theorem UpTo.mono{V:Vs}{t u:Int}(h:UpTo V t)(hu:t≤u):UpTo V u:=fun b n=>⟨(h b n).1,fun x hx=>Int.le_trans ((h b n).2 x hx) hu⟩

theorem newV_top{l:List Ver}{a b:Int}(h:∀x∈l,x.t≤a)(hb:a≤b):newV l b=newV l a:=by
 have e:upV l b=upV l a:=by
  unfold upV
  exact List.countP_congr (fun x hx=>by have:=h x hx;simp;omega)
 unfold newV
 rw[e]

variable {S:Ts} {P:Rs14}

theorem Rl.gone(h:Rl S P){n:Nb}(hn:S.op n=none):∀t∈P.ts,t.num≠n.v:=fun t ht e=>by
 obtain⟨ow,mv,h1,_⟩:=h.op1 t ht n e.symm
 rw[hn]at h1
 cases h1

theorem Rl.here(h:Rl S P){n:Nb}{ow:Nm}{mv:Mv}(hn:S.op n=some (ow,mv)):∃(i:Nat) (hi:i<P.ts.length),P.ts[i].num=n.v∧(∀j (hj:j<P.ts.length),P.ts[j].num=n.v→j=i)∧TxR S P ow mv P.ts[i]:=by
 obtain⟨t,ht,e⟩:=h.op0 n (by rw[hn];simp)
 obtain⟨i,hi,rfl⟩:=List.getElem_of_mem ht
 refine⟨i,hi,e,fun j hj e2=>?_,?_⟩
 ·have hp:=List.pairwise_iff_getElem.1 h.nums
  rcases Nat.lt_trichotomy j i with q | q | q
  ·have:=hp j i hj hi q;omega
  ·exact q
  ·have:=hp i j hi hj q;omega
 ·obtain⟨ow',mv',h1,h2⟩:=h.op1 _ ht n e.symm
  rw[hn]at h1
  injection h1 with h1
  injection h1 with e1 e2
  subst e1 e2
  exact h2

theorem Rl.set(h:Rl S P){n:Nb}{ow:Nm}{mv mv':Mv}(hn:S.op n=some (ow,mv)){i:Nat}(hi:i<P.ts.length)(he:P.ts[i].num=n.v){t':Tx14}(h1:t'.num=P.ts[i].num)(h2:TxR (S.set n (ow,mv')) {P with ts:=P.ts.set i t'} ow mv' t'):Rl (S.set n (ow,mv')) {P with ts:=P.ts.set i t'}:=by
 have hnums:(P.ts.set i t').map (·.num)=P.ts.map (·.num):=by
  rw[List.map_set,h1]
  have:(P.ts.map (·.num))[i]'(by simpa using hi)=P.ts[i].num:=by simp
  rw[←this,List.set_getElem_self]
 refine⟨h.fi,h.now,h.wl,h.fl,h.top,h.van,h.bg,?_,?_,fun t ht=>?_,fun t ht m hm=>?_,fun m hm=>?_,h.cur,h.cl,h.fit⟩
 ·show(P.ts.set i t').length=S.ln
  rw[List.length_set];exact h.ln
 ·have h5:=h.nums
  have a:(P.ts.map (·.num)).Pairwise (· < ·):=by rw[List.pairwise_map];exact h5
  rw[←hnums,List.pairwise_map]at a
  exact a
 ·rcases List.mem_or_eq_of_mem_set ht with q | q
  ·exact h.low t q
  ·rw[q,h1];exact h.low _ (List.getElem_mem hi)
 ·obtain⟨j,hj,rfl⟩:=List.getElem_of_mem ht
  have hj':j<P.ts.length:=by rw[List.length_set]at hj;exact hj
  by_cases e:j=i
  ·subst e
   have e1:(P.ts.set j t')[j]'hj=t':=by simp
   rw[e1]at hm ⊢
   have e2:m=n:=nb_ext (by rw[hm,h1,he])
   subst e2
   exact⟨ow,mv',set_op14 S m _,h2⟩
  ·have e1:(P.ts.set i t')[j]'hj=P.ts[j]:=List.getElem_set_ne (Ne.symm e) hj
   rw[e1]at hm ⊢
   obtain⟨ow1,mv1,a1,a2⟩:=h.op1 _ (List.getElem_mem hj') m hm
   have hmn:m≠n:=fun e2=>by
    subst e2
    have hp:=List.pairwise_iff_getElem.1 h.nums
    rcases Nat.lt_trichotomy j i with q | q | q
    ·have:=hp j i hj' hi q;omega
    ·exact e q
    ·have:=hp i j hi hj' q;omega
   refine⟨ow1,mv1,?_,⟨a2.own,a2.tn,a2.sn,a2.st,a2.emp,a2.rd,a2.ls,a2.fl,a2.vis,a2.cl⟩⟩
   unfold Ts.set
   simp only
   rw[if_neg hmn,a1]
 ·by_cases e:m=n
  ·subst e
   exact⟨t',List.mem_set hi t',by rw[h1,he]⟩
  ·have hm':S.op m≠none:=by
    unfold Ts.set at hm
    simp only at hm
    rw[if_neg e]at hm
    exact hm
   obtain⟨t,ht,e1⟩:=h.op0 m hm'
   obtain⟨j,hj,rfl⟩:=List.getElem_of_mem ht
   have hji:j≠i:=fun q=>by
    subst q
    rw[he]at e1
    exact e (nb_ext e1.symm)
   refine⟨P.ts[j],?_,e1⟩
   have:=List.getElem_set_ne (l:=P.ts) (a:=t') (Ne.symm hji) (by rw[List.length_set];exact hj)
   rw[←this]
   exact List.getElem_mem _

theorem own_new(t:Int):StW (mv0 t) []:=⟨List.Pairwise.nil,fun r=>⟨fun h=>(by cases h),fun h=>(by cases h)⟩⟩

theorem Rl.beg(h:Rl S P){nb:Nb}(hnb:nb.v=S.bg+1)(hb:0≤S.bg)(tn:Nm):Rl (S.beg nb tn) {P with ts:=P.ts++[⟨P.nx,P.ss.length-1,tn,[],[],[]⟩],nx:=P.nx+1}:=by
 have hss:1≤P.ss.length:=by have:=h.wl;omega
 have hnow:S.M.now-1=P.first+((P.ss.length-1:Nat):Int):=by have:=h.now;omega
 refine⟨h.fi,h.now,h.wl,h.fl,h.top,h.van,?_,?_,?_,fun t ht=>?_,fun t ht m hm=>?_,fun m hm=>?_,h.cur,h.cl,h.fit⟩
 ·show P.nx+1=(S.bg+1)+1
  rw[h.bg]
 ·show(P.ts++[_]).length=S.ln+1
  rw[List.length_append,h.ln];rfl
 ·refine List.pairwise_append.2 ⟨h.nums,List.pairwise_singleton _ _,fun a ha b hb=>?_⟩
  rw[List.mem_singleton.1 hb]
  have:=(h.low a ha).2
  have:=h.bg
  show a.num<P.nx
  omega
 ·show 1≤t.num∧t.num≤S.bg+1
  rcases List.mem_append.1 ht with q | q
  ·have:=h.low t q;omega
  ·rw[List.mem_singleton.1 q]
   have:=h.bg
   show 1≤P.nx∧P.nx≤S.bg+1
   omega
 ·rcases List.mem_append.1 ht with q | q
  ·obtain⟨ow,mv,a1,a2⟩:=h.op1 t q m hm
   have hmn:m≠nb:=fun e=>by
    subst e
    have:=(h.low t q).2
    omega
   refine⟨ow,mv,?_,⟨a2.own,a2.tn,a2.sn,a2.st,a2.emp,a2.rd,a2.ls,a2.fl,a2.vis,a2.cl⟩⟩
   unfold Ts.beg
   simp only
   rw[if_neg hmn,a1]
  ·rw[List.mem_singleton.1 q]at hm ⊢
   have e:m=nb:=nb_ext (by rw[hm,hnb];exact h.bg)
   subst e
   refine⟨tn,mv0 (S.M.now-1),by unfold Ts.beg;simp,⟨?_,rfl,?_,own_new _,rfl,fun k=>?_,fun b=>?_,?_,?_,?_⟩⟩
   ·show OwnM tn (P.first+((P.ss.length-1:Nat):Int)) _
    rw[←hnow];exact OwnM.new tn _
   ·show P.ss.length-1+1≤P.ss.length
    omega
   ·exact⟨fun e=>(by cases e),fun e=>(by cases e)⟩
   ·exact⟨fun e=>(by cases e),fun e=>(by cases e)⟩
   ·show S.M.floor≤P.first+((P.ss.length-1:Nat):Int)+1
    have:=h.fl
    have:=h.now
    omega
   ·show StE (vkF S.M.V (P.first+((P.ss.length-1:Nat):Int)+1)) _
    have e:P.first+((P.ss.length-1:Nat):Int)+1=S.M.now:=by have:=h.now;omega
    rw[e]
    exact h.cur
   ·show P.ws.length-(P.ss.length-1)≤S.cl.length
    have:=h.wl
    omega
 ·by_cases e:m=nb
  ·subst e
   exact⟨_,List.mem_append.2 (.inr (List.mem_singleton.2 rfl)),by show P.nx=m.v;rw[hnb];exact h.bg⟩
  ·have hm':S.op m≠none:=by
    unfold Ts.beg at hm
    simp only at hm
    rw[if_neg e]at hm
    exact hm
   obtain⟨t,ht,e1⟩:=h.op0 m hm'
   exact⟨t,List.mem_append.2 (.inl ht),e1⟩

theorem prM_top{M:Mst}{f t:Int}(h:UpTo M.V t):UpTo (prM M f).V t:=by
 unfold prM
 split
 ·exact h
 ·exact fun b n=>⟨pruV_ris (h b n).1 _,fun x hx=>(h b n).2 x (pruV_mem hx)⟩

theorem prM_van{M:Mst}{f:Int}(h:∀b n,∀v∈M.V b n,v.there=false→v.data=⟨#[]⟩):∀b n,∀v∈(prM M f).V b n,v.there=false→v.data=⟨#[]⟩:=by
 unfold prM
 split
 ·exact h
 ·exact fun b n v hv=>h b n v (pruV_mem hv)

theorem puts_van{V:Vs}(h:∀b n,∀v∈V b n,v.there=false→v.data=⟨#[]⟩)(xs:List Wr){t:Int}:∀b n,∀v∈putsF V xs t b n,v.there=false→v.data=⟨#[]⟩:=fun b n v hv ht=>by
 rcases puts_in V xs t b n v hv with q | ⟨x,_,q⟩
 ·exact h b n v q ht
 ·subst q
  unfold verOf at ht ⊢
  cases hx:x.there
  ·rw[if_neg (by decide)]
  ·rw[hx]at ht
   cases ht

theorem newV_van{l:List Ver}{t:Int}(h:∀v∈l,v.there=false→v.data=⟨#[]⟩)(ht:(newV l t).there=false):(newV l t).data=⟨#[]⟩:=by
 unfold newV at ht ⊢
 split
 ·rfl
 ·rename_i h0
  rw[if_neg h0]at ht
  have hl:upV l t-1<l.length:=by have:=upV_le l t;omega
  rw[List.getD_eq_getElem?_getD,List.getElem?_eq_getElem hl]at ht ⊢
  exact h _ (List.getElem_mem hl) ht

theorem prM_vk{M:Mst}{f u:Int}(hr:UpTo M.V (M.now+1))(hf:f≤M.now)(hu:f≤u):vkF (prM M f).V u=vkF M.V u:=by
 unfold prM
 split
 ·rfl
 ·funext k
  unfold vkF pruM
  have e:min f M.now=f:=Int.min_eq_left hf
  rw[e]
  exact visV_prune (hr k.1 k.2).1 hu

theorem prM_fl{M:Mst}{f:Int}(hf:f≤M.now):(prM M f).floor=max f M.floor∧(prM M f).now=M.now:=by
 unfold prM
 split
 ·rename_i h;exact⟨by omega,rfl⟩
 ·rename_i h
  unfold pruM
  refine⟨?_,rfl⟩
  show min f M.now=max f M.floor
  omega

theorem Rl.ends(h:Rl S P){n:Nb}{m:Int}(hm:OldS S n m){ow:Nm}{mv:Mv}(hn:S.op n=some (ow,mv)):Rl (S.ends n m) {P with ts:=P.ts.filter (fun t=>decide (t.num≠n.v))}:=by
 obtain⟨m1,m2,m3⟩:=hm
 obtain⟨i,hi,ei,hone,hti⟩:=h.here hn
 have hup:UpTo S.M.V (S.M.now+1):=h.top.mono (by omega)
 have hss:1≤P.ss.length:=by have:=h.wl;omega
 have hnow:=h.now
 have hfl:=prM_fl (M:=S.M) (f:=m+1) (by omega)
 have hlow:∀y x,y≠n→S.op y=Option.some x→m≤x.2.t:=m2
 have hdr:S.cl.length-(S.cl.length-(S.M.now-1-m).toNat)=min S.cl.length (S.M.now-1-m).toNat:=by omega
 have hV:∀u,m+1≤u→vkF (S.ends n m).M.V u=vkF S.M.V u:=fun u hu=>prM_vk hup (by omega) hu
 have hN:(S.ends n m).M.now=S.M.now:=hfl.2
 have hF:(S.ends n m).M.floor=max (m+1) S.M.floor:=hfl.1
 have hcll:(S.ends n m).cl.length=min S.cl.length (S.M.now-1-m).toNat:=by
  show(S.cl.drop _).length=_
  rw[List.length_drop];exact hdr
 refine⟨h.fi,by rw[hN];exact hnow,h.wl,by rw[hN,hF];have:=h.fl;omega,by rw[hN];exact prM_top h.top,prM_van h.van,h.bg,?_,h.nums.filter _,fun t ht=>h.low t (List.mem_filter.1 ht).1,fun t ht y hy=>?_,fun y hy=>?_,by rw[hN,hV _ (by omega)];exact h.cur,⟨?_,by have:=h.cl.2;show _≤P.ws.length;rw[hcll];omega⟩,fun D hD=>h.fit D (by rw[hN,hV _ (by omega)]at hD;exact hD)⟩
 ·show(P.ts.filter (fun t=>decide (t.num≠n.v))).length=S.ln-1
  have e1:(P.ts.filter (fun t=>decide (t.num≠n.v))).length+1=P.ts.length:=by
   have h1:P.ts.countP (fun t=>decide (t.num≠n.v))+P.ts.countP (fun t=>!decide (t.num≠n.v))=P.ts.length:=by
    rw[List.length_eq_countP_add_countP (fun t:Tx14=>decide (t.num≠n.v))]
    congr 1
    refine List.countP_congr (fun x _=>?_)
    simp
   rw[←List.countP_eq_length_filter]
   have h2:P.ts.countP (fun t=>!decide (t.num≠n.v))=1:=by
    rw[List.countP_eq_length_filter]
    have h3:P.ts.filter (fun t=>!decide (t.num≠n.v))=[P.ts[i]]:=by
     refine strict_ext (R:=fun a b:Tx14=>a.num<b.num) (fun _=>Int.lt_irrefl _) (fun _ _ _=>Int.lt_trans) (h.nums.filter _) (List.pairwise_singleton _ _) (fun x=>?_)
     rw[List.mem_filter,List.mem_singleton]
     constructor
     ·rintro⟨q1,q2⟩
      obtain⟨j,hj,rfl⟩:=List.getElem_of_mem q1
      have:=hone j hj (by simpa using q2)
      subst this
      rfl
     ·intro q
      rw[q]
      exact⟨List.getElem_mem hi,by simp[ei]⟩
    rw[h3];rfl
   omega
  have:=h.ln
  omega
 ·obtain⟨ht1,ht2⟩:=List.mem_filter.1 ht
  have ht2:t.num≠n.v:=by simpa using ht2
  obtain⟨ow',mv',a1,a2⟩:=h.op1 t ht1 y hy
  have hyn:y≠n:=fun e=>by subst e;exact ht2 hy.symm
  have hml:=hlow y _ hyn a1
  have htt:mv'.t=P.first+t.snap:=a2.own.tt
  have hml:m≤P.first+t.snap:=by rw[←htt];exact hml
  refine⟨ow',mv',?_,⟨a2.own,a2.tn,a2.sn,a2.st,a2.emp,a2.rd,a2.ls,by rw[hF];have:=a2.fl;show _≤P.first+(t.snap:Int)+1;omega,by rw[hV _ (by show m+1≤P.first+(t.snap:Int)+1;omega)];exact a2.vis,?_⟩⟩
  ·show(if y=n then none else S.op y)=_
   rw[if_neg hyn,a1]
  ·show P.ws.length-t.snap≤_
   rw[hcll]
   have:=a2.cl
   have:=h.wl
   omega
 ·have hyn:y≠n:=fun e=>by
   subst e
   exact hy (by show(if y=y then Option.none else S.op y)=Option.none;rw[if_pos rfl])
  have hy':S.op y≠Option.none:=by
   have e:(S.ends n m).op y=S.op y:=by show(if y=n then Option.none else S.op y)=_;rw[if_neg hyn]
   rw[←e];exact hy
  obtain⟨t,ht,e⟩:=h.op0 y hy'
  exact⟨t,List.mem_filter.2 ⟨ht,by simp;intro q;exact hyn (nb_ext (by rw[←e,q]))⟩,e⟩
 ·show S.cl.drop _=(wsT P).drop _
  rw[show(S.ends n m).cl.length=min S.cl.length (S.M.now-1-m).toNat from hcll]
  have hlw:(wsT P).length=P.ws.length:=by unfold wsT;simp
  have hcl2:=h.cl.2
  have hcc:((wsT P).drop (P.ws.length-S.cl.length)).length=S.cl.length:=by rw[List.length_drop,hlw];omega
  conv=>lhs;rw[h.cl.1]
  rw[hcc,List.drop_drop]
  congr 1
  show _=P.ws.length-_
  omega

theorem Rl.com(h:Rl S P){xs:List Wr}(hx:xs≠[])(hfit:∀D,IsDm (fun b n=>upsW xs (vkF S.M.V S.M.now) (b,n)) D→FitD D):Rl (S.com xs) {P with ss:=P.ss++[allL xs (P.ss.getD (P.ss.length-1) [])],ws:=P.ws++[xs]}:=by
 have hup:UpTo S.M.V (S.M.now+1):=h.top.mono (by omega)
 have hss:1≤P.ss.length:=by have:=h.wl;omega
 have hnow:=h.now
 have hM:(S.com xs).M=putM S.M (S.M.now+1) xs:=by unfold Ts.com;rw[if_neg hx]
 have hC:(S.com xs).cl=S.cl++[(S.M.now,xs)]:=by unfold Ts.com;rw[if_neg hx]
 have hO:(S.com xs).op=S.op:=(com_op S xs).1
 have hB:(S.com xs).bg=S.bg:=(com_op S xs).2.1
 have hL:(S.com xs).ln=S.ln:=(com_op S xs).2.2.1
 have hN:(S.com xs).M.now=S.M.now+1:=by rw[hM];rfl
 have hF:(S.com xs).M.floor=S.M.floor:=by rw[hM];rfl
 have hV:(S.com xs).M.V=putsF S.M.V xs (S.M.now+1):=by rw[hM];rfl
 have hold:∀u,u<S.M.now+1→vkF (S.com xs).M.V u=vkF S.M.V u:=fun u hu=>by rw[hV];exact vis_old hup xs hu
 have hcur:vkF (S.com xs).M.V (S.M.now+1)=upsW xs (vkF S.M.V S.M.now):=by
  rw[hV,vis_puts hup xs (Int.le_refl _)]
  congr 1
  funext k
  unfold vkF visV
  have e:newV (S.M.V k.1 k.2) (S.M.now+1)=newV (S.M.V k.1 k.2) S.M.now:=newV_top (h.top k.1 k.2).2 (by omega)
  rw[e]
 have hlast:(P.ss++[allL xs (P.ss.getD (P.ss.length-1) [])]).getD ((P.ss++[allL xs (P.ss.getD (P.ss.length-1) [])]).length-1) []=allL xs (P.ss.getD (P.ss.length-1) []):=by
  rw[List.length_append,List.getD_eq_getElem?_getD]
  simp
 refine⟨h.fi,by rw[hN];show _=P.first+((P.ss++[_]).length:Nat);rw[List.length_append,hnow];simp;omega,by show(P.ws++[_]).length+1=(P.ss++[_]).length;rw[List.length_append,List.length_append];have:=h.wl;simp;omega,by rw[hN,hF];have:=h.fl;omega,by rw[hN,hV];exact hup.puts xs,by rw[hV];exact puts_van h.van xs,by rw[hB];exact h.bg,by rw[hL];exact h.ln,h.nums,by rw[hB];exact h.low,fun t ht y hy=>?_,by rw[hO];exact h.op0,?_,⟨?_,?_⟩,fun D hD=>hfit D (by rw[hN,hcur]at hD;exact hD)⟩
 ·obtain⟨ow,mv,a1,a2⟩:=h.op1 t ht y hy
  refine⟨ow,mv,by rw[hO];exact a1,⟨a2.own,a2.tn,by have:=a2.sn;show _≤(P.ss++[_]).length;rw[List.length_append];omega,a2.st,a2.emp,a2.rd,a2.ls,by rw[hF];exact a2.fl,?_,?_⟩⟩
  ·have hsn:=a2.sn
   have e:(P.ss++[allL xs (P.ss.getD (P.ss.length-1) [])]).getD t.snap []=P.ss.getD t.snap []:=by
    simp[List.getD_eq_getElem?_getD,List.getElem?_append_left (show t.snap<P.ss.length by omega)]
   show StE _ ((P.ss++[_]).getD t.snap [])
   rw[e,hold _ (by show P.first+(t.snap:Int)+1<_;omega)]
   exact a2.vis
  ·show(P.ws++[xs]).length-t.snap≤_
   rw[hC,List.length_append,List.length_append]
   have:=a2.cl
   have:=a2.sn
   have:=h.wl
   simp
   omega
 ·show StE _ ((P.ss++[_]).getD _ [])
  rw[hN,hcur]
  have:=h.cur.all xs
  rw[hlast]
  exact this
 ·show(S.com xs).cl=(wsT {P with ss:=_,ws:=P.ws++[xs]}).drop _
  have e1:wsT {P with ss:=P.ss++[allL xs (P.ss.getD (P.ss.length-1) [])],ws:=P.ws++[xs]}=wsT P++[(S.M.now,xs)]:=by
   unfold wsT
   simp only
   rw[List.mapIdx_append]
   simp only[List.mapIdx_cons,List.mapIdx_nil]
   have:P.first+((P.ws.length+0:Nat):Int)+1=S.M.now:=by have:=h.wl;omega
   simp at this ⊢
   have h9:=h.wl
   omega
  rw[e1,hC]
  have hlw:(wsT P).length=P.ws.length:=by unfold wsT;simp
  have hcl:=h.cl
  have e2:(P.ws++[xs]).length-(S.cl++[(S.M.now,xs)]).length=P.ws.length-S.cl.length:=by rw[List.length_append,List.length_append];simp
  show _=List.drop ((P.ws++[xs]).length-_) _
  rw[e2,List.drop_append_of_le_length (by rw[hlw];omega),←hcl.1]
 ·show(S.com xs).cl.length≤(P.ws++[xs]).length
  rw[hC,List.length_append,List.length_append]
  have:=h.cl.2
  simp
  omega

end Go.Proofs.YtcfociogljhbiaaGreatDoor
