/-
  Of the proof: parts ChY, ChDm, ChSa, DpV.
-/
import Derived.BigQuiet
import Derived.Test.YtcfociogljhbiaaGreatDoorJ23
import Derived.Test.YtcfociogljhbiaaGreatDoorJ10
import Derived.Test.YtcfociogljhbiaaGreatDoorJ21
import Derived.Test.YtcfociogljhbiaaGreatDoorJ22

namespace Go.Proofs.YtcfociogljhbiaaGreatDoor
open Go.RowKit Go.Maps Go.Sort Go.Shelf Go.Lib

theorem compare_any(a b:ByteArray)(w:World):Calls Tryz.prog 119 #[.string a,.string b] w fun e w'=>e=.returned (.int .i64 (compareBytes a.data.toList b.data.toList))∧w'=w:=Any.strings_Compare Tryz.cmp12 a b w

def tnB(b:Bx):List UInt8:=b.tn.data.toList
def arB(b:Bx):List UInt8:=b.ar.data.toList

def cmpB(a b:Bx):Int:=if compareBytes (tnB a) (tnB b)=0 then compareBytes (arB a) (arB b)else compareBytes (tnB a) (tnB b)

set_option maxRecDepth 100000 in
set_option maxHeartbeats 1000000 in
theorem order_any(W:World)(x y:Bx):Calls Tryz.prog 99 #[.agg #[.string x.tn,.string x.ar],.agg #[.string y.tn,.string y.ar]] W fun e w'=>e=.returned (.int .i64 (cmpB x y))∧Gr W w':=by
 obtain⟨wA,hwA⟩:∃V,V=(W.alloc (.cells #[.string x.tn,.string x.ar] 128)).alloc (.cells #[.string y.tn,.string y.ar] 128):=⟨_,rfl⟩
 have HG:Hid (Gr W wA):=hid (by rw[hwA];exact((Gr.refl W).alloc _).alloc _)
 obtain⟨xb,hxb⟩:∃z,z=W.heap.size:=⟨_,rfl⟩
 have B1:Blk wA xb #[.string x.tn,.string x.ar] 128:=by rw[hwA,hxb];exact(Blk.new W _ _).kept (F:=fun _=>False) ((Kept.refl _ _).alloc _) (fun f=>f)
 have B2:Blk wA (xb+1) #[.string y.tn,.string y.ar] 128:=by
  rw[hwA,hxb]
  have:=Blk.new (W.alloc (.cells #[.string x.tn,.string x.ar] 128)) #[.string y.tn,.string y.ar] 128
  rwa [World.size_alloc]at this
 have HOR:Hid (∀w:World,Calls Tryz.prog 118 #[.slice (some ⟨w.heap.size,0,none⟩) 2 2] (w.alloc (.cells #[.int .i64 (compareBytes x.tn.data.toList y.tn.data.toList),.int .i64 (compareBytes x.ar.data.toList y.ar.data.toList)] 3)).drew fun e w'=>e=.returned (.int .i64 (cmpB x y))∧Gr w w'):=hid (fun w=>(or_any _ _ _ _ ((Blk.new w _ _).cell 0) ((Blk.new w _ _).cell 1)).mono (fun e w' h=>⟨h.1,by rw[h.2];exact((Gr.refl w).alloc _).drew⟩))
 have a0:=B1.cell 0
 have a1:=B1.cell 1
 have b0:=B2.cell 0
 have b1:=B2.cell 1
 simp at a0 a1 b0 b1
 clear B1 B2
 go_enter Tryz.func99,Tryz.ntmps99
 go_upto_region 1 with fail
 rw[←hwA,←hxb]
 clear hwA hxb
 go_region_held3 (fun w'=>w'.cell? ⟨xb,0,none⟩=some (.string x.tn)∧w'.cell? ⟨xb,1,none⟩=some (.string x.ar)∧w'.cell? ⟨xb+1,0,none⟩=some (.string y.tn)∧w'.cell? ⟨xb+1,1,none⟩=some (.string y.ar))
  (first
   | (go_split_ands;exact⟨hg3.same.cell ((show Same _ _ from(Kept.refl _ _).drew).cell (by assumption) (fun f=>f)) (fun f=>f),hg3.same.cell (by assumption) (fun f=>f),hg3.same.cell (by assumption) (fun f=>f),hg3.same.cell (by assumption) (fun f=>f)⟩)
   | go_keep
   | (go_split_ands;exact⟨(show Same _ _ from(Kept.refl _ _).alloc _).cell (by assumption) (fun f=>f),(show Same _ _ from(Kept.refl _ _).alloc _).cell (by assumption) (fun f=>f),(show Same _ _ from(Kept.refl _ _).alloc _).cell (by assumption) (fun f=>f),(show Same _ _ from(Kept.refl _ _).alloc _).cell (by assumption) (fun f=>f)⟩))
  (first
   | (go_at_call 119;refine(compare_any _ _ _).mono ?_;rintro e w2 ⟨rfl,rfl⟩)
   | (go_at_call 118;refine(HOR.out _).mono ?_;rintro e w3 ⟨rfl,hg3⟩))
 go_wp2_with fail
 go_ret
 exact⟨rfl,HG.out.trans hg3⟩

def ltB(a b:Bx):Prop:=tnB a<tnB b∨(tnB a=tnB b∧arB a<arB b)

theorem cmpB_lt(a b:Bx):cmpB a b<0↔ltB a b:=by
 unfold cmpB ltB
 by_cases h:compareBytes (tnB a) (tnB b)=0
 ·rw[if_pos h,cmp_lt]
  have h2:=(cmp_zero _ _).1 h
  rw[h2]
  constructor
  ·intro e;exact .inr ⟨rfl,e⟩
  ·rintro(e | e)
   ·exact absurd e (List.lt_irrefl _)
   ·exact e.2
 ·rw[if_neg h,cmp_lt]
  constructor
  ·intro e;exact .inl e
  ·rintro(e | e)
   ·exact e
   ·exact absurd ((cmp_zero _ _).2 e.1) h

theorem ltB_irr(a:Bx):¬ltB a a:=fun h=>by
 rcases h with h | h
 ·exact List.lt_irrefl _ h
 ·exact List.lt_irrefl _ h.2

theorem ltB_trans{a b c:Bx}(h:ltB a b)(k:ltB b c):ltB a c:=by
 rcases h with h | ⟨h,h'⟩<;>rcases k with k | ⟨k,k'⟩
 ·exact .inl (List.lt_trans h k)
 ·exact .inl (by rw[←k];exact h)
 ·exact .inl (by rw[h];exact k)
 ·exact .inr ⟨h.trans k,List.lt_trans h' k'⟩

theorem ltB_tri(a b:Bx):ltB a b∨a=b∨ltB b a:=by
 rcases list_tri (tnB a) (tnB b)with h | h | h
 ·exact .inl (.inl h)
 ·rcases list_tri (arB a) (arB b)with k | k | k
  ·exact .inl (.inr ⟨h,k⟩)
  ·refine .inr (.inl (Bx.ext' ?_ ?_))
   ·have:(⟨a.tn,by exact a.ok.1⟩:Nm)=⟨b.tn,b.ok.1⟩:=bysN_inj h
    exact congrArg Nm.s this
   ·have:(⟨a.ar,by exact a.ok.2⟩:Nm)=⟨b.ar,b.ok.2⟩:=bysN_inj k
    exact congrArg Nm.s this
  ·exact .inr (.inr (.inr ⟨h.symm,k⟩))
 ·exact .inr (.inr (.inl h))

theorem swoB:SWO (ltOf cmpB):=by
 have hl:∀a b,ltOf cmpB a b=true↔ltB a b:=fun a b=>by unfold ltOf;rw[decide_eq_true_eq,cmpB_lt]
 have hf:∀a b,ltOf cmpB a b=false↔¬ltB a b:=fun a b=>by rw[←hl];simp
 refine⟨fun x=>(hf x x).2 (ltB_irr x),fun x y z h k=>(hl x z).2 (ltB_trans ((hl x y).1 h) ((hl y z).1 k)),fun x y z h k=>(hf x z).2 (fun e=>?_)⟩
 have h1:=(hf x y).1 h
 have h2:=(hf y z).1 k
 rcases ltB_tri x y with q | q | q
 ·exact h1 q
 ·rw[q]at e;exact h2 e
 ·exact h2 (ltB_trans q e)

theorem keysAre_len{L:List (Bx×Nat)}{xs:List Bx}(h:KeysAre L xs)(hL:L.length≤100000):xs.length≤100000:=by
 have:=h.2.2
 omega

theorem holdsK_row{w:World}{B g n cap:Nat}{xs:List Bx}(h:RowC B 128 2 bxE w (.slice (some ⟨g,0,none⟩) n cap) xs):HoldsK bxE 2 w g 0 xs.toArray:=by
 intro t ht
 rw[size_flatK]at ht
 have ht2:t<xs.length*2:=by simpa using ht
 rw[get_flatK _ _ _ _ ht]
 have h1:=RowC.cell bxE_ok h (t / 2) (t % 2) (by omega) (Nat.mod_lt _ (by decide))
 rw[show t / 2*2+t % 2=t by omega]at h1
 have e1:xs.toArray[t / 2]! = xs[t / 2]'(by omega):=by
  rw[getElem!_pos xs.toArray (t / 2) (by simp;omega)]
  simp
 rw[e1,Nat.zero_add]
 refine⟨?_,RowC.frozen h t⟩
 rw[h1]
 have h3:t % 2<(bxE (xs[t / 2]'(by omega))).length:=Nat.mod_lt _ (by decide)
 rw[List.getElem?_eq_getElem h3]
 simp[h3]

theorem heap_sortK{w:World}{g n:Nat}{os:Array Obj}{cur:Array Value}{e:TypeId}(d:Array Bx)(hb:w.heap[g]? = some (.cells cur e (0,0))):
  ∃cur':Array Value,(sortWorldK bxE 2 w g 0 n d os).heap[g]? = some (.cells cur' e (0,0))∧cur'.size=cur.size:=by
 have hg:g<w.heap.size:=(Array.getElem?_eq_some_iff.1 hb).1
 unfold sortWorldK
 rw[heap_grow_old _ _ (by simpa[putRowK,putRow,mapBlock,Sort.ahead]using hg)]
 refine⟨putCells id 0 (flatK bxE 2 d) cur,?_,by simp[putCells]⟩
 simp[putRowK,putRow,mapBlock,Sort.ahead,Array.getElem?_modify,hb,onCells]

theorem kept_sortK{w:World}{g n:Nat}{os:Array Obj}(d:Array Bx):Kept (·=g) w (sortWorldK bxE 2 w g 0 n d os):=by
 unfold sortWorldK
 refine⟨rfl,rfl,rfl,by simp[putRowK,putRow,mapBlock,Sort.ahead],fun k hk hne=>?_⟩
 rw[heap_grow_old _ _ (by simpa[putRowK,putRow,mapBlock,Sort.ahead]using hk)]
 have:g≠k:=fun e=>hne e.symm
 simp[putRowK,putRow,mapBlock,Sort.ahead,Array.getElem?_modify,this]

theorem sortB_any(w:World)(B:Nat)(v:Value)(xs:List Bx)(h:RowC B 128 2 bxE w v xs)(hl:xs.length≤100000):
  Calls Tryz.prog 135 #[v,.func (.func 99) #[] #[]] w fun e w'=>e=.returned (.tuple #[])∧∃ys,ys.Perm xs∧ys.Pairwise (fun a b=>¬ltB b a)∧RowC B 128 2 bxE w' v ys∧Kept (fun k=>v.ownBlock=some k) w w':=by
 rcases h.2 with⟨hv,h0⟩ | ⟨g,cap,cur,hv,hb,hg,hn,hc,hcs,ht⟩
 ·subst hv
  have hz:xs=[]:=List.eq_nil_of_length_eq_zero h0
  subst hz
  refine(AnyF.slices_SortFunc_none Tryz.sortf12 none 0 _ w).mono (fun e w' hh=>?_)
  obtain⟨rfl,rfl⟩:=hh
  exact⟨rfl,[],List.Perm.refl _,List.Pairwise.nil,RowC.nil,Kept.refl _ _⟩
 ·subst hv
  have hH:=holdsK_row h
  have hcmp:CmpLays Tryz.prog 99 #[] bxE 2 cmpB g 0 xs.toArray.size w:=fun m os dk hd x y=>(order_any _ x y).mono (fun e w' hh=>hh)
  have hS:=AnyQ.slices_SortFunc Tryz.sortf12 2 (fun w=>by kernel_rfl) (fun w=>by kernel_rfl) bxE (fun _=>rfl) bxE_ok.one cmpB swoB 99 #[] g 0 cap xs.toArray w (enters_of Tryz.func99 (by kernel_rfl) rfl) hcmp hH (Array.getElem?_eq_some_iff.1 hg).1 (by simp;omega)
  have hS2:Calls Tryz.prog 135 #[.slice (some ⟨g,0,none⟩) xs.length cap,.func (.func 99) #[] #[]] w _:=hS
  refine hS2.mono (fun e w' hh=>?_)
  obtain⟨rfl,d',n,os,hp,hs,rfl⟩:=hh
  have hsz:d'.size=xs.length:=by rw[hp.1];simp
  have hperm:d'.toList.Perm xs:=by
   have h1:=hp.2.2
   have e1:d'.extract 0 xs.toArray.size=d':=by rw[show xs.toArray.size=d'.size by simp[hsz]];simp
   rw[e1]at h1
   simpa using h1
  refine⟨rfl,d'.toList,hperm,?_,?_,(kept_sortK d').mono (fun k _ e=>by rw[e];rfl)⟩
  ·rw[List.pairwise_iff_getElem]
   intro i j hi hj hij
   have h1:=hs i j (Nat.zero_le _) hij (by simpa[hsz]using hj)
   rw[getElem!_pos d' j (by simpa using hj),getElem!_pos d' i (by simpa using hi)]at h1
   intro e
   have h2:ltOf cmpB d'[j] d'[i]=true:=by unfold ltOf;rw[decide_eq_true_eq,cmpB_lt];simpa using e
   rw[h2]at h1
   cases h1
  ·obtain⟨cur',hc',hcz⟩:=heap_sortK (n:=n) (os:=os) d' hg
   have hH2:HoldsK bxE 2 (sortWorldK bxE 2 w g 0 n d' os) g 0 d':=by
    unfold sortWorldK
    exact holdsK_grow bxE 2 _ _ _ _ _ (by simpa[putRowK,putRow,mapBlock,Sort.ahead] using(Array.getElem?_eq_some_iff.1 hg).1) (holdsK_putRowK bxE 2 _ _ _ xs.toArray d' (holdsK_ahead bxE 2 _ _ _ _ _ hH) (by simp[hsz]))
   have hr:=RowC.ofCells (B:=B) bxE_ok (xs:=d'.toList) (cap:=cap) hc' (by rw[hcz,hcs]) hb (by simp;omega) hc (fun j hj=>by
    have hj2:j<d'.size*2:=by simpa using hj
    have h1:=(hH2.cell (i:=j / 2) (c:=j % 2) (by omega) (Nat.mod_lt _ (by decide))).1
    rw[show 0+j / 2*2+j % 2=j by omega,cell_raw hc']at h1
    have h2:=flat_get bxE_ok d'.toList (j / 2) (j % 2) (by simp;omega) (Nat.mod_lt _ (by decide))
    rw[show j / 2*2+j % 2=j by omega]at h2
    rw[h1,h2]
    have h3:j % 2<(bxE d'[j / 2]!).length:=Nat.mod_lt _ (by decide)
    have h4:d'.toList[j / 2]'(by simp;omega)=d'[j / 2]!:=by rw[getElem!_pos d' (j / 2) (by omega)];simp
    rw[h4,List.getElem?_eq_getElem h3]
    simp[h3])
   rw[show d'.toList.length=xs.length by simp[hsz]]at hr
   exact hr

theorem sortedB(L:List (Bx×Nat))(mb:Nat)(w:World)(hL:L.length≤100000)(hown:MpK 128 mpC kB w mb L):
  Calls Tryz.prog 97 #[.func (.func 136) #[] #[.pointer (some ⟨w.heap.size,0,none⟩)],.func (.func 99) #[] #[]] (w.alloc (.cells #[.map (some mb)] 140)) fun e w'=>∃v xs,e=.returned v∧xs.Pairwise ltB∧(∀b,b∈xs↔∃a,getK b L=some a)∧RowC w.heap.size 128 2 bxE w' v xs∧Same w w'∧xs.length≤100000:=by
 have HK:=collectB L mb w hL hown
 go_enter Tryz.func97,Tryz.ntmps97
 go_wp2_with fail
 refine HK.mono ?_
 rintro e w1 ⟨v,xs,rfl,hkeys,hrow,hk1⟩
 clear HK
 have hrow0:RowC w.heap.size 128 2 bxE w1 v xs:=hrow.base (by omega)
 have hlen:xs.length≤100000:=keysAre_len hkeys hL
 have HS:=sortB_any w1 w.heap.size v xs hrow0 hlen
 have HK:Hid (KeysAre L xs∧Same w w1∧RowC w.heap.size 128 2 bxE w1 v xs):=hid ⟨hkeys,hk1,hrow0⟩
 obtain⟨a0,c0,hv,_⟩:=hrow0.shape
 obtain⟨l0,hl0⟩:∃x,x=xs.length:=⟨_,rfl⟩
 rw[←hl0]at hv
 subst hv
 clear hkeys hrow hk1 hrow0 hlen hl0 hown
 go_wp2_with fail
 refine HS.mono ?_
 rintro e w2 ⟨rfl,ys,hp,hs,hr2,hk2⟩
 have HF:Hid (ys.Pairwise ltB∧(∀b,b∈ys↔∃a,getK b L=some a)∧RowC w.heap.size 128 2 bxE w2 (.slice a0 l0 c0) ys∧Same w w2∧ys.length≤100000):=hid (by
  refine⟨?_,fun b=>by rw[hp.mem_iff];exact HK.out.1.2.1 b,hr2,Kept.trans HK.out.2.1 hk2 (fun _ _ f=>f) (fun k hlt e=>by have:=HK.out.2.2.ge e;omega),by rw[hp.length_eq];exact keysAre_len HK.out.1 hL⟩
  have hn:ys.Nodup:=hp.nodup_iff.2 HK.out.1.1
  refine(hs.and hn).imp (fun {a b} h=>?_)
  rcases ltB_tri a b with q | q | q
  ·exact q
  ·exact absurd q h.2
  ·exact absurd q h.1)
 clear HS hp hs hr2 hk2
 go_wp2_with fail
 go_ret
 exact⟨_,ys,rfl,HF.out⟩

end Go.Proofs.YtcfociogljhbiaaGreatDoor

namespace Go.Proofs.YtcfociogljhbiaaGreatDoor
open Go.RowKit Go.Maps Go.Sort Go.Shelf

theorem strict_ext{α:Type}{R:α→α→Prop}(hi:∀a,¬R a a)(ht:∀a b c,R a b→R b c→R a c):∀{l l':List α},l.Pairwise R→l'.Pairwise R→(∀x,x∈l↔x∈l')→l=l'
 | [],[],_,_,_=>rfl
 | [],b::r,_,_,h=>absurd ((h b).2 (List.mem_cons_self ..)) (by simp)
 | a::r,[],_,_,h=>absurd ((h a).1 (List.mem_cons_self ..)) (by simp)
 | a::r,b::r',h1,h2,h=>by
  rw[List.pairwise_cons]at h1 h2
  have hab:a=b:=by
   rcases List.mem_cons.1 ((h a).1 (List.mem_cons_self ..))with e | e
   ·exact e
   ·rcases List.mem_cons.1 ((h b).2 (List.mem_cons_self ..))with e2 | e2
    ·exact e2.symm
    ·exact absurd (ht _ _ _ (h2.1 a e) (h1.1 b e2)) (hi _)
  subst hab
  congr 1
  refine strict_ext hi ht h1.2 h2.2 (fun x=>⟨fun hx=>?_,fun hx=>?_⟩)
  ·rcases List.mem_cons.1 ((h x).1 (List.mem_cons_of_mem _ hx))with e | e
   ·subst e;exact absurd (h1.1 x hx) (hi _)
   ·exact e
  ·rcases List.mem_cons.1 ((h x).2 (List.mem_cons_of_mem _ hx))with e | e
   ·subst e;exact absurd (h2.1 x hx) (hi _)
   ·exact e

abbrev Ent:=Nm×ByteArray

structure IsDm(vis:Bx→Nm→Option ByteArray)(D:List (Bx×List Ent)):Prop where
 ris:D.Pairwise (fun x y=>ltB x.1 y.1)
 ne:∀x∈D,x.2≠[]
 ent:∀x∈D,x.2.Pairwise (fun p q=>bysN p.1<bysN q.1)∧∀n d,(n,d)∈x.2↔vis x.1 n=some d
 all:∀b n,vis b n≠none→∃x∈D,x.1=b

theorem IsDm.det{vis:Bx→Nm→Option ByteArray}{D D':List (Bx×List Ent)}(h:IsDm vis D)(h':IsDm vis D'):D=D':=by
 have half:∀{D D':List (Bx×List Ent)},IsDm vis D→IsDm vis D'→∀x∈D,x∈D':=fun {D D'} h h' x hx=>by
  obtain⟨b,es⟩:=x
  have hne:=h.ne _ hx
  obtain⟨⟨n,d⟩,hnd⟩:=List.exists_mem_of_ne_nil es hne
  have hv:=((h.ent _ hx).2 n d).1 hnd
  obtain⟨⟨b',es'⟩,hx',hb⟩:=h'.all b n (by rw[hv];simp)
  simp only at hb
  subst hb
  have:es=es':=strict_ext (R:=fun(p q:Ent)=>bysN p.1<bysN q.1) (fun a=>List.lt_irrefl _) (fun a b c=>List.lt_trans) (h.ent _ hx).1 (h'.ent _ hx').1 (fun y=>by
   obtain⟨n,d⟩:=y
   rw[(h.ent _ hx).2,(h'.ent _ hx').2])
  rw[this]
  exact hx'
 exact strict_ext (R:=fun(x y:Bx×List Ent)=>ltB x.1 y.1) (fun a=>ltB_irr _) (fun a b c=>ltB_trans) h.ris h'.ris (fun x=>⟨half h h' x,half h' h x⟩)

structure Ad where
 b:Bx
 a:Option Addr
 n:Nat
 c:Nat
 es:List Ent

def adV(x:Ad):Value:=.slice x.a x.n x.c
def adE(x:Ad):List Value:=[.string x.b.tn,.string x.b.ar,.slice x.a x.n x.c]
theorem adE_ok:EncOk adE 3:=⟨fun _=>rfl,fun x u hu=>by simp[adE]at hu;rcases hu with rfl | rfl | rfl<;>rfl,by decide⟩
theorem Tryz.infoArc:(Tryz.prog.info? 83).map (fun i=>(i.zero,i.size,i.bytes))=some (some (.agg #[.string ⟨#[]⟩,.string ⟨#[]⟩,.slice none 0 0]),3,56):=by kernel_rfl

theorem cellsAt_ad(w:World)(x:Ad):CellsAt (w.alloc (.cells #[.string x.b.tn,.string x.b.ar,.slice x.a x.n x.c] 83)) ⟨w.heap.size,0,none⟩ ([x].flatMap adE):=by
 intro j u hj
 match j,hj with
 | 0,hj=>simp[adE]at hj;subst hj;simp[addAt]
 | 1,hj=>simp[adE]at hj;subst hj;simp[addAt]
 | 2,hj=>simp[adE]at hj;subst hj;simp[addAt]
 | j+3,hj=>simp[adE]at hj

structure DmAt(B:Nat)(w:World)(v:Value)(As:List Ad):Prop where
 row:RowC B 83 3 adE w v As
 ent:∀x∈As,RowC B 108 2 enE2 w (adV x) x.es
 apt:As.Pairwise (fun x y=>∀k,(adV x).ownBlock=some k→¬(adV y).ownBlock=some k)

def adD(As:List Ad):List (Bx×List Ent):=As.map (fun x=>(x.b,x.es))

theorem DmAt.kept{B:Nat}{w w':World}{v:Value}{As:List Ad}(h:DmAt B w v As){F:Nat→Prop}(hk:Kept F w w')(h1:∀k,v.ownBlock=some k→¬F k)(h2:∀x∈As,∀k,(adV x).ownBlock=some k→¬F k):DmAt B w' v As:=
 ⟨h.row.kept hk h1,fun x hx=>(h.ent x hx).kept hk (h2 x hx),h.apt⟩
theorem DmAt.same{B:Nat}{w w':World}{v:Value}{As:List Ad}(h:DmAt B w v As)(hk:Same w w'):DmAt B w' v As:=h.kept hk (fun _ _ f=>f) (fun _ _ _ _ f=>f)
theorem DmAt.base{B B':Nat}{w:World}{v:Value}{As:List Ad}(h:DmAt B w v As)(hb:B'≤B):DmAt B' w v As:=⟨h.row.base hb,fun x hx=>(h.ent x hx).base hb,h.apt⟩

def visF(V:Vs)(t:Int):Bx→Nm→Option ByteArray:=fun b n=>visV (V b n) t

def DumA(w:World)(vis:Bx→Nm→Option ByteArray)(e:Ending)(w':World):Prop:=∃v As,e=.returned v∧DmAt w.heap.size w' v As∧IsDm vis (adD As)∧As.length≤100000∧(∀x∈As,x.es.length≤100000)∧Same w w'

theorem keysBC_any(mb:Option Nat)(W:World):Calls Tryz.prog 98 #[.map mb] W fun e w'=>e=.returned (.func (.func 136) #[] #[.pointer (some ⟨W.heap.size,0,none⟩)])∧w'=W.alloc (.cells #[.map mb] 140):=by
 go_enter Tryz.func98,Tryz.ntmps98
 go_wp2_with fail
 go_ret
 exact⟨rfl,rfl⟩

structure DmI(w wr:World)(vis:Bx→Nm→Option ByteArray)(xs:List Bx)(v:Value)(As:List Ad):Prop where
 at':DmAt w.heap.size wr v As
 ris:(adD As).Pairwise (fun x y=>ltB x.1 y.1)
 ne:∀x∈adD As,x.2≠[]
 ent:∀x∈adD As,x.2.Pairwise (fun p q=>bysN p.1<bysN q.1)∧∀n d,(n,d)∈x.2↔vis x.1 n=some d
 all:∀b n,b∈xs→vis b n≠none→∃x∈adD As,x.1=b
 mem:∀x∈adD As,x.1∈xs
 len:As.length≤xs.length
 big:∀x∈As,x.es.length≤100000
 same:Same w wr

theorem DmI.skip{w wr:World}{vis:Bx→Nm→Option ByteArray}{xs:List Bx}{v:Value}{As:List Ad}(h:DmI w wr vis xs v As){b:Bx}(hb:∀n,vis b n=none):DmI w wr vis (xs++[b]) v As:=
 {h with
  all:=fun b' n hm hv=>by
   rcases List.mem_append.1 hm with e | e
   ·exact h.all b' n e hv
   ·rw[List.mem_singleton.1 e]at hv;exact absurd (hb n) hv
  mem:=fun x hx=>List.mem_append.2 (.inl (h.mem x hx))
  len:=by rw[List.length_append];exact Nat.le_add_right_of_le h.len}

theorem DmI.more{w wr wr':World}{vis:Bx→Nm→Option ByteArray}{xs:List Bx}{v v':Value}{As:List Ad}(h:DmI w wr vis xs v As){x:Ad}(hat:DmAt w.heap.size wr' v' (As++[x]))(hs:Same w wr')(hlt:∀b'∈xs,ltB b' x.b)(hne:x.es≠[])(hent:x.es.Pairwise (fun p q=>bysN p.1<bysN q.1)∧∀n d,(n,d)∈x.es↔vis x.b n=some d)(hbig:x.es.length≤100000):DmI w wr' vis (xs++[x.b]) v' (As++[x]):=by
 have hD:adD (As++[x])=adD As++[(x.b,x.es)]:=by unfold adD;rw[List.map_append];rfl
 refine⟨hat,?_,fun y hy=>?_,fun y hy=>?_,fun b' n hm hv=>?_,fun y hy=>?_,?_,fun y hy=>?_,hs⟩
 ·rw[hD,List.pairwise_append]
  refine⟨h.ris,List.pairwise_singleton _ _,fun a ha c hc=>?_⟩
  rw[List.mem_singleton]at hc
  subst hc
  exact hlt _ (h.mem a ha)
 ·rw[hD]at hy
  rcases List.mem_append.1 hy with e | e
  ·exact h.ne y e
  ·rw[List.mem_singleton.1 e];exact hne
 ·rw[hD]at hy
  rcases List.mem_append.1 hy with e | e
  ·exact h.ent y e
  ·rw[List.mem_singleton.1 e];exact hent
 ·rw[hD]
  rcases List.mem_append.1 hm with e | e
  ·obtain⟨y,h1,h2⟩:=h.all b' n e hv
   exact⟨y,List.mem_append.2 (.inl h1),h2⟩
  ·exact⟨(x.b,x.es),List.mem_append.2 (.inr (List.mem_singleton.2 rfl)),(List.mem_singleton.1 e).symm⟩
 ·rw[hD]at hy
  rcases List.mem_append.1 hy with e | e
  ·exact List.mem_append.2 (.inl (h.mem y e))
  ·rw[List.mem_singleton.1 e];exact List.mem_append.2 (.inr (List.mem_singleton.2 rfl))
 ·rw[List.length_append,List.length_append]
  have:=h.len
  simp only[List.length_singleton]
  omega
 ·rcases List.mem_append.1 hy with e | e
  ·exact h.big y e
  ·rw[List.mem_singleton.1 e];exact hbig

theorem ent_vis(V:Vs)(b:Bx)(t:Int){L:List Nm}(hr:RisN L)(hm:∀n,n∈L↔isTh (V b n) t=true):(L.map (fun n=>(n,(newV (V b n) t).data))).Pairwise (fun p q=>bysN p.1<bysN q.1)∧∀n d,(n,d)∈L.map (fun n=>(n,(newV (V b n) t).data))↔visF V t b n=some d:=by
 refine⟨by rw[List.pairwise_map];exact hr,fun n d=>?_⟩
 rw[List.mem_map]
 unfold visF visV
 constructor
 ·rintro⟨m,h1,h2⟩
  simp only[Prod.mk.injEq]at h2
  obtain⟨rfl,rfl⟩:=h2
  have:=(hm m).1 h1
  unfold isTh at this
  rw[this];rfl
 ·intro h
  by_cases e:(newV (V b n) t).there=true
  ·rw[e]at h
   simp only[if_true,Option.some.injEq]at h
   exact⟨n,(hm n).2 e,by rw[h]⟩
  ·rw[if_neg e]at h;cases h

set_option maxRecDepth 100000 in
set_option maxHeartbeats 2000000 in
theorem dump_any{K N:Nat}{w:World}{p:Nat}{s:Cs}{ρ:Nat→Nat}{mb:Nat}(h:Ck K N w p s ρ mb)(t:Int):
  Calls Tryz.prog 62 #[.pointer (some ⟨p,0,none⟩),.int .i64 t] w fun e w'=>DumA w (visF (vers s) (max t s.floor)) e w':=by
 have p2:w.cell? ⟨p,2,none⟩=some (.map (some mb)):=h.blk.cell 2
 have HK:=keysBC_any (some mb) w
 have HS:=sortedB s.bx mb w (Nat.le_trans h.lens.1 h.big) h.bm
 have HC:Hid (Ck K N w p s ρ mb):=h
 obtain⟨vis,hvis⟩:∃v,v=visF (vers s) (max t s.floor):=⟨_,rfl⟩
 rw[←hvis]
 have HV:Hid (vis=visF (vers s) (max t s.floor)):=hvis
 clear h hvis
 go_enter Tryz.func62,Tryz.ntmps62
 go_wp2_with fail
 refine HK.mono ?_
 rintro e w0 ⟨rfl,rfl⟩
 clear HK
 go_wp2_with fail
 refine HS.mono ?_
 rintro e w1 ⟨v,xs,rfl,hris,hmem,hrow,hk1,hlx0⟩
 clear HS p2
 obtain⟨xa,xc,hv,hne,_⟩:=hrow.shape
 obtain⟨Ln,hLn⟩:∃x,x=xs.length:=⟨_,rfl⟩
 rw[←hLn]at hv
 subst hv
 have hlx:xs.length≤100000:=hlx0
 have HR:Hid (RowC w.heap.size 128 2 bxE w1 (.slice xa Ln xc) xs∧xs.Pairwise ltB∧(∀b,b∈xs↔∃a,getK b s.bx=some a)∧Same w w1∧Ln=xs.length∧(xs≠[]→∃g,xa=some ⟨g,0,none⟩)∧xs.length≤100000):=hid ⟨hrow,hris,hmem,hk1,hLn,hne,hlx⟩
 have hLl:Ln≤100000:=by omega
 clear hrow hris hmem hk1 hne hLn hlx
 go_wp2_with fail
 go_loopg [5,18] Ln (fun q z5 z18 wr=>∃(i:Nat) (As:List Ad) (a0:Option Addr) (l0 c0:Nat),z5=.slice a0 l0 c0∧z18=.int .i64 (i:Nat)∧Ln-i≤q∧i≤Ln∧Hid (DmI w wr vis (xs.take i) (.slice a0 l0 c0) As∧RowC w.heap.size 128 2 bxE wr (.slice xa Ln xc) xs))
 case atStart=>
  refine⟨0,[],none,0,0,rfl,rfl,by omega,by omega,hid ⟨⟨⟨RowC.nil,fun x hx=>(by cases hx),List.Pairwise.nil⟩,List.Pairwise.nil,fun x hx=>(by cases hx),fun x hx=>(by cases hx),fun b n hm=>(by simp at hm),fun x hx=>(by cases hx),by simp,fun x hx=>(by cases hx),HR.out.2.2.2.1⟩,HR.out.1⟩⟩
 case round=>
  obtain⟨i,As,a0,l0,c0,rfl,rfl,hq,hi,HI⟩:=hrel
  by_cases hlt:i<Ln
  ·have hr:=HR.out
   have hil:i<xs.length:=by have:=hr.2.2.2.2.1;omega
   obtain⟨gn,rfl⟩:=hr.2.2.2.2.2.1 (by intro e;rw[e]at hil;simp at hil)
   obtain⟨b,hb⟩:∃b,b=xs[i]:=⟨_,rfl⟩
   have f0:=RowC.cell bxE_ok HI.out.2 i 0 hil (by decide)
   have f1:=RowC.cell bxE_ok HI.out.2 i 1 hil (by decide)
   rw[←hb]at f0 f1
   rw[Nat.add_zero]at f0
   simp only[bxE,List.getElem?_cons_zero,List.getElem?_cons_succ]at f0 f1
   obtain⟨w2,hw2⟩:∃W,W=wr.alloc (.cells #[.string b.tn,.string b.ar] 128):=⟨_,rfl⟩
   have hk2:Same wr w2:=by rw[hw2];exact(Kept.refl _ _).alloc _
   obtain⟨yb,hyb⟩:∃y,y=wr.heap.size:=⟨_,rfl⟩
   have BY:Hid (Blk w2 yb #[.string b.tn,.string b.ar] 128):=hid (by rw[hw2,hyb];exact Blk.new wr _ _)
   have HEN:=entries_any (HC.out.same (HI.out.1.same.trans hk2)) b t
   have HT:Hid (xs.take (i+1)=xs.take i++[b]∧(∀b'∈xs.take i,ltB b' b)):=hid ⟨by rw[List.take_succ_eq_append_getElem hil,hb],fun b' hb'=>by
    obtain⟨j,hj,rfl⟩:=List.mem_iff_getElem.1 hb'
    rw[List.length_take]at hj
    rw[List.getElem_take,hb]
    exact List.pairwise_iff_getElem.1 hr.2.1 j i (by omega) hil (by omega)⟩
   have HK2:Hid (Same wr w2):=hk2
   have hli:(i:Int)<(Ln:Int):=by omega
   have y0:=BY.out.cell 0
   have y1:=BY.out.cell 1
   simp at y0 y1
   rw[hw2,hyb]at y0 y1
   clear hr hil hb hk2
   go_wp2_with fail
   rw[←hw2]
   clear hw2 f0 f1 y0 y1
   refine HEN.mono ?_
   rintro e w3 ⟨ev,L,rfl,hrow3,hris3,hmem3,hlen3,hk3⟩
   clear HEN
   obtain⟨ea,ec,hev,_⟩:=hrow3.shape
   obtain⟨El,hEl⟩:∃x,x=(L.map (fun n=>(n,(newV (vers s b n) (max t s.floor)).data))).length:=⟨_,rfl⟩
   rw[←hEl]at hev
   subst hev
   have HE:Hid (RowC w2.heap.size 108 2 enE2 w3 (.slice ea El ec) (L.map (fun n=>(n,(newV (vers s b n) (max t s.floor)).data)))∧(L.map (fun n=>(n,(newV (vers s b n) (max t s.floor)).data))).Pairwise (fun p q=>bysN p.1<bysN q.1)∧(∀n d,(n,d)∈L.map (fun n=>(n,(newV (vers s b n) (max t s.floor)).data))↔vis b n=some d)∧Same wr w3∧(L.map (fun n=>(n,(newV (vers s b n) (max t s.floor)).data))).length≤100000):=hid (by
    have:=ent_vis (vers s) b (max t s.floor) hris3 hmem3
    exact⟨hrow3,this.1,fun n d=>by rw[HV.out];exact this.2 n d,HK2.out.trans hk3,by rw[List.length_map];exact hlen3⟩)
   obtain⟨Es,hEs⟩:∃E,E=L.map (fun n=>(n,(newV (vers s b n) (max t s.floor)).data)):=⟨_,rfl⟩
   rw[←hEs]at HE hEl
   have HEl:Hid (El=Es.length):=hEl
   have y3:=(BY.out.kept hk3 (fun f=>f))
   have y0:=y3.cell 0
   have y1:=y3.cell 1
   simp at y0 y1
   have HYB:Hid (yb=wr.heap.size):=hyb
   have HI3:Hid (DmI w w3 vis (xs.take i) (.slice a0 l0 c0) As∧RowC w.heap.size 128 2 bxE w3 (.slice (some ⟨gn,0,none⟩) Ln xc) xs):=hid ⟨{HI.out.1 with at':=HI.out.1.at'.same HE.out.2.2.2.1,same:=HI.out.1.same.trans HE.out.2.2.2.1},HI.out.2.kept HE.out.2.2.2.1 (fun _ _ f=>f)⟩
   rw[hyb]at y0 y1
   clear hrow3 hris3 hmem3 hlen3 hk3 hEs hEl y3
   by_cases hz:El=0
   ·subst hz
    have HF:Hid (DmI w w3 vis (xs.take (i+1)) (.slice a0 l0 c0) As):=hid (by
     rw[HT.out.1]
     refine HI3.out.1.skip (fun n=>?_)
     have he:Es=[]:=List.eq_nil_of_length_eq_zero HEl.out.symm
     cases hv:vis b n with
     | none=>rfl
     | some d=>have:=(HE.out.2.2.1 n d).2 hv;rw[he]at this;cases this)
    clear y0 y1 hyb
    go_wp2_with fail
    go_roundg (gk-1)
    case measure=>omega
    case rel=>exact⟨i+1,As,a0,l0,c0,rfl,by go_num,by omega,by omega,hid ⟨HF.out,HI3.out.2⟩⟩
   ·have bz:decide ((0:Int)<(El:Int))=true:=by simp;omega
    have bz':decide (0<El)=true:=by simp;omega
    have HSZ:Hid (w.heap.size≤w3.heap.size∧As.length≤100000∧w.heap.size≤w2.heap.size):=hid ⟨HI3.out.1.same.size,by have:=HI3.out.1.len;rw[List.length_take]at this;have:=HR.out.2.2.2.2.2.2;omega,(HI.out.1.same.trans HK2.out).size⟩
    go_wp2_with (at_builtin;refine wpList_append_c _ adE 3 adE_ok (by decide) w.heap.size 22 83 (.agg #[.string ⟨#[]⟩,.string ⟨#[]⟩,.slice none 0 0]) 56 Tryz.underlying22 Tryz.infoArc rfl (by decide) rfl (.tmp 29) (.tmp 36) rfl (.slice a0 l0 c0) As rfl (HI3.out.1.at'.row.kept (show Same _ _ from(Kept.refl _ _).alloc _) (fun _ _ f=>f)) ⟨w3.heap.size,0,none⟩ 1 1 [(⟨b,ea,El,ec,Es⟩:Ad)] rfl rfl (cellsAt_ad _ ⟨b,ea,El,ec,Es⟩) (by have:=HSZ.out.2.1;simp;omega) (by have:=HSZ.out.1;simp;omega) ?_)
    intro v5 w5 hr5 hg5
    obtain⟨a5,c5,hv5,_⟩:=hr5.shape
    subst hv5
    have hk5:Kept (fun k=>(Value.slice a0 l0 c0).ownBlock=some k) w3 w5:=Kept.trans (F:=fun _=>False) ((Kept.refl _ w3).alloc _) ((Kept.refl _ _).grown hg5 (fun k e=>.inl e)) (fun _ _ f=>False.elim f) (fun _ _ e=>e)
    have HF:Hid (DmI w w5 vis (xs.take (i+1)) (.slice a5 (As++[(⟨b,ea,El,ec,Es⟩:Ad)]).length c5) (As++[(⟨b,ea,El,ec,Es⟩:Ad)])∧RowC w.heap.size 128 2 bxE w5 (.slice (some ⟨gn,0,none⟩) Ln xc) xs):=hid (by
     have h3:=HI3.out.1
     have hnew:RowC w.heap.size 108 2 enE2 w3 (.slice ea El ec) Es:=HE.out.1.base HSZ.out.2.2
     refine⟨?_,HI3.out.2.kept hk5 (fun k e=>rows_apart HI3.out.2 h3.at'.row (by decide) k e)⟩
     rw[HT.out.1]
     refine h3.more (x:=(⟨b,ea,El,ec,Es⟩:Ad)) ⟨hr5,fun y hy=>?_,?_⟩ (Kept.trans h3.same hk5 (fun _ _ f=>f) (fun k hk e=>by have:=h3.at'.row.ge e;omega)) HT.out.2 (fun e=>hz (by rw[HEl.out];have e2:Es=[]:=e;rw[e2];rfl)) ⟨HE.out.2.1,HE.out.2.2.1⟩ HE.out.2.2.2.2
     ·rcases List.mem_append.1 hy with e | e
      ·exact(h3.at'.ent y e).kept hk5 (fun k e2=>rows_apart (h3.at'.ent y e) h3.at'.row (by decide) k e2)
      ·rw[List.mem_singleton.1 e]
       exact hnew.kept hk5 (fun k e2=>rows_apart hnew h3.at'.row (by decide) k e2)
     ·rw[List.pairwise_append]
      refine⟨h3.at'.apt,List.pairwise_singleton _ _,fun y hy z hz2 k e1 e2=>?_⟩
      rw[List.mem_singleton]at hz2
      subst hz2
      have g1:=(HI.out.1.at'.ent y hy).lt e1
      have g2:=HE.out.1.ge e2
      have:=HK2.out.size
      omega)
    obtain⟨l5,hl5⟩:∃x,x=(As++[(⟨b,ea,El,ec,Es⟩:Ad)]).length:=⟨_,rfl⟩
    rw[←hl5]at HF ⊢
    clear hr5 hg5 hk5 hl5 y0 y1 hyb
    go_wp2_with fail
    go_roundg (gk-1)
    case measure=>omega
    case rel=>exact⟨i+1,As++[(⟨b,ea,El,ec,Es⟩:Ad)],a5,l5,c5,rfl,by go_num,by omega,by omega,HF⟩
  ·have e:i=Ln:=by omega
   have HF:Hid (DumA w vis (.returned (.slice a0 l0 c0)) wr):=hid (by
    have hr:=HR.out
    have h1:=HI.out.1
    rw[e,hr.2.2.2.2.1,List.take_length]at h1
    refine⟨_,As,rfl,h1.at',⟨h1.ris,h1.ne,h1.ent,fun b n hv=>?_⟩,Nat.le_trans h1.len hr.2.2.2.2.2.2,h1.big,h1.same⟩
    refine h1.all b n ((hr.2.2.1 b).2 ?_) hv
    cases hg:getK b s.bx with
    | some a=>exact⟨a,rfl⟩
    | none=>
     have:vers s b n=[]:=by unfold vers fndC;rw[hg];rfl
     rw[HV.out]at hv
     unfold visF at hv
     rw[this]at hv
     exact absurd rfl hv)
   go_wp2_with fail
   go_ret
   exact HF.out

end Go.Proofs.YtcfociogljhbiaaGreatDoor

namespace Go.Proofs.YtcfociogljhbiaaGreatDoor
open Go.RowKit Go.Maps Go.Sort

theorem DmAt.ofs{B:Nat}{w:World}{v:Value}{As:List Ad}(h:DmAt B w v As):∃ao cap,v=.slice ao As.length cap∧∀i (hi:i<As.length),∃g,ao=some ⟨g,0,none⟩∧w.cell? ⟨g,i*3,none⟩=some (.string As[i].b.tn)∧w.cell? ⟨g,i*3+1,none⟩=some (.string As[i].b.ar)∧w.cell? ⟨g,i*3+2,none⟩=some (.slice As[i].a As[i].es.length As[i].c)∧As[i].n=As[i].es.length∧∀j (hj:j<As[i].es.length),∃k,As[i].a=some ⟨k,0,none⟩∧w.cell? ⟨k,j*2,none⟩=some (.string (As[i].es[j]).1.s)∧w.cell? ⟨k,j*2+1,none⟩=some (.string (As[i].es[j]).2):=by
 obtain⟨ao,cap,hv,hg,_,_,_⟩:=h.row.shape
 refine⟨ao,cap,hv,fun i hi=>?_⟩
 obtain⟨g,rfl⟩:=hg (by rintro rfl;simp at hi)
 have hr:=h.row
 rw[hv]at hr
 have he:=h.ent As[i] (List.getElem_mem hi)
 obtain⟨ao2,cap2,hv2,hg2,_,_,_⟩:=he.shape
 unfold adV at hv2
 injection hv2 with e1 e2 e3
 refine⟨g,rfl,RowC.cell adE_ok hr i 0 hi (by decide),RowC.cell adE_ok hr i 1 hi (by decide),?_,e2,fun j hj=>?_⟩
 ·rw[←e2];exact RowC.cell adE_ok hr i 2 hi (by decide)
 ·obtain⟨k,hk⟩:=hg2 (by intro e;rw[e]at hj;simp at hj)
  rw[hk]at e1
  unfold adV at he
  rw[e1]at he
  exact⟨k,e1,RowC.cell enE2_ok he j 0 hj (by decide),RowC.cell enE2_ok he j 1 hj (by decide)⟩

set_option maxRecDepth 100000 in
set_option maxHeartbeats 2000000 in
theorem dsame_true(w:World)(B B':Nat)(v v':Value)(As As':List Ad)(h:DmAt B w v As)(h':DmAt B' w v' As')(he:adD As=adD As')(hl:As.length≤100000)(hl2:∀x∈As,x.es.length≤100000):
  Calls Tryz.prog 21 #[v,v'] w fun e w'=>e=.returned (.bool true)∧Same w w':=by
 have hlen:As'.length=As.length:=by have:=congrArg List.length he;simpa[adD]using this.symm
 obtain⟨a,c,rfl,HA⟩:=h.ofs
 obtain⟨a',c',rfl,HB⟩:=h'.ofs
 rw[hlen]
 obtain⟨n,hn⟩:∃n,n=As.length:=⟨_,rfl⟩
 have HF:Hid (∀i,i<n→∃(g g':Nat) (b:Bx) (m:Nat) (ea ea':Option Addr) (ec ec':Nat),a=some ⟨g,0,none⟩∧a'=some ⟨g',0,none⟩∧m≤100000∧w.cell? ⟨g,i*3,none⟩=some (.string b.tn)∧w.cell? ⟨g,i*3+1,none⟩=some (.string b.ar)∧w.cell? ⟨g,i*3+2,none⟩=some (.slice ea m ec)∧w.cell? ⟨g',i*3,none⟩=some (.string b.tn)∧w.cell? ⟨g',i*3+1,none⟩=some (.string b.ar)∧w.cell? ⟨g',i*3+2,none⟩=some (.slice ea' m ec')∧∀j,j<m→∃(k k':Nat) (s d:ByteArray),ea=some ⟨k,0,none⟩∧ea'=some ⟨k',0,none⟩∧w.cell? ⟨k,j*2,none⟩=some (.string s)∧w.cell? ⟨k,j*2+1,none⟩=some (.string d)∧w.cell? ⟨k',j*2,none⟩=some (.string s)∧w.cell? ⟨k',j*2+1,none⟩=some (.string d)):=hid (fun i hi=>by
  have hi1:i<As.length:=by omega
  have hi2:i<As'.length:=by omega
  have hx:(As[i].b,As[i].es)=(As'[i].b,As'[i].es):=by
   have:(adD As)[i]'(by simpa[adD]using hi1)=(adD As')[i]'(by simpa[adD]using hi2):=by simp only[he]
   simpa[adD]using this
  injection hx with x1 x2
  obtain⟨g,q1,q2,q3,q4,q5,q6⟩:=HA i hi1
  obtain⟨g',r1,r2,r3,r4,r5,r6⟩:=HB i hi2
  rw[←x1]at r2 r3
  have hm:As'[i].es.length=As[i].es.length:=by rw[x2]
  rw[hm]at r4
  refine⟨g,g',As[i].b,As[i].es.length,As[i].a,As'[i].a,As[i].c,As'[i].c,q1,r1,hl2 _ (List.getElem_mem hi1),q2,q3,q4,r2,r3,r4,fun j hj=>?_⟩
  obtain⟨k,s1,s2,s3⟩:=q6 j hj
  obtain⟨k',t1,t2,t3⟩:=r6 j (by omega)
  have hy:As'[i].es[j]'(by omega)=As[i].es[j]:=by simp only[x2]
  rw[hy]at t2 t3
  exact⟨k,k',_,_,s1,t1,s2,s3,t2,t3⟩)
 rw[←hn]at hl ⊢
 clear HA HB h h' he hl2 hlen hn
 have hnn:((n:Int)==(n:Int))=true:=by simp
 go_enter Tryz.func21,Tryz.ntmps21
 go_wp2_with fail
 go_loopg [5] n (fun k z wr=>∃i:Nat,n-i≤k∧i≤n∧z=.int .i64 (i:Nat)∧Hid (Same w wr))
 case atStart=>exact⟨0,by omega,by omega,rfl,hid (Kept.refl _ _)⟩
 case round=>
  obtain⟨i,hk,hil,rfl,HK⟩:=hrel
  by_cases hlt:i<n
  ·have hli:decide (i<n)=true:=by simp;omega
   obtain⟨g,g',b,m,ea,ea',ec,ec',e1,e2,hm,c0,c1,c2,d0,d1,d2,HE0⟩:=HF.out i hlt
   have HE:=hid HE0
   clear HE0
   subst e1
   subst e2
   have HC:Hid (w.cell? ⟨g,i*3+2,none⟩=some (.slice ea m ec)∧w.cell? ⟨g',i*3+2,none⟩=some (.slice ea' m ec')):=hid ⟨c2,d2⟩
   have c0:=HK.out.cell c0 (fun f=>f)
   have c1:=HK.out.cell c1 (fun f=>f)
   have c2:=HK.out.cell c2 (fun f=>f)
   have d0:=HK.out.cell d0 (fun f=>f)
   have d1:=HK.out.cell d1 (fun f=>f)
   have d2:=HK.out.cell d2 (fun f=>f)
   have q0:(b.tn.toList==b.tn.toList)=true:=by simp
   have q1:(b.ar.toList==b.ar.toList)=true:=by simp
   have q2:((m:Int)==(m:Int))=true:=by simp
   have hiw:IntKind.i64.wrap ((i:Int)+1)=((i+1:Nat):Int):=by rw[IntKind.wrap_i64];omega
   have i1:(0:Int)≤(i:Int):=by omega
   have i2:(i:Int)<(n:Int):=by omega
   go_wp2_with fail
   go_quiet (fail)
   clear c0 c1 c2 d0 d1 d2
   obtain⟨gk0,hgk⟩:∃x,x=gk:=⟨_,rfl⟩
   rw[←hgk]at hk
   have HG:=hid hgk
   clear hgk
   go_wp2_with fail
   go_loopg [6] m (fun k z wr=>∃j:Nat,m-j≤k∧j≤m∧z=.int .i64 (j:Nat)∧Hid (Same w wr))
   case atStart=>exact⟨0,by omega,by omega,rfl,hid (HK.out.drewN _)⟩
   case round=>
    obtain⟨j,hjk,hjm,rfl,HL⟩:=hrel
    have c2:=HL.out.cell HC.out.1 (fun f=>f)
    have d2:=HL.out.cell HC.out.2 (fun f=>f)
    by_cases hjl:j<m
    ·have hlj:decide (j<m)=true:=by simp;omega
     obtain⟨k,k',s,d,e1,e2,y0,y1,z0,z1⟩:=HE.out j hjl
     subst e1
     subst e2
     have y0:=HL.out.cell y0 (fun f=>f)
     have y1:=HL.out.cell y1 (fun f=>f)
     have z0:=HL.out.cell z0 (fun f=>f)
     have z1:=HL.out.cell z1 (fun f=>f)
     have r0:(s.toList==s.toList)=true:=by simp
     have r1:(d.toList==d.toList)=true:=by simp
     have hjw:IntKind.i64.wrap ((j:Int)+1)=((j+1:Nat):Int):=by rw[IntKind.wrap_i64];omega
     have j1:(0:Int)≤(j:Int):=by omega
     have j2:(j:Int)<(m:Int):=by omega
     go_wp2_with fail
     go_quiet (fail)
     go_wp2_with fail
     go_roundg (gk-1)
     case measure=>omega
     case rel=>exact⟨j+1,by omega,by omega,by go_num,hid (HL.out.drewN _)⟩
    ·have hlj:decide (j<m)=false:=by simp;omega
     go_wp2_with fail
     go_roundg (gk0-1)
     case measure=>have:=HG.out;omega
     case rel=>exact⟨i+1,by omega,by omega,by go_num,HL⟩
  ·have hli:decide (i<n)=false:=by simp;omega
   go_wp2_with fail
   go_ret
   exact⟨rfl,HK.out⟩

end Go.Proofs.YtcfociogljhbiaaGreatDoor

namespace Go.Proofs.YtcfociogljhbiaaGreatDoor
open Go.RowKit Go.Maps Go.Sort

def vis1(vis:Bx→Nm→Option ByteArray)(b:Bx)(n:Nm)(d:ByteArray):Bx→Nm→Option ByteArray:=fun b' n'=>if b'=b∧n'=n then some d else vis b' n'

section
variable {vis:Bx→Nm→Option ByteArray} {b:Bx} {n:Nm} {d:ByteArray}

theorem vis1_hit:vis1 vis b n d b n=some d:=if_pos ⟨rfl,rfl⟩
theorem vis1_miss{b':Bx}{n':Nm}(h:¬(b'=b∧n'=n)):vis1 vis b n d b' n'=vis b' n':=if_neg h

theorem IsDm.seen{D:List (Bx×List Ent)}(h:IsDm vis D){x:Bx×List Ent}(hx:x∈D):∃n',vis x.1 n'≠none:=by
 obtain⟨⟨n',d'⟩,hm⟩:=List.exists_mem_of_ne_nil x.2 (h.ne x hx)
 exact⟨n',by rw[((h.ent x hx).2 n' d').1 hm];simp⟩

theorem IsDm.old{D:List (Bx×List Ent)}{es:List Ent}(h:IsDm vis (D++[(b,es)]))(hlt:∀b' n',vis b' n'≠none→ltB b' b∨(b'=b∧bysN n'<bysN n)):IsDm (vis1 vis b n d) (D++[(b,es++[(n,d)])]):=by
 have hr:=h.ris
 rw[List.pairwise_append]at hr
 have hD:∀x∈D,ltB x.1 b:=fun x hx=>hr.2.2 x hx _ (List.mem_singleton.2 rfl)
 have hne:∀x∈D,¬x.1=b:=fun x hx e=>by have:=hD x hx;rw[e]at this;exact ltB_irr _ this
 have hl:(b,es)∈D++[(b,es)]:=List.mem_append.2 (.inr (List.mem_singleton.2 rfl))
 have hme:=h.ent (b,es) hl
 have hnb:vis b n=none:=by
  cases hv:vis b n with
  | none=>rfl
  | some q=>
   rcases hlt b n (by rw[hv];simp)with e | ⟨_,e⟩
   ·exact absurd e (ltB_irr _)
   ·exact absurd e (List.lt_irrefl _)
 refine⟨?_,fun x hx=>?_,fun x hx=>?_,fun b' n' hv=>?_⟩
 ·rw[List.pairwise_append]
  refine⟨hr.1,List.pairwise_singleton _ _,fun x hx y hy=>?_⟩
  rw[List.mem_singleton.1 hy]
  exact hD x hx
 ·rcases List.mem_append.1 hx with e | e
  ·exact h.ne x (List.mem_append.2 (.inl e))
  ·rw[List.mem_singleton.1 e];simp
 ·rcases List.mem_append.1 hx with e | e
  ·have:=h.ent x (List.mem_append.2 (.inl e))
   refine⟨this.1,fun n' d'=>?_⟩
   rw[this.2,vis1_miss (fun e2=>hne x e e2.1)]
  ·rw[List.mem_singleton.1 e]
   refine⟨List.pairwise_append.2 ⟨hme.1,List.pairwise_singleton _ _,fun p hp q hq=>?_⟩,fun n' d'=>?_⟩
   ·rw[List.mem_singleton.1 hq]
    obtain⟨pn,pd⟩:=p
    rcases hlt b pn (by rw[(hme.2 pn pd).1 hp];simp)with e | ⟨_,e⟩
    ·exact absurd e (ltB_irr _)
    ·exact e
   ·show(n',d')∈es++[(n,d)]↔vis1 vis b n d b n'=some d'
    rw[List.mem_append,List.mem_singleton,Prod.mk.injEq]
    by_cases e2:n'=n
    ·subst e2
     rw[vis1_hit]
     constructor
     ·rintro(e3 | ⟨_,rfl⟩)
      ·have:=(hme.2 n' d').1 e3
       simp only at this
       rw[hnb]at this
       cases this
      ·rfl
     ·intro e3
      injection e3 with e3
      exact .inr ⟨rfl,e3.symm⟩
    ·rw[vis1_miss (fun e3=>e2 e3.2)]
     constructor
     ·rintro(e3 | ⟨e3,_⟩)
      ·exact(hme.2 n' d').1 e3
      ·exact absurd e3 e2
     ·intro e3
      exact .inl ((hme.2 n' d').2 e3)
 ·by_cases e:b'=b∧n'=n
  ·exact⟨_,List.mem_append.2 (.inr (List.mem_singleton.2 rfl)),e.1.symm⟩
  ·rw[vis1_miss e]at hv
   obtain⟨x,hx,e2⟩:=h.all b' n' hv
   rcases List.mem_append.1 hx with e3 | e3
   ·exact⟨x,List.mem_append.2 (.inl e3),e2⟩
   ·rw[List.mem_singleton.1 e3]at e2
    exact⟨_,List.mem_append.2 (.inr (List.mem_singleton.2 rfl)),e2⟩

theorem IsDm.fresh{D:List (Bx×List Ent)}(h:IsDm vis D)(hlt:∀b' n',vis b' n'≠none→ltB b' b∨(b'=b∧bysN n'<bysN n))(hl:∀D0 x,D=D0++[x]→¬x.1=b):IsDm (vis1 vis b n d) (D++[(b,[(n,d)])]):=by
 have hD:∀x∈D,ltB x.1 b:=fun x hx=>by
  obtain⟨n',hv⟩:=h.seen hx
  rcases hlt x.1 n' hv with e | ⟨e,_⟩
  ·exact e
  ·exfalso
   have hne:D≠[]:=fun e2=>by rw[e2]at hx;cases hx
   obtain⟨D0,y,hy⟩:∃D0 y,D=D0++[y]:=⟨_,_,(List.dropLast_concat_getLast hne).symm⟩
   have hyb:=hl D0 y hy
   have hym:y∈D:=by rw[hy];exact List.mem_append.2 (.inr (List.mem_singleton.2 rfl))
   obtain⟨n2,hv2⟩:=h.seen hym
   rcases hlt y.1 n2 hv2 with e2 | ⟨e2,_⟩
   ·have hr:=h.ris
    rw[hy]at hx hr
    rcases List.mem_append.1 hx with e3 | e3
    ·have g:=(List.pairwise_append.1 hr).2.2 x e3 y (List.mem_singleton.2 rfl)
     rw[e]at g
     exact ltB_irr _ (ltB_trans g e2)
    ·rw[List.mem_singleton.1 e3]at e
     exact hyb e
   ·exact hyb e2
 have hne:∀x∈D,¬x.1=b:=fun x hx e=>by have:=hD x hx;rw[e]at this;exact ltB_irr _ this
 have hno:∀n',vis b n'=none:=fun n'=>by
  cases hv:vis b n' with
  | none=>rfl
  | some q=>
   obtain⟨x,hx,e⟩:=h.all b n' (by rw[hv];simp)
   exact absurd e (hne x hx)
 refine⟨?_,fun x hx=>?_,fun x hx=>?_,fun b' n' hv=>?_⟩
 ·rw[List.pairwise_append]
  refine⟨h.ris,List.pairwise_singleton _ _,fun x hx y hy=>?_⟩
  rw[List.mem_singleton.1 hy]
  exact hD x hx
 ·rcases List.mem_append.1 hx with e | e
  ·exact h.ne x e
  ·rw[List.mem_singleton.1 e];simp
 ·rcases List.mem_append.1 hx with e | e
  ·have:=h.ent x e
   refine⟨this.1,fun n' d'=>?_⟩
   rw[this.2,vis1_miss (fun e2=>hne x e e2.1)]
  ·rw[List.mem_singleton.1 e]
   refine⟨List.pairwise_singleton _ _,fun n' d'=>?_⟩
   show(n',d')∈[(n,d)]↔vis1 vis b n d b n'=some d'
   rw[List.mem_singleton,Prod.mk.injEq]
   by_cases e2:n'=n
   ·subst e2
    rw[vis1_hit]
    constructor
    ·rintro⟨_,rfl⟩;rfl
    ·intro e3;injection e3 with e3;exact⟨rfl,e3.symm⟩
   ·rw[vis1_miss (fun e3=>e2 e3.2),hno]
    constructor
    ·rintro⟨e3,_⟩;exact absurd e3 e2
    ·intro e3;cases e3
 ·by_cases e:b'=b∧n'=n
  ·exact⟨_,List.mem_append.2 (.inr (List.mem_singleton.2 rfl)),e.1.symm⟩
  ·rw[vis1_miss e]at hv
   obtain⟨x,hx,e2⟩:=h.all b' n' hv
   exact⟨x,List.mem_append.2 (.inl hx),e2⟩

theorem IsDm.nil:IsDm (fun _ _=>none) []:=⟨List.Pairwise.nil,fun _ h=>(by cases h),fun _ h=>(by cases h),fun _ _ h=>absurd rfl h⟩

end

theorem flat_setAd:∀(xs:List Ad) (i:Nat) (x:Ad) (_:i<xs.length) (_:(xs[i]?.map (·.b))=some x.b),(xs.flatMap adE).set (i*3+2) (.slice x.a x.n x.c)=(xs.set i x).flatMap adE
 | [],i,x,hi,_=>by simp at hi
 | y::xs,0,x,_,hb=>by
  simp at hb
  simp[adE,hb]
 | y::xs,i+1,x,hi,hb=>by
  have h1:=flat_setAd xs i x (by simp at hi;omega) (by simpa using hb)
  rw[List.flatMap_cons,List.set_cons_succ,List.flatMap_cons,←h1]
  have e2:(i+1)*3+2=(i*3+2)+1+1+1:=by omega
  rw[e2]
  rfl

theorem RowC.setAd{B:Nat}{w:World}{g n cap:Nat}{xs:List Ad}(h:RowC B 83 3 adE w (.slice (some ⟨g,0,none⟩) n cap) xs)(i:Nat)(x:Ad)(hi:i<xs.length)(hb:xs[i].b=x.b):
  RowC B 83 3 adE (w.setCell ⟨g,i*3+2,none⟩ (.slice x.a x.n x.c)) (.slice (some ⟨g,0,none⟩) n cap) (xs.set i x):=by
 have hl:=h.len
 subst hl
 have h1:=(World.ownsRow.stored h (i*3+2) (.slice x.a x.n x.c)).1
 rw[flat_setAd xs i x hi (by rw[List.getElem?_eq_getElem hi,←hb];rfl)]at h1
 unfold RowC
 rw[List.length_set]
 exact h1

def newA(As:List Ad)(b:Bx):Bool:=match As.getLast? with
 | none=>true
 | some x=>!decide (x.b=b)

theorem newA_nil(b:Bx):newA [] b=true:=rfl
theorem newA_last(As:List Ad)(b:Bx)(m:Nat)(hm:As.length=m+1):newA As b = !decide ((As[m]'(by omega)).b=b):=by
 unfold newA
 have hne:As≠[]:=fun e=>by rw[e]at hm;simp at hm
 rw[List.getLast?_eq_some_getLast hne,List.getLast_eq_getElem]
 simp only[hm,Nat.add_sub_cancel]

theorem DmAt.entry{B:Nat}{w w':World}{g n cap:Nat}{As:List Ad}{x:Ad}{a':Option Addr}{n' c':Nat}{e:Ent}(h:DmAt B w (.slice (some ⟨g,0,none⟩) n cap) (As++[x]))(hr:RowC B 108 2 enE2 w' (.slice a' n' c') (x.es++[e]))(hk:Kept (fun k=>(adV x).ownBlock=some k) w w')(hb:∀j,(Value.slice a' n' c').ownBlock=some j→(adV x).ownBlock=some j∨w.heap.size≤j):
  DmAt B (w'.setCell ⟨g,As.length*3+2,none⟩ (.slice a' n' c')) (.slice (some ⟨g,0,none⟩) n cap) (As++[⟨x.b,a',n',c',x.es++[e]⟩]):=by
 have hx:x∈As++[x]:=List.mem_append.2 (.inr (List.mem_singleton.2 rfl))
 have hgx:∀y∈As++[x],∀j,(adV y).ownBlock=some j→j≠g:=fun y hy j e1 e2=>rows_apart (h.ent y hy) h.row (by decide) j e1 (by rw[e2];rfl)
 have hrow:RowC B 83 3 adE w' (.slice (some ⟨g,0,none⟩) n cap) (As++[x]):=h.row.kept hk (fun k e1 e2=>hgx x hx k e2 (by simpa[Value.ownBlock]using e1.symm))
 have hset:=hrow.setAd As.length ⟨x.b,a',n',c',x.es++[e]⟩ (by simp) (by simp)
 have es:(As++[x]).set As.length ⟨x.b,a',n',c',x.es++[e]⟩=As++[⟨x.b,a',n',c',x.es++[e]⟩]:=by rw[List.set_append_right _ _ (Nat.le_refl _),Nat.sub_self,List.set_cons_zero]
 rw[es]at hset
 have hgl:g<w.heap.size:=h.row.lt (j:=g) rfl
 have hks:Kept (·=g) w' (w'.setCell ⟨g,As.length*3+2,none⟩ (.slice a' n' c')):=(Kept.refl (·=g) w').setCell _ _ (.inl rfl)
 have hap:=List.pairwise_append.1 h.apt
 refine⟨hset,fun y hy=>?_,List.pairwise_append.2 ⟨hap.1,List.pairwise_singleton _ _,fun y hy z hz k e1 e2=>?_⟩⟩
 ·rcases List.mem_append.1 hy with e1 | e1
  ·have hy2:y∈As++[x]:=List.mem_append.2 (.inl e1)
   exact((h.ent y hy2).kept hk (fun k e2 e3=>hap.2.2 y e1 x (List.mem_singleton.2 rfl) k e2 e3)).kept hks (fun k e2=>hgx y hy2 k e2)
  ·rw[List.mem_singleton.1 e1]
   refine hr.kept hks (fun k e2 e3=>?_)
   rcases hb k e2 with q | q
   ·exact hgx x hx k q e3
   ·omega
 ·rw[List.mem_singleton.1 hz]at e2
  have hy2:y∈As++[x]:=List.mem_append.2 (.inl hy)
  rcases hb k e2 with q | q
  ·exact hap.2.2 y hy x (List.mem_singleton.2 rfl) k e1 q
  ·have:=(h.ent y hy2).lt e1
   omega

theorem DmAt.arch{B:Nat}{w w':World}{v v':Value}{As:List Ad}{b:Bx}(h:DmAt B w v As)(hr:RowC B 83 3 adE w' v' (As++[⟨b,none,0,0,[]⟩]))(hk:Kept (fun k=>v.ownBlock=some k) w w'):DmAt B w' v' (As++[⟨b,none,0,0,[]⟩]):=by
 refine⟨hr,fun y hy=>?_,List.pairwise_append.2 ⟨h.apt,List.pairwise_singleton _ _,fun y hy z hz k e1 e2=>?_⟩⟩
 ·rcases List.mem_append.1 hy with e1 | e1
  ·exact(h.ent y e1).kept hk (fun k e2=>rows_apart (h.ent y e1) h.row (by decide) k e2)
  ·rw[List.mem_singleton.1 e1];exact RowC.nil
 ·rw[List.mem_singleton.1 hz]at e2
  cases e2

def DmL(B:Nat)(w:World)(v:Value)(As:List Ad)(b:Bx)(As':List Ad)(x:Ad):Prop:=DmAt B w v (As'++[x])∧x.b=b∧((As=As'++[x])∨(As=As'∧x.es=[]∧∀D0 y,adD As=D0++[y]→¬y.1=b))

theorem DmL.dm{B:Nat}{w:World}{v:Value}{As As':List Ad}{b:Bx}{x:Ad}(h:DmL B w v As b As' x){vis:Bx→Nm→Option ByteArray}(hd:IsDm vis (adD As)){n:Nm}{d:ByteArray}(hlt:∀b' n',vis b' n'≠none→ltB b' b∨(b'=b∧bysN n'<bysN n))(a':Option Addr)(n' c':Nat):IsDm (vis1 vis b n d) (adD (As'++[⟨x.b,a',n',c',x.es++[(n,d)]⟩])):=by
 obtain⟨_,hb,h3⟩:=h
 have hD:adD (As'++[⟨x.b,a',n',c',x.es++[(n,d)]⟩])=adD As'++[(b,x.es++[(n,d)])]:=by unfold adD;rw[List.map_append,←hb];rfl
 rw[hD]
 rcases h3 with e | ⟨e1,e2,e3⟩
 ·have hD2:adD As=adD As'++[(b,x.es)]:=by rw[e];unfold adD;rw[List.map_append,←hb];rfl
  rw[hD2]at hd
  exact hd.old hlt
 ·rw[e2,←e1]
  exact hd.fresh hlt e3

theorem newA_no{As:List Ad}{b:Bx}(h:newA As b=true):∀D0 y,adD As=D0++[y]→¬y.1=b:=fun D0 y e e2=>by
 unfold newA at h
 have hl:(adD As).getLast? = some y:=by rw[e];simp
 unfold adD at hl
 rw[List.getLast?_map]at hl
 cases hg:As.getLast? with
 | none=>rw[hg]at hl;cases hl
 | some x=>
  rw[hg]at hl h
  simp only[Option.map_some,Option.some.injEq]at hl
  subst hl
  simp at h
  exact h e2

theorem newA_yes{As:List Ad}{b:Bx}(h:newA As b=false):∃As' x,As=As'++[x]∧x.b=b:=by
 unfold newA at h
 cases hg:As.getLast? with
 | none=>rw[hg]at h;cases h
 | some x=>
  rw[hg]at h
  simp at h
  have hne:As≠[]:=fun e=>by rw[e]at hg;cases hg
  refine⟨As.dropLast,x,?_,h⟩
  rw[List.getLast?_eq_some_getLast hne]at hg
  injection hg with hg
  rw[←hg,List.dropLast_concat_getLast]

end Go.Proofs.YtcfociogljhbiaaGreatDoor
