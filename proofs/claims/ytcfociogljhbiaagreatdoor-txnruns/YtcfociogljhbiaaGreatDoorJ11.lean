/-
  Of the proof: parts VaI, VaJ, VaK, TzL.
-/
import Derived.Deep.RegionHeld3
import Derived.Test.YtcfociogljhbiaaGreatDoorJ8
import Derived.Test.YtcfociogljhbiaaGreatDoorJ9
import Derived.Test.YtcfociogljhbiaaGreatDoorJ10
import Derived.Test.YtcfociogljhbiaaGreatDoorJ7

namespace Go.Proofs.YtcfociogljhbiaaGreatDoor
open Go.RowKit Go.Maps Go.Sort Go.Shelf Go.Lib

def kT(k:Ke):List UInt8:=k.1.tn.data.toList
def kA(k:Ke):List UInt8:=k.1.ar.data.toList
def kE(k:Ke):List UInt8:=k.2.s.data.toList

def cmpK(a b:Ke):Int:=if compareBytes (kT a) (kT b)=0 then(if compareBytes (kA a) (kA b)=0 then compareBytes (kE a) (kE b)else compareBytes (kA a) (kA b))else compareBytes (kT a) (kT b)

theorem vcompare_any(a b:ByteArray)(w:World):Calls Tryz.prog 119 #[.string a,.string b] w fun e w'=>e=.returned (.int .i64 (compareBytes a.data.toList b.data.toList))∧w'=w:=Any.strings_Compare Tryz.cmp13 a b w

set_option maxHeartbeats 1000000 in
theorem or3_any(w:World)(g:Nat)(x y z:Int)(h0:w.cell? ⟨g,0,none⟩=some (.int .i64 x))(h1:w.cell? ⟨g,1,none⟩=some (.int .i64 y))(h2:w.cell? ⟨g,2,none⟩=some (.int .i64 z)):
  Calls Tryz.prog 118 #[.slice (some ⟨g,0,none⟩) 3 3] w fun e w'=>e=.returned (.int .i64 (if x=0 then(if y=0 then z else y)else x))∧w'=w:=by
 by_cases hx:x=0
 ·have bx:(x != 0)=false:=by simp[hx]
  rw[if_pos hx]
  by_cases hy:y=0
  ·have by':(y != 0)=false:=by simp[hy]
   rw[if_pos hy]
   by_cases hz:z=0
   ·have bz:(z != 0)=false:=by simp[hz]
    have HZ:Hid (z=0):=hz
    clear hx hy hz
    go_enter Tryz.func118,Tryz.ntmps118
    go_wp2_with fail
    refine wp_loop_rounds 4 ?_
    rw[rounds_succ]
    go_wp2_with fail
    rw[rounds_succ]
    go_wp2_with fail
    rw[rounds_succ]
    go_wp2_with fail
    rw[rounds_succ]
    go_wp2_with fail
    go_ret
    exact⟨by rw[HZ.out];rfl,rfl⟩
   ·have bz:(z != 0)=true:=by simp[hz]
    clear hx hy hz
    go_enter Tryz.func118,Tryz.ntmps118
    go_wp2_with fail
    refine wp_loop_rounds 4 ?_
    rw[rounds_succ]
    go_wp2_with fail
    rw[rounds_succ]
    go_wp2_with fail
    rw[rounds_succ]
    go_wp2_with fail
    go_ret
    exact⟨rfl,rfl⟩
  ·have by':(y != 0)=true:=by simp[hy]
   rw[if_neg hy]
   clear hx hy
   go_enter Tryz.func118,Tryz.ntmps118
   go_wp2_with fail
   refine wp_loop_rounds 4 ?_
   rw[rounds_succ]
   go_wp2_with fail
   rw[rounds_succ]
   go_wp2_with fail
   go_ret
   exact⟨rfl,rfl⟩
 ·have bx:(x != 0)=true:=by simp[hx]
  rw[if_neg hx]
  clear hx
  go_enter Tryz.func118,Tryz.ntmps118
  go_wp2_with fail
  refine wp_loop_rounds 4 ?_
  rw[rounds_succ]
  go_wp2_with fail
  go_ret
  exact⟨rfl,rfl⟩

set_option maxRecDepth 100000 in
set_option maxHeartbeats 1000000 in
theorem vorder_any(W:World)(x y:Ke):Calls Tryz.prog 104 #[.agg #[.string x.1.tn,.string x.1.ar,.string x.2.s],.agg #[.string y.1.tn,.string y.1.ar,.string y.2.s]] W fun e w'=>e=.returned (.int .i64 (cmpK x y))∧Gr W w':=by
 obtain⟨wA,hwA⟩:∃V,V=(W.alloc (.cells #[.string x.1.tn,.string x.1.ar,.string x.2.s] 63)).alloc (.cells #[.string y.1.tn,.string y.1.ar,.string y.2.s] 63):=⟨_,rfl⟩
 have HG:Hid (Gr W wA):=hid (by rw[hwA];exact((Gr.refl W).alloc _).alloc _)
 obtain⟨xb,hxb⟩:∃z,z=W.heap.size:=⟨_,rfl⟩
 have B1:Blk wA xb #[.string x.1.tn,.string x.1.ar,.string x.2.s] 63:=by rw[hwA,hxb];exact(Blk.new W _ _).kept (F:=fun _=>False) ((Kept.refl _ _).alloc _) (fun f=>f)
 have B2:Blk wA (xb+1) #[.string y.1.tn,.string y.1.ar,.string y.2.s] 63:=by
  rw[hwA,hxb]
  have:=Blk.new (W.alloc (.cells #[.string x.1.tn,.string x.1.ar,.string x.2.s] 63)) #[.string y.1.tn,.string y.1.ar,.string y.2.s] 63
  rwa [World.size_alloc]at this
 have HOR:Hid (∀w:World,Calls Tryz.prog 118 #[.slice (some ⟨w.heap.size,0,none⟩) 3 3] (w.alloc (.cells #[.int .i64 (compareBytes x.1.tn.data.toList y.1.tn.data.toList),.int .i64 (compareBytes x.1.ar.data.toList y.1.ar.data.toList),.int .i64 (compareBytes x.2.s.data.toList y.2.s.data.toList)] 3)).drew fun e w'=>e=.returned (.int .i64 (cmpK x y))∧Gr w w'):=hid (fun w=>(or3_any _ _ _ _ _ ((Blk.new w _ _).cell 0) ((Blk.new w _ _).cell 1) ((Blk.new w _ _).cell 2)).mono (fun e w' h=>⟨h.1,by rw[h.2];exact((Gr.refl w).alloc _).drew⟩))
 have a0:=B1.cell 0
 have a1:=B1.cell 1
 have a2:=B1.cell 2
 have b0:=B2.cell 0
 have b1:=B2.cell 1
 have b2:=B2.cell 2
 simp at a0 a1 a2 b0 b1 b2
 clear B1 B2
 go_enter Tryz.func104,Tryz.ntmps104
 go_upto_region 1 with fail
 rw[←hwA,←hxb]
 clear hwA hxb
 go_region_held3 (fun w'=>w'.cell? ⟨xb,0,none⟩=some (.string x.1.tn)∧w'.cell? ⟨xb,1,none⟩=some (.string x.1.ar)∧w'.cell? ⟨xb,2,none⟩=some (.string x.2.s)∧w'.cell? ⟨xb+1,0,none⟩=some (.string y.1.tn)∧w'.cell? ⟨xb+1,1,none⟩=some (.string y.1.ar)∧w'.cell? ⟨xb+1,2,none⟩=some (.string y.2.s))
  (first
   | (go_split_ands;exact⟨hg3.same.cell ((show Same _ _ from(Kept.refl _ _).drew).cell (by assumption) (fun f=>f)) (fun f=>f),hg3.same.cell (by assumption) (fun f=>f),hg3.same.cell (by assumption) (fun f=>f),hg3.same.cell (by assumption) (fun f=>f),hg3.same.cell (by assumption) (fun f=>f),hg3.same.cell (by assumption) (fun f=>f)⟩)
   | go_keep
   | (go_split_ands;exact⟨(show Same _ _ from(Kept.refl _ _).alloc _).cell (by assumption) (fun f=>f),(show Same _ _ from(Kept.refl _ _).alloc _).cell (by assumption) (fun f=>f),(show Same _ _ from(Kept.refl _ _).alloc _).cell (by assumption) (fun f=>f),(show Same _ _ from(Kept.refl _ _).alloc _).cell (by assumption) (fun f=>f),(show Same _ _ from(Kept.refl _ _).alloc _).cell (by assumption) (fun f=>f),(show Same _ _ from(Kept.refl _ _).alloc _).cell (by assumption) (fun f=>f)⟩))
  (first
   | (go_at_call 119;refine(vcompare_any _ _ _).mono ?_;rintro e w2 ⟨rfl,rfl⟩)
   | (go_at_call 118;refine(HOR.out _).mono ?_;rintro e w3 ⟨rfl,hg3⟩))
 go_wp2_with fail
 go_ret
 exact⟨rfl,HG.out.trans hg3⟩

end Go.Proofs.YtcfociogljhbiaaGreatDoor

namespace Go.Proofs.YtcfociogljhbiaaGreatDoor
open Go.RowKit Go.Maps Go.Sort Go.Shelf Go.Lib

def ltK(a b:Ke):Prop:=kT a<kT b∨(kT a=kT b∧(kA a<kA b∨(kA a=kA b∧kE a<kE b)))

theorem cmpK_lt(a b:Ke):cmpK a b<0↔ltK a b:=by
 unfold cmpK ltK
 by_cases h:compareBytes (kT a) (kT b)=0
 ·rw[if_pos h]
  have h2:=(cmp_zero _ _).1 h
  rw[h2]
  by_cases h3:compareBytes (kA a) (kA b)=0
  ·rw[if_pos h3,cmp_lt]
   have h4:=(cmp_zero _ _).1 h3
   rw[h4]
   constructor
   ·intro e;exact .inr ⟨rfl,.inr ⟨rfl,e⟩⟩
   ·rintro(e | ⟨_,e | ⟨_,e⟩⟩)
    ·exact absurd e (List.lt_irrefl _)
    ·exact absurd e (List.lt_irrefl _)
    ·exact e
  ·rw[if_neg h3,cmp_lt]
   constructor
   ·intro e;exact .inr ⟨rfl,.inl e⟩
   ·rintro(e | ⟨_,e | ⟨e,_⟩⟩)
    ·exact absurd e (List.lt_irrefl _)
    ·exact e
    ·exact absurd ((cmp_zero _ _).2 e) h3
 ·rw[if_neg h,cmp_lt]
  constructor
  ·intro e;exact .inl e
  ·rintro(e | e)
   ·exact e
   ·exact absurd ((cmp_zero _ _).2 e.1) h

theorem ltK_irr(a:Ke):¬ltK a a:=fun h=>by
 rcases h with h | ⟨_,h | ⟨_,h⟩⟩<;>exact List.lt_irrefl _ h

theorem ltK_trans{a b c:Ke}(h:ltK a b)(k:ltK b c):ltK a c:=by
 rcases h with h | ⟨h,h'⟩<;>rcases k with k | ⟨k,k'⟩
 ·exact .inl (List.lt_trans h k)
 ·exact .inl (by rw[←k];exact h)
 ·exact .inl (by rw[h];exact k)
 ·refine .inr ⟨h.trans k,?_⟩
  rcases h' with h' | ⟨h',h''⟩<;>rcases k' with k' | ⟨k',k''⟩
  ·exact .inl (List.lt_trans h' k')
  ·exact .inl (by rw[←k'];exact h')
  ·exact .inl (by rw[h'];exact k')
  ·exact .inr ⟨h'.trans k',List.lt_trans h'' k''⟩

theorem ltK_tri(a b:Ke):ltK a b∨a=b∨ltK b a:=by
 rcases list_tri (kT a) (kT b)with h | h | h
 ·exact .inl (.inl h)
 ·rcases list_tri (kA a) (kA b)with k | k | k
  ·exact .inl (.inr ⟨h,.inl k⟩)
  ·rcases list_tri (kE a) (kE b)with m | m | m
   ·exact .inl (.inr ⟨h,.inr ⟨k,m⟩⟩)
   ·exact .inr (.inl (Prod.ext (Bx.ext' (bytes_inj h) (bytes_inj k)) (Nm.ext' (bytes_inj m))))
   ·exact .inr (.inr (.inr ⟨h.symm,.inr ⟨k.symm,m⟩⟩))
  ·exact .inr (.inr (.inr ⟨h.symm,.inl k⟩))
 ·exact .inr (.inr (.inl h))

def cmpW(a b:Wr):Int:=cmpK (keO a) (keO b)
def ltW(a b:Wr):Prop:=ltK (keO a) (keO b)

theorem swoW:SWO (ltOf cmpW):=by
 have hl:∀a b,ltOf cmpW a b=true↔ltW a b:=fun a b=>by unfold ltOf;rw[decide_eq_true_eq];exact cmpK_lt _ _
 have hf:∀a b,ltOf cmpW a b=false↔¬ltW a b:=fun a b=>by rw[←hl];simp
 refine⟨fun x=>(hf x x).2 (ltK_irr _),fun x y z h k=>(hl x z).2 (ltK_trans ((hl x y).1 h) ((hl y z).1 k)),fun x y z h k=>(hf x z).2 (fun e=>?_)⟩
 have h1:=(hf x y).1 h
 have h2:=(hf y z).1 k
 rcases ltK_tri (keO x) (keO y)with q | q | q
 ·exact h1 q
 ·unfold ltW at e h2;rw[q]at e;exact h2 e
 ·exact h2 (ltK_trans q e)

set_option maxHeartbeats 1000000 in
theorem vcloW_any(W:World)(x y:Wr):Calls Tryz.prog 103 #[.agg #[.string x.b.tn,.string x.b.ar,.string x.n.s,.bool x.there,.string x.data],.agg #[.string y.b.tn,.string y.b.ar,.string y.n.s,.bool y.there,.string y.data]] W fun e w'=>e=.returned (.int .i64 (cmpW x y))∧Gr W w':=by
 have HO:Hid (∀w',Calls Tryz.prog 104 #[.agg #[.string x.b.tn,.string x.b.ar,.string x.n.s],.agg #[.string y.b.tn,.string y.b.ar,.string y.n.s]] w' fun e w2=>e=.returned (.int .i64 (cmpW x y))∧Gr w' w2):=hid (fun w'=>vorder_any w' (keO x) (keO y))
 go_enter Tryz.func103,Tryz.ntmps103
 go_wp2_with fail
 refine(HO.out _).mono ?_
 rintro e w2 ⟨rfl,hg⟩
 go_wp2_with fail
 go_ret
 exact⟨rfl,(((Gr.refl W).alloc _).alloc _).trans hg⟩

theorem RowC.ofCellsV{α:Type}{B:Nat}{t k:Nat}{enc:α→List Value}(ok:EncOk enc k){w:World}{g cap:Nat}{xs:List α}{cur:Array Value}(h:w.heap[g]? = some (.cells cur t (0,0)))(hs:cur.size=cap*k)(hB:B≤g)(hl:xs.length≤cap)(hm:cap≤maxLen)(hc:∀j,j<xs.length*k→cur[j]? = (xs.flatMap enc)[j]?):
  RowC B t k enc w (.slice (some ⟨g,0,none⟩) xs.length cap) xs:=by
 refine⟨by rw[flat_length ok],.inr ⟨g,cap,cur,rfl,hB,h,hl,hm,hs,?_⟩⟩
 apply List.ext_getElem?
 intro j
 by_cases hj:j<xs.length*k
 ·rw[List.getElem?_take,if_pos hj,←hc j hj]
  simp
 ·rw[List.getElem?_take,if_neg hj,List.getElem?_eq_none (by rw[flat_length ok];omega)]

theorem cell_rawV{w:World}{g:Nat}{cur:Array Value}{t:TypeId}(h:w.heap[g]? = some (.cells cur t (0,0)))(j:Nat):w.cell? ⟨g,j,none⟩=cur[j]?:=Blk.cell h j

theorem holdsW_row{w:World}{B g n cap:Nat}{xs:List Wr}(h:RowC B 65 5 wrE w (.slice (some ⟨g,0,none⟩) n cap) xs):HoldsK wrE 5 w g 0 xs.toArray:=by
 intro t ht
 rw[size_flatK]at ht
 have ht2:t<xs.length*5:=by simpa using ht
 rw[get_flatK _ _ _ _ ht]
 have h1:=RowC.cell wrE_ok h (t / 5) (t % 5) (by omega) (Nat.mod_lt _ (by decide))
 rw[show t / 5*5+t % 5=t by omega]at h1
 have e1:xs.toArray[t / 5]! = xs[t / 5]'(by omega):=by
  rw[getElem!_pos xs.toArray (t / 5) (by simp;omega)]
  simp
 rw[e1,Nat.zero_add]
 refine⟨?_,RowC.frozen h t⟩
 rw[h1]
 have h3:t % 5<(wrE (xs[t / 5]'(by omega))).length:=Nat.mod_lt _ (by decide)
 rw[List.getElem?_eq_getElem h3]
 simp[h3]

theorem heap_sortW{w:World}{g n:Nat}{os:Array Obj}{cur:Array Value}{e:TypeId}(d:Array Wr)(hb:w.heap[g]? = some (.cells cur e (0,0))):
  ∃cur':Array Value,(sortWorldK wrE 5 w g 0 n d os).heap[g]? = some (.cells cur' e (0,0))∧cur'.size=cur.size:=by
 have hg:g<w.heap.size:=(Array.getElem?_eq_some_iff.1 hb).1
 unfold sortWorldK
 rw[heap_grow_old _ _ (by simpa[putRowK,putRow,mapBlock,Sort.ahead]using hg)]
 refine⟨putCells id 0 (flatK wrE 5 d) cur,?_,by simp[putCells]⟩
 simp[putRowK,putRow,mapBlock,Sort.ahead,Array.getElem?_modify,hb,onCells]

theorem kept_sortW{w:World}{g n:Nat}{os:Array Obj}(d:Array Wr):Kept (·=g) w (sortWorldK wrE 5 w g 0 n d os):=by
 unfold sortWorldK
 refine⟨rfl,rfl,rfl,by simp[putRowK,putRow,mapBlock,Sort.ahead],fun k hk hne=>?_⟩
 rw[heap_grow_old _ _ (by simpa[putRowK,putRow,mapBlock,Sort.ahead]using hk)]
 have:g≠k:=fun e=>hne e.symm
 simp[putRowK,putRow,mapBlock,Sort.ahead,Array.getElem?_modify,this]

theorem sortW_any(w:World)(B:Nat)(v:Value)(xs:List Wr)(h:RowC B 65 5 wrE w v xs)(hl:xs.length≤100000):
  Calls Tryz.prog 138 #[v,.func (.func 103) #[] #[]] w fun e w'=>e=.returned (.tuple #[])∧∃ys,ys.Perm xs∧ys.Pairwise (fun a b=>¬ltW b a)∧RowC B 65 5 wrE w' v ys∧Kept (fun k=>v.ownBlock=some k) w w':=by
 rcases h.2 with⟨hv,h0⟩ | ⟨g,cap,cur,hv,hb,hg,hn,hc,hcs,ht⟩
 ·subst hv
  have hz:xs=[]:=List.eq_nil_of_length_eq_zero h0
  subst hz
  refine(AnyF.slices_SortFunc_none Tryz.sortf13 none 0 _ w).mono (fun e w' hh=>?_)
  obtain⟨rfl,rfl⟩:=hh
  exact⟨rfl,[],List.Perm.refl _,List.Pairwise.nil,RowC.nil,Kept.refl _ _⟩
 ·subst hv
  have hH:=holdsW_row h
  have hcmp:CmpLays Tryz.prog 103 #[] wrE 5 cmpW g 0 xs.toArray.size w:=fun m os dk hd x y=>(vcloW_any _ x y).mono (fun e w' hh=>hh)
  have hS:=AnyQ.slices_SortFunc Tryz.sortf13 5 (fun w=>by kernel_rfl) (fun w=>by kernel_rfl) wrE (fun _=>rfl) wrE_ok.one cmpW swoW 103 #[] g 0 cap xs.toArray w (enters_of Tryz.func103 (by kernel_rfl) rfl) hcmp hH (Array.getElem?_eq_some_iff.1 hg).1 (by simp;omega)
  have hS2:Calls Tryz.prog 138 #[.slice (some ⟨g,0,none⟩) xs.length cap,.func (.func 103) #[] #[]] w _:=hS
  refine hS2.mono (fun e w' hh=>?_)
  obtain⟨rfl,d',n,os,hp,hs,rfl⟩:=hh
  have hsz:d'.size=xs.length:=by rw[hp.1];simp
  have hperm:d'.toList.Perm xs:=by
   have h1:=hp.2.2
   have e1:d'.extract 0 xs.toArray.size=d':=by rw[show xs.toArray.size=d'.size by simp[hsz]];simp
   rw[e1]at h1
   simpa using h1
  refine⟨rfl,d'.toList,hperm,?_,?_,(kept_sortW d').mono (fun k _ e=>by rw[e];rfl)⟩
  ·rw[List.pairwise_iff_getElem]
   intro i j hi hj hij
   have h1:=hs i j (Nat.zero_le _) hij (by simpa[hsz]using hj)
   rw[getElem!_pos d' j (by simpa using hj),getElem!_pos d' i (by simpa using hi)]at h1
   intro e
   have h2:ltOf cmpW d'[j] d'[i]=true:=by unfold ltOf;rw[decide_eq_true_eq];exact(cmpK_lt _ _).2 (by simpa[ltW]using e)
   rw[h2]at h1
   cases h1
  ·obtain⟨cur',hc',hcz⟩:=heap_sortW (n:=n) (os:=os) d' hg
   have hH2:HoldsK wrE 5 (sortWorldK wrE 5 w g 0 n d' os) g 0 d':=by
    unfold sortWorldK
    exact holdsK_grow wrE 5 _ _ _ _ _ (by simpa[putRowK,putRow,mapBlock,Sort.ahead] using(Array.getElem?_eq_some_iff.1 hg).1) (holdsK_putRowK wrE 5 _ _ _ xs.toArray d' (holdsK_ahead wrE 5 _ _ _ _ _ hH) (by simp[hsz]))
   have hr:=RowC.ofCellsV (B:=B) wrE_ok (xs:=d'.toList) (cap:=cap) hc' (by rw[hcz,hcs]) hb (by simp;omega) hc (fun j hj=>by
    have hj2:j<d'.size*5:=by simpa using hj
    have h1:=(hH2.cell (i:=j / 5) (c:=j % 5) (by omega) (Nat.mod_lt _ (by decide))).1
    rw[show 0+j / 5*5+j % 5=j by omega,cell_rawV hc']at h1
    have h2:=flat_get wrE_ok d'.toList (j / 5) (j % 5) (by simp;omega) (Nat.mod_lt _ (by decide))
    rw[show j / 5*5+j % 5=j by omega]at h2
    rw[h1,h2]
    have h3:j % 5<(wrE d'[j / 5]!).length:=Nat.mod_lt _ (by decide)
    have h4:d'.toList[j / 5]'(by simp;omega)=d'[j / 5]!:=by rw[getElem!_pos d' (j / 5) (by omega)];simp
    rw[h4,List.getElem?_eq_getElem h3]
    simp[h3])
   rw[show d'.toList.length=xs.length by simp[hsz]]at hr
   exact hr

theorem sortedW(L:List (Ke×Wr))(hk0:∀x∈L,keO x.2=x.1)(mb:Nat)(w:World)(hL:L.length≤100000)(hown:MpG 63 wrR kK wrD w mb L):
  Calls Tryz.prog 101 #[.func (.func 139) #[] #[.pointer (some ⟨w.heap.size,0,none⟩)],.func (.func 103) #[] #[]] (w.alloc (.cells #[.map (some mb)] 167)) fun e w'=>∃v xs,e=.returned v∧xs.Pairwise ltW∧(∀r,r∈xs↔getG (keO r) L=some r)∧RowC w.heap.size 65 5 wrE w' v xs∧Same w w'∧xs.length≤L.length:=by
 have HK:=collectW L hk0 mb w hL hown
 go_enter Tryz.func101,Tryz.ntmps101
 go_wp2_with fail
 refine HK.mono ?_
 rintro e w1 ⟨v,xs,rfl,hkeys,hrow,hk1⟩
 clear HK
 have hrow0:RowC w.heap.size 65 5 wrE w1 v xs:=hrow.base (by omega)
 have hlen:xs.length≤100000:=by have:=hkeys.2.2;omega
 have HS:=sortW_any w1 w.heap.size v xs hrow0 hlen
 have HK:Hid (ValsAre L xs∧Same w w1∧RowC w.heap.size 65 5 wrE w1 v xs):=hid ⟨hkeys,hk1,hrow0⟩
 obtain⟨a0,c0,hv,_⟩:=hrow0.shape
 obtain⟨l0,hl0⟩:∃x,x=xs.length:=⟨_,rfl⟩
 rw[←hl0]at hv
 subst hv
 clear hkeys hrow hk1 hrow0 hlen hl0 hown
 go_wp2_with fail
 refine HS.mono ?_
 rintro e w2 ⟨rfl,ys,hp,hs,hr2,hk2⟩
 have HF:Hid (ys.Pairwise ltW∧(∀r,r∈ys↔getG (keO r) L=some r)∧RowC w.heap.size 65 5 wrE w2 (.slice a0 l0 c0) ys∧Same w w2∧ys.length≤L.length):=hid (by
  refine⟨?_,fun b=>by rw[hp.mem_iff];exact HK.out.1.2.1 b,hr2,Kept.trans HK.out.2.1 hk2 (fun _ _ f=>f) (fun k hlt e=>by have:=HK.out.2.2.ge e;omega),by rw[hp.length_eq];exact HK.out.1.2.2⟩
  have hn:(ys.map keO).Nodup:=(hp.map keO).nodup_iff.2 HK.out.1.1
  refine(hs.and (List.pairwise_map.1 hn)).imp (fun {a b} h=>?_)
  rcases ltK_tri (keO a) (keO b)with q | q | q
  ·exact q
  ·exact absurd q h.2
  ·exact absurd q h.1)
 clear HS hp hs hr2 hk2
 go_wp2_with fail
 go_ret
 exact⟨_,ys,rfl,HF.out⟩

set_option maxHeartbeats 400000 in
theorem values_any(w:World)(mb:Nat):Calls Tryz.prog 102 #[.map (some mb)] w fun e w'=>e=.returned (.func (.func 139) #[] #[.pointer (some ⟨w.heap.size,0,none⟩)])∧w'=w.alloc (.cells #[.map (some mb)] 167):=by
 go_enter Tryz.func102,Tryz.ntmps102
 go_wp2_with fail
 go_ret
 exact⟨rfl,rfl⟩

set_option maxHeartbeats 1000000 in
theorem vwrites_any{K:Nat}{w:World}{p mr ml ms:Nat}{s:Vst}(h:Vk K w p mr ml ms s):Calls Tryz.prog 63 #[.pointer (some ⟨p,0,none⟩)] w fun e w'=>∃v xs,e=.returned v∧xs.Pairwise ltW∧(∀r,r∈xs↔getG (keO r) s.st=some r)∧RowC w.heap.size 65 5 wrE w' v xs∧Same w w'∧xs.length≤100000:=by
 have HS:=sortedW s.st h.own ms w (Nat.le_trans h.lens.2.2 h.big) h.sm
 have HV:=values_any w ms
 have p3:w.cell? ⟨p,3,none⟩=some (.map (some ms)):=h.blk.cell 3
 have HL:Hid (s.st.length≤100000):=hid (Nat.le_trans h.lens.2.2 h.big)
 clear h
 go_enter Tryz.func63,Tryz.ntmps63
 go_wp2_with fail
 refine HV.mono ?_
 rintro e w1 ⟨rfl,rfl⟩
 go_wp2_with fail
 refine HS.mono ?_
 rintro e w2 ⟨v,xs,rfl,h1,h2,h3,h4,h5⟩
 have HF:Hid (xs.Pairwise ltW∧(∀r,r∈xs↔getG (keO r) s.st=some r)∧RowC w.heap.size 65 5 wrE w2 v xs∧Same w w2∧xs.length≤100000):=hid ⟨h1,h2,h3,h4,Nat.le_trans h5 HL.out⟩
 obtain⟨a0,c0,hv,_⟩:=h3.shape
 obtain⟨l0,hl0⟩:∃x,x=xs.length:=⟨_,rfl⟩
 rw[←hl0]at hv
 subst hv
 clear h1 h2 h3 h4 h5 HV HS hl0 p3
 go_wp2_with fail
 go_ret
 exact⟨_,xs,rfl,HF.out⟩

end Go.Proofs.YtcfociogljhbiaaGreatDoor

namespace Go.Proofs.YtcfociogljhbiaaGreatDoor
open Go.RowKit Go.Maps Go.Sort Go.Shelf

structure Mv where
 t:Int
 rd:Ke→Bool
 ls:Bx→Bool
 st:Ke→Option Wr
 emp:Bool

def absV(s:Vst):Mv:=⟨s.t,fun k=>(getG k s.rd).isSome,fun b=>(getG b s.ls).isSome,fun k=>getG k s.st,s.st.isEmpty⟩

def mv0(t:Int):Mv:=⟨t,fun _=>false,fun _=>false,fun _=>none,true⟩
def redM(M:Mv)(k:Ke):Mv:={M with rd:=fun x=>if k=x then true else M.rd x}
def lsM(M:Mv)(b:Bx):Mv:={M with ls:=fun x=>if b=x then true else M.ls x}
def stM(M:Mv)(r:Wr):Mv:={M with st:=fun x=>if keO r=x then some r else M.st x,emp:=false}

def sawM(M:Mv)(k:Ke):Bool:=M.rd k || M.ls k.1
def claM(M:Mv)(t:Int)(ws:List Wr):Bool:=decide (M.t<t) && ws.any (fun r=>sawM M (keO r))
def chkM(M:Mv)(cs:List Cm):Int×Int:=if risC 0 cs then(if M.emp then(-1,0) else(ixL (fun c=>claM M c.t c.ws) cs,0)) else(-1,130)
def StW(M:Mv)(xs:List Wr):Prop:=xs.Pairwise ltW∧∀r,r∈xs↔M.st (keO r)=some r

def Vx(K:Nat)(w:World)(p:Nat)(J:Nat→Prop)(M:Mv):Prop:=∃mr ml ms s,Vk K w p mr ml ms s∧(∀k,J k↔k=p∨k=mr∨k=ml∨k=ms)∧M=absV s

section
variable {K:Nat} {w:World} {p:Nat} {J:Nat→Prop} {M:Mv}

theorem Vx.kept(h:Vx K w p J M){F:Nat→Prop}{w':World}(hk:Kept F w w')(hF:∀k,J k→¬F k):Vx K w' p J M:=by
 obtain⟨mr,ml,ms,s,h1,h2,h3⟩:=h
 exact⟨mr,ml,ms,s,h1.kept hk (hF _ ((h2 _).2 (.inl rfl))) (hF _ ((h2 _).2 (.inr (.inl rfl)))) (hF _ ((h2 _).2 (.inr (.inr (.inl rfl))))) (hF _ ((h2 _).2 (.inr (.inr (.inr rfl))))),h2,h3⟩
theorem Vx.same(h:Vx K w p J M){w':World}(hk:Same w w'):Vx K w' p J M:=h.kept hk (fun _ _ f=>f)
theorem Vx.lt(h:Vx K w p J M):∀k,J k→k<w.heap.size:=by
 obtain⟨mr,ml,ms,s,h1,h2,h3⟩:=h
 intro k hk
 rcases(h2 k).1 hk with rfl | rfl | rfl | rfl
 ·exact h1.blk.lt
 ·exact h1.rm.lt
 ·exact h1.lm.lt
 ·exact h1.sm.lt
theorem Vx.more(h:Vx K w p J M){K':Nat}(hK:K≤K')(hb:K'≤100000):Vx K' w p J M:=by
 obtain⟨mr,ml,ms,s,h1,h2,h3⟩:=h
 exact⟨mr,ml,ms,s,{h1 with lens:=⟨Nat.le_trans h1.lens.1 hK,Nat.le_trans h1.lens.2.1 hK,Nat.le_trans h1.lens.2.2 hK⟩,big:=hb},h2,h3⟩
theorem xvat(h:Vx K w p J M):Calls Tryz.prog 94 #[.pointer (some ⟨p,0,none⟩)] w fun e w'=>e=.returned (.int .i64 M.t)∧w'=w:=by
 obtain⟨mr,ml,ms,s,h1,h2,rfl⟩:=h
 exact vat_any h1

theorem xvread(h:Vx K w p J M)(k:Ke)(hK:K+1≤100000):Calls Tryz.prog 109 #[.pointer (some ⟨p,0,none⟩),.agg #[.string k.1.tn,.string k.1.ar,.string k.2.s]] w fun e w'=>e=.returned (.tuple #[])∧Vx (K+1) w' p J (redM M k)∧Kept J w w':=by
 obtain⟨mr,ml,ms,s,h1,h2,rfl⟩:=h
 refine(vread_any h1 k hK).mono ?_
 rintro e w' ⟨rfl,g1,g2⟩
 refine⟨rfl,⟨mr,ml,ms,_,g1,h2,?_⟩,g2.mono (fun x _ e=>(h2 x).2 (.inr (.inl e)))⟩
 unfold redM absV
 simp only[Mv.mk.injEq,and_self,and_true,true_and]
 funext x
 rw[getG_put h1.apr]
 split<;>rfl

theorem xvlist(h:Vx K w p J M)(b:Bx)(hK:K+1≤100000):Calls Tryz.prog 69 #[.pointer (some ⟨p,0,none⟩),.agg #[.string b.tn,.string b.ar]] w fun e w'=>e=.returned (.tuple #[])∧Vx (K+1) w' p J (lsM M b)∧Kept J w w':=by
 obtain⟨mr,ml,ms,s,h1,h2,rfl⟩:=h
 refine(vlist_any h1 b hK).mono ?_
 rintro e w' ⟨rfl,g1,g2⟩
 refine⟨rfl,⟨mr,ml,ms,_,g1,h2,?_⟩,g2.mono (fun x _ e=>(h2 x).2 (.inr (.inr (.inl e))))⟩
 unfold lsM absV
 simp only[Mv.mk.injEq,and_self,and_true,true_and]
 funext x
 rw[getG_put h1.apl]
 split<;>rfl

theorem absV_put{mr ml ms:Nat}{s:Vst}(h1:Vk K w p mr ml ms s)(r:Wr):stM (absV s) r=absV {s with st:=putG kK (keO r) r s.st}:=by
 unfold stM absV
 simp only[Mv.mk.injEq,true_and]
 refine⟨?_,?_⟩
 ·funext x
  rw[getG_put h1.aps]
 ·have:=(putG_len (kl:=kK) (keO r) r s.st).1
  cases hs:putG kK (keO r) r s.st with
  | nil=>rw[hs]at this;simp at this
  | cons a b=>rfl

theorem xvput(h:Vx K w p J M)(k:Ke)(d:ByteArray)(hd:d.size≤maxLen)(hK:K+1≤100000):Calls Tryz.prog 71 #[.pointer (some ⟨p,0,none⟩),.agg #[.string k.1.tn,.string k.1.ar,.string k.2.s],.string d] w fun e w'=>e=.returned (.tuple #[])∧Vx (K+1) w' p J (stM M ⟨k.1,k.2,true,d,hd⟩)∧Kept J w w':=by
 obtain⟨mr,ml,ms,s,h1,h2,rfl⟩:=h
 refine(vput_any h1 k d hd hK).mono ?_
 rintro e w' ⟨rfl,g1,g2⟩
 exact⟨rfl,⟨mr,ml,ms,_,g1,h2,absV_put h1 _⟩,g2.mono (fun x _ e=>(h2 x).2 (.inr (.inr (.inr e))))⟩

theorem xvdel(h:Vx K w p J M)(k:Ke)(hK:K+1≤100000):Calls Tryz.prog 72 #[.pointer (some ⟨p,0,none⟩),.agg #[.string k.1.tn,.string k.1.ar,.string k.2.s]] w fun e w'=>e=.returned (.tuple #[])∧Vx (K+1) w' p J (stM M ⟨k.1,k.2,false,⟨#[]⟩,by decide⟩)∧Kept J w w':=by
 obtain⟨mr,ml,ms,s,h1,h2,rfl⟩:=h
 refine(vdel_any h1 k hK).mono ?_
 rintro e w' ⟨rfl,g1,g2⟩
 exact⟨rfl,⟨mr,ml,ms,_,g1,h2,absV_put h1 _⟩,g2.mono (fun x _ e=>(h2 x).2 (.inr (.inr (.inr e))))⟩

theorem xvown(h:Vx K w p J M)(k:Ke):Calls Tryz.prog 108 #[.pointer (some ⟨p,0,none⟩),.agg #[.string k.1.tn,.string k.1.ar,.string k.2.s]] w fun e w'=>e=.returned (.tuple #[.agg (wrE ((M.st k).getD wr0)).toArray,.bool (M.st k).isSome])∧Same w w':=by
 obtain⟨mr,ml,ms,s,h1,h2,rfl⟩:=h
 exact vown_any h1 k

theorem xvcheck(h:Vx K w p J M)(v:Value)(cs:List Cm)(I:Nat→Prop)(hs:Cms w I v cs):Calls Tryz.prog 105 #[.pointer (some ⟨p,0,none⟩),v] w fun e w'=>e=.returned (.tuple #[.int .i64 (chkM M cs).1,.int .i64 (chkM M cs).2])∧Same w w':=by
 obtain⟨mr,ml,ms,s,h1,h2,rfl⟩:=h
 exact vcheck_any h1 v cs I hs

theorem xvwrites(h:Vx K w p J M):Calls Tryz.prog 63 #[.pointer (some ⟨p,0,none⟩)] w fun e w'=>∃v xs,e=.returned v∧StW M xs∧RowC w.heap.size 65 5 wrE w' v xs∧Same w w'∧xs.length≤100000:=by
 obtain⟨mr,ml,ms,s,h1,h2,rfl⟩:=h
 refine(vwrites_any h1).mono ?_
 rintro e w' ⟨v,xs,rfl,g1,g2,g3,g4,g5⟩
 exact⟨v,xs,rfl,⟨g1,g2⟩,g3,g4,g5⟩

end

theorem xvnew(w:World)(t:Int):Calls Tryz.prog 58 #[.int .i64 t] w fun e w'=>∃p J,e=.returned (.pointer (some ⟨p,0,none⟩))∧Vx 0 w' p J (mv0 t)∧(∀k,J k→w.heap.size≤k)∧Same w w':=by
 refine(vnew_any w t).mono ?_
 rintro e w' ⟨p,mr,ml,ms,rfl,h1,h2,h3⟩
 refine⟨p,_,rfl,⟨mr,ml,ms,_,h1,fun k=>Iff.rfl,rfl⟩,fun k hk=>?_,h3⟩
 rcases hk with rfl | rfl | rfl | rfl<;>omega

theorem StW.det{M:Mv}{xs ys:List Wr}(h:StW M xs)(h':StW M ys):xs=ys:=by
 have hm:∀r,r∈xs↔r∈ys:=fun r=>by rw[h.2,h'.2]
 have key:∀(xs ys:List Wr),xs.Pairwise ltW→ys.Pairwise ltW→(∀r,r∈xs↔r∈ys)→xs=ys:=by
  intro xs
  induction xs with
  | nil=>
   intro ys _ _ hm
   cases ys with
   | nil=>rfl
   | cons b r=>exact absurd ((hm b).2 (List.mem_cons_self ..)) (by simp)
  | cons a r ih=>
   intro ys h1 h2 hm
   cases ys with
   | nil=>exact absurd ((hm a).1 (List.mem_cons_self ..)) (by simp)
   | cons b q=>
    rw[List.pairwise_cons]at h1 h2
    have hab:a=b:=by
     rcases List.mem_cons.1 ((hm a).1 (List.mem_cons_self ..))with e | e
     ·exact e
     ·rcases List.mem_cons.1 ((hm b).2 (List.mem_cons_self ..))with e2 | e2
      ·exact e2.symm
      ·exact absurd (ltK_trans (h2.1 a e) (h1.1 b e2)) (ltK_irr _)
    subst hab
    congr 1
    refine ih q h1.2 h2.2 (fun x=>?_)
    have h5:=hm x
    rw[List.mem_cons,List.mem_cons]at h5
    constructor
    ·intro e
     rcases h5.1 (.inr e)with e2 | e2
     ·subst e2;exact absurd (h1.1 x e) (ltK_irr _)
     ·exact e2
    ·intro e
     rcases h5.2 (.inr e)with e2 | e2
     ·subst e2;exact absurd (h2.1 x e) (ltK_irr _)
     ·exact e2
 exact key xs ys h.1 h'.1 hm

end Go.Proofs.YtcfociogljhbiaaGreatDoor

namespace Go.Proofs.YtcfociogljhbiaaGreatDoor
open Go.RowKit Go.Maps Go.Sort

theorem bless14:∀a b:List UInt8,Op.bytesLess a b=true↔a<b
 | [],[]=>by simp[Op.bytesLess]
 | [],b::bs=>by simp[Op.bytesLess]
 | a::r,[]=>by simp[Op.bytesLess]
 | a::r,b::bs=>by
  rw[Op.bytesLess,List.cons_lt_cons_iff]
  simp[bless14 r bs]

theorem bytesC_inj14{a b:ByteArray}(h:a.data.toList=b.data.toList):a=b:=by
 cases a
 cases b
 simp only at h
 rw[Array.toList_inj]at h
 rw[h]

theorem streq14(s t:ByteArray):(s.toList==t.toList)=decide (s=t):=by
 rw[Lib.toList_data,Lib.toList_data]
 by_cases h:s=t
 ·subst h;simp
 ·rw[decide_eq_false h]
  exact beq_eq_false_iff_ne.2 (fun e=>h (bytesC_inj14 e))

def bl14(s t:ByteArray):Bool:=Op.bytesLess s.toList t.toList

theorem bl14_lt(s t:ByteArray):bl14 s t=true↔s.data.toList<t.data.toList:=by
 unfold bl14
 rw[bless14,Lib.toList_data,Lib.toList_data]

def bef14(a b:Ke):Bool:=if a.1.tn=b.1.tn then(if a.1.ar=b.1.ar then bl14 a.2.s b.2.s else bl14 a.1.ar b.1.ar)else bl14 a.1.tn b.1.tn

theorem bef14_iff(a b:Ke):bef14 a b=true↔ltK a b:=by
 unfold bef14 ltK
 have e1:kT a=kT b↔a.1.tn=b.1.tn:=⟨fun h=>bytesC_inj14 h,fun h=>by unfold kT;rw[h]⟩
 have e2:kA a=kA b↔a.1.ar=b.1.ar:=⟨fun h=>bytesC_inj14 h,fun h=>by unfold kA;rw[h]⟩
 by_cases h1:a.1.tn=b.1.tn
 ·rw[if_pos h1]
  have h1':=e1.2 h1
  by_cases h2:a.1.ar=b.1.ar
  ·rw[if_pos h2,bl14_lt]
   have h2':=e2.2 h2
   constructor
   ·intro e;exact .inr ⟨h1',.inr ⟨h2',e⟩⟩
   ·rintro(e | ⟨_,e | ⟨_,e⟩⟩)
    ·rw[h1']at e;exact absurd e (List.lt_irrefl _)
    ·rw[h2']at e;exact absurd e (List.lt_irrefl _)
    ·exact e
  ·rw[if_neg h2,bl14_lt]
   constructor
   ·intro e;exact .inr ⟨h1',.inl e⟩
   ·rintro(e | ⟨_,e | ⟨e,_⟩⟩)
    ·rw[h1']at e;exact absurd e (List.lt_irrefl _)
    ·exact e
    ·exact absurd (e2.1 e) h2
 ·rw[if_neg h1,bl14_lt]
  constructor
  ·intro e;exact .inl e
  ·rintro(e | ⟨e,_⟩)
   ·exact e
   ·exact absurd (e1.1 e) h1

set_option maxRecDepth 100000 in
set_option maxHeartbeats 1000000 in
theorem rless14(w:World)(x y:Ke):Calls Tryz.prog 25 #[.agg #[.string x.1.tn,.string x.1.ar,.string x.2.s],.agg #[.string y.1.tn,.string y.1.ar,.string y.2.s]] w fun e w'=>e=.returned (.bool (bef14 x y))∧Gr w w':=by
 have hk:Gr w ((w.alloc (.cells #[.string x.1.tn,.string x.1.ar,.string x.2.s] 63)).alloc (.cells #[.string y.1.tn,.string y.1.ar,.string y.2.s] 63)):=((Gr.refl w).alloc _).alloc _
 have HK:=hid hk
 clear hk
 have B1:Blk ((w.alloc (.cells #[.string x.1.tn,.string x.1.ar,.string x.2.s] 63)).alloc (.cells #[.string y.1.tn,.string y.1.ar,.string y.2.s] 63)) w.heap.size #[.string x.1.tn,.string x.1.ar,.string x.2.s] 63:=(Blk.new w _ _).kept (F:=fun _=>False) ((Kept.refl _ _).alloc _) (fun f=>f)
 have a0:=B1.cell 0
 have a1:=B1.cell 1
 have a2:=B1.cell 2
 simp only[List.getElem?_toArray,List.getElem?_cons_zero,List.getElem?_cons_succ]at a0 a1 a2
 clear B1
 have s1:=streq14 x.1.tn y.1.tn
 have s2:=streq14 x.1.ar y.1.ar
 unfold bef14
 by_cases h1:x.1.tn=y.1.tn
 ·rw[if_pos h1]
  rw[decide_eq_true h1]at s1
  by_cases h2:x.1.ar=y.1.ar
  ·rw[if_pos h2]
   rw[decide_eq_true h2]at s2
   clear h1 h2
   go_enter Tryz.func25,Tryz.ntmps25
   go_wp2_with fail
   go_ret
   exact⟨rfl,HK.out⟩
  ·rw[if_neg h2]
   rw[decide_eq_false h2]at s2
   clear h1 h2
   go_enter Tryz.func25,Tryz.ntmps25
   go_wp2_with fail
   go_ret
   exact⟨rfl,HK.out⟩
 ·rw[if_neg h1]
  rw[decide_eq_false h1]at s1
  clear h1
  go_enter Tryz.func25,Tryz.ntmps25
  go_wp2_with fail
  go_ret
  exact⟨rfl,HK.out⟩

end Go.Proofs.YtcfociogljhbiaaGreatDoor
