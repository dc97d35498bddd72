/-
  Of the proof: parts TzG, TzY.
-/
import Derived.BigQuiet
import Derived.Deep.CutRange
import Derived.Shelf.SlSortCmp.QuietGrown
import Derived.SizedLaws
import Derived.Test.YtcfociogljhbiaaGreatDoorJ38
import Derived.Test.YtcfociogljhbiaaGreatDoorJ17
import Derived.Test.YtcfociogljhbiaaGreatDoorJ11
import Derived.Test.YtcfociogljhbiaaGreatDoorJ33

namespace Go.Proofs.YtcfociogljhbiaaGreatDoor
open Go.ChangeShapes Go.WideShapes Go.ChangeAt Go.RowKit Go.Deep Go.Maps

theorem mem_all14{H:Type}{P:Program}{e:TypeId}{d:DataW H}:∀{ds:List (DataW H)},d∈ds→∀n∈d.weights P e,n∈DataW.weightsAll P e ds
 | [],h,_,_=>by simp at h
 | d0::ds,h,n,hn=>by
  rw[DataW.weightsAll,List.mem_append]
  rcases List.mem_cons.1 h with e | e
  ·exact .inl (by rw[←e];exact hn)
  ·exact .inr (mem_all14 e n hn)

section
variable {H:Type} {enc:TypeId×Value→H} {W:World} {x:DataW H×List MemPlace}

theorem rows_ofz{α:Type}[Inhabited α]{en:α→List Value}{k:Nat}(ok:EncOk en k){t e:TypeId}(ht:Tryz.prog.underlying t=some (.slice e))(hc:Tryz.prog.cellsOf e=k)(hb1:1≤Tryz.prog.bytesOf e)(P:α→Prop)
  (hone:∀(m:Nat) (cs:List Value) (y:DataW H×List MemPlace),cs.length=k→DataW.trod enc Tryz.prog W 0 (fun _=>true) true m e cs=some y→(∀n∈y.1.weights Tryz.prog e,n≤reachBytes)→∃r:α,cs=en r∧P r)
  {fuel:Nat} {v:Value} (h:DataW.trod enc Tryz.prog W 0 (fun _=>true) true fuel t [v]=some x) (hz:∀m∈x.1.weights Tryz.prog t,m≤reachBytes):
  ∃a n c xs,v=.slice a n c∧SrcC k en W (fun j=>j<W.heap.size) (.slice a n c) xs∧xs.length=n∧n≤reachBytes∧∀r∈xs,P r:=by
 rcases open_slice ht h with⟨hcs,_⟩ | ⟨x0,l,c,m,n,D,Pl,hcs,_,hl,hmx,hm,hxx,hx⟩
 ·simp only[List.cons.injEq,and_true]at hcs
  exact⟨none,0,0,[],hcs,⟨none,0,rfl,Nat.le_refl _,fun e=>absurd rfl e⟩,rfl,Nat.zero_le _,fun r hr=>(by cases hr)⟩
 ·simp only[List.cons.injEq,and_true]at hcs
  simp only[if_true]at hm
  subst hm
  rw[hc]at hx
  subst hxx
  have hlz:l≤reachBytes:=by
   have h1:=hz (((List.range l).map D).length+((List.range (m-l)).map fun j=>D (l+j)).length |> (· * Tryz.prog.bytesOf e)) (by simp[DataW.weights,ht])
   simp only[List.length_map,List.length_range]at h1
   exact Nat.le_trans (Nat.le_add_right _ _) (Nat.le_trans (Nat.le_mul_of_pos_right _ hb1) h1)
  have key:∀j,j<l→∃r:α,P r∧∀i u,(en r)[i]? = some u→W.cell? ((x0.add (j*k)).add i)=some u:=fun j hj=>by
   obtain⟨cs,hcc,htr⟩:=hx j (by omega)
   obtain⟨_,hlen,hcell⟩:=World.cells?_some hcc
   obtain⟨r,hr,hp⟩:=hone _ cs _ hlen htr (fun n hn=>hz n (by
    rw[DataW.weights,ht]
    exact List.mem_cons_of_mem _ (List.mem_append.2 (.inl (mem_all14 (List.mem_map.2 ⟨j,List.mem_range.2 hj,rfl⟩) n hn)))))
   refine⟨r,hp,fun i u e=>?_⟩
   rw[←hr]at e
   have hi:i<k:=by rw[←hlen];exact(List.getElem?_eq_some_iff.1 e).1
   rw[←e]
   exact hcell i hi
  obtain⟨R,hR⟩:=choose_lt (α:=α) (p:=fun j r=>P r∧∀i u,(en r)[i]? = some u→W.cell? ((x0.add (j*k)).add i)=some u) key
  refine⟨some x0,l,m,(List.range l).map R,hcs,⟨some x0,m,by simp,by simpa using hl,fun hne=>?_⟩,by simp,hlz,fun r hr=>?_⟩
  ·have hl0:0<l:=by
    rcases Nat.eq_zero_or_pos l with e | e
    ·subst e;simp at hne
    ·exact e
   have hlr:=ok.len (R 0)
   have hk0:=ok.pos
   have h00:=(hR 0 hl0).2 0 _ (List.getElem?_eq_getElem (by omega))
   rw[Nat.zero_mul,add_zero12,add_zero12]at h00
   obtain⟨b,o,rfl⟩:∃b o,x0=⟨b,o,none⟩:=⟨x0.block,x0.off,spot_none h00⟩
   refine⟨b,o,rfl,World.block_lt_of_cell? W _ h00,fun j hj i hi=>?_⟩
   have hjl:j<l:=by simpa using hj
   have e1:((List.range l).map R)[j]=R j:=by simp
   rw[e1]
   have hli:=ok.len (R j)
   rw[List.getElem?_eq_getElem (by omega)]
   have h9:=(hR j hjl).2 i _ (List.getElem?_eq_getElem (by omega))
   rw[addAt,addAt,Nat.add_assoc]at h9
   exact h9
  ·obtain⟨j,hj,rfl⟩:=List.mem_map.1 hr
   exact(hR j (List.mem_range.1 hj)).1

theorem Tryz.bytes14o:1≤Tryz.prog.bytesOf 24:=of_decide_eq_true (by kernel_rfl)

set_option maxRecDepth 100000 in
theorem ot_sz{fuel:Nat}{o:Ot}(h:DataW.trod enc Tryz.prog W 0 (fun _=>true) true fuel 24 (otE o)=some x)(hz:∀m∈x.1.weights Tryz.prog 24,m≤reachBytes):o.dt.size≤reachBytes:=by
 obtain⟨xs,n',_,rfl,_,hlen,hf⟩:=DataW.trod_struct Tryz.underlying24 h
 match xs,hlen with
 | [y0,y1,y2,y3,y4,y5],_=>
  have c2:=Tryz.cells14s
  have c3:=Tryz.cells14i
  have t5:DataW.trod enc Tryz.prog W 0 (fun _=>true) true n' 9 [.string o.dt]=some y5:=by simpa[c2,c3,otE]using hf 5 _ rfl
  obtain⟨q5,e5,g5,s5⟩:=DataW.trod_string Tryz.underlying9 t5
  simp only[List.cons.injEq,and_true,Value.string.injEq]at e5
  refine hz _ ?_
  rw[DataW.weights,Tryz.underlying24]
  refine DataW.weights_mem_each (j:=5) (t:=9) (by rfl) (by rfl) _ ?_
  rw[g5,e5]
  simp[DataW.weights]

theorem ops14_ofz{fuel:Nat}{a:Option Addr}{len cap:Nat}(h:DataW.trod enc Tryz.prog W 0 (fun _=>true) true fuel 36 [.slice a len cap]=some x)(hz:∀m∈x.1.weights Tryz.prog 36,m≤reachBytes):∃ks:List Ot,SrcC 6 otE W (fun j=>j<W.heap.size) (.slice a len cap) ks∧len≤reachBytes∧∀o∈ks,o.dt.size≤reachBytes:=by
 obtain⟨a',n',c',xs,e,h1,h2,h3,h4⟩:=rows_ofz (enc:=enc) otE_ok Tryz.underlying36 Tryz.cells14o Tryz.bytes14o (fun o=>o.dt.size≤reachBytes) (fun m cs y hl ht hw=>by
  match cs,hl with
  | [u0,u1,u2,u3,u4,u5],_=>
   obtain⟨t,e⟩:=ot_of ht
   rw[e]at ht
   exact⟨t,e,ot_sz ht hw⟩) h hz
 injection e with e1 e2 e3
 subst e1 e2 e3
 exact⟨xs,h1,h3,h4⟩

end
end Go.Proofs.YtcfociogljhbiaaGreatDoor

namespace Go.Proofs.YtcfociogljhbiaaGreatDoor
open Go.ChangeShapes Go.WideShapes Go.ChangeAt Go.RowKit Go.Deep Go.Maps

theorem Tryz.cells14e:Tryz.prog.cellsOf 108=2:=by kernel_rfl
theorem Tryz.cells14a:Tryz.prog.cellsOf 83=3:=by kernel_rfl
theorem Tryz.cells14es:Tryz.prog.cellsOf 81=1:=by kernel_rfl
theorem Tryz.bytes14e:1≤Tryz.prog.bytesOf 108:=of_decide_eq_true (by kernel_rfl)
theorem Tryz.bytes14a:1≤Tryz.prog.bytesOf 83:=of_decide_eq_true (by kernel_rfl)

instance inhNm14:Inhabited Nm:=⟨⟨⟨#[]⟩,by decide⟩⟩
instance inhAd14:Inhabited Ad:=⟨⟨bx0,none,0,0,[]⟩⟩

section
variable {H:Type} {enc:TypeId×Value→H} {W:World} {x:DataW H×List MemPlace}

theorem en_of14{fuel:Nat}{k0 k1:Value}(h:DataW.trod enc Tryz.prog W 0 (fun _=>true) true fuel 108 [k0,k1]=some x):∃e:Nm×ByteArray,[k0,k1]=enE2 e:=by
 obtain⟨xs,n',_,_,_,hlen,hf⟩:=DataW.trod_struct Tryz.underlying108 h
 match xs,hlen with
 | [y0,y1],_=>
  have c2:=Tryz.cells14s
  have t0:DataW.trod enc Tryz.prog W 0 (fun _=>true) true n' 9 [k0]=some y0:=by simpa[c2]using hf 0 _ rfl
  have t1:DataW.trod enc Tryz.prog W 0 (fun _=>true) true n' 9 [k1]=some y1:=by simpa[c2]using hf 1 _ rfl
  obtain⟨q0,e0,_,s0⟩:=DataW.trod_string Tryz.underlying9 t0
  obtain⟨q1,e1,_,s1⟩:=DataW.trod_string Tryz.underlying9 t1
  simp only[List.cons.injEq,and_true]at e0 e1
  subst e0 e1
  exact⟨⟨⟨q0,s0⟩,q1⟩,rfl⟩

theorem ents14_ofz{fuel:Nat}{v:Value}(h:DataW.trod enc Tryz.prog W 0 (fun _=>true) true fuel 81 [v]=some x)(hz:∀m∈x.1.weights Tryz.prog 81,m≤reachBytes):∃a n c es,v=.slice a n c∧SrcC 2 enE2 W (fun j=>j<W.heap.size) (.slice a n c) es∧n≤reachBytes:=by
 obtain⟨a',n',c',xs,e,h1,_,h3,_⟩:=rows_ofz (enc:=enc) enE2_ok Tryz.underlying81 Tryz.cells14e Tryz.bytes14e (fun _=>True) (fun m cs y hl ht hw=>by
  match cs,hl with
  | [u0,u1],_=>
   obtain⟨t,e⟩:=en_of14 ht
   exact⟨t,e,trivial⟩) h hz
 exact⟨a',n',c',xs,e,h1,h3⟩

set_option maxRecDepth 100000 in
theorem arc_of14{fuel:Nat}{k0 k1 k2:Value}(h:DataW.trod enc Tryz.prog W 0 (fun _=>true) true fuel 83 [k0,k1,k2]=some x)(hz:∀m∈x.1.weights Tryz.prog 83,m≤reachBytes):∃r:Ad,[k0,k1,k2]=adE r∧SrcC 2 enE2 W (fun j=>j<W.heap.size) (.slice r.a r.n r.c) r.es∧r.n≤reachBytes:=by
 obtain⟨xs,n',_,rfl,_,hlen,hf⟩:=DataW.trod_struct Tryz.underlying83 h
 match xs,hlen with
 | [y0,y1,y2],_=>
  have c2:=Tryz.cells14s
  have c3:=Tryz.cells14es
  have t0:DataW.trod enc Tryz.prog W 0 (fun _=>true) true n' 9 [k0]=some y0:=by simpa[c2,c3]using hf 0 _ rfl
  have t1:DataW.trod enc Tryz.prog W 0 (fun _=>true) true n' 9 [k1]=some y1:=by simpa[c2,c3]using hf 1 _ rfl
  have t2:DataW.trod enc Tryz.prog W 0 (fun _=>true) true n' 81 [k2]=some y2:=by simpa[c2,c3]using hf 2 _ rfl
  obtain⟨q0,e0,_,s0⟩:=DataW.trod_string Tryz.underlying9 t0
  obtain⟨q1,e1,_,s1⟩:=DataW.trod_string Tryz.underlying9 t1
  obtain⟨a,n,c,es,e2,hes,hen⟩:=ents14_ofz t2 (fun m hm=>hz m (by
   rw[DataW.weights,Tryz.underlying83]
   exact DataW.weights_mem_each (j:=2) (by rfl) (by rfl) m hm))
  simp only[List.cons.injEq,and_true]at e0 e1
  subst e0 e1 e2
  exact⟨⟨⟨q0,q1,⟨s0,s1⟩⟩,a,n,c,es⟩,rfl,hes,hen⟩

theorem arcs14_ofz{fuel:Nat}{a:Option Addr}{len cap:Nat}(h:DataW.trod enc Tryz.prog W 0 (fun _=>true) true fuel 22 [.slice a len cap]=some x)(hz:∀m∈x.1.weights Tryz.prog 22,m≤reachBytes):∃As:List Ad,ArcI W (fun j=>j<W.heap.size) (.slice a len cap) As∧len≤reachBytes∧∀x∈As,x.n≤reachBytes:=by
 obtain⟨a',n',c',xs,e,h1,_,h3,h4⟩:=rows_ofz (enc:=enc) adE_ok Tryz.underlying22 Tryz.cells14a Tryz.bytes14a (fun r=>SrcC 2 enE2 W (fun j=>j<W.heap.size) (.slice r.a r.n r.c) r.es∧r.n≤reachBytes) (fun m cs y hl ht hw=>by
  match cs,hl with
  | [u0,u1,u2],_=>exact arc_of14 ht hw) h hz
 injection e with e1 e2 e3
 subst e1 e2 e3
 exact⟨xs,⟨h1,fun r hr=>(h4 r hr).1⟩,h3,fun r hr=>(h4 r hr).2⟩

end

end Go.Proofs.YtcfociogljhbiaaGreatDoor
