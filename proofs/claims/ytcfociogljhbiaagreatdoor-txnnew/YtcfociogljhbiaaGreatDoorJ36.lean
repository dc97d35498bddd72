/-
  Of the proof: parts TyD.
-/
import Derived.Test.YtcfociogljhbiaaGreatDoorJ30
import Derived.Test.YtcfociogljhbiaaGreatDoorJ28
import Derived.Test.YtcfociogljhbiaaGreatDoorJ26
import Derived.Test.YtcfociogljhbiaaGreatDoorJ35

namespace Go.Proofs.YtcfociogljhbiaaGreatDoor
open Go.RowKit Go.Maps Go.Sort Go.Shelf

theorem Vx.keyOf{K:Nat}{w:World}{p:Nat}{J:Nat→Prop}{M:Mv}(h:Vx K w p J M){k:Ke}{r:Wr}(he:M.st k=some r):keO r=k:=by
 obtain⟨mr,ml,ms,s,h1,h2,rfl⟩:=h
 exact h1.own _ (getG_mem he)

def SeeN(mv:Mv)(M:Mst)(b:Bx)(L:List Nm):Prop:=RisN L∧∀n,n∈L↔seeT mv M (b,n)=true

open Classical in
noncomputable def seeN (mv:Mv) (M:Mst) (b:Bx):List Nm:=if h:∃L,SeeN mv M b L∧L.length≤200000 then Classical.choose h else []

theorem seeN_is{mv:Mv}{M:Mst}{b:Bx}{L:List Nm}(h:SeeN mv M b L)(hl:L.length≤200000):seeN mv M b=L:=by
 have he:∃L,SeeN mv M b L∧L.length≤200000:=⟨L,h,hl⟩
 unfold seeN
 rw[dif_pos he]
 exact lis_det (Classical.choose_spec he).1 h

theorem seeN_len(mv:Mv)(M:Mst)(b:Bx):(seeN mv M b).length≤200000:=by
 unfold seeN
 split
 ·next he=>exact(Classical.choose_spec he).2
 ·simp

def knoN(L:List Nm)(ar:ByteArray)(xs:List Wr):List Nm:=L++(xs.filter (fun x=>decide (x.b.ar=ar))).map (·.n)

theorem knoN_more(L:List Nm)(ar:ByteArray)(xs:List Wr)(x:Wr):knoN L ar (xs++[x])=if x.b.ar=ar then knoN L ar xs++[x.n]else knoN L ar xs:=by
 unfold knoN
 rw[List.filter_append,List.map_append,←List.append_assoc]
 by_cases h:x.b.ar=ar
 ·simp[h]
 ·simp[h]

theorem knoN_len(L:List Nm)(ar:ByteArray)(xs:List Wr):(knoN L ar xs).length≤L.length+xs.length:=by
 unfold knoN
 rw[List.length_append,List.length_map]
 have:=List.length_filter_le (fun x:Wr=>decide (x.b.ar=ar)) xs
 omega

theorem see_names{K:Nat}{w:World}{st:Nat}{J:Nat→Prop}{mv:Mv}{M:Mst}{b:Bx}{L1 C:List Nm}{xs:List Wr}(h:Vx K w st J mv)(hL:∀n,n∈L1↔isTh (M.V b n) (max (mv.t+1) M.floor)=true)(hx:StW mv xs)(hC:RisN C)(hm:∀n,n∈C↔n∈knoN L1 b.ar xs):SeeN mv M b (C.filter (fun n=>seeT mv M (b,n))):=by
 refine⟨List.Pairwise.filter _ hC,fun n=>?_⟩
 rw[List.mem_filter]
 constructor
 ·exact fun e=>e.2
 ·intro e
  refine⟨(hm n).2 ?_,e⟩
  unfold knoN
  rw[List.mem_append]
  cases hs:mv.st (b,n) with
  | none=>
   refine .inl ((hL n).2 ?_)
   unfold seeT at e
   rw[hs]at e
   exact e
  | some r=>
   have hk:=h.keyOf hs
   refine .inr (List.mem_map.2 ⟨r,List.mem_filter.2 ⟨(hx.2 r).2 (by rw[hk];exact hs),?_⟩,?_⟩)
   ·have:r.b=b:=congrArg Prod.fst hk
    rw[this];simp
   ·exact congrArg Prod.snd hk

structure NmS(fp:World→Nat→Prop)(K N:Nat)(W:World)(q ps:Nat)(ow:Nm)(st:Nat)(Jt:Nat→Prop)(mv:Mv)(M:Mst)(ρ:Nat→Nat)(b1 b2:Nat)(ar:ByteArray)(B:Nat)(v:Value)(C:List Nm):Prop where
 tt:Tt K N W q ps ow st Jt mv M ρ
 x1:Blk W b1 #[.pointer (some ⟨q,0,none⟩)] 110
 x2:Blk W b2 #[.string ow.s,.string ar] 128
 row:RowE B 9 nmV W v C
 off:∀k,(ρ k≠0∨Jt k∨k=q∨k=b1∨k=b2∨v.ownBlock=some k)→¬fp W k∧k<W.heap.size

section
variable {fp:World→Nat→Prop} {K N:Nat} {W W':World} {q ps:Nat} {ow:Nm} {st:Nat} {Jt:Nat→Prop} {mv:Mv} {M:Mst} {ρ:Nat→Nat} {b1 b2:Nat} {ar:ByteArray} {B:Nat} {v:Value} {C:List Nm}

theorem NmS.kept(h:NmS fp K N W q ps ow st Jt mv M ρ b1 b2 ar B v C){F:Nat→Prop}(hk:Kept F W W')(hF:∀k,(ρ k≠0∨Jt k∨k=q∨k=b1∨k=b2∨v.ownBlock=some k)→¬F k)(hf:∀k,k<W.heap.size→¬fp W k→¬fp W' k):NmS fp K N W' q ps ow st Jt mv M ρ b1 b2 ar B v C:=by
 refine⟨⟨h.tt.blk.kept hk (hF q (.inr (.inr (.inl rfl)))),h.tt.set.kept hk (fun k e=>hF k (.inr (.inl e))),h.tt.sto.kept hk (fun k e=>?_)⟩,h.x1.kept hk (hF b1 (.inr (.inr (.inr (.inl rfl))))),h.x2.kept hk (hF b2 (.inr (.inr (.inr (.inr (.inl rfl)))))),h.row.kept hk (fun k e=>hF k (.inr (.inr (.inr (.inr (.inr e)))))),fun k e=>⟨hf k (h.off k e).2 (h.off k e).1,Nat.lt_of_lt_of_le (h.off k e).2 hk.size⟩⟩
 cases hz:ρ k with
 | zero=>rfl
 | succ z=>exact absurd e (hF k (.inl (by omega)))

theorem NmS.same(h:NmS fp K N W q ps ow st Jt mv M ρ b1 b2 ar B v C)(hk:Same W W')(hf:∀j,fp W' j↔fp W j):NmS fp K N W' q ps ow st Jt mv M ρ b1 b2 ar B v C:=h.kept hk (fun _ _ f=>f) (fun k _ e f=>e ((hf k).1 f))

theorem NmS.round(h:NmS fp K N W q ps ow st Jt mv M ρ b1 b2 ar B v C)(hk:Kf fp W W'):NmS fp K N W' q ps ow st Jt mv M ρ b1 b2 ar B v C:=h.kept hk.1 (fun k e=>(h.off k e).1) (fun k hlt e f=>by
  rcases hk.2 k f with q | q
  ·exact e q
  ·omega)

end

end Go.Proofs.YtcfociogljhbiaaGreatDoor
