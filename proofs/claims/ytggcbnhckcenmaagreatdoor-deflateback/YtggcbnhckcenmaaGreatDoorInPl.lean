import Derived.Test.YtggcbnhckcenmaaGreatDoorInPi
import Derived.Test.YtggcbnhckcenmaaGreatDoorFresh
namespace Go.Proofs.YtggcbnhckcenmaaGreatDoor
open Go.RowKit

def OldC(w w':World)(v:Value)(n:Nat):Prop:=∀k j u,(v.ownBlock=some k→j<n)→w.cell? ⟨k,j,none⟩=some u→w'.cell? ⟨k,j,none⟩=some u

theorem run_append_row2(w:World)(ty:TypeId)(v:Value)(bs:List Nat)(hrow:Row w v bs)(a:Addr)(c:Nat)(cs:List Nat)(hcs:BytesAt w a cs)(hlen:bs.length+cs.length≤1000000000000):
  ∃v' w',(Builtin.append_ #[22,22] ty #[v,.slice (some a) cs.length c]).run Tryz.prog w=.ok v' w'∧Row w' v' (bs++cs)∧w.grownBy w' v.ownBlock ∧
   (v'.ownBlock=v.ownBlock∨v'.ownBlock=some w.heap.size)∧OldC w w' v bs.length:=by
 obtain⟨v',w',hr,hrow',hg,ho⟩:=run_append_row w ty v bs hrow a c cs hcs hlen
 refine⟨v',w',hr,hrow',hg,ho,?_⟩
 have hk:Kept (fun k=>v.ownBlock=some k) w w':=(Kept.refl _ w).grown hg (fun k e=>.inl e)
 have hother:∀k j u,v.ownBlock≠some k→w.cell? ⟨k,j,none⟩=some u→w'.cell? ⟨k,j,none⟩=some u:=fun k j u h hc=>hk.cell hc h
 obtain⟨i0,hi,hz0,hz1,hz2⟩:=info_parts Tryz.info8
 have hsz:i0.size=1:=hz1
 have hl:(cs.map byteV).length=cs.length*1:=by simp
 rcases id hrow.2 with⟨rfl,hn⟩ | ⟨g,cap,cur,rfl,_⟩
 ·exact fun k j u _ hc=>hother k j u (by simp[Value.ownBlock]) hc
 ·intro k j u hj hc
  by_cases hkg:k=g
  ·subst hkg
   have hj2:j<bs.length:=hj rfl
   by_cases hroom:bs.length+cs.length≤cap
   ·obtain⟨w2,hr2,hr3⟩:=run_append_fits (P:=Tryz.prog) w 0 22 ty 5 i0 1 Tryz.underlying22 hi hz1 k bs.length cap (bs.map byteV) hrow a cs.length c (cs.map byteV) hl hcs (byteV_one _) hroom
    rw[hr]at hr2
    simp only[Result.ok.injEq]at hr2
    have e1:=hrow.cell j hj2
    rw[e1]at hc
    rw[←hc]
    have hlen2:(bs++cs).length=bs.length+cs.length:=List.length_append
    have e2:v'=.slice (some ⟨k,0,none⟩) (bs++cs).length cap:=by rw[hr2.1,hlen2]
    rw[e2]at hrow'
    have e3:=hrow'.cell j (by rw[hlen2];omega)
    rw[List.getElem_append_left hj2]at e3
    exact e3
   ·have hr2:=run_append_grow (P:=Tryz.prog) w 22 ty 5 i0 (.int .u8 0) Tryz.underlying22 hi hz0 ⟨k,0,none⟩ bs.length cap (bs.map byteV) (by rw[hsz];simp) (hrow.cells (g:=k) rfl) a cs.length c (cs.map byteV) (by rw[hsz];simp) hcs (by omega) (by omega) (growslice_fits (by omega) (by rw[hz2];omega))
    rw[hr]at hr2
    simp only[Result.ok.injEq]at hr2
    rw[hr2.2]
    exact(((Kept.refl (fun _=>False) w).drew).alloc _).cell hc (fun f=>f)
  ·exact hother k j u (fun e=>hkg (by simpa[Value.ownBlock]using e.symm)) hc

theorem getD_left(a b:List Nat)(j:Nat)(h:j<a.length):(a++b).getD j 0=a.getD j 0:=by simp[List.getD,List.getElem?_append_left h]
theorem getD_right(a b:List Nat)(j:Nat)(h:a.length≤j):(a++b).getD j 0=b.getD (j-a.length) 0:=by simp[List.getD,List.getElem?_append_right h]

theorem cpL_snoc(far n:Nat)(out:List Nat):cpL far (n+1) out=cpL far n out++[(cpL far n out).getD ((cpL far n out).length-far) 0]:=by
 induction n generalizing out with
 | zero=>rfl
 | succ n ih=>rw[cpL,ih,←cpL]

theorem cpL_row(far n:Nat)(out:List Nat)(h1:1≤far)(h2:far≤out.length)(t:Nat)(ht:t<far+n):(cpL far n out).getD (out.length-far+t) 0=out.getD (out.length-far+t % far) 0:=by
 induction n generalizing t with
 | zero=>
  rw[Nat.mod_eq_of_lt (by omega)]
  rfl
 | succ n ih=>
  rw[cpL_snoc]
  by_cases hl:t<far+n
  ·rw[getD_left _ _ _ (by rw[cpL_length];omega)]
   exact ih t hl
  ·have e:t=far+n:=by omega
   subst e
   rw[getD_right _ _ _ (by rw[cpL_length];omega),cpL_length]
   have e1:out.length-far+(far+n)-(out.length+n)=0:=by omega
   have e2:out.length+n-far=out.length-far+n:=by omega
   rw[e1,e2]
   simp only[List.getD_cons_zero]
   rw[ih n (by omega),Nat.add_mod_left]

theorem cpL_next(far n:Nat)(out:List Nat)(h1:1≤far)(h2:far≤out.length):cpL far (n+1) out=cpL far n out++[out.getD (out.length-far+n % far) 0]:=by
 rw[cpL_snoc,cpL_length]
 have e:out.length+n-far=out.length-far+n:=by omega
 rw[e,cpL_row far n out h1 h2 n (by omega)]

end Go.Proofs.YtggcbnhckcenmaaGreatDoor
