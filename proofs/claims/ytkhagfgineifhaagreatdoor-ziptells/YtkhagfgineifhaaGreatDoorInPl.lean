import Derived.Test.YtkhagfgineifhaaGreatDoorInPi
import Derived.Test.YtkhagfgineifhaaGreatDoorFresh
namespace Go.Proofs.YtkhagfgineifhaaGreatDoor
open Go.RowKit
def Ol(w w':World)(v:Value)(n:Nat):Prop:=∀k j u,(v.ownBlock=some k->j<n)->w.cell? ⟨k,j,none⟩=some u->w'.cell? ⟨k,j,none⟩=some u
theorem pq(w:World)(ty:TypeId)(v:Value)(bs:List Nat)(hrow:Row w v bs)(a:Addr)(c:Nat)(cs:List Nat)(eY:gg w a cs)(ag:bs.length+cs.length≤1000000000000):
  ∃v' w',(Builtin.append_ #[25,25] ty #[v,.slice (some a) cs.length c]).run Tryz.prog w=.ok v' w'/\Row w' v' (bs++cs)/\w.grownBy w' v.ownBlock /\
   (v'.ownBlock=v.ownBlock\/v'.ownBlock=some w.heap.size)/\Ol w w' v bs.length:=by
 obtain⟨v',w',hr,hrow',hg,ho⟩:=gI w ty v bs hrow a c cs eY ag;refine⟨v',w',hr,hrow',hg,ho,?_⟩;have hk:Kept (λk=>v.ownBlock=some k) w w':=(Kept.refl _ w).grown hg (λk e=>.inl e);have I0:∀k j u,v.ownBlock≠some k->w.cell? ⟨k,j,none⟩=some u->w'.cell? ⟨k,j,none⟩=some u:=λk j u h hc=>hk.cell hc h
 obtain⟨i0,hi,fG,iN,gj⟩:=info_parts Tryz.info8;have dA:i0.size=1:=iN;have hl:(cs.map be).length=cs.length*1:=by simp
 rcases id hrow.2 with⟨rfl,hn⟩ | ⟨g,cap,cur,rfl,_⟩
 ·exact λk j u _ hc=>I0 k j u (by simp[Value.ownBlock]) hc
 ·intro k j u hj hc;by_cases Ji:k=g
  ·subst Ji;have Cw:j<bs.length:=hj rfl;by_cases iD:bs.length+cs.length<=cap
   ·obtain⟨w2,hr2,hr3⟩:=run_append_fits (P:=Tryz.prog) w 0 25 ty 5 i0 1 Tryz.underlying25 hi iN k bs.length cap (bs.map be) hrow a cs.length c (cs.map be) hl eY (kV _) iD;rw[hr]at hr2;simp only[Result.ok.injEq]at hr2;have e1:=hrow.cell j Cw;rw[e1]at hc;rw[<-hc];have rJ:(bs++cs).length=bs.length+cs.length:=List.length_append;have e2:v'=.slice (some ⟨k,0,none⟩) (bs++cs).length cap:=(by rw[hr2.1,rJ]);rw[e2]at hrow';have e3:=hrow'.cell j (by rw[rJ];omega);rw[List.getElem_append_left Cw]at e3;exact e3
   ·have hr2:=run_append_grow (P:=Tryz.prog) w 25 ty 5 i0 (.int .u8 0) Tryz.underlying25 hi fG ⟨k,0,none⟩ bs.length cap (bs.map be) (by rw[dA];simp) (hrow.cells (g:=k) rfl) a cs.length c (cs.map be) (by rw[dA];simp) eY (by omega) (by omega) (growslice_fits (by omega) (by rw[gj];omega));rw[hr]at hr2;simp only[Result.ok.injEq]at hr2;rw[hr2.2];exact(((Kept.refl (λ_=>False) w).drew).alloc _).cell hc (λf=>f)
  ·exact I0 k j u (λe=>Ji (by simpa[Value.ownBlock]using e.symm)) hc
theorem D6(a b:List Nat)(j:Nat)(h:j<a.length):(a++b).getD j 0=a.getD j 0:=by simp[List.getD,List.getElem?_append_left h]
theorem Az(a b:List Nat)(j:Nat)(h:a.length<=j):(a++b).getD j 0=b.getD (j-a.length) 0:=by simp[List.getD,List.getElem?_append_right h]
theorem pW(far n:Nat)(out:List Nat):nj far (n+1) out=nj far n out++[(nj far n out).getD ((nj far n out).length-far) 0]:=by
 induction n generalizing out with
 | zero=>rfl
 | succ n ih=>rw[nj,ih,<-nj]
theorem Jv(far n:Nat)(out:List Nat)(h1:1<=far)(h2:far<=out.length)(t:Nat)(ht:t<far+n):(nj far n out).getD (out.length-far+t) 0=out.getD (out.length-far+t % far) 0:=by
 induction n generalizing t with
 | zero=>
  rw[Nat.mod_eq_of_lt (by omega)];rfl
 | succ n ih=>
  rw[pW];by_cases hl:t<far+n
  ·rw[D6 _ _ _ (by rw[gU];omega)];exact ih t hl
  ·have e:t=far+n:=(by omega);subst e;rw[Az _ _ _ (by rw[gU];omega),gU];have e1:out.length-far+(far+n)-(out.length+n)=0:=(by omega);have e2:out.length+n-far=out.length-far+n:=(by omega);rw[e1,e2];simp only[List.getD_cons_zero];rw[ih n (by omega),Nat.add_mod_left]
theorem FE(far n:Nat)(out:List Nat)(h1:1<=far)(h2:far<=out.length):nj far (n+1) out=nj far n out++[out.getD (out.length-far+n % far) 0]:=by
 rw[pW,gU];have e:out.length+n-far=out.length-far+n:=by omega
 rw[e,Jv far n out h1 h2 n (by omega)]
theorem Dg(far n:Nat)(out:List Nat)(h:∀b∈out,b<256):∀b∈nj far n out,b<256:=by
 induction n with
 | zero=>exact h
 | succ n ih=>
  rw[pW];intro b hb;rcases List.mem_append.1 hb with hb | hb
  ·exact ih b hb
  ·simp only[List.mem_singleton]at hb;subst hb;by_cases hi:(nj far n out).length-far<(nj far n out).length
   ·have e:(nj far n out).getD ((nj far n out).length-far) 0=(nj far n out)[(nj far n out).length-far]:=(by simp[List.getD,hi]);rw[e];exact ih _ (List.getElem_mem _)
   ·have e:(nj far n out).getD ((nj far n out).length-far) 0=0:=(by simp[List.getD,hi]);rw[e];decide
end Go.Proofs.YtkhagfgineifhaaGreatDoor
