/-
  Of the proof: parts ChK, ChN.
-/
import Derived.Lib.SliceRun
import Derived.Test.YtcfociogljhbiaaGreatDoorJ15

namespace Go.Proofs.YtcfociogljhbiaaGreatDoor
open Go.RowKit Go.Maps Go.Sort

theorem setCells_keptC:∀(vs:List Value) (w:World) (g o:Nat),Kept (·=g) w (w.setCells g o vs)
 | [],w,_,_=>Kept.refl _ w
 | v::r,w,g,o=>by
  rw[World.setCells]
  exact Kept.trans ((Kept.refl (·=g) w).setCell ⟨g,o,none⟩ v (.inl rfl)) (setCells_keptC r _ g (o+1)) (fun _ _ e=>e) (fun _ _ e=>e)

theorem setCells_raw:∀(vs:List Value) (w:World) (g o:Nat) (cur:Array Value) (t:TypeId),w.heap[g]? = some (.cells cur t (0,0))→o+vs.length≤cur.size →
  ∃cur':Array Value,(w.setCells g o vs).heap[g]? = some (.cells cur' t (0,0))∧cur'.size=cur.size∧(∀j,j<o→cur'[j]? = cur[j]?)∧∀j,j<vs.length→cur'[o+j]? = vs[j]?
 | [],w,g,o,cur,t,h,_=>⟨cur,h,rfl,fun _ _=>rfl,fun j hj=>by simp at hj⟩
 | v::r,w,g,o,cur,t,h,hf=>by
  have h1:(w.setCell ⟨g,o,none⟩ v).heap[g]? = some (.cells (cur.setIfInBounds o v) t (0,0)):=Blk.set (b:=h) o v
  simp only[List.length_cons]at hf
  obtain⟨cur',h2,h3,h4,h5⟩:=setCells_raw r (w.setCell ⟨g,o,none⟩ v) g (o+1) _ t h1 (by simp;omega)
  refine⟨cur',h2,by rw[h3];simp,fun j hj=>?_,fun j hj=>?_⟩
  ·rw[h4 j (by omega),Array.getElem?_setIfInBounds,if_neg (by omega)]
  ·cases j with
   | zero=>
    rw[Nat.add_zero,h4 o (by omega),Array.getElem?_setIfInBounds,if_pos rfl]
    simp;omega
   | succ j=>
    have:=h5 j (by simpa using hj)
    rw[show o+(j+1)=o+1+j by omega,this]
    rfl

theorem RowC.ofCells{α:Type}{B:Nat}{t k:Nat}{enc:α→List Value}(ok:EncOk enc k){w:World}{g cap:Nat}{xs:List α}{cur:Array Value}(h:w.heap[g]? = some (.cells cur t (0,0)))(hs:cur.size=cap*k)(hB:B≤g)(hl:xs.length≤cap)(hm:cap≤maxLen)(hc:∀j,j<xs.length*k→cur[j]? = (xs.flatMap enc)[j]?):
  RowC B t k enc w (.slice (some ⟨g,0,none⟩) xs.length cap) xs:=by
 refine⟨by rw[flat_length ok],.inr ⟨g,cap,cur,rfl,hB,h,hl,hm,hs,?_⟩⟩
 apply List.ext_getElem?
 intro j
 by_cases hj:j<xs.length*k
 ·rw[List.getElem?_take,if_pos hj,←hc j hj]
  simp
 ·rw[List.getElem?_take,if_neg hj,List.getElem?_eq_none (by rw[flat_length ok];omega)]

theorem RowC.cells9{α:Type}{B:Nat}{t k:Nat}{enc:α→List Value}{w:World}{g n cap:Nat}{xs:List α}(h:RowC B t k enc w (.slice (some ⟨g,0,none⟩) n cap) xs):∃cur:Array Value,w.heap[g]? = some (.cells cur t (0,0))∧cur.size=cap*k∧B≤g∧xs.length≤cap∧cap≤maxLen∧n=xs.length:=by
 rcases h.2 with⟨h',_⟩ | ⟨g',cap',cur,h',hb,hgg,hnc,hcm,hcs,htake⟩
 ·simp at h'
 ·simp only[Value.slice.injEq,Option.some.injEq,Addr.mk.injEq,and_true]at h'
  obtain⟨rfl,rfl,rfl⟩:=h'
  exact⟨cur,hgg,hcs,hb,hnc,hcm,rfl⟩

theorem run_clearV(w:World)(b o n c:Nat)(hn:0<n)(hc:∀j,j<n*3→(w.cell? ⟨b,o+j,none⟩).isSome=true)(hf:∀j,j<n*3→w.frozen? ⟨b,o+j,none⟩=false):
  ∃vs:List Value,vs.length=n*3∧∀ty,(Builtin.clear_ #[200] ty #[.slice (some ⟨b,o,none⟩) n c]).run Tryz.prog w=.ok (.tuple #[]) (w.setCells b o vs):=by
 have hvs:∀v∈(Builtin.zeroCells #[.int .i64 0,.bool false,.string ⟨#[]⟩] n).toList,v.oneCell'=true:=by
  intro v hv
  unfold Builtin.zeroCells at hv
  simp only[Array.toList_map,List.mem_map]at hv
  obtain⟨i,_,rfl⟩:=hv
  have h3:i % 3<3:=Nat.mod_lt _ (by decide)
  show(#[Value.int .i64 0,.bool false,.string ⟨#[]⟩][i % 3]!).oneCell'=true
  generalize i % 3=m at h3
  match m,h3 with
  | 0,_=>rfl
  | 1,_=>rfl
  | 2,_=>rfl
 have hlen:(Builtin.zeroCells #[.int .i64 0,.bool false,.string ⟨#[]⟩] n).toList.length=n*3:=by simp[Builtin.zeroCells]
 have hst:=run_storeCells_cells (P:=Tryz.prog) b o (Builtin.zeroCells #[.int .i64 0,.bool false,.string ⟨#[]⟩] n).toList 0 w (by rw[hlen];simpa using hc) (by rw[hlen];simpa using hf) hvs
 rw[Nat.add_zero]at hst
 have hz:(zeroValue 147).run Tryz.prog w=.ok (.agg #[.int .i64 0,.bool false,.string ⟨#[]⟩]) w:=by kernel_rfl
 refine⟨_,hlen,fun ty=>?_⟩
 obtain⟨m,rfl⟩:∃m,n=m+1:=⟨n-1,by omega⟩
 simp only[Builtin.clear_]
 simp[run_underlying Tryz.underlying200,hz,Value.cells,hst]

set_option maxHeartbeats 400000 in
theorem del_none(w:World)(a:Option Addr)(L cap:Nat)(hL:L≤cap):
  Calls Tryz.prog 191 #[.slice a L cap,.int .i64 0,.int .i64 0] w fun e w'=>e=.returned (.slice a L cap)∧w'=w:=by
 have h1:(L:Int)≤(cap:Int):=by omega
 cases a with
 | none=>
  go_enter Tryz.func191,Tryz.ntmps191
  go_wp2_with fail
  all_goals
   go_ret
   exact⟨rfl,rfl⟩
 | some a=>
  go_enter Tryz.func191,Tryz.ntmps191
  go_wp2_with fail
  all_goals
   go_ret
   exact⟨rfl,rfl⟩

theorem cell_raw{w:World}{g:Nat}{cur:Array Value}{t:TypeId}(h:w.heap[g]? = some (.cells cur t (0,0)))(j:Nat):w.cell? ⟨g,j,none⟩=cur[j]?:=Blk.cell h j

set_option maxRecDepth 100000 in
set_option maxHeartbeats 1000000 in
theorem del_any{N:Nat}{w:World}{g L cap n:Nat}{l:List Ver}(h:RowC N 147 3 verE w (.slice (some ⟨g,0,none⟩) L cap) l)(hn:0<n)(hnL:n≤L)(_hbig:L≤100000):
  Calls Tryz.prog 191 #[.slice (some ⟨g,0,none⟩) L cap,.int .i64 0,.int .i64 (n:Nat)] w fun e w'=>e=.returned (.slice (some ⟨g,0,none⟩) (L-n) cap)∧RowC N 147 3 verE w' (.slice (some ⟨g,0,none⟩) (L-n) cap) (l.drop n)∧Kept (·=g) w w':=by
 obtain⟨cur,hcur,hsz,hB,hlc,hmx,hLl⟩:=h.cells9
 obtain⟨m,hm⟩:∃m,m=L-n:=⟨_,rfl⟩
 have hdl:(l.drop n).length=m:=by rw[List.length_drop];omega
 have hfl:((l.drop n).flatMap verE).length=m*3:=by rw[flat_length verE_ok,hdl]
 have hcells:∀j u,((l.drop n).flatMap verE)[j]? = some u→w.cell? ⟨g,n*3+j,none⟩=some u:=by
  intro j u hu
  have hj:j<m*3:=by rw[←hfl];exact(List.getElem?_eq_some_iff.1 hu).1
  have h1:=RowC.cell verE_ok h (n+j / 3) (j % 3) (by omega) (Nat.mod_lt _ (by decide))
  have h2:=flat_get verE_ok (l.drop n) (j / 3) (j % 3) (by omega) (Nat.mod_lt _ (by decide))
  rw[show j / 3*3+j % 3=j by omega,hu]at h2
  rw[show(n+j / 3)*3+j % 3=n*3+j by omega]at h1
  rw[h1,h2]
  congr 2
  rw[List.getElem_drop]
 obtain⟨cur1,hcur1,hsz1,_,hin1⟩:=setCells_raw ((l.drop n).flatMap verE) w.drew g 0 cur 147 hcur (by rw[hfl,hsz];omega)
 obtain⟨w1,hw1⟩:∃W,W=w.drew.setCells g 0 ((l.drop n).flatMap verE):=⟨_,rfl⟩
 have hk1:Kept (·=g) w w1:=by rw[hw1];exact Kept.trans (F:=fun _=>False) (Kept.refl _ w).drew (setCells_keptC _ _ g 0) (fun _ _ f=>f.elim) (fun _ _ e=>e)
 rw[←hw1]at hcur1
 obtain⟨vs,hvs,hcl⟩:=run_clearV w1 g (m*3) n (cap-m) hn (fun j hj=>by
  rw[cell_raw hcur1,Array.getElem?_eq_getElem (by rw[hsz1,hsz];omega)]
  rfl) (fun j _=>Blk.frozen (cs:=cur1) hcur1 _)
 obtain⟨w2,hw2⟩:∃W,W=w1.setCells g (m*3) vs:=⟨_,rfl⟩
 rw[←hw2]at hcl
 have HF:Hid (RowC N 147 3 verE w2 (.slice (some ⟨g,0,none⟩) m cap) (l.drop n)∧Kept (·=g) w w2):=hid (by
  obtain⟨cur2,hcur2,hsz2,hbel2,_⟩:=setCells_raw vs w1 g (m*3) cur1 147 hcur1 (by rw[hvs,hsz1,hsz];omega)
  rw[←hw2]at hcur2
  refine⟨?_,Kept.trans hk1 (by rw[hw2];exact setCells_keptC vs w1 g (m*3)) (fun _ _ e=>e) (fun _ _ e=>e)⟩
  have h9:=RowC.ofCells (B:=N) verE_ok (xs:=l.drop n) (cap:=cap) hcur2 (by rw[hsz2,hsz1,hsz]) hB (by omega) hmx (fun j hj=>by
   rw[hdl]at hj
   rw[hbel2 j hj]
   have:=hin1 j (by rw[hfl];exact hj)
   rwa [Nat.zero_add]at this)
  rw[hdl]at h9
  exact h9)
 have hzr:∀j,j<m*3→(w.drew.cell? ⟨g,0+0*3+j,none⟩).isSome=true∧w.drew.frozen? ⟨g,0+0*3+j,none⟩=false:=fun j hj=>by
  refine⟨?_,Blk.frozen (w:=w) (cs:=cur) hcur _⟩
  show(w.cell? ⟨g,0+0*3+j,none⟩).isSome=true
  rw[cell_raw hcur,Array.getElem?_eq_getElem (by rw[hsz];omega)]
  rfl
 have HZR:=hid hzr
 have HFL:Hid (((l.drop n).flatMap verE).length=m*3∧(∀u∈(l.drop n).flatMap verE,u.oneCell'=true)):=hid ⟨hfl,flat_one verE_ok _⟩
 have HCE:=hid hcells
 obtain⟨i0,hi0,hz0,hz1,hz2⟩:=info_parts Tryz.infoVer
 have HI0:Hid (Tryz.prog.info? 147=some i0∧i0.size=3):=hid ⟨hi0,hz1⟩
 have a1:(n:Int)≤(L:Int):=by omega
 have a2:(L:Int)≤(cap:Int):=by omega
 have a3:¬(0:Int)=(n:Int):=by omega
 have a4:((0:Int)==(n:Int))=false:=by simp;omega
 have a5:L≤cap:=by omega
 have a6:n≤cap:=by omega
 have a7:(n:Int)≤(cap:Int):=by omega
 have a8:¬cap=m:=by omega
 have a9:(m:Int)≤(L:Int):=by omega
 have a10:L-m=n:=by omega
 have a11:m≤cap:=by omega
 have a12:(m:Int)≤(cap:Int):=by omega
 have HM:Hid (m=L-n∧m+n=L):=hid ⟨hm,by omega⟩
 have a13:L-n=m:=hm.symm
 rw[a13]
 have HW1:Hid (w1=w.drew.setCells g 0 ((l.drop n).flatMap verE)):=hw1
 clear hcells hcur hsz hB hlc hmx hLl hdl hfl hcur1 hsz1 hin1 hw1 hk1 hvs hw2 hzr hi0 hz0 hz1 hz2 h hm _hbig
 by_cases hcn:cap=n
 ·subst hcn
  have m0:m=0:=by have:=HM.out;omega
  subst m0
  have eL:L=cap:=by have:=HM.out;omega
  subst eL
  simp only[Nat.zero_mul,Nat.sub_zero]at hcl
  go_enter Tryz.func191,Tryz.ntmps191
  go_upto_region 5 with fail
  go_region_law (refine step_append_room (by rfl) (.tmp 22) (.tmp 25) 200 (by rfl) 147 i0 3 Tryz.underlying200 HI0.out.1 HI0.out.2 g 0 0 L (by rfl) ⟨g,0,none⟩ 0 0 ((l.drop L).flatMap verE) (by rfl) HFL.out.1 (fun j u hu=>by have h9:=(List.getElem?_eq_some_iff.1 hu).1;rw[HFL.out.1]at h9;omega) HFL.out.2 (by omega) (fun j hj=>HZR.out j (by rw[←HFL.out.1];exact hj)) ?_)
  rw[←HW1.out]
  go_wp2_with fail
  go_ret
  exact⟨rfl,HF.out⟩
 ·go_enter Tryz.func191,Tryz.ntmps191
  go_upto_region 5 with fail
  go_region_law (refine step_append_room (by rfl) (.tmp 22) (.tmp 25) 200 (by rfl) 147 i0 3 Tryz.underlying200 HI0.out.1 HI0.out.2 g 0 0 cap (by rfl) ⟨g,n*3,none⟩ m (cap-n) ((l.drop n).flatMap verE) (by rfl) HFL.out.1 (fun j u hu=>by have h9:=HCE.out j u hu;simpa[addAt]using h9) HFL.out.2 (by omega) (fun j hj=>HZR.out j (by rw[←HFL.out.1];exact hj)) ?_)
  rw[←HW1.out]
  go_wp2_with fail
  go_ret
  exact⟨rfl,HF.out⟩

end Go.Proofs.YtcfociogljhbiaaGreatDoor

namespace Go.Proofs.YtcfociogljhbiaaGreatDoor
open Go.RowKit Go.Maps Go.Sort

def goV(l:List Ver)(f:Int):Nat:=if (newV l f).there then upV l f-1 else upV l f

theorem goV_le(l:List Ver)(f:Int):goV l f≤l.length:=by
 have:=upV_le l f
 unfold goV
 split<;>omega

theorem goV_len(l:List Ver)(f:Int):(pruV l f).length+goV l f=l.length:=by
 have:=goV_le l f
 show(l.drop (goV l f)).length+goV l f=l.length
 rw[List.length_drop]
 omega

set_option maxRecDepth 100000 in
set_option maxHeartbeats 1000000 in
theorem cprune_any{N:Nat}{w:World}{ρ:Nat→Nat}{c:Nat}{l:List Ver}(h:ChAt N w ρ c l)(hr:RisV l)(hl:l.length≤100000)(hcc:ρ c≠10+c)(f:Int):
  Calls Tryz.prog 158 #[.pointer (some ⟨c,0,none⟩),.int .i64 f] w fun e w'=>e=.returned (.int .i64 (goV l f:Nat))∧ChB N w w' ρ c (pruV l f):=by
 have HU:=upTo_any h hr hl f
 have HN:Hid (∀w',Same w w'→Calls Tryz.prog 144 #[.pointer (some ⟨c,0,none⟩),.int .i64 f] w' fun e w2=>e=.returned (verV (newV l f))∧Same w' w2):=hid (fun w' hk=>newest_any (h.same hk) hr hl f)
 obtain⟨u,hu⟩:∃u,u=upV l f:=⟨_,rfl⟩
 obtain⟨g,hg⟩:∃g,g=goV l f:=⟨_,rfl⟩
 obtain⟨y,hy⟩:∃y,y=newV l f:=⟨_,rfl⟩
 have hgl:=goV_le l f
 have hth:y.there=true→u=g+1:=fun e=>by
  rw[hy]at e
  have h1:goV l f=upV l f-1:=if_pos e
  have h2:upV l f≠0:=fun e2=>by unfold newV at e;rw[if_pos e2]at e;cases e
  omega
 have hnt:y.there=false→u=g:=fun e=>by
  rw[hy]at e
  have h1:goV l f=upV l f:=if_neg (by rw[e];decide)
  omega
 have hpr:pruV l f=l.drop g:=by rw[hg];rfl
 rw[←hu]at HU
 rw[←hy]at HN
 rw[←hg]at hgl ⊢
 rw[hpr]
 obtain⟨v,hb,hrow,hown⟩:=h
 obtain⟨ao,cap,hv,hao,_,hcap,_⟩:=hrow.shape
 obtain⟨L,hL⟩:∃L,L=l.length:=⟨_,rfl⟩
 rw[←hL]at hv hl hgl hcap
 subst hv
 have HBL:Hid (Blk w c #[.slice ao L cap] 202):=hb
 have HRO:Hid (RowC N 147 3 verE w (.slice ao L cap) l):=hrow
 have HOW:Hid (∀k,(Value.slice ao L cap).ownBlock=some k→ρ k=10+c):=hown
 have HDL:Hid (∀w',Same w w'→Calls Tryz.prog 191 #[.slice ao L cap,.int .i64 0,.int .i64 (g:Nat)] w' fun e w2=>∃a2 n2 c2,e=.returned (.slice a2 n2 c2)∧RowC N 147 3 verE w2 (.slice a2 n2 c2) (l.drop g)∧Kept (fun k=>(Value.slice ao L cap).ownBlock=some k) w' w2∧(∀k,(Value.slice a2 n2 c2).ownBlock=some k→(Value.slice ao L cap).ownBlock=some k)):=hid (fun w' hk=>by
  by_cases g0:g=0
  ·subst g0
   refine(del_none w' ao L cap hcap).mono ?_
   rintro e w2 ⟨rfl,rfl⟩
   exact⟨_,_,_,rfl,by rw[List.drop_zero];exact HRO.out.kept hk (fun _ _ f=>f),Kept.refl _ _,fun _ e=>e⟩
  ·obtain⟨gb,hgb⟩:=hao (by intro e;rw[e]at hL;simp at hL;omega)
   subst hgb
   refine(del_any (HRO.out.kept hk (fun _ _ f=>f)) (by omega) hgl hl).mono ?_
   rintro e w2 ⟨rfl,h1,h2⟩
   exact⟨_,_,_,rfl,h1,h2.mono (fun k _ e=>by rw[e];rfl),fun _ e=>e⟩)
 have HCN:Hid (¬(Value.slice ao L cap).ownBlock=some c):=hid (fun e=>hcc (hown c e))
 have d0:w.cell? ⟨c,0,none⟩=some (.slice ao L cap):=hb.cell 0
 have HD0:=hid d0
 have fW:=fieldW
 have HTH:Hid ((y.there=true→u=g+1)∧(y.there=false→u=g)):=hid ⟨hth,hnt⟩
 have g9:g≤100000:=by omega
 clear hu hg hy hgl hth hnt hpr hb hrow hown hao hL hr hcc d0 hl hcap
 go_enter Tryz.func158,Tryz.ntmps158
 go_wp2_with fail
 refine HU.mono ?_
 rintro e w1 ⟨rfl,hk1⟩
 have HN1:=HN.out w1 hk1
 unfold verV at HN1
 have HK1:Hid (Same w w1):=hk1
 clear HU hk1
 go_wp2_with fail
 refine HN1.mono ?_
 rintro e w2 ⟨rfl,hk2⟩
 have HK2:Hid (Same w w2):=hid (HK1.out.trans hk2)
 clear HN1 hk2
 obtain⟨bt,hbt⟩:∃x,x=y.there:=⟨_,rfl⟩
 rw[←hbt]at HTH ⊢
 have d2:=HK2.out.cell HD0.out (fun f=>f)
 have HDL2:=HDL.out w2 HK2.out
 cases bt with
 | true=>
  obtain rfl:=HTH.out.1 rfl
  have q1:((g+1:Nat):Int)-1=(g:Int):=by omega
  have q1w:IntKind.i64.wrap (g:Int)=(g:Int):=by rw[IntKind.wrap_i64];omega
  clear hbt
  go_wp2_with fail
  refine HDL2.mono ?_
  rintro e w3 ⟨a2,n2,c2,rfl,h1,h2,h3⟩
  have b3:=HBL.out.kept (Kept.trans HK2.out h2 (fun _ _ f=>f.elim) (fun _ _ e=>e)) HCN.out
  have d3:=b3.cell 0
  have z3:=b3.frozen 0
  simp at d3
  have HF:Hid (RowC N 147 3 verE w3 (.slice a2 n2 c2) (l.drop g)∧Kept (fun k=>(Value.slice ao L cap).ownBlock=some k) w w3∧(∀k,(Value.slice a2 n2 c2).ownBlock=some k→(Value.slice ao L cap).ownBlock=some k)∧Blk w3 c #[.slice ao L cap] 202):=hid ⟨h1,Kept.trans HK2.out h2 (fun _ _ f=>f.elim) (fun _ _ e=>e),h3,b3⟩
  clear h1 h2 h3 b3 HDL2
  go_wp2_with fail
  go_ret
  refine⟨rfl,.slice a2 n2 c2,?_,?_,fun k e=>.inl (HOW.out k (HF.out.2.2.1 k e)),?_⟩
  ·have h9:=HF.out.2.2.2.set 0 (.slice a2 n2 c2)
   simpa using h9
  ·exact HF.out.1.kept (F:=(·=c)) ((Kept.refl _ _).setCell _ _ (.inl rfl)) (fun j e e2=>by subst e2;exact HCN.out (HF.out.2.2.1 j e))
  ·exact(HF.out.2.1.mono (G:=fun k=>k=c∨ρ k=10+c) (fun k _ e=>.inr (HOW.out k e))).setCell _ _ (.inl (.inl rfl))
 | false=>
  obtain rfl:=HTH.out.2 rfl
  clear hbt
  go_wp2_with fail
  refine HDL2.mono ?_
  rintro e w3 ⟨a2,n2,c2,rfl,h1,h2,h3⟩
  have b3:=HBL.out.kept (Kept.trans HK2.out h2 (fun _ _ f=>f.elim) (fun _ _ e=>e)) HCN.out
  have d3:=b3.cell 0
  have z3:=b3.frozen 0
  simp at d3
  have HF:Hid (RowC N 147 3 verE w3 (.slice a2 n2 c2) (l.drop u)∧Kept (fun k=>(Value.slice ao L cap).ownBlock=some k) w w3∧(∀k,(Value.slice a2 n2 c2).ownBlock=some k→(Value.slice ao L cap).ownBlock=some k)∧Blk w3 c #[.slice ao L cap] 202):=hid ⟨h1,Kept.trans HK2.out h2 (fun _ _ f=>f.elim) (fun _ _ e=>e),h3,b3⟩
  clear h1 h2 h3 b3 HDL2
  go_wp2_with fail
  go_ret
  refine⟨rfl,.slice a2 n2 c2,?_,?_,fun k e=>.inl (HOW.out k (HF.out.2.2.1 k e)),?_⟩
  ·have h9:=HF.out.2.2.2.set 0 (.slice a2 n2 c2)
   simpa using h9
  ·exact HF.out.1.kept (F:=(·=c)) ((Kept.refl _ _).setCell _ _ (.inl rfl)) (fun j e e2=>by subst e2;exact HCN.out (HF.out.2.2.1 j e))
  ·exact(HF.out.2.1.mono (G:=fun k=>k=c∨ρ k=10+c) (fun k _ e=>.inr (HOW.out k e))).setCell _ _ (.inl (.inl rfl))

end Go.Proofs.YtcfociogljhbiaaGreatDoor
