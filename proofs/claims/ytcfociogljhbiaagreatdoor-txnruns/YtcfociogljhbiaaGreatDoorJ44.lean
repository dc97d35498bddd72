/-
  Of the proof: parts UdK, UdL, UdM, UdN, UdO.
-/
import Derived.Test.YtcfociogljhbiaaGreatDoorJ41
import Derived.Test.YtcfociogljhbiaaGreatDoorJ43
import Derived.Test.YtcfociogljhbiaaGreatDoorJ25
import Derived.Test.YtcfociogljhbiaaGreatDoorJ38

namespace Go.Proofs.YtcfociogljhbiaaGreatDoor
open Go.RowKit Go.Maps Go.Sort Go.Shelf Go.Lib

theorem load_c14{ty:TypeId}{d:TypeDesc}(hu:Tryz.prog.underlying ty=some d)(hd:(match d with | .struct _ | .array _ _=>true | _=>false)=false){W:World}{a:Addr}{v:Value}(hc:W.cell? a=some v):(loadVar ty a).run Tryz.prog W=.ok v W:=by
 have hagg:(isAgg ty).run Tryz.prog W=.ok false W:=by
  unfold isAgg
  rw[Sem.run_bind,run_underlying hu W]
  cases d<;>simp_all
 simp[loadVar,Sem.run_bind,hagg,hc]

theorem Tryz.infoSt14:(Tryz.prog.info? 96).map (fun i=>(i.zero,i.size,i.bytes))=some (some (.slice none 0 0),1,24):=by kernel_rfl
theorem Tryz.infoWs14:(Tryz.prog.info? 57).map (fun i=>(i.zero,i.size,i.bytes))=some (some (.slice none 0 0),1,24):=by kernel_rfl

theorem rm_addS{X X' B:Nat}{w wA w9:World}{p:Nat}{R:Ri}(h:Rm X B w p R){z:Sq Et}{a9:Option Addr}{n9 c9:Nat}(hr:RowC B 96 1 sqE w9 (.slice a9 n9 c9) (R.s.l++[z]))(hk:Kept (fun j=>R.s.v.ownBlock=some j) wA w9)(hb:∀j,(Value.slice a9 n9 c9).ownBlock=some j→R.s.v.ownBlock=some j∨wA.heap.size≤j)(hs:Same w wA)(hz:RowC B 150 4 etE wA z.v z.l)(hzo:∀k,z.v.ownBlock=some k→Rown R p k∨w.heap.size≤k)(hX:X≤X')(hl:R.s.l.length+1≤X'∧z.l.length≤X'):
  RmA X' B w p R {R with s:=⟨a9,n9,c9,R.s.l++[z]⟩} (w9.setCell ⟨p,1,none⟩ (.slice a9 n9 c9)):=by
 have hA:=(h.same hs).more hX
 have hb9:Blk w9 p #[.int .i64 R.first,R.s.v,R.w.v,R.t.v,.int .i64 R.nx] 103:=hA.blk.kept hk (fun e=>hA.rs.offB hA.blk (by decide) e)
 have hkp:Kept (·=p) w9 (w9.setCell ⟨p,1,none⟩ (.slice a9 n9 c9)):=(Kept.refl _ w9).setCell _ _ (.inl rfl)
 have hko:Kept (Outs R p) wA (w9.setCell ⟨p,1,none⟩ (.slice a9 n9 c9)):=Kept.trans hk hkp (fun _ _ e=>.inr (.inl e)) (fun _ _ e=>.inl e)
 have hb2:Blk (w9.setCell ⟨p,1,none⟩ (.slice a9 n9 c9)) p #[.int .i64 R.first,.slice a9 n9 c9,R.w.v,R.t.v,.int .i64 R.nx] 103:=by simpa using hb9.set 1 (.slice a9 n9 c9)
 have hrow:∀{α:Type} {t k:Nat} {en:α→List Value} {v:Value} {xs:List α},RowC B t k en wA v xs→t≠103→t≠96→RowC B t k en (w9.setCell ⟨p,1,none⟩ (.slice a9 n9 c9)) v xs:=fun hr' n1 n2=>(hr'.kept hk (fun j e q=>hr'.offR hA.rs n2 j e q)).kept hkp (fun j e q=>hr'.offB hA.blk n1 (by rw[←q];exact e))
 refine⟨⟨hb2,hr.kept hkp (fun j e q=>hr.offB hb9 (by decide) (by rw[←q];exact e)),fun y hy=>?_,hrow hA.rw (by decide) (by decide),fun y hy=>hrow (hA.wi y hy) (by decide) (by decide),hrow hA.rt (by decide) (by decide),fun y hy=>hA.outs_t hko hy,h.ap,h.low,?_⟩,fun k e=>?_,Kept.trans hs hko (fun _ _ f=>f.elim) (fun _ _ e=>e.own)⟩
 ·rcases List.mem_append.1 hy with e | e
  ·exact hrow (hA.ri y e) (by decide) (by decide)
  ·rw[List.mem_singleton.1 e];exact hrow hz (by decide) (by decide)
 ·have:=hA.big
  refine⟨?_,this.2.1,this.2.2.1,fun y hy=>?_,this.2.2.2.2⟩
  ·show(R.s.l++[z]).length≤X'
   rw[List.length_append]
   exact hl.1
  ·rcases List.mem_append.1 hy with e | e
   ·exact this.2.2.2.1 y e
   ·rw[List.mem_singleton.1 e];exact hl.2
 ·rcases e with e | e | ⟨y,hy,e⟩ | e | e | e | e
  ·exact .inl (.inl e)
  ·rcases hb k e with q | q
   ·exact .inl (.inr (.inl q))
   ·exact .inr (Nat.le_trans hs.size q)
  ·rcases List.mem_append.1 hy with q | q
   ·exact .inl (.inr (.inr (.inl ⟨y,q,e⟩)))
   ·rw[List.mem_singleton.1 q]at e;exact hzo k e
  ·exact .inl (.inr (.inr (.inr (.inl e))))
  ·exact .inl (.inr (.inr (.inr (.inr (.inl e)))))
  ·exact .inl (.inr (.inr (.inr (.inr (.inr (.inl e))))))
  ·exact .inl (.inr (.inr (.inr (.inr (.inr (.inr e))))))

theorem rm_addW{X B:Nat}{w wA w9:World}{p:Nat}{R:Ri}(h:Rm X B w p R){z:Sq Wr}{a9:Option Addr}{n9 c9:Nat}(hr:RowC B 57 1 sqE w9 (.slice a9 n9 c9) (R.w.l++[z]))(hk:Kept (fun j=>R.w.v.ownBlock=some j) wA w9)(hb:∀j,(Value.slice a9 n9 c9).ownBlock=some j→R.w.v.ownBlock=some j∨wA.heap.size≤j)(hs:Same w wA)(hz:RowC B 65 5 wrE wA z.v z.l)(hl:R.w.l.length+1≤X∧z.l.length≤X):
  Rm X B (w9.setCell ⟨p,2,none⟩ (.slice a9 n9 c9)) p {R with w:=⟨a9,n9,c9,R.w.l++[z]⟩}∧(∀k,Rown {R with w:=⟨a9,n9,c9,R.w.l++[z]⟩} p k→Rown R p k∨w.heap.size≤k∨z.v.ownBlock=some k)∧Kept (Rown R p) w (w9.setCell ⟨p,2,none⟩ (.slice a9 n9 c9)):=by
 have hA:=h.same hs
 have hb9:Blk w9 p #[.int .i64 R.first,R.s.v,R.w.v,R.t.v,.int .i64 R.nx] 103:=hA.blk.kept hk (fun e=>hA.rw.offB hA.blk (by decide) e)
 have hkp:Kept (·=p) w9 (w9.setCell ⟨p,2,none⟩ (.slice a9 n9 c9)):=(Kept.refl _ w9).setCell _ _ (.inl rfl)
 have hko:Kept (Outs R p) wA (w9.setCell ⟨p,2,none⟩ (.slice a9 n9 c9)):=Kept.trans hk hkp (fun _ _ e=>.inr (.inr (.inl e))) (fun _ _ e=>.inl e)
 have hb2:Blk (w9.setCell ⟨p,2,none⟩ (.slice a9 n9 c9)) p #[.int .i64 R.first,R.s.v,.slice a9 n9 c9,R.t.v,.int .i64 R.nx] 103:=by simpa using hb9.set 2 (.slice a9 n9 c9)
 have hrow:∀{α:Type} {t k:Nat} {en:α→List Value} {v:Value} {xs:List α},RowC B t k en wA v xs→t≠103→t≠57→RowC B t k en (w9.setCell ⟨p,2,none⟩ (.slice a9 n9 c9)) v xs:=fun hr' n1 n2=>(hr'.kept hk (fun j e q=>hr'.offR hA.rw n2 j e q)).kept hkp (fun j e q=>hr'.offB hA.blk n1 (by rw[←q];exact e))
 refine⟨⟨hb2,hrow hA.rs (by decide) (by decide),fun y hy=>hrow (hA.ri y hy) (by decide) (by decide),hr.kept hkp (fun j e q=>hr.offB hb9 (by decide) (by rw[←q];exact e)),fun y hy=>?_,hrow hA.rt (by decide) (by decide),fun y hy=>hA.outs_t hko hy,h.ap,h.low,?_⟩,fun k e=>?_,Kept.trans hs hko (fun _ _ f=>f.elim) (fun _ _ e=>e.own)⟩
 ·rcases List.mem_append.1 hy with e | e
  ·exact hrow (hA.wi y e) (by decide) (by decide)
  ·rw[List.mem_singleton.1 e];exact hrow hz (by decide) (by decide)
 ·have:=hA.big
  refine⟨this.1,?_,this.2.2.1,this.2.2.2.1,fun y hy=>?_⟩
  ·show(R.w.l++[z]).length≤X
   rw[List.length_append]
   exact hl.1
  ·rcases List.mem_append.1 hy with e | e
   ·exact this.2.2.2.2 y e
   ·rw[List.mem_singleton.1 e];exact hl.2
 ·rcases e with e | e | e | e | ⟨y,hy,e⟩ | e | e
  ·exact .inl (.inl e)
  ·exact .inl (.inr (.inl e))
  ·exact .inl (.inr (.inr (.inl e)))
  ·rcases hb k e with q | q
   ·exact .inl (.inr (.inr (.inr (.inl q))))
   ·exact .inr (.inl (Nat.le_trans hs.size q))
  ·rcases List.mem_append.1 hy with q | q
   ·exact .inl (.inr (.inr (.inr (.inr (.inl ⟨y,q,e⟩)))))
   ·rw[List.mem_singleton.1 q]at e;exact .inr (.inr e)
  ·exact .inl (.inr (.inr (.inr (.inr (.inr (.inl e))))))
  ·exact .inl (.inr (.inr (.inr (.inr (.inr (.inr e))))))

def RcmA(X B:Nat)(w:World)(p:Nat)(R:Ri)(last:Sq Et)(f:Vf)(n:Int)(e:Ending)(w':World):Prop:=∃(t er:Int) (xs:List Wr),RckT R.abs f n t er xs∧e=.returned (.tuple #[.int .i64 t,.int .i64 er])∧∃t':Sq Ti,t'.l=R.t.l.filter (fun x=>!decide (x.num=n)) ∧
 ((xs=[]∧RmA X B w p R {R with t:=t'} w')∨(xs≠[]∧∃(s':Sq (Sq Et)) (w'':Sq (Sq Wr)) (zs:Sq Et) (zw:Sq Wr),s'.l=R.s.l++[zs]∧zs.l=allL xs last.l∧w''.l=R.w.l++[zw]∧zw.l=xs∧RmA (X+xs.length+1) B w p R {R with t:=t',s:=s',w:=w''} w'))

theorem RckT.fine{P:Rs14}{f:Vf}{n t er:Int}{xs:List Wr}(h:RckT P f n t er xs):(er≠0→t=0∧xs=[])∧(xs=[]→t=0):=by
 rcases h with⟨_,rfl,rfl,rfl⟩ | ⟨x,_,_,⟨_,rfl,rfl,rfl⟩ | ⟨_,_,rfl,rfl,rfl⟩ | ⟨h1,_,D,_,⟨_,rfl,rfl,rfl⟩ | ⟨_,rfl,_,rfl⟩⟩⟩
 ·exact⟨fun _=>⟨rfl,rfl⟩,fun _=>rfl⟩
 ·exact⟨fun _=>⟨rfl,rfl⟩,fun _=>rfl⟩
 ·exact⟨fun _=>⟨rfl,rfl⟩,fun _=>rfl⟩
 ·exact⟨fun _=>⟨rfl,rfl⟩,fun _=>rfl⟩
 ·exact⟨fun q=>absurd rfl q,fun q=>absurd q h1⟩

set_option maxRecDepth 100000 in
set_option maxHeartbeats 8000000 in
theorem rcommit14{X B:Nat}{w:World}{p:Nat}{R:Ri}(h:Rm X B w p R)(hX:X≤40000)(hB:B≤w.heap.size)(num:Int){m:Nat}{last:Sq Et}(hlast:R.s.l[m]? = some last)(hm:R.s.l.length=m+1){f:Vf}(hxl:∀t er xs,RckT R.abs f num t er xs→xs.length≤X)(hck:Calls Tryz.prog 46 #[.pointer (some ⟨p,0,none⟩),.int .i64 num] w fun e w'=>RckA w R.abs f num e w'):Calls Tryz.prog 48 #[.pointer (some ⟨p,0,none⟩),.int .i64 num] w fun e w'=>RcmA X B w p R last f num e w':=by
 have HM:=hid h
 have HBB:=hid hB
 have HXX:=hid hX
 have HXL:=hid hxl
 have HLS:Hid (R.s.l[m]? = some last∧R.s.l.length=m+1∧last.l.length≤X):=hid ⟨hlast,hm,by
  obtain⟨hs,e⟩:=List.getElem?_eq_some_iff.1 hlast
  have:=h.big.2.2.2.1 _ (List.getElem_mem hs)
  rw[e]at this
  exact this⟩
 clear h hX hB hlast hm hxl
 go_enter Tryz.func48,Tryz.ntmps48
 go_wp2_with fail
 refine hck.mono ?_
 rintro e w1 ⟨hk1,t,ca,cn,cc,er,xs,rfl,hck2,hrow1⟩
 have HK1:=hid hk1
 have HCK:=hid hck2
 have HR1:=hid hrow1
 clear hck hk1 hck2 hrow1
 obtain⟨w2,hw2⟩:∃W,W=w1.alloc (.cells #[.int .i64 t,.slice ca cn cc] 59):=⟨_,rfl⟩
 obtain⟨cb,hcb⟩:∃g,g=w1.heap.size:=⟨_,rfl⟩
 have HB2:Hid (Blk w2 cb #[.int .i64 t,.slice ca cn cc] 59∧Same w w2∧Same w1 w2∧w.heap.size≤cb):=hid (by rw[hw2,hcb];exact⟨Blk.new w1 _ _,HK1.out.trans ((Kept.refl _ _).alloc _),(Kept.refl _ _).alloc _,HK1.out.size⟩)
 have HCL:=rclose14 (HM.out.same HB2.out.2.1) (Nat.le_trans HBB.out HB2.out.2.1.size) num
 rw[hw2]at HCL
 go_wp2_with fail
 refine HCL.mono ?_
 rintro e w3 ⟨rfl,t',ht',hrm3,hown3,hk3⟩
 rw[←hw2]at hk3 hown3
 rw[←hcb]
 have HT3:=hid ht'
 have HA3:Hid (RmA X B w p R {R with t:=t'} w3):=hid (RmA.pre HB2.out.2.1 ⟨hrm3,hown3,hk3.mono (fun _ _ e=>.inl e)⟩)
 have hncb:¬cb=p:=fun e=>by have:=(HM.out).blk.lt;have:=HB2.out.2.2.2;omega
 have HB3:Hid (Blk w3 cb #[.int .i64 t,.slice ca cn cc] 59∧RowC w.heap.size 65 5 wrE w3 (.slice ca cn cc) xs∧cb≠p):=hid ⟨HB2.out.1.kept hk3 hncb,(HR1.out.kept HB2.out.2.2.1 (fun _ _ f=>f)).kept hk3 (fun j e q=>by have:=HR1.out.ge e;have:=(HM.out).blk.lt;have q:j=p:=q;omega),hncb⟩
 clear HCL ht' hrm3 hown3 hk3 hw2 hcb hncb
 have m0:w3.cell? ⟨cb,0,none⟩=some (.int .i64 t):=HB3.out.1.cell 0
 have m1:w3.cell? ⟨cb,1,none⟩=some (.slice ca cn cc):=HB3.out.1.cell 1
 have HFN:=hid HCK.out.fine
 have HCN:Hid (cn=xs.length):=hid (row_len HB3.out.2.1)
 by_cases her:er=0
 ·subst her
  by_cases hz:cn=0
  ·subst hz
   have HXE:Hid (xs=[]):=hid (List.eq_nil_of_length_eq_zero HCN.out.symm)
   go_wp2_with fail
   go_ret2
   exact⟨t,0,xs,HCK.out,rfl,t',HT3.out,.inl ⟨HXE.out,HA3.out⟩⟩
  ·have d1:decide ((0:Int)<(cn:Int))=true:=decide_eq_true (by omega)
   have d2:decide (0<cn)=true:=decide_eq_true (by omega)
   have HXE:Hid (xs≠[]):=hid (fun e=>by have:=HCN.out;rw[e]at this;simp at this;omega)
   have HXS:Hid (xs.length≤X):=hid (HXL.out _ _ _ HCK.out)
   clear hz
   obtain⟨R3,hR3⟩:∃R3:Ri,R3={R with t:=t'}:=⟨_,rfl⟩
   have HRM3:Hid (Rm X B w3 p R3):=hid (by rw[hR3];exact HA3.out.rm)
   have HE3:=hid hR3
   have HS3:Hid (R3.s.l[m]? = some last∧R3.s.l.length=m+1):=hid (by rw[hR3];exact⟨HLS.out.1,HLS.out.2.1⟩)
   clear hR3
   have c1:=HRM3.out.cell1.2.1
   have HSN:Hid (R3.s.v=.slice R3.s.a R3.s.n R3.s.c):=hid rfl
   have HST:Hid (∀w',Same w3 w'→Calls Tryz.prog 53 #[.pointer (some ⟨p,0,none⟩)] w' fun e w2=>e=.returned (.slice last.a last.n last.c)∧Same w' w2):=hid (fun w' hk=>(rstate14 (HRM3.out.same hk) (by have:=HXX.out;omega) m HS3.out.2).mono (fun e w2 h9=>by
    obtain⟨hs,hl⟩:=List.getElem?_eq_some_iff.1 HS3.out.1
    exact⟨by rw[h9.1,hl];rfl,h9.2⟩))
   have HAL:Hid (∀w',Same w3 w'→Calls Tryz.prog 90 #[.slice last.a last.n last.c,.slice ca cn cc] w' fun e w2=>∃va vn vc,e=.returned (.slice va vn vc)∧RowC B 150 4 etE w2 (.slice va vn vc) (allL xs last.l)∧Same w' w2∧(∀k,(Value.slice va vn vc).ownBlock=some k→Rown R3 p k∨w3.heap.size≤k)):=hid (fun w' hk=>by
    obtain⟨hs,hl⟩:=List.getElem?_eq_some_iff.1 HS3.out.1
    have hm':=HRM3.out.same hk
    have hrl:RowC B 150 4 etE w' (.slice last.a last.n last.c) last.l:=by have:=hm'.ri _ (List.getElem_mem hs);rw[hl]at this;exact this
    have hrw:=HB3.out.2.1.kept hk (fun _ _ f=>f)
    have hBw:B≤w'.heap.size:=Nat.le_trans HBB.out (Nat.le_trans HA3.out.kept.size hk.size)
    refine(rall14b w' B last.a last.n last.c last.l hrl hBw ca cn cc xs ((SrcC.ofRow wrE_ok hrw).mono (fun j e=>hrw.lt e)) (by have:=HLS.out;have:=HXS.out;have:=HXX.out;omega)).mono (fun e w2 h9=>?_)
    obtain⟨v,rfl,hr,hk2,ho⟩:=h9
    obtain⟨va,vc,hv,_⟩:=hr.shape
    subst hv
    refine⟨va,_,vc,rfl,hr,hk2,fun k e=>?_⟩
    rcases ho k e with q | q
    ·exact .inl (.inr (.inr (.inl ⟨last,List.mem_of_getElem? HS3.out.1,q⟩)))
    ·exact .inr (Nat.le_trans hk.size q))
   clear m0
   go_upto_region 6 with fail
   clear m1 c1
   have HSd:Hid (w3.drew.cell? ⟨p,1,none⟩=some (.slice R3.s.a R3.s.n R3.s.c)∧w3.drew.cell? ⟨cb,1,none⟩=some (.slice ca cn cc)):=hid ⟨(show Same w3 w3.drew from(Kept.refl _ _).drew).cell HRM3.out.cell1.2.1 (fun f=>f),(HB3.out.1.kept (show Same w3 w3.drew from(Kept.refl _ _).drew) (fun f=>f)).cell 1⟩
   refine wp_region_T (fun W'=>W'.cell? ⟨p,1,none⟩=some (.slice R3.s.a R3.s.n R3.s.c)∧W'.cell? ⟨cb,1,none⟩=some (.slice ca cn cc)) 14 15 (by kernel_rfl) rfl ?_
   refine AnyT.take (i:=0) (.pointer (some ⟨p,0,none⟩)) rfl (by kernel_rfl) (by kernel_rfl) (by kernel_rfl) (by decide) (by kernel_rfl) (fun _ _ _ h=>h) rfl (fun _ _=>rfl) HSd.out ?_
   simp only[List.getElem_toArray,List.getElem_cons_zero,Act.put,List.setIfInBounds_toArray,List.set_cons_zero,List.set_cons_succ]
   refine AnyT.take (i:=1) (.pointer (some ⟨p,0,none⟩)) rfl (by kernel_rfl) (by kernel_rfl) (by kernel_rfl) (by decide) (by kernel_rfl) (fun _ _ _ h=>h) rfl (fun _ _=>rfl) HSd.out ?_
   simp only[List.getElem_toArray,List.getElem_cons_succ,List.getElem_cons_zero,Act.put,List.setIfInBounds_toArray,List.set_cons_zero,List.set_cons_succ]
   refine AnyT.take (i:=2) (.pointer (some ⟨p,0,none⟩)) rfl (by kernel_rfl) (by kernel_rfl) (by kernel_rfl) (by decide) (by kernel_rfl) (fun _ _ _ h=>h) rfl (fun _ _=>rfl) HSd.out ?_
   simp only[List.getElem_toArray,List.getElem_cons_succ,List.getElem_cons_zero,Act.put,List.setIfInBounds_toArray,List.set_cons_zero,List.set_cons_succ]
   refine AnyT.take (i:=3) (.pointer (some ⟨p,1,none⟩)) rfl (by kernel_rfl) (by kernel_rfl) (by kernel_rfl) (by decide) (by kernel_rfl) (fun _ _ _ h=>h) rfl (fun _ _=>by go_simp) HSd.out ?_
   simp only[List.getElem_toArray,List.getElem_cons_succ,List.getElem_cons_zero,Act.put,List.setIfInBounds_toArray,List.set_cons_zero,List.set_cons_succ]
   refine AnyT.take (i:=4) (.slice R3.s.a R3.s.n R3.s.c) rfl (by kernel_rfl) (by kernel_rfl) (by kernel_rfl) (by decide) (by kernel_rfl) (fun _ _ _ h=>h) rfl (fun _ hSw=>run_load_op _ rfl (load_c14 Tryz.underlying99 rfl hSw.1)) HSd.out ?_
   simp only[List.getElem_toArray,List.getElem_cons_succ,List.getElem_cons_zero,Act.put,List.setIfInBounds_toArray,List.set_cons_zero,List.set_cons_succ]
   refine AnyT.take (i:=5) (.pointer (some ⟨p,0,none⟩)) rfl (by kernel_rfl) (by kernel_rfl) (by kernel_rfl) (by decide) (by kernel_rfl) (fun _ _ _ h=>h) rfl (fun _ _=>rfl) HSd.out ?_
   simp only[List.getElem_toArray,List.getElem_cons_succ,List.getElem_cons_zero,Act.put,List.setIfInBounds_toArray,List.set_cons_zero,List.set_cons_succ]
   refine AnyT.take (i:=7) (.pointer (some ⟨cb,1,none⟩)) rfl (by kernel_rfl) (by kernel_rfl) (by kernel_rfl) (by decide) (by kernel_rfl) (fun _ _ _ h=>h) rfl (fun _ _=>by go_simp) HSd.out ?_
   simp only[List.getElem_toArray,List.getElem_cons_succ,List.getElem_cons_zero,Act.put,List.setIfInBounds_toArray,List.set_cons_zero,List.set_cons_succ]
   refine AnyT.take (i:=8) (.slice ca cn cc) rfl (by kernel_rfl) (by kernel_rfl) (by kernel_rfl) (by decide) (by kernel_rfl) (fun _ _ _ h=>h) rfl (fun _ hSw=>run_load_op _ rfl (load_c14 Tryz.underlying57 rfl hSw.2)) HSd.out ?_
   simp only[List.getElem_toArray,List.getElem_cons_succ,List.getElem_cons_zero,Act.put,List.setIfInBounds_toArray,List.set_cons_zero,List.set_cons_succ]
   refine AnyT.one 6 rfl (by kernel_rfl) ?_
   refine step_callC rfl 53 #[.pointer (some ⟨p,0,none⟩)] (by simp[go_sem]) _ (HST.out _ ((Kept.refl _ _).drew)) ?_
   rintro e w5 ⟨rfl,hk5⟩
   have HK5:Hid (Same w3 w5):=hid (Kept.undrewC hk5)
   have HS5:Hid (w5.cell? ⟨p,1,none⟩=some (.slice R3.s.a R3.s.n R3.s.c)∧w5.cell? ⟨cb,1,none⟩=some (.slice ca cn cc)):=hid ⟨(HRM3.out.same HK5.out).cell1.2.1,(HB3.out.1.kept HK5.out (fun f=>f)).cell 1⟩
   clear hk5
   refine⟨_,rfl,fun _=>HS5.out,?_⟩
   simp only[List.getElem_toArray,List.getElem_cons_succ,List.getElem_cons_zero,Act.put,List.setIfInBounds_toArray,List.set_cons_zero,List.set_cons_succ]
   refine AnyT.one 9 rfl (by kernel_rfl) ?_
   refine step_callC rfl 90 #[.slice last.a last.n last.c,.slice ca cn cc] (by simp[go_sem]) _ (HAL.out _ HK5.out) ?_
   rintro e w6 ⟨va,vn,vc,rfl,hrow6,hk6,hown6⟩
   have HK6:Hid (Same w3 w6):=hid (HK5.out.trans hk6)
   have HS6:Hid (w6.cell? ⟨p,1,none⟩=some (.slice R3.s.a R3.s.n R3.s.c)∧w6.cell? ⟨cb,1,none⟩=some (.slice ca cn cc)):=hid ⟨(HRM3.out.same HK6.out).cell1.2.1,(HB3.out.1.kept HK6.out (fun f=>f)).cell 1⟩
   have HR6:=hid hrow6
   have HO6:=hid hown6
   clear hk6 hrow6 hown6
   refine⟨_,rfl,fun _=>HS6.out,?_⟩
   simp only[List.getElem_toArray,List.getElem_cons_succ,List.getElem_cons_zero,Act.put,List.setIfInBounds_toArray,List.set_cons_zero,List.set_cons_succ]
   obtain⟨zs,hzs⟩:∃z:Sq Et,z=⟨va,vn,vc,allL xs last.l⟩:=⟨_,rfl⟩
   obtain⟨WA,hWA⟩:∃W,W=w6.alloc (.cells #[.slice va vn vc] 96):=⟨_,rfl⟩
   have HKA:Hid (Same w3 WA∧Same w6 WA):=hid (by rw[hWA];exact⟨HK6.out.trans ((Kept.refl _ _).alloc _),(Kept.refl _ _).alloc _⟩)
   have HCA:Hid (CellsAt WA ⟨w6.heap.size,0,none⟩ ([zs].flatMap sqE)):=hid (by rw[hWA,hzs];exact cellsAt_new w6 _ _)
   have HZS:=hid hzs
   have HSA:Hid (WA.cell? ⟨p,1,none⟩=some (.slice R3.s.a R3.s.n R3.s.c)∧WA.cell? ⟨cb,1,none⟩=some (.slice ca cn cc)):=hid ⟨(HRM3.out.same HKA.out.1).cell1.2.1,(HB3.out.1.kept HKA.out.1 (fun f=>f)).cell 1⟩
   refine AnyT.one 10 rfl (by kernel_rfl) ?_
   refine step_value rfl (.slice (some ⟨w6.heap.size,0,none⟩) 1 1) (w':=WA) (by rw[hWA];go_simp) ⟨fun _=>HSA.out,?_⟩
   simp only[List.getElem_toArray,List.getElem_cons_succ,List.getElem_cons_zero,Act.put,List.setIfInBounds_toArray,List.set_cons_zero,List.set_cons_succ]
   refine AnyT.one 11 rfl (by kernel_rfl) ?_
   refine step_appendC sqE 1 sqE_ok B 99 96 (.slice none 0 0) 24 Tryz.underlying99 Tryz.infoSt14 rfl (by decide) rfl (.tmp 28) (.tmp 34) rfl (.slice R3.s.a R3.s.n R3.s.c) R3.s.l rfl ((HRM3.out.same HKA.out.1).rs) ⟨w6.heap.size,0,none⟩ 1 1 [zs] rfl rfl HCA.out (by have:=HRM3.out.big;have:=HXX.out;simp;omega) (by have:=HKA.out.1.size;have:=HA3.out.kept.size;have:=HBB.out;omega) ?_
   intro v9 w9 hr9 hg9 hb9
   have hk9:Kept (fun j=>R3.s.v.ownBlock=some j) WA w9:=(Kept.refl _ _).grown hg9 (fun j e=>.inl e)
   have hbk9:Blk w9 p #[.int .i64 R3.first,R3.s.v,R3.w.v,R3.t.v,.int .i64 R3.nx] 103:=(HRM3.out.same HKA.out.1).blk.kept hk9 (fun e=>(HRM3.out.same HKA.out.1).rs.offB (HRM3.out.same HKA.out.1).blk (by decide) e)
   have hbc9:Blk w9 cb #[.int .i64 t,.slice ca cn cc] 59:=(HB3.out.1.kept HKA.out.1 (fun f=>f)).kept hk9 (fun e=>(HRM3.out.same HKA.out.1).rs.offB (HB3.out.1.kept HKA.out.1 (fun f=>f)) (by decide) e)
   have z9:=hbk9.frozen 1
   have d9:w9.cell? ⟨p,1,none⟩=some (.slice R3.s.a R3.s.n R3.s.c):=hbk9.cell 1
   have HS9:Hid (w9.cell? ⟨p,1,none⟩=some (.slice R3.s.a R3.s.n R3.s.c)∧w9.cell? ⟨cb,1,none⟩=some (.slice ca cn cc)):=hid ⟨d9,hbc9.cell 1⟩
   obtain⟨a9,n9,q9,e9⟩:∃a n q,v9=Value.slice a n q:=by
    obtain⟨a,q,e,_⟩:=hr9.shape
    exact⟨a,_,q,e⟩
   subst e9
   have HF9:Hid (RmA (X+xs.length+1) B w3 p R3 {R3 with s:=⟨a9,n9,q9,R3.s.l++[zs]⟩} (w9.setCell ⟨p,1,none⟩ (.slice a9 n9 q9))∧Blk (w9.setCell ⟨p,1,none⟩ (.slice a9 n9 q9)) cb #[.int .i64 t,.slice ca cn cc] 59∧RowC w.heap.size 65 5 wrE (w9.setCell ⟨p,1,none⟩ (.slice a9 n9 q9)) (.slice ca cn cc) xs):=hid (by
    have hkp:Kept (·=p) w9 (w9.setCell ⟨p,1,none⟩ (.slice a9 n9 q9)):=(Kept.refl _ w9).setCell _ _ (.inl rfl)
    have hrwA:=HB3.out.2.1.kept HKA.out.1 (fun _ _ f=>f)
    have hrw9:=hrwA.kept hk9 (fun j e q=>hrwA.offR (HRM3.out.same HKA.out.1).rs (by decide) j e q)
    refine⟨rm_addS HRM3.out hr9 hk9 hb9 HKA.out.1 (by rw[HZS.out];exact HR6.out.kept HKA.out.2 (fun _ _ f=>f)) (fun k e=>by rw[HZS.out]at e;exact HO6.out k e) (by omega) ⟨?_,?_⟩,hbc9.kept hkp (fun e=>HB3.out.2.2 e),hrw9.kept hkp (fun j e q=>hrw9.offB hbk9 (by decide) (by rw[←q];exact e))⟩
    ·have:=HRM3.out.big.1;omega
    ·rw[HZS.out]
     show(allL xs last.l).length≤_
     have:=allL_len xs last.l
     have:=HLS.out.2.2
     omega)
   clear hr9 hg9 hb9 hk9 hbk9 hbc9 hWA hzs
   refine⟨fun _=>HS9.out,?_⟩
   simp only[List.getElem_toArray,List.getElem_cons_succ,List.getElem_cons_zero,Act.put,List.setIfInBounds_toArray,List.set_cons_zero,List.set_cons_succ]
   refine AnyT.one 12 rfl (by kernel_rfl) ?_
   refine step_value rfl (.pointer (some ⟨p,0,none⟩)) (w':=w9) (by go_simp) ⟨fun _=>HS9.out,?_⟩
   simp only[List.getElem_toArray,List.getElem_cons_succ,List.getElem_cons_zero,Act.put,List.setIfInBounds_toArray,List.set_cons_zero,List.set_cons_succ]
   refine AnyT.one 13 rfl (by kernel_rfl) ?_
   refine step_value rfl (.pointer (some ⟨p,1,none⟩)) (w':=w9) (by go_simp) ⟨fun _=>HS9.out,?_⟩
   simp only[List.getElem_toArray,List.getElem_cons_succ,List.getElem_cons_zero,Act.put,List.setIfInBounds_toArray,List.set_cons_zero,List.set_cons_succ]
   refine AnyT.one 14 rfl (by kernel_rfl) ?_
   refine step_skip (w':=w9.setCell ⟨p,1,none⟩ (.slice a9 n9 q9)) rfl (by go_simp) ⟨fun h=>absurd rfl h,?_⟩
   simp only[List.getElem_toArray,List.getElem_cons_succ,List.getElem_cons_zero,Act.put]
   refine AnyT.done (by kernel_rfl) ?_
   obtain⟨WB,hWB⟩:∃W,W=w9.setCell ⟨p,1,none⟩ (.slice a9 n9 q9):=⟨_,rfl⟩
   rw[←hWB]at HF9 ⊢
   clear hWB z9 d9
   obtain⟨R4,hR4⟩:∃R4:Ri,R4={R3 with s:=⟨a9,n9,q9,R3.s.l++[zs]⟩}:=⟨_,rfl⟩
   rw[←hR4]at HF9
   have HE4:=hid hR4
   have HRM4:Hid (Rm (X+xs.length+1) B WB p R4):=hid HF9.out.1.rm
   clear hR4
   go_upto_region 7 with fail
   have HSe:Hid (WB.drew.cell? ⟨p,2,none⟩=some (.slice R4.w.a R4.w.n R4.w.c)∧WB.drew.cell? ⟨cb,1,none⟩=some (.slice ca cn cc)):=hid ⟨(show Same WB WB.drew from(Kept.refl _ _).drew).cell HRM4.out.cell1.2.2.1 (fun f=>f),(HF9.out.2.1.kept (show Same WB WB.drew from(Kept.refl _ _).drew) (fun f=>f)).cell 1⟩
   refine wp_region_T (fun W'=>W'.cell? ⟨p,2,none⟩=some (.slice R4.w.a R4.w.n R4.w.c)∧W'.cell? ⟨cb,1,none⟩=some (.slice ca cn cc)) 11 12 (by kernel_rfl) rfl ?_
   refine AnyT.take (i:=0) (.pointer (some ⟨p,0,none⟩)) rfl (by kernel_rfl) (by kernel_rfl) (by kernel_rfl) (by decide) (by kernel_rfl) (fun _ _ _ h=>h) rfl (fun _ _=>rfl) HSe.out ?_
   simp only[List.getElem_toArray,List.getElem_cons_zero,Act.put,List.setIfInBounds_toArray,List.set_cons_zero,List.set_cons_succ]
   refine AnyT.take (i:=1) (.pointer (some ⟨p,0,none⟩)) rfl (by kernel_rfl) (by kernel_rfl) (by kernel_rfl) (by decide) (by kernel_rfl) (fun _ _ _ h=>h) rfl (fun _ _=>rfl) HSe.out ?_
   simp only[List.getElem_toArray,List.getElem_cons_succ,List.getElem_cons_zero,Act.put,List.setIfInBounds_toArray,List.set_cons_zero,List.set_cons_succ]
   refine AnyT.take (i:=2) (.pointer (some ⟨p,0,none⟩)) rfl (by kernel_rfl) (by kernel_rfl) (by kernel_rfl) (by decide) (by kernel_rfl) (fun _ _ _ h=>h) rfl (fun _ _=>rfl) HSe.out ?_
   simp only[List.getElem_toArray,List.getElem_cons_succ,List.getElem_cons_zero,Act.put,List.setIfInBounds_toArray,List.set_cons_zero,List.set_cons_succ]
   refine AnyT.take (i:=3) (.pointer (some ⟨p,2,none⟩)) rfl (by kernel_rfl) (by kernel_rfl) (by kernel_rfl) (by decide) (by kernel_rfl) (fun _ _ _ h=>h) rfl (fun _ _=>by go_simp) HSe.out ?_
   simp only[List.getElem_toArray,List.getElem_cons_succ,List.getElem_cons_zero,Act.put,List.setIfInBounds_toArray,List.set_cons_zero,List.set_cons_succ]
   refine AnyT.take (i:=4) (.slice R4.w.a R4.w.n R4.w.c) rfl (by kernel_rfl) (by kernel_rfl) (by kernel_rfl) (by decide) (by kernel_rfl) (fun _ _ _ h=>h) rfl (fun _ hSw=>run_load_op _ rfl (load_c14 Tryz.underlying100 rfl hSw.1)) HSe.out ?_
   simp only[List.getElem_toArray,List.getElem_cons_succ,List.getElem_cons_zero,Act.put,List.setIfInBounds_toArray,List.set_cons_zero,List.set_cons_succ]
   refine AnyT.take (i:=5) (.pointer (some ⟨cb,1,none⟩)) rfl (by kernel_rfl) (by kernel_rfl) (by kernel_rfl) (by decide) (by kernel_rfl) (fun _ _ _ h=>h) rfl (fun _ _=>by go_simp) HSe.out ?_
   simp only[List.getElem_toArray,List.getElem_cons_succ,List.getElem_cons_zero,Act.put,List.setIfInBounds_toArray,List.set_cons_zero,List.set_cons_succ]
   refine AnyT.take (i:=6) (.slice ca cn cc) rfl (by kernel_rfl) (by kernel_rfl) (by kernel_rfl) (by decide) (by kernel_rfl) (fun _ _ _ h=>h) rfl (fun _ hSw=>run_load_op _ rfl (load_c14 Tryz.underlying57 rfl hSw.2)) HSe.out ?_
   simp only[List.getElem_toArray,List.getElem_cons_succ,List.getElem_cons_zero,Act.put,List.setIfInBounds_toArray,List.set_cons_zero,List.set_cons_succ]
   obtain⟨zw,hzw⟩:∃z:Sq Wr,z=⟨ca,cn,cc,xs⟩:=⟨_,rfl⟩
   obtain⟨WC,hWC⟩:∃W,W=WB.drew.alloc (.cells #[.slice ca cn cc] 57):=⟨_,rfl⟩
   have HKC:Hid (Same WB WC):=hid (by rw[hWC];exact((Kept.refl _ _).drew).alloc _)
   have HCC:Hid (CellsAt WC ⟨WB.drew.heap.size,0,none⟩ ([zw].flatMap sqE)):=hid (by rw[hWC,hzw];exact cellsAt_new WB.drew _ _)
   have HZW:=hid hzw
   have HSC:Hid (WC.cell? ⟨p,2,none⟩=some (.slice R4.w.a R4.w.n R4.w.c)∧WC.cell? ⟨cb,1,none⟩=some (.slice ca cn cc)):=hid ⟨(HRM4.out.same HKC.out).cell1.2.2.1,(HF9.out.2.1.kept HKC.out (fun f=>f)).cell 1⟩
   refine AnyT.one 7 rfl (by kernel_rfl) ?_
   refine step_value rfl (.slice (some ⟨WB.drew.heap.size,0,none⟩) 1 1) (w':=WC) (by rw[hWC];go_simp) ⟨fun _=>HSC.out,?_⟩
   simp only[List.getElem_toArray,List.getElem_cons_succ,List.getElem_cons_zero,Act.put,List.setIfInBounds_toArray,List.set_cons_zero,List.set_cons_succ]
   refine AnyT.one 8 rfl (by kernel_rfl) ?_
   refine step_appendC sqE 1 sqE_ok B 100 57 (.slice none 0 0) 24 Tryz.underlying100 Tryz.infoWs14 rfl (by decide) rfl (.tmp 42) (.tmp 45) rfl (.slice R4.w.a R4.w.n R4.w.c) R4.w.l rfl ((HRM4.out.same HKC.out).rw) ⟨WB.drew.heap.size,0,none⟩ 1 1 [zw] rfl rfl HCC.out (by have:=HRM4.out.big;have:=HXX.out;have:=HXS.out;simp;omega) (by have:=HKC.out.size;have:=HF9.out.1.kept.size;have:=HA3.out.kept.size;have:=HBB.out;omega) ?_
   intro v9 w8 hr9 hg9 hb9
   have hk9:Kept (fun j=>R4.w.v.ownBlock=some j) WC w8:=(Kept.refl _ _).grown hg9 (fun j e=>.inl e)
   have hbk9:Blk w8 p #[.int .i64 R4.first,R4.s.v,R4.w.v,R4.t.v,.int .i64 R4.nx] 103:=(HRM4.out.same HKC.out).blk.kept hk9 (fun e=>(HRM4.out.same HKC.out).rw.offB (HRM4.out.same HKC.out).blk (by decide) e)
   have hbc9:Blk w8 cb #[.int .i64 t,.slice ca cn cc] 59:=(HF9.out.2.1.kept HKC.out (fun f=>f)).kept hk9 (fun e=>(HRM4.out.same HKC.out).rw.offB (HF9.out.2.1.kept HKC.out (fun f=>f)) (by decide) e)
   have z9:=hbk9.frozen 2
   have d9:w8.cell? ⟨p,2,none⟩=some (.slice R4.w.a R4.w.n R4.w.c):=hbk9.cell 2
   have HS9:Hid (w8.cell? ⟨p,2,none⟩=some (.slice R4.w.a R4.w.n R4.w.c)∧w8.cell? ⟨cb,1,none⟩=some (.slice ca cn cc)):=hid ⟨d9,hbc9.cell 1⟩
   obtain⟨b9,n8,q8,e9⟩:∃a n q,v9=Value.slice a n q:=by
    obtain⟨a,q,e,_⟩:=hr9.shape
    exact⟨a,_,q,e⟩
   subst e9
   have HFW:Hid (RmA (X+xs.length+1) B w p R {R4 with w:=⟨b9,n8,q8,R4.w.l++[zw]⟩} (w8.setCell ⟨p,2,none⟩ (.slice b9 n8 q8))∧Blk (w8.setCell ⟨p,2,none⟩ (.slice b9 n8 q8)) cb #[.int .i64 t,.slice ca cn cc] 59):=hid (by
    have hkp:Kept (·=p) w8 (w8.setCell ⟨p,2,none⟩ (.slice b9 n8 q8)):=(Kept.refl _ w8).setCell _ _ (.inl rfl)
    have hrwC:=HF9.out.2.2.kept HKC.out (fun _ _ f=>f)
    have h4:RmA (X+xs.length+1) B w p R R4 WB:=HA3.out.trans (HE3.out ▸ HF9.out.1)
    have hw7:R4.w.l.length+1≤X+xs.length+1:=by
     have h7:R4.w.l.length≤X:=by
      rw[HE4.out,HE3.out]
      exact HM.out.big.2.1
     omega
    obtain⟨g1,g2,g3⟩:=rm_addW HRM4.out hr9 hk9 hb9 HKC.out (by rw[HZW.out];exact hrwC.base HBB.out) ⟨hw7,by rw[HZW.out];show xs.length≤_;omega⟩
    refine⟨⟨g1,fun k e=>?_,Kept.trans h4.kept g3 (fun _ _ e=>e) (fun k hk e=>(h4.own k e).resolve_right (by omega))⟩,hbc9.kept hkp (fun e=>HB3.out.2.2 e)⟩
    rcases g2 k e with q | q | q
    ·exact h4.own k q
    ·exact .inr (Nat.le_trans h4.kept.size q)
    ·rw[HZW.out]at q
     exact .inr (hrwC.ge q))
   clear hr9 hg9 hb9 hk9 hbk9 hbc9 hWC hzw
   refine⟨fun _=>HS9.out,?_⟩
   simp only[List.getElem_toArray,List.getElem_cons_succ,List.getElem_cons_zero,Act.put,List.setIfInBounds_toArray,List.set_cons_zero,List.set_cons_succ]
   refine AnyT.one 9 rfl (by kernel_rfl) ?_
   refine step_value rfl (.pointer (some ⟨p,0,none⟩)) (w':=w8) (by go_simp) ⟨fun _=>HS9.out,?_⟩
   simp only[List.getElem_toArray,List.getElem_cons_succ,List.getElem_cons_zero,Act.put,List.setIfInBounds_toArray,List.set_cons_zero,List.set_cons_succ]
   refine AnyT.one 10 rfl (by kernel_rfl) ?_
   refine step_value rfl (.pointer (some ⟨p,2,none⟩)) (w':=w8) (by go_simp) ⟨fun _=>HS9.out,?_⟩
   simp only[List.getElem_toArray,List.getElem_cons_succ,List.getElem_cons_zero,Act.put,List.setIfInBounds_toArray,List.set_cons_zero,List.set_cons_succ]
   refine AnyT.one 11 rfl (by kernel_rfl) ?_
   refine step_skip (w':=w8.setCell ⟨p,2,none⟩ (.slice b9 n8 q8)) rfl (by go_simp) ⟨fun h=>absurd rfl h,?_⟩
   simp only[List.getElem_toArray,List.getElem_cons_succ,List.getElem_cons_zero,Act.put]
   refine AnyT.done (by kernel_rfl) ?_
   obtain⟨WD,hWD⟩:∃W,W=w8.setCell ⟨p,2,none⟩ (.slice b9 n8 q8):=⟨_,rfl⟩
   rw[←hWD]at HFW ⊢
   have m0:WD.cell? ⟨cb,0,none⟩=some (.int .i64 t):=HFW.out.2.cell 0
   clear hWD z9 d9
   go_wp2_with fail
   go_ret2
   refine⟨t,0,xs,HCK.out,rfl,t',HT3.out,.inr ⟨HXE.out,⟨a9,n9,q9,R.s.l++[zs]⟩,⟨b9,n8,q8,R.w.l++[zw]⟩,zs,zw,rfl,by rw[HZS.out],rfl,by rw[HZW.out],?_⟩⟩
   have h9:=HFW.out.1
   rw[HE4.out,HE3.out]at h9
   exact h9
 ·have HER:=hid her
  have HXE:Hid (t=0∧xs=[]):=hid (HFN.out.1 her)
  have b1:(er != 0)=true:=by simpa using her
  clear her
  go_wp2_with fail
  go_ret2
  exact⟨t,er,xs,HCK.out,by rw[HXE.out.1];rfl,t',HT3.out,.inl ⟨HXE.out.2,HA3.out⟩⟩

end Go.Proofs.YtcfociogljhbiaaGreatDoor

namespace Go.Proofs.YtcfociogljhbiaaGreatDoor
open Go.RowKit Go.Maps Go.Sort Go.Shelf Go.Lib

set_option maxRecDepth 100000 in
set_option maxHeartbeats 1000000 in
theorem rread_err{w:World}{p:Nat}{num er:Int}{ar en:ByteArray}(her:er=140∨er=143)(hO:Calls Tryz.prog 82 #[.pointer (some ⟨p,0,none⟩),.int .i64 num,.string ar,.string en,.bool false] w fun e w'=>e=.returned (.tuple #[.pointer none,.int .i64 er])∧Same w w'):Calls Tryz.prog 41 #[.pointer (some ⟨p,0,none⟩),.int .i64 num,.string ar,.string en] w fun e w'=>e=.returned (.tuple #[.string ⟨#[]⟩,.int .i64 er])∧Same w w':=by
 have HO:=hid hO
 clear hO
 rcases her with rfl | rfl
 all_goals
  go_enter Tryz.func41,Tryz.ntmps41
  go_wp2_with fail
  refine HO.out.mono ?_
  rintro e w1 ⟨rfl,hk1⟩
  have HK1:=hid hk1
  clear hk1
  go_wp2_with fail
  go_ret2
  exact⟨rfl,HK1.out⟩

set_option maxRecDepth 100000 in
set_option maxHeartbeats 1000000 in
theorem rput_err{w:World}{p:Nat}{num er:Int}{ar en d:ByteArray}(her:er=140∨er=143)(hO:Calls Tryz.prog 82 #[.pointer (some ⟨p,0,none⟩),.int .i64 num,.string ar,.string en,.bool false] w fun e w'=>e=.returned (.tuple #[.pointer none,.int .i64 er])∧Same w w'):Calls Tryz.prog 43 #[.pointer (some ⟨p,0,none⟩),.int .i64 num,.string ar,.string en,.string d] w fun e w'=>e=.returned (.int .i64 er)∧Same w w':=by
 have HO:=hid hO
 clear hO
 rcases her with rfl | rfl
 all_goals
  go_enter Tryz.func43,Tryz.ntmps43
  go_wp2_with fail
  refine HO.out.mono ?_
  rintro e w1 ⟨rfl,hk1⟩
  have HK1:=hid hk1
  clear hk1
  go_wp2_with fail
  go_ret
  exact⟨rfl,HK1.out⟩

set_option maxRecDepth 100000 in
set_option maxHeartbeats 1000000 in
theorem radd_err{w:World}{p:Nat}{num er:Int}{ar en d:ByteArray}(her:er=140∨er=143)(hO:Calls Tryz.prog 82 #[.pointer (some ⟨p,0,none⟩),.int .i64 num,.string ar,.string en,.bool false] w fun e w'=>e=.returned (.tuple #[.pointer none,.int .i64 er])∧Same w w'):Calls Tryz.prog 44 #[.pointer (some ⟨p,0,none⟩),.int .i64 num,.string ar,.string en,.string d] w fun e w'=>e=.returned (.int .i64 er)∧Same w w':=by
 have HO:=hid hO
 clear hO
 rcases her with rfl | rfl
 all_goals
  go_enter Tryz.func44,Tryz.ntmps44
  go_wp2_with fail
  refine HO.out.mono ?_
  rintro e w1 ⟨rfl,hk1⟩
  have HK1:=hid hk1
  clear hk1
  go_wp2_with fail
  go_ret
  exact⟨rfl,HK1.out⟩

set_option maxRecDepth 100000 in
set_option maxHeartbeats 1000000 in
theorem rdel_err{w:World}{p:Nat}{num er:Int}{ar en:ByteArray}(her:er=140∨er=143)(hO:Calls Tryz.prog 82 #[.pointer (some ⟨p,0,none⟩),.int .i64 num,.string ar,.string en,.bool false] w fun e w'=>e=.returned (.tuple #[.pointer none,.int .i64 er])∧Same w w'):Calls Tryz.prog 45 #[.pointer (some ⟨p,0,none⟩),.int .i64 num,.string ar,.string en] w fun e w'=>e=.returned (.int .i64 er)∧Same w w':=by
 have HO:=hid hO
 clear hO
 rcases her with rfl | rfl
 all_goals
  go_enter Tryz.func45,Tryz.ntmps45
  go_wp2_with fail
  refine HO.out.mono ?_
  rintro e w1 ⟨rfl,hk1⟩
  have HK1:=hid hk1
  clear hk1
  go_wp2_with fail
  go_ret
  exact⟨rfl,HK1.out⟩

set_option maxRecDepth 100000 in
set_option maxHeartbeats 1000000 in
theorem rlist_err{w:World}{p:Nat}{num er:Int}{ar:ByteArray}(her:er=140∨er=143)(hO:Calls Tryz.prog 82 #[.pointer (some ⟨p,0,none⟩),.int .i64 num,.string ar,.string ⟨#[]⟩,.bool true] w fun e w'=>e=.returned (.tuple #[.pointer none,.int .i64 er])∧Same w w'):Calls Tryz.prog 42 #[.pointer (some ⟨p,0,none⟩),.int .i64 num,.string ar] w fun e w'=>e=.returned (.tuple #[.slice none 0 0,.int .i64 er])∧Same w w':=by
 have HO:=hid hO
 clear hO
 rcases her with rfl | rfl
 all_goals
  go_enter Tryz.func42,Tryz.ntmps42
  go_wp2_with fail
  refine HO.out.mono ?_
  rintro e w1 ⟨rfl,hk1⟩
  have HK1:=hid hk1
  clear hk1
  go_wp2_with fail
  go_ret2
  exact⟨rfl,HK1.out⟩

set_option maxRecDepth 100000 in
set_option maxHeartbeats 1000000 in
theorem rabort_none{X B:Nat}{w:World}{p:Nat}{R:Ri}(h:Rm X B w p R)(num:Int)(hno:∀x∈R.t.l,x.num≠num):Calls Tryz.prog 49 #[.pointer (some ⟨p,0,none⟩),.int .i64 num] w fun e w'=>e=.returned (.int .i64 140)∧Same w w':=by
 have HA:=rat14 h num
 rw[atI_none hno]at HA
 clear h hno
 go_enter Tryz.func49,Tryz.ntmps49
 go_wp2_with fail
 refine HA.mono ?_
 rintro e w1 ⟨rfl,rfl⟩
 go_wp2_with fail
 go_ret
 exact⟨rfl,Kept.refl _ _⟩

set_option maxRecDepth 100000 in
set_option maxHeartbeats 1000000 in
theorem rabort_some{X B:Nat}{w:World}{p:Nat}{R:Ri}(h:Rm X B w p R)(hB:B≤w.heap.size)(num:Int){i:Nat}(hi:i<R.t.l.length)(he:R.t.l[i].num=num)(h1:∀j (hj:j<R.t.l.length),R.t.l[j].num=num→j=i):Calls Tryz.prog 49 #[.pointer (some ⟨p,0,none⟩),.int .i64 num] w fun e w'=>e=.returned (.int .i64 0)∧∃t':Sq Ti,t'.l=R.t.l.filter (fun x=>!decide (x.num=num))∧RmA X B w p R {R with t:=t'} w':=by
 have HA:=rat14 h num
 rw[atI_some hi he h1]at HA
 have HC:=rclose14 h hB num
 have c1:decide ((i:Int)<0)=false:=decide_eq_false (by omega)
 clear h hB hi he h1
 go_enter Tryz.func49,Tryz.ntmps49
 go_wp2_with fail
 refine HA.mono ?_
 rintro e w1 ⟨rfl,rfl⟩
 go_wp2_with fail
 refine HC.mono ?_
 rintro e w2 ⟨rfl,t',h1,h2,h3,h4⟩
 have HF:=hid (show t'.l=_∧RmA X B w1 p R {R with t:=t'} w2 from⟨h1,⟨h2,h3,h4.mono (fun _ _ e=>.inl e)⟩⟩)
 clear HC h1 h2 h3 h4
 go_wp2_with fail
 go_ret
 exact⟨rfl,t',HF.out⟩

end Go.Proofs.YtcfociogljhbiaaGreatDoor

namespace Go.Proofs.YtcfociogljhbiaaGreatDoor
open Go.RowKit Go.Maps Go.Sort Go.Shelf Go.Lib

structure BT(w0:World)(p r K N:Nat)(B:Int)(S:Ts)(F:Nat→Prop)(X Br:Nat)(P:Rs14)(G:Nat→Prop)(w:World):Prop where
 mg:Mg K N B w p S F
 rf:Rf X Br w r P G
 ap:∀k,F k→¬G k
 sm:Same w0 w
 l1:w0.heap.size≤N
 l2:w0.heap.size≤Br
 l3:Br≤w.heap.size

section
variable {w0 w w1:World} {p r K K' N X X' Br:Nat} {B B':Int} {S S':Ts} {F G:Nat→Prop} {P P':Rs14}

theorem BT.same(h:BT w0 p r K N B S F X Br P G w)(hk:Same w w1):BT w0 p r K N B S F X Br P G w1:=⟨h.mg.same hk,h.rf.same hk,h.ap,h.sm.trans hk,h.l1,h.l2,Nat.le_trans h.l3 hk.size⟩

theorem BT.prog(h:BT w0 p r K N B S F X Br P G w)(a:MgA K' N B' w p F S' w1):∃F',BT w0 p r K' N B' S' F' X Br P G w1:=by
 obtain⟨F',m,e,k⟩:=a
 refine⟨F',m,h.rf.kept k (fun j g f=>h.ap j f g),fun j f g=>?_,h.sm.then k (fun j hj f=>by have:=(h.mg.lt f).1;have:=h.l1;omega),h.l1,h.l2,Nat.le_trans h.l3 k.size⟩
 exact h.ap j ((e j (h.rf.lt g).2).1 f) g

theorem BT.ref(h:BT w0 p r K N B S F X Br P G w)(a:RfA X' Br w r G P' w1):∃G',BT w0 p r K N B S F X' Br P' G' w1:=by
 obtain⟨G',m,e,k⟩:=a
 refine⟨G',h.mg.kept k (fun j f g=>h.ap j f g),m,fun j f g=>?_,h.sm.then k (fun j hj f=>by have:=(h.rf.lt f).1;have:=h.l2;omega),h.l1,h.l2,Nat.le_trans h.l3 k.size⟩
 exact h.ap j f (e j (h.mg.lt f).2 g)

theorem abs_ts(R:Ri)(i:Nat)(h:i<R.abs.ts.length):R.abs.ts[i]=(R.t.l[i]'(by have h':i<(R.t.l.map Ti.tx).length:=h;rwa [List.length_map]at h')).tx:=by
 simp only[Ri.abs,List.getElem_map]

theorem rl_gone{R:Ri}(h:Rl S R.abs){n:Nb}(hn:S.op n=none):∀x∈R.t.l,x.num≠n.v:=fun x hx=>h.gone hn x.tx (List.mem_map.2 ⟨x,hx,rfl⟩)

theorem rl_here{R:Ri}(h:Rl S R.abs){n:Nb}{ow:Nm}{mv:Mv}(hn:S.op n=some (ow,mv)):∃(i:Nat) (hi:i<R.t.l.length),R.t.l[i].num=n.v∧(∀j (hj:j<R.t.l.length),R.t.l[j].num=n.v→j=i)∧TxR S R.abs ow mv R.t.l[i].tx∧∃y,R.s.l[R.t.l[i].snap]? = some y∧y.l=R.abs.ss.getD R.t.l[i].snap []:=by
 obtain⟨i,hi,h1,h2,h3⟩:=h.here hn
 have hi':i<R.t.l.length:=by have:i<(R.t.l.map Ti.tx).length:=hi;rwa [List.length_map]at this
 have e:R.abs.ts[i]=R.t.l[i].tx:=abs_ts R i hi
 rw[e]at h1 h3
 refine⟨i,hi',h1,fun j hj h4=>?_,h3,?_⟩
 ·have hj':j<R.abs.ts.length:=by show j<(R.t.l.map Ti.tx).length;rw[List.length_map];exact hj
  refine h2 j hj' ?_
  rw[abs_ts R j hj']
  exact h4
 ·have hs:=h3.sn
  have hl:R.abs.ss.length=R.s.l.length:=by show(R.s.l.map (·.l)).length=_;rw[List.length_map]
  rw[hl]at hs
  have hs':R.t.l[i].snap<R.s.l.length:=hs
  refine⟨R.s.l[R.t.l[i].snap],List.getElem?_eq_getElem hs',?_⟩
  show _=(R.s.l.map (·.l)).getD _ _
  rw[List.getD_eq_getElem?_getD,List.getElem?_map,List.getElem?_eq_getElem hs']
  rfl

theorem rl_put{R:Ri}(h:Rl S R.abs){n:Nb}{ow:Nm}{mv mv':Mv}(hn:S.op n=some (ow,mv)){i:Nat}(hi:i<R.t.l.length)(he:R.t.l[i].num=n.v){x':Ti}(h1:x'.num=R.t.l[i].num)(h2:TxR S R.abs ow mv' x'.tx):Rl (S.set n (ow,mv')) (R.put i x').abs:=by
 have e:(R.put i x').abs={R.abs with ts:=R.abs.ts.set i x'.tx}:=by
  unfold Ri.put Ri.abs
  simp only[List.map_set]
 have hi':i<R.abs.ts.length:=by show i<(R.t.l.map Ti.tx).length;rw[List.length_map];exact hi
 have e2:R.abs.ts[i]=R.t.l[i].tx:=abs_ts R i hi'
 rw[e]
 exact h.set hn hi' (by rw[e2];exact he) (by rw[e2];exact h1) ⟨h2.own,h2.tn,h2.sn,h2.st,h2.emp,h2.rd,h2.ls,h2.fl,h2.vis,h2.cl⟩

theorem namR_T(ar en:Nm):namR false ar.s en.s=namT ar en:=by
 unfold namR namT
 simp

theorem mxl14(hx:Mxl w0)(hk:Same w0 w):Mxl w:=by
 obtain⟨m,hm⟩:=hx
 exact⟨m,hk.cell hm (fun f=>f)⟩

def Bth(w0:World)(p r i:Nat)(w:World):Prop:=∃K N B S F T X Br P G,BT w0 p r K N (B+1000000001) S F X Br P G w∧Jn S K B i T∧Rl S P∧X≤K+i+1∧P.first≤1000000000

theorem Bth.same{i:Nat}(h:Bth w0 p r i w)(hk:Same w w1):Bth w0 p r i w1:=by
 obtain⟨K,N,B,S,F,T,X,Br,P,G,h1,h2⟩:=h
 exact⟨K,N,B,S,F,T,X,Br,P,G,h1.same hk,h2⟩

theorem MgA.kp(a:MgA K N B w p F S w1):Kept F w w1:=by
 obtain⟨_,_,_,k⟩:=a
 exact k

theorem RfA.kp{G:Nat→Prop}(a:RfA X' Br w r G P' w1):Kept G w w1:=by
 obtain⟨_,_,_,k⟩:=a
 exact k

def Bts(w0 w:World)(p r i:Nat)(w1 w2:World):Prop:=Bth w0 p r i w2∧Kept (fun k=>k<w.heap.size) w1 w2

def Two14(w0 w W:World)(p r i:Nat)(f g:FuncId)(us vs:Array Value)(Sh:Value→Prop):Prop:=Calls Tryz.prog f us W fun e w1=>∃v,e=.returned v∧Sh v∧Kept (fun k=>k<w.heap.size) W w1∧∀w1',Same w1 w1'→Calls Tryz.prog g vs w1' fun e w2=>e=.returned v∧Bts w0 w p r (i+1) w1' w2

theorem rdl_is{R:Ri}{ow:Nm}{mv:Mv}{x:Ti}(hx:TxR S R.abs ow mv x.tx)(k:Ke):rdL x.s.l k x.r.l=if mv.st k=none then x.r.l++[k]else x.r.l:=by
 unfold rdL
 have h1:ownL x.s.l k<0↔mv.st k=none:=(ownL_neg _ _).trans (own_rel hx k).symm
 by_cases e:mv.st k=none
 ·rw[if_pos (h1.2 e),if_pos e]
 ·rw[if_neg (fun q=>e (h1.1 q)),if_neg e]

theorem rea_is{R:Ri}{ow:Nm}{mv:Mv}{x:Ti}(hx:TxR S R.abs ow mv x.tx)(ar en:Nm):reaV (seeF S R.abs x.tx (kyT ow ar en))=(reaT S.M ar en ow mv).1:=by
 rw[see_rel hx]
 unfold reaT reaV
 cases seeT mv S.M (kyT ow ar en)<;>rfl

def ShS(v:Value):Prop:=∃s er,v=.tuple #[.string s,.int .i64 er]
def ShI(v:Value):Prop:=∃er,v=.int .i64 er
def ShT(v:Value):Prop:=∃t er,v=.tuple #[.int .i64 t,.int .i64 er]

theorem both_read{i:Nat}{W:World}(h:Bth w0 p r i w)(hW:Same w W)(hi:i≤6000)(hx:Mxl w0)(o:Ot)(hk:o.kind=2):Two14 w0 w W p r i 24 41 #[.pointer (some ⟨p,0,none⟩),.int .i64 o.num,.string o.ar,.string o.en] #[.pointer (some ⟨r,0,none⟩),.int .i64 o.num,.string o.ar,.string o.en] ShS:=by
 obtain⟨K,N,B,S,F,T,X,Br,P,G,hb,hj,hl,hX,hf⟩:=h
 have hlt:∀k,F k→k<w.heap.size:=fun k f=>(hb.mg.lt f).2
 have hlg:∀k,G k→k<w.heap.size:=fun k g=>(hb.rf.lt g).2
 have hb:=hb.same hW
 obtain⟨dt,er,hv⟩:=see_ex S o.n o.a o.e
 have hkk:=hj.kk
 have hbb:=hj.bb
 have hK:K≤5*i:=by omega
 have hact:ActR S o.n o dt [] er (S.see o.n o.a o.e (fun m=>.tuple #[.string ⟨#[]⟩,.int .i64 m]) (reaT S.M o.a o.e)).2:=.inl ⟨hk,rfl,Prod.ext hv rfl⟩
 refine(greadT hb.mg o.n o.a o.e (mxl14 hx hb.sm) (by omega) (by omega)).mono ?_
 rintro e w1 ⟨rfl,ha⟩
 refine⟨_,rfl,⟨dt,er,hv⟩,ha.kp.mono (fun k _ f=>hlt k f),fun w1' hs=>?_⟩
 obtain⟨F',hb1⟩:=hb.prog ha
 have hb1:=hb1.same hs
 obtain⟨T',hj'⟩:=hj.act hact
 have hfin:∀{X':Nat} {P':Rs14} {w2:World},RfA X' Br w1' r G P' w2→X'≤X+1→Rl (S.see o.n o.a o.e (fun m=>.tuple #[.string ⟨#[]⟩,.int .i64 m]) (reaT S.M o.a o.e)).2 P'→P'.first=P.first→Bts w0 w p r (i+1) w1' w2:=fun a hXX hr hfi=>by
  have hk9:Kept G w1' _:=a.kp
  obtain⟨G',hb2⟩:=hb1.ref a
  refine⟨?_,hk9.mono (fun k _ g=>hlg k g)⟩
  exact⟨_,_,_,_,_,_,_,_,_,_,⟨hb2.mg.more (show K+1≤K+2 by omega) (by omega),hb2.rf,hb2.ap,hb2.sm,hb2.l1,hb2.l2,hb2.l3⟩,hj',hr,by omega,by rw[hfi];exact hf⟩
 obtain⟨R,hR,rfl,hG⟩:=hb1.rf
 cases hop:S.op o.n with
 | none=>
  have hsee:S.see o.n o.a o.e (fun m=>Value.tuple #[.string ⟨#[]⟩,.int .i64 m]) (reaT S.M o.a o.e)=(.tuple #[.string ⟨#[]⟩,.int .i64 140],S):=by unfold Ts.see;rw[hop]
  rw[hsee]at hfin ⊢
  refine(rread_err (ar:=o.ar) (en:=o.en) (.inl rfl) (ropen_none hR o.n.v (rl_gone hl hop) o.ar o.en false)).mono ?_
  rintro e w2 ⟨rfl,hk2⟩
  exact⟨rfl,hfin (RmA.rfa hG (RmA.still hR (Nat.le_succ X) hk2)) (Nat.le_refl _) hl rfl⟩
 | some x0=>
  obtain⟨ow,mv⟩:=x0
  obtain⟨j,hj1,hnum,hone,hT,y,hy,hyl⟩:=rl_here hl hop
  cases hnm:namT o.a o.e with
  | false=>
   have hsee:S.see o.n o.a o.e (fun m=>Value.tuple #[.string ⟨#[]⟩,.int .i64 m]) (reaT S.M o.a o.e)=(.tuple #[.string ⟨#[]⟩,.int .i64 143],S):=by unfold Ts.see;rw[hop];simp only;rw[if_neg (by rw[hnm];decide)]
   rw[hsee]at hfin ⊢
   refine(rread_err (ar:=o.ar) (en:=o.en) (.inr rfl) (ropen_bad hR o.n.v hj1 hnum hone o.ar o.en false ((namR_T o.a o.e).trans hnm))).mono ?_
   rintro e w2 ⟨rfl,hk2⟩
   exact⟨rfl,hfin (RmA.rfa hG (RmA.still hR (Nat.le_succ X) hk2)) (Nat.le_refl _) hl rfl⟩
  | true=>
   have hsee:S.see o.n o.a o.e (fun m=>Value.tuple #[.string ⟨#[]⟩,.int .i64 m]) (reaT S.M o.a o.e)=((reaT S.M o.a o.e ow mv).1,S.set o.n (ow,notM mv (kyT ow o.a o.e))):=by unfold Ts.see;rw[hop];simp only;rw[if_pos hnm];rfl
   rw[hsee]at hfin ⊢
   have htn:R.t.l[j].tn=ow:=hT.tn
   have hg:=rread_good hR (by omega) hb1.l3 hj1 (fun j' hj' e=>hone j' hj' (e.trans hnum)) o.a o.e ((namR_T o.a o.e).trans hnm) hy (f:=seeF S R.abs R.t.l[j].tx) (by rw[hyl];exact see_ste hT)
   rw[htn,hnum]at hg
   refine hg.mono ?_
   rintro e w2 ⟨rfl,r',hr',hA⟩
   refine⟨by rw[rea_is hT],hfin (RmA.rfa hG hA) (Nat.le_refl _) (rl_put hl hop hj1 hnum rfl ?_) rfl⟩
   have h9:=hT.noted (kyT ow o.a o.e)
   have e9:({R.t.l[j]with r:=r'}:Ti).tx={R.t.l[j].tx with rd:=if mv.st (kyT ow o.a o.e)=none then R.t.l[j].tx.rd++[kyT ow o.a o.e]else R.t.l[j].tx.rd}:=by
    unfold Ti.tx
    simp only
    rw[hr',rdl_is hT]
   rw[e9]
   exact h9

end

end Go.Proofs.YtcfociogljhbiaaGreatDoor

namespace Go.Proofs.YtcfociogljhbiaaGreatDoor
open Go.RowKit Go.Maps Go.Sort Go.Shelf Go.Lib

section
variable {w0 w w1 w2:World} {p r K1 K2 N X X' Br i:Nat} {B:Int} {S S1:Ts} {F G:Nat→Prop} {P P':Rs14} {T:List Nb}

theorem bth_fin{w9:World}(hb1:BT w0 p r K1 N (B+1000000001) S1 F X Br P G w1)(hlg:∀k,G k→k<w9.heap.size)(hK:K1≤K2)(hK2:K2≤100000)(hj:Jn S1 K2 B i T)(a:RfA X' Br w1 r G P' w2)(hX:X'≤K2+i+1)(hr:Rl S1 P')(hf:P'.first≤1000000000):Bts w0 w9 p r i w1 w2:=by
 have hk9:=a.kp
 obtain⟨G',hb2⟩:=hb1.ref a
 exact⟨⟨_,_,_,_,_,_,_,_,_,_,⟨hb2.mg.more hK hK2,hb2.rf,hb2.ap,hb2.sm,hb2.l1,hb2.l2,hb2.l3⟩,hj,hr,hX,hf⟩,hk9.mono (fun k _ g=>hlg k g)⟩

theorem put_self(R:Ri){i:Nat}(hi:i<R.t.l.length):R.put i R.t.l[i]=R:=by
 unfold Ri.put
 have e2:R.t.l.set i R.t.l[i]=R.t.l:=List.set_getElem_self hi
 show {R with t:={R.t with l:=R.t.l.set i R.t.l[i]}}=R
 rw[e2]

theorem both_put{W:World}(h:Bth w0 p r i w)(hW:Same w W)(hi:i≤6000)(hx:Mxl w0)(o:Ot)(hk:o.kind=4):Two14 w0 w W p r i 28 43 #[.pointer (some ⟨p,0,none⟩),.int .i64 o.num,.string o.ar,.string o.en,.string o.dt] #[.pointer (some ⟨r,0,none⟩),.int .i64 o.num,.string o.ar,.string o.en,.string o.dt] ShI:=by
 obtain⟨K,N,B,S,F,T,X,Br,P,G,hb,hj,hl,hX,hf⟩:=h
 have hlt:∀k,F k→k<w.heap.size:=fun k f=>(hb.mg.lt f).2
 have hlg:∀k,G k→k<w.heap.size:=fun k g=>(hb.rf.lt g).2
 have hb:=hb.same hW
 have hkk:=hj.kk
 have hK:K≤5*i:=by omega
 obtain⟨g,hg⟩:∃g:Nm→Mv→Int×Mv,g=fun ow mv=>if 8192<o.dt.size then(145,mv) else(0,stM mv ⟨(kyT ow o.a o.e).1,(kyT ow o.a o.e).2,true,o.dt,o.ok.2.2.2.1⟩):=⟨_,rfl⟩
 have hact:ActR S o.n o ⟨#[]⟩ [] (S.stg o.n o.a o.e g).1 (S.stg o.n o.a o.e g).2:=.inr (.inr (.inl ⟨hk,rfl,rfl,by rw[hg]⟩))
 have HP:=gputT hb.mg o.n o.a o.e o.dt o.ok.2.2.2.1 (mxl14 hx hb.sm) (by omega)
 rw[←hg]at HP
 refine HP.mono ?_
 rintro e w1 ⟨rfl,ha⟩
 refine⟨_,rfl,⟨_,rfl⟩,ha.kp.mono (fun k _ f=>hlt k f),fun w1' hs=>?_⟩
 obtain⟨F',hb1⟩:=hb.prog ha
 have hb1:=hb1.same hs
 obtain⟨T',hj'⟩:=hj.act hact
 have hfin:∀{X':Nat} {P':Rs14} {w2:World},RfA X' Br w1' r G P' w2→X'≤X+1→Rl (S.stg o.n o.a o.e g).2 P'→P'.first=P.first→Bts w0 w p r (i+1) w1' w2:=fun a hXX hr hfi=>bth_fin hb1 hlg (by omega) (by omega) hj' a (by omega) hr (by rw[hfi];exact hf)
 obtain⟨R,hR,rfl,hG⟩:=hb1.rf
 cases hop:S.op o.n with
 | none=>
  have hstg:S.stg o.n o.a o.e g=(140,S):=by unfold Ts.stg;rw[hop]
  rw[hstg]at hfin ⊢
  refine(rput_err (ar:=o.ar) (en:=o.en) (d:=o.dt) (.inl rfl) (ropen_none hR o.n.v (rl_gone hl hop) o.ar o.en false)).mono ?_
  rintro e w2 ⟨rfl,hk2⟩
  exact⟨rfl,hfin (RmA.rfa hG (RmA.still hR (Nat.le_succ X) hk2)) (Nat.le_refl _) hl rfl⟩
 | some x0=>
  obtain⟨ow,mv⟩:=x0
  obtain⟨j,hj1,hnum,hone,hT,y,hy,hyl⟩:=rl_here hl hop
  cases hnm:namT o.a o.e with
  | false=>
   have hstg:S.stg o.n o.a o.e g=(143,S):=by unfold Ts.stg;rw[hop];simp only;rw[if_neg (by rw[hnm];decide)]
   rw[hstg]at hfin ⊢
   refine(rput_err (ar:=o.ar) (en:=o.en) (d:=o.dt) (.inr rfl) (ropen_bad hR o.n.v hj1 hnum hone o.ar o.en false ((namR_T o.a o.e).trans hnm))).mono ?_
   rintro e w2 ⟨rfl,hk2⟩
   exact⟨rfl,hfin (RmA.rfa hG (RmA.still hR (Nat.le_succ X) hk2)) (Nat.le_refl _) hl rfl⟩
  | true=>
   have hstg:S.stg o.n o.a o.e g=((g ow mv).1,S.set o.n (ow,(g ow mv).2)):=by unfold Ts.stg;rw[hop];simp only;rw[if_pos hnm]
   rw[hstg]at hfin ⊢
   have htn:R.t.l[j].tn=ow:=hT.tn
   by_cases hd:8192<o.dt.size
   ·have hgv:g ow mv=(145,mv):=by rw[hg];simp only;rw[if_pos hd]
    rw[hgv]at hfin ⊢
    have hq:=rput_long hR hj1 (fun j' hj' e=>hone j' hj' (e.trans hnum)) o.a o.e ((namR_T o.a o.e).trans hnm) o.dt hd
    rw[hnum]at hq
    refine hq.mono ?_
    rintro e w2 ⟨rfl,hk2⟩
    refine⟨rfl,hfin (RmA.rfa hG (RmA.still hR (Nat.le_succ X) hk2)) (Nat.le_refl _) ?_ rfl⟩
    have h9:=rl_put hl hop hj1 hnum (x':=R.t.l[j]) (mv':=mv) rfl hT
    rw[put_self]at h9
    exact h9
   ·have hgv:g ow mv=(0,stM mv ⟨(kyT ow o.a o.e).1,(kyT ow o.a o.e).2,true,o.dt,o.ok.2.2.2.1⟩):=by rw[hg];simp only;rw[if_neg hd]
    rw[hgv]at hfin ⊢
    have hq:=rput_good hR (by omega) hb1.l3 hj1 (fun j' hj' e=>hone j' hj' (e.trans hnum)) o.a o.e ((namR_T o.a o.e).trans hnm) o.dt hd ⟨(kyT ow o.a o.e).1,(kyT ow o.a o.e).2,true,o.dt,o.ok.2.2.2.1⟩ (by rw[htn];exact⟨rfl,rfl,rfl,rfl,rfl⟩)
    rw[hnum]at hq
    refine hq.mono ?_
    rintro e w2 ⟨rfl,s',hs',hA⟩
    refine⟨rfl,hfin (RmA.rfa hG hA) (Nat.le_refl _) (rl_put hl hop hj1 hnum rfl ?_) rfl⟩
    have h9:=hT.staged hnm ⟨(kyT ow o.a o.e).1,(kyT ow o.a o.e).2,true,o.dt,o.ok.2.2.2.1⟩ rfl (by show o.dt.size≤8192;omega) (fun q=>by cases q)
    have e9:({R.t.l[j]with s:=s'}:Ti).tx={R.t.l[j].tx with st:=stgL ⟨(kyT ow o.a o.e).1,(kyT ow o.a o.e).2,true,o.dt,o.ok.2.2.2.1⟩ false R.t.l[j].tx.st}:=by
     unfold Ti.tx
     simp only
     rw[hs']
    rw[e9]
    exact h9

theorem both_del{W:World}(h:Bth w0 p r i w)(hW:Same w W)(hi:i≤6000)(hx:Mxl w0)(o:Ot)(hk:o.kind=6):Two14 w0 w W p r i 30 45 #[.pointer (some ⟨p,0,none⟩),.int .i64 o.num,.string o.ar,.string o.en] #[.pointer (some ⟨r,0,none⟩),.int .i64 o.num,.string o.ar,.string o.en] ShI:=by
 obtain⟨K,N,B,S,F,T,X,Br,P,G,hb,hj,hl,hX,hf⟩:=h
 have hlt:∀k,F k→k<w.heap.size:=fun k f=>(hb.mg.lt f).2
 have hlg:∀k,G k→k<w.heap.size:=fun k g=>(hb.rf.lt g).2
 have hb:=hb.same hW
 have hkk:=hj.kk
 have hK:K≤5*i:=by omega
 obtain⟨g,hg⟩:∃g:Nm→Mv→Int×Mv,g=fun ow mv=>(0,stM mv ⟨(kyT ow o.a o.e).1,(kyT ow o.a o.e).2,false,⟨#[]⟩,by decide⟩):=⟨_,rfl⟩
 have hact:ActR S o.n o ⟨#[]⟩ [] (S.stg o.n o.a o.e g).1 (S.stg o.n o.a o.e g).2:=.inr (.inr (.inr (.inr (.inl ⟨hk,rfl,rfl,by rw[hg]⟩))))
 have HP:=gdelT hb.mg o.n o.a o.e (mxl14 hx hb.sm) (by omega)
 rw[←hg]at HP
 refine HP.mono ?_
 rintro e w1 ⟨rfl,ha⟩
 refine⟨_,rfl,⟨_,rfl⟩,ha.kp.mono (fun k _ f=>hlt k f),fun w1' hs=>?_⟩
 obtain⟨F',hb1⟩:=hb.prog ha
 have hb1:=hb1.same hs
 obtain⟨T',hj'⟩:=hj.act hact
 have hfin:∀{X':Nat} {P':Rs14} {w2:World},RfA X' Br w1' r G P' w2→X'≤X+1→Rl (S.stg o.n o.a o.e g).2 P'→P'.first=P.first→Bts w0 w p r (i+1) w1' w2:=fun a hXX hr hfi=>bth_fin hb1 hlg (by omega) (by omega) hj' a (by omega) hr (by rw[hfi];exact hf)
 obtain⟨R,hR,rfl,hG⟩:=hb1.rf
 cases hop:S.op o.n with
 | none=>
  have hstg:S.stg o.n o.a o.e g=(140,S):=by unfold Ts.stg;rw[hop]
  rw[hstg]at hfin ⊢
  refine(rdel_err (ar:=o.ar) (en:=o.en) (.inl rfl) (ropen_none hR o.n.v (rl_gone hl hop) o.ar o.en false)).mono ?_
  rintro e w2 ⟨rfl,hk2⟩
  exact⟨rfl,hfin (RmA.rfa hG (RmA.still hR (Nat.le_succ X) hk2)) (Nat.le_refl _) hl rfl⟩
 | some x0=>
  obtain⟨ow,mv⟩:=x0
  obtain⟨j,hj1,hnum,hone,hT,y,hy,hyl⟩:=rl_here hl hop
  cases hnm:namT o.a o.e with
  | false=>
   have hstg:S.stg o.n o.a o.e g=(143,S):=by unfold Ts.stg;rw[hop];simp only;rw[if_neg (by rw[hnm];decide)]
   rw[hstg]at hfin ⊢
   refine(rdel_err (ar:=o.ar) (en:=o.en) (.inr rfl) (ropen_bad hR o.n.v hj1 hnum hone o.ar o.en false ((namR_T o.a o.e).trans hnm))).mono ?_
   rintro e w2 ⟨rfl,hk2⟩
   exact⟨rfl,hfin (RmA.rfa hG (RmA.still hR (Nat.le_succ X) hk2)) (Nat.le_refl _) hl rfl⟩
  | true=>
   have hstg:S.stg o.n o.a o.e g=((g ow mv).1,S.set o.n (ow,(g ow mv).2)):=by unfold Ts.stg;rw[hop];simp only;rw[if_pos hnm]
   rw[hstg]at hfin ⊢
   have htn:R.t.l[j].tn=ow:=hT.tn
   have hgv:g ow mv=(0,stM mv ⟨(kyT ow o.a o.e).1,(kyT ow o.a o.e).2,false,⟨#[]⟩,by decide⟩):=by rw[hg]
   rw[hgv]at hfin ⊢
   have hq:=rdel_good hR (by omega) hb1.l3 hj1 (fun j' hj' e=>hone j' hj' (e.trans hnum)) o.a o.e ((namR_T o.a o.e).trans hnm) ⟨(kyT ow o.a o.e).1,(kyT ow o.a o.e).2,false,⟨#[]⟩,by decide⟩ (by rw[htn];exact⟨rfl,rfl,rfl,rfl,rfl⟩)
   rw[hnum]at hq
   refine hq.mono ?_
   rintro e w2 ⟨rfl,s',hs',hA⟩
   refine⟨rfl,hfin (RmA.rfa hG hA) (Nat.le_refl _) (rl_put hl hop hj1 hnum rfl ?_) rfl⟩
   have h9:=hT.staged hnm ⟨(kyT ow o.a o.e).1,(kyT ow o.a o.e).2,false,⟨#[]⟩,by decide⟩ rfl (Nat.zero_le 8192) (fun _=>rfl)
   have e9:({R.t.l[j]with s:=s'}:Ti).tx={R.t.l[j].tx with st:=stgL ⟨(kyT ow o.a o.e).1,(kyT ow o.a o.e).2,false,⟨#[]⟩,by decide⟩ false R.t.l[j].tx.st}:=by
    unfold Ti.tx
    simp only
    rw[hs']
   rw[e9]
   exact h9

theorem was_is{R:Ri}{ow:Nm}{mv:Mv}{x:Ti}(hl:Rl S R.abs)(hx:TxR S R.abs ow mv x.tx)(k:Ke):wasF (seeF S R.abs x.tx k)=seeD mv S.M k:=by
 rw[see_rel hx]
 cases hT:seeT mv S.M k with
 | true=>rfl
 | false=>rw[see_van hl hx k hT];rfl

theorem both_add{W:World}(h:Bth w0 p r i w)(hW:Same w W)(hi:i≤6000)(hx:Mxl w0)(o:Ot)(hk:o.kind=5)(hd:o.dt.size≤4611686018427379712):Two14 w0 w W p r i 29 44 #[.pointer (some ⟨p,0,none⟩),.int .i64 o.num,.string o.ar,.string o.en,.string o.dt] #[.pointer (some ⟨r,0,none⟩),.int .i64 o.num,.string o.ar,.string o.en,.string o.dt] ShI:=by
 obtain⟨K,N,B,S,F,T,X,Br,P,G,hb,hj,hl,hX,hf⟩:=h
 have hlt:∀k,F k→k<w.heap.size:=fun k f=>(hb.mg.lt f).2
 have hlg:∀k,G k→k<w.heap.size:=fun k g=>(hb.rf.lt g).2
 have hb:=hb.same hW
 have hkk:=hj.kk
 have hbb:=hj.bb
 have hK:K≤5*i:=by omega
 obtain⟨g,hg⟩:∃g:Nm→Mv→Int×Mv,g=fun ow mv=>addF mv S.M (kyT ow o.a o.e) o.dt:=⟨_,rfl⟩
 have hact:ActR S o.n o ⟨#[]⟩ [] (S.stg o.n o.a o.e g).1 (S.stg o.n o.a o.e g).2:=.inr (.inr (.inr (.inl ⟨hk,rfl,rfl,by rw[hg]⟩)))
 have HP:=gaddT hb.mg o.n o.a o.e o.dt (fun ow mv q=>by have:=hj.sm.see q (kyT ow o.a o.e);omega) (mxl14 hx hb.sm) (by omega) (by omega)
 rw[←hg]at HP
 refine HP.mono ?_
 rintro e w1 ⟨rfl,ha⟩
 refine⟨_,rfl,⟨_,rfl⟩,ha.kp.mono (fun k _ f=>hlt k f),fun w1' hs=>?_⟩
 obtain⟨F',hb1⟩:=hb.prog ha
 have hb1:=hb1.same hs
 obtain⟨T',hj'⟩:=hj.act hact
 have hfin:∀{X':Nat} {P':Rs14} {w2:World},RfA X' Br w1' r G P' w2→X'≤X+1+1→Rl (S.stg o.n o.a o.e g).2 P'→P'.first=P.first→Bts w0 w p r (i+1) w1' w2:=fun a hXX hr hfi=>bth_fin hb1 hlg (by omega) (by omega) hj' a (by omega) hr (by rw[hfi];exact hf)
 obtain⟨R,hR,rfl,hG⟩:=hb1.rf
 cases hop:S.op o.n with
 | none=>
  have hstg:S.stg o.n o.a o.e g=(140,S):=by unfold Ts.stg;rw[hop]
  rw[hstg]at hfin ⊢
  refine(radd_err (ar:=o.ar) (en:=o.en) (d:=o.dt) (.inl rfl) (ropen_none hR o.n.v (rl_gone hl hop) o.ar o.en false)).mono ?_
  rintro e w2 ⟨rfl,hk2⟩
  exact⟨rfl,hfin (RmA.rfa hG (RmA.still hR (Nat.le_succ X) hk2)) (Nat.le_succ _) hl rfl⟩
 | some x0=>
  obtain⟨ow,mv⟩:=x0
  obtain⟨j,hj1,hnum,hone,hT,y,hy,hyl⟩:=rl_here hl hop
  cases hnm:namT o.a o.e with
  | false=>
   have hstg:S.stg o.n o.a o.e g=(143,S):=by unfold Ts.stg;rw[hop];simp only;rw[if_neg (by rw[hnm];decide)]
   rw[hstg]at hfin ⊢
   refine(radd_err (ar:=o.ar) (en:=o.en) (d:=o.dt) (.inr rfl) (ropen_bad hR o.n.v hj1 hnum hone o.ar o.en false ((namR_T o.a o.e).trans hnm))).mono ?_
   rintro e w2 ⟨rfl,hk2⟩
   exact⟨rfl,hfin (RmA.rfa hG (RmA.still hR (Nat.le_succ X) hk2)) (Nat.le_succ _) hl rfl⟩
  | true=>
   have hstg:S.stg o.n o.a o.e g=((g ow mv).1,S.set o.n (ow,(g ow mv).2)):=by unfold Ts.stg;rw[hop];simp only;rw[if_pos hnm]
   rw[hstg]at hfin ⊢
   have htn:R.t.l[j].tn=ow:=hT.tn
   obtain⟨k,hkd⟩:∃k,k=kyT ow o.a o.e:=⟨_,rfl⟩
   have hwas:=was_is hl hT k
   have hs8:(seeD mv S.M k).size≤8192:=hj.sm.see hop k
   have hgo:∀rW:Wr,((seeD mv S.M k).size+o.dt.size≤8192→rW.b.tn=ow.s∧rW.b.ar=o.ar∧rW.n.s=o.en∧rW.there=true∧rW.data=seeD mv S.M k++o.dt)→Calls Tryz.prog 44 #[.pointer (some ⟨r,0,none⟩),.int .i64 o.n.v,.string o.a.s,.string o.e.s,.string o.dt] w1' fun e w'=>AddA X Br w1' r R j R.t.l[j] k (seeD mv S.M k) o.dt rW e w':=fun rW hrW=>by
    have hq:=radd_good hR (by omega) hb1.l3 hj1 (fun j' hj' e=>hone j' hj' (e.trans hnum)) o.a o.e ((namR_T o.a o.e).trans hnm) o.dt hy (f:=seeF S R.abs R.t.l[j].tx) (by rw[hyl];exact see_ste hT)
    rw[htn,←hkd,hwas]at hq
    have h9:=hq (by omega) rW ⟨rfl,hrW⟩
    rw[hnum]at h9
    exact h9
   have e8:∀(r':Sq Ke),r'.l=rdL R.t.l[j].s.l k R.t.l[j].r.l→({R.t.l[j]with r:=r'}:Ti).tx={R.t.l[j].tx with rd:=if mv.st k=none then R.t.l[j].tx.rd++[k]else R.t.l[j].tx.rd}:=fun r' hr'=>by
    unfold Ti.tx
    simp only
    rw[hr',rdl_is hT]
   have hno:=hT.noted k
   by_cases hsz:(seeD mv S.M k).size+o.dt.size≤8192
   ·have hz:(seeD mv S.M k++o.dt).size≤maxLen:=by rw[ByteArray.size_append];unfold maxLen;omega
    have hgv:g ow mv=(0,stM (notM mv k) ⟨k.1,k.2,true,seeD mv S.M k++o.dt,hz⟩):=by rw[hg];subst hkd;unfold addF;simp only;rw[dif_pos hsz]
    rw[hgv]at hfin ⊢
    refine(hgo ⟨k.1,k.2,true,seeD mv S.M k++o.dt,hz⟩ (fun _=>⟨by subst hkd;rfl,by subst hkd;rfl,by subst hkd;rfl,rfl,rfl⟩)).mono ?_
    rintro e w2 (⟨q,_⟩ | ⟨_,rfl,r',s',hr',hs',hA⟩)
    ·omega
    ·refine⟨rfl,hfin (RmA.rfa hG hA) (Nat.le_refl _) (rl_put hl hop hj1 hnum rfl ?_) rfl⟩
     have h9:=hno.staged hnm ⟨k.1,k.2,true,seeD mv S.M k++o.dt,hz⟩ (by subst hkd;rfl) (by show(seeD mv S.M k++o.dt).size≤8192;rw[ByteArray.size_append];exact hsz) (fun q=>by cases q)
     have e9:({R.t.l[j]with r:=r',s:=s'}:Ti).tx={{R.t.l[j].tx with rd:=if mv.st k=none then R.t.l[j].tx.rd++[k]else R.t.l[j].tx.rd} with st:=stgL ⟨k.1,k.2,true,seeD mv S.M k++o.dt,hz⟩ false R.t.l[j].tx.st}:=by
      have h8:=e8 r' hr'
      unfold Ti.tx at h8 ⊢
      simp only[Tx14.mk.injEq,true_and,and_true]at h8 ⊢
      exact⟨hs',h8⟩
     rw[e9]
     exact h9
   ·have hgv:g ow mv=(145,notM mv k):=by rw[hg];subst hkd;unfold addF;simp only;rw[dif_neg hsz]
    rw[hgv]at hfin ⊢
    refine(hgo ⟨k.1,k.2,true,⟨#[]⟩,by decide⟩ (fun q=>absurd q hsz)).mono ?_
    rintro e w2 (⟨_,rfl,r',hr',hA⟩ | ⟨q,_⟩)
    ·refine⟨rfl,hfin (RmA.rfa hG hA) (Nat.le_refl _) (rl_put hl hop hj1 hnum rfl ?_) rfl⟩
     rw[e8 r' hr']
     exact hno
    ·exact absurd q hsz

end

end Go.Proofs.YtcfociogljhbiaaGreatDoor

namespace Go.Proofs.YtcfociogljhbiaaGreatDoor
open Go.RowKit Go.Maps Go.Sort Go.Shelf Go.Lib

section
variable {w0 w w1 w2:World} {p r K K1 K2 N X X' Br i:Nat} {B:Int} {S S1:Ts} {F G:Nat→Prop} {P P':Rs14} {T:List Nb} {n:Nb}

theorem Mg.bg0(h:Mg K N B w p S F):0≤S.bg:=by
 obtain⟨c,τ,h1,_⟩:=h
 exact h1.num.1

theorem Jn.ends(h:Jn S K B i T)(m:Int):Jn (S.ends n m) K B (i+1) (T.filter (fun x=>decide (x≠n))):=by
 refine⟨h.sm.ends m,by have:=h.bg;show S.bg≤_;omega,by have:=h.bb;omega,by have:=h.kk;have:=List.length_filter_le (fun x=>decide (x≠n)) T;omega,fun y o2 m2 e=>?_⟩
 have e':(if y=n then none else S.op y)=some (o2,m2):=e
 by_cases hy:y=n
 ·rw[if_pos hy]at e';cases e'
 ·rw[if_neg hy]at e'
  obtain⟨ks,g1,g2⟩:=h.ks y o2 m2 e'
  refine⟨ks,?_,g2⟩
  rw[List.count_filter (by simpa using hy)]
  exact g1

theorem both_begin{W:World}(h:Bth w0 p r i w)(hW:Same w W)(hi:i≤6000)(tn:Nm):Two14 w0 w W p r i 15 40 #[.pointer (some ⟨p,0,none⟩),.string tn.s] #[.pointer (some ⟨r,0,none⟩),.string tn.s] ShT:=by
 obtain⟨K,N,B,S,F,T,X,Br,P,G,hb,hj,hl,hX,hf⟩:=h
 have hlt:∀k,F k→k<w.heap.size:=fun k f=>(hb.mg.lt f).2
 have hlg:∀k,G k→k<w.heap.size:=fun k g=>(hb.rf.lt g).2
 have hb:=hb.same hW
 have hkk:=hj.kk
 have hbg:=hj.bg
 have hbg0:=hb.mg.bg0
 refine(gbeginT hb.mg tn (by omega)).mono ?_
 rintro e w1 (⟨hs,rfl,ha⟩ | ⟨hs,hln,rfl,ha⟩ | ⟨hs,hln,nb,hnb,rfl,ha⟩)
 ·refine⟨_,rfl,⟨_,_,rfl⟩,ha.kp.mono (fun k _ f=>hlt k f),fun w1' hk=>?_⟩
  obtain⟨F',hb1⟩:=hb.prog ha
  have hb1:=hb1.same hk
  obtain⟨R,hR,rfl,hG⟩:=hb1.rf
  refine(rbegin_bad hR tn hs).mono ?_
  rintro e w2 ⟨rfl,hk2⟩
  exact⟨rfl,bth_fin hb1 hlg (Nat.le_refl K) (by omega) (hj.more (by omega)) (RmA.rfa hG (RmA.still hR (Nat.le_refl X) hk2)) (by omega) hl hf⟩
 ·refine⟨_,rfl,⟨_,_,rfl⟩,ha.kp.mono (fun k _ f=>hlt k f),fun w1' hk=>?_⟩
  obtain⟨F',hb1⟩:=hb.prog ha
  have hb1:=hb1.same hk
  obtain⟨R,hR,rfl,hG⟩:=hb1.rf
  have hlen:R.t.l.length=S.ln:=by rw[←hl.ln];show _=(R.t.l.map Ti.tx).length;rw[List.length_map]
  refine(rbegin_many hR tn hs (by omega)).mono ?_
  rintro e w2 ⟨rfl,hk2⟩
  exact⟨rfl,bth_fin hb1 hlg (Nat.le_refl K) (by omega) (hj.more (by omega)) (RmA.rfa hG (RmA.still hR (Nat.le_refl X) hk2)) (by omega) hl hf⟩
 ·refine⟨_,rfl,⟨_,_,rfl⟩,ha.kp.mono (fun k _ f=>hlt k f),fun w1' hk=>?_⟩
  obtain⟨F',hb1⟩:=hb.prog ha
  have hb1:=hb1.same hk
  obtain⟨R,hR,rfl,hG⟩:=hb1.rf
  have hlen:R.t.l.length=S.ln:=by rw[←hl.ln];show _=(R.t.l.map Ti.tx).length;rw[List.length_map]
  have hss:R.s.l.length=R.abs.ss.length:=by show _=(R.s.l.map (·.l)).length;rw[List.length_map]
  have hwl:=hl.wl
  have hnx:R.nx=S.bg+1:=hl.bg
  refine(rbegin_good hR (by omega) hb1.l3 tn hs (by omega) (by omega) (m:=R.abs.ss.length-1) (by omega)).mono ?_
  rintro e w2 ⟨rfl,x,t',ht,hx,hA⟩
  refine⟨by rw[hnx],bth_fin hb1 hlg (Nat.le_refl K) (by omega) (hj.beg (n:=nb)) (RmA.rfa hG hA) (by omega) ?_ hf⟩
  have h9:=hl.beg hnb hbg0 tn
  have e9:({R with t:=t',nx:=R.nx+1}:Ri).abs={R.abs with ts:=R.abs.ts++[⟨R.abs.nx,R.abs.ss.length-1,tn,[],[],[]⟩],nx:=R.abs.nx+1}:=by
   show Rs14.mk _ _ _ (t'.l.map Ti.tx) _=_
   rw[ht,List.map_append,List.map_singleton,hx]
   rfl
  rw[e9]
  exact h9

theorem filt_eq(R:Ri){t':Sq Ti}{z:Int}(h:t'.l=R.t.l.filter (fun x=>!decide (x.num=z))):({R with t:=t'}:Ri).abs={R.abs with ts:=R.abs.ts.filter (fun t=>decide (t.num≠z))}:=by
 have e:t'.l.map Ti.tx=(R.t.l.map Ti.tx).filter (fun t=>decide (t.num≠z)):=by
  rw[h,List.filter_map]
  refine congrArg (List.map Ti.tx) (List.filter_congr (fun x _=>?_))
  show(!decide (x.num=z))=decide (x.num≠z)
  by_cases e:x.num=z<;>simp[e]
 exact congrArg (fun l=>Rs14.mk R.first (R.s.l.map (·.l)) (R.w.l.map (·.l)) l R.nx) e

theorem filt_none(R:Ri){t':Sq Ti}{z:Int}(h:t'.l=R.t.l.filter (fun x=>!decide (x.num=z)))(hno:∀x∈R.t.l,x.num≠z):({R with t:=t'}:Ri).abs=R.abs:=by
 show Rs14.mk _ _ _ (t'.l.map Ti.tx) _=_
 rw[h,List.filter_eq_self.2 (fun x hx=>by simp[hno x hx])]
 rfl

theorem both_abort{W:World}(h:Bth w0 p r i w)(hW:Same w W)(hi:i≤6000)(n:Nb):Two14 w0 w W p r i 19 49 #[.pointer (some ⟨p,0,none⟩),.int .i64 n.v] #[.pointer (some ⟨r,0,none⟩),.int .i64 n.v] ShI:=by
 obtain⟨K,N,B,S,F,T,X,Br,P,G,hb,hj,hl,hX,hf⟩:=h
 have hlt:∀k,F k→k<w.heap.size:=fun k f=>(hb.mg.lt f).2
 have hlg:∀k,G k→k<w.heap.size:=fun k g=>(hb.rf.lt g).2
 have hb:=hb.same hW
 have hkk:=hj.kk
 have hbb:=hj.bb
 refine(gabortT hb.mg n (by omega)).mono ?_
 rintro e w1 (⟨hop,rfl,ha⟩ | ⟨x,m,hop,hold,rfl,ha⟩)
 ·refine⟨_,rfl,⟨_,rfl⟩,ha.kp.mono (fun k _ f=>hlt k f),fun w1' hk=>?_⟩
  obtain⟨F',hb1⟩:=hb.prog ha
  have hb1:=hb1.same hk
  obtain⟨R,hR,rfl,hG⟩:=hb1.rf
  refine(rabort_none hR n.v (rl_gone hl hop)).mono ?_
  rintro e w2 ⟨rfl,hk2⟩
  exact⟨rfl,bth_fin hb1 hlg (Nat.le_refl K) (by omega) (hj.more (by omega)) (RmA.rfa hG (RmA.still hR (Nat.le_refl X) hk2)) (by omega) hl hf⟩
 ·refine⟨_,rfl,⟨_,rfl⟩,ha.kp.mono (fun k _ f=>hlt k f),fun w1' hk=>?_⟩
  obtain⟨F',hb1⟩:=hb.prog ha
  have hb1:=hb1.same hk
  obtain⟨R,hR,rfl,hG⟩:=hb1.rf
  obtain⟨ow,mv⟩:=x
  obtain⟨j,hj1,hnum,hone,hT,y,hy,hyl⟩:=rl_here hl hop
  refine(rabort_some hR hb1.l3 n.v hj1 hnum hone).mono ?_
  rintro e w2 ⟨rfl,t',ht,hA⟩
  refine⟨rfl,bth_fin hb1 hlg (Nat.le_refl K) (by omega) (hj.ends m) (RmA.rfa hG hA) (by omega) ?_ hf⟩
  rw[filt_eq R ht]
  exact hl.ends hold hop

theorem RckT.len{R:Ri}{f:Vf}{z t er:Int}{xs:List Wr}(h:RckT R.abs f z t er xs)(hR:Rm X Br w r R):xs.length≤X:=by
 have hx:∀x∈R.abs.ts,x.st.length≤X:=fun x hx=>by
  obtain⟨y,hy,rfl⟩:=List.mem_map.1 (show x∈R.t.l.map Ti.tx from hx)
  exact(hR.ti y hy).big.1
 rcases h with⟨_,rfl,rfl,rfl⟩ | ⟨x,hm,_,⟨_,rfl,rfl,rfl⟩ | ⟨_,_,rfl,rfl,rfl⟩ | ⟨_,_,D,_,⟨_,rfl,rfl,rfl⟩ | ⟨_,rfl,_,rfl⟩⟩⟩
 ·exact Nat.zero_le _
 ·exact Nat.zero_le _
 ·exact Nat.zero_le _
 ·exact Nat.zero_le _
 ·exact hx x hm

theorem last_some{R:Ri}(hl:Rl S R.abs):∃(m:Nat) (last:Sq Et),R.s.l[m]? = some last∧R.s.l.length=m+1∧last.l=R.abs.ss.getD (R.abs.ss.length-1) []:=by
 have hss:R.abs.ss.length=R.s.l.length:=by show(R.s.l.map (·.l)).length=_;rw[List.length_map]
 have hwl:=hl.wl
 have hlt:R.s.l.length-1<R.s.l.length:=by omega
 refine⟨R.s.l.length-1,R.s.l[R.s.l.length-1],List.getElem?_eq_getElem hlt,by omega,?_⟩
 rw[hss]
 show _=(R.s.l.map (·.l)).getD _ _
 rw[List.getD_eq_getElem?_getD,List.getElem?_map,List.getElem?_eq_getElem hlt]
 rfl

theorem com_abs(R:Ri){t':Sq Ti}{s':Sq (Sq Et)}{w':Sq (Sq Wr)}{z:Int}{zs:Sq Et}{zw:Sq Wr}{xs:List Wr}{es:List Et}(h:t'.l=R.t.l.filter (fun x=>!decide (x.num=z)))(h1:s'.l=R.s.l++[zs])(h2:zs.l=allL xs es)(h3:w'.l=R.w.l++[zw])(h4:zw.l=xs):({R with t:=t',s:=s',w:=w'}:Ri).abs={({R.abs with ss:=R.abs.ss++[allL xs es],ws:=R.abs.ws++[xs]}:Rs14)with ts:=R.abs.ts.filter (fun t=>decide (t.num≠z))}:=by
 have h5:=filt_eq R h
 have h6:t'.l.map Ti.tx=R.abs.ts.filter (fun t=>decide (t.num≠z)):=congrArg Rs14.ts h5
 show Rs14.mk _ (s'.l.map (·.l)) (w'.l.map (·.l)) (t'.l.map Ti.tx) _=_
 rw[h6,h1,h3,List.map_append,List.map_append,List.map_singleton,List.map_singleton,h2,h4]
 rfl

theorem rck_here{R:Ri}(hR:Rm X Br w r R)(hX:X≤40000)(hB:Br≤w.heap.size)(hl:Rl S R.abs)(hf:R.abs.first≤1000000000){ow:Nm}{mv:Mv}(hop:S.op n=some (ow,mv)):Calls Tryz.prog 46 #[.pointer (some ⟨r,0,none⟩),.int .i64 n.v] w fun e w'=>RckA w R.abs (vkF S.M.V S.M.now) n.v e w':=by
 obtain⟨j,hj1,hnum,hone,hT,y,hy,hyl⟩:=rl_here hl hop
 obtain⟨m,last,hlast,hm,hle⟩:=last_some hl
 have hsn:R.t.l[j].snap+1≤R.abs.ss.length:=hT.sn
 have hwl:=hl.wl
 have hww:R.abs.ws.length=R.w.l.length:=by show(R.w.l.map (·.l)).length=_;rw[List.length_map]
 have h9:=rcheck_some hR hX hB (i:=j) (x:=R.t.l[j]) (List.getElem?_eq_getElem hj1) (fun j' hj' e=>hone j' hj' (e.trans hnum)) (by omega) hlast hm (f:=vkF S.M.V S.M.now) (by rw[hle];exact hl.cur) ⟨hl.fi,hf⟩
 rw[hnum]at h9
 exact h9

theorem both_commit{W:World}(h:Bth w0 p r i w)(hW:Same w W)(hi:i≤6000)(n:Nb):Two14 w0 w W p r i 18 48 #[.pointer (some ⟨p,0,none⟩),.int .i64 n.v] #[.pointer (some ⟨r,0,none⟩),.int .i64 n.v] ShT:=by
 obtain⟨K,N,B,S,F,T,X,Br,P,G,hb,hj,hl,hX,hf⟩:=h
 have hlt:∀k,F k→k<w.heap.size:=fun k f=>(hb.mg.lt f).2
 have hlg:∀k,G k→k<w.heap.size:=fun k g=>(hb.rf.lt g).2
 have hb:=hb.same hW
 have hkk:=hj.kk
 have hbb:=hj.bb
 refine(gcommitT hb.mg n (by omega) (fun t er xs hc=>by
  have:=(hj.xs hc).1
  have:=List.count_le_length (a:=n) (l:=T)
  omega)).mono ?_
 rintro e w1 (⟨hop,rfl,ha⟩ | ⟨x,t,er,xs,m,hop,hc,rfl,hold,ha⟩)
 ·refine⟨_,rfl,⟨_,_,rfl⟩,ha.kp.mono (fun k _ f=>hlt k f),fun w1' hk=>?_⟩
  obtain⟨F',hb1⟩:=hb.prog ha
  have hb1:=hb1.same hk
  obtain⟨R,hR,rfl,hG⟩:=hb1.rf
  obtain⟨m,last,hlast,hm,hle⟩:=last_some hl
  refine(rcommit14 hR (by omega) hb1.l3 n.v hlast hm (f:=vkF S.M.V S.M.now) (fun t er xs hc=>hc.len hR) (rcheck_none hR n.v _ (rl_gone hl hop))).mono ?_
  rintro e w2 ⟨t,er,xs,hck,rfl,t',ht,hA⟩
  have hck':er=140∧t=0∧xs=[]:=by
   rcases hck with⟨_,q⟩ | ⟨x,hx,hxn,_⟩
   ·exact q
   ·exact absurd hxn (hl.gone hop x hx)
  obtain⟨rfl,rfl,rfl⟩:=hck'
  rcases hA with⟨_,hA⟩ | ⟨q,_⟩
  ·refine⟨rfl,bth_fin hb1 hlg (Nat.le_refl K) (by omega) (hj.more (by omega)) (RmA.rfa hG hA) (by omega) ?_ hf⟩
   rw[filt_none R ht (rl_gone hl hop)]
   exact hl
  ·exact absurd rfl q
 ·refine⟨_,rfl,⟨_,_,rfl⟩,ha.kp.mono (fun k _ f=>hlt k f),fun w1' hk=>?_⟩
  have e0:B+1000000001+1=(B+1)+1000000001:=by omega
  rw[e0]at ha
  obtain⟨F',hb1⟩:=hb.prog ha
  have hb1:=hb1.same hk
  obtain⟨R,hR,rfl,hG⟩:=hb1.rf
  obtain⟨ow,mv⟩:=x
  obtain⟨m',last,hlast,hm,hle⟩:=last_some hl
  have hj':=hj.com (m:=m) hc
  have hkk':=hj'.kk
  refine(rcommit14 hR (by omega) hb1.l3 n.v hlast hm (f:=vkF S.M.V S.M.now) (fun t er xs hc=>hc.len hR) (rck_here hR (by omega) hb1.l3 hl hf hop)).mono ?_
  rintro e w2 ⟨t1,er1,xs1,hck,rfl,t',ht,hA⟩
  obtain⟨rfl,rfl,rfl,hfit⟩:=ck_same hl hc hck
  rcases hA with⟨rfl,hA⟩ | ⟨hne,s',w'',zs,zw,h1,h2,h3,h4,hA⟩
  ·refine⟨rfl,bth_fin hb1 hlg (Nat.le_refl _) (by omega) hj' (RmA.rfa hG hA) (by simp only[List.length_nil];omega) ?_ hf⟩
   rw[filt_eq R ht]
   have es:S.com []=S:=by unfold Ts.com;rw[if_pos rfl]
   rw[es]at hold ⊢
   exact hl.ends hold hop
  ·refine⟨rfl,bth_fin hb1 hlg (Nat.le_refl _) (by omega) hj' (RmA.rfa hG hA) (by omega) ?_ hf⟩
   rw[com_abs R ht h1 h2 h3 h4,hle]
   refine(hl.com hne (hfit hne)).ends hold (ow:=ow) (mv:=mv) ?_
   rw[(com_op S _).1]
   exact hop

end

end Go.Proofs.YtcfociogljhbiaaGreatDoor
