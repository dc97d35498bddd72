/-
  Of the proof: parts TxC, TxD, TxQ, TxK, TxL, TxF, TxH, TxI, TxG.
-/
import Derived.Test.YtcfociogljhbiaaGreatDoorJ18
import Derived.Test.YtcfociogljhbiaaGreatDoorJ29
import Derived.Test.YtcfociogljhbiaaGreatDoorJ20

namespace Go.Proofs.YtcfociogljhbiaaGreatDoor
open Go.RowKit Go.Maps Go.Sort Go.Shelf

theorem results_14{fn:Func}{a p b:Tmp}{ty:TypeId}(h:fn.results=#[.tmp a,.cell p ty,.tmp b])(tmps:Array Value)(P:Program)(w w1 w2:World)(x:Addr)(v:Value)(h1:(asAddr (tmps.getD p undef)).run P w=.ok x w1)(h2:(loadVar ty x).run P w1=.ok v w2):
  (results fn tmps).run P w=.ok (.tuple #[tmps.getD a undef,v,tmps.getD b undef]) w2:=by
 simp only[results,h]
 simp only[Array.getD_eq_getD_getElem?]at h1 ⊢
 simp[Sem.run_bind,Result.andThen,h1,h2]

theorem setk14{w:World}{g:Nat}{a0 a1 a2 x0 x1 x2:Value}{t:TypeId}(hb:Blk w g #[a0,a1,a2] t):Blk (((w.setCell ⟨g,0,none⟩ x0).setCell ⟨g,1,none⟩ x1).setCell ⟨g,2,none⟩ x2) g #[x0,x1,x2] t∧Kept (·=g) w (((w.setCell ⟨g,0,none⟩ x0).setCell ⟨g,1,none⟩ x1).setCell ⟨g,2,none⟩ x2):=by
 refine⟨?_,(((Kept.refl (·=g) w).setCell _ _ (.inl rfl)).setCell _ _ (.inl rfl)).setCell _ _ (.inl rfl)⟩
 have h9:=((hb.set 0 x0).set 1 x1).set 2 x2
 simpa using h9

theorem loadK14{W:World}{g:Nat}{a b c:ByteArray}(hb:Blk W g #[.string a,.string b,.string c] 63):(loadVar 63 ⟨g,0,none⟩).run Tryz.prog W=.ok (.agg #[.string a,.string b,.string c]) W:=by
 have c0:=hb.cell 0
 have c1:=hb.cell 1
 have c2:=hb.cell 2
 simp only[List.getElem?_toArray,List.getElem?_cons_zero,List.getElem?_cons_succ]at c0 c1 c2
 simp[go_sem,c0,c1,c2]

def entA(c:Tc)(n:Nb)(ar en:ByteArray):Value:=
 match getK n c.L with
 | none=>.tuple #[.pointer none,.agg #[.string ⟨#[]⟩,.string ⟨#[]⟩,.string ⟨#[]⟩],.int .i64 140]
 | some q=>if (sho ar && nam8 (sb en))=true then .tuple #[.pointer (some ⟨q,0,none⟩),.agg #[.string (c.ow q).s,.string ar,.string en],.int .i64 0]else .tuple #[.pointer none,.agg #[.string ⟨#[]⟩,.string ⟨#[]⟩,.string ⟨#[]⟩],.int .i64 143]

set_option maxRecDepth 100000 in
set_option maxHeartbeats 2000000 in
theorem tentry_any{K N:Nat}{w:World}{p:Nat}{M:Mst}{bg:Int}{c:Tc}{τ:Nat→Nat}(h:Tk K N w p M bg c τ)(n:Nb)(ar en:ByteArray)(hx:Mxl w):Calls Tryz.prog 66 #[.pointer (some ⟨p,0,none⟩),.int .i64 n.v,.string ar,.string en] w fun e w'=>e=.returned (entA c n ar en)∧Same w w':=by
 obtain⟨wA,hwA⟩:∃W,W=w.alloc (.cells #[.string ⟨#[]⟩,.string ⟨#[]⟩,.string ⟨#[]⟩] 63):=⟨_,rfl⟩
 obtain⟨xb,hxb⟩:∃y,y=w.heap.size:=⟨_,rfl⟩
 have hka:Same w wA:=by rw[hwA];exact(Kept.refl _ w).alloc _
 have HB:Hid (Blk wA xb #[.string ⟨#[]⟩,.string ⟨#[]⟩,.string ⟨#[]⟩] 63∧Same w wA∧w.heap.size≤xb):=hid ⟨by rw[hwA,hxb];exact Blk.new w _ _,hka,by omega⟩
 have HF:=tfind_any (h.same hka) n
 have HS:=fun W=>short_any W ar
 have HN:=fun W (hk:Same wA W)=>name_any W en ((hx.kept hka (fun f=>f)).kept hk (fun f=>f))
 unfold entA
 cases hg:getK n c.L with
 | none=>
  rw[hg]at HF
  change Calls _ _ _ _ (fun e w'=>e=.returned (.tuple #[.pointer none,.int .i64 140])∧w'=wA)at HF
  have y0:=HB.out.1.cell 0
  have y1:=HB.out.1.cell 1
  have y2:=HB.out.1.cell 2
  have z0:=HB.out.1.frozen 0
  have z1:=HB.out.1.frozen 1
  have z2:=HB.out.1.frozen 2
  simp only[List.getElem?_toArray,List.getElem?_cons_zero,List.getElem?_cons_succ]at y0 y1 y2
  clear h hg hka hx HN HS
  show Calls _ _ _ _ fun e w'=>e=.returned (.tuple #[.pointer none,.agg #[.string ⟨#[]⟩,.string ⟨#[]⟩,.string ⟨#[]⟩],.int .i64 140])∧Same w w'
  go_enter Tryz.func66,Tryz.ntmps66
  go_wp2_with fail
  rw[←hwA,←hxb]
  refine HF.mono ?_
  rintro e w1 ⟨rfl,rfl⟩
  clear hwA hxb HF
  go_wp2_with fail
  refine bodyPost_ret (v:=.tuple #[.pointer none,.agg #[.string ⟨#[]⟩,.string ⟨#[]⟩,.string ⟨#[]⟩],.int .i64 140]) (by rw[results_14 (a:=8) (p:=9) (b:=10) (ty:=63) rfl _ _ _ _ _ ⟨xb,0,none⟩ _ rfl (loadK14 (setk14 HB.out.1).1)];rfl) rfl ?_
  exact⟨rfl,Kept.trans HB.out.2.1 (setk14 HB.out.1).2 (fun _ _ f=>f) (fun k hk e=>by have:=HB.out.2.2;omega)⟩
 | some q=>
  rw[hg]at HF
  change Calls _ _ _ _ (fun e w'=>e=.returned (.tuple #[.pointer (some ⟨q,0,none⟩),.int .i64 0])∧w'=wA)at HF
  have HQ:Hid (∀w',Same wA w'→w'.cell? ⟨q,0,none⟩=some (.string (c.ow q).s)):=hid (fun w' hk=>((h.same (hka.trans hk)).tb _ (getK_mem hg)).cell 0)
  obtain⟨os,hos⟩:∃x,x=(c.ow q).s:=⟨_,rfl⟩
  rw[←hos]at HQ
  have HHS:=hid (HS wA)
  have HHN:=hid HN
  show Calls _ _ _ _ fun e w'=>e=.returned (if (sho ar && nam8 (sb en))=true then .tuple #[.pointer (some ⟨q,0,none⟩),.agg #[.string (c.ow q).s,.string ar,.string en],.int .i64 0]else .tuple #[.pointer none,.agg #[.string ⟨#[]⟩,.string ⟨#[]⟩,.string ⟨#[]⟩],.int .i64 143])∧Same w w'
  rw[←hos]
  obtain⟨b1,hb1⟩:∃x,x=sho ar:=⟨_,rfl⟩
  obtain⟨b2,hb2⟩:∃x,x=nam8 (sb en):=⟨_,rfl⟩
  rw[←hb1]at HHS ⊢
  rw[←hb2]at HHN ⊢
  obtain⟨RV,hRV⟩:∃V:Value,V=(if (b1 && b2)=true then .tuple #[.pointer (some ⟨q,0,none⟩),.agg #[.string os,.string ar,.string en],.int .i64 0]else .tuple #[.pointer none,.agg #[.string ⟨#[]⟩,.string ⟨#[]⟩,.string ⟨#[]⟩],.int .i64 143]):=⟨_,rfl⟩
  rw[←hRV]
  have HRV:=hid hRV
  clear h hg hka hx HN HS hos hb1 hb2 hRV
  go_enter Tryz.func66,Tryz.ntmps66
  go_wp2_with fail
  rw[←hwA,←hxb]
  refine HF.mono ?_
  rintro e w1 ⟨rfl,rfl⟩
  clear hwA hxb HF
  go_wp2_with fail
  refine HHS.out.mono ?_
  rintro e w2 ⟨rfl,hk2⟩
  have HK2:Hid (Same w1 w2):=hk2
  clear hk2
  cases b1 with
  | false=>
   have hbx:=HB.out.1.kept HK2.out (fun f=>f)
   have HX:Hid (Blk w2 xb #[.string ⟨#[]⟩,.string ⟨#[]⟩,.string ⟨#[]⟩] 63):=hbx
   have y0:=hbx.cell 0
   have y1:=hbx.cell 1
   have y2:=hbx.cell 2
   have z0:=hbx.frozen 0
   have z1:=hbx.frozen 1
   have z2:=hbx.frozen 2
   simp only[List.getElem?_toArray,List.getElem?_cons_zero,List.getElem?_cons_succ]at y0 y1 y2
   clear hbx
   go_wp2_with fail
   refine bodyPost_ret (v:=.tuple #[.pointer none,.agg #[.string ⟨#[]⟩,.string ⟨#[]⟩,.string ⟨#[]⟩],.int .i64 143]) (by rw[results_14 (a:=8) (p:=9) (b:=10) (ty:=63) rfl _ _ _ _ _ ⟨xb,0,none⟩ _ rfl (loadK14 (setk14 HX.out).1)];rfl) rfl ?_
   exact⟨by rw[HRV.out];rfl,Kept.trans (HB.out.2.1.trans HK2.out) (setk14 HX.out).2 (fun _ _ f=>f) (fun k hk e=>by have:=HB.out.2.2;omega)⟩
  | true=>
   go_wp2_with fail
   refine(HHN.out w2 HK2.out).mono ?_
   rintro e w3 ⟨rfl,hk3⟩
   have HK3:Hid (Same w1 w3):=hid (HK2.out.trans hk3)
   clear hk3
   have hbx:=HB.out.1.kept HK3.out (fun f=>f)
   have HX:Hid (Blk w3 xb #[.string ⟨#[]⟩,.string ⟨#[]⟩,.string ⟨#[]⟩] 63):=hbx
   have y0:=hbx.cell 0
   have y1:=hbx.cell 1
   have y2:=hbx.cell 2
   have z0:=hbx.frozen 0
   have z1:=hbx.frozen 1
   have z2:=hbx.frozen 2
   have o0:=HQ.out w3 HK3.out
   simp only[List.getElem?_toArray,List.getElem?_cons_zero,List.getElem?_cons_succ]at y0 y1 y2
   clear hbx
   cases b2 with
   | false=>
    go_wp2_with fail
    refine bodyPost_ret (v:=.tuple #[.pointer none,.agg #[.string ⟨#[]⟩,.string ⟨#[]⟩,.string ⟨#[]⟩],.int .i64 143]) (by rw[results_14 (a:=8) (p:=9) (b:=10) (ty:=63) rfl _ _ _ _ _ ⟨xb,0,none⟩ _ rfl (loadK14 (setk14 HX.out).1)];rfl) rfl ?_
    exact⟨by rw[HRV.out];rfl,Kept.trans (HB.out.2.1.trans HK3.out) (setk14 HX.out).2 (fun _ _ f=>f) (fun k hk e=>by have:=HB.out.2.2;omega)⟩
   | true=>
    go_wp2_with fail
    go_region
    all_goals go_wp2_with fail
    all_goals refine bodyPost_ret (v:=.tuple #[.pointer (some ⟨q,0,none⟩),.agg #[.string os,.string ar,.string en],.int .i64 0]) (by rw[results_14 (a:=8) (p:=9) (b:=10) (ty:=63) rfl _ _ _ _ _ ⟨xb,0,none⟩ _ rfl (loadK14 ((setk14 HX.out).1.kept (F:=fun _=>False) ((Kept.refl _ _).drew) (fun f=>f)))];rfl) rfl ?_
    all_goals exact⟨by rw[HRV.out];rfl,(Kept.trans (HB.out.2.1.trans HK3.out) (setk14 HX.out).2 (fun _ _ f=>f) (fun k hk e=>by have:=HB.out.2.2;omega)).drew⟩

end Go.Proofs.YtcfociogljhbiaaGreatDoor

namespace Go.Proofs.YtcfociogljhbiaaGreatDoor
open Go.RowKit Go.Maps Go.Sort Go.Shelf

section
variable {K N:Nat} {w:World} {p:Nat} {M:Mst} {bg:Int} {c:Tc} {τ:Nat→Nat}

def Tc.set(c:Tc)(q:Nat)(m:Mv):Tc:={c with mv:=fun x=>if x=q then m else c.mv x}

theorem Tk.more(h:Tk K N w p M bg c τ){K':Nat}(hK:K≤K')(hb:K'≤100000):Tk K' N w p M bg c τ:={h with sto:=h.sto.more hK hb,ts:=fun x hx=>(h.ts x hx).more hK hb,lens:=⟨h.lens.1,Nat.le_trans h.lens.2 hK⟩,big:=hb}

theorem Tk.setMv(h:Tk K N w p M bg c τ){n:Nb}{q:Nat}(hq:getK n c.L=some q){w':World}{K':Nat}{m:Mv}(hv:Vx K' w' (c.st q) (c.J q) m)(hk:Kept (c.J q) w w')(hK:K≤K')(hb:K'≤100000):Tk K' N w' p M bg (c.set q m) τ∧Kept (fun k=>τ k≠0) w w':=by
 have hm:=getK_mem hq
 have hr:=h.r7 _ hm
 have hno:∀k,τ k≠6+q→¬c.J q k:=fun k e e2=>e (hr k e2)
 have h9:=h.more hK hb
 refine⟨{h9 with
  blk:=h.blk.kept hk (hno p (by rw[h.r1];omega))
  sto:=h9.sto.kept hk (fun k e=>by
   cases hz:c.ρ k with
   | zero=>rfl
   | succ z=>have:=h.r3 k (by omega);rw[hr k e]at this;simp only at this;omega)
  om:=h.om.kept hk (hno c.mo (by rw[h.r2];omega))
  tb:=fun x hx=>(h.tb x hx).kept hk (vxOff (h.ts _ hm) (h.tb x hx) (by decide))
  ts:=fun x hx=>?_
  cr:=h.cr.kept hk (fun k e=>hno k (by rw[h.r4 k e];omega))
  cw:=fun y hy=>(h.cw y hy).kept hk (fun k e=>hno k (by rw[h.r5 y hy k e];omega))
  new:=fun k e=>⟨(h.new k e).1,Nat.lt_of_lt_of_le (h.new k e).2 hk.size⟩},hk.mono (fun k _ e=>by rw[hr k e];omega)⟩
 by_cases e:x.2=q
 ·have e1:(c.set q m).mv x.2=m:=if_pos e
  rw[e1,e]
  exact hv
 ·have e1:(c.set q m).mv x.2=c.mv x.2:=if_neg e
  rw[e1]
  exact(h9.ts x hx).kept hk (fun k e2=>hno k (by rw[h.r7 x hx k e2];omega))

end

end Go.Proofs.YtcfociogljhbiaaGreatDoor

namespace Go.Proofs.YtcfociogljhbiaaGreatDoor
open Go.RowKit Go.Maps Go.Sort Go.Shelf

section
variable {K N:Nat} {w:World} {p:Nat} {M:Mst} {bg:Int} {c:Tc} {τ:Nat→Nat}

theorem Tk.cms(h:Tk K N w p M bg c τ)(low:Nat)(hl:low≤c.cl.length)(a:Option Addr)(n cap:Nat)(hn:n=c.cl.length-low)(hcap:n≤cap)(ha:low<c.cl.length→∃g c0,c.cv=.slice (some ⟨g,0,none⟩) c.cl.length c0∧a=some ⟨g,low*2,none⟩)(hnum:∀y∈c.cl,CmOk w (fun k=>τ k≠0) y):Cms w (fun k=>τ k≠0) (.slice a n cap) (c.cl.drop low):=by
 refine⟨⟨a,cap,by rw[List.length_drop,hn],by rw[List.length_drop];omega,fun hne=>?_⟩,fun y hy=>hnum y (List.mem_of_mem_drop hy),by have:=h.lens.2;have:=h.big;rw[List.length_drop];omega⟩
 have hlt:low<c.cl.length:=by
  rcases Nat.lt_or_ge low c.cl.length with e | e
  ·exact e
  ·exact absurd (List.drop_of_length_le e) hne
 obtain⟨g,c0,hcv,rfl⟩:=ha hlt
 refine⟨g,low*2,rfl,?_,fun j hj i hi=>?_⟩
 ·have:=h.r4 g (by rw[hcv];rfl)
  show τ g≠0
  omega
 ·have hcr:=h.cr
  rw[hcv]at hcr
  rw[List.length_drop]at hj
  have h9:=RowC.cell cmC_ok hcr (low+j) i (by omega) hi
  rw[List.getElem_drop]
  rw[show low*2+(j*2+i)=(low+j)*2+i by omega]
  exact h9

theorem Tk.cmOk(h:Tk K N w p M bg c τ){y:Cm}(hy:y∈c.cl)(ht:-9223372036854775808≤y.t∧y.t≤9223372036854775807):CmOk w (fun k=>τ k≠0) y:=by
 have hr:=h.cw y hy
 have hl:y.n=y.ws.length:=by
  obtain⟨a9,c9,hv9,_⟩:=hr.shape
  injection hv9
 refine⟨(SrcC.ofRow wrE_ok hr).mono (fun j e=>by rw[h.r5 y hy j e];decide),hl.symm,ht,?_⟩
 have h1:=hr.shape
 obtain⟨a9,c9,hv9,_⟩:=h1
 rcases hr.2 with⟨e1,_⟩ | ⟨g,cap,cur,e1,_,_,hnc,hcm,_⟩
 ·injection e1 with _ e2 _
  omega
 ·unfold maxLen at hcm
  omega

def lowC(c:Tc)(M:Mst)(q:Nat):Nat:=c.cl.length-(M.now-1-(c.mv q).t).toNat

set_option maxRecDepth 100000 in
set_option maxHeartbeats 2000000 in
theorem tconf_any(h:Tk K N w p M bg c τ){n:Nb}{q:Nat}(hg:getK n c.L=some q)(hs:0≤(c.mv q).t∧(c.mv q).t≤M.now-1∧M.now-1-(c.mv q).t≤c.cl.length)(hnum:∀y∈c.cl,-9223372036854775808≤y.t∧y.t≤9223372036854775807):Calls Tryz.prog 64 #[.pointer (some ⟨p,0,none⟩),.pointer (some ⟨q,0,none⟩)] w fun e w'=>e=.returned (.bool (decide (0≤(chkM (c.mv q) (c.cl.drop (lowC c M q))).1)))∧Same w w':=by
 obtain⟨low,hlow⟩:∃x,x=lowC c M q:=⟨_,rfl⟩
 rw[←hlow]
 obtain⟨CK,hCK⟩:∃x,x=chkM (c.mv q) (c.cl.drop low):=⟨_,rfl⟩
 rw[←hCK]
 obtain⟨c1,c2⟩:=CK
 obtain⟨L,hL⟩:∃x,x=c.cl.length:=⟨_,rfl⟩
 obtain⟨lt,hlt⟩:∃x:Nat,(x:Int)=M.now-1-(c.mv q).t:=⟨(M.now-1-(c.mv q).t).toNat,by omega⟩
 have hll:low+lt=L:=by unfold lowC at hlow;rw[←hL]at hlow;have:=hs.2.2;omega
 obtain⟨nw,hnw⟩:∃x,x=M.now-1:=⟨_,rfl⟩
 obtain⟨t,ht⟩:∃x,x=(c.mv q).t:=⟨_,rfl⟩
 obtain⟨st,hst⟩:∃x,x=c.st q:=⟨_,rfl⟩
 have hn9:=h.sto.nums
 have hb9:=h.lens.2
 have hb8:=h.big
 have hw1:IntKind.i64.wrap (nw-t)=(lt:Int):=by rw[IntKind.wrap_i64];omega
 have hw2:IntKind.i64.wrap ((L:Int)-(lt:Int))=(low:Int):=by rw[IntKind.wrap_i64];omega
 have hw3:(L:Int)-(lt:Int)=(low:Int):=by omega
 have hw4:IntKind.i64.wrap (low:Int)=(low:Int):=by rw[IntKind.wrap_i64];omega
 have HNW:Hid (∀w',Same w w'→Calls Tryz.prog 16 #[.pointer (some ⟨p,0,none⟩)] w' fun e w2=>e=.returned (.int .i64 nw)∧Same w' w2):=hid (fun w' hk=>(tnow_any (h.same hk)).mono (fun e w2 h9=>⟨by rw[hnw];exact h9.1,by rw[h9.2];exact Kept.refl _ _⟩))
 have HAT:Hid (∀w',Same w w'→Calls Tryz.prog 94 #[.pointer (some ⟨st,0,none⟩)] w' fun e w2=>e=.returned (.int .i64 t)∧Same w' w2):=hid (fun w' hk=>(xvat (by rw[hst];exact(h.same hk).ts _ (getK_mem hg))).mono (fun e w2 h9=>⟨by rw[ht];exact h9.1,by rw[h9.2];exact Kept.refl _ _⟩))
 have HCM:Hid (∀w',Same w w'→∀a n cap,n=lt→n≤cap→(low<c.cl.length→∃g c0,c.cv=.slice (some ⟨g,0,none⟩) c.cl.length c0∧a=some ⟨g,low*2,none⟩)→Calls Tryz.prog 105 #[.pointer (some ⟨st,0,none⟩),.slice a n cap] w' fun e w2=>e=.returned (.tuple #[.int .i64 c1,.int .i64 c2])∧Same w' w2):=hid (fun w' hk a n cap h1 h2 h3=>by
  have hT:=h.same hk
  have hcs:=hT.cms low (by omega) a n cap (by omega) h2 h3 (fun y hy=>hT.cmOk hy (hnum y hy))
  have hvx:Vx K w' st (c.J q) (c.mv q):=by rw[hst];exact hT.ts _ (getK_mem hg)
  have h9:=xvcheck hvx _ _ _ hcs
  rw[←hCK]at h9
  exact h9)
 have q2:w.cell? ⟨q,2,none⟩=some (.pointer (some ⟨st,0,none⟩)):=by rw[hst];exact(h.tb _ (getK_mem hg)).cell 2
 have p3:w.cell? ⟨p,3,none⟩=some c.cv:=h.blk.cell 3
 have HKK:Hid (Same w w):=hid (Kept.refl _ _)
 have HRES:Hid (decide (0≤(c1,c2).1)=decide ((0:Int)≤c1)):=hid rfl
 rcases h.cr.2 with⟨e1,e2⟩ | ⟨g,cap,cur,e1,hB,hblk,hnc,hcm,_⟩
 ·have hz:L=0:=by
   rw[hL]
   obtain⟨a9,c9,hv9,_⟩:=h.cr.shape
   rw[e1]at hv9
   have e3:(0:Nat)=c.cl.length:=by injection hv9
   exact e3.symm
  have hlt0:lt=0:=by omega
  have hlow0:low=0:=by omega
  subst hlt0 hlow0
  rw[e1]at p3
  have HCK:Hid (∀w',Same w w'→Calls Tryz.prog 105 #[.pointer (some ⟨st,0,none⟩),.slice none 0 0] w' fun e w2=>e=.returned (.tuple #[.int .i64 c1,.int .i64 c2])∧Same w' w2):=hid (fun w' hk=>HCM.out w' hk none 0 0 rfl (Nat.le_refl _) (fun e=>by omega))
  subst hz
  have hw5:IntKind.i64.wrap (nw-t)=0:=by rw[hw1];rfl
  clear h hg hs hnum hlow hCK hL hlt hll hnw ht hst hn9 hb9 hb8 e1 e2 HCM hw1 hw2 hw3 hw4
  go_enter Tryz.func64,Tryz.ntmps64
  go_wp2_with fail
  go_region_held3 (fun w'=>w'.cell? ⟨q,2,none⟩=some (.pointer (some ⟨st,0,none⟩))∧w'.cell? ⟨p,3,none⟩=some (.slice none 0 0))
   (first
    | (go_split_ands;exact⟨hkc.cell (by assumption) (fun f=>f),hkc.cell (by assumption) (fun f=>f)⟩)
    | go_keep)
   (first
    | (go_at_call 16;refine(HNW.out _ (by first | exact HKK.out | exact HKK.out.drew)).mono ?_;rintro e wk ⟨rfl,hkc⟩;have HKK:Hid (Same w wk):=hid (by first | exact HKK.out.trans hkc | exact HKK.out.trans (Kept.undrewC hkc)))
    | (go_at_call 94;refine(HAT.out _ (by first | exact HKK.out | exact HKK.out.drew)).mono ?_;rintro e wk ⟨rfl,hkc⟩;have HKK:Hid (Same w wk):=hid (by first | exact HKK.out.trans hkc | exact HKK.out.trans (Kept.undrewC hkc))))
  obtain⟨wz,hwz⟩:∃W,W=wk:=⟨_,rfl⟩
  have HKZ:Hid (Same w wz):=hid (by rw[hwz];exact HKK.out)
  have q2z:=HKZ.out.cell q2 (fun f=>f)
  have p3z:=HKZ.out.cell p3 (fun f=>f)
  clear hkc
  go_wp2_with fail
  rw[←hwz]
  clear hwz HKK
  have HKK:Hid (Same w wz):=HKZ
  go_region_with (go_at_call 105;refine(HCK.out _ (show Same w _ by first | exact HKK.out | exact HKK.out.drew)).mono ?_;rintro e wq ⟨rfl,hkc⟩;have HKK:Hid (Same w wq):=hid (by first | exact HKK.out.trans hkc | exact HKK.out.trans (Kept.undrewC hkc)))
  all_goals go_wp2_with fail
  all_goals go_ret
  all_goals exact⟨rfl,HKK.out⟩
 ·have hcv:c.cv=.slice (some ⟨g,0,none⟩) L cap:=by rw[e1,hL]
  rw[hcv]at p3
  have hLc:L≤cap:=by rw[hL];exact hnc
  have a1:(low:Int)≤(L:Int):=by omega
  have a2:(L:Int)≤(cap:Int):=by omega
  have a3:(0:Int)≤(low:Int):=by omega
  have a4:(low:Int)≤(cap:Int):=by omega
  have a5:L-low=lt:=by omega
  have a6:low≤L:=by omega
  have a7:low≤cap:=by omega
  by_cases hcl:cap=low
  ·have hlt0:lt=0:=by omega
   have eL:L=low:=by omega
   subst hlt0 hcl eL
   have HCK:Hid (∀w',Same w w'→Calls Tryz.prog 105 #[.pointer (some ⟨st,0,none⟩),.slice (some ⟨g,0,none⟩) 0 0] w' fun e w2=>e=.returned (.tuple #[.int .i64 c1,.int .i64 c2])∧Same w' w2):=hid (fun w' hk=>HCM.out w' hk _ 0 0 rfl (Nat.le_refl _) (fun e=>by omega))
   clear h hg hs hnum hlow hCK hL hlt hll hnw ht hst hn9 hb9 hb8 e1 HCM hB hblk hnc hcm hcv
   go_enter Tryz.func64,Tryz.ntmps64
   go_wp2_with fail
   go_region_held3 (fun w'=>w'.cell? ⟨q,2,none⟩=some (.pointer (some ⟨st,0,none⟩))∧w'.cell? ⟨p,3,none⟩=some (.slice (some ⟨g,0,none⟩) L L))
    (first
     | (go_split_ands;exact⟨hkc.cell (by assumption) (fun f=>f),hkc.cell (by assumption) (fun f=>f)⟩)
     | go_keep)
    (first
     | (go_at_call 16;refine(HNW.out _ (by first | exact HKK.out | exact HKK.out.drew)).mono ?_;rintro e wk ⟨rfl,hkc⟩;have HKK:Hid (Same w wk):=hid (by first | exact HKK.out.trans hkc | exact HKK.out.trans (Kept.undrewC hkc)))
     | (go_at_call 94;refine(HAT.out _ (by first | exact HKK.out | exact HKK.out.drew)).mono ?_;rintro e wk ⟨rfl,hkc⟩;have HKK:Hid (Same w wk):=hid (by first | exact HKK.out.trans hkc | exact HKK.out.trans (Kept.undrewC hkc))))
   obtain⟨wz,hwz⟩:∃W,W=wk:=⟨_,rfl⟩
   have HKZ:Hid (Same w wz):=hid (by rw[hwz];exact HKK.out)
   have q2z:=HKZ.out.cell q2 (fun f=>f)
   have p3z:=HKZ.out.cell p3 (fun f=>f)
   clear hkc
   go_wp2_with fail
   rw[←hwz]
   clear hwz HKK
   have HKK:Hid (Same w wz):=HKZ
   go_region_held3 (fun w'=>w'.cell? ⟨q,2,none⟩=some (.pointer (some ⟨st,0,none⟩))∧w'.cell? ⟨p,3,none⟩=some (.slice (some ⟨g,0,none⟩) L L))
    (first
     | (go_split_ands;exact⟨hkc.cell (by assumption) (fun f=>f),hkc.cell (by assumption) (fun f=>f)⟩)
     | go_keep)
    (first
     | (go_at_call 105;refine(HCK.out _ (by first | exact HKK.out | exact HKK.out.drew)).mono ?_;rintro e wq ⟨rfl,hkc⟩;have HKK:Hid (Same w wq):=hid (by first | exact HKK.out.trans hkc | exact HKK.out.trans (Kept.undrewC hkc))))
   go_wp2_with fail
   go_ret
   exact⟨rfl,HKK.out⟩
  ·have HCK:Hid (∀w',Same w w'→Calls Tryz.prog 105 #[.pointer (some ⟨st,0,none⟩),.slice (some ⟨g,low*2,none⟩) lt (cap-low)] w' fun e w2=>e=.returned (.tuple #[.int .i64 c1,.int .i64 c2])∧Same w' w2):=hid (fun w' hk=>HCM.out w' hk _ lt (cap-low) rfl (by omega) (fun _=>⟨g,cap,by rw[←hL];exact hcv,rfl⟩))
   clear h hg hs hnum hlow hCK hL hlt hll hnw ht hst hn9 hb9 hb8 e1 HCM hB hblk hnc hcm hcv
   go_enter Tryz.func64,Tryz.ntmps64
   go_wp2_with fail
   go_region_held3 (fun w'=>w'.cell? ⟨q,2,none⟩=some (.pointer (some ⟨st,0,none⟩))∧w'.cell? ⟨p,3,none⟩=some (.slice (some ⟨g,0,none⟩) L cap))
    (first
     | (go_split_ands;exact⟨hkc.cell (by assumption) (fun f=>f),hkc.cell (by assumption) (fun f=>f)⟩)
     | go_keep)
    (first
     | (go_at_call 16;refine(HNW.out _ (by first | exact HKK.out | exact HKK.out.drew)).mono ?_;rintro e wk ⟨rfl,hkc⟩;have HKK:Hid (Same w wk):=hid (by first | exact HKK.out.trans hkc | exact HKK.out.trans (Kept.undrewC hkc)))
     | (go_at_call 94;refine(HAT.out _ (by first | exact HKK.out | exact HKK.out.drew)).mono ?_;rintro e wk ⟨rfl,hkc⟩;have HKK:Hid (Same w wk):=hid (by first | exact HKK.out.trans hkc | exact HKK.out.trans (Kept.undrewC hkc))))
   obtain⟨wz,hwz⟩:∃W,W=wk:=⟨_,rfl⟩
   have HKZ:Hid (Same w wz):=hid (by rw[hwz];exact HKK.out)
   have q2z:=HKZ.out.cell q2 (fun f=>f)
   have p3z:=HKZ.out.cell p3 (fun f=>f)
   clear hkc
   go_wp2_with fail
   rw[←hwz]
   clear hwz HKK
   have HKK:Hid (Same w wz):=HKZ
   go_region_held3 (fun w'=>w'.cell? ⟨q,2,none⟩=some (.pointer (some ⟨st,0,none⟩))∧w'.cell? ⟨p,3,none⟩=some (.slice (some ⟨g,0,none⟩) L cap))
    (first
     | (go_split_ands;exact⟨hkc.cell (by assumption) (fun f=>f),hkc.cell (by assumption) (fun f=>f)⟩)
     | go_keep)
    (first
     | (go_at_call 105;refine(HCK.out _ (by first | exact HKK.out | exact HKK.out.drew)).mono ?_;rintro e wq ⟨rfl,hkc⟩;have HKK:Hid (Same w wq):=hid (by first | exact HKK.out.trans hkc | exact HKK.out.trans (Kept.undrewC hkc))))
   go_wp2_with fail
   go_ret
   exact⟨rfl,HKK.out⟩

end

end Go.Proofs.YtcfociogljhbiaaGreatDoor

namespace Go.Proofs.YtcfociogljhbiaaGreatDoor
open Go.RowKit Go.Maps Go.Sort Go.Shelf

def updN{α:Type}(f:Nat→α)(q:Nat)(a:α):Nat→α:=fun x=>if x=q then a else f x
theorem updN_at{α:Type}(f:Nat→α)(q:Nat)(a:α):updN f q a q=a:=if_pos rfl
theorem updN_off{α:Type}(f:Nat→α){q x:Nat}(a:α)(h:x≠q):updN f q a x=f x:=if_neg h

def Tc.add(c:Tc)(nb:Nb)(q:Nat)(tn:Nm)(st:Nat)(J:Nat→Prop)(mv:Mv):Tc:={c with L:=putK kI nb q c.L,ow:=updN c.ow q tn,st:=updN c.st q st,J:=updN c.J q J,mv:=updN c.mv q mv}

section
variable {K N:Nat} {w:World} {p:Nat} {M:Mst} {bg:Int} {c:Tc} {τ:Nat→Nat}

open Classical in
theorem Tk.addT(h:Tk K N w p M bg c τ){w':World}{q st:Nat}{J:Nat→Prop}{mv:Mv}{tn:Nm}{nb:Nb}(hnb:nb.v=bg+1)(hb:Blk w' p #[.pointer (some ⟨c.ps,0,none⟩),.int .i64 (bg+1),.map (some c.mo),c.cv] 91)(hm:MpK 3 ptC kI w' c.mo (putK kI nb q c.L))(hq:Blk w' q #[.string tn.s,.pointer (some ⟨c.ps,0,none⟩),.pointer (some ⟨st,0,none⟩)] 114)(hv:Vx K w' st J mv)(hk:Kept (fun k=>k=p∨k=c.mo) w w')(hqn:w.heap.size≤q)(hJ:∀k,J k→w.heap.size≤k)(hN:N≤w.heap.size)(hl:c.L.length<256)(hbg:bg+1≤100000):
  ∃τ',Tk K N w' p M (bg+1) (c.add nb q tn st J mv) τ'∧(∀k,k<w.heap.size→τ' k=τ k):=by
 have hlt:∀k,τ k≠0→k<w.heap.size:=fun k e=>(h.new k e).2
 have hold:∀k,k<w.heap.size→¬(k=q∨J k):=fun k hk e=>by
  rcases e with e | e
  ·omega
  ·have:=hJ k e;omega
 obtain⟨τ',hτ⟩:∃τ':Nat→Nat,τ'=fun k=>if k=q∨J k then 6+q else τ k:=⟨_,rfl⟩
 have h1:∀k,k<w.heap.size→τ' k=τ k:=fun k hk=>by rw[hτ];exact if_neg (hold k hk)
 have h2:∀k,τ k≠0→τ' k=τ k:=fun k e=>h1 k (hlt k e)
 have h3:τ' q=6+q:=by rw[hτ];exact if_pos (.inl rfl)
 have h4:∀k,J k→τ' k=6+q:=fun k e=>by rw[hτ];exact if_pos (.inr e)
 have hno:∀k,τ k≠0→τ k≠1→τ k≠2→¬(k=p∨k=c.mo):=fun k _ e1 e2 e=>by
  rcases e with e | e
  ·rw[e,h.r1]at e1;exact e1 rfl
  ·rw[e,h.r2]at e2;exact e2 rfl
 have hxl:∀x∈c.L,x.2<w.heap.size∧x.2≠q:=fun x hx=>by
  have:=hlt x.2 (by rw[h.r6 x hx];omega)
  exact⟨this,by omega⟩
 have hmem:∀x,x∈(c.add nb q tn st J mv).L→x=(nb,q)∨(x∈c.L∧x.1≠nb):=fun x hx=>putK_mem.1 hx
 refine⟨τ',{blk:=hb,sto:=?_,om:=hm,tb:=fun x hx=>?_,ts:=fun x hx=>?_,cr:=?_,cw:=fun y hy=>?_,inj:=fun x hx y hy e=>?_,r1:=?_,r2:=?_,r3:=fun k e=>?_,r4:=fun k e=>?_,r5:=fun y hy k e=>?_,r6:=fun x hx=>?_,r7:=fun x hx k e=>?_,new:=fun k e=>?_,key:=fun x hx=>?_,num:=⟨by have:=h.num;omega,hbg⟩,lens:=⟨?_,h.lens.2⟩,big:=h.big},h1⟩
 ·refine h.sto.kept hk (fun k e=>?_)
  cases hz:c.ρ k with
  | zero=>rfl
  | succ z=>exact absurd e (hno k (by rw[h.r3 k (by omega)];omega) (by rw[h.r3 k (by omega)];omega) (by rw[h.r3 k (by omega)];omega))
 ·rcases hmem x hx with rfl | ⟨e,_⟩
  ·show Blk w' q #[.string (updN c.ow q tn q).s,_,.pointer (some ⟨updN c.st q st q,0,none⟩)] _
   rw[updN_at,updN_at];exact hq
  ·show Blk w' x.2 #[.string (updN c.ow q tn x.2).s,_,.pointer (some ⟨updN c.st q st x.2,0,none⟩)] _
   rw[updN_off _ _ (hxl x e).2,updN_off _ _ (hxl x e).2]
   exact(h.tb x e).kept hk (hno _ (by rw[h.r6 x e];omega) (by rw[h.r6 x e];omega) (by rw[h.r6 x e];omega))
 ·rcases hmem x hx with rfl | ⟨e,_⟩
  ·show Vx K w' (updN c.st q st q) (updN c.J q J q) (updN c.mv q mv q)
   rw[updN_at,updN_at,updN_at];exact hv
  ·show Vx K w' (updN c.st q st x.2) (updN c.J q J x.2) (updN c.mv q mv x.2)
   rw[updN_off _ _ (hxl x e).2,updN_off _ _ (hxl x e).2,updN_off _ _ (hxl x e).2]
   exact(h.ts x e).kept hk (fun k e2=>hno k (by rw[h.r7 x e k e2];omega) (by rw[h.r7 x e k e2];omega) (by rw[h.r7 x e k e2];omega))
 ·exact h.cr.kept hk (fun k e=>hno k (by rw[h.r4 k e];omega) (by rw[h.r4 k e];omega) (by rw[h.r4 k e];omega))
 ·exact(h.cw y hy).kept hk (fun k e=>hno k (by rw[h.r5 y hy k e];omega) (by rw[h.r5 y hy k e];omega) (by rw[h.r5 y hy k e];omega))
 ·rcases hmem x hx with rfl | ⟨e1,_⟩<;>rcases hmem y hy with rfl | ⟨e2,_⟩
  ·rfl
  ·exact absurd e.symm (hxl y e2).2
  ·exact absurd e (hxl x e1).2
  ·exact h.inj x e1 y e2 e
 ·rw[h2 p (by rw[h.r1];omega)];exact h.r1
 ·show τ' c.mo=2
  rw[h2 c.mo (by rw[h.r2];omega)];exact h.r2
 ·rw[h2 k (by rw[h.r3 k e];omega)];exact h.r3 k e
 ·rw[h2 k (by rw[h.r4 k e];omega)];exact h.r4 k e
 ·rw[h2 k (by rw[h.r5 y hy k e];omega)];exact h.r5 y hy k e
 ·rcases hmem x hx with rfl | ⟨e,_⟩
  ·exact h3
  ·rw[h2 x.2 (by rw[h.r6 x e];omega)];exact h.r6 x e
 ·rcases hmem x hx with rfl | ⟨e1,_⟩
  ·exact h4 k (by have e2:updN c.J q J q k:=e;rw[updN_at]at e2;exact e2)
  ·have e2:updN c.J q J x.2 k:=e
   rw[updN_off _ _ (hxl x e1).2]at e2
   rw[h2 k (by rw[h.r7 x e1 k e2];omega)];exact h.r7 x e1 k e2
 ·rw[hτ]at e
  by_cases e1:k=q∨J k
  ·rcases e1 with e1 | e1
   ·rw[e1];exact⟨by omega,hq.lt⟩
   ·exact⟨by have:=hJ k e1;omega,hv.lt k e1⟩
  ·simp only[if_neg e1]at e
   exact⟨(h.new k e).1,Nat.lt_of_lt_of_le (h.new k e).2 hk.size⟩
 ·rcases hmem x hx with rfl | ⟨e,_⟩
  ·show 1≤nb.v∧nb.v≤bg+1
   rw[hnb];have:=h.num;omega
  ·have:=h.key x e;omega
 ·show(putK kI nb q c.L).length≤256
  have:=putK_len (kl:=kI) nb q c.L
  omega

end

end Go.Proofs.YtcfociogljhbiaaGreatDoor

namespace Go.Proofs.YtcfociogljhbiaaGreatDoor
open Go.RowKit Go.Maps Go.Sort Go.Shelf

def BegA(K N:Nat)(w:World)(p:Nat)(M:Mst)(bg:Int)(c:Tc)(τ:Nat→Nat)(tn:Nm)(e:Ending)(w':World):Prop:=
 (sho tn.s=false∧e=.returned (.tuple #[.int .i64 0,.int .i64 143])∧Same w w') ∨
 (sho tn.s=true∧256≤c.L.length∧e=.returned (.tuple #[.int .i64 0,.int .i64 141])∧Same w w') ∨
 (sho tn.s=true∧c.L.length<256∧∃nb q st J τ',nb.v=bg+1∧e=.returned (.tuple #[.int .i64 (bg+1),.int .i64 0])∧Tk K N w' p M (bg+1) (c.add nb q tn st J (mv0 (M.now-1))) τ'∧(∀k,k<w.heap.size→τ' k=τ k)∧w.heap.size≤q∧Kept (fun k=>τ k≠0) w w')

section
variable {K N:Nat} {w:World} {p:Nat} {M:Mst} {bg:Int} {c:Tc} {τ:Nat→Nat}

theorem Tk.setBg(h:Tk K N w p M bg c τ){w':World}{b2:Int}(hb:Blk w' p #[.pointer (some ⟨c.ps,0,none⟩),.int .i64 b2,.map (some c.mo),c.cv] 91)(hk:Kept (·=p) w w')(h1:bg≤b2)(h2:b2≤100000):Tk K N w' p M b2 c τ:=by
 have hno:∀k,τ k≠0→τ k≠1→¬k=p:=fun k _ e1 e=>by rw[e,h.r1]at e1;exact e1 rfl
 exact {h with
  blk:=hb
  sto:=h.sto.kept hk (fun k e=>by
   cases hz:c.ρ k with
   | zero=>rfl
   | succ z=>exact absurd e (hno k (by rw[h.r3 k (by omega)];omega) (by rw[h.r3 k (by omega)];omega)))
  om:=h.om.kept hk (hno c.mo (by rw[h.r2];omega) (by rw[h.r2];omega))
  tb:=fun x hx=>(h.tb x hx).kept hk (hno _ (by rw[h.r6 x hx];omega) (by rw[h.r6 x hx];omega))
  ts:=fun x hx=>(h.ts x hx).kept hk (fun k e=>hno k (by rw[h.r7 x hx k e];omega) (by rw[h.r7 x hx k e];omega))
  cr:=h.cr.kept hk (fun k e=>hno k (by rw[h.r4 k e];omega) (by rw[h.r4 k e];omega))
  cw:=fun y hy=>(h.cw y hy).kept hk (fun k e=>hno k (by rw[h.r5 y hy k e];omega) (by rw[h.r5 y hy k e];omega))
  new:=fun k e=>⟨(h.new k e).1,Nat.lt_of_lt_of_le (h.new k e).2 hk.size⟩
  key:=fun x hx=>by have:=h.key x hx;omega
  num:=⟨by have:=h.num;omega,h2⟩}

set_option maxRecDepth 100000 in
set_option maxHeartbeats 2000000 in
theorem tbegin_any(h:Tk K N w p M bg c τ)(tn:Nm)(hN:N≤w.heap.size)(hbg:bg+1≤100000):Calls Tryz.prog 15 #[.pointer (some ⟨p,0,none⟩),.string tn.s] w fun e w'=>BegA K N w p M bg c τ tn e w':=by
 have HS:=short_any w tn.s
 have HT:Hid (Tk K N w p M bg c τ∧N≤w.heap.size∧bg+1≤100000):=hid ⟨h,hN,hbg⟩
 obtain⟨b1,hb1⟩:∃x,x=sho tn.s:=⟨_,rfl⟩
 have HB1:Hid (b1=sho tn.s):=hb1
 rw[←hb1]at HS
 obtain⟨ps,hps⟩:∃x,x=c.ps:=⟨_,rfl⟩
 obtain⟨mo,hmo⟩:∃x,x=c.mo:=⟨_,rfl⟩
 have HCE:Hid (ps=c.ps∧mo=c.mo):=hid ⟨hps,hmo⟩
 obtain⟨bn,hbn⟩:∃x,x=bg+1:=⟨_,rfl⟩
 have HBN:Hid (bn=bg+1):=hbn
 clear h hN hbg hb1
 cases b1 with
 | false=>
  clear hps hmo hbn
  go_enter Tryz.func15,Tryz.ntmps15
  go_wp2_with fail
  refine HS.mono ?_
  rintro e w1 ⟨rfl,hk1⟩
  have HK1:Hid (Same w w1):=hk1
  clear hk1
  go_wp2_with fail
  go_ret2
  exact .inl ⟨HB1.out.symm,rfl,HK1.out⟩
 | true=>
  by_cases hl:256≤c.L.length
  ·have HLL:Hid (256≤c.L.length):=hl
   have b2:decide ((256:Int)≤((c.L.length:Nat):Int))=true:=decide_eq_true (by omega)
   obtain⟨Ln,hLn⟩:∃x,x=c.L.length:=⟨_,rfl⟩
   rw[←hLn]at b2
   have b3:(256:Int)≤(Ln:Int):=by omega
   clear hbn
   go_enter Tryz.func15,Tryz.ntmps15
   go_wp2_with fail
   refine HS.mono ?_
   rintro e w1 ⟨rfl,hk1⟩
   have HK1:Hid (Same w w1):=hk1
   have hln:=(HT.out.1.same hk1).om.len 88 110 Tryz.underlying88
   have p2:w1.cell? ⟨p,2,none⟩=some (.map (some c.mo)):=(HT.out.1.same hk1).blk.cell 2
   rw[←hmo]at p2 hln
   rw[←hLn]at hln
   clear hk1 hl hLn hps hmo
   go_wp2_with fail
   go_ret2
   exact .inr (.inl ⟨HB1.out.symm,HLL.out,rfl,HK1.out⟩)
  ·have HLL:Hid (c.L.length<256):=hid (by omega)
   have b2:decide ((256:Int)≤((c.L.length:Nat):Int))=false:=decide_eq_false (by omega)
   obtain⟨Ln,hLn⟩:∃x,x=c.L.length:=⟨_,rfl⟩
   rw[←hLn]at b2
   have b3:(Ln:Int)<(256:Int):=by omega
   have hbw:IntKind.i64.wrap (bg+1)=bn:=by have h1:=HT.out.1.num;have h2:=HT.out.2.2;rw[IntKind.wrap_i64,HBN.out];omega
   go_enter Tryz.func15,Tryz.ntmps15
   go_wp2_with fail
   refine HS.mono ?_
   rintro e w1 ⟨rfl,hk1⟩
   have HK1:Hid (Same w w1):=hk1
   have hT1:=HT.out.1.same hk1
   have hln:=hT1.om.len 88 110 Tryz.underlying88
   have p1:w1.cell? ⟨p,1,none⟩=some (.int .i64 bg):=hT1.blk.cell 1
   have p2:w1.cell? ⟨p,2,none⟩=some (.map (some c.mo)):=hT1.blk.cell 2
   have z1:=hT1.blk.frozen 1
   obtain⟨wB,hwB⟩:∃W,W=w1.setCell ⟨p,1,none⟩ (.int .i64 bn):=⟨_,rfl⟩
   have hkB:Kept (·=p) w1 wB:=by rw[hwB];exact(Kept.refl (·=p) w1).setCell _ _ (.inl rfl)
   have hbB:Blk wB p #[.pointer (some ⟨c.ps,0,none⟩),.int .i64 bn,.map (some c.mo),c.cv] 91:=by
    rw[hwB]
    have h9:=hT1.blk.set 1 (.int .i64 bn)
    simpa using h9
   have HTB:Hid (Tk K N wB p M bn c τ∧Kept (·=p) w wB):=hid ⟨hT1.setBg hbB hkB (by have:=HBN.out;omega) (by have:=HBN.out;have:=HT.out.2.2;omega),Kept.trans hk1 hkB (fun _ _ f=>f.elim) (fun _ _ e=>e)⟩
   rw[←hmo]at p2 hln
   rw[←hLn]at hln
   clear hk1 hl hLn hT1 hkB hbB hps hmo hbn
   go_upto_region 8 with fail
   rw[←hwB]
   clear hwB p1 p2 z1 hln hbw b2 b3
   obtain⟨t,ht⟩:∃x,x=M.now-1:=⟨_,rfl⟩
   have HTN:Hid (t=M.now-1):=ht
   have q0:wB.cell? ⟨p,0,none⟩=some (.pointer (some ⟨ps,0,none⟩)):=by rw[HCE.out.1];exact HTB.out.1.blk.cell 0
   have q1:wB.cell? ⟨p,1,none⟩=some (.int .i64 bn):=HTB.out.1.blk.cell 1
   have q2:wB.cell? ⟨p,2,none⟩=some (.map (some mo)):=by rw[HCE.out.2];exact HTB.out.1.blk.cell 2
   have HNW:Hid (∀w',Same wB w'→Calls Tryz.prog 16 #[.pointer (some ⟨p,0,none⟩)] w' fun e w2=>e=.returned (.int .i64 t)∧Same w' w2):=hid (fun w' hk=>(tnow_any (HTB.out.1.same hk)).mono (fun e w2 h9=>⟨by rw[ht];exact h9.1,by rw[h9.2];exact Kept.refl _ _⟩))
   have hwf:(Lit.int .i64 bn).wf=true:=by have h1:=HT.out.1.num;have h2:=HT.out.2.2;have h3:=HBN.out;simp[Lit.wf,IntKind.min,IntKind.max,IntKind.signed,IntKind.bits];omega
   obtain⟨nb,hnb⟩:∃nb:Nb,nb=⟨bn,hwf⟩:=⟨_,rfl⟩
   have HNV:Hid (nb.v=bn):=hid (by rw[hnb])
   have HNE:Hid (∀w',Same wB w'→Calls Tryz.prog 58 #[.int .i64 t] w' fun e w2=>∃st J,e=.returned (.pointer (some ⟨st,0,none⟩))∧Same w' w2∧∃w9,(Instr.mapUpdate 88 (.map (some mo)) (.int .i64 bn) (.pointer (some ⟨w2.heap.size,0,none⟩))).run Tryz.prog (w2.alloc (.cells #[.string tn.s,.pointer (some ⟨ps,0,none⟩),.pointer (some ⟨st,0,none⟩)] 114))=.ok () w9∧(w9.cell? ⟨p,0,none⟩=some (.pointer (some ⟨ps,0,none⟩))∧w9.cell? ⟨p,1,none⟩=some (.int .i64 bn)∧w9.cell? ⟨p,2,none⟩=some (.map (some mo)))∧∃τ',Tk K N w9 p M (bg+1) (c.add nb w2.heap.size tn st J (mv0 (M.now-1))) τ'∧(∀k,k<w.heap.size→τ' k=τ k)∧w.heap.size≤w2.heap.size∧Kept (fun k=>τ k≠0) w w9):=hid (fun w' hk=>(xvnew w' t).mono (fun e w2 h9=>by
    obtain⟨st,J,h1,h2,h3,h4⟩:=h9
    rw[hnb]
    refine⟨st,J,h1,h4,?_⟩
    obtain⟨wX,hwX⟩:∃W,W=w2.alloc (.cells #[.string tn.s,.pointer (some ⟨ps,0,none⟩),.pointer (some ⟨st,0,none⟩)] 114):=⟨_,rfl⟩
    have hkX:Same w2 wX:=by rw[hwX];exact(Kept.refl _ _).alloc _
    have hbX:Blk wX w2.heap.size #[.string tn.s,.pointer (some ⟨ps,0,none⟩),.pointer (some ⟨st,0,none⟩)] 114:=by rw[hwX];exact Blk.new w2 _ _
    have hkBX:Same wB wX:=(hk.trans h4).trans hkX
    have hTX:=HTB.out.1.same hkBX
    rw[←hwX]
    obtain⟨w9,hup,hm9,hk9⟩:=hTX.om.put klI rdP intKey14 88 110 Tryz.underlying88 ⟨bn,hwf⟩ (.int .i64 bn) (keyI ⟨bn,hwf⟩) (by have:=hTX.lens.1;omega) w2.heap.size
    have hpm:¬p=c.mo:=fun e=>by have h5:=hTX.r1;rw[e,hTX.r2]at h5;cases h5
    have hqm:¬w2.heap.size=c.mo:=fun e=>by have h5:=hTX.om.lt;have h6:=HTB.out.1.om.lt;have h7:=(hk.trans h4).size;omega
    have hb9:=hTX.blk.kept hk9 hpm
    have hs9:w.heap.size≤w2.heap.size:=Nat.le_trans HTB.out.2.size (hk.trans h4).size
    have hJ9:∀k,J k→w.heap.size≤k:=fun k e=>Nat.le_trans (Nat.le_trans HTB.out.2.size hk.size) (h3 k e)
    have hkw:Kept (fun k=>k=p∨k=c.mo) w w9:=Kept.trans (Kept.trans HTB.out.2 hkBX (fun _ _ e=>.inl e) (fun _ _ f=>f.elim)) hk9 (fun _ _ e=>e) (fun _ _ e=>.inr e)
    have hv9:Vx K w9 st J (mv0 (M.now-1)):=by
     have h5:=((h2.same hkX).kept hk9 (fun k e e2=>by have h6:=h3 k e;have h7:=HTB.out.1.om.lt;have h8:=hk.size;omega)).more (Nat.zero_le _) HT.out.1.big
     rw[HTN.out]at h5
     exact h5
    have hq9:Blk w9 w2.heap.size #[.string tn.s,.pointer (some ⟨c.ps,0,none⟩),.pointer (some ⟨st,0,none⟩)] 114:=by rw[←HCE.out.1];exact hbX.kept hk9 hqm
    have hb9':Blk w9 p #[.pointer (some ⟨c.ps,0,none⟩),.int .i64 (bg+1),.map (some c.mo),c.cv] 91:=by rw[←HBN.out];exact hb9
    obtain⟨τ',g1,g2⟩:=HT.out.1.addT (nb:=⟨bn,hwf⟩) HBN.out hb9' hm9 hq9 hv9 hkw hs9 hJ9 HT.out.2.1 HLL.out HT.out.2.2
    refine⟨w9,by rw[HCE.out.2];exact hup,⟨by rw[HCE.out.1];exact hb9.cell 0,hb9.cell 1,by rw[HCE.out.2];exact hb9.cell 2⟩,τ',g1,g2,hs9,hkw.mono (fun k _ e=>?_)⟩
    rcases e with e | e
    ·rw[e,HT.out.1.r1];decide
    ·rw[e,HT.out.1.r2];decide))
   have HKK:Hid (Same wB wB):=hid (Kept.refl _ _)
   clear ht hnb hwf
   go_region_held3 (fun w'=>w'.cell? ⟨p,0,none⟩=some (.pointer (some ⟨ps,0,none⟩))∧w'.cell? ⟨p,1,none⟩=some (.int .i64 bn)∧w'.cell? ⟨p,2,none⟩=some (.map (some mo)))
    (first
     | exact hcl
     | (go_split_ands;exact⟨hkc.cell (by assumption) (fun f=>f),hkc.cell (by assumption) (fun f=>f),hkc.cell (by assumption) (fun f=>f)⟩)
     | exact⟨(show Same wB _ from HKK.out.alloc _).cell q0 (fun f=>f),(show Same wB _ from HKK.out.alloc _).cell q1 (fun f=>f),(show Same wB _ from HKK.out.alloc _).cell q2 (fun f=>f)⟩
     | go_keep)
    (first
     | (go_at_call 16;refine(HNW.out _ (by first | exact HKK.out | exact HKK.out.drew)).mono ?_;rintro e wk ⟨rfl,hkc⟩;have HKK:Hid (Same wB wk):=hid (by first | exact HKK.out.trans hkc | exact HKK.out.trans (Kept.undrewC hkc)))
     | (go_at_call 58;refine(HNE.out _ (by first | exact HKK.out | exact HKK.out.drew)).mono ?_;rintro e wk ⟨st,J,rfl,hkc,w9,hup,hcl,hT9⟩;have HT9:=hid hT9;clear hT9;have HKK:Hid (Same wB wk):=hid (by first | exact HKK.out.trans hkc | exact HKK.out.trans (Kept.undrewC hkc))))
   obtain⟨d0,d1,d2⟩:=hcl
   go_wp2_with fail
   go_ret2
   obtain⟨τ',g1,g2,g3,g4⟩:=HT9.out
   exact .inr (.inr ⟨HB1.out.symm,HLL.out,nb,_,_,_,τ',HNV.out.trans HBN.out,by rw[←HBN.out];rfl,g1,g2,g3,g4⟩)

end

end Go.Proofs.YtcfociogljhbiaaGreatDoor

namespace Go.Proofs.YtcfociogljhbiaaGreatDoor
open Go.RowKit Go.Maps Go.Sort Go.Shelf

def keT(c:Tc)(q:Nat)(ar en:Nm):Ke:=(⟨(c.ow q).s,ar.s,⟨(c.ow q).ok,ar.ok⟩⟩,en)

def namT(ar en:Nm):Bool:=sho ar.s && nam8 (sb en.s)

theorem entA_none{c:Tc}{n:Nb}{ar en:Nm}(h:getK n c.L=none):entA c n ar.s en.s=.tuple #[.pointer none,.agg #[.string ⟨#[]⟩,.string ⟨#[]⟩,.string ⟨#[]⟩],.int .i64 140]:=by unfold entA;rw[h]
theorem entA_bad{c:Tc}{n:Nb}{q:Nat}{ar en:Nm}(h:getK n c.L=some q)(hn:namT ar en=false):entA c n ar.s en.s=.tuple #[.pointer none,.agg #[.string ⟨#[]⟩,.string ⟨#[]⟩,.string ⟨#[]⟩],.int .i64 143]:=by
 unfold entA;rw[h];unfold namT at hn;simp only[hn];rfl
theorem entA_good{c:Tc}{n:Nb}{q:Nat}{ar en:Nm}(h:getK n c.L=some q)(hn:namT ar en=true):entA c n ar.s en.s=.tuple #[.pointer (some ⟨q,0,none⟩),.agg #[.string (keT c q ar en).1.tn,.string (keT c q ar en).1.ar,.string (keT c q ar en).2.s],.int .i64 0]:=by
 unfold entA;rw[h];unfold namT at hn;simp only[hn];rfl

def StgR(c:Tc)(n:Nb)(ar en:Nm)(f:Nat→Int×Mv)(m:Int)(c':Tc):Prop:=
 match getK n c.L with
 | none=>m=140∧c'=c
 | some q=>if namT ar en=true then m=(f q).1∧c'=c.set q (f q).2 else m=143∧c'=c

def TgA(K N:Nat)(w:World)(p:Nat)(M:Mst)(bg:Int)(τ:Nat→Nat)(c':Tc)(w':World):Prop:=Tk (K+1) N w' p M bg c' τ∧Kept (fun k=>τ k≠0) w w'

def StgA(K N:Nat)(w:World)(p:Nat)(M:Mst)(bg:Int)(τ:Nat→Nat)(c:Tc)(n:Nb)(ar en:Nm)(f:Nat→Int×Mv)(e:Ending)(w':World):Prop:=∃m c',e=.returned (.int .i64 m)∧StgR c n ar en f m c'∧TgA K N w p M bg τ c' w'

section
variable {K N:Nat} {w:World} {p:Nat} {M:Mst} {bg:Int} {c:Tc} {τ:Nat→Nat}

theorem Tk.still(h:Tk K N w p M bg c τ)(hK:K+1≤100000){w':World}(hk:Same w w'):TgA K N w p M bg τ c w':=⟨(h.same hk).more (Nat.le_succ _) hK,hk.mono (fun _ _ f=>f.elim)⟩

theorem Tc.set_self{q:Nat}:c.set q (c.mv q)=c:=by
 unfold Tc.set
 have:(fun x=>if x=q then c.mv q else c.mv x)=c.mv:=funext fun x=>by
  by_cases e:x=q
  ·rw[if_pos e,e]
  ·rw[if_neg e]
 rw[this]

theorem stg_none{n:Nb}{ar en:Nm}{f:Nat→Int×Mv}{w':World}(hg:getK n c.L=none)(hT:TgA K N w p M bg τ c w'):StgA K N w p M bg τ c n ar en f (.returned (.int .i64 140)) w':=⟨140,c,rfl,by unfold StgR;rw[hg];exact⟨rfl,rfl⟩,hT⟩
theorem stg_bad{n:Nb}{q:Nat}{ar en:Nm}{f:Nat→Int×Mv}{w':World}(hg:getK n c.L=some q)(hn:namT ar en=false)(hT:TgA K N w p M bg τ c w'):StgA K N w p M bg τ c n ar en f (.returned (.int .i64 143)) w':=⟨143,c,rfl,by unfold StgR;rw[hg];show(if namT ar en=true then _ else _);rw[if_neg (by rw[hn];decide)];exact⟨rfl,rfl⟩,hT⟩
theorem stg_at{n:Nb}{q:Nat}{ar en:Nm}{f:Nat→Int×Mv}{w':World}(hg:getK n c.L=some q)(hn:namT ar en=true){m:Int}{mv:Mv}(hf:f q=(m,mv))(hT:TgA K N w p M bg τ (c.set q mv) w'):StgA K N w p M bg τ c n ar en f (.returned (.int .i64 m)) w':=⟨m,c.set q mv,rfl,by unfold StgR;rw[hg];simp only[hn,if_true,hf,and_self],hT⟩

set_option maxRecDepth 100000 in
set_option maxHeartbeats 2000000 in
theorem tput_any(h:Tk K N w p M bg c τ)(n:Nb)(ar en:Nm)(d:ByteArray)(hd:d.size≤maxLen)(hx:Mxl w)(hK:K+1≤100000):Calls Tryz.prog 28 #[.pointer (some ⟨p,0,none⟩),.int .i64 n.v,.string ar.s,.string en.s,.string d] w fun e w'=>StgA K N w p M bg τ c n ar en (fun q=>if 8192<d.size then(145,c.mv q) else(0,stM (c.mv q) ⟨(keT c q ar en).1,(keT c q ar en).2,true,d,hd⟩)) e w':=by
 have HE:=tentry_any h n ar.s en.s hx
 have HT:Hid (Tk K N w p M bg c τ∧K+1≤100000):=hid ⟨h,hK⟩
 obtain⟨f,hf⟩:∃f:Nat→Int×Mv,f=fun q=>if 8192<d.size then(145,c.mv q) else(0,stM (c.mv q) ⟨(keT c q ar en).1,(keT c q ar en).2,true,d,hd⟩):=⟨_,rfl⟩
 rw[←hf]
 cases hg:getK n c.L with
 | none=>
  rw[entA_none hg]at HE
  have HG:Hid (getK n c.L=none):=hg
  clear h hx hK hg hf
  go_enter Tryz.func28,Tryz.ntmps28
  go_wp2_with fail
  refine HE.mono ?_
  rintro e w1 ⟨rfl,hk1⟩
  have HK1:Hid (Same w w1):=hk1
  clear hk1 HE
  go_wp2_with fail
  go_ret
  exact stg_none HG.out (HT.out.1.still HT.out.2 (HK1.out.alloc _))
 | some q=>
  cases hn:namT ar en with
  | false=>
   rw[entA_bad hg hn]at HE
   have HG:Hid (getK n c.L=some q∧namT ar en=false):=hid ⟨hg,hn⟩
   clear h hx hK hg hn hf
   go_enter Tryz.func28,Tryz.ntmps28
   go_wp2_with fail
   refine HE.mono ?_
   rintro e w1 ⟨rfl,hk1⟩
   have HK1:Hid (Same w w1):=hk1
   clear hk1 HE
   go_wp2_with fail
   go_ret
   exact stg_bad HG.out.1 HG.out.2 (HT.out.1.still HT.out.2 (HK1.out.alloc _))
  | true=>
   rw[entA_good hg hn]at HE
   obtain⟨ky,hky⟩:∃k,k=keT c q ar en:=⟨_,rfl⟩
   rw[←hky]at HE
   by_cases hl:8192<d.size
   ·have b1:(8192:Int)<(d.size:Int):=by omega
    have HR:Hid (f q=(145,c.mv q)∧getK n c.L=some q∧namT ar en=true):=hid ⟨by rw[hf];exact if_pos hl,hg,hn⟩
    clear h hx hK hg hn hky hl hf
    go_enter Tryz.func28,Tryz.ntmps28
    go_wp2_with fail
    refine HE.mono ?_
    rintro e w1 ⟨rfl,hk1⟩
    have HK1:Hid (Same w w1):=hk1
    clear hk1 HE
    go_wp2_with fail
    go_ret
    exact stg_at HR.out.2.1 HR.out.2.2 HR.out.1 (by rw[Tc.set_self];exact HT.out.1.still HT.out.2 (HK1.out.alloc _))
   ·have b1:(d.size:Int)≤8192:=by omega
    have HR:Hid (f q=(0,stM (c.mv q) ⟨ky.1,ky.2,true,d,hd⟩)∧namT ar en=true):=hid ⟨by rw[hf,hky];exact if_neg hl,hn⟩
    have HG:Hid (getK n c.L=some q):=hg
    have HST:Hid (∀w',Same w w'→w'.cell? ⟨q,2,none⟩=some (.pointer (some ⟨c.st q,0,none⟩))):=hid (fun w' hk=>((h.same hk).tb _ (getK_mem hg)).cell 2)
    obtain⟨st,hst⟩:∃x,x=c.st q:=⟨_,rfl⟩
    have HSE:Hid (st=c.st q):=hst
    rw[←hst]at HST
    clear h hx hK hg hn hky hl hst hf
    go_enter Tryz.func28,Tryz.ntmps28
    go_wp2_with fail
    refine HE.mono ?_
    rintro e w1 ⟨rfl,hk1⟩
    obtain⟨wB,hwB⟩:∃W,W=w1.alloc (.cells #[.string ky.1.tn,.string ky.1.ar,.string ky.2.s] 63):=⟨_,rfl⟩
    obtain⟨xb,hxb⟩:∃y,y=w1.heap.size:=⟨_,rfl⟩
    have hkB:Same w wB:=by rw[hwB];exact hk1.alloc _
    have hbB:Blk wB xb #[.string ky.1.tn,.string ky.1.ar,.string ky.2.s] 63:=by rw[hwB,hxb];exact Blk.new w1 _ _
    have HKB:Hid (Same w wB):=hkB
    have HPU:Hid (∀w',Same wB w'→Calls Tryz.prog 71 #[.pointer (some ⟨st,0,none⟩),.agg #[.string ky.1.tn,.string ky.1.ar,.string ky.2.s],.string d] w' fun e w2=>e=.returned (.tuple #[])∧(w2.cell? ⟨q,2,none⟩=some (.pointer (some ⟨st,0,none⟩))∧w2.cell? ⟨xb,0,none⟩=some (.string ky.1.tn)∧w2.cell? ⟨xb,1,none⟩=some (.string ky.1.ar)∧w2.cell? ⟨xb,2,none⟩=some (.string ky.2.s))∧TgA K N w p M bg τ (c.set q (stM (c.mv q) ⟨ky.1,ky.2,true,d,hd⟩)) w2):=hid (fun w' hk=>by
     have hT:=HT.out.1.same (hkB.trans hk)
     have hv:=hT.ts _ (getK_mem HG.out)
     rw[HSE.out]
     refine(xvput hv ky d hd HT.out.2).mono (fun e w2 h9=>?_)
     obtain⟨h1,h2,h3⟩:=h9
     have h8:=hT.setMv HG.out h2 h3 (Nat.le_succ _) HT.out.2
     have hnq:=vxOff hv (hT.tb _ (getK_mem HG.out)) (by decide)
     have hbx:=(hbB.kept hk (fun f=>f)).kept h3 (vxOff hv (hbB.kept hk (fun f=>f)) (by decide))
     refine⟨h1,⟨?_,hbx.cell 0,hbx.cell 1,hbx.cell 2⟩,h8.1,Kept.trans (hkB.trans hk) h8.2 (fun _ _ f=>f.elim) (fun _ _ e=>e)⟩
     have h7:=HST.out w' (hkB.trans hk)
     rw[HSE.out]at h7
     exact h3.cell h7 hnq)
    have q2:=HST.out wB hkB
    have c0:=hbB.cell 0
    have c1:=hbB.cell 1
    have c2:=hbB.cell 2
    simp only[List.getElem?_toArray,List.getElem?_cons_zero,List.getElem?_cons_succ]at c0 c1 c2
    have HKK:Hid (Same wB wB):=hid (Kept.refl _ _)
    clear hk1 HE hkB hbB
    go_upto_region 6 with fail
    rw[←hwB,←hxb]
    clear hwB hxb
    go_region_held3 (fun w'=>w'.cell? ⟨q,2,none⟩=some (.pointer (some ⟨st,0,none⟩))∧w'.cell? ⟨xb,0,none⟩=some (.string ky.1.tn)∧w'.cell? ⟨xb,1,none⟩=some (.string ky.1.ar)∧w'.cell? ⟨xb,2,none⟩=some (.string ky.2.s))
     (first
      | exact hcl
      | go_keep)
     (first
      | (go_at_call 71;refine(HPU.out _ (by first | exact HKK.out | exact HKK.out.drew)).mono ?_;rintro e wk ⟨rfl,hcl,hT9⟩;have HT9:=hid hT9;clear hT9))
    go_wp2_with fail
    go_ret
    exact stg_at HG.out HR.out.2 HR.out.1 HT9.out

end

end Go.Proofs.YtcfociogljhbiaaGreatDoor

namespace Go.Proofs.YtcfociogljhbiaaGreatDoor
open Go.RowKit Go.Maps Go.Sort Go.Shelf

def seeD(mv:Mv)(M:Mst)(k:Ke):ByteArray:=match mv.st k with | some r=>r.data | none=>(newV (M.V k.1 k.2) (max (mv.t+1) M.floor)).data
def seeT(mv:Mv)(M:Mst)(k:Ke):Bool:=match mv.st k with | some r=>r.there | none=>(newV (M.V k.1 k.2) (max (mv.t+1) M.floor)).there
theorem seeA_is(mv:Mv)(M:Mst)(k:Ke):seeA mv M k=.tuple #[.string (seeD mv M k),.bool (seeT mv M k)]:=by
 unfold seeA seeD seeT
 cases mv.st k<;>rfl
theorem notM_st(mv:Mv)(k k':Ke):(notM mv k).st k'=mv.st k'∧(notM mv k).t=mv.t:=by
 unfold notM
 split
 ·exact⟨rfl,rfl⟩
 ·exact⟨rfl,rfl⟩
theorem see_not(mv:Mv)(M:Mst)(k k':Ke):seeD (notM mv k) M k'=seeD mv M k'∧seeT (notM mv k) M k'=seeT mv M k':=by
 unfold seeD seeT
 rw[(notM_st mv k k').1,(notM_st mv k k').2]
 exact⟨rfl,rfl⟩

def SeeR(c:Tc)(n:Nb)(ar en:Nm)(z:Int→Value)(f:Nat→Value×Mv)(v:Value)(c':Tc):Prop:=
 match getK n c.L with
 | none=>v=z 140∧c'=c
 | some q=>if namT ar en=true then v=(f q).1∧c'=c.set q (f q).2 else v=z 143∧c'=c

def SeeG(K N:Nat)(w:World)(p:Nat)(M:Mst)(bg:Int)(τ:Nat→Nat)(c:Tc)(n:Nb)(ar en:Nm)(z:Int→Value)(f:Nat→Value×Mv)(e:Ending)(w':World):Prop:=∃v c',e=.returned v∧SeeR c n ar en z f v c'∧TgA K N w p M bg τ c' w'

section
variable {K N:Nat} {w:World} {p:Nat} {M:Mst} {bg:Int} {c:Tc} {τ:Nat→Nat}

theorem see_none{n:Nb}{ar en:Nm}{z:Int→Value}{f:Nat→Value×Mv}{w':World}{v:Value}(hv:v=z 140)(hg:getK n c.L=none)(hT:TgA K N w p M bg τ c w'):SeeG K N w p M bg τ c n ar en z f (.returned v) w':=⟨v,c,rfl,by unfold SeeR;rw[hg];exact⟨hv,rfl⟩,hT⟩
theorem see_bad{n:Nb}{q:Nat}{ar en:Nm}{z:Int→Value}{f:Nat→Value×Mv}{w':World}{v:Value}(hv:v=z 143)(hg:getK n c.L=some q)(hn:namT ar en=false)(hT:TgA K N w p M bg τ c w'):SeeG K N w p M bg τ c n ar en z f (.returned v) w':=⟨v,c,rfl,by unfold SeeR;rw[hg];show(if namT ar en=true then _ else _);rw[if_neg (by rw[hn];decide)];exact⟨hv,rfl⟩,hT⟩
theorem see_at{n:Nb}{q:Nat}{ar en:Nm}{z:Int→Value}{f:Nat→Value×Mv}{w':World}(hg:getK n c.L=some q)(hn:namT ar en=true){v:Value}{mv:Mv}(hf:f q=(v,mv))(hT:TgA K N w p M bg τ (c.set q mv) w'):SeeG K N w p M bg τ c n ar en z f (.returned v) w':=⟨v,c.set q mv,rfl,by unfold SeeR;rw[hg];show(if namT ar en=true then _ else _);rw[if_pos hn,hf];exact⟨rfl,rfl⟩,hT⟩

theorem Tk.tt(h:Tk K N w p M bg c τ){n:Nb}{q:Nat}(hg:getK n c.L=some q):Tt K N w q c.ps (c.ow q) (c.st q) (c.J q) (c.mv q) M c.ρ:=⟨h.tb _ (getK_mem hg),h.ts _ (getK_mem hg),h.sto⟩

theorem tnotes(h:Tk K N w p M bg c τ){n:Nb}{q:Nat}(hg:getK n c.L=some q)(k:Ke)(ht:0≤(c.mv q).t∧(c.mv q).t≤9223372036854775806)(hK:K+1≤100000):Calls Tryz.prog 67 #[.pointer (some ⟨q,0,none⟩),.agg #[.string k.1.tn,.string k.1.ar,.string k.2.s]] w fun e w2=>e=.returned (.tuple #[])∧Kept (c.J q) w w2∧TgA K N w p M bg τ (c.set q (notM (c.mv q) k)) w2∧∀w3,Same w2 w3→Calls Tryz.prog 68 #[.pointer (some ⟨q,0,none⟩),.agg #[.string k.1.tn,.string k.1.ar,.string k.2.s]] w3 fun e w4=>e=.returned (.tuple #[.string (seeD (c.mv q) M k),.bool (seeT (c.mv q) M k)])∧Same w3 w4:=by
 refine(tnote_any (h.tt hg) k hK).mono ?_
 rintro e w2 ⟨rfl,h2,h3⟩
 have h8:=h.setMv hg h2 h3 (Nat.le_succ _) hK
 refine⟨rfl,h3,h8,fun w3 hk3=>?_⟩
 have h9:=(h8.1.same hk3).tt (n:=n) (q:=q) hg
 have e1:(c.set q (notM (c.mv q) k)).mv q=notM (c.mv q) k:=if_pos rfl
 rw[e1]at h9
 have h7:=tsees_any h9 k (by rw[(notM_st (c.mv q) k k).2];exact ht)
 rw[seeA_is,(see_not (c.mv q) M k k).1,(see_not (c.mv q) M k k).2]at h7
 exact h7

set_option maxRecDepth 100000 in
set_option maxHeartbeats 2000000 in
theorem tread_any(h:Tk K N w p M bg c τ)(n:Nb)(ar en:Nm)(hx:Mxl w)(hs:∀x∈c.L,0≤(c.mv x.2).t∧(c.mv x.2).t≤9223372036854775806)(hK:K+1≤100000):Calls Tryz.prog 24 #[.pointer (some ⟨p,0,none⟩),.int .i64 n.v,.string ar.s,.string en.s] w fun e w'=>SeeG K N w p M bg τ c n ar en (fun m=>.tuple #[.string ⟨#[]⟩,.int .i64 m]) (fun q=>(if seeT (c.mv q) M (keT c q ar en)=true then .tuple #[.string (seeD (c.mv q) M (keT c q ar en)),.int .i64 0]else .tuple #[.string ⟨#[]⟩,.int .i64 144],notM (c.mv q) (keT c q ar en))) e w':=by
 have HE:=tentry_any h n ar.s en.s hx
 have HT:Hid (Tk K N w p M bg c τ∧K+1≤100000):=hid ⟨h,hK⟩
 obtain⟨f,hf⟩:∃f:Nat→Value×Mv,f=fun q=>(if seeT (c.mv q) M (keT c q ar en)=true then .tuple #[.string (seeD (c.mv q) M (keT c q ar en)),.int .i64 0]else .tuple #[.string ⟨#[]⟩,.int .i64 144],notM (c.mv q) (keT c q ar en)):=⟨_,rfl⟩
 rw[←hf]
 obtain⟨z,hz⟩:∃z:Int→Value,z=fun m=>.tuple #[.string ⟨#[]⟩,.int .i64 m]:=⟨_,rfl⟩
 rw[←hz]
 have HZ:Hid (z=fun m=>.tuple #[.string ⟨#[]⟩,.int .i64 m]):=hz
 clear hz
 cases hg:getK n c.L with
 | none=>
  rw[entA_none hg]at HE
  have HG:Hid (getK n c.L=none):=hg
  clear h hx hK hg hf hs
  go_enter Tryz.func24,Tryz.ntmps24
  go_wp2_with fail
  refine HE.mono ?_
  rintro e w1 ⟨rfl,hk1⟩
  have HK1:Hid (Same w w1):=hk1
  clear hk1 HE
  go_wp2_with fail
  go_ret2
  exact see_none (by rw[HZ.out];rfl) HG.out (HT.out.1.still HT.out.2 (HK1.out.alloc _))
 | some q=>
  cases hn:namT ar en with
  | false=>
   rw[entA_bad hg hn]at HE
   have HG:Hid (getK n c.L=some q∧namT ar en=false):=hid ⟨hg,hn⟩
   clear h hx hK hg hn hf hs
   go_enter Tryz.func24,Tryz.ntmps24
   go_wp2_with fail
   refine HE.mono ?_
   rintro e w1 ⟨rfl,hk1⟩
   have HK1:Hid (Same w w1):=hk1
   clear hk1 HE
   go_wp2_with fail
   go_ret2
   exact see_bad (by rw[HZ.out];rfl) HG.out.1 HG.out.2 (HT.out.1.still HT.out.2 (HK1.out.alloc _))
  | true=>
   rw[entA_good hg hn]at HE
   obtain⟨ky,hky⟩:∃k,k=keT c q ar en:=⟨_,rfl⟩
   rw[←hky]at HE
   have hts:=hs _ (getK_mem hg)
   obtain⟨sd,hsd⟩:∃x,x=seeD (c.mv q) M ky:=⟨_,rfl⟩
   obtain⟨st',hst'⟩:∃x,x=seeT (c.mv q) M ky:=⟨_,rfl⟩
   have HR:Hid (f q=(if st'=true then .tuple #[.string sd,.int .i64 0]else .tuple #[.string ⟨#[]⟩,.int .i64 144],notM (c.mv q) ky)∧getK n c.L=some q∧namT ar en=true):=hid ⟨by rw[hf,hst',hsd,hky],hg,hn⟩
   have HNT:Hid (∀w',Same w w'→Calls Tryz.prog 67 #[.pointer (some ⟨q,0,none⟩),.agg #[.string ky.1.tn,.string ky.1.ar,.string ky.2.s]] w' fun e w2=>e=.returned (.tuple #[])∧Kept (c.J q) w' w2∧TgA K N w' p M bg τ (c.set q (notM (c.mv q) ky)) w2∧∀w3,Same w2 w3→Calls Tryz.prog 68 #[.pointer (some ⟨q,0,none⟩),.agg #[.string ky.1.tn,.string ky.1.ar,.string ky.2.s]] w3 fun e w4=>e=.returned (.tuple #[.string sd,.bool st'])∧Same w3 w4):=hid (fun w' hk=>by
    rw[hsd,hst']
    exact tnotes (HT.out.1.same hk) hg ky hts HT.out.2)
   have HVX:Hid (∀w',Same w w'→Vx K w' (c.st q) (c.J q) (c.mv q)):=hid (fun w' hk=>(h.same hk).ts _ (getK_mem hg))
   clear h hx hK hg hn hky hf hs hts hsd hst'
   go_enter Tryz.func24,Tryz.ntmps24
   go_wp2_with fail
   refine HE.mono ?_
   rintro e w1 ⟨rfl,hk1⟩
   obtain⟨wB,hwB⟩:∃W,W=w1.alloc (.cells #[.string ky.1.tn,.string ky.1.ar,.string ky.2.s] 63):=⟨_,rfl⟩
   obtain⟨xb,hxb⟩:∃y,y=w1.heap.size:=⟨_,rfl⟩
   have hkB:Same w wB:=by rw[hwB];exact hk1.alloc _
   have hbB:Blk wB xb #[.string ky.1.tn,.string ky.1.ar,.string ky.2.s] 63:=by rw[hwB,hxb];exact Blk.new w1 _ _
   have HB:Hid (Same w wB∧Blk wB xb #[.string ky.1.tn,.string ky.1.ar,.string ky.2.s] 63):=hid ⟨hkB,hbB⟩
   have c0:=hbB.cell 0
   have c1:=hbB.cell 1
   have c2:=hbB.cell 2
   simp only[List.getElem?_toArray,List.getElem?_cons_zero,List.getElem?_cons_succ]at c0 c1 c2
   clear hk1 HE hkB hbB
   go_upto_region 4 with fail
   rw[←hwB,←hxb]
   clear hwB hxb
   go_wp2_with fail
   refine(HNT.out wB HB.out.1).mono ?_
   rintro e w2 ⟨rfl,hj2,hT2,hcon⟩
   have H2:Hid (TgA K N w p M bg τ (c.set q (notM (c.mv q) ky)) w2):=hid ⟨hT2.1,Kept.trans HB.out.1 hT2.2 (fun _ _ f=>f.elim) (fun _ _ e=>e)⟩
   have HCN:=hid hcon
   have hb2:=HB.out.2.kept hj2 (vxOff (HVX.out wB HB.out.1) HB.out.2 (by decide))
   clear c0 c1 c2
   have c0:=hb2.cell 0
   have c1:=hb2.cell 1
   have c2:=hb2.cell 2
   simp only[List.getElem?_toArray,List.getElem?_cons_zero,List.getElem?_cons_succ]at c0 c1 c2
   clear hj2 hT2 hcon hb2
   go_wp2_with fail
   refine(HCN.out w2 (Kept.refl _ _)).mono ?_
   rintro e w3 ⟨rfl,hk3⟩
   have H3:Hid (TgA K N w p M bg τ (c.set q (notM (c.mv q) ky)) w3):=hid ⟨H2.out.1.same hk3,Kept.trans H2.out.2 hk3 (fun _ _ e=>e) (fun _ _ f=>f.elim)⟩
   clear hk3 c0 c1 c2
   cases st' with
   | true=>
    go_wp2_with fail
    go_ret2
    exact see_at HR.out.2.1 HR.out.2.2 (by rw[HR.out.1];rfl) H3.out
   | false=>
    go_wp2_with fail
    go_ret2
    exact see_at HR.out.2.1 HR.out.2.2 (by rw[HR.out.1];rfl) H3.out

end

end Go.Proofs.YtcfociogljhbiaaGreatDoor

namespace Go.Proofs.YtcfociogljhbiaaGreatDoor
open Go.RowKit Go.Maps Go.Sort Go.Shelf

theorem newV_in(l:List Ver)(t:Int):newV l t=ver0∨newV l t∈l:=by
 unfold newV
 split
 ·exact .inl rfl
 ·rename_i h
  have hl:=upV_le l t
  right
  rw[List.getD_eq_getElem?_getD,List.getElem?_eq_getElem (show upV l t-1<l.length by omega)]
  exact List.getElem_mem _

def addF(mv:Mv)(M:Mst)(k:Ke)(d:ByteArray):Int×Mv:=
 if h:(seeD mv M k).size+d.size≤8192 then(0,stM (notM mv k) ⟨k.1,k.2,true,seeD mv M k++d,by rw[ByteArray.size_append];unfold maxLen;omega⟩) else(145,notM mv k)

section
variable {K N:Nat} {w:World} {p:Nat} {M:Mst} {bg:Int} {c:Tc} {τ:Nat→Nat}

theorem Tc.set_set{q:Nat}{a b:Mv}:(c.set q a).set q b=c.set q b:=by
 unfold Tc.set
 have:(fun x=>if x=q then b else if x=q then a else c.mv x)=fun x=>if x=q then b else c.mv x:=funext fun x=>by
  by_cases e:x=q
  ·rw[if_pos e,if_pos e]
  ·rw[if_neg e,if_neg e,if_neg e]
 simp only[this]

set_option maxRecDepth 100000 in
set_option maxHeartbeats 2000000 in
theorem tadd_any(h:Tk K N w p M bg c τ)(n:Nb)(ar en:Nm)(d:ByteArray)(hbig:∀q,getK n c.L=some q→(seeD (c.mv q) M (keT c q ar en)).size+d.size≤4611686018427387904)(hx:Mxl w)(hs:∀x∈c.L,0≤(c.mv x.2).t∧(c.mv x.2).t≤9223372036854775806)(hK:K+1+1≤100000):Calls Tryz.prog 29 #[.pointer (some ⟨p,0,none⟩),.int .i64 n.v,.string ar.s,.string en.s,.string d] w fun e w'=>StgA (K+1) N w p M bg τ c n ar en (fun q=>addF (c.mv q) M (keT c q ar en) d) e w':=by
 have HE:=tentry_any h n ar.s en.s hx
 have HT:Hid (Tk K N w p M bg c τ∧K+1≤100000):=hid ⟨h,by omega⟩
 have HK2:Hid (K+1+1≤100000):=hK
 obtain⟨f,hf⟩:∃f:Nat→Int×Mv,f=fun q=>addF (c.mv q) M (keT c q ar en) d:=⟨_,rfl⟩
 rw[←hf]
 cases hg:getK n c.L with
 | none=>
  rw[entA_none hg]at HE
  have HG:Hid (getK n c.L=none):=hg
  clear h hx hK hg hf hs hbig
  go_enter Tryz.func29,Tryz.ntmps29
  go_wp2_with fail
  refine HE.mono ?_
  rintro e w1 ⟨rfl,hk1⟩
  have HK1:Hid (Same w w1):=hk1
  clear hk1 HE
  go_wp2_with fail
  go_ret
  exact stg_none HG.out ((HT.out.1.more (Nat.le_succ _) HT.out.2).still HK2.out (HK1.out.alloc _))
 | some q=>
  cases hn:namT ar en with
  | false=>
   rw[entA_bad hg hn]at HE
   have HG:Hid (getK n c.L=some q∧namT ar en=false):=hid ⟨hg,hn⟩
   clear h hx hK hg hn hf hs hbig
   go_enter Tryz.func29,Tryz.ntmps29
   go_wp2_with fail
   refine HE.mono ?_
   rintro e w1 ⟨rfl,hk1⟩
   have HK1:Hid (Same w w1):=hk1
   clear hk1 HE
   go_wp2_with fail
   go_ret
   exact stg_bad HG.out.1 HG.out.2 ((HT.out.1.more (Nat.le_succ _) HT.out.2).still HK2.out (HK1.out.alloc _))
  | true=>
   rw[entA_good hg hn]at HE
   obtain⟨ky,hky⟩:∃k,k=keT c q ar en:=⟨_,rfl⟩
   rw[←hky]at HE
   have hts:=hs _ (getK_mem hg)
   obtain⟨sd,hsd⟩:∃x,x=seeD (c.mv q) M ky:=⟨_,rfl⟩
   obtain⟨st',hst'⟩:∃x,x=seeT (c.mv q) M ky:=⟨_,rfl⟩
   have hsz:sd.size+d.size≤4611686018427387904:=by have h9:=hbig q hg;rw[←hky,←hsd]at h9;exact h9
   have HR:Hid ((8192<sd.size+d.size→f q=(145,notM (c.mv q) ky))∧(∀hz:(sd++d).size≤maxLen,¬8192<sd.size+d.size→f q=(0,stM (notM (c.mv q) ky) ⟨ky.1,ky.2,true,sd++d,hz⟩))∧getK n c.L=some q∧namT ar en=true):=hid ⟨fun e=>by subst hsd;rw[hf];show addF (c.mv q) M (keT c q ar en) d=_;rw[←hky];unfold addF;rw[dif_neg (by omega)],fun hz e=>by subst hsd;rw[hf];show addF (c.mv q) M (keT c q ar en) d=_;rw[←hky];unfold addF;rw[dif_pos (by omega)],hg,hn⟩
   have HNT:Hid (∀w',Same w w'→Calls Tryz.prog 67 #[.pointer (some ⟨q,0,none⟩),.agg #[.string ky.1.tn,.string ky.1.ar,.string ky.2.s]] w' fun e w2=>e=.returned (.tuple #[])∧Kept (c.J q) w' w2∧TgA K N w' p M bg τ (c.set q (notM (c.mv q) ky)) w2∧∀w3,Same w2 w3→Calls Tryz.prog 68 #[.pointer (some ⟨q,0,none⟩),.agg #[.string ky.1.tn,.string ky.1.ar,.string ky.2.s]] w3 fun e w4=>e=.returned (.tuple #[.string sd,.bool st'])∧Same w3 w4):=hid (fun w' hk=>by
    rw[hsd,hst']
    exact tnotes (HT.out.1.same hk) hg ky hts HT.out.2)
   have HVX:Hid (∀w',Same w w'→Vx K w' (c.st q) (c.J q) (c.mv q)):=hid (fun w' hk=>(h.same hk).ts _ (getK_mem hg))
   have HST:Hid (∀w',Tk (K+1) N w' p M bg (c.set q (notM (c.mv q) ky)) τ→w'.cell? ⟨q,2,none⟩=some (.pointer (some ⟨c.st q,0,none⟩))∧Vx (K+1) w' (c.st q) (c.J q) (notM (c.mv q) ky)):=hid (fun w' hT=>by
    have h9:=hT.tt (n:=n) (q:=q) hg
    have e1:(c.set q (notM (c.mv q) ky)).mv q=notM (c.mv q) ky:=if_pos rfl
    rw[e1]at h9
    exact⟨h9.blk.cell 2,h9.set⟩)
   have HSZ:Hid (sd.size+d.size≤4611686018427387904):=hsz
   clear h hx hK hg hn hky hf hs hts hsd hst' hsz hbig
   go_enter Tryz.func29,Tryz.ntmps29
   go_wp2_with fail
   refine HE.mono ?_
   rintro e w1 ⟨rfl,hk1⟩
   obtain⟨wB,hwB⟩:∃W,W=w1.alloc (.cells #[.string ky.1.tn,.string ky.1.ar,.string ky.2.s] 63):=⟨_,rfl⟩
   obtain⟨xb,hxb⟩:∃y,y=w1.heap.size:=⟨_,rfl⟩
   have hkB:Same w wB:=by rw[hwB];exact hk1.alloc _
   have hbB:Blk wB xb #[.string ky.1.tn,.string ky.1.ar,.string ky.2.s] 63:=by rw[hwB,hxb];exact Blk.new w1 _ _
   have HB:Hid (Same w wB∧Blk wB xb #[.string ky.1.tn,.string ky.1.ar,.string ky.2.s] 63):=hid ⟨hkB,hbB⟩
   have c0:=hbB.cell 0
   have c1:=hbB.cell 1
   have c2:=hbB.cell 2
   simp only[List.getElem?_toArray,List.getElem?_cons_zero,List.getElem?_cons_succ]at c0 c1 c2
   clear hk1 HE hkB hbB
   go_upto_region 4 with fail
   rw[←hwB,←hxb]
   clear hwB hxb
   go_wp2_with fail
   refine(HNT.out wB HB.out.1).mono ?_
   rintro e w2 ⟨rfl,hj2,hT2,hcon⟩
   have H2:Hid (TgA K N w p M bg τ (c.set q (notM (c.mv q) ky)) w2):=hid ⟨hT2.1,Kept.trans HB.out.1 hT2.2 (fun _ _ f=>f.elim) (fun _ _ e=>e)⟩
   have HCN:=hid hcon
   have hb2:=HB.out.2.kept hj2 (vxOff (HVX.out wB HB.out.1) HB.out.2 (by decide))
   have HBX:Hid (Blk w2 xb #[.string ky.1.tn,.string ky.1.ar,.string ky.2.s] 63):=hb2
   clear c0 c1 c2
   have c0:=hb2.cell 0
   have c1:=hb2.cell 1
   have c2:=hb2.cell 2
   simp only[List.getElem?_toArray,List.getElem?_cons_zero,List.getElem?_cons_succ]at c0 c1 c2
   clear hj2 hT2 hcon hb2
   go_wp2_with fail
   refine(HCN.out w2 (Kept.refl _ _)).mono ?_
   rintro e w3 ⟨rfl,hk3⟩
   have H3:Hid (TgA K N w p M bg τ (c.set q (notM (c.mv q) ky)) w3):=hid ⟨H2.out.1.same hk3,Kept.trans H2.out.2 hk3 (fun _ _ e=>e) (fun _ _ f=>f.elim)⟩
   have hb3:=HBX.out.kept hk3 (fun f=>f)
   clear c0 c1 c2
   have hlw:IntKind.i64.wrap ((sd.size:Int)+(d.size:Int))=(sd.size:Int)+(d.size:Int):=by have:=HSZ.out;rw[IntKind.wrap_i64];omega
   by_cases hl:8192<sd.size+d.size
   ·have b1:(8192:Int)<(sd.size:Int)+(d.size:Int):=by omega
    have HF:=hid (HR.out.1 hl)
    clear hl hk3 hb3
    go_wp2_with fail
    go_ret
    exact stg_at HR.out.2.2.1 HR.out.2.2.2 HF.out ⟨H3.out.1.more (Nat.le_succ _) HK2.out,H3.out.2⟩
   ·have b1:(sd.size:Int)+(d.size:Int)≤8192:=by omega
    have hz:(sd++d).size≤maxLen:=by rw[ByteArray.size_append];unfold maxLen;omega
    have hz2:sd.size+d.size≤maxLen:=by unfold maxLen;omega
    have hz3:¬maxLen<sd.size+d.size:=by omega
    have HF:=hid (HR.out.2.1 hz hl)
    obtain⟨q2,hvx⟩:=HST.out w3 H3.out.1
    have HPU:Hid (∀w',Same w3 w'→Calls Tryz.prog 71 #[.pointer (some ⟨c.st q,0,none⟩),.agg #[.string ky.1.tn,.string ky.1.ar,.string ky.2.s],.string (sd++d)] w' fun e w2=>e=.returned (.tuple #[])∧(w2.cell? ⟨q,2,none⟩=some (.pointer (some ⟨c.st q,0,none⟩))∧w2.cell? ⟨xb,0,none⟩=some (.string ky.1.tn)∧w2.cell? ⟨xb,1,none⟩=some (.string ky.1.ar)∧w2.cell? ⟨xb,2,none⟩=some (.string ky.2.s))∧TgA (K+1) N w p M bg τ (c.set q (stM (notM (c.mv q) ky) ⟨ky.1,ky.2,true,sd++d,hz⟩)) w2):=hid (fun w' hk=>by
     refine(xvput (hvx.same hk) ky (sd++d) hz HK2.out).mono (fun e w2 h9=>?_)
     obtain⟨h1,h2,h3⟩:=h9
     have hT:=H3.out.1.same hk
     have h8:=hT.setMv (n:=n) (q:=q) HR.out.2.2.1 h2 h3 (Nat.le_succ _) HK2.out
     have hbw:=hb3.kept hk (fun f=>f)
     have hbx:=hbw.kept h3 (vxOff (hvx.same hk) hbw (by decide))
     have hnq:=vxOff (hvx.same hk) (hT.tb _ (getK_mem HR.out.2.2.1)) (by decide)
     refine⟨h1,⟨h3.cell ((HST.out w' hT).1) hnq,hbx.cell 0,hbx.cell 1,hbx.cell 2⟩,?_⟩
     have h7:=h8.1
     rw[Tc.set_set]at h7
     exact⟨h7,Kept.trans (Kept.trans H3.out.2 hk (fun _ _ e=>e) (fun _ _ f=>f.elim)) h8.2 (fun _ _ e=>e) (fun _ _ e=>e)⟩)
    have c0:=hb3.cell 0
    have c1:=hb3.cell 1
    have c2:=hb3.cell 2
    simp only[List.getElem?_toArray,List.getElem?_cons_zero,List.getElem?_cons_succ]at c0 c1 c2
    obtain⟨st,hst⟩:∃x,x=c.st q:=⟨_,rfl⟩
    rw[←hst]at HPU q2
    have HKK:Hid (Same w3 w3):=hid (Kept.refl _ _)
    clear hl hk3 hb3 hvx hst
    go_upto_region 8 with fail
    go_region_with (go_at_call 71;refine(HPU.out _ (show Same w3 _ by first | exact HKK.out | exact HKK.out.drew)).mono ?_;rintro e wk ⟨rfl,hcl,hT9⟩;have HT9:=hid hT9;clear hT9)
    all_goals go_wp2_with fail
    all_goals go_ret
    all_goals exact stg_at HR.out.2.2.1 HR.out.2.2.2 HF.out HT9.out

end

end Go.Proofs.YtcfociogljhbiaaGreatDoor

namespace Go.Proofs.YtcfociogljhbiaaGreatDoor
open Go.RowKit Go.Maps Go.Sort Go.Shelf

section
variable {K N:Nat} {w:World} {p:Nat} {M:Mst} {bg:Int} {c:Tc} {τ:Nat→Nat}

set_option maxRecDepth 100000 in
set_option maxHeartbeats 2000000 in
theorem tdel_any(h:Tk K N w p M bg c τ)(n:Nb)(ar en:Nm)(hx:Mxl w)(hK:K+1≤100000):Calls Tryz.prog 30 #[.pointer (some ⟨p,0,none⟩),.int .i64 n.v,.string ar.s,.string en.s] w fun e w'=>StgA K N w p M bg τ c n ar en (fun q=>(0,stM (c.mv q) ⟨(keT c q ar en).1,(keT c q ar en).2,false,⟨#[]⟩,by decide⟩)) e w':=by
 have HE:=tentry_any h n ar.s en.s hx
 have HT:Hid (Tk K N w p M bg c τ∧K+1≤100000):=hid ⟨h,hK⟩
 obtain⟨f,hf⟩:∃f:Nat→Int×Mv,f=fun q=>(0,stM (c.mv q) ⟨(keT c q ar en).1,(keT c q ar en).2,false,⟨#[]⟩,by decide⟩):=⟨_,rfl⟩
 rw[←hf]
 cases hg:getK n c.L with
 | none=>
  rw[entA_none hg]at HE
  have HG:Hid (getK n c.L=none):=hg
  clear h hx hK hg hf
  go_enter Tryz.func30,Tryz.ntmps30
  go_wp2_with fail
  refine HE.mono ?_
  rintro e w1 ⟨rfl,hk1⟩
  have HK1:Hid (Same w w1):=hk1
  clear hk1 HE
  go_wp2_with fail
  go_ret
  exact stg_none HG.out (HT.out.1.still HT.out.2 (HK1.out.alloc _))
 | some q=>
  cases hn:namT ar en with
  | false=>
   rw[entA_bad hg hn]at HE
   have HG:Hid (getK n c.L=some q∧namT ar en=false):=hid ⟨hg,hn⟩
   clear h hx hK hg hn hf
   go_enter Tryz.func30,Tryz.ntmps30
   go_wp2_with fail
   refine HE.mono ?_
   rintro e w1 ⟨rfl,hk1⟩
   have HK1:Hid (Same w w1):=hk1
   clear hk1 HE
   go_wp2_with fail
   go_ret
   exact stg_bad HG.out.1 HG.out.2 (HT.out.1.still HT.out.2 (HK1.out.alloc _))
  | true=>
   rw[entA_good hg hn]at HE
   obtain⟨ky,hky⟩:∃k,k=keT c q ar en:=⟨_,rfl⟩
   rw[←hky]at HE
   have HR:Hid (f q=(0,stM (c.mv q) ⟨ky.1,ky.2,false,⟨#[]⟩,by decide⟩)∧namT ar en=true):=hid ⟨by rw[hf,hky],hn⟩
   have HG:Hid (getK n c.L=some q):=hg
   have HST:Hid (∀w',Same w w'→w'.cell? ⟨q,2,none⟩=some (.pointer (some ⟨c.st q,0,none⟩))):=hid (fun w' hk=>((h.same hk).tb _ (getK_mem hg)).cell 2)
   obtain⟨st,hst⟩:∃x,x=c.st q:=⟨_,rfl⟩
   have HSE:Hid (st=c.st q):=hst
   rw[←hst]at HST
   clear h hx hK hg hn hky hst hf
   go_enter Tryz.func30,Tryz.ntmps30
   go_wp2_with fail
   refine HE.mono ?_
   rintro e w1 ⟨rfl,hk1⟩
   obtain⟨wB,hwB⟩:∃W,W=w1.alloc (.cells #[.string ky.1.tn,.string ky.1.ar,.string ky.2.s] 63):=⟨_,rfl⟩
   obtain⟨xb,hxb⟩:∃y,y=w1.heap.size:=⟨_,rfl⟩
   have hkB:Same w wB:=by rw[hwB];exact hk1.alloc _
   have hbB:Blk wB xb #[.string ky.1.tn,.string ky.1.ar,.string ky.2.s] 63:=by rw[hwB,hxb];exact Blk.new w1 _ _
   have HKB:Hid (Same w wB):=hkB
   have HPU:Hid (∀w',Same wB w'→Calls Tryz.prog 72 #[.pointer (some ⟨st,0,none⟩),.agg #[.string ky.1.tn,.string ky.1.ar,.string ky.2.s]] w' fun e w2=>e=.returned (.tuple #[])∧(w2.cell? ⟨q,2,none⟩=some (.pointer (some ⟨st,0,none⟩))∧w2.cell? ⟨xb,0,none⟩=some (.string ky.1.tn)∧w2.cell? ⟨xb,1,none⟩=some (.string ky.1.ar)∧w2.cell? ⟨xb,2,none⟩=some (.string ky.2.s))∧TgA K N w p M bg τ (c.set q (stM (c.mv q) ⟨ky.1,ky.2,false,⟨#[]⟩,by decide⟩)) w2):=hid (fun w' hk=>by
    have hT:=HT.out.1.same (hkB.trans hk)
    have hv:=hT.ts _ (getK_mem HG.out)
    rw[HSE.out]
    refine(xvdel hv ky HT.out.2).mono (fun e w2 h9=>?_)
    obtain⟨h1,h2,h3⟩:=h9
    have h8:=hT.setMv HG.out h2 h3 (Nat.le_succ _) HT.out.2
    have hnq:=vxOff hv (hT.tb _ (getK_mem HG.out)) (by decide)
    have hbx:=(hbB.kept hk (fun f=>f)).kept h3 (vxOff hv (hbB.kept hk (fun f=>f)) (by decide))
    refine⟨h1,⟨?_,hbx.cell 0,hbx.cell 1,hbx.cell 2⟩,h8.1,Kept.trans (hkB.trans hk) h8.2 (fun _ _ f=>f.elim) (fun _ _ e=>e)⟩
    have h7:=HST.out w' (hkB.trans hk)
    rw[HSE.out]at h7
    exact h3.cell h7 hnq)
   have q2:=HST.out wB hkB
   have c0:=hbB.cell 0
   have c1:=hbB.cell 1
   have c2:=hbB.cell 2
   simp only[List.getElem?_toArray,List.getElem?_cons_zero,List.getElem?_cons_succ]at c0 c1 c2
   have HKK:Hid (Same wB wB):=hid (Kept.refl _ _)
   clear hk1 HE hkB hbB
   go_upto_region 4 with fail
   rw[←hwB,←hxb]
   clear hwB hxb
   go_region_held3 (fun w'=>w'.cell? ⟨q,2,none⟩=some (.pointer (some ⟨st,0,none⟩))∧w'.cell? ⟨xb,0,none⟩=some (.string ky.1.tn)∧w'.cell? ⟨xb,1,none⟩=some (.string ky.1.ar)∧w'.cell? ⟨xb,2,none⟩=some (.string ky.2.s))
    (first
     | exact hcl
     | go_keep)
    (first
     | (go_at_call 72;refine(HPU.out _ (by first | exact HKK.out | exact HKK.out.drew)).mono ?_;rintro e wk ⟨rfl,hcl,hT9⟩;have HT9:=hid hT9;clear hT9))
   go_wp2_with fail
   go_ret
   exact stg_at HG.out HR.out.2 HR.out.1 HT9.out

end

end Go.Proofs.YtcfociogljhbiaaGreatDoor
