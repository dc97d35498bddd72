/-
  Of the proof: parts TxA, TxB, TxM, TxE.
-/
import Derived.Deep.RegionHeld3
import Derived.BigQuiet
import Derived.Test.YtcfociogljhbiaaGreatDoorJ11
import Derived.Test.YtcfociogljhbiaaGreatDoorJ17
import Derived.Test.YtcfociogljhbiaaGreatDoorJ4
import Derived.Test.YtcfociogljhbiaaGreatDoorJ16

namespace Go.Proofs.YtcfociogljhbiaaGreatDoor
open Go.RowKit Go.Maps Go.Sort Go.Shelf

theorem zeroTx(w:World):(zeroValue 110).run Tryz.prog w=.ok (.pointer none) w:=by kernel_rfl

structure Tc where
 ps:Nat
 ρ:Nat→Nat
 mo:Nat
 L:List (Nb×Nat)
 ow:Nat→Nm
 st:Nat→Nat
 J:Nat→Nat→Prop
 mv:Nat→Mv
 cv:Value
 cl:List Cm

structure Tk(K N:Nat)(w:World)(p:Nat)(M:Mst)(bg:Int)(c:Tc)(τ:Nat→Nat):Prop where
 blk:Blk w p #[.pointer (some ⟨c.ps,0,none⟩),.int .i64 bg,.map (some c.mo),c.cv] 91
 sto:Sto K N w c.ps M c.ρ
 om:MpK 3 ptC kI w c.mo c.L
 tb:∀x∈c.L,Blk w x.2 #[.string (c.ow x.2).s,.pointer (some ⟨c.ps,0,none⟩),.pointer (some ⟨c.st x.2,0,none⟩)] 114
 ts:∀x∈c.L,Vx K w (c.st x.2) (c.J x.2) (c.mv x.2)
 cr:RowC N 59 2 cmC w c.cv c.cl
 cw:∀y∈c.cl,RowC N 65 5 wrE w (.slice y.a y.n y.c) y.ws
 inj:∀x∈c.L,∀y∈c.L,x.2=y.2→x.1=y.1
 r1:τ p=1
 r2:τ c.mo=2
 r3:∀k,c.ρ k≠0→τ k=3
 r4:∀k,c.cv.ownBlock=some k→τ k=4
 r5:∀y∈c.cl,∀k,(Value.slice y.a y.n y.c).ownBlock=some k→τ k=5
 r6:∀x∈c.L,τ x.2=6+x.2
 r7:∀x∈c.L,∀k,c.J x.2 k→τ k=6+x.2
 new:∀k,τ k≠0→N≤k∧k<w.heap.size
 key:∀x∈c.L,1≤x.1.v∧x.1.v≤bg
 num:0≤bg∧bg≤100000
 lens:c.L.length≤256∧c.cl.length≤K
 big:K≤100000

section
variable {K N:Nat} {w:World} {p:Nat} {M:Mst} {bg:Int} {c:Tc} {τ:Nat→Nat}

theorem Tk.kept(h:Tk K N w p M bg c τ){F:Nat→Prop}{w':World}(hk:Kept F w w')(hF:∀k,F k→τ k=0):Tk K N w' p M bg c τ:=by
 have hn:∀k,τ k≠0→¬F k:=fun k h1 h2=>h1 (hF k h2)
 exact {h with
  blk:=h.blk.kept hk (hn p (by rw[h.r1];decide))
  sto:=h.sto.kept hk (fun k e=>by
   cases hz:c.ρ k with
   | zero=>rfl
   | succ q=>have:=h.r3 k (by omega);rw[hF k e]at this;cases this)
  om:=h.om.kept hk (hn c.mo (by rw[h.r2];decide))
  tb:=fun x hx=>(h.tb x hx).kept hk (hn x.2 (by rw[h.r6 x hx];omega))
  ts:=fun x hx=>(h.ts x hx).kept hk (fun k e=>hn k (by rw[h.r7 x hx k e];omega))
  cr:=h.cr.kept hk (fun k e=>hn k (by rw[h.r4 k e];decide))
  cw:=fun y hy=>(h.cw y hy).kept hk (fun k e=>hn k (by rw[h.r5 y hy k e];decide))
  new:=fun k e=>⟨(h.new k e).1,Nat.lt_of_lt_of_le (h.new k e).2 hk.size⟩}

theorem Tk.same(h:Tk K N w p M bg c τ){w':World}(hk:Same w w'):Tk K N w' p M bg c τ:=h.kept hk (fun _ f=>f.elim)

theorem Tk.zero(h:Tk K N w p M bg c τ){k:Nat}(hk:w.heap.size≤k):τ k=0:=by
 cases hz:τ k with
 | zero=>rfl
 | succ q=>have:=(h.new k (by omega)).2;omega

theorem Tk.apart(h:Tk K N w p M bg c τ):c.L.Pairwise (fun p q=>p.1≠q.1):=h.om.apart intKey14

theorem Tk.look(h:Tk K N w p M bg c τ)(n:Nb):(Instr.lookup 88 (.map (some c.mo)) (.int .i64 n.v) false).run Tryz.prog w=.ok (ptO (getK n c.L)) w:=by
 have h1:=h.om.look klI rdP intKey14 88 110 Tryz.underlying88 (zeroTx w) n (.int .i64 n.v) (keyI n)
 rw[h1]
 cases getK n c.L<;>rfl

end
set_option maxRecDepth 100000 in
set_option maxHeartbeats 1000000 in
theorem tfind_any{K N:Nat}{w:World}{p:Nat}{M:Mst}{bg:Int}{c:Tc}{τ:Nat→Nat}(h:Tk K N w p M bg c τ)(n:Nb):Calls Tryz.prog 60 #[.pointer (some ⟨p,0,none⟩),.int .i64 n.v] w fun e w'=>e=.returned (.tuple #[ptO (getK n c.L),.int .i64 (if (getK n c.L).isSome then 0 else 140)])∧w'=w:=by
 have p2:w.cell? ⟨p,2,none⟩=some (.map (some c.mo)):=h.blk.cell 2
 have hl:=h.look n
 obtain⟨mo,hmo⟩:∃x,x=c.mo:=⟨_,rfl⟩
 rw[←hmo]at p2 hl
 cases hg:getK n c.L with
 | none=>
  rw[hg]at hl
  have hl2:(Instr.lookup 88 (.map (some mo)) (.int .i64 n.v) false).run Tryz.prog w=.ok (.pointer none) w:=hl
  clear h hl hg hmo
  show Calls _ _ _ _ fun e w'=>e=.returned (.tuple #[.pointer none,.int .i64 140])∧w'=w
  go_enter Tryz.func60,Tryz.ntmps60
  go_wp2_with fail
  go_ret2
  exact⟨rfl,rfl⟩
 | some q=>
  rw[hg]at hl
  have hl2:(Instr.lookup 88 (.map (some mo)) (.int .i64 n.v) false).run Tryz.prog w=.ok (.pointer (some ⟨q,0,none⟩)) w:=hl
  clear h hl hg hmo
  show Calls _ _ _ _ fun e w'=>e=.returned (.tuple #[.pointer (some ⟨q,0,none⟩),.int .i64 0])∧w'=w
  go_enter Tryz.func60,Tryz.ntmps60
  go_wp2_with fail
  go_ret2
  exact⟨rfl,rfl⟩

end Go.Proofs.YtcfociogljhbiaaGreatDoor

namespace Go.Proofs.YtcfociogljhbiaaGreatDoor
open Go.RowKit Go.Maps Go.Sort Go.Shelf

set_option maxHeartbeats 400000 in
theorem behind_any(w:World)(t:Int)(h:-9223372036854775808≤t∧t<9223372036854775807):Calls Tryz.prog 37 #[.int .i64 t] w fun e w'=>e=.returned (.int .i64 (t+1))∧w'=w:=by
 have hw:IntKind.i64.wrap (t+1)=t+1:=by rw[IntKind.wrap_i64];omega
 go_enter Tryz.func37,Tryz.ntmps37
 go_wp2_with fail
 go_ret
 exact⟨rfl,rfl⟩

set_option maxRecDepth 100000 in
set_option maxHeartbeats 1000000 in
theorem tnow_any{K N:Nat}{w:World}{p:Nat}{M:Mst}{bg:Int}{c:Tc}{τ:Nat→Nat}(h:Tk K N w p M bg c τ):Calls Tryz.prog 16 #[.pointer (some ⟨p,0,none⟩)] w fun e w'=>e=.returned (.int .i64 (M.now-1))∧w'=w:=by
 have p0:w.cell? ⟨p,0,none⟩=some (.pointer (some ⟨c.ps,0,none⟩)):=h.blk.cell 0
 have HN:=xnow h.sto
 have hn:=h.sto.nums
 have HB:=behind_any w 0 (by decide)
 obtain⟨t,ht⟩:∃x,x=M.now:=⟨_,rfl⟩
 rw[←ht]at HN ⊢
 have hw:IntKind.i64.wrap (t-1)=t-1:=by rw[IntKind.wrap_i64];omega
 clear h hn ht
 go_enter Tryz.func16,Tryz.ntmps16
 go_wp2_with fail
 refine HN.mono ?_
 rintro e w1 ⟨rfl,rfl⟩
 go_wp2_with fail
 refine HB.mono ?_
 rintro e w2 ⟨rfl,rfl⟩
 go_wp2_with fail
 go_ret
 exact⟨rfl,rfl⟩

set_option maxRecDepth 100000 in
set_option maxHeartbeats 1000000 in
theorem towner_any{K N:Nat}{w:World}{p:Nat}{M:Mst}{bg:Int}{c:Tc}{τ:Nat→Nat}(h:Tk K N w p M bg c τ)(n:Nb):Calls Tryz.prog 27 #[.pointer (some ⟨p,0,none⟩),.int .i64 n.v] w fun e w'=>(∃s m,e=.returned (.tuple #[.string s,.int .i64 m])∧(match getK n c.L with | some q=>s=(c.ow q).s∧m=0 | none=>s=⟨#[]⟩∧m=140))∧Same w w':=by
 have HF:=tfind_any h n
 cases hg:getK n c.L with
 | none=>
  rw[hg]at HF
  change Calls _ _ _ _ (fun e w'=>e=.returned (.tuple #[.pointer none,.int .i64 140])∧w'=w)at HF
  clear h hg
  show Calls _ _ _ _ fun e w'=>(∃s m,e=.returned (.tuple #[.string s,.int .i64 m])∧s=⟨#[]⟩∧m=140)∧Same w w'
  go_enter Tryz.func27,Tryz.ntmps27
  go_wp2_with fail
  refine HF.mono ?_
  rintro e w1 ⟨rfl,rfl⟩
  go_wp2_with fail
  go_ret2
  exact⟨⟨_,_,rfl,rfl,rfl⟩,Kept.refl _ _⟩
 | some q=>
  rw[hg]at HF
  change Calls _ _ _ _ (fun e w'=>e=.returned (.tuple #[.pointer (some ⟨q,0,none⟩),.int .i64 0])∧w'=w)at HF
  have q0:w.cell? ⟨q,0,none⟩=some (.string (c.ow q).s):=(h.tb _ (getK_mem hg)).cell 0
  show Calls _ _ _ _ fun e w'=>(∃s m,e=.returned (.tuple #[.string s,.int .i64 m])∧s=(c.ow q).s∧m=0)∧Same w w'
  obtain⟨s,hs⟩:∃x,x=(c.ow q).s:=⟨_,rfl⟩
  rw[←hs]at q0 ⊢
  clear h hg hs
  go_enter Tryz.func27,Tryz.ntmps27
  go_wp2_with fail
  refine HF.mono ?_
  rintro e w1 ⟨rfl,rfl⟩
  go_wp2_with fail
  try go_region
  all_goals go_wp2_with fail
  all_goals go_ret2
  all_goals exact⟨⟨_,_,rfl,rfl,rfl⟩,by first | exact Kept.refl _ _ | exact(Kept.refl _ _).drew⟩

section
variable {K N:Nat} {w:World} {p:Nat} {J:Nat→Prop} {M:Mv}

theorem vxTy(h:Vx K w p J M){k:Nat}(hk:J k):(∃es cl,w.heap[k]? = some (.map es cl))∨∃cs,Blk w k cs 169:=by
 obtain⟨mr,ml,ms,s,h1,h2,h3⟩:=h
 rcases(h2 k).1 hk with rfl | rfl | rfl | rfl
 ·exact .inr ⟨_,h1.blk⟩
 ·obtain⟨es,cl,e,_⟩:=h1.rm;exact .inl ⟨es,cl,e⟩
 ·obtain⟨es,cl,e,_⟩:=h1.lm;exact .inl ⟨es,cl,e⟩
 ·obtain⟨es,cl,e,_⟩:=h1.sm;exact .inl ⟨es,cl,e⟩

theorem vxOff(h:Vx K w p J M){k:Nat}{cs:Array Value}{t:TypeId}(hb:Blk w k cs t)(ht:t≠169):¬J k:=fun hk=>by
 unfold Blk at hb
 rcases vxTy h hk with⟨es,cl,e⟩ | ⟨cs',e⟩
 ·rw[e]at hb;cases hb
 ·unfold Blk at e
  rw[e]at hb
  simp only[Option.some.injEq,Obj.cells.injEq]at hb
  exact ht hb.2.1.symm

end

theorem setw14{w:World}{g:Nat}{a0 a1 a2 a3 a4 x0 x1 x2 x3 x4:Value}{t:TypeId}(hb:Blk w g #[a0,a1,a2,a3,a4] t):Blk (((((w.setCell ⟨g,0,none⟩ x0).setCell ⟨g,1,none⟩ x1).setCell ⟨g,2,none⟩ x2).setCell ⟨g,3,none⟩ x3).setCell ⟨g,4,none⟩ x4) g #[x0,x1,x2,x3,x4] t∧Kept (·=g) w (((((w.setCell ⟨g,0,none⟩ x0).setCell ⟨g,1,none⟩ x1).setCell ⟨g,2,none⟩ x2).setCell ⟨g,3,none⟩ x3).setCell ⟨g,4,none⟩ x4):=by
 refine⟨?_,(((((Kept.refl (·=g) w).setCell _ _ (.inl rfl)).setCell _ _ (.inl rfl)).setCell _ _ (.inl rfl)).setCell _ _ (.inl rfl)).setCell _ _ (.inl rfl)⟩
 have h9:=((((hb.set 0 x0).set 1 x1).set 2 x2).set 3 x3).set 4 x4
 simpa using h9

def notM(mv:Mv)(k:Ke):Mv:=if (mv.st k).isSome then mv else redM mv k

structure Tt(K N:Nat)(w:World)(q ps:Nat)(ow:Nm)(st:Nat)(J:Nat→Prop)(mv:Mv)(M:Mst)(ρ:Nat→Nat):Prop where
 blk:Blk w q #[.string ow.s,.pointer (some ⟨ps,0,none⟩),.pointer (some ⟨st,0,none⟩)] 114
 set:Vx K w st J mv
 sto:Sto K N w ps M ρ

theorem Tt.same{K N:Nat}{w:World}{q ps:Nat}{ow:Nm}{st:Nat}{J:Nat→Prop}{mv:Mv}{M:Mst}{ρ:Nat→Nat}(h:Tt K N w q ps ow st J mv M ρ){w':World}(hk:Same w w'):Tt K N w' q ps ow st J mv M ρ:=⟨h.blk.kept hk (fun f=>f),h.set.same hk,h.sto.same hk⟩

set_option maxRecDepth 100000 in
set_option maxHeartbeats 2000000 in
theorem tnote_any{K N:Nat}{w:World}{q ps:Nat}{ow:Nm}{st:Nat}{J:Nat→Prop}{mv:Mv}{M:Mst}{ρ:Nat→Nat}(h:Tt K N w q ps ow st J mv M ρ)(k:Ke)(hK:K+1≤100000):Calls Tryz.prog 67 #[.pointer (some ⟨q,0,none⟩),.agg #[.string k.1.tn,.string k.1.ar,.string k.2.s]] w fun e w'=>e=.returned (.tuple #[])∧Vx (K+1) w' st J (notM mv k)∧Kept J w w':=by
 obtain⟨wA,hwA⟩:∃W,W=w.alloc (.cells #[.string k.1.tn,.string k.1.ar,.string k.2.s] 63):=⟨_,rfl⟩
 obtain⟨xb,hxb⟩:∃y,y=w.heap.size:=⟨_,rfl⟩
 have hka:Same w wA:=by rw[hwA];exact(Kept.refl _ w).alloc _
 have HX:Hid (∀w',Same wA w'→(w'.cell? ⟨xb,0,none⟩=some (.string k.1.tn)∧w'.cell? ⟨xb,1,none⟩=some (.string k.1.ar)∧w'.cell? ⟨xb,2,none⟩=some (.string k.2.s))∧w'.cell? ⟨q,2,none⟩=some (.pointer (some ⟨st,0,none⟩))):=hid (fun w' hk=>by
  have hb:Blk wA xb #[.string k.1.tn,.string k.1.ar,.string k.2.s] 63:=by rw[hwA,hxb];exact Blk.new w _ _
  have hb2:=hb.kept hk (fun f=>f)
  exact⟨⟨hb2.cell 0,hb2.cell 1,hb2.cell 2⟩,(h.same (hka.trans hk)).blk.cell 2⟩)
 have HT:Hid (∀w',Same wA w'→Vx K w' st J mv):=hid (fun w' hk=>(h.same (hka.trans hk)).set)
 have HK:Hid (Same w wA∧K+1≤100000):=hid ⟨hka,hK⟩
 obtain⟨R,hR⟩:∃R,R=(mv.st k).getD wr0:=⟨_,rfl⟩
 obtain⟨on,hon⟩:∃x,x=(mv.st k).isSome:=⟨_,rfl⟩
 have HOW:Hid (∀w',Same wA w'→Calls Tryz.prog 108 #[.pointer (some ⟨st,0,none⟩),.agg #[.string k.1.tn,.string k.1.ar,.string k.2.s]] w' fun e w2=>e=.returned (.tuple #[.agg #[.string R.b.tn,.string R.b.ar,.string R.n.s,.bool R.there,.string R.data],.bool on])∧Same w' w2):=hid (fun w' hk=>by
  have h9:=xvown (HT.out w' hk) k
  rw[←hR,←hon]at h9
  exact h9)
 have HNO:Hid (on=(mv.st k).isSome):=hon
 have HNJ:Hid (¬J xb∧¬J q):=hid ⟨fun e=>by have:=h.set.lt xb e;omega,vxOff h.set h.blk (by decide)⟩
 have HRD:Hid (∀w',Same wA w'→Calls Tryz.prog 109 #[.pointer (some ⟨st,0,none⟩),.agg #[.string k.1.tn,.string k.1.ar,.string k.2.s]] w' fun e w2=>e=.returned (.tuple #[])∧Vx (K+1) w2 st J (redM mv k)∧Kept J w' w2):=hid (fun w' hk=>xvread (HT.out w' hk) k HK.out.2)
 obtain⟨⟨c0,c1,c2⟩,q2⟩:=HX.out wA (Kept.refl _ _)
 have HKK:Hid (Same wA wA):=hid (Kept.refl _ _)
 clear h hka hK hR hon
 go_enter Tryz.func67,Tryz.ntmps67
 go_wp2_with fail
 rw[←hwA,←hxb]
 clear hwA hxb
 have HZB:Hid (∀w',Same (wA.alloc (.cells #[.string ⟨#[]⟩,.string ⟨#[]⟩,.string ⟨#[]⟩,.bool false,.string ⟨#[]⟩] 65)) w'→Blk w' wA.heap.size #[.string ⟨#[]⟩,.string ⟨#[]⟩,.string ⟨#[]⟩,.bool false,.string ⟨#[]⟩] 65):=hid (fun w' hk=>(Blk.new wA _ _).kept hk (fun f=>f))
 obtain⟨⟨d0,d1,d2⟩,r2⟩:=HX.out (wA.alloc (.cells #[.string ⟨#[]⟩,.string ⟨#[]⟩,.string ⟨#[]⟩,.bool false,.string ⟨#[]⟩] 65)) ((Kept.refl _ _).alloc _)
 go_cut [4,5]from 6 to 22 (fun z4 z5 wx=>∃vb,z4=.pointer (some ⟨vb,0,none⟩)∧z5=.bool on∧Hid (Same wA wx∧Blk wx vb #[.string R.b.tn,.string R.b.ar,.string R.n.s,.bool R.there,.string R.data] 65))
 case first=>
  go_region_with (go_at_call 108;refine(HOW.out _ (show Same wA _ by first | exact(HKK.out.alloc _) | exact(HKK.out.alloc _).drew | exact(HKK.out.drew).alloc _ | exact HKK.out.drew | exact HKK.out)).mono ?_;rintro e wk ⟨rfl,hkc⟩;have HKW:Hid (Same wA wk):=hid (show Same wA wk by first | exact HKK.out.trans (Kept.undrewC hkc) | exact Same.trans (HKK.out.alloc _) (Kept.undrewC hkc));try (have hbk:=HZB.out wk (Kept.undrewC hkc);have v0:=hbk.cell 0;have v1:=hbk.cell 1;have v2:=hbk.cell 2;have v3:=hbk.cell 3;have v4:=hbk.cell 4;have z0:=hbk.frozen 0;have z1:=hbk.frozen 1;have z2:=hbk.frozen 2;have z3:=hbk.frozen 3;have z4:=hbk.frozen 4;simp only[List.getElem?_toArray,List.getElem?_cons_zero,List.getElem?_cons_succ]at v0 v1 v2 v3 v4))
  all_goals go_wp2_with fail
  all_goals go_meet
  all_goals refine⟨_,rfl,rfl,hid ?_⟩
  all_goals first
   | exact⟨Kept.trans HKW.out (setw14 hbk).2 (fun _ _ f=>f) (fun k hk e=>by omega),(setw14 hbk).1⟩
   | exact⟨HKW.out.alloc _,Blk.new wk _ _⟩
 case rest=>
  obtain⟨vb,rfl,rfl,HC⟩:=hcut
  clear c0 c1 c2 q2 d0 d1 d2 r2 HKK
  cases on with
  | true=>
   have HF:Hid (Vx (K+1) wc st J (notM mv k)∧Kept J w wc):=hid ⟨by unfold notM;rw[←HNO.out,if_pos rfl];exact(HT.out wc HC.out.1).more (Nat.le_succ _) HK.out.2,(Same.trans HK.out.1 HC.out.1).mono (fun _ _ f=>f.elim)⟩
   go_wp2_with fail
   go_end0
   exact⟨rfl,HF.out.1,HF.out.2⟩
  | false=>
   obtain⟨⟨c0,c1,c2⟩,q2⟩:=HX.out wc HC.out.1
   have HRC:Hid (∀w',Same wc w'→Calls Tryz.prog 109 #[.pointer (some ⟨st,0,none⟩),.agg #[.string k.1.tn,.string k.1.ar,.string k.2.s]] w' fun e w2=>e=.returned (.tuple #[])∧(w2.cell? ⟨xb,0,none⟩=some (.string k.1.tn)∧w2.cell? ⟨xb,1,none⟩=some (.string k.1.ar)∧w2.cell? ⟨xb,2,none⟩=some (.string k.2.s)∧w2.cell? ⟨q,2,none⟩=some (.pointer (some ⟨st,0,none⟩)))∧Vx (K+1) w2 st J (notM mv k)∧Kept J w w2):=hid (fun w' hk=>(HRD.out w' (HC.out.1.trans hk)).mono (fun e w2 h9=>by
    obtain⟨h1,h2,h3⟩:=h9
    obtain⟨⟨e0,e1,e2⟩,e3⟩:=HX.out w' (HC.out.1.trans hk)
    have hnx:=HNJ.out.1
    have hnq:=HNJ.out.2
    exact⟨h1,⟨h3.cell e0 hnx,h3.cell e1 hnx,h3.cell e2 hnx,h3.cell e3 hnq⟩,by unfold notM;rw[←HNO.out];exact h2,Kept.trans (HK.out.1.trans (HC.out.1.trans hk)) h3 (fun _ _ f=>f.elim) (fun _ _ e=>e)⟩))
   have HKK:Hid (Same wc wc):=hid (Kept.refl _ _)
   go_wp2_with fail
   go_region_held3 (fun w'=>w'.cell? ⟨xb,0,none⟩=some (.string k.1.tn)∧w'.cell? ⟨xb,1,none⟩=some (.string k.1.ar)∧w'.cell? ⟨xb,2,none⟩=some (.string k.2.s)∧w'.cell? ⟨q,2,none⟩=some (.pointer (some ⟨st,0,none⟩)))
    (first
     | exact hcl
     | go_keep)
    (first
     | (go_at_call 109;refine(HRC.out _ (by first | exact HKK.out | exact HKK.out.drew)).mono ?_;rintro e wk ⟨rfl,hcl,hv9,hk9⟩;have HV9:Hid (Vx (K+1) wk st J (notM mv k)∧Kept J w wk):=hid ⟨hv9,hk9⟩;clear hv9 hk9))
   go_wp2_with fail
   go_end0
   exact⟨rfl,HV9.out.1,HV9.out.2⟩

end Go.Proofs.YtcfociogljhbiaaGreatDoor

namespace Go.Proofs.YtcfociogljhbiaaGreatDoor
open Go.RowKit Go.Maps Go.Sort

theorem Tryz.infoCm:(Tryz.prog.info? 59).map (fun i=>(i.zero,i.size,i.bytes))=some (some (.agg #[.int .i64 0,.slice none 0 0]),2,32):=by kernel_rfl

theorem run_clearM(w:World)(b o n c:Nat)(hn:0<n)(hc:∀j,j<n*2→(w.cell? ⟨b,o+j,none⟩).isSome=true)(hf:∀j,j<n*2→w.frozen? ⟨b,o+j,none⟩=false):
  ∃vs:List Value,vs.length=n*2∧∀ty,(Builtin.clear_ #[89] ty #[.slice (some ⟨b,o,none⟩) n c]).run Tryz.prog w=.ok (.tuple #[]) (w.setCells b o vs):=by
 have hvs:∀v∈(Builtin.zeroCells #[.int .i64 0,.slice none 0 0] n).toList,v.oneCell'=true:=by
  intro v hv
  unfold Builtin.zeroCells at hv
  simp only[Array.toList_map,List.mem_map]at hv
  obtain⟨i,_,rfl⟩:=hv
  have h3:i % 2<2:=Nat.mod_lt _ (by decide)
  show(#[Value.int .i64 0,.slice none 0 0][i % 2]!).oneCell'=true
  generalize i % 2=m at h3
  match m,h3 with
  | 0,_=>rfl
  | 1,_=>rfl
 have hlen:(Builtin.zeroCells #[.int .i64 0,.slice none 0 0] n).toList.length=n*2:=by simp[Builtin.zeroCells]
 have hst:=run_storeCells_cells (P:=Tryz.prog) b o (Builtin.zeroCells #[.int .i64 0,.slice none 0 0] n).toList 0 w (by rw[hlen];simpa using hc) (by rw[hlen];simpa using hf) hvs
 rw[Nat.add_zero]at hst
 have hz:(zeroValue 59).run Tryz.prog w=.ok (.agg #[.int .i64 0,.slice none 0 0]) w:=by kernel_rfl
 refine⟨_,hlen,fun ty=>?_⟩
 obtain⟨m,rfl⟩:∃m,n=m+1:=⟨n-1,by omega⟩
 simp only[Builtin.clear_]
 simp[run_underlying Tryz.underlying89,hz,Value.cells,hst]

set_option maxHeartbeats 400000 in
theorem delM_none(w:World)(a:Option Addr)(L cap:Nat)(hL:L≤cap):
  Calls Tryz.prog 96 #[.slice a L cap,.int .i64 0,.int .i64 0] w fun e w'=>e=.returned (.slice a L cap)∧w'=w:=by
 have h1:(L:Int)≤(cap:Int):=by omega
 cases a with
 | none=>
  go_enter Tryz.func96,Tryz.ntmps96
  go_wp2_with fail
  all_goals
   go_ret
   exact⟨rfl,rfl⟩
 | some a=>
  go_enter Tryz.func96,Tryz.ntmps96
  go_wp2_with fail
  all_goals
   go_ret
   exact⟨rfl,rfl⟩

set_option maxRecDepth 100000 in
set_option maxHeartbeats 1000000 in
theorem delM_any{N:Nat}{w:World}{g L cap n:Nat}{l:List Cm}(h:RowC N 59 2 cmC w (.slice (some ⟨g,0,none⟩) L cap) l)(hn:0<n)(hnL:n≤L)(_hbig:L≤100000):
  Calls Tryz.prog 96 #[.slice (some ⟨g,0,none⟩) L cap,.int .i64 0,.int .i64 (n:Nat)] w fun e w'=>e=.returned (.slice (some ⟨g,0,none⟩) (L-n) cap)∧RowC N 59 2 cmC w' (.slice (some ⟨g,0,none⟩) (L-n) cap) (l.drop n)∧Kept (·=g) w w':=by
 obtain⟨cur,hcur,hsz,hB,hlc,hmx,hLl⟩:=h.cells9
 obtain⟨m,hm⟩:∃m,m=L-n:=⟨_,rfl⟩
 have hdl:(l.drop n).length=m:=by rw[List.length_drop];omega
 have hfl:((l.drop n).flatMap cmC).length=m*2:=by rw[flat_length cmC_ok,hdl]
 have hcells:∀j u,((l.drop n).flatMap cmC)[j]? = some u→w.cell? ⟨g,n*2+j,none⟩=some u:=by
  intro j u hu
  have hj:j<m*2:=by rw[←hfl];exact(List.getElem?_eq_some_iff.1 hu).1
  have h1:=RowC.cell cmC_ok h (n+j / 2) (j % 2) (by omega) (Nat.mod_lt _ (by decide))
  have h2:=flat_get cmC_ok (l.drop n) (j / 2) (j % 2) (by omega) (Nat.mod_lt _ (by decide))
  rw[show j / 2*2+j % 2=j by omega,hu]at h2
  rw[show(n+j / 2)*2+j % 2=n*2+j by omega]at h1
  rw[h1,h2]
  congr 2
  rw[List.getElem_drop]
 obtain⟨cur1,hcur1,hsz1,_,hin1⟩:=setCells_raw ((l.drop n).flatMap cmC) w.drew g 0 cur 59 hcur (by rw[hfl,hsz];omega)
 obtain⟨w1,hw1⟩:∃W,W=w.drew.setCells g 0 ((l.drop n).flatMap cmC):=⟨_,rfl⟩
 have hk1:Kept (·=g) w w1:=by rw[hw1];exact Kept.trans (F:=fun _=>False) (Kept.refl _ w).drew (setCells_keptC _ _ g 0) (fun _ _ f=>f.elim) (fun _ _ e=>e)
 rw[←hw1]at hcur1
 obtain⟨vs,hvs,hcl⟩:=run_clearM w1 g (m*2) n (cap-m) hn (fun j hj=>by
  rw[cell_raw hcur1,Array.getElem?_eq_getElem (by rw[hsz1,hsz];omega)]
  rfl) (fun j _=>Blk.frozen (cs:=cur1) hcur1 _)
 obtain⟨w2,hw2⟩:∃W,W=w1.setCells g (m*2) vs:=⟨_,rfl⟩
 rw[←hw2]at hcl
 have HF:Hid (RowC N 59 2 cmC w2 (.slice (some ⟨g,0,none⟩) m cap) (l.drop n)∧Kept (·=g) w w2):=hid (by
  obtain⟨cur2,hcur2,hsz2,hbel2,_⟩:=setCells_raw vs w1 g (m*2) cur1 59 hcur1 (by rw[hvs,hsz1,hsz];omega)
  rw[←hw2]at hcur2
  refine⟨?_,Kept.trans hk1 (by rw[hw2];exact setCells_keptC vs w1 g (m*2)) (fun _ _ e=>e) (fun _ _ e=>e)⟩
  have h9:=RowC.ofCells (B:=N) cmC_ok (xs:=l.drop n) (cap:=cap) hcur2 (by rw[hsz2,hsz1,hsz]) hB (by omega) hmx (fun j hj=>by
   rw[hdl]at hj
   rw[hbel2 j hj]
   have:=hin1 j (by rw[hfl];exact hj)
   rwa [Nat.zero_add]at this)
  rw[hdl]at h9
  exact h9)
 have hzr:∀j,j<m*2→(w.drew.cell? ⟨g,0+0*2+j,none⟩).isSome=true∧w.drew.frozen? ⟨g,0+0*2+j,none⟩=false:=fun j hj=>by
  refine⟨?_,Blk.frozen (w:=w) (cs:=cur) hcur _⟩
  show(w.cell? ⟨g,0+0*2+j,none⟩).isSome=true
  rw[cell_raw hcur,Array.getElem?_eq_getElem (by rw[hsz];omega)]
  rfl
 have HZR:=hid hzr
 have HFL:Hid (((l.drop n).flatMap cmC).length=m*2∧(∀u∈(l.drop n).flatMap cmC,u.oneCell'=true)):=hid ⟨hfl,flat_one cmC_ok _⟩
 have HCE:=hid hcells
 obtain⟨i0,hi0,hz0,hz1,hz2⟩:=info_parts Tryz.infoCm
 have HI0:Hid (Tryz.prog.info? 59=some i0∧i0.size=2):=hid ⟨hi0,hz1⟩
 have a1:(n:Int)≤(L:Int):=by omega
 have a2:(L:Int)≤(cap:Int):=by omega
 have a3:¬(0:Int)=(n:Int):=by omega
 have a4:((0:Int)==(n:Int))=false:=by simp;omega
 have a5:L≤cap:=by omega
 have a6:n≤cap:=by omega
 have a7:(n:Int)≤(cap:Int):=by omega
 have a8:¬cap=m:=by omega
 have a9:(m:Int)≤(L:Int):=by omega
 have a10:L-m=n:=by omega
 have a11:m≤cap:=by omega
 have a12:(m:Int)≤(cap:Int):=by omega
 have HM:Hid (m=L-n∧m+n=L):=hid ⟨hm,by omega⟩
 have a13:L-n=m:=hm.symm
 rw[a13]
 have HW1:Hid (w1=w.drew.setCells g 0 ((l.drop n).flatMap cmC)):=hw1
 clear hcells hcur hsz hB hlc hmx hLl hdl hfl hcur1 hsz1 hin1 hw1 hk1 hvs hw2 hzr hi0 hz0 hz1 hz2 h hm _hbig
 by_cases hcn:cap=n
 ·subst hcn
  have m0:m=0:=by have:=HM.out;omega
  subst m0
  have eL:L=cap:=by have:=HM.out;omega
  subst eL
  simp only[Nat.zero_mul,Nat.sub_zero]at hcl
  go_enter Tryz.func96,Tryz.ntmps96
  go_upto_region 5 with fail
  go_region_law (refine step_append_room (by rfl) (.tmp 22) (.tmp 25) 89 (by rfl) 59 i0 2 Tryz.underlying89 HI0.out.1 HI0.out.2 g 0 0 L (by rfl) ⟨g,0,none⟩ 0 0 ((l.drop L).flatMap cmC) (by rfl) HFL.out.1 (fun j u hu=>by have h9:=(List.getElem?_eq_some_iff.1 hu).1;rw[HFL.out.1]at h9;omega) HFL.out.2 (by omega) (fun j hj=>HZR.out j (by rw[←HFL.out.1];exact hj)) ?_)
  rw[←HW1.out]
  go_wp2_with fail
  go_ret
  exact⟨rfl,HF.out⟩
 ·go_enter Tryz.func96,Tryz.ntmps96
  go_upto_region 5 with fail
  go_region_law (refine step_append_room (by rfl) (.tmp 22) (.tmp 25) 89 (by rfl) 59 i0 2 Tryz.underlying89 HI0.out.1 HI0.out.2 g 0 0 cap (by rfl) ⟨g,n*2,none⟩ m (cap-n) ((l.drop n).flatMap cmC) (by rfl) HFL.out.1 (fun j u hu=>by have h9:=HCE.out j u hu;simpa[addAt]using h9) HFL.out.2 (by omega) (fun j hj=>HZR.out j (by rw[←HFL.out.1];exact hj)) ?_)
  rw[←HW1.out]
  go_wp2_with fail
  go_ret
  exact⟨rfl,HF.out⟩

end Go.Proofs.YtcfociogljhbiaaGreatDoor

namespace Go.Proofs.YtcfociogljhbiaaGreatDoor
open Go.RowKit Go.Maps Go.Sort Go.Shelf

def seeA(mv:Mv)(M:Mst)(k:Ke):Value:=
 match mv.st k with
 | some r=>.tuple #[.string r.data,.bool r.there]
 | none=>.tuple #[.string (newV (M.V k.1 k.2) (max (mv.t+1) M.floor)).data,.bool (newV (M.V k.1 k.2) (max (mv.t+1) M.floor)).there]

set_option maxRecDepth 100000 in
set_option maxHeartbeats 2000000 in
theorem tsees_any{K N:Nat}{w:World}{q ps:Nat}{ow:Nm}{st:Nat}{J:Nat→Prop}{mv:Mv}{M:Mst}{ρ:Nat→Nat}(h:Tt K N w q ps ow st J mv M ρ)(k:Ke)(ht:0≤mv.t∧mv.t≤9223372036854775806):Calls Tryz.prog 68 #[.pointer (some ⟨q,0,none⟩),.agg #[.string k.1.tn,.string k.1.ar,.string k.2.s]] w fun e w'=>e=.returned (seeA mv M k)∧Same w w':=by
 obtain⟨wA,hwA⟩:∃W,W=w.alloc (.cells #[.string k.1.tn,.string k.1.ar,.string k.2.s] 63):=⟨_,rfl⟩
 obtain⟨xb,hxb⟩:∃y,y=w.heap.size:=⟨_,rfl⟩
 have hka:Same w wA:=by rw[hwA];exact(Kept.refl _ w).alloc _
 have HX:Hid (∀w',Same wA w'→(w'.cell? ⟨xb,0,none⟩=some (.string k.1.tn)∧w'.cell? ⟨xb,1,none⟩=some (.string k.1.ar)∧w'.cell? ⟨xb,2,none⟩=some (.string k.2.s))∧w'.cell? ⟨q,2,none⟩=some (.pointer (some ⟨st,0,none⟩))∧w'.cell? ⟨q,1,none⟩=some (.pointer (some ⟨ps,0,none⟩))):=hid (fun w' hk=>by
  have hb:Blk wA xb #[.string k.1.tn,.string k.1.ar,.string k.2.s] 63:=by rw[hwA,hxb];exact Blk.new w _ _
  have hb2:=hb.kept hk (fun f=>f)
  exact⟨⟨hb2.cell 0,hb2.cell 1,hb2.cell 2⟩,(h.same (hka.trans hk)).blk.cell 2,(h.same (hka.trans hk)).blk.cell 1⟩)
 have HT:Hid (∀w',Same wA w'→Vx K w' st J mv):=hid (fun w' hk=>(h.same (hka.trans hk)).set)
 have HK:Hid (Same w wA):=hka
 have HTT:Hid (∀w',Same wA w'→Tt K N w' q ps ow st J mv M ρ):=hid (fun w' hk=>h.same (hka.trans hk))
 obtain⟨R,hR⟩:∃R,R=(mv.st k).getD wr0:=⟨_,rfl⟩
 obtain⟨on,hon⟩:∃x,x=(mv.st k).isSome:=⟨_,rfl⟩
 have HOW:Hid (∀w',Same wA w'→Calls Tryz.prog 108 #[.pointer (some ⟨st,0,none⟩),.agg #[.string k.1.tn,.string k.1.ar,.string k.2.s]] w' fun e w2=>e=.returned (.tuple #[.agg #[.string R.b.tn,.string R.b.ar,.string R.n.s,.bool R.there,.string R.data],.bool on])∧Same w' w2):=hid (fun w' hk=>by
  have h9:=xvown (HT.out w' hk) k
  rw[←hR,←hon]at h9
  exact h9)
 have HNO:Hid (on=(mv.st k).isSome):=hon
 obtain⟨⟨c0,c1,c2⟩,q2,q1⟩:=HX.out wA (Kept.refl _ _)
 have HKK:Hid (Same wA wA):=hid (Kept.refl _ _)
 obtain⟨A,hA⟩:∃A,A=newV (M.V k.1 k.2) (max (mv.t+1) M.floor):=⟨_,rfl⟩
 obtain⟨ad,had⟩:∃d,d=A.data:=⟨_,rfl⟩
 obtain⟨at',hat⟩:∃d,d=A.there:=⟨_,rfl⟩
 obtain⟨tt,htt⟩:∃x,x=mv.t:=⟨_,rfl⟩
 have HAT:Hid (∀w',Same wA w'→Calls Tryz.prog 94 #[.pointer (some ⟨st,0,none⟩)] w' fun e w2=>e=.returned (.int .i64 tt)∧Same w' w2):=hid (fun w' hk=>(xvat (HT.out w' hk)).mono (fun e w2 h9=>⟨by rw[htt];exact h9.1,by rw[h9.2];exact Kept.refl _ _⟩))
 have HBE:Hid (∀w',Calls Tryz.prog 37 #[.int .i64 tt] w' fun e w2=>e=.returned (.int .i64 (tt+1))∧Same w' w2):=hid (fun w'=>(behind_any w' tt (by omega)).mono (fun e w2 h9=>⟨h9.1,by rw[h9.2];exact Kept.refl _ _⟩))
 have HGE:Hid (∀w',Same wA w'→Calls Tryz.prog 106 #[.pointer (some ⟨ps,0,none⟩),.agg #[.string k.1.tn,.string k.1.ar,.string k.2.s],.int .i64 (tt+1)] w' fun e w2=>e=.returned (.tuple #[.string ad,.bool at'])∧Same w' w2):=hid (fun w' hk=>by
  have h9:=xget (HTT.out w' hk).sto k.1 k.2 (tt+1)
  unfold getA at h9
  rw[htt,←hA,←had,←hat]at h9
  rw[htt]
  exact h9)
 have HSE:Hid ((on=true→seeA mv M k=.tuple #[.string R.data,.bool R.there])∧(on=false→seeA mv M k=.tuple #[.string ad,.bool at'])):=hid (by
  unfold seeA
  cases hq:mv.st k with
  | none=>
   rw[hq]at hon
   refine⟨fun e=>(by rw[hon]at e;cases e),fun _=>?_⟩
   rw[had,hat,hA]
  | some r=>
   rw[hq]at hon hR
   refine⟨fun _=>(by rw[hR];rfl),fun e=>(by rw[hon]at e;cases e)⟩)
 obtain⟨SA,hSA⟩:∃x,x=seeA mv M k:=⟨_,rfl⟩
 rw[←hSA]at HSE ⊢
 clear h hka ht hR hon hA had hat htt hSA
 go_enter Tryz.func68,Tryz.ntmps68
 go_wp2_with fail
 rw[←hwA,←hxb]
 clear hwA hxb
 have HZB:Hid (∀w',Same (wA.alloc (.cells #[.string ⟨#[]⟩,.string ⟨#[]⟩,.string ⟨#[]⟩,.bool false,.string ⟨#[]⟩] 65)) w'→Blk w' wA.heap.size #[.string ⟨#[]⟩,.string ⟨#[]⟩,.string ⟨#[]⟩,.bool false,.string ⟨#[]⟩] 65):=hid (fun w' hk=>(Blk.new wA _ _).kept hk (fun f=>f))
 obtain⟨⟨d0,d1,d2⟩,r2,r1⟩:=HX.out (wA.alloc (.cells #[.string ⟨#[]⟩,.string ⟨#[]⟩,.string ⟨#[]⟩,.bool false,.string ⟨#[]⟩] 65)) ((Kept.refl _ _).alloc _)
 go_cut [6,7]from 8 to 35 (fun z4 z5 wx=>∃vb,z4=.pointer (some ⟨vb,0,none⟩)∧z5=.bool on∧Hid (Same wA wx∧Blk wx vb #[.string R.b.tn,.string R.b.ar,.string R.n.s,.bool R.there,.string R.data] 65))
 case first=>
  go_region_with (go_at_call 108;refine(HOW.out _ (show Same wA _ by first | exact(HKK.out.alloc _) | exact(HKK.out.alloc _).drew | exact(HKK.out.drew).alloc _ | exact HKK.out.drew | exact HKK.out)).mono ?_;rintro e wk ⟨rfl,hkc⟩;have HKW:Hid (Same wA wk):=hid (show Same wA wk by first | exact HKK.out.trans (Kept.undrewC hkc) | exact Same.trans (HKK.out.alloc _) (Kept.undrewC hkc));try (have hbk:=HZB.out wk (Kept.undrewC hkc);have v0:=hbk.cell 0;have v1:=hbk.cell 1;have v2:=hbk.cell 2;have v3:=hbk.cell 3;have v4:=hbk.cell 4;have z0:=hbk.frozen 0;have z1:=hbk.frozen 1;have z2:=hbk.frozen 2;have z3:=hbk.frozen 3;have z4:=hbk.frozen 4;simp only[List.getElem?_toArray,List.getElem?_cons_zero,List.getElem?_cons_succ]at v0 v1 v2 v3 v4))
  all_goals go_wp2_with fail
  all_goals go_meet
  all_goals refine⟨_,rfl,rfl,hid ?_⟩
  all_goals first
   | exact⟨Kept.trans HKW.out (setw14 hbk).2 (fun _ _ f=>f) (fun k hk e=>by omega),(setw14 hbk).1⟩
   | exact⟨HKW.out.alloc _,Blk.new wk _ _⟩
 case rest=>
  obtain⟨vb,rfl,rfl,HC⟩:=hcut
  clear c0 c1 c2 q2 q1 d0 d1 d2 r2 r1 HKK
  cases on with
  | true=>
   have y2:=HC.out.2.cell 3
   have y3:=HC.out.2.cell 4
   simp only[List.getElem?_toArray,List.getElem?_cons_zero,List.getElem?_cons_succ]at y2 y3
   have HF:Hid (SA=.tuple #[.string R.data,.bool R.there]∧Same w wc):=hid ⟨HSE.out.1 rfl,HK.out.trans HC.out.1⟩
   go_wp2_with fail
   go_quiet (fail)
   go_wp2_with fail
   go_ret2
   exact⟨by rw[HF.out.1];rfl,HF.out.2.drewN _⟩
  | false=>
   obtain⟨⟨c0,c1,c2⟩,q2,q1⟩:=HX.out wc HC.out.1
   have HKK:Hid (Same wA wc):=hid HC.out.1
   have HFS:Hid (SA=.tuple #[.string ad,.bool at']):=hid (HSE.out.2 rfl)
   go_wp2_with fail
   go_region_held3 (fun w'=>w'.cell? ⟨xb,0,none⟩=some (.string k.1.tn)∧w'.cell? ⟨xb,1,none⟩=some (.string k.1.ar)∧w'.cell? ⟨xb,2,none⟩=some (.string k.2.s)∧w'.cell? ⟨q,2,none⟩=some (.pointer (some ⟨st,0,none⟩))∧w'.cell? ⟨q,1,none⟩=some (.pointer (some ⟨ps,0,none⟩)))
    (first
     | (go_split_ands;exact⟨hkc.cell (by assumption) (fun f=>f),hkc.cell (by assumption) (fun f=>f),hkc.cell (by assumption) (fun f=>f),hkc.cell (by assumption) (fun f=>f),hkc.cell (by assumption) (fun f=>f)⟩)
     | go_keep)
    (first
     | (go_at_call 94;refine(HAT.out _ (by first | exact HKK.out | exact HKK.out.drew)).mono ?_;rintro e wk ⟨rfl,hkc⟩;have HKK:Hid (Same wA wk):=hid (by first | exact HKK.out.trans hkc | exact HKK.out.trans (Kept.undrewC hkc)))
     | (go_at_call 37;refine(HBE.out _).mono ?_;rintro e wk ⟨rfl,hkc⟩;have HKK:Hid (Same wA wk):=hid (by first | exact HKK.out.trans hkc | exact HKK.out.trans (Kept.undrewC hkc)))
     | (go_at_call 106;refine(HGE.out _ (by first | exact HKK.out | exact HKK.out.drew)).mono ?_;rintro e wk ⟨rfl,hkc⟩;have HKK:Hid (Same wA wk):=hid (by first | exact HKK.out.trans hkc | exact HKK.out.trans (Kept.undrewC hkc))))
   go_wp2_with fail
   go_ret2
   exact⟨by rw[HFS.out];rfl,HK.out.trans HKK.out⟩

end Go.Proofs.YtcfociogljhbiaaGreatDoor
