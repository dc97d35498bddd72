/-
  Of the proof: parts TxJ, TxU, TxP, TxR, TxT, TxO.
-/
import Derived.Test.YtcfociogljhbiaaGreatDoorJ18
import Derived.Test.YtcfociogljhbiaaGreatDoorJ24
import Derived.Test.YtcfociogljhbiaaGreatDoorJ30
import Derived.Test.YtcfociogljhbiaaGreatDoorJ26

namespace Go.Proofs.YtcfociogljhbiaaGreatDoor
open Go.RowKit Go.Maps Go.Sort Go.Shelf
set_option maxRecDepth 100000 in
set_option maxHeartbeats 1000000 in
theorem tdump_any{K N:Nat}{w:World}{p:Nat}{M:Mst}{bg:Int}{c:Tc}{τ:Nat→Nat}(h:Tk K N w p M bg c τ):Calls Tryz.prog 22 #[.pointer (some ⟨p,0,none⟩)] w fun e w'=>DumA w (visF M.V M.now) e w':=by
 have p0:w.cell? ⟨p,0,none⟩=some (.pointer (some ⟨c.ps,0,none⟩)):=h.blk.cell 0
 obtain⟨ps,hps⟩:∃x,x=c.ps:=⟨_,rfl⟩
 obtain⟨t,ht⟩:∃x,x=M.now:=⟨_,rfl⟩
 have HS:=hid h.sto
 rw[←hps]at p0 HS
 have HNW:Hid (∀w',Same w w'→Calls Tryz.prog 59 #[.pointer (some ⟨ps,0,none⟩)] w' fun e w2=>e=.returned (.int .i64 t)∧Same w' w2):=hid (fun w' hk=>(xnow (HS.out.same hk)).mono (fun e w2 h9=>⟨by rw[ht];exact h9.1,by rw[h9.2];exact Kept.refl _ _⟩))
 have HDM:Hid (∀w',Same w w'→Calls Tryz.prog 62 #[.pointer (some ⟨ps,0,none⟩),.int .i64 t] w' fun e w2=>∃aa nn cc,e=.returned (.slice aa nn cc)∧Same w' w2∧DumA w (visF M.V M.now) (.returned (.slice aa nn cc)) w2):=hid (fun w' hk=>by
  obtain⟨s,mb,hck,hM⟩:=HS.out.same hk
  refine(dump_any hck t).mono (fun e w2 h9=>?_)
  obtain⟨v,As,rfl,h1,h2,h3,h4,h5⟩:=h9
  obtain⟨aa,cc,hv,_⟩:=h1.row.shape
  have e1:max t s.floor=M.now:=by
   have h7:=hck.nums
   rw[ht,hM]
   show max s.now s.floor=s.now
   omega
  have e2:vers s=M.V:=by rw[hM]
  rw[e1,e2]at h2
  exact⟨aa,_,cc,by rw[hv],h5,v,As,by rw[hv],h1.base hk.size,h2,h3,h4,hk.trans h5⟩)
 have HKK:Hid (Same w w):=hid (Kept.refl _ _)
 clear h hps ht
 go_enter Tryz.func22,Tryz.ntmps22
 go_wp2_with fail
 go_region_held3 (fun w'=>w'.cell? ⟨p,0,none⟩=some (.pointer (some ⟨ps,0,none⟩)))
  (first
   | exact hkc.cell (by assumption) (fun f=>f)
   | go_keep)
  (first
   | (go_at_call 59;refine(HNW.out _ (by first | exact HKK.out | exact HKK.out.drew)).mono ?_;rintro e wk ⟨rfl,hkc⟩;have HKK:Hid (Same w wk):=hid (by first | exact HKK.out.trans hkc | exact HKK.out.trans (Kept.undrewC hkc)))
   | (go_at_call 62;refine(HDM.out _ (by first | exact HKK.out | exact HKK.out.drew)).mono ?_;rintro e wk ⟨aa,nn,cq,rfl,hkc,hD⟩;have HD:=hid hD;clear hD))
 go_wp2_with fail
 go_ret
 exact HD.out

end Go.Proofs.YtcfociogljhbiaaGreatDoor

namespace Go.Proofs.YtcfociogljhbiaaGreatDoor
open Go.RowKit Go.Maps Go.Sort Go.Shelf

def inR(v:Value):Option (DataW Unit×List MemPlace):=match v with | .int .i64 z=>some (.lit (.int .i64 z),[]) | _=>none
def inV(z:Int):Value:=.int .i64 z
def inD(z:Int):DataW Unit:=.lit (.int .i64 z)
theorem inR_inv(v:Value)(z:Int)(ps:List MemPlace)(h:inR v=some (inD z,ps)):v=inV z:=by
 unfold inR at h
 split at h
 ·simp only[inD,Option.some.injEq,Prod.mk.injEq,DataW.lit.injEq,Lit.int.injEq,true_and]at h
  rw[h.1];rfl
 ·cases h
theorem rdInt:RdG inR inV inD (inV 0) (inD 0):=⟨fun _=>rfl,inR_inv,rfl,fun v ps h=>inR_inv v 0 ps h⟩

abbrev MpI(w:World)(b:Nat)(L:List (Nm×Int)):Prop:=MpG 9 inR kN inD w b L

theorem zeroInt14(w:World):(zeroValue 3).run Tryz.prog w=.ok (inV 0) w:=by kernel_rfl

def getI(s:Nm)(L:List (Nm×Int)):Int:=(getG s L).getD 0

theorem MpI.look1{w:World}{b:Nat}{L:List (Nm×Int)}(h:MpI w b L)(s:Nm):(Instr.lookup 186 (.map (some b)) (.string s.s) false).run Tryz.prog w=.ok (.int .i64 (getI s L)) w:=by
 obtain⟨v,ps,h1,h2⟩:=World.ownsMap.lookup (t:=186) h nameKey Tryz.underlying186 (zeroInt14 w) (zd:=inD 0) (zp:=[]) rdInt.nmk (keyN s)
 rw[mpG_at klN]at h2
 have h1':(Instr.lookup 186 (.map (some b)) (.string s.s) false).run Tryz.prog w=.ok v w:=h1
 rw[h1']
 unfold getI
 cases hg:getG s L with
 | none=>rw[hg]at h2;rw[rdInt.ninv _ _ h2];rfl
 | some f=>rw[hg]at h2;rw[rdInt.inv _ _ _ h2];rfl

theorem MpI.put1{w:World}{b:Nat}{L:List (Nm×Int)}(h:MpI w b L)(s:Nm)(z:Int)(hL:L.length≤1000000000):
  ∃w',(Instr.mapUpdate 186 (.map (some b)) (.string s.s) (.int .i64 z)).run Tryz.prog w=.ok () w'∧MpI w' b (putG kN s z L)∧Kept (·=b) w w':=
 MpG.put h klN rdInt nameKey 186 3 Tryz.underlying186 s (.string s.s) (keyN s) hL z

def arN(b:Bx):Nm:=⟨b.ar,b.ok.2⟩

def stepD(ow:ByteArray)(L:List (Nm×Int))(x:Bx×List Ent):List (Nm×Int):=if x.1.tn=ow then putG kN (arN x.1) (x.2.length:Nat) L else L
def cntD(ow:ByteArray)(D:List (Bx×List Ent)):List (Nm×Int):=D.foldl (stepD ow) []

def stepW(th:Ke→Bool)(L:List (Nm×Int))(x:Wr):List (Nm×Int):=
 let L1:=if (x.there && !th (x.b,x.n))=true then putG kN (arN x.b) (getI (arN x.b) L+1) L else L
 if (!x.there && th (x.b,x.n))=true then putG kN (arN x.b) (getI (arN x.b) L1-1) L1 else L1
def cntW(th:Ke→Bool)(ws:List Wr)(L:List (Nm×Int)):List (Nm×Int):=ws.foldl (stepW th) L

def manyB(L:List (Nm×Int)):Bool:=L.any (fun p=>decide (64<p.2)) || decide (16<(L.filter (fun p=>decide (0<p.2))).length)

def SmI(B:Int)(m:Nat)(L:List (Nm×Int)):Prop:=L.length≤m∧∀p∈L,-B≤p.2∧p.2≤B

theorem SmI.get{B:Int}{m:Nat}{L:List (Nm×Int)}(h:SmI B m L)(hB:0≤B)(s:Nm):-B≤getI s L∧getI s L≤B:=by
 unfold getI
 cases hg:getG s L with
 | none=>simp;omega
 | some z=>exact h.2 _ (getG_mem hg)

theorem SmI.put{B B':Int}{m:Nat}{L:List (Nm×Int)}(h:SmI B m L)(s:Nm)(z:Int)(hB:B≤B')(hz:-B'≤z∧z≤B'):SmI B' (m+1) (putG kN s z L):=by
 refine⟨by have:=(putG_len (kl:=kN) s z L).2;have:=h.1;omega,fun p hp=>?_⟩
 rcases putG_mem.1 hp with e | ⟨e,_⟩
 ·rw[e];exact hz
 ·have:=h.2 p e;omega

theorem SmI.more{B B':Int}{m m':Nat}{L:List (Nm×Int)}(h:SmI B m L)(hB:B≤B')(hm:m≤m'):SmI B' m' L:=⟨Nat.le_trans h.1 hm,fun p hp=>by have:=h.2 p hp;omega⟩

structure CtI(L:List (Nm×Int))(left:Lit→Bool)(a:Nat):Prop where
 low:∀p∈L,left (kN p.1)=false→p.2≤64
 num:a=(L.filter (fun p=>decide (0<p.2) && !left (kN p.1))).length

theorem has_mpI{L:List (Nm×Int)}:∀p∈L,Maps.has (mpG kN inD L) (kN p.1)=true:=by
 intro p hp
 rw[mpG_has klN]
 cases hg:getG p.1 L with
 | none=>exact absurd rfl (getG_none hg hp)
 | some f=>rfl

theorem CtI.start(L:List (Nm×Int)):CtI L (Maps.has (mpG kN inD L)) 0:=by
 refine⟨fun p hp e=>(by rw[has_mpI p hp]at e;cases e),?_⟩
 symm
 rw[List.length_eq_zero_iff,List.filter_eq_nil_iff]
 intro p hp
 rw[has_mpI p hp]
 simp

theorem filter_one{α:Type}{P Q:α→Bool}{x:α}:∀(L:List α),L.Nodup→x∈L→Q x=false→P x=true→(∀y∈L,y≠x→P y=Q y)→(L.filter P).length=(L.filter Q).length+1
 | [],_,h,_,_,_=>by cases h
 | y::r,hn,hm,hQ,hP,hy=>by
  rw[List.nodup_cons]at hn
  by_cases e:y=x
  ·subst e
   have h1:r.filter P=r.filter Q:=List.filter_congr (fun z hz=>hy z (List.mem_cons_of_mem _ hz) (fun e=>hn.1 (e ▸ hz)))
   rw[List.filter_cons_of_pos hP,List.filter_cons_of_neg (by rw[hQ];decide),h1,List.length_cons]
  ·have hm':x∈r:=by
    rcases List.mem_cons.1 hm with q | q
    ·exact absurd q.symm e
    ·exact q
   have ih:=filter_one r hn.2 hm' hQ hP (fun z hz=>hy z (List.mem_cons_of_mem _ hz))
   have h2:=hy y (List.mem_cons_self ..) e
   cases hq:Q y with
   | true=>
    rw[List.filter_cons_of_pos (by rw[h2];exact hq),List.filter_cons_of_pos hq,List.length_cons,List.length_cons,ih]
   | false=>
    rw[List.filter_cons_of_neg (by rw[h2,hq];decide),List.filter_cons_of_neg (by rw[hq];decide),ih]

theorem CtI.next{L:List (Nm×Int)}{left:Lit→Bool}{a:Nat}(h:CtI L left a)(ha:L.Pairwise (fun p q=>p.1≠q.1)){n:Nm}{z:Int}(hg:getG n L=some z)(hl:left (kN n)=true)(hz:z≤64):CtI L (fun y=>left y && !y.sameKey (kN n)) (if 0<z then a+1 else a):=by
 have hm:=getG_mem hg
 have hu:∀p∈L,p.1=n→p=(n,z):=fun p hp e=>by
  have h1:=getG_of_mem ha (s:=p.1) (f:=p.2) hp
  rw[e,hg]at h1
  injection h1 with h1
  cases p
  simp only at e h1
  rw[e,h1]
 refine⟨fun p hp e=>?_,?_⟩
 ·rcases(left_step klN left n p.1).1 e with e1 | e1
  ·exact h.low p hp e1
  ·rw[hu p hp e1];exact hz
 ·have hnd:L.Nodup:=ha.imp (fun h e=>h (by rw[e]))
  have hself:(left (kN n) && !(kN n).sameKey (kN n))=false:=(left_step klN left n n).2 (.inr rfl)
  have hoff:∀y∈L,y≠(n,z)→(left (kN y.1) && !(kN y.1).sameKey (kN n))=left (kN y.1):=fun y hy e=>by
   have hne:y.1≠n:=fun q=>e (hu y hy q)
   cases hq:left (kN y.1) with
   | false=>rfl
   | true=>
    cases hs:(kN y.1).sameKey (kN n) with
    | false=>rfl
    | true=>
     have:=(left_step klN left n y.1).1 (by rw[hq,hs];rfl)
     rcases this with q | q
     ·rw[hq]at q;cases q
     ·exact absurd q hne
  rw[h.num]
  by_cases hz0:0<z
  ·rw[if_pos hz0]
   symm
   refine filter_one (x:=(n,z)) L hnd hm ?_ ?_ (fun y hy e=>?_)
   ·show(decide (0<z) && !left (kN n))=false
    rw[hl];simp
   ·show(decide (0<z) && !(left (kN n) && !(kN n).sameKey (kN n)))=true
    rw[hself];simp[hz0]
   ·show(decide (0<y.2) && !(left (kN y.1) && !(kN y.1).sameKey (kN n)))=(decide (0<y.2) && !left (kN y.1))
    rw[hoff y hy e]
  ·rw[if_neg hz0]
   congr 1
   refine List.filter_congr (fun y hy=>?_)
   by_cases e:y=(n,z)
   ·rw[e];simp[hz0]
   ·rw[hoff y hy e]

theorem CtI.done{L:List (Nm×Int)}{left:Lit→Bool}{a:Nat}(h:CtI L left a)(hl:∀y,left y=false):manyB L=decide (16<(a:Int)):=by
 unfold manyB
 have h1:L.any (fun p=>decide (64<p.2))=false:=by
  rw[List.any_eq_false]
  intro p hp
  have:=h.low p hp (hl _)
  simp;omega
 rw[h1,Bool.false_or]
 have h2:(L.filter (fun p=>decide (0<p.2))).length=a:=by
  rw[h.num]
  congr 1
  refine List.filter_congr (fun y _=>?_)
  rw[hl];simp
 rw[h2]
 simp only[decide_eq_decide]
 omega

theorem many_one{L:List (Nm×Int)}{p:Nm×Int}(hp:p∈L)(h:64<p.2):manyB L=true:=by
 unfold manyB
 have:L.any (fun p=>decide (64<p.2))=true:=List.any_eq_true.2 ⟨p,hp,by simp[h]⟩
 rw[this];rfl

end Go.Proofs.YtcfociogljhbiaaGreatDoor

namespace Go.Proofs.YtcfociogljhbiaaGreatDoor
open Go.RowKit Go.Maps Go.Sort Go.Shelf

section
variable {K N:Nat} {w:World} {p:Nat} {M:Mst} {bg:Int} {c:Tc} {τ:Nat→Nat}

theorem Tk.del(h:Tk K N w p M bg c τ)(n:Nb){w':World}(hm:MpK 3 ptC kI w' c.mo (delK n c.L))(hk:Kept (·=c.mo) w w'):Tk K N w' p M bg {c with L:=delK n c.L} τ:=by
 have hno:∀k,τ k≠2→¬k=c.mo:=fun k e1 e=>by rw[e,h.r2]at e1;exact e1 rfl
 have hsub:∀x∈delK n c.L,x∈c.L:=fun x hx=>(delK_mem.1 hx).1
 exact {h with
  blk:=h.blk.kept hk (hno p (by rw[h.r1];decide))
  sto:=h.sto.kept hk (fun k e=>by
   cases hz:c.ρ k with
   | zero=>rfl
   | succ z=>exact absurd e (hno k (by rw[h.r3 k (by omega)];decide)))
  om:=hm
  tb:=fun x hx=>(h.tb x (hsub x hx)).kept hk (hno _ (by rw[h.r6 x (hsub x hx)];omega))
  ts:=fun x hx=>(h.ts x (hsub x hx)).kept hk (fun k e=>hno k (by rw[h.r7 x (hsub x hx) k e];omega))
  cr:=h.cr.kept hk (fun k e=>hno k (by rw[h.r4 k e];decide))
  cw:=fun y hy=>(h.cw y hy).kept hk (fun k e=>hno k (by rw[h.r5 y hy k e];decide))
  inj:=fun x hx y hy e=>h.inj x (hsub x hx) y (hsub y hy) e
  r6:=fun x hx=>h.r6 x (hsub x hx)
  r7:=fun x hx=>h.r7 x (hsub x hx)
  new:=fun k e=>⟨(h.new k e).1,Nat.lt_of_lt_of_le (h.new k e).2 hk.size⟩
  key:=fun x hx=>h.key x (hsub x hx)
  lens:=⟨Nat.le_trans (delK_len n c.L) h.lens.1,h.lens.2⟩}

theorem Tk.setSto(h:Tk K N w p M bg c τ){w':World}{K':Nat}{M':Mst}{ρ':Nat→Nat}(hs:Sto K' N w' c.ps M' ρ')(hx:ExtC w c.ρ ρ')(hk:Kept (fun k=>c.ρ k≠0) w w')(hK:K≤K')(hb:K'≤100000):∃τ',Tk K' N w' p M' bg {c with ρ:=ρ'} τ'∧(∀k,k<w.heap.size→τ' k=τ k)∧Kept (fun k=>τ k≠0) w w':=by
 have hno:∀k,τ k≠3→¬c.ρ k≠0:=fun k e1 e=>e1 (h.r3 k e)
 obtain⟨τ',hτ⟩:∃τ':Nat→Nat,τ'=fun k=>if w.heap.size≤k∧ρ' k≠0 then 3 else τ k:=⟨_,rfl⟩
 have h1:∀k,k<w.heap.size→τ' k=τ k:=fun k hk=>by rw[hτ];exact if_neg (fun e=>by omega)
 have h2:∀k,τ k≠0→τ' k=τ k:=fun k e=>h1 k (h.new k e).2
 have h9:=h.more hK hb
 refine⟨τ',{blk:=h.blk.kept hk (hno p (by rw[h.r1];decide)),sto:=hs,om:=h.om.kept hk (hno c.mo (by rw[h.r2];decide)),tb:=fun x hx=>(h.tb x hx).kept hk (hno _ (by rw[h.r6 x hx];omega)),ts:=fun x hx=>(h9.ts x hx).kept hk (fun k e=>hno k (by rw[h.r7 x hx k e];omega)),cr:=h.cr.kept hk (fun k e=>hno k (by rw[h.r4 k e];decide)),cw:=fun y hy=>(h.cw y hy).kept hk (fun k e=>hno k (by rw[h.r5 y hy k e];decide)),inj:=h.inj,r1:=?_,r2:=?_,r3:=fun k e=>?_,r4:=fun k e=>?_,r5:=fun y hy k e=>?_,r6:=fun x hx=>?_,r7:=fun x hx k e=>?_,new:=fun k e=>?_,key:=h.key,num:=h.num,lens:=h9.lens,big:=hb},h1,hk.mono (fun k _ e=>by rw[h.r3 k e];decide)⟩
 ·rw[h2 p (by rw[h.r1];decide)];exact h.r1
 ·show τ' c.mo=2
  rw[h2 c.mo (by rw[h.r2];decide)];exact h.r2
 ·have e':ρ' k≠0:=e
  rcases Nat.lt_or_ge k w.heap.size with q | q
  ·rw[h1 k q]
   rcases hx k with e1 | e1
   ·exact h.r3 k (by rw[←e1];exact e')
   ·omega
  ·rw[hτ];exact if_pos ⟨q,e'⟩
 ·rw[h2 k (by rw[h.r4 k e];decide)];exact h.r4 k e
 ·rw[h2 k (by rw[h.r5 y hy k e];decide)];exact h.r5 y hy k e
 ·rw[h2 x.2 (by rw[h.r6 x hx];omega)];exact h.r6 x hx
 ·rw[h2 k (by rw[h.r7 x hx k e];omega)];exact h.r7 x hx k e
 ·rw[hτ]at e
  by_cases e1:w.heap.size≤k∧ρ' k≠0
  ·obtain⟨s,mb,hck,_⟩:=hs
   exact hck.new k e1.2
  ·simp only[if_neg e1]at e
   exact⟨(h.new k e).1,Nat.lt_of_lt_of_le (h.new k e).2 hk.size⟩

theorem Tk.setCl(h:Tk K N w p M bg c τ){w':World}{cv:Value}{cl:List Cm}(hb:Blk w' p #[.pointer (some ⟨c.ps,0,none⟩),.int .i64 bg,.map (some c.mo),cv] 91)(hr:RowC N 59 2 cmC w' cv cl)(hw:∀y∈cl,y∈c.cl)(hl:cl.length≤c.cl.length)(ho:∀k,cv.ownBlock=some k→τ k=4)(hk:Kept (fun k=>k=p∨τ k=4) w w'):Tk K N w' p M bg {c with cv:=cv,cl:=cl} τ:=by
 have hno:∀k,τ k≠0→τ k≠1→τ k≠4→¬(k=p∨τ k=4):=fun k _ e1 e4 e=>by
  rcases e with e | e
  ·rw[e,h.r1]at e1;exact e1 rfl
  ·exact e4 e
 exact {h with
  blk:=hb
  sto:=h.sto.kept hk (fun k e=>by
   cases hz:c.ρ k with
   | zero=>rfl
   | succ z=>exact absurd e (hno k (by rw[h.r3 k (by omega)];decide) (by rw[h.r3 k (by omega)];decide) (by rw[h.r3 k (by omega)];decide)))
  om:=h.om.kept hk (hno c.mo (by rw[h.r2];decide) (by rw[h.r2];decide) (by rw[h.r2];decide))
  tb:=fun x hx=>(h.tb x hx).kept hk (hno _ (by rw[h.r6 x hx];omega) (by rw[h.r6 x hx];omega) (by rw[h.r6 x hx];omega))
  ts:=fun x hx=>(h.ts x hx).kept hk (fun k e=>hno k (by rw[h.r7 x hx k e];omega) (by rw[h.r7 x hx k e];omega) (by rw[h.r7 x hx k e];omega))
  cr:=hr
  cw:=fun y hy=>(h.cw y (hw y hy)).kept hk (fun k e=>hno k (by rw[h.r5 y (hw y hy) k e];decide) (by rw[h.r5 y (hw y hy) k e];decide) (by rw[h.r5 y (hw y hy) k e];decide))
  r4:=ho
  r5:=fun y hy=>h.r5 y (hw y hy)
  new:=fun k e=>⟨(h.new k e).1,Nat.lt_of_lt_of_le (h.new k e).2 hk.size⟩
  lens:=⟨h.lens.1,Nat.le_trans hl h.lens.2⟩}

end

end Go.Proofs.YtcfociogljhbiaaGreatDoor

namespace Go.Proofs.YtcfociogljhbiaaGreatDoor
open Go.RowKit Go.Maps Go.Sort Go.Shelf

theorem keyI_inv{x:Value}{kl:Lit}(h:keyOf Tryz.prog 3 x=some kl):∃n:Nb,x=.int .i64 n.v∧kl=kI n:=by
 rw[show keyOf Tryz.prog 3 x=mapKey Tryz.prog 3 x by simp[keyOf,Tryz.underlying3]]at h
 cases x<;>simp[mapKey,Tryz.underlying3]at h
 obtain⟨⟨rfl,h2⟩,rfl⟩:=h
 exact⟨⟨_,h2⟩,rfl,rfl⟩

structure OldI(A:List (Nb×Nat))(tm:Nat→Int)(nw:Int)(left:Lit→Bool)(m:Int):Prop where
 le:m≤nw
 all:∀x∈A,left (kI x.1)=false→m≤tm x.2
 one:m=nw∨∃x∈A,m=tm x.2

theorem OldI.next{A:List (Nb×Nat)}{tm:Nat→Int}{nw:Int}{left:Lit→Bool}{m:Int}(h:OldI A tm nw left m)(ha:A.Pairwise (fun p q=>p.1≠q.1)){n:Nb}{q:Nat}(hg:getK n A=some q):OldI A tm nw (fun z=>left z && !z.sameKey (kI n)) (min m (tm q)):=by
 refine⟨by have:=h.le;omega,fun x hx e=>?_,?_⟩
 ·rcases(left_step klI left n x.1).1 e with e1 | e1
  ·have:=h.all x hx e1;omega
  ·have h1:=getK_of_mem ha (s:=x.1) (f:=x.2) hx
   rw[e1,hg]at h1
   injection h1 with h1
   rw[←h1];omega
 ·rcases Int.le_total m (tm q)with e | e
  ·rw[show min m (tm q)=m by omega];exact h.one
  ·rw[show min m (tm q)=tm q by omega];exact .inr ⟨(n,q),getK_mem hg,rfl⟩

def OldM(A:List (Nb×Nat))(tm:Nat→Int)(nw m:Int):Prop:=m≤nw∧(∀x∈A,m≤tm x.2)∧(m=nw∨∃x∈A,m=tm x.2)

theorem cpr14{K N:Nat}{w:World}{p:Nat}{M:Mst}{ρ:Nat→Nat}(h:Sto K N w p M ρ)(t:Int):Calls Tryz.prog 95 #[.pointer (some ⟨p,0,none⟩),.int .i64 t] w fun e w'=>∃(k:Nat) (ρ':Nat→Nat),e=.returned (.int .i64 (k:Nat))∧Sto K N w' p (prM M t) ρ'∧ExtC w ρ ρ'∧Kept (fun k=>ρ k≠0) w w':=by
 by_cases ht:t≤M.floor
 ·refine(xprune_old h t ht).mono ?_
  rintro e w' ⟨rfl,hk⟩
  have e1:prM M t=M:=if_pos ht
  rw[e1]
  exact⟨0,ρ,rfl,h.same hk,ExtC.refl _ _,hk.mono (fun _ _ f=>f.elim)⟩
 ·refine(xprune_new h t (by omega)).mono ?_
  rintro e w' ⟨k,rfl,⟨ρ',g1,g2,g3⟩,_⟩
  have e1:prM M t=pruM M (min t M.now):=if_neg ht
  rw[e1]
  exact⟨k,ρ',rfl,g1,g2,g3⟩

theorem RowC.off14{α:Type}{B t k:Nat}{enc:α→List Value}{w:World}{v:Value}{xs:List α}(h:RowC B t k enc w v xs){j:Nat}{cs:Array Value}{t':TypeId}(hb:Blk w j cs t')(ht:t'≠t):¬v.ownBlock=some j:=fun hj=>by
 rcases h.2 with⟨rfl,_⟩ | ⟨g,cap,cur,rfl,_,hg,_⟩
 ·cases hj
 ·simp only[Value.ownBlock,Option.some.injEq]at hj
  subst hj
  unfold Blk at hb
  rw[hg]at hb
  simp only[Option.some.injEq,Obj.cells.injEq]at hb
  exact ht hb.2.1.symm

def EndA(K N:Nat)(w:World)(p:Nat)(M:Mst)(bg:Int)(c:Tc)(τ:Nat→Nat)(n:Nb)(e:Ending)(w':World):Prop:=e=.returned (.tuple #[])∧∃m c' τ',OldM (delK n c.L) (fun q=>(c.mv q).t) (M.now-1) m∧c'.L=delK n c.L∧c'.ow=c.ow∧c'.mv=c.mv∧c'.cl=c.cl.drop (c.cl.length-(M.now-1-m).toNat)∧Tk K N w' p (prM M (m+1)) bg c' τ'∧(∀k,k<w.heap.size→τ' k=τ k)∧Kept (fun k=>τ k≠0) w w'

theorem end_done{K N:Nat}{w wk w3:World}{p:Nat}{M:Mst}{bg:Int}{c:Tc}{τ τ1 ρ':Nat→Nat}{n:Nb}{m nw:Int}{a a':Option Addr}{L cap j lt n':Nat}{A:List (Nb×Nat)}{tm:Nat→Int}
  (hG:Tk K N wk p (prM M (m+1)) bg {c with L:=delK n c.L,ρ:=ρ'} τ1∧(∀k,k<w.heap.size→τ1 k=τ k)∧Kept (fun k=>τ k≠0) w wk∧c.cv=.slice a L cap∧L=c.cl.length∧j+lt=L∧(lt:Int)=nw-m) (hO:OldM A tm nw m) (hA:A=delK n c.L) (hT:tm=fun q=>(c.mv q).t) (hN:nw=M.now-1)
  (h3:RowC N 59 2 cmC w3 (.slice a' n' cap) (c.cl.drop j)∧(∀k,(Value.slice a' n' cap).ownBlock=some k→(Value.slice a L cap).ownBlock=some k)∧Kept (fun k=>(Value.slice a L cap).ownBlock=some k) wk w3) (hr1:τ p=1):
  EndA K N w p M bg c τ n (.returned (.tuple #[])) (w3.setCell ⟨p,3,none⟩ (.slice a' n' cap)):=by
 obtain⟨g1,g2,g3,hcv,hL,hj,hlt⟩:=hG
 obtain⟨k1,k2,k3⟩:=h3
 rw[hA,hT,hN]at hO
 have hblk:Blk wk p #[.pointer (some ⟨c.ps,0,none⟩),.int .i64 bg,.map (some c.mo),.slice a L cap] 91:=by rw[←hcv];exact g1.blk
 have hcr:RowC N 59 2 cmC wk (.slice a L cap) c.cl:=by rw[←hcv];exact g1.cr
 have hb3:=hblk.kept k3 (hcr.off14 hblk (by decide))
 have hks:Kept (·=p) w3 (w3.setCell ⟨p,3,none⟩ (.slice a' n' cap)):=(Kept.refl (·=p) w3).setCell _ _ (.inl rfl)
 have ho4:∀k,(Value.slice a L cap).ownBlock=some k→τ1 k=4:=fun k e=>g1.r4 k (by show c.cv.ownBlock=some k;rw[hcv];exact e)
 have hkk:Kept (fun k=>k=p∨τ1 k=4) wk (w3.setCell ⟨p,3,none⟩ (.slice a' n' cap)):=Kept.trans k3 hks (fun k _ e=>.inr (ho4 k e)) (fun k _ e=>.inl e)
 have hjj:j=c.cl.length-(M.now-1-m).toNat:=by omega
 have hbF:Blk (w3.setCell ⟨p,3,none⟩ (.slice a' n' cap)) p #[.pointer (some ⟨c.ps,0,none⟩),.int .i64 bg,.map (some c.mo),.slice a' n' cap] 91:=by
  have h9:=hb3.set 3 (.slice a' n' cap)
  simpa using h9
 have hTk:=g1.setCl (cv:=.slice a' n' cap) (cl:=c.cl.drop j) hbF (k1.kept hks (fun k e e2=>k1.off14 hb3 (by decide) (by rw[←e2];exact e))) (fun y hy=>List.mem_of_mem_drop hy) (by rw[List.length_drop];exact Nat.sub_le _ _) (fun k e=>ho4 k (k2 k e)) hkk
 refine⟨rfl,m,{c with L:=delK n c.L,ρ:=ρ',cv:=.slice a' n' cap,cl:=c.cl.drop j},τ1,hO,rfl,rfl,rfl,by rw[←hjj],hTk,g2,Kept.trans g3 hkk (fun _ _ e=>e) (fun k hk e=>?_)⟩
 rcases e with e | e
 ·rw[e,hr1];decide
 ·rw[←g2 k hk,e];decide

set_option maxRecDepth 100000 in
set_option maxHeartbeats 4000000 in
theorem tend_any{K N:Nat}{w:World}{p:Nat}{M:Mst}{bg:Int}{c:Tc}{τ:Nat→Nat}(h:Tk K N w p M bg c τ)(n:Nb)(hs:∀x∈c.L,0≤(c.mv x.2).t∧(c.mv x.2).t≤M.now-1∧M.now-1-(c.mv x.2).t≤c.cl.length)(hn0:1≤M.now∧M.now≤9223372036854775806):Calls Tryz.prog 61 #[.pointer (some ⟨p,0,none⟩),.int .i64 n.v] w fun e w'=>EndA K N w p M bg c τ n e w':=by
 obtain⟨w1,hdel,hm1,hk1⟩:=h.om.del klI intKey14 88 110 Tryz.underlying88 n (.int .i64 n.v) (keyI n) 0
 have hT1:=h.del n hm1 hk1
 obtain⟨A,hA⟩:∃A,A=delK n c.L:=⟨_,rfl⟩
 rw[←hA]at hm1
 obtain⟨mo,hmo⟩:∃x,x=c.mo:=⟨_,rfl⟩
 have p2:w.cell? ⟨p,2,none⟩=some (.map (some c.mo)):=h.blk.cell 2
 rw[←hmo]at p2 hdel
 have HT1:=hid hT1
 have HKW:Hid (Kept (fun k=>τ k≠0) w w1∧w.heap.size≤w1.heap.size):=hid ⟨hk1.mono (fun k _ e=>by rw[e,h.r2];decide),hk1.size⟩
 have HSN:Hid ((∀x∈c.L,0≤(c.mv x.2).t∧(c.mv x.2).t≤M.now-1∧M.now-1-(c.mv x.2).t≤c.cl.length)∧(1≤M.now∧M.now≤9223372036854775806)∧c.cl.length≤100000):=hid ⟨hs,hn0,Nat.le_trans h.lens.2 h.big⟩
 clear hs hn0
 have HNW:=tnow_any hT1
 obtain⟨nw,hnw⟩:∃x,x=M.now-1:=⟨_,rfl⟩
 rw[←hnw]at HNW
 have HM:Hid (MpK 3 ptC kI w1 mo A):=hid (by rw[hmo];exact hm1)
 have q2:w1.cell? ⟨p,2,none⟩=some (.map (some mo)):=by rw[hmo];exact hT1.blk.cell 2
 have HLK:Hid (∀x∈A,x∈c.L):=hid (fun x hx=>by rw[hA]at hx;exact(delK_mem.1 hx).1)
 have HAP:Hid (A.Pairwise (fun p q=>p.1≠q.1)∧A=delK n c.L∧mo=c.mo):=hid ⟨hm1.apart intKey14,hA,hmo⟩
 obtain⟨tm,htm⟩:∃f:Nat→Int,f=fun q=>(c.mv q).t:=⟨_,rfl⟩
 have HTM:Hid (tm=fun q=>(c.mv q).t):=htm
 have HNV:Hid (nw=M.now-1):=hnw
 clear h hT1 hm1 hk1 hA hmo hnw htm
 go_enter Tryz.func61,Tryz.ntmps61
 go_wp2_with fail
 refine HNW.mono ?_
 rintro e w1' ⟨rfl,hw1'⟩
 have hw9:=hw1'.symm
 subst hw9
 clear HNW hdel p2
 go_wp2_with (at_range;refine wpList_range_own _ rfl _ 88 rfl 3 110 intKey14 Tryz.underlying88 ptC mo A.length (mpD kI A) rfl HM.out ?_;intro w0 hrg0 hg0 hs0)
 obtain⟨r,hr⟩:∃r,r=w1.heap.size:=⟨_,rfl⟩
 rw[←hr]at hrg0 ⊢
 have HK0:Hid (Same w1 w0∧r=w1.heap.size):=hid ⟨(Kept.refl _ w1).grown hg0 (fun k e=>by cases e),hr⟩
 obtain⟨K0,hK0⟩:∃k,k=Maps.size (mpD kI A):=⟨_,rfl⟩
 have HR0:Hid (w0.ranges Tryz.prog 3 ptC mo r A.length (mpD kI A) (Maps.has (mpD kI A)) K0):=hid (by rw[hK0];exact hrg0)
 clear hrg0 hg0 hs0 hr hK0 q2
 go_wp2_with fail
 go_frame
 go_loopg [4] K0 (fun q z4 wr=>∃(m:Int) (left:Lit→Bool) (cnt:Nat),z4=.int .i64 m∧cnt≤q∧Hid (wr.ranges Tryz.prog 3 ptC mo r A.length (mpD kI A) left cnt∧OldI A tm nw left m∧Same w1 wr))
 case atStart=>
  refine⟨nw,_,_,rfl,Nat.le_refl _,hid ⟨HR0.out,⟨Int.le_refl _,fun x hx e=>?_,.inl rfl⟩,HK0.out.1⟩⟩
  have:=has_mp klI A x hx
  rw[this]at e
  cases e
 case round=>
  obtain⟨m,left,cnt,rfl,hcnt,HI⟩:=hrel
  go_wp2_with (at_next;refine wpList_next_ranges _ rfl (.tmp 18) rfl 3 intKey14 ptC (fun x:Value=>x) (fun x:Value=>x) (fun key kl _=>⟨key,rfl⟩) (fun v y _=>⟨v,rfl⟩) mo r A.length (mpD kI A) left cnt rfl HI.out.1 ?_ ?_)
  ·intro hc0 hl0
   have HO:Hid (OldM A tm nw m∧Same w1 wr):=hid ⟨⟨HI.out.2.1.le,fun x hx=>HI.out.2.1.all x hx (hl0 _),HI.out.2.1.one⟩,HI.out.2.2⟩
   have HMB:Hid (0≤m∧m≤nw∧nw-m≤c.cl.length):=hid (by
    obtain⟨⟨h1,_,h3⟩,_⟩:=HO.out
    rcases h3 with e | ⟨x,hx,e⟩
    ·have:=HSN.out.2.1;have:=HNV.out;omega
    ·have h4:=HSN.out.1 x (HLK.out x hx)
     rw[HTM.out]at e
     have:=HNV.out
     simp only at e
     omega)
   obtain⟨ps,hps⟩:∃x,x=c.ps:=⟨_,rfl⟩
   have p0:wr.cell? ⟨p,0,none⟩=some (.pointer (some ⟨ps,0,none⟩)):=by rw[hps];exact(HT1.out.same HO.out.2).blk.cell 0
   have HBE:Hid (∀w',Calls Tryz.prog 37 #[.int .i64 m] w' fun e w2=>e=.returned (.int .i64 (m+1))∧Same w' w2):=hid (fun w'=>(behind_any w' m (by have:=HMB.out;have:=HSN.out.2.1;have:=HNV.out;omega)).mono (fun e w2 h9=>⟨h9.1,by rw[h9.2];exact Kept.refl _ _⟩))
   have HPR:Hid (∀w',Same w1 w'→Calls Tryz.prog 95 #[.pointer (some ⟨ps,0,none⟩),.int .i64 (m+1)] w' fun e w2=>∃k:Nat,e=.returned (.int .i64 (k:Nat))∧w2.cell? ⟨p,0,none⟩=some (.pointer (some ⟨ps,0,none⟩))∧∃ρ' τ1,Tk K N w2 p (prM M (m+1)) bg {c with L:=delK n c.L,ρ:=ρ'} τ1∧(∀k,k<w.heap.size→τ1 k=τ k)∧Kept (fun k=>τ k≠0) w w2):=hid (fun w' hk=>by
    have hT:=HT1.out.same hk
    rw[hps]
    refine(cpr14 hT.sto (m+1)).mono (fun e w2 h9=>?_)
    obtain⟨k,ρ',h1,h2,h3,h4⟩:=h9
    obtain⟨τ1,g1,g2,g3⟩:=hT.setSto h2 h3 h4 (Nat.le_refl _) hT.big
    exact⟨k,h1,g1.blk.cell 0,ρ',τ1,g1,fun k hk2=>g2 k (Nat.lt_of_lt_of_le hk2 (Nat.le_trans HKW.out.2 hk.size)),Kept.trans (Kept.trans HKW.out.1 hk (fun _ _ e=>e) (fun _ _ f=>f.elim)) g3 (fun _ _ e=>e) (fun _ _ e=>e)⟩)
   have HKK:Hid (Same w1 wr):=hid HO.out.2
   clear hc0 hl0 hps
   go_wp2_with fail
   go_region_held3 (fun w'=>w'.cell? ⟨p,0,none⟩=some (.pointer (some ⟨ps,0,none⟩)))
    (first
     | exact hcl
     | exact hkc.cell (by assumption) (fun f=>f)
     | go_keep)
    (first
     | (go_at_call 37;refine(HBE.out _).mono ?_;rintro e wk ⟨rfl,hkc⟩;have HKK:Hid (Same w1 wk):=hid (by first | exact HKK.out.trans hkc | exact HKK.out.trans (Kept.undrewC hkc)))
     | (go_at_call 95;refine(HPR.out _ (by first | exact HKK.out | exact HKK.out.drew)).mono ?_;rintro e wk ⟨kp,rfl,hcl,hT2⟩;have HT2:=hid hT2;clear hT2))
   go_upto_region 7 with fail
   clear hcl p0 HKK HBE HPR
   obtain⟨ρ',τ1,g1,g2,g3⟩:=HT2.out
   obtain⟨a,cap,hcv,hag,_⟩:=g1.cr.shape
   obtain⟨L,hL⟩:∃x,x=c.cl.length:=⟨_,rfl⟩
   obtain⟨lt,hlt⟩:∃x:Nat,(x:Int)=nw-m:=⟨(nw-m).toNat,by have:=HMB.out;omega⟩
   obtain⟨j,hj⟩:∃x:Nat,x=L-lt:=⟨_,rfl⟩
   have hcv2:c.cv=.slice a L cap:=by rw[hL];exact hcv
   have hjl:j+lt=L:=by have:=HMB.out;omega
   have hLc:L≤cap:=by
    rcases g1.cr.2 with⟨e1,_⟩ | ⟨g,cap',cur,e1,_,_,hnc,_⟩
    ·have e2:Value.slice a L cap=.slice none 0 0:=by rw[←hcv2];exact e1
     injection e2 with _ e3 e4
     omega
    ·have e2:Value.slice a L cap=.slice (some ⟨g,0,none⟩) ({c with L:=delK n c.L,ρ:=ρ'}:Tc).cl.length cap':=by rw[←hcv2];exact e1
     injection e2 with _ e3 e4
     rw[e3,e4];exact hnc
   have HG:Hid (Tk K N wk p (prM M (m+1)) bg {c with L:=delK n c.L,ρ:=ρ'} τ1∧(∀k,k<w.heap.size→τ1 k=τ k)∧Kept (fun k=>τ k≠0) w wk∧c.cv=.slice a L cap∧L=c.cl.length∧j+lt=L∧(lt:Int)=nw-m):=hid ⟨g1,g2,g3,hcv2,hL,hjl,hlt⟩
   have p3:wk.cell? ⟨p,3,none⟩=some (.slice a L cap):=by rw[←hcv2];exact g1.blk.cell 3
   have HNW2:Hid (∀w',Same wk w'→Calls Tryz.prog 16 #[.pointer (some ⟨p,0,none⟩)] w' fun e w2=>e=.returned (.int .i64 nw)∧Same w' w2):=hid (fun w' hk=>(tnow_any (g1.same hk)).mono (fun e w2 h9=>⟨by
    have e5:(prM M (m+1)).now=M.now:=by unfold prM;split<;>rfl
    rw[HNV.out,←e5];exact h9.1,by rw[h9.2];exact Kept.refl _ _⟩))
   have HDL:Hid (∀w',Same wk w'→Calls Tryz.prog 96 #[.slice a L cap,.int .i64 0,.int .i64 (j:Nat)] w' fun e w3=>∃a' n':_,e=.returned (.slice a' n' cap)∧(w3.cell? ⟨p,3,none⟩=some (.slice a L cap)∧w3.frozen? ⟨p,3,none⟩=false)∧RowC N 59 2 cmC w3 (.slice a' n' cap) (c.cl.drop j)∧(∀k,(Value.slice a' n' cap).ownBlock=some k→(Value.slice a L cap).ownBlock=some k)∧Kept (fun k=>(Value.slice a L cap).ownBlock=some k) wk w3):=hid (fun w' hk=>by
    have hT:=g1.same hk
    have hr:RowC N 59 2 cmC w' (.slice a L cap) c.cl:=by rw[←hcv2];exact hT.cr
    have hbl:Blk w' p #[.pointer (some ⟨c.ps,0,none⟩),.int .i64 bg,.map (some c.mo),.slice a L cap] 91:=by rw[←hcv2];exact hT.blk
    rcases Nat.eq_zero_or_pos j with e | e
    ·subst e
     refine(delM_none w' a L cap hLc).mono (fun e w3 h9=>?_)
     obtain⟨h1,h2⟩:=h9
     subst h2
     exact⟨a,L,h1,⟨hbl.cell 3,hbl.frozen 3⟩,by rw[List.drop_zero];exact hr,fun _ e=>e,hk.mono (fun _ _ f=>f.elim)⟩
    ·obtain⟨g,rfl⟩:=hag (fun e9=>by have e8:c.cl=[]:=e9;rw[e8]at hL;simp at hL;omega)
     refine(delM_any hr e (by omega) (by rw[hL];exact HSN.out.2.2)).mono (fun e w3 h9=>?_)
     obtain⟨h1,h2,h3⟩:=h9
     have hpg:¬p=g:=fun e9=>hr.off14 hbl (by decide) (by rw[e9];rfl)
     have hb3:=hbl.kept h3 hpg
     exact⟨_,_,h1,⟨hb3.cell 3,hb3.frozen 3⟩,h2,fun _ e=>e,Kept.trans hk h3 (fun _ _ f=>f.elim) (fun k _ e=>by rw[e];rfl)⟩)
   have hw1:IntKind.i64.wrap (nw-m)=(lt:Int):=by have:=HMB.out;have:=HSN.out.2.2;rw[IntKind.wrap_i64];omega
   have hw2:IntKind.i64.wrap ((L:Int)-(lt:Int))=(j:Int):=by have:=HSN.out.2.2;rw[IntKind.wrap_i64];omega
   have HKK:Hid (Same wk wk):=hid (Kept.refl _ _)
   clear g1 g2 g3 hcv hag hL hlt hj hcv2 hjl hLc HT2
   go_region_with (first
    | (go_at_call 16;refine(HNW2.out _ (show Same wk _ by first | exact HKK.out | exact HKK.out.drew)).mono ?_;rintro e wn ⟨rfl,hkc⟩;have HKK:Hid (Same wk wn):=hid (by first | exact Same.trans HKK.out (Kept.undrewC hkc) | exact Same.trans HKK.out hkc);have p3:=HKK.out.cell p3 (fun f=>f))
    | (go_at_call 96;refine(HDL.out _ (show Same wk _ by first | exact HKK.out | exact HKK.out.drew)).mono ?_;rintro e w3 ⟨a',n',rfl,⟨d3,z3⟩,hr3,ho3,hk3⟩;have H3:=hid (And.intro hr3 (And.intro ho3 hk3));clear hr3 ho3 hk3))
   all_goals go_wp2_with fail
   all_goals go_end0
   all_goals exact end_done HG.out HO.out.1 HAP.out.2.1 HTM.out HNV.out H3.out (HT1.out.r1)
  ·intro x cc kl y1 y2 w2 cnt2 hkey hlx hv hat hrg2 hlt hg2 hs2 hen
   obtain⟨nb,rfl,rfl⟩:=keyI_inv hkey
   obtain⟨q,hgn,hy⟩:=mpD_has klI hat
   obtain rfl:cc=.pointer (some ⟨q,0,none⟩):=rdP.inv _ q y2 (by rw[hv,←hy])
   have hkr:Kept (·=r) wr w2:=(Kept.refl _ wr).grown hg2 (fun k e=>.inl (by simpa using e.symm))
   have hk2:Same w1 w2:=Kept.trans HI.out.2.2 hkr (fun _ _ f=>f) (fun k hk e=>by have:=HK0.out.2;omega)
   have hTq:=(HT1.out.same hk2)
   have hxl:(nb,q)∈({c with L:=delK n c.L}:Tc).L:=by have h9:=getK_mem hgn;rw[HAP.out.2.1]at h9;exact h9
   have q2:w2.cell? ⟨q,2,none⟩=some (.pointer (some ⟨c.st q,0,none⟩)):=(hTq.tb _ hxl).cell 2
   have HAT:=xvat (hTq.ts _ hxl)
   have e9:(({c with L:=delK n c.L}:Tc).mv (nb,q).2).t=tm q:=by rw[HTM.out]
   rw[e9]at HAT
   obtain⟨st,hst⟩:∃x,x=c.st q:=⟨_,rfl⟩
   change Calls _ _ #[.pointer (some ⟨c.st q,0,none⟩)] _ _ at HAT
   rw[←hst]at q2 HAT
   have HN:Hid (w2.ranges Tryz.prog 3 ptC mo r A.length (mpD kI A) (fun z=>left z && !z.sameKey (kI nb)) cnt2∧OldI A tm nw (fun z=>left z && !z.sameKey (kI nb)) (min m (tm q))∧Same w1 w2∧cnt2<cnt):=hid ⟨hrg2,HI.out.2.1.next HAP.out.1 hgn,hk2,hlt⟩
   clear hkey hlx hv hat hrg2 hlt hg2 hs2 hy hgn hkr hk2 hTq hxl e9 hst
   go_wp2_with fail
   refine HAT.mono ?_
   rintro e w3 ⟨rfl,hw3⟩
   have hw8:=hw3.symm
   subst hw8
   clear HAT
   go_wp2_with fail
   go_roundg (gk-1)
   case measure=>have:=HN.out.2.2.2;omega
   case rel=>exact⟨_,_,cnt2,rfl,by have:=HN.out.2.2.2;omega,hid ⟨HN.out.1,HN.out.2.1,HN.out.2.2.1⟩⟩

end Go.Proofs.YtcfociogljhbiaaGreatDoor

namespace Go.Proofs.YtcfociogljhbiaaGreatDoor
open Go.RowKit Go.Maps Go.Sort Go.Shelf

def AboA(K N:Nat)(w:World)(p:Nat)(M:Mst)(bg:Int)(c:Tc)(τ:Nat→Nat)(n:Nb)(e:Ending)(w':World):Prop:=
 (getK n c.L=none∧e=.returned (.int .i64 140)∧Same w w')∨(∃q,getK n c.L=some q∧e=.returned (.int .i64 0)∧EndA K N w p M bg c τ n (.returned (.tuple #[])) w')

set_option maxRecDepth 100000 in
set_option maxHeartbeats 1000000 in
theorem tabort_any{K N:Nat}{w:World}{p:Nat}{M:Mst}{bg:Int}{c:Tc}{τ:Nat→Nat}(h:Tk K N w p M bg c τ)(n:Nb)(hs:∀x∈c.L,0≤(c.mv x.2).t∧(c.mv x.2).t≤M.now-1∧M.now-1-(c.mv x.2).t≤c.cl.length)(hn0:1≤M.now∧M.now≤9223372036854775806):Calls Tryz.prog 19 #[.pointer (some ⟨p,0,none⟩),.int .i64 n.v] w fun e w'=>AboA K N w p M bg c τ n e w':=by
 have HF:=tfind_any h n
 have HE:=tend_any h n hs hn0
 cases hg:getK n c.L with
 | none=>
  rw[hg]at HF
  change Calls _ _ _ _ (fun e w'=>e=.returned (.tuple #[.pointer none,.int .i64 140])∧w'=w)at HF
  have HG:Hid (getK n c.L=none):=hg
  clear h hg HE hs hn0
  go_enter Tryz.func19,Tryz.ntmps19
  go_wp2_with fail
  refine HF.mono ?_
  rintro e w1 ⟨rfl,rfl⟩
  go_wp2_with fail
  go_ret
  exact .inl ⟨HG.out,rfl,Kept.refl _ _⟩
 | some q=>
  rw[hg]at HF
  change Calls _ _ _ _ (fun e w'=>e=.returned (.tuple #[.pointer (some ⟨q,0,none⟩),.int .i64 0])∧w'=w)at HF
  have HG:Hid (getK n c.L=some q):=hg
  clear h hg hs hn0
  go_enter Tryz.func19,Tryz.ntmps19
  go_wp2_with fail
  refine HF.mono ?_
  rintro e w1 ⟨rfl,rfl⟩
  go_wp2_with fail
  refine HE.mono ?_
  intro e w2 hE
  have HEE:=hid hE
  obtain⟨rfl,_⟩:=hE
  go_wp2_with fail
  go_ret
  exact .inr ⟨q,HG.out,rfl,HEE.out⟩

end Go.Proofs.YtcfociogljhbiaaGreatDoor

namespace Go.Proofs.YtcfociogljhbiaaGreatDoor
open Go.RowKit Go.Maps Go.Sort Go.Shelf

theorem results_14b{fn:Func}{p b:Tmp}{ty:TypeId}(h:fn.results=#[.cell p ty,.tmp b])(tmps:Array Value)(P:Program)(w w1 w2:World)(x:Addr)(v:Value)(h1:(asAddr (tmps.getD p undef)).run P w=.ok x w1)(h2:(loadVar ty x).run P w1=.ok v w2):
  (results fn tmps).run P w=.ok (.tuple #[v,tmps.getD b undef]) w2:=by
 simp only[results,h]
 simp only[Array.getD_eq_getD_getElem?]at h1 ⊢
 simp[Sem.run_bind,Result.andThen,h1,h2]

theorem loadC14{W:World}{g:Nat}{t:Int}{a:Option Addr}{n c:Nat}(hb:Blk W g #[.int .i64 t,.slice a n c] 59):(loadVar 59 ⟨g,0,none⟩).run Tryz.prog W=.ok (.agg #[.int .i64 t,.slice a n c]) W:=by
 have c0:=hb.cell 0
 have c1:=hb.cell 1
 simp only[List.getElem?_toArray,List.getElem?_cons_zero,List.getElem?_cons_succ]at c0 c1
 simp[go_sem,c0,c1]

end Go.Proofs.YtcfociogljhbiaaGreatDoor
