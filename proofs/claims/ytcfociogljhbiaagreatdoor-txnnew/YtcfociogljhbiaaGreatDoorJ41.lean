/-
  Of the proof: parts UdF, UdG, UdH, UdI, UcE, UdJ.
-/
import Derived.Deep.RegionLaw
import Derived.Test.YtcfociogljhbiaaGreatDoorJ40
import Derived.Test.YtcfociogljhbiaaGreatDoorJ39
import Derived.Test.YtcfociogljhbiaaGreatDoorJ31
import Derived.Test.YtcfociogljhbiaaGreatDoorJ32

namespace Go.Proofs.YtcfociogljhbiaaGreatDoor
open Go.RowKit Go.Maps Go.Sort Go.Shelf Go.Lib

theorem Tryz.infoKe14:(Tryz.prog.info? 63).map (fun i=>(i.zero,i.size,i.bytes))=some (some (.agg #[.string ⟨#[]⟩,.string ⟨#[]⟩,.string ⟨#[]⟩]),3,48):=by kernel_rfl
theorem Tryz.infoBo14:(Tryz.prog.info? 128).map (fun i=>(i.zero,i.size,i.bytes))=some (some (.agg #[.string ⟨#[]⟩,.string ⟨#[]⟩]),2,32):=by kernel_rfl

theorem cellsAt_ke(w:World)(k:Ke):CellsAt (w.alloc (.cells #[.string k.1.tn,.string k.1.ar,.string k.2.s] 63)) ⟨w.heap.size,0,none⟩ ([k].flatMap ke3V):=by
 intro j u hj
 match j,hj with
 | 0,hj=>simp[ke3V]at hj;subst hj;simp[addAt]
 | 1,hj=>simp[ke3V]at hj;subst hj;simp[addAt]
 | 2,hj=>simp[ke3V]at hj;subst hj;simp[addAt]
 | j+3,hj=>simp[ke3V]at hj

theorem cellsAt_bo(w:World)(b:Bx):CellsAt (w.alloc (.cells #[.string b.tn,.string b.ar] 128)) ⟨w.heap.size,0,none⟩ ([b].flatMap bx2V):=by
 intro j u hj
 match j,hj with
 | 0,hj=>simp[bx2V]at hj;subst hj;simp[addAt]
 | 1,hj=>simp[bx2V]at hj;subst hj;simp[addAt]
 | j+2,hj=>simp[bx2V]at hj

def Ri.put(R:Ri)(i:Nat)(x:Ti):Ri:={R with t:={R.t with l:=R.t.l.set i x}}

structure RmA(X B:Nat)(w:World)(p:Nat)(R R':Ri)(w':World):Prop where
 rm:Rm X B w' p R'
 own:∀k,Rown R' p k→Rown R p k∨w.heap.size≤k
 kept:Kept (Rown R p) w w'

theorem RmA.same{X B:Nat}{w w' w2:World}{p:Nat}{R R':Ri}(h:RmA X B w p R R' w')(hk:Same w' w2):RmA X B w p R R' w2:=⟨h.rm.same hk,h.own,Kept.trans h.kept hk (fun _ _ e=>e) (fun _ _ f=>f.elim)⟩

theorem RmA.pre{X B:Nat}{w w1 w2:World}{p:Nat}{R R':Ri}(hk:Same w w1)(h:RmA X B w1 p R R' w2):RmA X B w p R R' w2:=⟨h.rm,fun k e=>(h.own k e).imp id (fun q=>Nat.le_trans hk.size q),Kept.trans hk h.kept (fun _ _ f=>f.elim) (fun _ _ e=>e)⟩

theorem RmA.still{X X' B:Nat}{w w':World}{p:Nat}{R:Ri}(h:Rm X B w p R)(hX:X≤X')(hk:Same w w'):RmA X' B w p R R w':=⟨(h.same hk).more hX,fun _ e=>.inl e,hk.mono (fun _ _ f=>f.elim)⟩

theorem RmA.trans{X X' B:Nat}{w w1 w2:World}{p:Nat}{R R' R'':Ri}(h1:RmA X B w p R R' w1)(h2:RmA X' B w1 p R' R'' w2):RmA X' B w p R R'' w2:=
 ⟨h2.rm,fun k e=>(h2.own k e).elim (fun q=>h1.own k q) (fun q=>.inr (Nat.le_trans h1.kept.size q)),Kept.trans h1.kept h2.kept (fun _ _ e=>e) (fun k hk e=>(h1.own k e).resolve_right (by omega))⟩

theorem RmA.rfa{X B:Nat}{w w':World}{p:Nat}{G:Nat→Prop}{R R':Ri}(h3:∀k,G k↔Rown R p k)(h:RmA X B w p R R' w'):RfA X B w p G R'.abs w':=RfA.of h3 h.rm rfl h.own h.kept

theorem rm_noteR{X B:Nat}{w w9:World}{p:Nat}{R:Ri}(h:Rm X B w p R){i:Nat}(hi:i<R.t.l.length)(k:Ke){a9:Option Addr}{n9 c9:Nat}(hr:RowC B 63 3 ke3V w9 (.slice a9 n9 c9) (R.t.l[i].r.l++[k]))(hk:Kept (fun j=>R.t.l[i].r.v.ownBlock=some j) w w9)(hb:∀j,(Value.slice a9 n9 c9).ownBlock=some j→R.t.l[i].r.v.ownBlock=some j∨w.heap.size≤j):
  RmA (X+1) B w p R (R.put i {R.t.l[i]with r:=⟨a9,n9,c9,R.t.l[i].r.l++[k]⟩}) (w9.setCell ⟨R.t.l[i].q,4,none⟩ (.slice a9 n9 c9)):=by
 have hti:=h.ti _ (List.getElem_mem hi)
 have hm:=List.getElem_mem hi
 have hb9:Blk w9 R.t.l[i].q R.t.l[i].cs 155:=hti.blk.kept hk (fun e=>hti.r.offB hti.blk (by decide) e)
 have hkq:Kept (·=R.t.l[i].q) w9 (w9.setCell ⟨R.t.l[i].q,4,none⟩ (.slice a9 n9 c9)):=(Kept.refl _ w9).setCell _ _ (.inl rfl)
 have hkk:Kept (fun k=>k=R.t.l[i].q∨R.t.l[i].r.v.ownBlock=some k∨R.t.l[i].b.v.ownBlock=some k) w (w9.setCell ⟨R.t.l[i].q,4,none⟩ (.slice a9 n9 c9)):=Kept.trans hk hkq (fun _ _ e=>.inr (.inl e)) (fun _ _ e=>.inl e)
 have hb2:Blk (w9.setCell ⟨R.t.l[i].q,4,none⟩ (.slice a9 n9 c9)) R.t.l[i].q #[.int .i64 R.t.l[i].num,.int .i64 (R.t.l[i].snap:Nat),.string R.t.l[i].tn.s,R.t.l[i].s.v,.slice a9 n9 c9,R.t.l[i].b.v] 155:=by
  have:=hb9.set 4 (.slice a9 n9 c9)
  unfold Ti.cs at this
  simpa using this
 have hbig:=hti.big
 have ht:RmT (X+1) B (w9.setCell ⟨R.t.l[i].q,4,none⟩ (.slice a9 n9 c9)) {R.t.l[i]with r:=⟨a9,n9,c9,R.t.l[i].r.l++[k]⟩}:=by
  refine⟨hb2,?_,hr.kept hkq (fun j e q=>hr.offB hb9 (by decide) (by rw[←q];exact e)),?_,hti.low,?_⟩
  ·exact hti.s.kept hkk (fun j e q=>by
    rcases q with rfl | q | q
    ·exact hti.s.offB hti.blk (by decide) e
    ·exact hti.s.offR hti.r (by decide) j e q
    ·exact hti.s.offR hti.b (by decide) j e q)
  ·exact(hti.b.kept hk (fun j e q=>hti.b.offR hti.r (by decide) j e q)).kept hkq (fun j e q=>(hti.b.kept hk (fun j e q=>hti.b.offR hti.r (by decide) j e q)).offB hb9 (by decide) (by rw[←q];exact e))
  ·refine⟨Nat.le_succ_of_le hbig.1,?_,Nat.le_succ_of_le hbig.2.2.1,Nat.le_succ_of_le hbig.2.2.2⟩
   show(R.t.l[i].r.l++[k]).length≤X+1
   rw[List.length_append]
   have:=hbig.2.1
   simp
   omega
 obtain⟨e1,e2⟩:=h.setT hi (x':={R.t.l[i]with r:=⟨a9,n9,c9,R.t.l[i].r.l++[k]⟩}) rfl hkk ht (Nat.le_succ X) hb (fun _ e=>.inl e) (fun _ e=>.inl e)
 refine⟨e1,e2,hkk.mono (fun j _ q=>?_)⟩
 rcases q with q | q | q
 ·exact .inr (.inr (.inr (.inr (.inr (.inr ⟨_,hm,.inl q⟩)))))
 ·exact .inr (.inr (.inr (.inr (.inr (.inr ⟨_,hm,.inr (.inr (.inl q))⟩)))))
 ·exact .inr (.inr (.inr (.inr (.inr (.inr ⟨_,hm,.inr (.inr (.inr q))⟩)))))

theorem rm_noteB{X B:Nat}{w w9:World}{p:Nat}{R:Ri}(h:Rm X B w p R){i:Nat}(hi:i<R.t.l.length)(k:Bx){a9:Option Addr}{n9 c9:Nat}(hr:RowC B 128 2 bx2V w9 (.slice a9 n9 c9) (R.t.l[i].b.l++[k]))(hk:Kept (fun j=>R.t.l[i].b.v.ownBlock=some j) w w9)(hb:∀j,(Value.slice a9 n9 c9).ownBlock=some j→R.t.l[i].b.v.ownBlock=some j∨w.heap.size≤j):
  RmA (X+1) B w p R (R.put i {R.t.l[i]with b:=⟨a9,n9,c9,R.t.l[i].b.l++[k]⟩}) (w9.setCell ⟨R.t.l[i].q,5,none⟩ (.slice a9 n9 c9)):=by
 have hti:=h.ti _ (List.getElem_mem hi)
 have hm:=List.getElem_mem hi
 have hb9:Blk w9 R.t.l[i].q R.t.l[i].cs 155:=hti.blk.kept hk (fun e=>hti.b.offB hti.blk (by decide) e)
 have hkq:Kept (·=R.t.l[i].q) w9 (w9.setCell ⟨R.t.l[i].q,5,none⟩ (.slice a9 n9 c9)):=(Kept.refl _ w9).setCell _ _ (.inl rfl)
 have hkk:Kept (fun k=>k=R.t.l[i].q∨R.t.l[i].r.v.ownBlock=some k∨R.t.l[i].b.v.ownBlock=some k) w (w9.setCell ⟨R.t.l[i].q,5,none⟩ (.slice a9 n9 c9)):=Kept.trans hk hkq (fun _ _ e=>.inr (.inr e)) (fun _ _ e=>.inl e)
 have hb2:Blk (w9.setCell ⟨R.t.l[i].q,5,none⟩ (.slice a9 n9 c9)) R.t.l[i].q #[.int .i64 R.t.l[i].num,.int .i64 (R.t.l[i].snap:Nat),.string R.t.l[i].tn.s,R.t.l[i].s.v,R.t.l[i].r.v,.slice a9 n9 c9] 155:=by
  have:=hb9.set 5 (.slice a9 n9 c9)
  unfold Ti.cs at this
  simpa using this
 have hbig:=hti.big
 have ht:RmT (X+1) B (w9.setCell ⟨R.t.l[i].q,5,none⟩ (.slice a9 n9 c9)) {R.t.l[i]with b:=⟨a9,n9,c9,R.t.l[i].b.l++[k]⟩}:=by
  refine⟨hb2,?_,?_,hr.kept hkq (fun j e q=>hr.offB hb9 (by decide) (by rw[←q];exact e)),hti.low,?_⟩
  ·exact hti.s.kept hkk (fun j e q=>by
    rcases q with rfl | q | q
    ·exact hti.s.offB hti.blk (by decide) e
    ·exact hti.s.offR hti.r (by decide) j e q
    ·exact hti.s.offR hti.b (by decide) j e q)
  ·exact(hti.r.kept hk (fun j e q=>hti.r.offR hti.b (by decide) j e q)).kept hkq (fun j e q=>(hti.r.kept hk (fun j e q=>hti.r.offR hti.b (by decide) j e q)).offB hb9 (by decide) (by rw[←q];exact e))
  ·refine⟨Nat.le_succ_of_le hbig.1,Nat.le_succ_of_le hbig.2.1,?_,Nat.le_succ_of_le hbig.2.2.2⟩
   show(R.t.l[i].b.l++[k]).length≤X+1
   rw[List.length_append]
   have:=hbig.2.2.1
   simp
   omega
 obtain⟨e1,e2⟩:=h.setT hi (x':={R.t.l[i]with b:=⟨a9,n9,c9,R.t.l[i].b.l++[k]⟩}) rfl hkk ht (Nat.le_succ X) (fun _ e=>.inl e) hb (fun _ e=>.inl e)
 refine⟨e1,e2,hkk.mono (fun j _ q=>?_)⟩
 rcases q with q | q | q
 ·exact .inr (.inr (.inr (.inr (.inr (.inr ⟨_,hm,.inl q⟩)))))
 ·exact .inr (.inr (.inr (.inr (.inr (.inr ⟨_,hm,.inr (.inr (.inl q))⟩)))))
 ·exact .inr (.inr (.inr (.inr (.inr (.inr ⟨_,hm,.inr (.inr (.inr q))⟩)))))

theorem rm_stage{X B:Nat}{w w':World}{p:Nat}{R:Ri}(h:Rm X B w p R){i:Nat}(hi:i<R.t.l.length){s':Sq Wr}(ht:RmT (X+1) B w' {R.t.l[i]with s:=s'})(hs:∀k,s'.v.ownBlock=some k→w.heap.size≤k)(hk:Kept (·=R.t.l[i].q) w w'):RmA (X+1) B w p R (R.put i {R.t.l[i]with s:=s'}) w':=by
 have hm:=List.getElem_mem hi
 obtain⟨e1,e2⟩:=h.setT hi (x':={R.t.l[i]with s:=s'}) rfl (hk.mono (fun _ _ e=>.inl e)) ht (Nat.le_succ X) (fun _ e=>.inl e) (fun _ e=>.inl e) (fun k e=>.inr (hs k e))
 exact⟨e1,e2,hk.mono (fun j _ q=>.inr (.inr (.inr (.inr (.inr (.inr ⟨_,hm,.inl q⟩))))))⟩

theorem put_get(R:Ri){i:Nat}(hi:i<R.t.l.length)(x:Ti):x∈(R.put i x).t.l:=List.mem_set hi x

def rdL(s:List Wr)(k:Ke)(r:List Ke):List Ke:=if ownL s k<0 then r++[k]else r
def rdI(ow:Int)(k:Ke)(r:List Ke):List Ke:=if ow<0 then r++[k]else r

def reaV(o:Option ByteArray):Value:=match o with | some d=>.tuple #[.string d,.int .i64 0] | none=>.tuple #[.string ⟨#[]⟩,.int .i64 144]

set_option maxRecDepth 100000 in
set_option maxHeartbeats 4000000 in
theorem rread_good{X B:Nat}{w:World}{p:Nat}{R:Ri}(h:Rm X B w p R)(hX:X≤90000)(hB:B≤w.heap.size){i:Nat}(hi:i<R.t.l.length)(h1:∀j (hj:j<R.t.l.length),R.t.l[j].num=R.t.l[i].num→j=i)(ar en:Nm)(hn:namR false ar.s en.s=true){y:Sq Et}(hy:R.s.l[R.t.l[i].snap]? = some y){f:Vf}(hf:StE f (allL R.t.l[i].s.l y.l)):Calls Tryz.prog 41 #[.pointer (some ⟨p,0,none⟩),.int .i64 R.t.l[i].num,.string ar.s,.string en.s] w fun e w'=>e=.returned (reaV (f (kyT R.t.l[i].tn ar en)))∧∃r':Sq Ke,r'.l=rdL R.t.l[i].s.l (kyT R.t.l[i].tn ar en) R.t.l[i].r.l∧RmA (X+1) B w p R (R.put i {R.t.l[i]with r:=r'}) w':=by
 have HO:=ropen_good h R.t.l[i].num hi rfl h1 ar.s en.s false hn
 have HM:=hid h
 have hti:=h.ti _ (List.getElem_mem hi)
 have HBB:=hid hB
 have HF:=hid hf
 have HYL:Hid (y.l.length≤X):=hid (by
  obtain⟨hs,e⟩:=List.getElem?_eq_some_iff.1 hy
  have:=h.big.2.2.2.1 _ (List.getElem_mem hs)
  rw[e]at this
  exact this)
 have HY:=hid hy
 obtain⟨x,hx⟩:∃x,x=R.t.l[i]:=⟨_,rfl⟩
 rw[←hx]at HO hti HF HY ⊢
 obtain⟨k,hk⟩:∃k,k=kyT x.tn ar en:=⟨_,rfl⟩
 have HK:Hid (k.1.tn=x.tn.s∧k.1.ar=ar.s∧k.2.s=en.s):=hid (by rw[hk];exact⟨rfl,rfl,rfl⟩)
 rw[←hk]
 have HXX:Hid (∃hi:i<R.t.l.length,x=R.t.l[i]):=hid ⟨hi,hx⟩
 have HT:Hid (∀w',Same w w'→RmT X B w' x):=hid (fun w' hk=>hti.kept hk (fun _ _ f=>f))
 have HSZ:Hid (X≤90000∧x.s.l.length≤X∧x.r.l.length≤X∧x.r.n=x.r.l.length):=hid ⟨hX,hti.big.1,hti.big.2.1,row_len hti.r⟩
 have HC:Hid (∀w',Same w w'→w'.cell? ⟨x.q,2,none⟩=some (.string k.1.tn)∧w'.cell? ⟨x.q,4,none⟩=some (.slice x.r.a x.r.n x.r.c)∧w'.frozen? ⟨x.q,4,none⟩=false):=hid (fun w' hk'=>by
  have hb:=(hti.kept hk' (fun _ _ f=>f)).blk
  rw[HK.out.1]
  exact⟨hb.cell 2,hb.cell 4,hb.frozen 4⟩)
 have hka:ar.s=k.1.ar:=HK.out.2.1.symm
 have hke:en.s=k.2.s:=HK.out.2.2.symm
 rw[hka,hke]at HO ⊢
 clear h hX hB hi h1 hn hy hf hti hx hk hka hke
 go_enter Tryz.func41,Tryz.ntmps41
 go_wp2_with fail
 refine HO.mono ?_
 rintro e w1 ⟨rfl,hk1⟩
 have HK1:=hid hk1
 obtain⟨c2,c4,z4⟩:=HC.out w1 hk1
 clear HO hk1 c4 z4
 have HOW:Hid (∀w',Same w w'→Calls Tryz.prog 83 #[.pointer (some ⟨x.q,0,none⟩),.agg #[.string k.1.tn,.string k.1.ar,.string k.2.s]] w' fun e w2=>e=.returned (.int .i64 (ownL x.s.l k))∧Same w' w2):=hid (fun w' hk'=>rown14 (HT.out w' hk') (by have:=HSZ.out;omega) k)
 obtain⟨w2,hw2⟩:∃W,W=w1.alloc (.cells #[.string k.1.tn,.string k.1.ar,.string k.2.s] 63):=⟨_,rfl⟩
 obtain⟨kg,hkg⟩:∃g,g=w1.heap.size:=⟨_,rfl⟩
 have HKB:Hid (Blk w2 kg #[.string k.1.tn,.string k.1.ar,.string k.2.s] 63∧Same w w2∧w.heap.size≤kg):=hid (by rw[hw2,hkg];exact⟨Blk.new w1 _ _,HK1.out.trans ((Kept.refl _ _).alloc _),HK1.out.size⟩)
 have HO2:=HOW.out w2 HKB.out.2.1
 have q0:w2.cell? ⟨kg,0,none⟩=some (.string k.1.tn):=HKB.out.1.cell 0
 have q1:w2.cell? ⟨kg,1,none⟩=some (.string k.1.ar):=HKB.out.1.cell 1
 have q2:w2.cell? ⟨kg,2,none⟩=some (.string k.2.s):=HKB.out.1.cell 2
 rw[hw2,hkg]at q0 q1 q2
 rw[hw2]at HO2
 go_wp2_with fail
 refine HO2.mono ?_
 rintro e w3 ⟨rfl,hk3⟩
 rw[←hw2]at hk3
 rw[←hkg]
 have HK3:Hid (Same w w3∧Same w2 w3):=hid ⟨HKB.out.2.1.trans hk3,hk3⟩
 clear HO2 hk3 q0 q1 q2 hw2 hkg c2
 have HKC:Hid (Blk w3 kg #[.string k.1.tn,.string k.1.ar,.string k.2.s] 63):=hid (HKB.out.1.kept HK3.out.2 (fun f=>f))
 obtain⟨ow,how⟩:∃z,z=ownL x.s.l k:=⟨_,rfl⟩
 rw[←how]
 have HOWN:Hid (ow=ownL x.s.l k):=hid how
 clear how
 go_upto_if 36 with fail
 go_cut [36]from 33 to 46 (fun z wx=>Hid (∃r':Sq Ke,r'.l=rdI ow k x.r.l∧RmA (X+1) B w p R (R.put i {x with r:=r'}) wx∧Blk wx kg #[.string k.1.tn,.string k.1.ar,.string k.2.s] 63))
 case first=>
  by_cases hneg:ow<0
  ·have d1:decide (ow<0)=true:=decide_eq_true hneg
   have HNG:=hid hneg
   obtain⟨c2,c4,z4⟩:=HC.out w3 HK3.out.1
   have q0:w3.cell? ⟨kg,0,none⟩=some (.string k.1.tn):=HKC.out.cell 0
   have q1:w3.cell? ⟨kg,1,none⟩=some (.string k.1.ar):=HKC.out.cell 1
   have q2:w3.cell? ⟨kg,2,none⟩=some (.string k.2.s):=HKC.out.cell 2
   have HRR:Hid (RowC B 63 3 ke3V w3 (.slice x.r.a x.r.n x.r.c) x.r.l∧B≤w3.heap.size):=hid ⟨(HT.out w3 HK3.out.1).r,Nat.le_trans HBB.out HK3.out.1.size⟩
   have HZZ:Hid (∀w9,Kept (fun j=>(Value.slice x.r.a x.r.n x.r.c).ownBlock=some j) w3 w9→w9.frozen? ⟨x.q,4,none⟩=false∧w9.cell? ⟨x.q,4,none⟩=some (.slice x.r.a x.r.n x.r.c)):=hid (fun w9 hk9=>by
    have hb:=(HT.out w3 HK3.out.1).blk.kept hk9 (fun e=>(HT.out w3 HK3.out.1).r.offB (HT.out w3 HK3.out.1).blk (by decide) e)
    exact⟨hb.frozen 4,hb.cell 4⟩)
   go_upto_region 6 with fail
   have hs0:Same w3 w3:=Kept.refl _ _
   have hsA:Same w3 (w3.alloc (.cells #[.string k.1.tn,.string k.1.ar,.string k.2.s] 63)):=(Kept.refl _ _).alloc _
   have c4a:=hsA.cell c4 (fun f=>f)
   clear hsA c2
   go_region_law (first
    | (refine step_appendC ke3V 3 ke3_ok B 152 63 (.agg #[.string ⟨#[]⟩,.string ⟨#[]⟩,.string ⟨#[]⟩]) 48 Tryz.underlying152 Tryz.infoKe14 rfl (by decide) (by rfl) (.tmp 41) (.tmp 43) (by rfl) (.slice x.r.a x.r.n x.r.c) x.r.l (by rfl) (HRR.out.1.kept (show Same w3 _ from by first | exact hs0.alloc _ | exact(hs0.drew).alloc _ | exact(hs0.alloc _).drew) (fun _ _ f=>f)) _ 1 1 [k] (by rfl) (by rfl) (cellsAt_ke _ k) (by have:=HSZ.out;simp;omega) (by have:=HRR.out.2;simp;omega) ?_;intro v9 w9 hr9 hg9 hb9;have hk9:Kept (fun j=>(Value.slice x.r.a x.r.n x.r.c).ownBlock=some j) w3 w9:=Kept.trans (F:=fun _=>False) (show Same w3 _ from by first | exact hs0.alloc _ | exact(hs0.drew).alloc _ | exact(hs0.alloc _).drew) ((Kept.refl _ _).grown hg9 (fun j e=>.inl e)) (fun _ _ f=>False.elim f) (fun _ _ e=>e);have hb9':∀j,v9.ownBlock=some j→(Value.slice x.r.a x.r.n x.r.c).ownBlock=some j∨w3.heap.size≤j:=(fun j e=>(hb9 j e).imp id (fun h=>by(try simp at h);omega));obtain⟨z9,d9⟩:=HZZ.out w9 hk9;obtain⟨a9,n9,q9,e9⟩:∃a n q,v9=Value.slice a n q:=(by obtain⟨a,q,e,_⟩:=hr9.shape;exact⟨a,_,q,e⟩);subst e9;clear hg9 hb9))
   all_goals
    have HF9:Hid (RmA (X+1) B w p R (R.put i {x with r:=⟨a9,n9,q9,x.r.l++[k]⟩}) (w9.setCell ⟨x.q,4,none⟩ (.slice a9 n9 q9))∧Blk (w9.setCell ⟨x.q,4,none⟩ (.slice a9 n9 q9)) kg #[.string k.1.tn,.string k.1.ar,.string k.2.s] 63):=hid (by
     obtain⟨hi,hx⟩:=HXX.out
     have hm3:=HM.out.same HK3.out.1
     have ht3:=HT.out w3 HK3.out.1
     refine⟨?_,?_⟩
     ·subst hx
      exact RmA.pre HK3.out.1 (rm_noteR hm3 hi k hr9 hk9 hb9')
     ·have hkb:Blk w9 kg #[.string k.1.tn,.string k.1.ar,.string k.2.s] 63:=HKC.out.kept hk9 (fun e=>by
       have h7:=(HT.out w (Kept.refl _ _)).r.lt (j:=kg) e
       have:=HKB.out.2.2
       omega)
      exact hkb.kept ((Kept.refl (·=x.q) w9).setCell _ _ (.inl rfl)) (fun e=>by
       have h7:=(HT.out w (Kept.refl _ _)).blk.lt
       have:=HKB.out.2.2
       omega))
    clear hr9 hk9 hb9'
    go_wp2_with fail
    go_meet
    exact hid ⟨⟨a9,n9,q9,x.r.l++[k]⟩,by unfold rdI;rw[if_pos HNG.out],by first | exact HF9.out.1 | exact HF9.out.1.same ((Kept.refl _ _).drew),by first | exact HF9.out.2 | exact HF9.out.2.kept (F:=fun _=>False) ((Kept.refl _ _).drew) (fun f=>f)⟩
  ·have d1:decide (ow<0)=false:=decide_eq_false hneg
   have HNG:=hid hneg
   go_wp2_with fail
   go_meet
   exact hid ⟨x.r,by unfold rdI;rw[if_neg (by have:=HNG.out;omega)],by
    obtain⟨hi,hx⟩:=HXX.out
    have e:R.put i {x with r:=x.r}=R:=by
     rw[hx]
     unfold Ri.put
     have e2:R.t.l.set i R.t.l[i]=R.t.l:=List.set_getElem_self hi
     show {R with t:={R.t with l:=R.t.l.set i R.t.l[i]}}=R
     rw[e2]
    rw[e]
    exact RmA.still HM.out (Nat.le_succ X) HK3.out.1,HKC.out⟩
 case rest=>
  have HQ:=hcut
  obtain⟨r',hr',hra,hkb⟩:=HQ.out
  have HRA:Hid (r'.l=rdI ow k x.r.l∧RmA (X+1) B w p R (R.put i {x with r:=r'}) wc):=hid ⟨hr',hra⟩
  have HKW:=hid hkb
  have HSE:=rsees14 hra.rm (by have:=HSZ.out;omega) (Nat.le_trans HBB.out hra.kept.size) (x:={x with r:=r'}) (by obtain⟨hi,_⟩:=HXX.out;exact put_get R hi _) (y:=y) HY.out
  clear hr' hra hkb HQ hcut
  go_wp2_with fail
  refine HSE.mono ?_
  rintro e w5 ⟨v5,rfl,hrow,hk5⟩
  obtain⟨va,vc,hv5,hag,_⟩:=hrow.shape
  have HRW:Hid (RowC B 150 4 etE w5 v5 (allL x.s.l y.l)∧Same wc w5∧(allL x.s.l y.l).length≤1000000):=hid ⟨hrow,hk5,by have:=allL_len x.s.l y.l;have:=HSZ.out;have:=HYL.out;omega⟩
  obtain⟨vn,hvn⟩:∃n,n=(allL x.s.l y.l).length:=⟨_,rfl⟩
  rw[←hvn]at hv5
  subst hv5
  have HFI:=rfind14 w5 B va vn vc (allL x.s.l y.l) hrow (by have:=HRW.out.2.2;omega) k
  have hkb5:=HKW.out.kept hk5 (fun f=>f)
  have q0:w5.cell? ⟨kg,0,none⟩=some (.string k.1.tn):=hkb5.cell 0
  have q1:w5.cell? ⟨kg,1,none⟩=some (.string k.1.ar):=hkb5.cell 1
  have q2:w5.cell? ⟨kg,2,none⟩=some (.string k.2.s):=hkb5.cell 2
  have HVN:Hid (vn=(allL x.s.l y.l).length):=hid hvn
  clear HSE hrow hk5 hag hkb5 hvn
  cases hfk:f k with
  | none=>
   rw[fnd_none HF.out hfk]at HFI
   have HFK:=hid hfk
   clear hfk
   go_wp2_with fail
   refine HFI.mono ?_
   rintro e w6 ⟨rfl,hk6⟩
   have HK6:Hid (Same wc w6):=hid (HRW.out.2.1.trans hk6)
   clear HFI hk6 q0 q1 q2
   go_wp2_with fail
   go_ret2
   exact⟨by rw[HFK.out];rfl,r',by have h9:=HRA.out.1;rw[HOWN.out]at h9;exact h9,HRA.out.2.same HK6.out⟩
  | some d=>
   obtain⟨j,hj,e1,e2⟩:=fnd_some HF.out hfk
   rw[e1]at HFI
   obtain⟨g,hg,hcs⟩:=row_k etE_ok HRW.out.1 j hj
   have HC3:Hid (w5.cell? ⟨g,j*4+3,none⟩=some (.string d)):=hid (by have:=hcs 3 (by decide);rw[e2]at this;exact this)
   subst hg
   have c1:decide ((j:Int)<0)=false:=decide_eq_false (by omega)
   have c2:(0:Int)≤(j:Int):=by omega
   have c3:(j:Int)<(vn:Int):=by have:=HVN.out;omega
   have HFK:=hid hfk
   clear hfk e1 e2 hcs hj
   go_wp2_with fail
   refine HFI.mono ?_
   rintro e w6 ⟨rfl,hk6⟩
   have HK6:Hid (Same wc w6):=hid (HRW.out.2.1.trans hk6)
   have k3:=hk6.cell HC3.out (fun f=>f)
   clear HFI hk6 q0 q1 q2
   go_wp2_with fail
   go_ret2
   exact⟨by rw[HFK.out];rfl,r',by have h9:=HRA.out.1;rw[HOWN.out]at h9;exact h9,HRA.out.2.same HK6.out⟩

end Go.Proofs.YtcfociogljhbiaaGreatDoor

namespace Go.Proofs.YtcfociogljhbiaaGreatDoor
open Go.RowKit Go.Maps Go.Sort Go.Shelf Go.Lib

theorem rm_stage'{X B:Nat}{w w':World}{p:Nat}{R:Ri}(h:Rm X B w p R){i:Nat}{x:Ti}(hx:R.t.l[i]? = some x){s':Sq Wr}(ht:RmT (X+1) B w' {x with s:=s'})(hs:∀k,s'.v.ownBlock=some k→w.heap.size≤k)(hk:Kept (·=x.q) w w'):RmA (X+1) B w p R (R.put i {x with s:=s'}) w':=by
 obtain⟨hi,rfl⟩:=List.getElem?_eq_some_iff.1 hx
 exact rm_stage h hi ht hs hk

set_option maxRecDepth 100000 in
set_option maxHeartbeats 4000000 in
theorem rlist_good{X B:Nat}{w:World}{p:Nat}{R:Ri}(h:Rm X B w p R)(hX:X≤90000)(hB:B≤w.heap.size){i:Nat}(hi:i<R.t.l.length)(h1:∀j (hj:j<R.t.l.length),R.t.l[j].num=R.t.l[i].num→j=i)(ar:Nm)(hn:sho ar.s=true){y:Sq Et}(hy:R.s.l[R.t.l[i].snap]? = some y)(bx:Bx)(hbx:bx=⟨R.t.l[i].tn.s,ar.s,⟨R.t.l[i].tn.ok,ar.ok⟩⟩):Calls Tryz.prog 42 #[.pointer (some ⟨p,0,none⟩),.int .i64 R.t.l[i].num,.string ar.s] w fun e w'=>∃v,e=.returned (.tuple #[v,.int .i64 0])∧RowE w.heap.size 9 nmV w' v (lisE (allL R.t.l[i].s.l y.l) bx)∧∃b':Sq Bx,b'.l=R.t.l[i].b.l++[bx]∧RmA (X+1) B w p R (R.put i {R.t.l[i]with b:=b'}) w':=by
 have HO:=ropen_good h R.t.l[i].num hi rfl h1 ar.s ⟨#[]⟩ true (by unfold namR;rw[hn];rfl)
 have HM:=hid h
 have hti:=h.ti _ (List.getElem_mem hi)
 have HBB:=hid hB
 have HYL:Hid (y.l.length≤X):=hid (by
  obtain⟨hs,e⟩:=List.getElem?_eq_some_iff.1 hy
  have:=h.big.2.2.2.1 _ (List.getElem_mem hs)
  rw[e]at this
  exact this)
 have HY:=hid hy
 obtain⟨x,hx⟩:∃x,x=R.t.l[i]:=⟨_,rfl⟩
 rw[←hx]at HO hti HY hbx ⊢
 have HK:Hid (bx.tn=x.tn.s∧bx.ar=ar.s):=hid (by rw[hbx];exact⟨rfl,rfl⟩)
 have HXX:Hid (∃hi:i<R.t.l.length,x=R.t.l[i]):=hid ⟨hi,hx⟩
 have HT:Hid (∀w',Same w w'→RmT X B w' x):=hid (fun w' hk=>hti.kept hk (fun _ _ f=>f))
 have HSZ:Hid (X≤90000∧x.s.l.length≤X∧x.b.l.length≤X∧x.b.n=x.b.l.length):=hid ⟨hX,hti.big.1,hti.big.2.2.1,row_len hti.b⟩
 have HC:Hid (∀w',Same w w'→w'.cell? ⟨x.q,2,none⟩=some (.string bx.tn)∧w'.cell? ⟨x.q,5,none⟩=some (.slice x.b.a x.b.n x.b.c)∧w'.frozen? ⟨x.q,5,none⟩=false):=hid (fun w' hk'=>by
  have hb:=(hti.kept hk' (fun _ _ f=>f)).blk
  rw[HK.out.1]
  exact⟨hb.cell 2,hb.cell 5,hb.frozen 5⟩)
 have hka:ar.s=bx.ar:=HK.out.2.symm
 rw[hka]at HO ⊢
 clear h hX hB hi h1 hn hy hti hx hka hbx
 go_enter Tryz.func42,Tryz.ntmps42
 go_wp2_with fail
 refine HO.mono ?_
 rintro e w1 ⟨rfl,hk1⟩
 have HK1:=hid hk1
 obtain⟨c2,c4,z4⟩:=HC.out w1 hk1
 have c4a:=((Kept.refl (fun _=>False) w1).alloc (.cells #[.string bx.tn,.string bx.ar] 128)).cell c4 (fun f=>f)
 clear HO hk1 z4
 go_upto_region 5 with fail
 obtain⟨w3,hw3⟩:∃W,W=w1.alloc (.cells #[.string bx.tn,.string bx.ar] 128):=⟨_,rfl⟩
 obtain⟨kg,hkg⟩:∃g,g=w1.heap.size:=⟨_,rfl⟩
 have HKB:Hid (Blk w3 kg #[.string bx.tn,.string bx.ar] 128∧Same w w3∧w.heap.size≤kg):=hid (by rw[hw3,hkg];exact⟨Blk.new w1 _ _,HK1.out.trans ((Kept.refl _ _).alloc _),HK1.out.size⟩)
 rw[←hw3,←hkg]
 rw[←hw3]at c4a
 clear hw3 hkg c2 c4
 have q0:w3.cell? ⟨kg,0,none⟩=some (.string bx.tn):=HKB.out.1.cell 0
 have q1:w3.cell? ⟨kg,1,none⟩=some (.string bx.ar):=HKB.out.1.cell 1
 go_cut [34]from 27 to 36 (fun z wx=>Hid (∃b':Sq Bx,b'.l=x.b.l++[bx]∧RmA (X+1) B w p R (R.put i {x with b:=b'}) wx∧Blk wx kg #[.string bx.tn,.string bx.ar] 128))
 case first=>
  have HRR:Hid (RowC B 128 2 bx2V w3 (.slice x.b.a x.b.n x.b.c) x.b.l∧B≤w3.heap.size):=hid ⟨(HT.out w3 HKB.out.2.1).b,Nat.le_trans HBB.out HKB.out.2.1.size⟩
  have HZZ:Hid (∀w9,Kept (fun j=>(Value.slice x.b.a x.b.n x.b.c).ownBlock=some j) w3 w9→w9.frozen? ⟨x.q,5,none⟩=false∧w9.cell? ⟨x.q,5,none⟩=some (.slice x.b.a x.b.n x.b.c)):=hid (fun w9 hk9=>by
   have hb:=(HT.out w3 HKB.out.2.1).blk.kept hk9 (fun e=>(HT.out w3 HKB.out.2.1).b.offB (HT.out w3 HKB.out.2.1).blk (by decide) e)
   exact⟨hb.frozen 5,hb.cell 5⟩)
  have hs0:Same w3 w3:=Kept.refl _ _
  have hsA:Same w3 (w3.alloc (.cells #[.string bx.tn,.string bx.ar] 128)):=(Kept.refl _ _).alloc _
  have c4b:=hsA.cell c4a (fun f=>f)
  clear hsA
  go_region_law (first
   | (refine step_appendC bx2V 2 bx2_ok B 153 128 (.agg #[.string ⟨#[]⟩,.string ⟨#[]⟩]) 32 Tryz.underlying153 Tryz.infoBo14 rfl (by decide) (by rfl) (.tmp 31) (.tmp 33) (by rfl) (.slice x.b.a x.b.n x.b.c) x.b.l (by rfl) (HRR.out.1.kept (show Same w3 _ from by first | exact hs0.alloc _ | exact(hs0.drew).alloc _ | exact(hs0.alloc _).drew) (fun _ _ f=>f)) _ 1 1 [bx] (by rfl) (by rfl) (cellsAt_bo _ bx) (by have:=HSZ.out;simp;omega) (by have:=HRR.out.2;simp;omega) ?_;intro v9 w9 hr9 hg9 hb9;have hk9:Kept (fun j=>(Value.slice x.b.a x.b.n x.b.c).ownBlock=some j) w3 w9:=Kept.trans (F:=fun _=>False) (show Same w3 _ from by first | exact hs0.alloc _ | exact(hs0.drew).alloc _ | exact(hs0.alloc _).drew) ((Kept.refl _ _).grown hg9 (fun j e=>.inl e)) (fun _ _ f=>False.elim f) (fun _ _ e=>e);have hb9':∀j,v9.ownBlock=some j→(Value.slice x.b.a x.b.n x.b.c).ownBlock=some j∨w3.heap.size≤j:=(fun j e=>(hb9 j e).imp id (fun h=>by(try simp at h);omega));obtain⟨z9,d9⟩:=HZZ.out w9 hk9;obtain⟨a9,n9,q9,e9⟩:∃a n q,v9=Value.slice a n q:=(by obtain⟨a,q,e,_⟩:=hr9.shape;exact⟨a,_,q,e⟩);subst e9;clear hg9 hb9))
  all_goals
   have HF9:Hid (RmA (X+1) B w p R (R.put i {x with b:=⟨a9,n9,q9,x.b.l++[bx]⟩}) (w9.setCell ⟨x.q,5,none⟩ (.slice a9 n9 q9))∧Blk (w9.setCell ⟨x.q,5,none⟩ (.slice a9 n9 q9)) kg #[.string bx.tn,.string bx.ar] 128):=hid (by
    obtain⟨hi,hx⟩:=HXX.out
    have hm3:=HM.out.same HKB.out.2.1
    refine⟨?_,?_⟩
    ·subst hx
     exact RmA.pre HKB.out.2.1 (rm_noteB hm3 hi bx hr9 hk9 hb9')
    ·have hkb:Blk w9 kg #[.string bx.tn,.string bx.ar] 128:=HKB.out.1.kept hk9 (fun e=>by
      have h7:=(HT.out w (Kept.refl _ _)).b.lt (j:=kg) e
      have:=HKB.out.2.2
      omega)
     exact hkb.kept ((Kept.refl (·=x.q) w9).setCell _ _ (.inl rfl)) (fun e=>by
      have h7:=(HT.out w (Kept.refl _ _)).blk.lt
      have:=HKB.out.2.2
      omega))
   clear hr9 hk9 hb9'
   go_wp2_with fail
   go_meet
   exact hid ⟨⟨a9,n9,q9,x.b.l++[bx]⟩,rfl,by first | exact HF9.out.1 | exact HF9.out.1.same ((Kept.refl _ _).drew),by first | exact HF9.out.2 | exact HF9.out.2.kept (F:=fun _=>False) ((Kept.refl _ _).drew) (fun f=>f)⟩
 case rest=>
  have HQ:=hcut
  obtain⟨b',hb',hra,hkb⟩:=HQ.out
  have HRA:Hid (b'.l=x.b.l++[bx]∧RmA (X+1) B w p R (R.put i {x with b:=b'}) wc):=hid ⟨hb',hra⟩
  have HKW:=hid hkb
  have HSE:Hid (∀w',Same wc w'→Calls Tryz.prog 84 #[.pointer (some ⟨p,0,none⟩),.pointer (some ⟨x.q,0,none⟩)] w' fun e w2=>∃v,e=.returned v∧(∃aa nn cc,v=.slice aa nn cc)∧Same w' w2∧∀w3,Same w2 w3→Calls Tryz.prog 86 #[v,.agg #[.string bx.tn,.string bx.ar]] w3 fun e w4=>∃v2,e=.returned v2∧(∃aa nn cc,v2=.slice aa nn cc)∧RowE w.heap.size 9 nmV w4 v2 (lisE (allL x.s.l y.l) bx)∧Same w3 w4):=hid (fun w' hkw=>(rsees14 (HRA.out.2.rm.same hkw) (by have:=HSZ.out;omega) (Nat.le_trans HBB.out (Nat.le_trans HRA.out.2.kept.size hkw.size)) (x:={x with b:=b'}) (by obtain⟨hi,_⟩:=HXX.out;exact put_get R hi _) (y:=y) HY.out).mono (fun e w2 h9=>by
   obtain⟨v,rfl,hrow,hk2⟩:=h9
   obtain⟨aa,cc,hv,_⟩:=hrow.shape
   refine⟨v,rfl,⟨aa,_,cc,hv⟩,hk2,fun w3 hk3=>?_⟩
   subst hv
   refine(rlist14 w3 B aa _ cc _ (hrow.kept hk3 (fun _ _ f=>f)) (by have:=allL_len x.s.l y.l;have:=HSZ.out;have:=HYL.out;show(allL x.s.l y.l).length≤1000000;omega) bx).mono (fun e w4 h8=>?_)
   obtain⟨v2,rfl,hr2,hk4⟩:=h8
   obtain⟨a2,c2,hv2,_⟩:=hr2.shape
   exact⟨v2,rfl,⟨a2,_,c2,hv2⟩,hr2.base (Nat.le_trans HRA.out.2.kept.size (Nat.le_trans hkw.size (Nat.le_trans hk2.size hk3.size))),hk4⟩))
  have q0:wc.cell? ⟨kg,0,none⟩=some (.string bx.tn):=HKW.out.cell 0
  have q1:wc.cell? ⟨kg,1,none⟩=some (.string bx.ar):=HKW.out.cell 1
  clear hb' hra hkb HQ hcut c4a
  go_upto_region 6 with fail
  go_region_held3 (fun w'=>w'.cell? ⟨kg,0,none⟩=some (.string bx.tn)∧w'.cell? ⟨kg,1,none⟩=some (.string bx.ar))
   (first
    | (go_split_ands;exact⟨hkc.cell (by assumption) (fun f=>f),hkc.cell (by assumption) (fun f=>f)⟩)
    | go_keep)
   (first
    | (go_at_call 84;refine(HSE.out _ (by first | exact(Kept.refl _ _).drew | exact Kept.refl _ _)).mono ?_;rintro e wk ⟨vv,rfl,⟨aa,nn,cc,rfl⟩,hkc,hkw9⟩;have HKW9:=hid hkw9;clear hkw9;have HKK:Hid (Same wc wk):=hid (by first | exact Kept.undrewC hkc | exact hkc);have HKQ:Hid (Same wk wk):=hid (Kept.refl _ _))
    | (go_at_call 86;refine(HKW9.out _ (by first | exact HKQ.out | exact HKQ.out.drew)).mono ?_;rintro e wk ⟨v2,rfl,⟨aa2,nn2,cc2,rfl⟩,hr2,hkc⟩;have HR2:=hid hr2;clear hr2;have HKK:Hid (Same wc wk):=hid (by first | exact HKK.out.trans hkc | exact HKK.out.trans (Kept.undrewC hkc))))
  have HFI:Hid (∃b'':Sq Bx,b''.l=x.b.l++[bx]∧RmA (X+1) B w p R (R.put i {x with b:=b''}) wk):=hid ⟨b',HRA.out.1,HRA.out.2.same HKK.out⟩
  clear hkc q0 q1 HKK
  go_wp2_with fail
  go_ret2
  exact⟨_,rfl,HR2.out,HFI.out⟩

set_option maxRecDepth 100000 in
set_option maxHeartbeats 1000000 in
theorem rput_long{X B:Nat}{w:World}{p:Nat}{R:Ri}(h:Rm X B w p R){i:Nat}(hi:i<R.t.l.length)(h1:∀j (hj:j<R.t.l.length),R.t.l[j].num=R.t.l[i].num→j=i)(ar en:Nm)(hn:namR false ar.s en.s=true)(d:ByteArray)(hd:8192<d.size):Calls Tryz.prog 43 #[.pointer (some ⟨p,0,none⟩),.int .i64 R.t.l[i].num,.string ar.s,.string en.s,.string d] w fun e w'=>e=.returned (.int .i64 145)∧Same w w':=by
 have HO:=ropen_good h R.t.l[i].num hi rfl h1 ar.s en.s false hn
 have d1:decide ((8192:Int)<(d.size:Int))=true:=decide_eq_true (by omega)
 have d2:decide (8192<d.size)=true:=decide_eq_true hd
 obtain⟨x,hx⟩:∃x,x=R.t.l[i]:=⟨_,rfl⟩
 rw[←hx]at HO ⊢
 clear h hi h1 hn hd hx
 go_enter Tryz.func43,Tryz.ntmps43
 go_wp2_with fail
 refine HO.mono ?_
 rintro e w1 ⟨rfl,hk1⟩
 have HK1:=hid hk1
 clear HO hk1
 go_wp2_with fail
 go_ret
 exact⟨rfl,HK1.out⟩

set_option maxRecDepth 100000 in
set_option maxHeartbeats 1000000 in
theorem rput_good{X B:Nat}{w:World}{p:Nat}{R:Ri}(h:Rm X B w p R)(hX:X≤90000)(hB:B≤w.heap.size){i:Nat}(hi:i<R.t.l.length)(h1:∀j (hj:j<R.t.l.length),R.t.l[j].num=R.t.l[i].num→j=i)(ar en:Nm)(hn:namR false ar.s en.s=true)(d:ByteArray)(hd:¬8192<d.size)(r:Wr)(hr:r.b.tn=R.t.l[i].tn.s∧r.b.ar=ar.s∧r.n.s=en.s∧r.there=true∧r.data=d):Calls Tryz.prog 43 #[.pointer (some ⟨p,0,none⟩),.int .i64 R.t.l[i].num,.string ar.s,.string en.s,.string d] w fun e w'=>e=.returned (.int .i64 0)∧∃s':Sq Wr,s'.l=stgL r false R.t.l[i].s.l∧RmA (X+1) B w p R (R.put i {R.t.l[i]with s:=s'}) w':=by
 have HO:=ropen_good h R.t.l[i].num hi rfl h1 ar.s en.s false hn
 have d1:decide ((8192:Int)<(d.size:Int))=false:=decide_eq_false (by omega)
 have d2:decide (8192<d.size)=false:=decide_eq_false hd
 have hti:=h.ti _ (List.getElem_mem hi)
 have HM:=hid h
 obtain⟨x,hx⟩:∃x,x=R.t.l[i]:=⟨_,rfl⟩
 rw[←hx]at HO hti hr ⊢
 have HXX:Hid (R.t.l[i]? = some x):=hid (by rw[hx];exact List.getElem?_eq_getElem hi)
 have HST:Hid (∀w',Same w w'→Calls Tryz.prog 87 #[.pointer (some ⟨x.q,0,none⟩),.agg #[.string x.tn.s,.string ar.s,.string en.s,.bool true,.string d]] w' fun e w2=>e=.returned (.tuple #[])∧∃s':Sq Wr,s'.l=stgL r false x.s.l∧RmA (X+1) B w p R (R.put i {x with s:=s'}) w2):=hid (fun w' hk=>by
  have h9:=rstage14s (hti.kept hk (fun _ _ f=>f)) (by omega) (Nat.le_trans hB hk.size) r
  rw[hr.1,hr.2.1,hr.2.2.1,hr.2.2.2.1,hr.2.2.2.2]at h9
  refine h9.mono (fun e w2 h8=>?_)
  obtain⟨rfl,s',e1,e2,e3,e4⟩:=h8
  exact⟨rfl,s',e1,RmA.pre hk (rm_stage' (HM.out.same hk) HXX.out e2 e3 e4)⟩)
 have c2:∀w',Same w w'→w'.cell? ⟨x.q,2,none⟩=some (.string x.tn.s):=fun w' hk=>(hti.kept hk (fun _ _ f=>f)).blk.cell 2
 clear h hi h1 hn hd hx hX hB hti hr
 go_enter Tryz.func43,Tryz.ntmps43
 go_wp2_with fail
 refine HO.mono ?_
 rintro e w1 ⟨rfl,hk1⟩
 have HS:=HST.out w1 hk1
 have c3:=c2 w1 hk1
 clear HO hk1 c2
 go_wp2_with fail
 refine HS.mono ?_
 rintro e w2 ⟨rfl,hq⟩
 have HQ:=hid hq
 clear HS hq c3
 go_wp2_with fail
 go_ret
 exact⟨rfl,HQ.out⟩

set_option maxRecDepth 100000 in
set_option maxHeartbeats 1000000 in
theorem rdel_good{X B:Nat}{w:World}{p:Nat}{R:Ri}(h:Rm X B w p R)(hX:X≤90000)(hB:B≤w.heap.size){i:Nat}(hi:i<R.t.l.length)(h1:∀j (hj:j<R.t.l.length),R.t.l[j].num=R.t.l[i].num→j=i)(ar en:Nm)(hn:namR false ar.s en.s=true)(r:Wr)(hr:r.b.tn=R.t.l[i].tn.s∧r.b.ar=ar.s∧r.n.s=en.s∧r.there=false∧r.data=⟨#[]⟩):Calls Tryz.prog 45 #[.pointer (some ⟨p,0,none⟩),.int .i64 R.t.l[i].num,.string ar.s,.string en.s] w fun e w'=>e=.returned (.int .i64 0)∧∃s':Sq Wr,s'.l=stgL r false R.t.l[i].s.l∧RmA (X+1) B w p R (R.put i {R.t.l[i]with s:=s'}) w':=by
 have HO:=ropen_good h R.t.l[i].num hi rfl h1 ar.s en.s false hn
 have hti:=h.ti _ (List.getElem_mem hi)
 have HM:=hid h
 obtain⟨x,hx⟩:∃x,x=R.t.l[i]:=⟨_,rfl⟩
 rw[←hx]at HO hti hr ⊢
 have HXX:Hid (R.t.l[i]? = some x):=hid (by rw[hx];exact List.getElem?_eq_getElem hi)
 have HST:Hid (∀w',Same w w'→Calls Tryz.prog 87 #[.pointer (some ⟨x.q,0,none⟩),.agg #[.string x.tn.s,.string ar.s,.string en.s,.bool false,.string ⟨#[]⟩]] w' fun e w2=>e=.returned (.tuple #[])∧∃s':Sq Wr,s'.l=stgL r false x.s.l∧RmA (X+1) B w p R (R.put i {x with s:=s'}) w2):=hid (fun w' hk=>by
  have h9:=rstage14s (hti.kept hk (fun _ _ f=>f)) (by omega) (Nat.le_trans hB hk.size) r
  rw[hr.1,hr.2.1,hr.2.2.1,hr.2.2.2.1,hr.2.2.2.2]at h9
  refine h9.mono (fun e w2 h8=>?_)
  obtain⟨rfl,s',e1,e2,e3,e4⟩:=h8
  exact⟨rfl,s',e1,RmA.pre hk (rm_stage' (HM.out.same hk) HXX.out e2 e3 e4)⟩)
 have c2:∀w',Same w w'→w'.cell? ⟨x.q,2,none⟩=some (.string x.tn.s):=fun w' hk=>(hti.kept hk (fun _ _ f=>f)).blk.cell 2
 clear h hi h1 hn hx hX hB hti hr
 go_enter Tryz.func45,Tryz.ntmps45
 go_wp2_with fail
 refine HO.mono ?_
 rintro e w1 ⟨rfl,hk1⟩
 have HS:=HST.out w1 hk1
 have c3:=c2 w1 hk1
 clear HO hk1 c2
 go_wp2_with fail
 refine HS.mono ?_
 rintro e w2 ⟨rfl,hq⟩
 have HQ:=hid hq
 clear HS hq c3
 go_wp2_with fail
 go_ret
 exact⟨rfl,HQ.out⟩

end Go.Proofs.YtcfociogljhbiaaGreatDoor

namespace Go.Proofs.YtcfociogljhbiaaGreatDoor
open Go.RowKit Go.Maps Go.Sort Go.Shelf Go.Lib

def wasF(o:Option ByteArray):ByteArray:=match o with | some d=>d | none=>⟨#[]⟩

theorem put_put(R:Ri)(i:Nat)(x y:Ti):(R.put i x).put i y=R.put i y:=by
 unfold Ri.put
 simp only[List.set_set]

theorem put_at(R:Ri){i:Nat}(hi:i<R.t.l.length)(x:Ti):(R.put i x).t.l[i]? = some x:=List.getElem?_set_self hi

def AddA(X B:Nat)(w:World)(p:Nat)(R:Ri)(i:Nat)(x:Ti)(k:Ke)(was d:ByteArray)(rW:Wr)(e:Ending)(w':World):Prop:=
 (8192<was.size+d.size∧e=.returned (.int .i64 145)∧∃r':Sq Ke,r'.l=rdL x.s.l k x.r.l∧RmA (X+1+1) B w p R (R.put i {x with r:=r'}) w') ∨
 (was.size+d.size≤8192∧e=.returned (.int .i64 0)∧∃(r':Sq Ke) (s':Sq Wr),r'.l=rdL x.s.l k x.r.l∧s'.l=stgL rW false x.s.l∧RmA (X+1+1) B w p R (R.put i {x with r:=r',s:=s'}) w')

theorem RmA.more{X X' B:Nat}{w w':World}{p:Nat}{R R':Ri}(h:RmA X B w p R R' w')(hX:X≤X'):RmA X' B w p R R' w':=⟨h.rm.more hX,h.own,h.kept⟩

set_option maxRecDepth 100000 in
set_option maxHeartbeats 8000000 in
theorem radd_good{X B:Nat}{w:World}{p:Nat}{R:Ri}(h:Rm X B w p R)(hX:X≤80000)(hB:B≤w.heap.size){i:Nat}(hi:i<R.t.l.length)(h1:∀j (hj:j<R.t.l.length),R.t.l[j].num=R.t.l[i].num→j=i)(ar en:Nm)(hn:namR false ar.s en.s=true)(d:ByteArray){y:Sq Et}(hy:R.s.l[R.t.l[i].snap]? = some y){f:Vf}(hf:StE f (allL R.t.l[i].s.l y.l))(hbig:(wasF (f (kyT R.t.l[i].tn ar en))).size+d.size≤4611686018427387904)(rW:Wr)(hr:wasF (f (kyT R.t.l[i].tn ar en))=wasF (f (kyT R.t.l[i].tn ar en))∧((wasF (f (kyT R.t.l[i].tn ar en))).size+d.size≤8192→rW.b.tn=R.t.l[i].tn.s∧rW.b.ar=ar.s∧rW.n.s=en.s∧rW.there=true∧rW.data=wasF (f (kyT R.t.l[i].tn ar en))++d)):Calls Tryz.prog 44 #[.pointer (some ⟨p,0,none⟩),.int .i64 R.t.l[i].num,.string ar.s,.string en.s,.string d] w fun e w'=>AddA X B w p R i R.t.l[i] (kyT R.t.l[i].tn ar en) (wasF (f (kyT R.t.l[i].tn ar en))) d rW e w':=by
 have HO:=ropen_good h R.t.l[i].num hi rfl h1 ar.s en.s false hn
 have HM:=hid h
 have hti:=h.ti _ (List.getElem_mem hi)
 have HBB:=hid hB
 have HF:=hid hf
 have HYL:Hid (y.l.length≤X):=hid (by
  obtain⟨hs,e⟩:=List.getElem?_eq_some_iff.1 hy
  have:=h.big.2.2.2.1 _ (List.getElem_mem hs)
  rw[e]at this
  exact this)
 have HY:=hid hy
 obtain⟨x,hx⟩:∃x,x=R.t.l[i]:=⟨_,rfl⟩
 rw[←hx]at HO hti HF HY hbig hr ⊢
 obtain⟨k,hk⟩:∃k,k=kyT x.tn ar en:=⟨_,rfl⟩
 have HK:Hid (k.1.tn=x.tn.s∧k.1.ar=ar.s∧k.2.s=en.s):=hid (by rw[hk];exact⟨rfl,rfl,rfl⟩)
 rw[←hk]at hbig hr ⊢
 obtain⟨was,hwas⟩:∃z,z=wasF (f k):=⟨_,rfl⟩
 rw[←hwas]at hbig hr ⊢
 have HWAS:=hid hwas
 have HXX:Hid (∃hi:i<R.t.l.length,x=R.t.l[i]):=hid ⟨hi,hx⟩
 have HT:Hid (∀w',Same w w'→RmT X B w' x):=hid (fun w' hk=>hti.kept hk (fun _ _ f=>f))
 have HSZ:Hid (X≤80000∧x.s.l.length≤X∧x.r.l.length≤X∧x.r.n=x.r.l.length):=hid ⟨hX,hti.big.1,hti.big.2.1,row_len hti.r⟩
 have HC:Hid (∀w',Same w w'→w'.cell? ⟨x.q,2,none⟩=some (.string k.1.tn)∧w'.cell? ⟨x.q,4,none⟩=some (.slice x.r.a x.r.n x.r.c)∧w'.frozen? ⟨x.q,4,none⟩=false):=hid (fun w' hk'=>by
  have hb:=(hti.kept hk' (fun _ _ f=>f)).blk
  rw[HK.out.1]
  exact⟨hb.cell 2,hb.cell 4,hb.frozen 4⟩)
 have hka:ar.s=k.1.ar:=HK.out.2.1.symm
 have hke:en.s=k.2.s:=HK.out.2.2.symm
 have HRW:Hid (was.size+d.size≤8192→rW.b.tn=k.1.tn∧rW.b.ar=k.1.ar∧rW.n.s=k.2.s∧rW.there=true∧rW.data=was++d):=hid (fun hq=>by
  have h9:=hr.2 hq
  rw[HK.out.1,HK.out.2.1,HK.out.2.2]
  exact h9)
 have HBIG:=hid hbig
 rw[hka,hke]at HO ⊢
 clear h hX hB hi h1 hn hy hf hti hx hk hka hke hbig hr hwas
 go_enter Tryz.func44,Tryz.ntmps44
 go_wp2_with fail
 refine HO.mono ?_
 rintro e w1 ⟨rfl,hk1⟩
 have HK1:=hid hk1
 obtain⟨c2,c4,z4⟩:=HC.out w1 hk1
 clear HO hk1 c4 z4
 have HSEE:Hid (∀w',Same w w'→Calls Tryz.prog 84 #[.pointer (some ⟨p,0,none⟩),.pointer (some ⟨x.q,0,none⟩)] w' fun e w2=>∃va vc,e=.returned (.slice va (allL x.s.l y.l).length vc)∧RowC B 150 4 etE w2 (.slice va (allL x.s.l y.l).length vc) (allL x.s.l y.l)∧Same w' w2):=hid (fun w' hk'=>(rsees14 (HM.out.same hk') (by have:=HSZ.out;omega) (Nat.le_trans HBB.out hk'.size) (x:=x) (by obtain⟨hi,e⟩:=HXX.out;rw[e];exact List.getElem_mem hi) HY.out).mono (fun e w2 h9=>by
  obtain⟨v,rfl,hrow,hk2⟩:=h9
  obtain⟨aa,cc,hv,_⟩:=hrow.shape
  subst hv
  exact⟨aa,cc,rfl,hrow,hk2⟩))
 have HAL:Hid ((allL x.s.l y.l).length≤1000000):=hid (by have:=allL_len x.s.l y.l;have:=HSZ.out;have:=HYL.out;omega)
 obtain⟨vn,hvn⟩:∃n,n=(allL x.s.l y.l).length:=⟨_,rfl⟩
 rw[←hvn]at HSEE HAL
 have HVN:=hid hvn
 clear hvn
 obtain⟨w2,hw2⟩:∃W,W=w1.alloc (.cells #[.string k.1.tn,.string k.1.ar,.string k.2.s] 63):=⟨_,rfl⟩
 obtain⟨kg,hkg⟩:∃g,g=w1.heap.size:=⟨_,rfl⟩
 have HKB:Hid (Blk w2 kg #[.string k.1.tn,.string k.1.ar,.string k.2.s] 63∧Same w w2∧w.heap.size≤kg):=hid (by rw[hw2,hkg];exact⟨Blk.new w1 _ _,HK1.out.trans ((Kept.refl _ _).alloc _),HK1.out.size⟩)
 have HS2:=HSEE.out w2 HKB.out.2.1
 rw[hw2]at HS2
 go_wp2_with fail
 refine HS2.mono ?_
 rintro e w3 ⟨va,vc,rfl,hrow,hk3⟩
 rw[←hw2]at hk3
 rw[←hkg]
 have HRW3:=hid hrow
 have HK3:Hid (Same w w3∧Same w2 w3):=hid ⟨HKB.out.2.1.trans hk3,hk3⟩
 have HKC3:Hid (Blk w3 kg #[.string k.1.tn,.string k.1.ar,.string k.2.s] 63):=hid (HKB.out.1.kept hk3 (fun f=>f))
 have HFI:=rfind14 w3 B va vn vc (allL x.s.l y.l) hrow HAL.out k
 have q0:w3.cell? ⟨kg,0,none⟩=some (.string k.1.tn):=HKC3.out.cell 0
 have q1:w3.cell? ⟨kg,1,none⟩=some (.string k.1.ar):=HKC3.out.cell 1
 have q2:w3.cell? ⟨kg,2,none⟩=some (.string k.2.s):=HKC3.out.cell 2
 clear HS2 hrow hk3 hw2 hkg c2
 go_wp2_with fail
 refine HFI.mono ?_
 rintro e w4 ⟨rfl,hk4⟩
 have HK4:Hid (Same w3 w4):=hid hk4
 clear HFI hk4 q0 q1 q2
 obtain⟨fi,hfi⟩:∃z,z=fndE (allL x.s.l y.l) k:=⟨_,rfl⟩
 rw[←hfi]
 have HFE:=hid hfi
 clear hfi
 go_upto_if 42 with fail
 go_cut [16]from 41 to 47 (fun z wx=>z=.string was∧Hid (Same w3 wx))
 case first=>
  cases hfk:f k with
  | none=>
   have he:fi=-1:=by rw[HFE.out,fnd_none HF.out hfk]
   have hw0:was=⟨#[]⟩:=by rw[HWAS.out,hfk];rfl
   subst he
   clear hfk
   go_wp2_with fail
   go_meet
   exact⟨by rw[hw0],HK4⟩
  | some d0=>
   obtain⟨j,hj,e1,e2⟩:=fnd_some HF.out hfk
   have he:fi=(j:Nat):=by rw[HFE.out,e1]
   have hw0:was=d0:=by rw[HWAS.out,hfk];rfl
   subst he
   obtain⟨g,hg,hcs⟩:=row_k etE_ok (HRW3.out.kept HK4.out (fun _ _ f=>f)) j hj
   have k3:w4.cell? ⟨g,j*4+3,none⟩=some (.string d0):=by have:=hcs 3 (by decide);rw[e2]at this;exact this
   subst hg
   have c1:decide ((0:Int)≤(j:Int))=true:=decide_eq_true (by omega)
   have c2:(0:Int)≤(j:Int):=by omega
   have c3:(j:Int)<(vn:Int):=by have:=HVN.out;omega
   clear hfk e1 e2 hcs hj
   go_wp2_with fail
   go_meet
   exact⟨by rw[hw0],HK4⟩
 case rest=>
  obtain⟨rfl,HWC⟩:=hcut
  obtain⟨w5,hw5⟩:∃W,W=wc:=⟨_,rfl⟩
  have HK5:Hid (Same w w5∧Same w3 w5):=hid (by rw[hw5];exact⟨HK3.out.1.trans HWC.out,HWC.out⟩)
  rw[←hw5]
  clear hw5 HWC
  have HKC5:Hid (Blk w5 kg #[.string k.1.tn,.string k.1.ar,.string k.2.s] 63):=hid (HKC3.out.kept HK5.out.2 (fun f=>f))
  have HO2:=rown14 (HT.out w5 HK5.out.1) (by have:=HSZ.out;omega) k
  have q0:w5.cell? ⟨kg,0,none⟩=some (.string k.1.tn):=HKC5.out.cell 0
  have q1:w5.cell? ⟨kg,1,none⟩=some (.string k.1.ar):=HKC5.out.cell 1
  have q2:w5.cell? ⟨kg,2,none⟩=some (.string k.2.s):=HKC5.out.cell 2
  go_wp2_with fail
  refine HO2.mono ?_
  rintro e w6 ⟨rfl,hk6⟩
  have HK6:Hid (Same w w6∧Same w5 w6):=hid ⟨HK5.out.1.trans hk6,hk6⟩
  have HKC:Hid (Blk w6 kg #[.string k.1.tn,.string k.1.ar,.string k.2.s] 63):=hid (HKC5.out.kept hk6 (fun f=>f))
  clear HO2 hk6 q0 q1 q2
  obtain⟨ow,how⟩:∃z,z=ownL x.s.l k:=⟨_,rfl⟩
  rw[←how]
  have HOWN:Hid (ow=ownL x.s.l k):=hid how
  clear how
  go_upto_if 51 with fail
  go_cut [51]from 48 to 61 (fun z wx=>Hid (∃r':Sq Ke,r'.l=rdI ow k x.r.l∧RmA (X+1) B w p R (R.put i {x with r:=r'}) wx∧Blk wx kg #[.string k.1.tn,.string k.1.ar,.string k.2.s] 63))
  case first=>
   by_cases hneg:ow<0
   ·have d1:decide (ow<0)=true:=decide_eq_true hneg
    have HNG:=hid hneg
    obtain⟨c2,c4,z4⟩:=HC.out w6 HK6.out.1
    have q0:w6.cell? ⟨kg,0,none⟩=some (.string k.1.tn):=HKC.out.cell 0
    have q1:w6.cell? ⟨kg,1,none⟩=some (.string k.1.ar):=HKC.out.cell 1
    have q2:w6.cell? ⟨kg,2,none⟩=some (.string k.2.s):=HKC.out.cell 2
    have HRR:Hid (RowC B 63 3 ke3V w6 (.slice x.r.a x.r.n x.r.c) x.r.l∧B≤w6.heap.size):=hid ⟨(HT.out w6 HK6.out.1).r,Nat.le_trans HBB.out HK6.out.1.size⟩
    have HZZ:Hid (∀w9,Kept (fun j=>(Value.slice x.r.a x.r.n x.r.c).ownBlock=some j) w6 w9→w9.frozen? ⟨x.q,4,none⟩=false∧w9.cell? ⟨x.q,4,none⟩=some (.slice x.r.a x.r.n x.r.c)):=hid (fun w9 hk9=>by
     have hb:=(HT.out w6 HK6.out.1).blk.kept hk9 (fun e=>(HT.out w6 HK6.out.1).r.offB (HT.out w6 HK6.out.1).blk (by decide) e)
     exact⟨hb.frozen 4,hb.cell 4⟩)
    go_upto_region 11 with fail
    have hs0:Same w6 w6:=Kept.refl _ _
    have hsA:Same w6 (w6.alloc (.cells #[.string k.1.tn,.string k.1.ar,.string k.2.s] 63)):=(Kept.refl _ _).alloc _
    have c4a:=hsA.cell c4 (fun f=>f)
    clear hsA c2
    go_region_law (first
     | (refine step_appendC ke3V 3 ke3_ok B 152 63 (.agg #[.string ⟨#[]⟩,.string ⟨#[]⟩,.string ⟨#[]⟩]) 48 Tryz.underlying152 Tryz.infoKe14 rfl (by decide) (by rfl) (.tmp 56) (.tmp 58) (by rfl) (.slice x.r.a x.r.n x.r.c) x.r.l (by rfl) (HRR.out.1.kept (show Same w6 _ from by first | exact hs0.alloc _ | exact(hs0.drew).alloc _ | exact(hs0.alloc _).drew) (fun _ _ f=>f)) _ 1 1 [k] (by rfl) (by rfl) (cellsAt_ke _ k) (by have:=HSZ.out;simp;omega) (by have:=HRR.out.2;simp;omega) ?_;intro v9 w9 hr9 hg9 hb9;have hk9:Kept (fun j=>(Value.slice x.r.a x.r.n x.r.c).ownBlock=some j) w6 w9:=Kept.trans (F:=fun _=>False) (show Same w6 _ from by first | exact hs0.alloc _ | exact(hs0.drew).alloc _ | exact(hs0.alloc _).drew) ((Kept.refl _ _).grown hg9 (fun j e=>.inl e)) (fun _ _ f=>False.elim f) (fun _ _ e=>e);have hb9':∀j,v9.ownBlock=some j→(Value.slice x.r.a x.r.n x.r.c).ownBlock=some j∨w6.heap.size≤j:=(fun j e=>(hb9 j e).imp id (fun h=>by(try simp at h);omega));obtain⟨z9,d9⟩:=HZZ.out w9 hk9;obtain⟨a9,n9,q9,e9⟩:∃a n q,v9=Value.slice a n q:=(by obtain⟨a,q,e,_⟩:=hr9.shape;exact⟨a,_,q,e⟩);subst e9;clear hg9 hb9))
    all_goals
     have HF9:Hid (RmA (X+1) B w p R (R.put i {x with r:=⟨a9,n9,q9,x.r.l++[k]⟩}) (w9.setCell ⟨x.q,4,none⟩ (.slice a9 n9 q9))∧Blk (w9.setCell ⟨x.q,4,none⟩ (.slice a9 n9 q9)) kg #[.string k.1.tn,.string k.1.ar,.string k.2.s] 63):=hid (by
      obtain⟨hi,hx⟩:=HXX.out
      have hm3:=HM.out.same HK6.out.1
      refine⟨?_,?_⟩
      ·subst hx
       exact RmA.pre HK6.out.1 (rm_noteR hm3 hi k hr9 hk9 hb9')
      ·have hkb:Blk w9 kg #[.string k.1.tn,.string k.1.ar,.string k.2.s] 63:=HKC.out.kept hk9 (fun e=>by
        have h7:=(HT.out w (Kept.refl _ _)).r.lt (j:=kg) e
        have:=HKB.out.2.2
        omega)
       exact hkb.kept ((Kept.refl (·=x.q) w9).setCell _ _ (.inl rfl)) (fun e=>by
        have h7:=(HT.out w (Kept.refl _ _)).blk.lt
        have:=HKB.out.2.2
        omega))
     clear hr9 hk9 hb9'
     go_wp2_with fail
     go_meet
     exact hid ⟨⟨a9,n9,q9,x.r.l++[k]⟩,by unfold rdI;rw[if_pos HNG.out],by first | exact HF9.out.1 | exact HF9.out.1.same ((Kept.refl _ _).drew),by first | exact HF9.out.2 | exact HF9.out.2.kept (F:=fun _=>False) ((Kept.refl _ _).drew) (fun f=>f)⟩
   ·have d1:decide (ow<0)=false:=decide_eq_false hneg
    have HNG:=hid hneg
    go_wp2_with fail
    go_meet
    exact hid ⟨x.r,by unfold rdI;rw[if_neg (by have:=HNG.out;omega)],by
     obtain⟨hi,hx⟩:=HXX.out
     have e:R.put i {x with r:=x.r}=R:=by
      rw[hx]
      unfold Ri.put
      have e2:R.t.l.set i R.t.l[i]=R.t.l:=List.set_getElem_self hi
      show {R with t:={R.t with l:=R.t.l.set i R.t.l[i]}}=R
      rw[e2]
     rw[e]
     exact RmA.still HM.out (Nat.le_succ X) HK6.out.1,HKC.out⟩
  case rest=>
   have HQ:=hcut
   obtain⟨r',hr',hra,hkb⟩:=HQ.out
   have HRA:Hid (r'.l=rdL x.s.l k x.r.l∧RmA (X+1) B w p R (R.put i {x with r:=r'}) wc):=hid ⟨by rw[hr',HOWN.out];rfl,hra⟩
   have q0:wc.cell? ⟨kg,0,none⟩=some (.string k.1.tn):=hkb.cell 0
   have q1:wc.cell? ⟨kg,1,none⟩=some (.string k.1.ar):=hkb.cell 1
   have q2:wc.cell? ⟨kg,2,none⟩=some (.string k.2.s):=hkb.cell 2
   have iw:IntKind.i64.wrap ((was.size:Int)+(d.size:Int))=((was.size+d.size:Nat):Int):=by rw[IntKind.wrap_i64];have:=HBIG.out;omega
   clear hr' hra hkb HQ hcut
   by_cases hlen:8192<was.size+d.size
   ·have d1:decide ((8192:Int)<((was.size+d.size:Nat):Int))=true:=decide_eq_true (by omega)
    have d2:decide (8192<was.size+d.size)=true:=decide_eq_true hlen
    have HL:=hid hlen
    have b1:(8192:Int)<(was.size:Int)+(d.size:Int):=by omega
    clear hlen
    go_wp2_with fail
    go_ret
    exact .inl ⟨HL.out,rfl,r',HRA.out.1,HRA.out.2.more (Nat.le_succ _)⟩
   ·have d1:decide ((8192:Int)<((was.size+d.size:Nat):Int))=false:=decide_eq_false (by omega)
    have d2:decide (8192<was.size+d.size)=false:=decide_eq_false hlen
    have HL:Hid (was.size+d.size≤8192):=hid (by omega)
    have hz:(was++d).size≤maxLen:=by rw[ByteArray.size_append];unfold maxLen;omega
    have hz2:was.size+d.size≤maxLen:=by unfold maxLen;omega
    have hz3:¬maxLen<was.size+d.size:=by omega
    have b1:(was.size:Int)+(d.size:Int)≤8192:=by omega
    have HST:=rstage14s (t:={x with r:=r'}) (HRA.out.2.rm.ti _ (by obtain⟨hi,_⟩:=HXX.out;exact put_get R hi _)) (by have:=HSZ.out;omega) (Nat.le_trans HBB.out HRA.out.2.kept.size) rW
    obtain⟨g1,g2,g3,g4,g5⟩:=HRW.out HL.out
    rw[g1,g2,g3,g4,g5]at HST
    clear hlen g1 g2 g3 g4 g5
    go_wp2_with fail
    refine HST.mono ?_
    rintro e w9 ⟨rfl,s',e1,e2,e3,e4⟩
    have HFI:Hid (RmA (X+1+1) B w p R (R.put i {x with r:=r',s:=s'}) w9∧s'.l=stgL rW false x.s.l):=hid (by
     obtain⟨hi,_⟩:=HXX.out
     have h9:=rm_stage' HRA.out.2.rm (put_at R hi _) e2 e3 e4
     rw[put_put]at h9
     exact⟨HRA.out.2.trans h9,e1⟩)
    clear HST e1 e2 e3 e4 q0 q1 q2
    go_wp2_with fail
    go_ret
    exact .inr ⟨HL.out,rfl,r',s',HRA.out.1,HFI.out.2,HFI.out.1⟩

end Go.Proofs.YtcfociogljhbiaaGreatDoor

namespace Go.Proofs.YtcfociogljhbiaaGreatDoor
open Go.RowKit Go.Maps Go.Sort Go.Shelf Go.Lib

def Outs(R:Ri)(p k:Nat):Prop:=k=p∨R.s.v.ownBlock=some k∨R.w.v.ownBlock=some k∨R.t.v.ownBlock=some k

theorem blk_ne{w:World}{g q:Nat}{cs cs':Array Value}{t t':TypeId}(h:Blk w g cs t)(h':Blk w q cs' t')(ht:t≠t'):g≠q:=fun e=>by
 subst e
 unfold Blk at h h'
 rw[h]at h'
 injection h' with h'
 injection h' with _ h' _
 exact ht h'

theorem Rm.outs_row{X B:Nat}{w:World}{p:Nat}{R:Ri}(h:Rm X B w p R){α:Type}{t k:Nat}{en:α→List Value}{v:Value}{xs:List α}(hr:RowC B t k en w v xs)(h1:t≠103)(h2:t≠96)(h3:t≠57)(h4:t≠151):∀j,v.ownBlock=some j→¬Outs R p j:=fun j e q=>by
 rcases q with rfl | q | q | q
 ·exact hr.offB h.blk h1 e
 ·exact hr.offR h.rs h2 j e q
 ·exact hr.offR h.rw h3 j e q
 ·exact hr.offR h.rt h4 j e q

theorem Rm.outs_blk{X B:Nat}{w:World}{p:Nat}{R:Ri}(h:Rm X B w p R){g:Nat}{cs:Array Value}{t:TypeId}(hb:Blk w g cs t)(h1:t≠103)(h2:96≠t)(h3:57≠t)(h4:151≠t):¬Outs R p g:=fun q=>by
 rcases q with q | q | q | q
 ·exact blk_ne hb h.blk h1 q
 ·exact h.rs.offB hb h2 q
 ·exact h.rw.offB hb h3 q
 ·exact h.rt.offB hb h4 q

theorem Rm.outs_t{X B:Nat}{w w':World}{p:Nat}{R:Ri}(h:Rm X B w p R)(hk:Kept (Outs R p) w w'){x:Ti}(hx:x∈R.t.l):RmT X B w' x:=by
 have ht:=h.ti x hx
 refine ht.kept hk (fun k e=>?_)
 rcases e with rfl | e | e | e
 ·exact h.outs_blk ht.blk (by decide) (by decide) (by decide) (by decide)
 ·exact h.outs_row ht.s (by decide) (by decide) (by decide) (by decide) k e
 ·exact h.outs_row ht.r (by decide) (by decide) (by decide) (by decide) k e
 ·exact h.outs_row ht.b (by decide) (by decide) (by decide) (by decide) k e

theorem Outs.own{R:Ri}{p k:Nat}(h:Outs R p k):Rown R p k:=by
 rcases h with e | e | e | e
 ·exact .inl e
 ·exact .inr (.inl e)
 ·exact .inr (.inr (.inr (.inl e)))
 ·exact .inr (.inr (.inr (.inr (.inr (.inl e)))))

theorem rm_addT{X B:Nat}{w wA w9:World}{p:Nat}{R:Ri}(h:Rm X B w p R)(hB:B≤w.heap.size){x:Ti}(hs:Same w wA)(hq:Blk wA x.q x.cs 155)(hql:w.heap.size≤x.q)(hxs:x.s=⟨none,0,0,[]⟩∧x.r=⟨none,0,0,[]⟩∧x.b=⟨none,0,0,[]⟩)(hsn:x.snap≤X){a9:Option Addr}{n9 c9:Nat}(hr:RowC B 151 1 tiE w9 (.slice a9 n9 c9) (R.t.l++[x]))(hk:Kept (fun j=>R.t.v.ownBlock=some j) wA w9)(hb:∀j,(Value.slice a9 n9 c9).ownBlock=some j→R.t.v.ownBlock=some j∨wA.heap.size≤j)(hl:R.t.l.length<256):
  RmA X B w p R {R with t:=⟨a9,n9,c9,R.t.l++[x]⟩} (w9.setCell ⟨p,3,none⟩ (.slice a9 n9 c9)):=by
 have hA:=h.same hs
 have hb9:Blk w9 p #[.int .i64 R.first,R.s.v,R.w.v,R.t.v,.int .i64 R.nx] 103:=hA.blk.kept hk (fun e=>hA.rt.offB hA.blk (by decide) e)
 have hkp:Kept (·=p) w9 (w9.setCell ⟨p,3,none⟩ (.slice a9 n9 c9)):=(Kept.refl _ w9).setCell _ _ (.inl rfl)
 have hko:Kept (Outs R p) wA (w9.setCell ⟨p,3,none⟩ (.slice a9 n9 c9)):=Kept.trans hk hkp (fun _ _ e=>.inr (.inr (.inr e))) (fun _ _ e=>.inl e)
 have hb2:Blk (w9.setCell ⟨p,3,none⟩ (.slice a9 n9 c9)) p #[.int .i64 R.first,R.s.v,R.w.v,.slice a9 n9 c9,.int .i64 R.nx] 103:=by simpa using hb9.set 3 (.slice a9 n9 c9)
 have hrow:∀{α:Type} {t k:Nat} {en:α→List Value} {v:Value} {xs:List α},RowC B t k en wA v xs→t≠103→t≠151→RowC B t k en (w9.setCell ⟨p,3,none⟩ (.slice a9 n9 c9)) v xs:=fun hr' n1 n2=>(hr'.kept hk (fun j e q=>hr'.offR hA.rt n2 j e q)).kept hkp (fun j e q=>hr'.offB hA.blk n1 (by rw[←q];exact e))
 obtain⟨z1,z2,z3⟩:=hxs
 have hxq:RmT X B (w9.setCell ⟨p,3,none⟩ (.slice a9 n9 c9)) x:=by
  refine⟨(hq.kept hk (fun e=>hA.rt.offB hq (by decide) e)).kept hkp (fun e=>?_),by rw[z1];exact RowC.nil,by rw[z2];exact RowC.nil,by rw[z3];exact RowC.nil,Nat.le_trans hB hql,?_⟩
  ·have:=h.blk.lt;omega
  ·rw[z1,z2,z3];exact⟨Nat.zero_le _,Nat.zero_le _,Nat.zero_le _,hsn⟩
 refine⟨⟨hb2,hrow hA.rs (by decide) (by decide),fun y hy=>hrow (hA.ri y hy) (by decide) (by decide),hrow hA.rw (by decide) (by decide),fun y hy=>hrow (hA.wi y hy) (by decide) (by decide),hr.kept hkp (fun j e q=>hr.offB hb9 (by decide) (by rw[←q];exact e)),fun y hy=>?_,?_,h.low,?_⟩,fun k e=>?_,Kept.trans hs hko (fun _ _ f=>f.elim) (fun _ _ e=>e.own)⟩
 ·rcases List.mem_append.1 hy with e | e
  ·exact hA.outs_t hko e
  ·rw[List.mem_singleton.1 e];exact hxq
 ·refine List.pairwise_append.2 ⟨h.ap,List.pairwise_singleton _ _,fun y hy z hz=>?_⟩
  rw[List.mem_singleton.1 hz]
  refine⟨fun e=>?_,fun k e1 e2=>?_,fun k e1 e2=>?_⟩
  ·have:=(h.ti y hy).blk.lt;omega
  ·rw[z2]at e2;cases e2
  ·rw[z3]at e2;cases e2
 ·have:=h.big
  refine⟨this.1,this.2.1,?_,this.2.2.2.1,this.2.2.2.2⟩
  show(R.t.l++[x]).length≤256
  rw[List.length_append]
  simp
  omega
 ·rcases e with e | e | e | e | e | e | ⟨y,hy,e⟩
  ·exact .inl (.inl e)
  ·exact .inl (.inr (.inl e))
  ·exact .inl (.inr (.inr (.inl e)))
  ·exact .inl (.inr (.inr (.inr (.inl e))))
  ·exact .inl (.inr (.inr (.inr (.inr (.inl e)))))
  ·rcases hb k e with q | q
   ·exact .inl (.inr (.inr (.inr (.inr (.inr (.inl q))))))
   ·exact .inr (Nat.le_trans hs.size q)
  ·rcases List.mem_append.1 hy with q | q
   ·exact .inl (.inr (.inr (.inr (.inr (.inr (.inr ⟨y,q,e⟩))))))
   ·rw[List.mem_singleton.1 q,z1,z2,z3]at e
    rcases e with e | e | e | e
    ·exact .inr (by omega)
    ·cases e
    ·cases e
    ·cases e

theorem rm_nx{X B:Nat}{w:World}{p:Nat}{R:Ri}(h:Rm X B w p R)(z:Int):RmA X B w p R {R with nx:=z} (w.setCell ⟨p,4,none⟩ (.int .i64 z)):=by
 have hkp:Kept (·=p) w (w.setCell ⟨p,4,none⟩ (.int .i64 z)):=(Kept.refl _ w).setCell _ _ (.inl rfl)
 have hb2:Blk (w.setCell ⟨p,4,none⟩ (.int .i64 z)) p #[.int .i64 R.first,R.s.v,R.w.v,R.t.v,.int .i64 z] 103:=by simpa using h.blk.set 4 (.int .i64 z)
 have hrow:∀{α:Type} {t k:Nat} {en:α→List Value} {v:Value} {xs:List α},RowC B t k en w v xs→t≠103→RowC B t k en (w.setCell ⟨p,4,none⟩ (.int .i64 z)) v xs:=fun hr' n1=>hr'.kept hkp (fun j e q=>hr'.offB h.blk n1 (by rw[←q];exact e))
 have hko:Kept (Outs R p) w (w.setCell ⟨p,4,none⟩ (.int .i64 z)):=hkp.mono (fun _ _ e=>.inl e)
 exact⟨⟨hb2,hrow h.rs (by decide),fun y hy=>hrow (h.ri y hy) (by decide),hrow h.rw (by decide),fun y hy=>hrow (h.wi y hy) (by decide),hrow h.rt (by decide),fun y hy=>h.outs_t hko hy,h.ap,h.low,h.big⟩,fun k e=>.inl e,hkp.mono (fun _ _ e=>.inl e)⟩

set_option maxRecDepth 100000 in
set_option maxHeartbeats 1000000 in
theorem rbegin_bad{X B:Nat}{w:World}{p:Nat}{R:Ri}(_h:Rm X B w p R)(tn:Nm)(hs:sho tn.s=false):Calls Tryz.prog 40 #[.pointer (some ⟨p,0,none⟩),.string tn.s] w fun e w'=>e=.returned (.tuple #[.int .i64 0,.int .i64 143])∧Same w w':=by
 have HS:=short14r_any w tn.s
 rw[hs]at HS
 clear hs
 go_enter Tryz.func40,Tryz.ntmps40
 go_wp2_with fail
 refine HS.mono ?_
 rintro e w1 ⟨rfl,hk1⟩
 have HK1:=hid hk1
 clear HS hk1
 go_wp2_with fail
 go_ret2
 exact⟨rfl,HK1.out⟩

set_option maxRecDepth 100000 in
set_option maxHeartbeats 1000000 in
theorem rbegin_many{X B:Nat}{w:World}{p:Nat}{R:Ri}(h:Rm X B w p R)(tn:Nm)(hs:sho tn.s=true)(hl:256≤R.t.l.length):Calls Tryz.prog 40 #[.pointer (some ⟨p,0,none⟩),.string tn.s] w fun e w'=>e=.returned (.tuple #[.int .i64 0,.int .i64 141])∧Same w w':=by
 have HS:=short14r_any w tn.s
 rw[hs]at HS
 have hc:∀w',Same w w'→w'.cell? ⟨p,3,none⟩=some (.slice R.t.a R.t.n R.t.c):=fun w' hk=>(h.same hk).cell1.2.2.2.1
 have hn:R.t.n=R.t.l.length:=row_len h.rt
 obtain⟨n,hn2⟩:∃n,n=R.t.n:=⟨_,rfl⟩
 rw[←hn2]at hc
 have d1:decide ((256:Int)≤(n:Int))=true:=decide_eq_true (by omega)
 have d2:decide (256≤n)=true:=decide_eq_true (by omega)
 clear hs h hl hn hn2
 go_enter Tryz.func40,Tryz.ntmps40
 go_wp2_with fail
 refine HS.mono ?_
 rintro e w1 ⟨rfl,hk1⟩
 have HK1:=hid hk1
 have c3:=hc w1 hk1
 clear HS hk1 hc
 go_wp2_with fail
 go_ret2
 exact⟨rfl,HK1.out⟩

set_option maxRecDepth 100000 in
set_option maxHeartbeats 4000000 in
theorem rbegin_good{X B:Nat}{w:World}{p:Nat}{R:Ri}(h:Rm X B w p R)(hX:X≤90000)(hB:B≤w.heap.size)(tn:Nm)(hs:sho tn.s=true)(hl:R.t.l.length<256)(hnx:0≤R.nx∧R.nx≤1000000){m:Nat}(hm:R.s.l.length=m+1):Calls Tryz.prog 40 #[.pointer (some ⟨p,0,none⟩),.string tn.s] w fun e w'=>e=.returned (.tuple #[.int .i64 R.nx,.int .i64 0])∧∃(x:Ti) (t':Sq Ti),t'.l=R.t.l++[x]∧x.tx=⟨R.nx,m,tn,[],[],[]⟩∧RmA (X+1) B w p R {R with t:=t',nx:=R.nx+1} w':=by
 have HS:=short14r_any w tn.s
 rw[hs]at HS
 have HM:=hid h
 have HBB:=hid hB
 have hn:R.t.n=R.t.l.length:=row_len h.rt
 have hsn:R.s.n=R.s.l.length:=row_len h.rs
 obtain⟨n,hn2⟩:∃n,n=R.t.n:=⟨_,rfl⟩
 have HN:Hid (n=R.t.l.length∧R.t.l.length<256∧m≤X∧X≤90000):=hid ⟨by omega,hl,by have:=h.big;omega,hX⟩
 have HC:Hid (∀w',Same w w'→w'.cell? ⟨p,3,none⟩=some (.slice R.t.a n R.t.c)∧w'.cell? ⟨p,1,none⟩=some (.slice R.s.a (m+1) R.s.c)∧w'.cell? ⟨p,4,none⟩=some (.int .i64 R.nx)∧w'.frozen? ⟨p,3,none⟩=false):=hid (fun w' hk=>by
  have hc:=(h.same hk).cell1
  rw[hsn,hm]at hc
  rw[hn2]
  exact⟨hc.2.2.2.1,hc.2.1,hc.2.2.2.2,(h.same hk).blk.frozen 3⟩)
 have HNX:=hid hnx
 have d1:decide ((256:Int)≤(n:Int))=false:=decide_eq_false (by omega)
 have d2:decide (256≤n)=false:=decide_eq_false (by omega)
 clear hs h hl hn hn2 hX hB hsn hm hnx
 go_enter Tryz.func40,Tryz.ntmps40
 go_wp2_with fail
 refine HS.mono ?_
 rintro e w1 ⟨rfl,hk1⟩
 have HK1:=hid hk1
 obtain⟨c3,c1,c4,z3⟩:=HC.out w1 hk1
 have HM1:Hid (Rm X B w1 p R):=hid (HM.out.same hk1)
 clear HS hk1
 have i0:((m+1:Nat):Int)-1=(m:Int):=by omega
 have i1:IntKind.i64.wrap (m:Int)=(m:Int):=by rw[IntKind.wrap_i64];have:=HN.out;omega
 have i3:(m:Int)+1-1=(m:Int):=by omega
 have HT1:Hid (RowC B 151 1 tiE w1 (.slice R.t.a n R.t.c) R.t.l∧B≤w1.heap.size):=hid ⟨by have:=HM1.out.rt;have h9:=row_len this;rw[HN.out.1,←h9];exact this,Nat.le_trans HBB.out HK1.out.size⟩
 obtain⟨xn,hxn⟩:∃z,z=w1.heap.size:=⟨_,rfl⟩
 obtain⟨X0,hX0⟩:∃x:Ti,x=⟨w1.heap.size,R.nx,m,tn,⟨none,0,0,[]⟩,⟨none,0,0,[]⟩,⟨none,0,0,[]⟩⟩:=⟨_,rfl⟩
 have HTV:Hid (R.t.v=.slice R.t.a n R.t.c):=hid (by rw[HN.out.1,←row_len HM1.out.rt];rfl)
 have HCT:Hid (∀W:World,CellsAt (W.alloc (.cells #[.pointer (some ⟨w1.heap.size,0,none⟩)] 151)) ⟨W.heap.size,0,none⟩ ([X0].flatMap tiE)):=hid (fun W=>by rw[hX0];exact cellsAt_new _ _ _)
 have HX0:=hid hX0
 have HCT2:Hid (CellsAt ((w1.alloc (.cells #[.int .i64 R.nx,.int .i64 (m:Nat),.string tn.s,.slice none 0 0,.slice none 0 0,.slice none 0 0] 155)).alloc (.cells #[.pointer (some ⟨w1.heap.size,0,none⟩)] 151)) ⟨w1.heap.size+1,0,none⟩ ([X0].flatMap tiE)):=hid (by
  have h9:=HCT.out (w1.alloc (.cells #[.int .i64 R.nx,.int .i64 (m:Nat),.string tn.s,.slice none 0 0,.slice none 0 0,.slice none 0 0] 155))
  rw[World.size_alloc]at h9
  exact h9)
 have HQB:Hid (∀W,Same (w1.alloc (.cells #[.int .i64 R.nx,.int .i64 (m:Nat),.string tn.s,.slice none 0 0,.slice none 0 0,.slice none 0 0] 155)) W→Blk W X0.q X0.cs 155):=hid (fun W hW=>by
  rw[hX0]
  exact(Blk.new w1 _ _).kept hW (fun f=>f))
 have HZZ:Hid (∀wA w9,Same w1 wA→Kept (fun j=>(Value.slice R.t.a n R.t.c).ownBlock=some j) wA w9→w9.frozen? ⟨p,3,none⟩=false∧w9.cell? ⟨p,3,none⟩=some (.slice R.t.a n R.t.c)):=hid (fun wA w9 hkA hk9=>by
  have hmA:=HM1.out.same hkA
  have hb:=hmA.blk.kept hk9 (fun e=>hmA.rt.offB hmA.blk (by decide) (by rw[HTV.out];exact e))
  exact⟨hb.frozen 3,by have:=hb.cell 3;rw[HTV.out]at this;exact this⟩)
 clear hxn hX0
 go_upto_region 5 with fail
 go_cut [34]from 15 to 36 (fun z wx=>Hid (∃t':Sq Ti,t'.l=R.t.l++[X0]∧RmA X B w1 p R {R with t:=t'} wx))
 case first=>
  have hs0:Same w1 w1:=Kept.refl _ _
  have hsA:Same w1 (w1.alloc (.cells #[.int .i64 R.nx,.int .i64 (m:Nat),.string tn.s,.slice none 0 0,.slice none 0 0,.slice none 0 0] 155)):=(Kept.refl _ _).alloc _
  have c3a:=hsA.cell c3 (fun f=>f)
  have c1a:=hsA.cell c1 (fun f=>f)
  have c4a:=hsA.cell c4 (fun f=>f)
  have hsB:Same w1 ((w1.alloc (.cells #[.int .i64 R.nx,.int .i64 (m:Nat),.string tn.s,.slice none 0 0,.slice none 0 0,.slice none 0 0] 155)).alloc (.cells #[.pointer (some ⟨w1.heap.size,0,none⟩)] 151)):=((Kept.refl _ _).alloc _).alloc _
  have c3b:=hsB.cell c3 (fun f=>f)
  clear hsB
  go_region_law (first
   | (refine step_appendC tiE 1 tiE_ok B 101 151 (.pointer none) 8 Tryz.underlying101 Tryz.infoTp14 rfl (by decide) (by rfl) (.tmp 19) (.tmp 33) (by rfl) (.slice R.t.a n R.t.c) R.t.l (by rfl) (HT1.out.1.kept (show Same w1 _ from by first | exact(hs0.alloc _).alloc _ | exact((hs0.drew).alloc _).alloc _ | exact((hs0.alloc _).alloc _).drew | exact((hs0.alloc _).drew).alloc _) (fun _ _ f=>f)) _ 1 1 [X0] (by rfl) (by rfl) (by first | exact HCT2.out | exact HCT.out _) (by have:=HN.out;simp;omega) (by have:=HT1.out.2;simp;omega) ?_;intro v9 w9 hr9 hg9 hb9;have hk9:=(show Kept (fun j=>(Value.slice R.t.a n R.t.c).ownBlock=some j) _ w9 from(Kept.refl _ _).grown hg9 (fun j e=>.inl e));obtain⟨z9,d9⟩:=HZZ.out _ w9 (by first | exact(hs0.alloc _).alloc _ | exact((hs0.drew).alloc _).alloc _ | exact((hs0.alloc _).alloc _).drew | exact((hs0.alloc _).drew).alloc _) hk9;obtain⟨a9,n9,q9,e9⟩:∃a n q,v9=Value.slice a n q:=(by obtain⟨a,q,e,_⟩:=hr9.shape;exact⟨a,_,q,e⟩);subst e9;clear hg9))
  all_goals
   rw[←HTV.out]at hk9 hb9
   have HF9:Hid (RmA X B w1 p R {R with t:=⟨a9,n9,q9,R.t.l++[X0]⟩} (w9.setCell ⟨p,3,none⟩ (.slice a9 n9 q9))):=hid (by
    refine rm_addT HM1.out HT1.out.2 (x:=X0) (wA:=_) (by first | exact(hs0.alloc _).alloc _ | exact((hs0.drew).alloc _).alloc _ | exact((hs0.alloc _).alloc _).drew | exact((hs0.alloc _).drew).alloc _) (HQB.out _ (by first | exact(Kept.refl _ _).alloc _ | exact((Kept.refl _ _).drew).alloc _ | exact((Kept.refl _ _).alloc _).drew)) (by rw[HX0.out];exact Nat.le_refl _) (by rw[HX0.out];exact⟨rfl,rfl,rfl⟩) (by rw[HX0.out];exact HN.out.2.2.1) hr9 hk9 hb9 HN.out.2.1)
   clear hr9 hk9 hb9
   go_wp2_with fail
   go_meet
   exact hid ⟨⟨a9,n9,q9,R.t.l++[X0]⟩,rfl,by first | exact HF9.out | exact HF9.out.same ((Kept.refl _ _).drew)⟩
 case rest=>
  have HQ:=hcut
  obtain⟨t',ht',hra⟩:=HQ.out
  have HRA:Hid (t'.l=R.t.l++[X0]∧RmA X B w1 p R {R with t:=t'} wc):=hid ⟨ht',hra⟩
  have c4:wc.cell? ⟨p,4,none⟩=some (.int .i64 R.nx):=hra.rm.cell1.2.2.2.2
  have z4:wc.frozen? ⟨p,4,none⟩=false:=hra.rm.blk.frozen 4
  have iw:IntKind.i64.wrap (R.nx+1)=R.nx+1:=by rw[IntKind.wrap_i64];have:=HNX.out;omega
  have iw2:IntKind.i64.wrap (R.nx+1-1)=R.nx:=by rw[IntKind.wrap_i64];have:=HNX.out;omega
  have iw3:R.nx+1-1=R.nx:=by omega
  have iw4:IntKind.i64.wrap R.nx=R.nx:=by rw[IntKind.wrap_i64];have:=HNX.out;omega
  clear ht' hra HQ hcut c1 c3 z3
  go_wp2_with fail
  go_ret2
  exact⟨rfl,X0,t',HRA.out.1,by rw[HX0.out];rfl,RmA.pre HK1.out ((HRA.out.2.trans (rm_nx HRA.out.2.rm (R.nx+1))).more (Nat.le_succ _))⟩

end Go.Proofs.YtcfociogljhbiaaGreatDoor

namespace Go.Proofs.YtcfociogljhbiaaGreatDoor
open Go.RowKit Go.Maps Go.Sort Go.Shelf Go.Lib

def tnC(As:List Ad)(tn:ByteArray)(i:Nat):Nat:=(As.take i).countP (fun x=>decide (x.b.tn=tn))

theorem tnC_succ(As:List Ad)(tn:ByteArray)(i:Nat)(hi:i<As.length):tnC As tn (i+1)=tnC As tn i+(if As[i].b.tn=tn then 1 else 0):=by
 unfold tnC
 rw[List.take_succ_eq_append_getElem hi,List.countP_append,List.countP_cons,List.countP_nil]
 by_cases e:As[i].b.tn=tn<;>simp[e]

def smN(As:List Ad)(i:Nat):Nat:=match i with | 0=>0 | i+1=>match As[i]? with | some x=>tnC As x.b.tn (i+1) | none=>0

theorem smN_at(As:List Ad)(i:Nat)(hi:i<As.length):smN As (i+1)=tnC As As[i].b.tn (i+1):=by
 show(match As[i]? with | some x=>tnC As x.b.tn (i+1) | none=>0)=_
 rw[List.getElem?_eq_getElem hi]

theorem smN_le(As:List Ad)(i:Nat):smN As i≤As.length:=by
 unfold smN
 split
 ·exact Nat.zero_le _
 ·split
  ·unfold tnC
   exact Nat.le_trans List.countP_le_length (by rw[List.length_take];omega)
  ·exact Nat.zero_le _

theorem smN_first(As:List Ad)(h0:0<As.length):smN As 1=1:=by
 rw[smN_at As 0 h0,tnC_succ As _ 0 h0,if_pos rfl]
 unfold tnC
 simp

theorem smN_same(As:List Ad)(i:Nat)(hi:i+1<As.length)(h:As[i].b.tn=As[i+1].b.tn):smN As (i+2)=smN As (i+1)+1:=by
 rw[smN_at As (i+1) hi,smN_at As i (by omega),tnC_succ As _ (i+1) hi,if_pos rfl,h]

theorem smN_new(As:List Ad)(hp:As.Pairwise (fun x y=>ltB x.b y.b))(i:Nat)(hi:i+1<As.length)(h:As[i].b.tn≠As[i+1].b.tn):smN As (i+2)=1:=by
 rw[smN_at As (i+1) hi,tnC_succ As _ (i+1) hi,if_pos rfl]
 have hz:tnC As As[i+1].b.tn (i+1)=0:=by
  unfold tnC
  rw[List.countP_eq_zero]
  intro x hx
  obtain⟨j,hj,rfl⟩:=List.getElem_of_mem hx
  rw[List.length_take]at hj
  rw[List.getElem_take]
  have hpg:=List.pairwise_iff_getElem.1 hp
  have h1:tnB As[i].b<tnB As[i+1].b:=by
   rcases hpg i (i+1) (by omega) hi (by omega)with q | ⟨q,_⟩
   ·exact q
   ·exact absurd (bytesC_inj14 q) h
  have h2:tnB As[j].b<tnB As[i+1].b:=by
   by_cases e:j=i
   ·subst e;exact h1
   ·rcases hpg j i (by omega) (by omega) (by omega)with q | ⟨q,_⟩
    ·exact List.lt_trans q h1
    ·rw[q];exact h1
  intro q
  have q:As[j].b.tn=As[i+1].b.tn:=by simpa using q
  unfold tnB at h2
  rw[q]at h2
  exact List.lt_irrefl _ h2
 rw[hz]

set_option maxRecDepth 100000 in
set_option maxHeartbeats 2000000 in
theorem rfits14(w:World)(N:Nat)(a:Option Addr)(kl kc:Nat)(es:List Et)(f:Vf)(h:RowC N 150 4 etE w (.slice a kl kc) es)(hn:kl≤90000)(hf:StE f es):Calls Tryz.prog 91 #[.slice a kl kc] w fun e w'=>∃b D,e=.returned (.bool b)∧IsDm (fun b n=>f (b,n)) D∧(b=true↔FitD D)∧Same w w':=by
 have HD:=rdump14 w N a kl kc es f h hn hf
 clear h hn hf
 go_enter Tryz.func91,Tryz.ntmps91
 go_wp2_with fail
 refine HD.mono ?_
 rintro e w1 ⟨v,As,rfl,hat,hdm,hl1,hl2,hk1⟩
 obtain⟨da,dc,hv,hag,_⟩:=hat.row.shape
 obtain⟨n,hn⟩:∃n,n=As.length:=⟨_,rfl⟩
 rw[←hn]at hv
 subst hv
 have HA:Hid (DmAt w.heap.size w1 (.slice da n dc) As∧IsDm (fun b n=>f (b,n)) (adD As)∧n=As.length∧n≤100000∧(As≠[]→∃g,da=some ⟨g,0,none⟩)∧Same w w1):=hid ⟨hat,hdm,hn,by omega,hag,hk1⟩
 have HP:Hid (As.Pairwise (fun x y=>ltB x.b y.b)):=hid (by
  have:=hdm.ris
  unfold adD at this
  rw[List.pairwise_map]at this
  exact this)
 clear HD hat hdm hl1 hl2 hk1 hag hn
 go_wp2_with fail
 go_loopg [4,5] n (fun q z4 z5 wr=>∃i:Nat,z4=.int .i64 (smN As i:Nat)∧z5=.int .i64 (i:Nat)∧i≤n∧n-i≤q∧Hid ((∀tn,tnC As tn i≤16)∧(∀x∈As.take i,x.es.length≤64)∧Same w1 wr))
 case atStart=>exact⟨0,rfl,rfl,by omega,by omega,hid ⟨fun tn=>by unfold tnC;simp,fun x hx=>(by simp at hx),Kept.refl _ _⟩⟩
 case round=>
  obtain⟨i,rfl,rfl,hi,hiq,HI⟩:=hrel
  by_cases hlt:i<n
  ·have f1:decide ((i:Int)<(n:Int))=true:=by simp;omega
   have f2:decide (i<n)=true:=by simp;omega
   have hix:i<As.length:=by rw[←HA.out.2.2.1];exact hlt
   obtain⟨g,hg⟩:=HA.out.2.2.2.2.1 (fun e=>by rw[e]at hix;simp at hix)
   subst hg
   obtain⟨x,hx⟩:∃x,x=As[i]:=⟨_,rfl⟩
   have HXC:Hid (∀w',Same w1 w'→w'.cell? ⟨g,i*3,none⟩=some (.string x.b.tn)∧w'.cell? ⟨g,i*3+2,none⟩=some (.slice x.a x.n x.c)):=hid (fun w' hk=>by
    have hr:=HA.out.1.row.kept hk (fun _ _ f=>f)
    rw[hx]
    exact⟨RowC.cell adE_ok hr i 0 hix (by decide),RowC.cell adE_ok hr i 2 hix (by decide)⟩)
   have HXN:Hid (x.n=x.es.length∧x=As[i]∧i<As.length):=hid ⟨by rw[hx];exact row_len (HA.out.1.ent _ (List.getElem_mem hix)),hx,hix⟩
   obtain⟨sm,hsm⟩:∃z,z=smN As i:=⟨_,rfl⟩
   have HSM:Hid (sm=smN As i∧sm≤100000):=hid ⟨hsm,by rw[hsm];have:=smN_le As i;have:=HA.out.2.2;omega⟩
   rw[←hsm]
   have c1:(0:Int)≤(i:Int):=by omega
   have c2:(i:Int)<(n:Int):=by omega
   have hiw:IntKind.i64.wrap ((i:Int)+1)=((i+1:Nat):Int):=by rw[IntKind.wrap_i64];have:=HA.out.2.2;omega
   have hsw:IntKind.i64.wrap ((sm:Int)+1)=((sm+1:Nat):Int):=by rw[IntKind.wrap_i64];have:=HSM.out;omega
   have HLT:=hid hlt
   obtain⟨k0,k2⟩:=HXC.out wr HI.out.2.2
   clear hlt hx hsm
   go_upto_region 7 with fail
   go_cut [31]from 8 to 42 (fun z wx=>∃nw:Bool,z=.bool nw∧Hid (smN As (i+1)=(if nw=true then 1 else sm+1)∧Same wr wx))
   case first=>
    by_cases h0:i=0
    ·have g1:decide ((0:Int)<(i:Int))=false:=decide_eq_false (by omega)
     have g2:decide (0<i)=false:=decide_eq_false (by omega)
     have HE:Hid (smN As (i+1)=sm+1):=hid (by
      rw[HSM.out.1,h0,smN_first As (by have:=HXN.out.2.2;omega)]
      rfl)
     clear h0
     go_wp2_with fail
     go_quiet (fail)
     go_wp2_with fail
     go_meet
     exact⟨false,rfl,hid ⟨by rw[HE.out];rfl,(Kept.refl _ _).drewN _⟩⟩
    ·obtain⟨m,hm⟩:∃m,i=m+1:=⟨i-1,by omega⟩
     have g1:decide ((0:Int)<(i:Int))=true:=decide_eq_true (by omega)
     have g2:decide (0<i)=true:=decide_eq_true (by omega)
     have hmA:m<As.length:=by have:=HXN.out.2.2;omega
     obtain⟨y,hy⟩:∃y,y=As[m]:=⟨_,rfl⟩
     have y0:wr.cell? ⟨g,m*3,none⟩=some (.string y.b.tn):=by
      have hr:=HA.out.1.row.kept HI.out.2.2 (fun _ _ f=>f)
      rw[hy]
      exact RowC.cell adE_ok hr m 0 hmA (by decide)
     have iw0:(i:Int)-1=(m:Int):=by omega
     have iw:IntKind.i64.wrap (m:Int)=(m:Int):=by have:=HA.out.2.2;rw[IntKind.wrap_i64];omega
     have ib:(m:Int)<(n:Int):=by omega
     have ib0:(0:Int)≤(m:Int):=by omega
     have s1:=streq14 y.b.tn x.b.tn
     obtain⟨d1,e1⟩:∃q,q=decide (y.b.tn=x.b.tn):=⟨_,rfl⟩
     have HNB:Hid (smN As (i+1)=(if (!d1)=true then 1 else sm+1)):=hid (by
      have hxi:x=As[m+1]'(by have:=HXN.out.2.2;omega):=by have h9:=HXN.out.2.1;subst hm;exact h9
      rw[HSM.out.1,e1,hm]
      by_cases e:y.b.tn=x.b.tn
      ·rw[smN_same As m (by have:=HXN.out.2.2;omega) (by rw[←hy,←hxi];exact e)]
       simp[e]
      ·rw[smN_new As HP.out m (by have:=HXN.out.2.2;omega) (by rw[←hy,←hxi];exact e)]
       simp[e])
     rw[←e1]at s1
     clear e1 hy h0 hm
     cases d1
     all_goals
      go_wp2_with fail
      go_quiet (fail)
      go_wp2_with fail
      go_meet
      exact⟨_,rfl,hid ⟨HNB.out,(Kept.refl _ _).drewN _⟩⟩
   case rest=>
    obtain⟨nw,rfl,HX⟩:=hcut
    clear k0 k2
    have HW:Hid (Same w1 wc):=hid (HI.out.2.2.trans HX.out.2)
    go_upto_if 31 with fail
    go_cut [4]from 8 to 42 (fun z wx=>z=.int .i64 (smN As (i+1):Nat)∧Hid (Same w1 wx))
    case first=>
     cases nw with
     | true=>
      have HE:Hid (smN As (i+1)=1):=hid (by rw[HX.out.1];rfl)
      go_wp2_with fail
      go_meet
      exact⟨by rw[HE.out];rfl,HW⟩
     | false=>
      have HE:Hid (smN As (i+1)=sm+1):=hid (by rw[HX.out.1];rfl)
      go_wp2_with fail
      go_meet
      exact⟨by rw[HE.out];go_num,HW⟩
    case rest=>
     obtain⟨rfl,HW2⟩:=hcut
     obtain⟨s2,hs2⟩:∃z,z=smN As (i+1):=⟨_,rfl⟩
     have HS2:Hid (s2=tnC As x.b.tn (i+1)):=hid (by
      rw[hs2,smN_at As i HXN.out.2.2]
      have h9:=HXN.out.2.1
      rw[←h9])
     rw[←hs2]
     obtain⟨k0,k2⟩:=HXC.out wc HW2.out
     obtain⟨xn,hxn⟩:∃z,z=x.n:=⟨_,rfl⟩
     rw[←hxn]at k2
     have HXE:Hid (xn=x.es.length):=hid (by rw[hxn];exact HXN.out.1)
     have HNOT:Hid (16<s2∨64<xn→¬FitD (adD As)):=hid (fun hq hfit=>by
      rcases hq with q | q
      ·have h1:=hfit.2 x.b.tn
       rw[←List.countP_eq_length_filter]at h1
       unfold adD at h1
       rw[List.countP_map]at h1
       have h2:tnC As x.b.tn (i+1)≤As.countP (fun y=>decide (y.b.tn=x.b.tn)):=List.Sublist.countP_le (List.take_sublist _ _)
       have h3:=HS2.out
       have h4:As.countP ((fun y:Bx×List Ent=>decide (y.1.tn=x.b.tn)) ∘ fun y=>(y.b,y.es))=As.countP (fun y=>decide (y.b.tn=x.b.tn)):=rfl
       rw[h4]at h1
       omega
      ·have h1:=hfit.1 (x.b,x.es) (by unfold adD;exact List.mem_map.2 ⟨x,by rw[HXN.out.2.1];exact List.getElem_mem _,rfl⟩)
       have:=HXE.out
       simp only at h1
       omega)
     clear hs2 hxn
     by_cases q1:16<s2
     ·have d1:decide ((16:Int)<(s2:Int))=true:=decide_eq_true (by omega)
      have d2:decide (16<s2)=true:=decide_eq_true q1
      have HNF:=hid (HNOT.out (.inl q1))
      clear q1
      go_wp2_with fail
      go_ret
      exact⟨false,_,rfl,HA.out.2.1,by simp[HNF.out],HA.out.2.2.2.2.2.trans HW2.out⟩
     ·have d1:decide ((16:Int)<(s2:Int))=false:=decide_eq_false (by omega)
      have d2:decide (16<s2)=false:=decide_eq_false q1
      by_cases q2:64<xn
      ·have d3:decide ((64:Int)<(xn:Int))=true:=decide_eq_true (by omega)
       have d4:decide (64<xn)=true:=decide_eq_true q2
       have HNF:=hid (HNOT.out (.inr q2))
       clear q1 q2
       go_wp2_with fail
       go_ret
       exact⟨false,_,rfl,HA.out.2.1,by simp[HNF.out],HA.out.2.2.2.2.2.trans HW2.out⟩
      ·have d3:decide ((64:Int)<(xn:Int))=false:=decide_eq_false (by omega)
       have d4:decide (64<xn)=false:=decide_eq_false q2
       have HOK:Hid ((∀tn,tnC As tn (i+1)≤16)∧(∀y∈As.take (i+1),y.es.length≤64)):=hid ⟨fun tn=>by
        rw[tnC_succ As tn i HXN.out.2.2]
        by_cases e:As[i].b.tn=tn
        ·have h1:=HS2.out
         have h9:=HXN.out.2.1
         have h8:x.b.tn=tn:=by rw[h9];exact e
         rw[h8,tnC_succ As tn i HXN.out.2.2,if_pos e]at h1
         rw[if_pos e]
         omega
        ·rw[if_neg e]
         have:=HI.out.1 tn
         omega,fun y hy=>by
        rw[List.take_succ_eq_append_getElem HXN.out.2.2]at hy
        rcases List.mem_append.1 hy with e | e
        ·exact HI.out.2.1 y e
        ·rw[List.mem_singleton.1 e,←HXN.out.2.1,←HXE.out]
         omega⟩
       have HSS:Hid (s2=smN As (i+1)):=hid (by
        rw[HS2.out,smN_at As i HXN.out.2.2]
        have h9:=HXN.out.2.1
        rw[←h9])
       clear q1 q2
       go_wp2_with fail
       go_roundg (gk-1)
       case measure=>have:=HLT.out;omega
       case rel=>exact⟨i+1,by rw[←HSS.out],by go_num,HLT.out,by omega,hid ⟨HOK.out.1,HOK.out.2,HW2.out⟩⟩
  ·have f1:decide ((i:Int)<(n:Int))=false:=by simp;omega
   have f2:decide (i<n)=false:=by simp;omega
   have HF:Hid (FitD (adD As)):=hid (by
    have hti:As.take i=As:=List.take_of_length_le (by have:=HA.out.2.2;omega)
    refine⟨fun x hx=>?_,fun tn=>?_⟩
    ·unfold adD at hx
     obtain⟨y,hy,rfl⟩:=List.mem_map.1 hx
     exact HI.out.2.1 y (by rw[hti];exact hy)
    ·have h1:=HI.out.1 tn
     unfold tnC at h1
     rw[hti]at h1
     rw[←List.countP_eq_length_filter]
     unfold adD
     rw[List.countP_map]
     exact h1)
   clear hlt
   go_wp2_with fail
   go_ret
   exact⟨true,_,rfl,HA.out.2.1,by simp[HF.out],HA.out.2.2.2.2.2.trans HI.out.2.2⟩

end Go.Proofs.YtcfociogljhbiaaGreatDoor

namespace Go.Proofs.YtcfociogljhbiaaGreatDoor
open Go.RowKit Go.Maps Go.Sort Go.Shelf Go.Lib

def RckA(w:World)(P:Rs14)(f:Vf)(n:Int)(e:Ending)(w':World):Prop:=Same w w'∧∃(t:Int) (a:Option Addr) (m cap:Nat) (er:Int) (xs:List Wr),e=.returned (.tuple #[.agg #[.int .i64 t,.slice a m cap],.int .i64 er])∧RckT P f n t er xs∧RowC w.heap.size 65 5 wrE w' (.slice a m cap) xs

theorem rcka_none{w w1 w':World}{P:Rs14}{f:Vf}{n:Int}{er:Int}{xb:Nat}(hk:Same w w1)(hx:w.heap.size≤xb)(hk2:Kept (·=xb) w1 w')(hr:RckT P f n 0 er []):RckA w P f n (.returned (.tuple #[.agg #[.int .i64 0,.slice none 0 0],.int .i64 er])) w':=
 ⟨hk.then hk2 (fun x hx2 e=>by omega),0,none,0,0,er,[],rfl,hr,RowC.nil⟩

set_option maxRecDepth 100000 in
set_option maxHeartbeats 1000000 in
theorem rcheck_none{X B:Nat}{w:World}{p:Nat}{R:Ri}(h:Rm X B w p R)(num:Int)(f:Vf)(hno:∀x∈R.t.l,x.num≠num):Calls Tryz.prog 46 #[.pointer (some ⟨p,0,none⟩),.int .i64 num] w fun e w'=>RckA w R.abs f num e w':=by
 have HR:Hid (RckT R.abs f num 0 140 []):=hid (.inl ⟨fun x hx=>by
  obtain⟨y,hy,rfl⟩:=List.mem_map.1 hx
  exact hno y hy,rfl,rfl,rfl⟩)
 have HM:=hid h
 have HNO:=hid hno
 clear h hno
 go_enter Tryz.func46,Tryz.ntmps46
 go_wp2_with (with_reducible refine at_alloc 59 4 ?_;refine wpl_alloc 59 _ Tryz.zeroCm ?_;intro w1 xb hB1 hk1 hg1 hl1;have HB1:=hid hB1;have HK1:=hid hk1;clear hB1 hk1)
 have HF:=rat14 (HM.out.same HK1.out) num
 rw[atI_none HNO.out]at HF
 refine HF.mono ?_
 rintro e w2 ⟨rfl,hw2⟩
 have hw9:=hw2.symm
 subst hw9
 clear HF
 go_wp2_with (with_reducible refine at_store 59 4 ?_;refine wpl_store 59 2 Tryz.sizeCm rfl (cells:=[.int .i64 0,.slice none 0 0]) rfl HB1.out rfl rfl (by simp[Value.oneCell']) ?_;intro w4 hB4 hk4 hs4;have HB4:=hid hB4;have HK4:=hid hk4;clear hB4 hk4)
 refine bodyPost_ret (v:=.tuple #[.agg #[.int .i64 0,.slice none 0 0],.int .i64 140]) (by rw[results_14b (p:=4) (b:=5) (ty:=59) rfl _ _ _ _ _ ⟨xb,0,none⟩ _ rfl (loadC14 HB4.out)];rfl) rfl ?_
 exact rcka_none HK1.out hg1 HK4.out HR.out

set_option maxRecDepth 100000 in
set_option maxHeartbeats 4000000 in
theorem rcheck_some{X B:Nat}{w:World}{p:Nat}{R:Ri}(h:Rm X B w p R)(hX:X≤40000)(hB:B≤w.heap.size){i:Nat}{x:Ti}(hx:R.t.l[i]? = some x)(h1:∀j (hj:j<R.t.l.length),R.t.l[j].num=x.num→j=i)(hsn:x.snap≤R.w.l.length){m:Nat}{last:Sq Et}(hlast:R.s.l[m]? = some last)(hm:R.s.l.length=m+1){f:Vf}(hf:StE f last.l)(hfi:0≤R.first∧R.first≤1000000000):Calls Tryz.prog 46 #[.pointer (some ⟨p,0,none⟩),.int .i64 x.num] w fun e w'=>RckA w R.abs f x.num e w':=by
 have HM:=hid h
 have HBB:=hid hB
 have HF:=hid hf
 have HFI:=hid hfi
 obtain⟨hi,hxe⟩:=List.getElem?_eq_some_iff.1 hx
 have hmem:x∈R.t.l:=List.mem_of_getElem? hx
 have HAI:Hid (∀w',Same w w'→Calls Tryz.prog 88 #[.pointer (some ⟨p,0,none⟩),.int .i64 x.num] w' fun e w2=>e=.returned (.int .i64 (i:Nat))∧w2=w'):=hid (fun w' hk=>by
  have h9:=rat14 (h.same hk) x.num
  rw[atI_some hi (by rw[hxe]) h1]at h9
  exact h9)
 have HTN:Hid (∀w',Same w w'→w'.cell? ⟨p,3,none⟩=some (.slice R.t.a R.t.l.length R.t.c)∧∃g,R.t.a=some ⟨g,0,none⟩∧w'.cell? ⟨g,i,none⟩=some (.pointer (some ⟨x.q,0,none⟩))):=hid (fun w' hk=>⟨by rw[←row_len (h.same hk).rt];exact(h.same hk).cell1.2.2.2.1,by
  have h9:=(h.same hk).txn i hi
  rw[hxe]at h9
  exact h9⟩)
 have HLS:Hid (R.s.l[m]? = some last∧R.s.l.length=m+1∧last.l.length≤X):=hid ⟨hlast,hm,by
  obtain⟨hs,e⟩:=List.getElem?_eq_some_iff.1 hlast
  have:=h.big.2.2.2.1 _ (List.getElem_mem hs)
  rw[e]at this
  exact this⟩
 have HXM:Hid (x∈R.t.l∧x.snap≤R.w.l.length∧X≤40000):=hid ⟨hmem,hsn,hX⟩
 have HT:Hid (∀w',Same w w'→RmT X B w' x):=hid (fun w' hk=>(h.same hk).ti x hmem)
 have HXB:Hid (x.s.l.length≤X):=hid (h.ti x hmem).big.1
 obtain⟨sn,hsn2⟩:∃n,n=x.s.l.length:=⟨_,rfl⟩
 have HSN:=hid hsn2
 have HC3:Hid (∀w',Same w w'→w'.cell? ⟨x.q,3,none⟩=some (.slice x.s.a sn x.s.c)∧RowC B 65 5 wrE w' (.slice x.s.a sn x.s.c) x.s.l):=hid (fun w' hk=>by
  have ht:=(h.same hk).ti x hmem
  have h9:x.s.n=x.s.l.length:=row_len ht.s
  rw[hsn2,←h9]
  exact⟨ht.blk.cell 3,ht.s⟩)
 obtain⟨tn,htn⟩:∃n,n=R.t.l.length:=⟨_,rfl⟩
 rw[←htn]at HTN
 have c0:decide ((i:Int)<0)=false:=decide_eq_false (by omega)
 have c1:(0:Int)≤(i:Int):=by omega
 have c2:(i:Int)<(tn:Int):=by omega
 have HR:Hid (∀t er xs,((x.s.l=[]∧er=0∧t=0∧xs=[])∨(x.s.l≠[]∧ConR R.abs x.tx∧er=142∧t=0∧xs=[])∨(x.s.l≠[]∧¬ConR R.abs x.tx∧∃D,IsDm (fun b n=>upsW x.s.l f (b,n)) D∧((¬FitD D∧er=145∧t=0∧xs=[])∨(FitD D∧er=0∧t=R.first+((m+1:Nat):Int)∧xs=x.s.l))))→RckT R.abs f x.num t er xs):=hid (fun t er xs hc=>.inr ⟨x.tx,List.mem_map.2 ⟨x,hmem,rfl⟩,rfl,by
  have e:(R.abs.ss.length:Int)=((m+1:Nat):Int):=by
   show((R.s.l.map (·.l)).length:Int)=_
   rw[List.length_map,hm]
  rw[show R.abs.first=R.first from rfl,e]
  exact hc⟩)
 clear h hX hB hi h1 hsn hlast hm hf hfi hx hxe hmem hsn2 htn
 go_enter Tryz.func46,Tryz.ntmps46
 go_wp2_with (with_reducible refine at_alloc 59 4 ?_;refine wpl_alloc 59 _ Tryz.zeroCm ?_;intro w1 xb hB1 hk1 hg1 hl1;have HB1:=hid hB1;have HK1:=hid hk1;clear hB1 hk1)
 refine(HAI.out w1 HK1.out).mono ?_
 rintro e w2 ⟨rfl,hw2⟩
 have hw9:=hw2.symm
 subst hw9
 obtain⟨k3,g,hg,k4⟩:=HTN.out w1 HK1.out
 rw[hg]at k3
 obtain⟨k5,_⟩:=HC3.out w1 HK1.out
 clear hg
 rcases Nat.eq_zero_or_pos sn with hs0 | hs0
 ·subst hs0
  have HE:Hid (x.s.l=[]):=hid (List.eq_nil_of_length_eq_zero HSN.out.symm)
  go_wp2_with (with_reducible refine at_store 59 4 ?_;refine wpl_store 59 2 Tryz.sizeCm rfl (cells:=[.int .i64 0,.slice none 0 0]) rfl HB1.out rfl rfl (by simp[Value.oneCell']) ?_;intro w4 hB4 hk4 hs4;have HB4:=hid hB4;have HK4:=hid hk4;clear hB4 hk4)
  refine bodyPost_ret (v:=.tuple #[.agg #[.int .i64 0,.slice none 0 0],.int .i64 0]) (by rw[results_14b (p:=4) (b:=5) (ty:=59) rfl _ _ _ _ _ ⟨xb,0,none⟩ _ rfl (loadC14 HB4.out)];rfl) rfl ?_
  exact rcka_none HK1.out hg1 HK4.out (HR.out _ _ _ (.inl ⟨HE.out,rfl,rfl,rfl⟩))
 ·have HE:Hid (x.s.l≠[]):=hid (fun e=>by have:=HSN.out;rw[e]at this;simp at this;omega)
  have HCN:=rconf14 (HM.out.same HK1.out) (by have:=HXM.out.2.2;omega) HXM.out.1 HXM.out.2.1
  have b0:((sn:Int)==0)=false:=by simp;omega
  have b1:¬sn=0:=by omega
  go_wp2_with fail
  refine HCN.mono ?_
  rintro e w3 ⟨cb,rfl,hcb,hk3⟩
  have HCB:=hid hcb
  have HK3:=hid (HK1.out.trans hk3)
  have HB3:=hid (HB1.out.kept hk3 (fun f=>f))
  clear hk3 HCN k3 k4 k5 hcb
  cases cb with
  | true=>
   have HCR:Hid (ConR R.abs x.tx):=hid (HCB.out.1 rfl)
   go_wp2_with (with_reducible refine at_store 59 4 ?_;refine wpl_store 59 2 Tryz.sizeCm rfl (cells:=[.int .i64 0,.slice none 0 0]) rfl HB3.out rfl rfl (by simp[Value.oneCell']) ?_;intro w4 hB4 hk4 hs4;have HB4:=hid hB4;have HK4:=hid hk4;clear hB4 hk4)
   refine bodyPost_ret (v:=.tuple #[.agg #[.int .i64 0,.slice none 0 0],.int .i64 142]) (by rw[results_14b (p:=4) (b:=5) (ty:=59) rfl _ _ _ _ _ ⟨xb,0,none⟩ _ rfl (loadC14 HB4.out)];rfl) rfl ?_
   exact rcka_none HK3.out hg1 HK4.out (HR.out _ _ _ (.inr (.inl ⟨HE.out,HCR.out,rfl,rfl,rfl⟩)))
  | false=>
   have HCR:Hid (¬ConR R.abs x.tx):=hid (fun q=>by have:=HCB.out.2 q;cases this)
   have HLV:Hid (∃hs:m<R.s.l.length,R.s.l[m]=last):=hid (List.getElem?_eq_some_iff.1 HLS.out.1)
   have HST:Hid (∀w',Same w3 w'→Calls Tryz.prog 53 #[.pointer (some ⟨p,0,none⟩)] w' fun e w2=>∃aa nn cc,e=.returned (.slice aa nn cc)∧Same w' w2∧∀w4,Same w2 w4→Calls Tryz.prog 90 #[.slice aa nn cc,.slice x.s.a sn x.s.c] w4 fun e w5=>∃a6 n6 c6,e=.returned (.slice a6 n6 c6)∧Same w4 w5∧∀w6,Same w5 w6→Calls Tryz.prog 91 #[.slice a6 n6 c6] w6 fun e w7=>∃bb D,e=.returned (.bool bb)∧IsDm (fun b n=>upsW x.s.l f (b,n)) D∧(bb=true↔FitD D)∧Same w6 w7):=hid (fun w' hk'=>by
    have hw0:Same w w':=HK3.out.trans hk'
    have hm':=HM.out.same hw0
    refine(rstate14 hm' (by have:=HXM.out.2.2;omega) m HLS.out.2.1).mono (fun e w2 h9=>?_)
    obtain⟨rfl,hk2⟩:=h9
    obtain⟨hs,hl⟩:=HLV.out
    refine⟨last.a,last.n,last.c,by rw[hl];rfl,hk2,fun w4 hk4=>?_⟩
    have hw4:Same w w4:=(hw0.trans hk2).trans hk4
    have hm4:=HM.out.same hw4
    have hrl:RowC B 150 4 etE w4 (.slice last.a last.n last.c) last.l:=by have:=hm4.ri _ (List.getElem_mem hs);rw[hl]at this;exact this
    have hrw:=(HC3.out w4 hw4).2
    refine(rall14 w4 B last.a last.n last.c last.l hrl (Nat.le_trans HBB.out hw4.size) x.s.a sn x.s.c x.s.l ((SrcC.ofRow wrE_ok hrw).mono (fun j e=>hrw.lt e)) (by have:=HLS.out;have:=HXB.out;have:=HXM.out.2.2;omega)).mono (fun e w5 h8=>?_)
    obtain⟨v,rfl,hr5,hk5⟩:=h8
    obtain⟨a6,c6,hv6,_⟩:=hr5.shape
    subst hv6
    refine⟨a6,_,c6,rfl,hk5,fun w6 hk6=>?_⟩
    exact rfits14 w6 B a6 _ c6 _ _ (hr5.kept hk6 (fun _ _ f=>f)) (by have:=allL_len x.s.l last.l;have:=HLS.out;have:=HXB.out;have:=HXM.out.2.2;omega) (HF.out.all x.s.l))
   obtain⟨k5,_⟩:=HC3.out w3 HK3.out
   go_upto_region 9 with fail
   go_cut [41]from 33 to 41 (fun z wx=>∃bb,z=.bool (!bb)∧Hid (∃D,IsDm (fun b n=>upsW x.s.l f (b,n)) D∧(bb=true↔FitD D)∧Same w3 wx))
   case first=>
    go_region_held3 (fun w'=>w'.cell? ⟨x.q,3,none⟩=some (.slice x.s.a sn x.s.c))
     (first
      | (exact hkc.cell (by assumption) (fun f=>f))
      | go_keep)
     (first
      | (go_at_call 53;refine(HST.out _ (by first | exact(Kept.refl _ _).drew | exact Kept.refl _ _)).mono ?_;rintro e wk ⟨aa,nn,cc,rfl,hkc,hcon⟩;have HCON:=hid hcon;clear hcon;have HKK:Hid (Same w3 wk):=hid (by first | exact Kept.undrewC hkc | exact hkc);have HQQ:Hid (Same wk wk):=hid (Kept.refl _ _))
      | (go_at_call 90;refine(HCON.out _ (by first | exact HQQ.out | exact HQQ.out.drew)).mono ?_;rintro e wk ⟨a6,n6,c6,rfl,hkc,hcon⟩;have HCON2:=hid hcon;clear hcon;have HKK:Hid (Same w3 wk):=hid (by first | exact HKK.out.trans hkc | exact HKK.out.trans (Kept.undrewC hkc));have HQ2:Hid (Same wk wk):=hid (Kept.refl _ _))
      | (go_at_call 91;refine(HCON2.out _ (by first | exact HQ2.out | exact HQ2.out.drew)).mono ?_;rintro e wk ⟨bb,D,rfl,hdm,hfd,hkc⟩;have HDM:=hid hdm;have HFD:=hid hfd;clear hdm hfd;have HKK:Hid (Same w3 wk):=hid (by first | exact HKK.out.trans hkc | exact HKK.out.trans (Kept.undrewC hkc))))
    go_wp2_with fail
    go_meet
    exact⟨bb,rfl,hid ⟨D,HDM.out,HFD.out,HKK.out⟩⟩
   case rest=>
    obtain⟨bb,rfl,HD⟩:=hcut
    obtain⟨w5,hw5⟩:∃W,W=wc:=⟨_,rfl⟩
    rw[←hw5]at HD ⊢
    clear hw5 k5
    have HK5:Hid (Same w w5):=hid (by obtain⟨_,_,_,q⟩:=HD.out;exact HK3.out.trans q)
    have HB5:Hid (Blk w5 xb #[.int .i64 0,.slice none 0 0] 59):=hid (by obtain⟨_,_,_,q⟩:=HD.out;exact HB3.out.kept q (fun f=>f))
    cases bb with
    | false=>
     have HFN:Hid (∃D,IsDm (fun b n=>upsW x.s.l f (b,n)) D∧¬FitD D):=hid (by obtain⟨D,d1,d2,_⟩:=HD.out;exact⟨D,d1,fun q=>by have:=d2.2 q;cases this⟩)
     go_wp2_with (with_reducible refine at_store 59 4 ?_;refine wpl_store 59 2 Tryz.sizeCm rfl (cells:=[.int .i64 0,.slice none 0 0]) rfl HB5.out rfl rfl (by simp[Value.oneCell']) ?_;intro w4 hB4 hk4 hs4;have HB4:=hid hB4;have HK4:=hid hk4;clear hB4 hk4)
     refine bodyPost_ret (v:=.tuple #[.agg #[.int .i64 0,.slice none 0 0],.int .i64 145]) (by rw[results_14b (p:=4) (b:=5) (ty:=59) rfl _ _ _ _ _ ⟨xb,0,none⟩ _ rfl (loadC14 HB4.out)];rfl) rfl ?_
     exact rcka_none HK5.out hg1 HK4.out (HR.out _ _ _ (.inr (.inr ⟨HE.out,HCR.out,by obtain⟨D,d1,d2⟩:=HFN.out;exact⟨D,d1,.inl ⟨d2,rfl,rfl,rfl⟩⟩⟩)))
    | true=>
     have HFY:Hid (∃D,IsDm (fun b n=>upsW x.s.l f (b,n)) D∧FitD D):=hid (by obtain⟨D,d1,d2,_⟩:=HD.out;exact⟨D,d1,d2.1 rfl⟩)
     have HNW:=rnow14 (HM.out.same HK5.out) (by have:=HXM.out.2.2;omega) HFI.out
     rw[HLS.out.2.1]at HNW
     obtain⟨nw,hnw⟩:∃z,z=R.first+((m+1:Nat):Int)-1:=⟨_,rfl⟩
     rw[←hnw]at HNW
     have HML:Hid (m≤40000):=hid (by have:=HM.out.big;have:=HLS.out.2.1;have:=HXM.out.2.2;omega)
     have hw1:IntKind.i64.wrap (nw+1)=nw+1:=by have:=HFI.out;have:=HML.out;rw[IntKind.wrap_i64];omega
     have HNE:Hid (nw+1=R.first+((m+1:Nat):Int)):=hid (by omega)
     clear hnw
     go_wp2_with fail
     refine HNW.mono ?_
     rintro e w6 ⟨rfl,hk6⟩
     have HK6:=hid (HK5.out.trans hk6)
     have HB6:=hid (HB5.out.kept hk6 (fun f=>f))
     clear HNW hk6
     go_wp2_with (first
      | (with_reducible refine at_alloc 59 8 ?_;refine wpl_alloc 59 _ Tryz.zeroCm ?_;intro w7 cb hB7 hk7 hg7 hl7;have HB7:=hid hB7;have HK7:=hid hk7;have HG7:=hid hg7;clear hB7 hk7 hg7 hl7)
      | (with_reducible refine at_store 59 8 ?_;refine wpl_store 59 2 Tryz.sizeCm rfl (cells:=[.int .i64 (nw+1),.slice none 0 0]) rfl HB7.out rfl rfl (by simp[Value.oneCell']) ?_;intro w8 hB8 hk8 hs8;have HB8:=hid hB8;have HK8:=hid hk8;clear hB8 hk8 hs8))
     have HW8:Hid (Same w w8∧Blk w8 xb #[.int .i64 0,.slice none 0 0] 59∧w.heap.size≤cb∧xb≠cb):=hid ⟨(HK6.out.trans HK7.out).then HK8.out (fun k hk e=>by have h9:=HG7.out;have:=HK6.out.size;omega),(HB6.out.kept HK7.out (fun f=>f)).kept HK8.out (fun e=>by have h9:=HG7.out;have:=HB6.out.lt;omega),Nat.le_trans HK6.out.size HG7.out,fun e=>by have h9:=HG7.out;have:=HB6.out.lt;omega⟩
     have hc8:=HC3.out w8 HW8.out.1
     obtain⟨sg,hsg⟩:∃g,x.s.a=some ⟨g,0,none⟩:=by
      obtain⟨_,_,e,hg,_⟩:=hc8.2.shape
      injection e with e1 _ _
      obtain⟨g,q⟩:=hg HE.out
      exact⟨g,e1.trans q⟩
     have k5:=hc8.1
     have HRW8:Hid (RowC B 65 5 wrE w8 (.slice (some ⟨sg,0,none⟩) sn x.s.c) x.s.l):=hid (by rw[←hsg];exact hc8.2)
     rw[hsg]at k5
     have y1:w8.cell? ⟨cb,1,none⟩=some (.slice none 0 0):=HB8.out.cell 1
     have z1:w8.frozen? ⟨cb,1,none⟩=false:=HB8.out.frozen 1
     clear hc8 hsg
     go_upto_region 12 with fail
     go_simp
     go_cut [53]from 47 to 54 (fun z wx=>Hid (∃a9 n9 q9,Blk wx cb #[.int .i64 (nw+1),.slice a9 n9 q9] 59∧RowC w8.heap.size 65 5 wrE wx (.slice a9 n9 q9) x.s.l∧Kept (·=cb) w8 wx))
     case first=>
      have hs0:Same w8 w8:=Kept.refl _ _
      have HCA:Hid (∀W,Same w8 W→CellsAt W ⟨sg,0,none⟩ (x.s.l.flatMap wrE)):=hid (fun W hW=>World.ownsRow.cells (HRW8.out.kept hW (fun _ _ f=>f)) rfl)
      have HZZ:Hid (∀w9,Same w8 w9→w9.frozen? ⟨cb,1,none⟩=false∧w9.cell? ⟨cb,1,none⟩=some (.slice none 0 0)):=hid (fun w9 hk9=>⟨(HB8.out.kept hk9 (fun f=>f)).frozen 1,(HB8.out.kept hk9 (fun f=>f)).cell 1⟩)
      go_region_law (first
       | (refine step_appendC wrE 5 wrE_ok w8.heap.size 57 65 (.agg #[.string ⟨#[]⟩,.string ⟨#[]⟩,.string ⟨#[]⟩,.bool false,.string ⟨#[]⟩]) 72 Tryz.underlying57 Tryz.infoWr rfl (by decide) (by rfl) (.tmp 48) (.tmp 52) (by rfl) (.slice none 0 0) [] (by rfl) RowC.nil ⟨sg,0,none⟩ _ _ x.s.l (by rfl) (by exact HSN.out.symm) (by exact HCA.out _ (by first | exact hs0 | exact hs0.drew)) (by have:=HXB.out;have:=HXM.out.2.2;simp;omega) (by simp) ?_;intro v9 w9 hr9 hg9 hb9;have hk9:Same w8 w9:=Kept.trans (F:=fun _=>False) (show Same w8 _ from by first | exact hs0 | exact hs0.drew) ((Kept.refl (fun _=>False) _).grown hg9 (fun j e=>by cases e)) (fun _ _ f=>f) (fun _ _ f=>f);obtain⟨z9,d9⟩:=HZZ.out w9 hk9;obtain⟨a9,n9,q9,e9⟩:∃a n q,v9=Value.slice a n q:=(by obtain⟨a,q,e,_⟩:=hr9.shape;exact⟨a,_,q,e⟩);subst e9;clear hg9 hb9))
      all_goals
       have HF9:Hid (Blk (w9.setCell ⟨cb,1,none⟩ (.slice a9 n9 q9)) cb #[.int .i64 (nw+1),.slice a9 n9 q9] 59∧RowC w8.heap.size 65 5 wrE (w9.setCell ⟨cb,1,none⟩ (.slice a9 n9 q9)) (.slice a9 n9 q9) x.s.l∧Kept (·=cb) w8 (w9.setCell ⟨cb,1,none⟩ (.slice a9 n9 q9))):=hid (by
        have hb9:=HB8.out.kept hk9 (fun f=>f)
        have hkp:Kept (·=cb) w9 (w9.setCell ⟨cb,1,none⟩ (.slice a9 n9 q9)):=(Kept.refl _ w9).setCell _ _ (.inl rfl)
        refine⟨by simpa using hb9.set 1 (.slice a9 n9 q9),?_,Kept.trans hk9 hkp (fun _ _ f=>f.elim) (fun _ _ e=>e)⟩
        have h9:RowC w8.heap.size 65 5 wrE w9 (.slice a9 n9 q9) x.s.l:=by simpa using hr9
        exact h9.kept hkp (fun j e q=>h9.offB hb9 (by decide) (by rw[←q];exact e)))
       clear hr9 hk9
       go_wp2_with fail
       go_meet
       exact hid ⟨a9,n9,q9,by first | exact HF9.out.1 | exact HF9.out.1.kept (F:=fun _=>False) ((Kept.refl _ _).drew) (fun f=>f),by first | exact HF9.out.2.1 | exact HF9.out.2.1.kept (F:=fun _=>False) ((Kept.refl _ _).drew) (fun _ _ f=>f),by first | exact HF9.out.2.2 | exact HF9.out.2.2.drew⟩
     case rest=>
      have HQ:=hcut
      obtain⟨a9,n9,q9,hq1,hq2,hq3⟩:=HQ.out
      have HQ1:=hid hq1
      have HQ2:=hid hq2
      have HQ3:=hid hq3
      have HBX:Hid (Blk wc xb #[.int .i64 0,.slice none 0 0] 59):=hid (HW8.out.2.1.kept hq3 (fun e=>HW8.out.2.2.2 e))
      have m0:wc.cell? ⟨cb,0,none⟩=some (.int .i64 (nw+1)):=hq1.cell 0
      have m1:wc.cell? ⟨cb,1,none⟩=some (.slice a9 n9 q9):=hq1.cell 1
      clear hq1 hq2 hq3 HQ hcut k5 y1 z1
      go_wp2_with (with_reducible refine at_store 59 4 ?_;refine wpl_store 59 2 Tryz.sizeCm rfl (cells:=[.int .i64 (nw+1),.slice a9 n9 q9]) rfl HBX.out rfl rfl (by simp[Value.oneCell']) ?_;intro w4 hB4 hk4 hs4;have HB4:=hid hB4;have HK4:=hid hk4;clear hB4 hk4)
      refine bodyPost_ret (v:=.tuple #[.agg #[.int .i64 (nw+1),.slice a9 n9 q9],.int .i64 0]) (by rw[results_14b (p:=4) (b:=5) (ty:=59) rfl _ _ _ _ _ ⟨xb,0,none⟩ _ rfl (loadC14 HB4.out)];rfl) rfl ?_
      refine⟨(HW8.out.1.then HQ3.out (fun k hk e=>by have:=HW8.out.2.2.1;omega)).then HK4.out (fun k hk e=>by omega),nw+1,a9,n9,q9,0,x.s.l,rfl,HR.out _ _ _ (.inr (.inr ⟨HE.out,HCR.out,by obtain⟨D,d1,d2⟩:=HFY.out;exact⟨D,d1,.inr ⟨d2,rfl,HNE.out,rfl⟩⟩⟩)),?_⟩
      refine(HQ2.out.base HW8.out.1.size).kept HK4.out (fun j hj e=>?_)
      subst e
      exact HQ2.out.off14 HBX.out (by decide) hj

end Go.Proofs.YtcfociogljhbiaaGreatDoor
