import Derived.Test.YtkhagfgineifhaaGreatDoorZqK
set_option maxHeartbeats 400000
set_option maxRecDepth 100000
namespace Go.Proofs.YtkhagfgineifhaaGreatDoor
open Go.RowKit
def jM(m:Mk):List Value:=[.string (bH m.name),.int .i64 (m.size:Nat),.int .i64 (m.packed:Nat),.int .u32 (m.sum:Nat),.int .i64 (m.way:Nat)]
theorem um:dJ jM 5:=⟨λ_=>rfl,λx u hu=>by simp[jM]at hu;rcases hu with rfl | rfl | rfl | rfl | rfl<;>rfl,by decide⟩
theorem Tryz.infoInfo:(Tryz.prog.info? 34).map (λi=>(i.zero,i.size,i.bytes))=some (some (.agg #[.string ⟨#[]⟩,.int .i64 0,.int .i64 0,.int .u32 0,.int .i64 0]),5,48):=by kernel_rfl
theorem AV(w:World)(m:Mk):aS (w.alloc (.cells #[.string (bH m.name),.int .i64 (m.size:Nat),.int .i64 (m.packed:Nat),.int .u32 (m.sum:Nat),.int .i64 (m.way:Nat)] 34)) ⟨w.heap.size,0,none⟩ ([m].flatMap jM):=by
 intro j u hj
 match j,hj with
 | 0,hj=>simp[jM]at hj;subst hj;simp[cf]
 | 1,hj=>simp[jM]at hj;subst hj;simp[cf]
 | 2,hj=>simp[jM]at hj;subst hj;simp[cf]
 | 3,hj=>simp[jM]at hj;subst hj;simp[cf]
 | 4,hj=>simp[jM]at hj;subst hj;simp[cf]
 | j+5,hj=>simp[jM]at hj
def Vc(w w':World)(o:Except Nat (List It))(e:Ending):Prop:=
 (∀k,o=.error k->e=.returned (.tuple #[.slice none 0 0,.int .i64 (k:Nat)]))/\(∀L,o=.ok L->∃a n c,e=.returned (.tuple #[.slice a n c,.int .i64 0])/\RowC w.heap.size 34 5 jM w' (.slice a n c) (L.map (·.lab))/\n=L.length)/\Same w w'
structure Tr(w wr:World)(eb:Nat)(L:List It)(i:Nat)(v:Value):Prop where
 row:RowC w.heap.size 34 5 jM wr v ((L.take i).map (·.lab))
 blk:Blk wr eb #[.int .i64 0] 26
 same:Same w wr
theorem qX(w:World)(a:Option Addr)(n c:Nat)(bs:List Nat)(hs:Src w (fun k=>k<w.heap.size) (.slice a n c) bs)(hL:n=bs.length)(hb:∀x∈bs,x<256)(cD:n≤c)(hn:n≤100000000)(hx:Mxl w):
  Calls Tryz.prog 7 #[.slice a n c] w λe w'=>Vc w w' (fV bs) e:=by
 have Nw:∀(fn:Fn) (first cap:Array Value) (w:World),(Instr.makeFunc fn first cap).run Tryz.prog w=.ok (.func fn first cap) w:=λ_ _ _ _=>rfl
 obtain⟨W1,hW1⟩:∃W,W=w.alloc (.cells #[.int .i64 0] 26):=⟨_,rfl⟩
 obtain⟨eb,Cm⟩:∃b,b=w.heap.size:=⟨_,rfl⟩
 have HK1:Hid (Same w W1):=hid (by rw[hW1];exact(Kept.refl _ w).alloc _);have HB1:Hid (Blk W1 eb #[.int .i64 0] 26):=hid (by rw[hW1,Cm];exact Blk.new w _ _);have HO:=qo W1 a n c bs ((hs.kept HK1.out (λ_ _ _ f=>f)).mono (λk hk=>Nat.lt_of_lt_of_le hk HK1.out.size)) hL hb cD hn (hx.kept HK1.out (λf=>f));have HEB:Hid (eb=w.heap.size):=Cm;clear hs hL hb cD hx;go_enter_defers Tryz.func7,Tryz.ntmps7;go_wp2_with fail;rw[<-hW1,<-Cm];clear hW1 Cm;refine HO.mono ?_;intro e w1 h1;obtain⟨fW,eP,hk1⟩:=h1;have HB2:Hid (Blk w1 eb #[.int .i64 0] 26):=hid (HB1.out.kept hk1 (λf=>f));have HK2:Hid (Same w w1):=hid (Same.trans HK1.out hk1);cases ho:fV bs with
 | error k=>
  obtain rfl:=fW k ho;have HE:Hid (fV bs=.error k):=ho;clear hk1 HO fW eP ho;unfold aG;go_wp2_with fail;have c0:w1.cell? ⟨eb,0,none⟩=some (.int .i64 0):=HB2.out.cell 0;have z0:=HB2.out.frozen 0;have d0:(w1.setCell ⟨eb,0,none⟩ (.int .i64 (k:Nat))).cell? ⟨eb,0,none⟩=some (.int .i64 (k:Nat)):=(by have:=(HB2.out.set 0 (.int .i64 (k:Nat))).cell 0;simpa using this);have HKF:Hid (Same w (w1.setCell ⟨eb,0,none⟩ (.int .i64 (k:Nat)))):=hid (HK2.out.setCell _ _ (.inr (by have h9:=HEB.out;show w.heap.size<=eb;omega)));refine leaves_cons (f:=20) (args:=#[.pointer (some ⟨eb,0,none⟩)]) (by simp) (by simp[go_sem]) ?_;refine(oz eb 0 k w1 c0 z0).mono ?_;rintro e u' w'' ⟨rfl,rfl,rfl⟩;simp[Leaves,settle,results,Tryz.results7,go_sem,d0];exact⟨λk' e=>by rw[HE.out]at e;simp only[Except.error.injEq]at e;subst e;rfl,λD e=>(by rw[HE.out]at e;cases e),HKF.out⟩
 | ok L=>
  obtain⟨a1,n1,c1,xs,rfl,hr1,hi1,hn1,fF,ET⟩:=eP L ho;have HE:Hid (fV bs=.ok L):=ho;have HR1:Hid (RowC W1.heap.size 60 6 mu w1 (.slice a1 n1 c1) xs):=hr1;have HI1:Hid (Its W1.heap.size w1 xs L):=hi1;have HN:Hid (n1=xs.length/\n1=L.length):=hid ⟨hn1,by rw[hn1];exact hi1.1⟩;clear hk1 HO fW eP ho hr1 hi1 hn1 fF;go_wp2_with fail;go_loopg [2,10] n1 (λqq z2 z10 wr=>∃(i:Nat),z10=.int .i64 (i:Nat)/\i<=n1/\n1-i<=qq/\Hid (Tr w1 wr eb L i z2))
  case atStart=>exact⟨0,rfl,by omega,by omega,hid ⟨RowC.nil,HB2.out,Kept.refl _ _⟩⟩
  case round=>
   obtain⟨i,rfl,hi1,Lv,HI⟩:=hrel;obtain⟨v0,tJ⟩:∃v,v=u2:=⟨_,rfl⟩
   rw[<-tJ]at HI;rw[<-tJ];clear tJ;obtain⟨a0,c0,tJ,_⟩:=HI.out.row.shape;rw[List.length_map,List.length_take,Nat.min_eq_left (by have:=HN.out;omega)]at tJ;subst tJ;by_cases hi:i<n1
   ·have nM:decide (i<n1)=true:=(by simp;omega);have hx:=List.getElem?_eq_getElem (l:=xs) (i:=i) (by have:=HN.out;omega);have hy:=List.getElem?_eq_getElem (l:=L) (i:=i) (by have:=HN.out;omega);obtain⟨x,ED⟩:∃x,x=xs[i]'(by have:=HN.out;omega):=⟨_,rfl⟩
    obtain⟨y,Pw⟩:∃y,y=L[i]'(by have:=HN.out;omega):=⟨_,rfl⟩
    rw[<-ED]at hx;rw[<-Pw]at hy;obtain⟨g,cap,hv,_,hc⟩:=HR1.out.at8 pV i (by have:=HN.out;omega);rw[<-ED]at hc;simp only[Value.slice.injEq]at hv;have fA:=hv.1;clear hv;subst fA;have rN:∀k u,k<6->(mu x)[k]? = some u->wr.cell? ⟨g,i*6+k,none⟩=some u:=λk u h1 h2=>HI.out.same.cell ((hc k h1).trans h2) (λf=>f)
    have k0:=rN 0 _ (by decide) rfl;have k1:=rN 1 _ (by decide) rfl;have k2:=rN 2 _ (by decide) rfl;have k3:=rN 3 _ (by decide) rfl;have k4:=rN 4 _ (by decide) rfl;have k5:=rN 5 _ (by decide) rfl;rw[Nat.add_zero]at k0;have EP:IntKind.i64.wrap ((i:Int)+1)=((i+1:Nat):Int):=(by rw[IntKind.wrap_i64];omega);have i1:(0:Int)<=(i:Int):=(by omega);have i2:(i:Int)<(n1:Int):=(by omega);have HAT:=HI1.out.2 i x y hx hy;have HXL:Hid (x.m=y.lab/\L[i]? = some y):=hid ⟨HAT.lab,hy⟩;obtain⟨wA,pN⟩:∃W,W=wr.alloc (.cells (jr x.m (.slice x.a x.n x.c)) 60):=⟨_,rfl⟩
    obtain⟨xb,ie⟩:∃b,b=wr.heap.size:=⟨_,rfl⟩
    have HKA:Hid (Same wr wA):=hid (by rw[pN];exact(Kept.refl _ wr).alloc _);have HXA:Hid (Blk wA xb (jr x.m (.slice x.a x.n x.c)) 60):=hid (by rw[pN,ie];exact Blk.new wr _ _);have HC:=GG wA x.m (.slice x.a x.n x.c) (by rw[HAT.lab];exact HAT.ok);clear ED Pw hx hy hc rN HAT;unfold jr at pN HC HXA;have q0:wA.cell? ⟨xb,0,none⟩=some (.int .u16 (x.m.way:Nat)):=HXA.out.cell 0;have q1:wA.cell? ⟨xb,1,none⟩=some (.int .u32 (x.m.sum:Nat)):=HXA.out.cell 1;have q2:wA.cell? ⟨xb,2,none⟩=some (.int .u32 (x.m.packed:Nat)):=HXA.out.cell 2;have q3:wA.cell? ⟨xb,3,none⟩=some (.int .u32 (x.m.size:Nat)):=HXA.out.cell 3;have q4:wA.cell? ⟨xb,4,none⟩=some (.string (bH x.m.name)):=HXA.out.cell 4;have q5:wA.cell? ⟨xb,5,none⟩=some (.slice x.a x.n x.c):=HXA.out.cell 5;go_wp2_with fail;rw[<-pN,<-ie];clear pN ie;refine HC.mono ?_;rintro e w4 ⟨rfl,hk4⟩;have HK4:Hid (Same wr w4):=hid (Same.trans HKA.out hk4);have HR4:Hid (RowC w1.heap.size 34 5 jM w4 (.slice a0 i c0) ((L.take i).map (·.lab))):=hid (HI.out.row.kept HK4.out (λ_ _ f=>f));clear hk4 HC q0 q1 q2 q3 q4 q5 k0 k1 k2 k3 k4 k5;go_wp2_with (at_builtin;refine dW _ jM 5 um (by decide) w1.heap.size 29 34 (.agg #[.string ⟨#[]⟩,.int .i64 0,.int .i64 0,.int .u32 0,.int .i64 0]) 48 Tryz.underlying29 Tryz.infoInfo rfl (by decide) rfl (.tmp 14) (.tmp 17) rfl (.slice a0 i c0) ((L.take i).map (·.lab)) rfl (HR4.out.kept (show Same _ _ from(Kept.refl _ _).alloc _) (λ_ _ f=>f)) ⟨w4.heap.size,0,none⟩ 1 1 [x.m] rfl rfl (AV w4 x.m) (by rw[List.length_map,List.length_take];simp;omega) (by have:=HI.out.same.size;have:=HK4.out.size;simp;omega) ?_;intro v8 w8 hr8 Lr);obtain⟨wB,yt⟩:∃W,W=w4.alloc (.cells #[.string (bH x.m.name),.int .i64 (x.m.size:Nat),.int .i64 (x.m.packed:Nat),.int .u32 (x.m.sum:Nat),.int .i64 (x.m.way:Nat)] 34):=⟨_,rfl⟩
    have Ia:wB.grownBy w8 (Value.slice a0 i c0).ownBlock:=(by rw[yt];exact Lr);have vt:Same w4 wB:=(by rw[yt];exact(Kept.refl _ w4).alloc _);have hk8:Kept (λk=>(Value.slice a0 i c0).ownBlock=some k) wB w8:=(Kept.refl _ wB).grown Ia (λk e=>.inl e);have HF:Hid (Tr w1 w8 eb L (i+1) v8):=hid (by
     refine⟨?_,?_,((Same.trans HI.out.same (Same.trans HK4.out vt)).then hk8 (λk hk e=>by have:=HR4.out.ge e;omega))⟩
     ·rw[List.take_add_one,HXL.out.2,List.map_append];show RowC _ _ _ _ _ _ ((L.take i).map (·.lab)++[y.lab]);rw[<-HXL.out.1];exact hr8
     ·have hb4:=(HI.out.blk.kept HK4.out (λf=>f)).kept vt (λf=>f);exact hb4.kept hk8 (λe=>(HR4.out.kept vt (λ_ _ f=>f)).off hb4 (by decide) e))
    clear hr8 Lr yt Ia vt hk8;go_wp2_with fail;go_roundg (gk-1)
    case measure=>omega
    case rel=>exact⟨i+1,by go_num,by omega,by omega,HF⟩
   ·have nM:decide (i<n1)=false:=(by simp;omega);obtain rfl:i=n1:=(by omega);have HR2:Hid (RowC w.heap.size 34 5 jM wr (.slice a0 i c0) (L.map (·.lab))):=hid (by have h9:=HI.out.row;rw[List.take_of_length_le (by have:=HN.out;omega)]at h9;exact h9.base HK2.out.size);have HB3:Hid (Blk wr eb #[.int .i64 0] 26):=hid HI.out.blk;have Yp:wr.cell? ⟨eb,0,none⟩=some (.int .i64 0):=HB3.out.cell 0;have z0:=HB3.out.frozen 0;go_wp2_with fail;obtain⟨w3,hw3⟩:∃W,W=wr.setCell ⟨eb,0,none⟩ (.int .i64 0):=⟨_,rfl⟩
    have hb3:Blk w3 eb #[.int .i64 0] 26:=(by rw[hw3];have:=HB3.out.set 0 (.int .i64 0);simpa using this);have HKF:Hid (Same w (w3.setCell ⟨eb,0,none⟩ (.int .i64 0))):=hid (by rw[hw3];exact((Same.trans HK2.out HI.out.same).setCell _ _ (.inr (by have h9:=HEB.out;show w.heap.size<=eb;omega))).setCell _ _ (.inr (by have h9:=HEB.out;show w.heap.size<=eb;omega)));have hks:Kept (·=eb) wr (w3.setCell ⟨eb,0,none⟩ (.int .i64 0)):=(by rw[hw3];exact((Kept.refl (·=eb) wr).setCell _ _ (.inl rfl)).setCell _ _ (.inl rfl));have HRF:Hid (RowC w.heap.size 34 5 jM (w3.setCell ⟨eb,0,none⟩ (.int .i64 0)) (.slice a0 i c0) (L.map (·.lab))):=hid (HR2.out.kept hks (λj e f=>HR2.out.off HB3.out (by decide) (by rw[e,f])));have d0:(w3.setCell ⟨eb,0,none⟩ (.int .i64 0)).cell? ⟨eb,0,none⟩=some (.int .i64 0):=(by have:=(hb3.set 0 (.int .i64 0)).cell 0;simpa using this);rw[<-hw3];refine leaves_cons (f:=20) (args:=#[.pointer (some ⟨eb,0,none⟩)]) (by simp) (by simp[go_sem]) ?_;refine(wL eb 0 w3 (hb3.cell 0) (hb3.frozen 0)).mono ?_;rintro e u' w'' ⟨rfl,rfl,rfl⟩;simp[Leaves,settle,results,Tryz.results7,go_sem,d0];exact⟨λk' e=>(by rw[HE.out]at e;cases e),λD' e=>by rw[HE.out]at e;simp only[Except.ok.injEq]at e;subst e;exact⟨a0,_,_,rfl,HRF.out,HN.out.2⟩,HKF.out⟩
end Go.Proofs.YtkhagfgineifhaaGreatDoor
