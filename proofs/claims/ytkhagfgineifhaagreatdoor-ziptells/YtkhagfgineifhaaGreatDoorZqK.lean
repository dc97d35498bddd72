import Derived.Test.YtkhagfgineifhaaGreatDoorZqH
import Derived.Test.YtkhagfgineifhaaGreatDoorZqJ
set_option maxHeartbeats 400000
set_option maxRecDepth 100000
namespace Go.Proofs.YtkhagfgineifhaaGreatDoor
open Go.RowKit
theorem Jn{r:List Nat}{p n f:Nat}(h:jP r p=.ok (n,f)):f<=p/\n<=64:=by
 unfold jP at h;split at h
 ·cases h
 ·split at h
  ·cases h
  ·split at h
   ·cases h
   ·simp only[Except.ok.injEq,Prod.mk.injEq]at h;omega
theorem qo(w:World)(a:Option Addr)(n c:Nat)(bs:List Nat)(hs:Src w (fun k=>k<w.heap.size) (.slice a n c) bs)(hL:n=bs.length)(hb:∀x∈bs,x<256)(cD:n≤c)(hn:n≤100000000)(hx:Mxl w):
  Calls Tryz.prog 22 #[.slice a n c] w λe w'=>OpnA w w' (fV bs) e:=by
 by_cases h1:1048576<n
 ·refine(Ex w a n c h1 hn).mono ?_;rintro e w' ⟨he,hk⟩;exact OpnA.bad (by unfold fV;rw[if_pos (by omega)]) he hk
 ·by_cases h2:n<22
  ·refine(AQ w a n c h2).mono ?_;rintro e w' ⟨he,hk⟩;exact OpnA.bad (by unfold fV;rw[if_neg (by omega),if_pos (by omega)]) he hk
  ·obtain⟨b,o,ha⟩:∃b o,a=some ⟨b,o,none⟩:=by
    obtain⟨ao,cap,e,h9⟩:=id hs;simp only[Value.slice.injEq]at e;obtain⟨b,o,e4,_⟩:=h9 (λe=>by rw[e]at hL;simp at hL;omega);exact⟨b,o,by rw[e.1];exact e4⟩
   subst ha;have e1:fV bs=match jP (bs.drop (n-22)) (n-22) with
     | .error e=>.error e
     | .ok x=>fU x.2 x.1 (bs.take x.2) ((bs.take (n-22)).drop x.2) []:=by
    unfold fV;rw[if_neg (by omega),if_neg (by omega),hL];rfl
   cases he:jP (bs.drop (n-22)) (n-22) with
   | error x=>
    rw[he]at e1;refine(FQ w b o c bs n hL hs hb cD (by omega) (by omega) x he).mono ?_;rintro e w' ⟨he,hk⟩;exact OpnA.bad e1 he hk
   | ok x=>
    obtain⟨cnt,fs⟩:=x;rw[he]at e1;obtain⟨h3,h4⟩:=Jn he;rw[e1];exact Du w b o c bs n hL hs hb cD (by omega) (by omega) cnt fs he h3 h4 hx
theorem sJ{N:Nat}{w:World}{x:Itv}{y:It}(h:ItAt N w x y)(hz:y.lab.way=0):Calls Tryz.prog 30 #[.agg (jr x.m (.slice x.a x.n x.c))] w λe w'=>UnpZ w w' (df y) e:=by
 rw[h.lab];obtain⟨a,ha⟩:=h.ck;have hl:y.bytes.length<=100000:=by have:=(iX ha).2.2.2.2.1;have:=h.pk;omega
 by_cases hq:more 0 y.bytes=y.lab.sum
 ·have e:df y=.ok y.bytes:=(by unfold df;rw[if_neg (by omega),if_pos hq]);rw[e];exact uO w y.lab x.a x.n x.c _ y.bytes h.src h.byte hl hz hq
 ·have e:df y=.error 83:=(by unfold df;rw[if_neg (by omega),if_neg hq]);rw[e];exact vS w y.lab x.a x.n x.c _ y.bytes h.src h.byte hl hz hq
def UnpOk(w:World)(L:List It):Prop:=∀(N:Nat) (wx:World) (x:Itv) (y:It),y∈L->ItAt N wx x y->Same w wx->Calls Tryz.prog 30 #[.agg (jr x.m (.slice x.a x.n x.c))] wx λe w'=>UnpZ wx w' (df y) e
theorem UnpOk.zero(w:World)(L:List It)(h:∀y∈L,y.lab.way=0):UnpOk w L:=λ_ _ _ y hy hi _=>sJ hi (h y hy)
noncomputable def EY (bs:List Nat):Except Nat (List (List Nat×List Nat)):=match fV bs with
 | .error e=>.error e
 | .ok L=>io L
def Vd(w w':World)(o:Except Nat (List (List Nat×List Nat)))(e:Ending):Prop:=
 (∀k,o=.error k->e=.returned (.tuple #[.slice none 0 0,.int .i64 (k:Nat)]))/\(∀D,o=.ok D->∃a n c,e=.returned (.tuple #[.slice a n c,.int .i64 0])/\RowC w.heap.size 42 2 yL w' (.slice a n c) (D.map mS)/\n=D.length)/\Same w w'
theorem vK(w:World)(a:Option Addr)(n c:Nat)(bs:List Nat)(hs:Src w (fun k=>k<w.heap.size) (.slice a n c) bs)(hL:n=bs.length)(hb:∀x∈bs,x<256)(cD:n≤c)(hn:n≤100000000)(hx:Mxl w)(hU:∀L,fV bs=.ok L→UnpOk w L):
  Calls Tryz.prog 8 #[.slice a n c] w λe w'=>Vd w w' (EY bs) e:=by
 have Nw:∀(fn:Fn) (first cap:Array Value) (w:World),(Instr.makeFunc fn first cap).run Tryz.prog w=.ok (.func fn first cap) w:=λ_ _ _ _=>rfl
 obtain⟨W1,hW1⟩:∃W,W=w.alloc (.cells #[.int .i64 0] 26):=⟨_,rfl⟩
 obtain⟨eb,Cm⟩:∃b,b=w.heap.size:=⟨_,rfl⟩
 have HK1:Hid (Same w W1):=hid (by rw[hW1];exact(Kept.refl _ w).alloc _);have HB1:Hid (Blk W1 eb #[.int .i64 0] 26):=hid (by rw[hW1,Cm];exact Blk.new w _ _);have HO:=qo W1 a n c bs ((hs.kept HK1.out (λ_ _ _ f=>f)).mono (λk hk=>Nat.lt_of_lt_of_le hk HK1.out.size)) hL hb cD hn (hx.kept HK1.out (λf=>f));have HEB:Hid (eb=w.heap.size):=Cm;have HU:Hid (∀L,fV bs=.ok L->UnpOk w L):=hU;clear hs hL hb cD hx hU;go_enter_defers Tryz.func8,Tryz.ntmps8;go_wp2_with fail;rw[<-hW1,<-Cm];clear hW1 Cm;refine HO.mono ?_;intro e w1 h1;obtain⟨fW,eP,hk1⟩:=h1;have HB2:Hid (Blk w1 eb #[.int .i64 0] 26):=hid (HB1.out.kept hk1 (λf=>f));have HK2:Hid (Same w w1):=hid (Same.trans HK1.out hk1);cases ho:fV bs with
 | error k=>
  obtain rfl:=fW k ho;have HE:Hid (EY bs=.error k):=hid (by unfold EY;rw[ho]);clear hk1 HO fW eP ho;unfold aG;go_wp2_with fail;have c0:w1.cell? ⟨eb,0,none⟩=some (.int .i64 0):=HB2.out.cell 0;have z0:=HB2.out.frozen 0;have d0:(w1.setCell ⟨eb,0,none⟩ (.int .i64 (k:Nat))).cell? ⟨eb,0,none⟩=some (.int .i64 (k:Nat)):=(by have:=(HB2.out.set 0 (.int .i64 (k:Nat))).cell 0;simpa using this);have HKF:Hid (Same w (w1.setCell ⟨eb,0,none⟩ (.int .i64 (k:Nat)))):=hid (HK2.out.setCell _ _ (.inr (by have h9:=HEB.out;show w.heap.size<=eb;omega)));refine leaves_cons (f:=24) (args:=#[.pointer (some ⟨eb,0,none⟩)]) (by simp) (by simp[go_sem]) ?_;refine(i6 eb 0 k w1 c0 z0).mono ?_;rintro e u' w'' ⟨rfl,rfl,rfl⟩;simp[Leaves,settle,results,Tryz.results8,go_sem,d0];exact⟨λk' e=>by rw[HE.out]at e;simp only[Except.error.injEq]at e;subst e;rfl,λD e=>(by rw[HE.out]at e;cases e),HKF.out⟩
 | ok L=>
  obtain⟨a1,n1,c1,xs,rfl,hr1,hi1,hn1,fF,ET⟩:=eP L ho;have HE:Hid (EY bs=io L):=hid (by unfold EY;rw[ho]);have HUL:=HU.out L ho;have HA:=rV W1.heap.size w1 a1 n1 c1 xs L hr1 hi1 hn1 ET (λj x y wx hx hy hk=>HUL W1.heap.size wx x y (List.mem_of_getElem? hy) ((hi1.2 j x y hx hy).kept hk (λ_ _ f=>f)) (Same.trans HK2.out hk));clear hk1 HO fW eP ho hr1 hi1 hn1 fF HUL;go_wp2_with fail;refine HA.mono ?_;intro e w2 h2;obtain⟨fW,eP,hk2⟩:=h2;have HB3:Hid (Blk w2 eb #[.int .i64 0] 26):=hid (HB2.out.kept hk2 (λf=>f));have HK3:Hid (Same w w2):=hid (Same.trans HK2.out hk2);have c0:w2.cell? ⟨eb,0,none⟩=some (.int .i64 0):=HB3.out.cell 0;have z0:=HB3.out.frozen 0;cases hq:io L with
  | error k=>
   obtain rfl:=fW k hq;have HE:Hid (EY bs=.error k):=hid (by rw[HE.out,hq]);clear fW eP hk2 hq HA;unfold aG;go_wp2_with fail;have d0:(w2.setCell ⟨eb,0,none⟩ (.int .i64 (k:Nat))).cell? ⟨eb,0,none⟩=some (.int .i64 (k:Nat)):=(by have:=(HB3.out.set 0 (.int .i64 (k:Nat))).cell 0;simpa using this);have HKF:Hid (Same w (w2.setCell ⟨eb,0,none⟩ (.int .i64 (k:Nat)))):=hid (HK3.out.setCell _ _ (.inr (by have h9:=HEB.out;show w.heap.size<=eb;omega)));refine leaves_cons (f:=24) (args:=#[.pointer (some ⟨eb,0,none⟩)]) (by simp) (by simp[go_sem]) ?_;refine(i6 eb 0 k w2 c0 z0).mono ?_;rintro e u' w'' ⟨rfl,rfl,rfl⟩;simp[Leaves,settle,results,Tryz.results8,go_sem,d0];exact⟨λk' e=>by rw[HE.out]at e;simp only[Except.error.injEq]at e;subst e;rfl,λD e=>(by rw[HE.out]at e;cases e),HKF.out⟩
  | ok D=>
   obtain⟨a2,n2,c2,rfl,hr2,hn2⟩:=eP D hq;have HE:Hid (EY bs=.ok D):=hid (by rw[HE.out,hq]);have HR2:Hid (RowC w.heap.size 42 2 yL w2 (.slice a2 n2 c2) (D.map mS)/\n2=D.length):=hid ⟨hr2.base HK2.out.size,hn2⟩;clear fW eP hk2 hq HA hr2 hn2;go_wp2_with fail;obtain⟨w3,hw3⟩:∃W,W=w2.setCell ⟨eb,0,none⟩ (.int .i64 0):=⟨_,rfl⟩
   have hb3:Blk w3 eb #[.int .i64 0] 26:=(by rw[hw3];have:=HB3.out.set 0 (.int .i64 0);simpa using this);have HKF:Hid (Same w (w3.setCell ⟨eb,0,none⟩ (.int .i64 0))):=hid (by rw[hw3];exact(HK3.out.setCell _ _ (.inr (by have h9:=HEB.out;show w.heap.size<=eb;omega))).setCell _ _ (.inr (by have h9:=HEB.out;show w.heap.size<=eb;omega)));have hks:Kept (·=eb) w2 (w3.setCell ⟨eb,0,none⟩ (.int .i64 0)):=(by rw[hw3];exact((Kept.refl (·=eb) w2).setCell _ _ (.inl rfl)).setCell _ _ (.inl rfl));have HRF:Hid (RowC w.heap.size 42 2 yL (w3.setCell ⟨eb,0,none⟩ (.int .i64 0)) (.slice a2 n2 c2) (D.map mS)):=hid (HR2.out.1.kept hks (λj e f=>HR2.out.1.off HB3.out (by decide) (by rw[e,f])));have d0:(w3.setCell ⟨eb,0,none⟩ (.int .i64 0)).cell? ⟨eb,0,none⟩=some (.int .i64 0):=(by have:=(hb3.set 0 (.int .i64 0)).cell 0;simpa using this);rw[<-hw3];refine leaves_cons (f:=24) (args:=#[.pointer (some ⟨eb,0,none⟩)]) (by simp) (by simp[go_sem]) ?_;refine(vO eb 0 w3 (hb3.cell 0) (hb3.frozen 0)).mono ?_;rintro e u' w'' ⟨rfl,rfl,rfl⟩;simp[Leaves,settle,results,Tryz.results8,go_sem,d0];exact⟨λk' e=>(by rw[HE.out]at e;cases e),λD' e=>by rw[HE.out]at e;simp only[Except.ok.injEq]at e;subst e;exact⟨a2,n2,c2,rfl,HRF.out,HR2.out.2⟩,HKF.out⟩
end Go.Proofs.YtkhagfgineifhaaGreatDoor
