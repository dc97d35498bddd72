import Derived.Test.YtkhagfgineifhaaGreatDoorZqK
set_option maxHeartbeats 400000
set_option maxRecDepth 100000
namespace Go.Proofs.YtkhagfgineifhaaGreatDoor
open Go.RowKit
noncomputable def G3 (L:List It) (s:List Nat):Except Nat (List Nat):=match L.find? (λy=>decide (y.lab.name=s)) with
 | none=>.error 85
 | some y=>df y
noncomputable def D4 (bs s:List Nat):Except Nat (List Nat):=match fV bs with
 | .error e=>.error e
 | .ok L=>G3 L s
theorem Gu(L:List It)(s:List Nat)(p:Nat->Bool)(i:Nat)(h:∀j (hj:j<L.length),p (i+j)=decide (L[j].lab.name=s)):(∃y,L.find? (λy=>decide (y.lab.name=s))=some y/\L[f8 p L.length i-i]? = some y/\f8 p L.length i<i+L.length/\i<=f8 p L.length i)\/(L.find? (λy=>decide (y.lab.name=s))=none/\f8 p L.length i=i+L.length):=by
 induction L generalizing i with
 | nil=>right;exact⟨rfl,rfl⟩
 | cons y r ih=>
  have h0:=h 0 (by simp);simp only[Nat.add_zero,List.getElem_cons_zero]at h0;rw[List.length_cons,f8,List.find?_cons];cases hd:decide (y.lab.name=s) with
  | true=>
   rw[hd]at h0;rw[if_pos h0];left;exact⟨y,rfl,by simp,by omega,Nat.le_refl _⟩
  | false=>
   rw[hd]at h0;rw[if_neg (by rw[h0];decide)];rcases ih (i+1) (λj hj=>by have h9:=h (j+1) (by simpa using hj);rw[show i+(j+1)=i+1+j by omega]at h9;simpa using h9) with⟨z,h1,h2,h3,h4⟩ | ⟨h1,h2⟩
   ·left
    refine⟨z,h1,?_,by omega,by omega⟩;rw[show f8 p r.length (i+1)-i=f8 p r.length (i+1)-(i+1)+1 by omega];simpa using h2
   ·right
    exact⟨h1,by omega⟩
theorem AL(w:World)(m:Mk)(s:List Nat)(v:Value)(g:Nat)(hg:w.cell? ⟨g,0,none⟩=some (.string (bH s)))(ha:∀b∈m.name,b<256)(hb:∀b∈s,b<256):
  Calls Tryz.prog 28 #[.agg (jr m v),.pointer (some ⟨g,0,none⟩)] w λe w'=>e=.returned (.bool (decide (m.name=s)))/\Same w w':=by
 have Uk:∀o,(w.alloc o).cell? ⟨g,0,none⟩=some (.string (bH s)):=λo=>(show Same w (w.alloc o) from(Kept.refl _ w).alloc o).cell hg (λf=>f)
 have hq:=uB m.name s ha hb;obtain⟨B,hB⟩:∃B,B=decide (m.name=s):=⟨_,rfl⟩
 rw[<-hB]at hq ⊢;clear hB;unfold jr;go_enter Tryz.func28,Tryz.ntmps28;go_wp2_with fail;go_ret;exact⟨rfl,(Kept.refl _ w).alloc _⟩
theorem Tryz.entersFind2:∀args w,(callFunc 28 args).run Tryz.prog w=.ok (.enter 28 args) w:=enters_of Tryz.func28 (by kernel_rfl) rfl
def FdA(w w':World)(o:Except Nat (List Nat))(e:Ending):Prop:=
 (∀k,o=.error k->e=.returned (.tuple #[.string ⟨#[]⟩,.int .i64 (k:Nat)]))/\(∀d,o=.ok d->e=.returned (.tuple #[.string (bH d),.int .i64 0]))/\Same w w'
theorem FdA.bad{w w':World}{o:Except Nat (List Nat)}{e:Ending}{k:Nat}(h:o=.error k)(he:e=.returned (.tuple #[.string ⟨#[]⟩,.int .i64 (k:Nat)]))(hk:Same w w'):FdA w w' o e:=
 ⟨λn h'=>by rw[h]at h';simp only[Except.error.injEq]at h';subst h';exact he,λd h'=>(by rw[h]at h';cases h'),hk⟩
theorem Fh(w:World)(a:Option Addr)(n c:Nat)(bs:List Nat)(s:List Nat)(hs:Src w (fun k=>k<w.heap.size) (.slice a n c) bs)(hL:n=bs.length)(hb:∀x∈bs,x<256)(cD:n≤c)(hn:n≤100000000)(Uy:∀x∈s,x<256)(hx:Mxl w)(hU:∀L,fV bs=.ok L→UnpOk w L):
  Calls Tryz.prog 9 #[.slice a n c,.string (bH s)] w λe w'=>FdA w w' (D4 bs s) e:=by
 have Nw:∀(fn:Fn) (first cap:Array Value) (w:World),(Instr.makeFunc fn first cap).run Tryz.prog w=.ok (.func fn first cap) w:=λ_ _ _ _=>rfl
 obtain⟨W1,hW1⟩:∃W,W=(w.alloc (.cells #[.string (bH s)] 9)).alloc (.cells #[.int .i64 0] 26):=⟨_,rfl⟩
 obtain⟨nb,hnb⟩:∃b,b=w.heap.size:=⟨_,rfl⟩
 obtain⟨eb,Cm⟩:∃b,b=w.heap.size+1:=⟨_,rfl⟩
 have HK1:Hid (Same w W1):=hid (by rw[hW1];exact((Kept.refl _ w).alloc _).alloc _);have HB1:Hid (Blk W1 eb #[.int .i64 0] 26):=hid (by rw[hW1,Cm];have h9:=Blk.new (w.alloc (.cells #[.string (bH s)] 9)) #[.int .i64 0] 26;rw[World.size_alloc]at h9;exact h9);have HN1:Hid (Blk W1 nb #[.string (bH s)] 9):=hid (by rw[hW1,hnb];exact(Blk.new w _ _).kept (show Same _ _ from(Kept.refl _ _).alloc _) (λf=>f));have HO:=qo W1 a n c bs ((hs.kept HK1.out (λ_ _ _ f=>f)).mono (λk hk=>Nat.lt_of_lt_of_le hk HK1.out.size)) hL hb cD hn (hx.kept HK1.out (λf=>f));have HEB:Hid (eb=w.heap.size+1):=Cm;have HU:Hid (∀L,fV bs=.ok L->UnpOk w L):=hU;have HSB:Hid (∀x∈s,x<256):=Uy;clear hs hL hb cD hx hU Uy;go_enter_defers Tryz.func9,Tryz.ntmps9;go_wp2_with fail;rw[<-hW1,<-Cm,<-hnb];clear hW1 Cm hnb;refine HO.mono ?_;intro e w1 h1;obtain⟨fW,eP,hk1⟩:=h1;have HB2:Hid (Blk w1 eb #[.int .i64 0] 26):=hid (HB1.out.kept hk1 (λf=>f));have HN2:Hid (Blk w1 nb #[.string (bH s)] 9):=hid (HN1.out.kept hk1 (λf=>f));have HK2:Hid (Same w w1):=hid (Same.trans HK1.out hk1);have HDIE:Hid (∀(w2:World) (k:Nat),Same w1 w2->D4 bs s=.error k->Blk w2 eb #[.int .i64 0] 26/\Same w (w2.setCell ⟨eb,0,none⟩ (.int .i64 (k:Nat)))/\(w2.setCell ⟨eb,0,none⟩ (.int .i64 (k:Nat))).cell? ⟨eb,0,none⟩=some (.int .i64 (k:Nat))):=hid (λw2 k hk _=>by
  have hb:=HB2.out.kept hk (λf=>f);refine⟨hb,(Same.trans HK2.out hk).setCell _ _ (.inr (by have h9:=HEB.out;show w.heap.size<=eb;omega)),?_⟩;have:=(hb.set 0 (.int .i64 (k:Nat))).cell 0;simpa using this)
 cases ho:fV bs with
 | error k=>
  obtain rfl:=fW k ho;have HE:Hid (D4 bs s=.error k):=hid (by unfold D4;rw[ho]);clear hk1 HO fW eP ho;unfold aG;go_wp2_with fail;obtain⟨hb2,hkf,d0⟩:=HDIE.out w1 k (Kept.refl _ _) HE.out;refine leaves_cons (f:=26) (args:=#[.pointer (some ⟨eb,0,none⟩)]) (by simp) (by simp[go_sem]) ?_;refine(ff eb 0 k w1 (hb2.cell 0) (hb2.frozen 0)).mono ?_;rintro e u' w'' ⟨rfl,rfl,rfl⟩;simp[Leaves,settle,results,Tryz.results9,go_sem,d0];exact FdA.bad HE.out rfl hkf
 | ok L=>
  obtain⟨a1,n1,c1,xs,rfl,hr1,hi1,hn1,fF,ET⟩:=eP L ho;have HE:Hid (D4 bs s=G3 L s):=hid (by unfold D4;rw[ho]);have HUL:Hid (UnpOk w L):=hid (HU.out L ho);have HIX:=qb w1 a1 n1 c1 _ _ 28 nb (λi=>decide ((xs.getD i default).m.name=s)) (Itms.ofRow hr1 hn1) (by omega) Tryz.entersFind2 (λi wx hi hk=>AL wx _ s _ nb ((HN2.out.kept hk (λf=>f)).cell 0) (hi1.nam i (by omega)) HSB.out);have R8:=Gu L s (λi=>decide ((xs.getD i default).m.name=s)) 0 (λj hj=>by
   have T8:j<xs.length:=(by rw[hi1.1];exact hj);have e:xs.getD j default=xs[j]:=(by rw[List.getD_eq_getElem?_getD,List.getElem?_eq_getElem T8];rfl);have:=(hi1.2 j _ _ (List.getElem?_eq_getElem T8) (List.getElem?_eq_getElem hj)).lab;simp only[Nat.zero_add];rw[e,this])
  have Ta:n1=L.length:=(by rw[hn1];exact hi1.1);rw[<-Ta]at R8;simp only[Nat.zero_add,Nat.sub_zero]at R8;obtain⟨ix,MI⟩:∃x,x=I4 (λi=>decide ((xs.getD i default).m.name=s)) n1:=⟨_,rfl⟩
  rw[<-MI]at HIX;unfold I4 at MI;have HR1:Hid (RowC W1.heap.size 60 6 mu w1 (.slice a1 n1 c1) xs):=hr1;have HI1:Hid (Its W1.heap.size w1 xs L):=hi1;have HN:Hid (n1=xs.length/\n1=L.length):=hid ⟨hn1,Ta⟩;clear hk1 HO fW eP ho hr1 hi1 hn1 fF Ta;rcases R8 with⟨y,h1,h2,h3,_⟩ | ⟨h1,h2⟩
  ·rw[if_pos h3]at MI;obtain⟨i,hi⟩:∃i,i=f8 (λi=>decide ((xs.getD i default).m.name=s)) n1 0:=⟨_,rfl⟩
   rw[<-hi]at MI h2 h3;subst MI;have HE:Hid (D4 bs s=df y):=hid (by rw[HE.out];unfold G3;rw[h1]);have hx:=List.getElem?_eq_getElem (l:=xs) (i:=i) (by have:=HN.out;omega);obtain⟨x,ED⟩:∃x,x=xs[i]'(by have:=HN.out;omega):=⟨_,rfl⟩
   rw[<-ED]at hx;have HAT:Hid (ItAt W1.heap.size w1 x y):=hid (HI1.out.2 i x y hx h2);have HYL:Hid (y∈L):=hid (List.mem_of_getElem? h2);obtain⟨g,cap,hv,_,hc⟩:=HR1.out.at8 pV i (by have:=HN.out;omega);rw[<-ED]at hc;simp only[Value.slice.injEq]at hv;have fA:=hv.1;clear hv;subst fA;have HCX:Hid (∀(wr:World),Same w1 wr->∀k u,k<6->(mu x)[k]? = some u->wr.cell? ⟨g,i*6+k,none⟩=some u):=hid (λwr hk k u h1 h2=>hk.cell ((hc k h1).trans h2) (λf=>f));have i1:(0:Int)<=(i:Int):=(by omega);have i2:(i:Int)<(n1:Int):=(by omega);have i3:decide ((0:Int)<=(i:Int))=true:=(by simp);clear hi h1 h2 hx ED hc;go_wp2_with fail;refine HIX.mono ?_;rintro e w2 ⟨rfl,hk2⟩;have HS2:Hid (Same w1 w2):=hk2;have HO:=bh w2 (.int .i64 85);have k0:=HCX.out w2 hk2 0 _ (by decide) rfl;have k1:=HCX.out w2 hk2 1 _ (by decide) rfl;have k2:=HCX.out w2 hk2 2 _ (by decide) rfl;have k3:=HCX.out w2 hk2 3 _ (by decide) rfl;have k4:=HCX.out w2 hk2 4 _ (by decide) rfl;have k5:=HCX.out w2 hk2 5 _ (by decide) rfl;rw[Nat.add_zero]at k0;have HC:=HUL.out W1.heap.size w2 x y HYL.out (HAT.out.kept hk2 (λ_ _ f=>f)) (Same.trans HK2.out hk2);unfold jr at HC;clear hk2 HIX;go_wp2_with fail;refine HO.mono ?_;rintro e w3 ⟨rfl,hw3⟩;subst hw3;clear HO;go_wp2_with fail;refine HC.mono ?_;intro e w4 h4;obtain⟨eP,fW,hk4⟩:=h4;have HS4:Hid (Same w1 w4):=hid (Same.trans HS2.out hk4);cases hu:df y with
   | error k=>
    obtain rfl:=fW k hu;have HE:Hid (D4 bs s=.error k):=hid (by rw[HE.out,hu]);clear eP fW hk4 hu HC k0 k1 k2 k3 k4 k5;unfold aG;go_wp2_with fail;obtain⟨hb2,hkf,d0⟩:=HDIE.out w4 k HS4.out HE.out;refine leaves_cons (f:=26) (args:=#[.pointer (some ⟨eb,0,none⟩)]) (by simp) (by simp[go_sem]) ?_;refine(ff eb 0 k w4 (hb2.cell 0) (hb2.frozen 0)).mono ?_;rintro e u' w'' ⟨rfl,rfl,rfl⟩;simp[Leaves,settle,results,Tryz.results9,go_sem,d0];exact FdA.bad HE.out rfl hkf
   | ok d=>
    obtain rfl:=eP d hu;have HE:Hid (D4 bs s=.ok d):=hid (by rw[HE.out,hu]);have HB3:Hid (Blk w4 eb #[.int .i64 0] 26):=hid (HB2.out.kept HS4.out (λf=>f));have Yp:w4.cell? ⟨eb,0,none⟩=some (.int .i64 0):=HB3.out.cell 0;have z0:=HB3.out.frozen 0;clear eP fW hk4 hu HC k0 k1 k2 k3 k4 k5;go_wp2_with fail;obtain⟨w3,hw3⟩:∃W,W=w4.setCell ⟨eb,0,none⟩ (.int .i64 0):=⟨_,rfl⟩
    have hb3:Blk w3 eb #[.int .i64 0] 26:=(by rw[hw3];have:=HB3.out.set 0 (.int .i64 0);simpa using this);have HKF:Hid (Same w (w3.setCell ⟨eb,0,none⟩ (.int .i64 0))):=hid (by rw[hw3];exact((Same.trans HK2.out HS4.out).setCell _ _ (.inr (by have h9:=HEB.out;show w.heap.size<=eb;omega))).setCell _ _ (.inr (by have h9:=HEB.out;show w.heap.size<=eb;omega)));have d0:(w3.setCell ⟨eb,0,none⟩ (.int .i64 0)).cell? ⟨eb,0,none⟩=some (.int .i64 0):=(by have:=(hb3.set 0 (.int .i64 0)).cell 0;simpa using this);rw[<-hw3];refine leaves_cons (f:=26) (args:=#[.pointer (some ⟨eb,0,none⟩)]) (by simp) (by simp[go_sem]) ?_;refine(wJ eb 0 w3 (hb3.cell 0) (hb3.frozen 0)).mono ?_;rintro e u' w'' ⟨rfl,rfl,rfl⟩;simp[Leaves,settle,results,Tryz.results9,go_sem,d0];exact⟨λk' e=>(by rw[HE.out]at e;cases e),λD' e=>by rw[HE.out]at e;simp only[Except.ok.injEq]at e;subst e;rfl,HKF.out⟩
  ·rw[if_neg (by omega)]at MI;subst MI;have HE:Hid (D4 bs s=.error 85):=hid (by rw[HE.out];unfold G3;rw[h1]);clear h1 h2;go_wp2_with fail;refine HIX.mono ?_;rintro e w2 ⟨rfl,hk2⟩;have HS2:Hid (Same w1 w2):=hk2;have HO:=aL w2 85;clear hk2 HIX;go_wp2_with fail;refine HO.mono ?_;rintro e w3 ⟨rfl,hw3⟩;subst hw3;clear HO;unfold aG;go_wp2_with fail;obtain⟨hb2,hkf,d9⟩:=HDIE.out w3 85 HS2.out HE.out;have d0:(w3.setCell ⟨eb,0,none⟩ (.int .i64 85)).cell? ⟨eb,0,none⟩=some (.int .i64 85):=d9;refine leaves_cons (f:=26) (args:=#[.pointer (some ⟨eb,0,none⟩)]) (by simp) (by simp[go_sem]) ?_;refine(ff eb 0 85 w3 (hb2.cell 0) (hb2.frozen 0)).mono ?_;rintro e u' w'' ⟨rfl,rfl,rfl⟩;simp[Leaves,settle,results,Tryz.results9,go_sem,d0];exact FdA.bad HE.out rfl hkf
end Go.Proofs.YtkhagfgineifhaaGreatDoor
