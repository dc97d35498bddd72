import Derived.Test.YtkhagfgineifhaaGreatDoorInPc
set_option maxHeartbeats 2000000
set_option maxRecDepth 100000
namespace Go.Proofs.YtkhagfgineifhaaGreatDoor
open Go.RowKit
def CodesP(w:World)(k:Nat)(lit dist:List Nat)(O:Nat->Prop):Prop:=
 ∃d vc vs dv,Blk w k #[.pointer (some ⟨d,0,none⟩),dv] 238/\Dec w d vc vs lit/\(∀j,DF d vc vs j->O j)/\DistP w dv dist O/\O k
theorem CodesP.kept{F O:Nat->Prop}{w w':World}{k:Nat}{lit dist:List Nat}(h:CodesP w k lit dist O)(hk:Kept F w w')(hO:∀j,O j->¬F j):CodesP w' k lit dist O:=by obtain⟨d,vc,vs,dv,hb,hd,EQ,hdi,hok⟩:=h;exact⟨d,vc,vs,dv,hb.kept hk (hO k hok),hd.kept hk (λj hj=>hO j (EQ j hj)),EQ,hdi.kept hk hO,hok⟩
theorem CodesP.less{O O':Nat->Prop}{w:World}{k:Nat}{lit dist:List Nat}(h:CodesP w k lit dist O)(hO:∀j,O j->O' j):CodesP w k lit dist O':=by obtain⟨d,vc,vs,dv,hb,hd,EQ,hdi,hok⟩:=h;exact⟨d,vc,vs,dv,hb,hd,λj hj=>hO j (EQ j hj),hdi.less hO,hO k hok⟩
def BkP(w:World)(b:Nat)(O:Nat->Prop):Bk->Prop
 | .raw last left=>Blk w b #[.bool last,.int .i64 (left:Nat),.pointer none] 201/\left<=65535
 | .sym last lit dist=>∃k,Blk w b #[.bool last,.int .i64 0,.pointer (some ⟨k,0,none⟩)] 201/\CodesP w k lit dist O
theorem BkP.kept{F O:Nat->Prop}{w w':World}{b:Nat}{bk:Bk}(h:BkP w b O bk)(hk:Kept F w w')(hO:∀j,O j->¬F j)(hb:¬F b):BkP w' b O bk:=by
 cases bk with
 | raw last left=>exact⟨h.1.kept hk hb,h.2⟩
 | sym last lit dist=>
  obtain⟨k,h1,h2⟩:=h;exact⟨k,h1.kept hk hb,h2.kept hk hO⟩
theorem BkP.less{O O':Nat->Prop}{w:World}{b:Nat}{bk:Bk}(h:BkP w b O bk)(hO:∀j,O j->O' j):BkP w b O' bk:=by
 cases bk with
 | raw last left=>exact h
 | sym last lit dist=>
  obtain⟨k,h1,h2⟩:=h;exact⟨k,h1,h2.less hO⟩
theorem BkP.lt{O:Nat->Prop}{w:World}{b:Nat}{bk:Bk}(h:BkP w b O bk):b<w.heap.size:=by
 cases bk with
 | raw last left=>exact h.1.lt
 | sym last lit dist=>obtain⟨k,h1,_⟩:=h;exact h1.lt
def pv:Tok->Array Value
 | .fin=>cF
 | .byte b=>#[.int .u8 (b:Nat),.int .i64 0,.int .i64 0]
 | .copy n far=>#[.int .u8 0,.int .i64 (n:Nat),.int .i64 (far:Nat)]
def jF:Tok->Bool
 | .fin=>true
 | _=>false
def StepPA(w':World)(b p:Nat)(s:Value)(bs:List Nat)(O:Nat->Prop)(bk:Bk)(e:Ending):Except Nat ((Tok×Bk)×Nat)->Prop
 | .error er=>e=.returned (.tuple #[.agg cF,.bool false,.int .i64 (er:Nat)])/\er≠0/\BkP w' b O bk/\∃c',c'<=8*bs.length/\St w' p s bs c'
 | .ok (x,c')=>e=.returned (.tuple #[.agg (pv x.1),.bool (jF x.1),.int .i64 0])/\BkP w' b O x.2/\c'<=8*bs.length/\St w' p s bs c'
theorem Dh(w:World)(b p c:Nat)(s:Value)(bs:List Nat)(last:Bool)(left:Nat)(O:Nat→Prop)(hB:BkP w b O (.raw last left))(hbp:¬Fp p s b)(hs:St w p s bs c)(hc:c≤8*bs.length)(ag:bs.length≤100000000):
  Calls Tryz.prog 168 #[.pointer (some ⟨b,0,none⟩),.pointer (some ⟨p,0,none⟩)] w λe w'=>StepPA w' b p s bs O (.raw last left) e (bF (ae bs) (.raw last left) c)/\Kept (λj=>j=p\/j=b) w w':=by
 obtain⟨W,hW⟩:∃W,W=w.alloc (.cells #[.int .u8 0,.int .i64 0,.int .i64 0] 138):=⟨_,rfl⟩
 have hk0:Same w W:=by rw[hW];exact(Kept.refl _ w).alloc _
 have HK0:Hid (Kept (λj=>j=p\/j=b) w W):=hid (hk0.mono (λ_ _ f=>f.elim));have HBK:Hid (Blk W w.heap.size cF 138):=hid (by rw[hW];exact Blk.new w _ _);have ml:p<w.heap.size:=hs.lt;have Jh:b<w.heap.size:=hB.1.lt;have hBW:Blk W b #[.bool last,.int .i64 (left:Nat),.pointer none] 201:=hB.1.kept hk0 (λf=>f);have hb1:=hBW.cell 1;simp at hb1;have HBW:Hid (Blk W b #[.bool last,.int .i64 (left:Nat),.pointer none] 201):=hBW;have bm:b≠p:=λe=>hbp (.inl e)
 have HNE:Hid (¬Fp p s b):=hbp;have HS:Hid (St W p s bs c):=hid (hs.kept hk0 (λ_ _ f=>f));have HP:Hid (∀j,Fp p s j->j<w.heap.size):=hid (λj h=>hs.fp_lt h);have hl:left<=65535:=hB.2;have HL:Hid (left<=65535):=hl;have HC:Hid (c<=8*bs.length):=hc;have HT:=fj W p c 8 s bs HS.out hc ag (by decide);clear hs hB hBW hk0 hbp hc;cases left with
 | zero=>
  have HE:Hid (bF (ae bs) (.raw last 0) c=.ok ((.fin,.raw last 0),c)):=hid (gJ _ _ _);subst hW;clear HT hl;go_enter Tryz.func168,Tryz.ntmps168;go_wp2_with fail;refine bodyPost_ret (v:=.tuple #[.agg cF,.bool true,.int .i64 0]) (by simp[results,Tryz.results168,go_sem]) rfl ?_;refine⟨?_,HK0.out⟩;rw[HE.out];exact⟨rfl,⟨HBW.out,HL.out⟩,HC.out,HS.out⟩
 | succ m=>
  have U2:((((m+1:Nat):Int))==0)=false:=(by simp;omega);obtain⟨l1,kY⟩:∃l1,l1=m+1:=⟨_,rfl⟩
  rw[<-kY]at hb1 U2 HBW hl HL;have jE:(l1:Int)-1=(m:Int):=(by omega);have HL1:Hid (l1=m+1):=kY;rw[<-kY];clear kY;cases ht:iF (ae bs) c 8 with
  | error er=>
   rw[ht]at HT;have HE:Hid (bF (ae bs) (.raw last l1) c=.error er):=hid (by rw[HL1.out,ej,bO ht]);clear ht;subst hW;go_enter Tryz.func168,Tryz.ntmps168;go_wp2_with fail;refine HT.mono ?_;rintro e w2 ⟨hn2,hk2⟩;obtain⟨rfl,cE,hst⟩:=hn2.err;have lL:((er:Int) != 0)=true:=(by simp;omega);have HER:Hid (er≠0):=cE;have HST:Hid (∃c',c'<=8*bs.length/\St w2 p s bs c'):=hst;have HKE:Hid (Kept (λj=>j=p\/j=b) w w2):=hid (HK0.out.trans hk2 (λ_ _ h=>h) (λ_ _ h=>.inl h));have HBE:Hid (Blk w2 w.heap.size cF 138):=hid (HBK.out.kept hk2 (by omega));have HBB:Hid (Blk w2 b #[.bool last,.int .i64 (l1:Nat),.pointer none] 201):=hid (HBW.out.kept hk2 bm);have tO:=HBE.out.frozen 0;have py:=HBE.out.frozen 1;have vm:=HBE.out.frozen 2;have jR:=HBE.out.cell 0;have jY:=HBE.out.cell 1;have jX:=HBE.out.cell 2;simp at jR jY jX;clear cE hst hk2 hn2 HT;go_wp2_with fail;have HKF:Hid (Kept (·=w.heap.size) w2 (((w2.setCell ⟨w.heap.size,0,none⟩ (.int .u8 0)).setCell ⟨w.heap.size,1,none⟩ (.int .i64 0)).setCell ⟨w.heap.size,2,none⟩ (.int .i64 0))):=hid ((((Kept.refl (·=w.heap.size) w2).setCell ⟨w.heap.size,0,none⟩ _ (.inl rfl)).setCell ⟨w.heap.size,1,none⟩ _ (.inl rfl)).setCell ⟨w.heap.size,2,none⟩ _ (.inl rfl));refine bodyPost_ret (v:=.tuple #[.agg cF,.bool false,.int .i64 (er:Nat)]) (by simp[results,Tryz.results168,go_sem,jR,jY,jX]) rfl ?_;refine⟨?_,Kept.trans HKE.out HKF.out (λ_ _ h=>h) (λj hj e=>by omega)⟩;rw[HE.out];obtain⟨c9,h9,hs9⟩:=HST.out;exact⟨rfl,HER.out,⟨HBB.out.kept HKF.out (by omega),HL.out⟩,c9,h9,hs9.kept HKF.out (λj h e=>by have:=HP.out j h;omega)⟩
  | ok x=>
   obtain⟨x,c2⟩:=x;rw[ht]at HT;have UZ:x<256:=by rw[(d7 ht).1];exact bY _ (ay bs) _ _
   have yQ:(x:Int) % 256=(x:Int):=(by omega);have HE:Hid (bF (ae bs) (.raw last l1) c=.ok ((.byte x,.raw last m),c2)):=hid (by rw[HL1.out,ej,aF ht]);clear ht;subst hW;go_enter Tryz.func168,Tryz.ntmps168;go_wp2_with fail;refine HT.mono ?_;rintro e w2 ⟨hn2,hk2⟩;obtain⟨rfl,cS,hst⟩:=hn2.ok;have HC2:Hid (c2<=8*bs.length):=cS;have HST:Hid (St w2 p s bs c2):=hst;have HKE:Hid (Kept (λj=>j=p\/j=b) w w2):=hid (HK0.out.trans hk2 (λ_ _ h=>h) (λ_ _ h=>.inl h));have HBE:Hid (Blk w2 w.heap.size cF 138):=hid (HBK.out.kept hk2 (by omega));have HBB:Hid (Blk w2 b #[.bool last,.int .i64 (l1:Nat),.pointer none] 201):=hid (HBW.out.kept hk2 bm);have d1:=HBB.out.cell 1;have ZZ:=HBB.out.frozen 1;simp at d1;have HBF:Hid (Blk (w2.setCell ⟨b,1,none⟩ (.int .i64 (m:Nat))) w.heap.size cF 138):=hid (HBE.out.kept ((Kept.refl (·=b) w2).setCell ⟨b,1,none⟩ _ (.inl rfl)) (by omega));have tO:(w2.setCell ⟨b,1,none⟩ (.int .i64 (m:Nat))).frozen? ⟨w.heap.size,0,none⟩=false:=HBF.out.frozen 0;have py:(w2.setCell ⟨b,1,none⟩ (.int .i64 (m:Nat))).frozen? ⟨w.heap.size,1,none⟩=false:=HBF.out.frozen 1;have vm:(w2.setCell ⟨b,1,none⟩ (.int .i64 (m:Nat))).frozen? ⟨w.heap.size,2,none⟩=false:=HBF.out.frozen 2;have jR:(w2.setCell ⟨b,1,none⟩ (.int .i64 (m:Nat))).cell? ⟨w.heap.size,0,none⟩=some (.int .u8 0):=HBF.out.cell 0;have jY:(w2.setCell ⟨b,1,none⟩ (.int .i64 (m:Nat))).cell? ⟨w.heap.size,1,none⟩=some (.int .i64 0):=HBF.out.cell 1;have jX:(w2.setCell ⟨b,1,none⟩ (.int .i64 (m:Nat))).cell? ⟨w.heap.size,2,none⟩=some (.int .i64 0):=HBF.out.cell 2;clear cS hst hk2 hn2 HT;go_wp2_with fail;have HKB:Hid (Kept (·=b) w2 (w2.setCell ⟨b,1,none⟩ (.int .i64 (m:Nat)))):=hid ((Kept.refl (·=b) w2).setCell ⟨b,1,none⟩ _ (.inl rfl));have HB3:Hid (Blk (w2.setCell ⟨b,1,none⟩ (.int .i64 (m:Nat))) b #[.bool last,.int .i64 (m:Nat),.pointer none] 201):=hid (by
    have:=HBB.out.set 1 (.int .i64 (m:Nat));simpa using this)
   have HS3:Hid (St (w2.setCell ⟨b,1,none⟩ (.int .i64 (m:Nat))) p s bs c2):=hid (HST.out.kept HKB.out (λj h e=>HNE.out (by rw[<-e];exact h)));have HK3:Hid (Kept (λj=>j=p\/j=b) w (w2.setCell ⟨b,1,none⟩ (.int .i64 (m:Nat)))):=hid (HKE.out.trans HKB.out (λ_ _ h=>h) (λ_ _ h=>.inr h));have HKF:Hid (Kept (·=w.heap.size) (w2.setCell ⟨b,1,none⟩ (.int .i64 (m:Nat))) ((((w2.setCell ⟨b,1,none⟩ (.int .i64 (m:Nat))).setCell ⟨w.heap.size,0,none⟩ (.int .u8 (x:Nat))).setCell ⟨w.heap.size,1,none⟩ (.int .i64 0)).setCell ⟨w.heap.size,2,none⟩ (.int .i64 0))):=hid ((((Kept.refl (·=w.heap.size) (w2.setCell ⟨b,1,none⟩ (.int .i64 (m:Nat)))).setCell ⟨w.heap.size,0,none⟩ _ (.inl rfl)).setCell ⟨w.heap.size,1,none⟩ _ (.inl rfl)).setCell ⟨w.heap.size,2,none⟩ _ (.inl rfl));refine bodyPost_ret (v:=.tuple #[.agg #[.int .u8 (x:Nat),.int .i64 0,.int .i64 0],.bool false,.int .i64 0]) (by simp[results,Tryz.results168,go_sem,jR,jY,jX]) rfl ?_;refine⟨?_,Kept.trans HK3.out HKF.out (λ_ _ h=>h) (λj hj e=>by omega)⟩;rw[HE.out];exact⟨rfl,⟨HB3.out.kept HKF.out (by omega),by have:=HL.out;have:=HL1.out;omega⟩,HC2.out,HS3.out.kept HKF.out (λj h e=>by have:=HP.out j h;omega)⟩
end Go.Proofs.YtkhagfgineifhaaGreatDoor
