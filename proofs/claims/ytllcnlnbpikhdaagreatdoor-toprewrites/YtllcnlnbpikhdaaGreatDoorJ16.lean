import Derived.Maps.OwnSet
import Derived.DeepKeys4
import Derived.WideKeyPair
import Derived.Test.YtllcnlnbpikhdaaGreatDoorJ14
set_option maxHeartbeats 4000000
set_option maxRecDepth 100000
namespace Go.Proofs.YtllcnlnbpikhdaaGreatDoor
open Go.RowKit Go.Maps
theorem Tryz.laidOutM:laidOutB Tryz.prog=true:=by kernel_rfl
theorem triKey:Keyed Tryz.prog 204:=Keyed.of_law (deep_law_laid Tryz.laidOutM (m:=2) (by omega) (by decide +kernel) (by kernel_rfl) (by kernel_rfl))
def kT(a b c:Nat):Lit:=.string (keyBytes [.int .u8 (a:Nat),.int .u8 (b:Nat),.int .u8 (c:Nat)])
theorem Qq{a:Nat}(h:a<256):(Lit.int .u8 (a:Nat)).wf=true:=WalkArith.wf_u8 (by omega)
theorem arrT:WideMaps.ArrKey Tryz.prog 204 5 3:=⟨Tryz.underlying204,by kernel_rfl,by kernel_rfl,by kernel_rfl⟩
theorem Jt{a b c:Nat}(ha:a<256)(hb:b<256)(hc:c<256):keyOf Tryz.prog 204 (.agg #[.int .u8 (a:Nat),.int .u8 (b:Nat),.int .u8 (c:Nat)])=some (kT a b c):=by
 have Is:0<Tryz.prog.types.size:=by decide +kernel
 have cX:∃m,Tryz.prog.types.size=m+1:=⟨Tryz.prog.types.size-1,by omega⟩
 have Wz:=arrT.keyType cX;obtain⟨m,hm⟩:=cX;unfold keyOf;simp only[arrT.hu];rw[if_pos (by simp[Wz,Value.formed,arrT.hu,arrT.size]),hm];unfold Program.keyLits;simp only[arrT.hu,Value.cells];rw[if_pos (by rw[arrT.size];rfl),show List.range 3=[0,1,2]from rfl,List.mapM_cons,List.mapM_cons,List.mapM_cons,List.mapM_nil];simp[arrT.one,Program.keyLits,Tryz.underlying5,Qq ha,Qq hb,Qq hc,kT]
theorem F8{a b c a' b' c':Nat}(ha:a<256)(hb:b<256)(hc:c<256)(QT:a'<256)(iH:b'<256)(Er:c'<256)(h:kT a b c=kT a' b' c'):a=a'/\b=b'/\c=c':=by have h1:=triKey.inj (Jt ha hb hc) (by rw[h];exact Jt QT iH Er);simp at h1;omega
structure MapI(D:DataW Unit)(data:List Nat)(i:Nat):Prop where
 is:IsMap D
 has:∀a b c,a<256->b<256->c<256->Maps.has D (kT a b c)=(iS data a b c i).isSome
 tells:∀a b c q,a<256->b<256->c<256->iS data a b c i=some q->D.atKey (kT a b c) (.lit (.int .i64 0))=.lit (.int .i64 (q:Nat))
theorem MapI.start(data:List Nat):MapI (.map []) data 0:=⟨isMap_empty,λ_ _ _ _ _ _=>rfl,λ_ _ _ _ _ _ _ h=>by cases h⟩
theorem MapI.put{D:DataW Unit}{data:List Nat}{i a b c:Nat}(h:MapI D data i)(ha:a<256)(hb:b<256)(hc:c<256)(h1:data.getD i 0=a)(h2:data.getD (i+1) 0=b)(h3:data.getD (i+2) 0=c):
  MapI (D.put (kT a b c) (.lit (.int .i64 (i:Nat)))) data (i+1):=by
 have hkey:WideAt.IsKeyLit (kT a b c):=triKey.key (Jt ha hb hc);have hT:∀x y z,xO data i x y z=true↔(a=x/\b=y/\c=z):=λx y z=>by rw[xI,h1,h2,h3]
 refine⟨h.is.put _ _,λx y z hx hy hz=>?_,λx y z q hx hy hz hl=>?_⟩
 ·by_cases e:a=x/\b=y/\c=z
  ·obtain⟨rfl,rfl,rfl⟩:=e;rw[has_put_same h.is hkey,iS,if_pos ((hT a b c).2 ⟨rfl,rfl,rfl⟩)];rfl
  ·rw[has_put_other (λe9=>e (F8 ha hb hc hx hy hz e9.symm)),h.has x y z hx hy hz,iS,if_neg (λe9=>e ((hT x y z).1 e9))]
 ·rw[iS]at hl;by_cases e:a=x/\b=y/\c=z
  ·obtain⟨rfl,rfl,rfl⟩:=e;rw[if_pos ((hT a b c).2 ⟨rfl,rfl,rfl⟩)]at hl;simp only[Option.some.injEq]at hl;subst hl;exact atKey_put_same h.is hkey _ _
  ·rw[if_neg (λe9=>e ((hT x y z).1 e9))]at hl;rw[atKey_put_other (λe9=>e (F8 ha hb hc hx hy hz e9.symm))];exact h.tells x y z q hx hy hz hl
theorem Kt(w:World):(zeroValue 3).run Tryz.prog w=.ok (.int .i64 0) w:=by kernel_rfl
theorem vR(w:World)(v:Value)(I:Nat→Prop)(data:List Nat)(hs:Src w I v data)(hb:∀b∈data,b<256)(ag:data.length≤20000):
  Calls Tryz.prog 100 #[v] w λe w'=>∃v',e=.returned v'/\oR w.heap.size w' v' (nT data)/\Same w w':=by
 obtain⟨ao,cap,rfl,hc⟩:=id hs;have HS:Hid (Src w I (.slice ao data.length cap) data):=hs;have HB:Hid (∀b∈data,b<256):=hb;obtain⟨L,hL⟩:∃L,L=data.length:=⟨_,rfl⟩
 have HL:Hid (L=data.length):=hL;rw[<-hL]at HS ag ⊢;have OR:=@run_makeMap Tryz.prog;clear hs hc hb hL;go_enter Tryz.func100,Tryz.ntmps100;go_wp2_with fail;go_loopg [3,14] L (λq zo zi wr=>∃(i:Nat) (D:DataW Unit),L-i<=q/\i<=L-2/\zi=.int .i64 (i:Nat)/\Hid (oR (w.heap.size+1) wr zo ((nT data).take i))/\Hid (Same w wr)/\Hid (wr.ownsMap Tryz.prog 204 (plainElem Tryz.prog 3) w.heap.size i D)/\Hid (MapI D data i))
 case atStart=>exact⟨0,.map [],by omega,by omega,rfl,hid (by simpa using RowE.nil),hid ((Kept.refl _ w).alloc _),hid (World.ownsMap_made w _ _ _),hid (MapI.start data)⟩
 case round=>
  obtain⟨i,D,hq,hi,rfl,HR,HK,HO,HM⟩:=hrel;by_cases hlt:i<L-2
  ·have g1:decide ((i:Int)<(L:Int)-3+1)=true:=(by simp;omega);have cX:w.heap.size<wr.heap.size:=HO.out.lt;obtain⟨b,o,e1,_,bO⟩:∃b o,ao=some ⟨b,o,none⟩/\True/\∀j (_:j<data.length),wr.cell? ⟨b,o+j,none⟩=some (.int .u8 (data[j]:Nat)):=by
    obtain⟨ao',cap',e1,e2⟩:=HS.out.kept HK.out (λ_ _ _ f=>f);injection e1 with e3 _ _;subst e3;obtain⟨b,o,e4,_,e5⟩:=e2 (by intro e;rw[e]at HL;have:=HL.out;simp at this;omega);exact⟨b,o,e4,trivial,e5⟩
   subst e1;have UX:=HL.out;obtain⟨x,hx⟩:∃x,x=data.getD i 0:=⟨_,rfl⟩
   obtain⟨y,hy⟩:∃x,x=data.getD (i+1) 0:=⟨_,rfl⟩
   obtain⟨z,hz⟩:∃x,x=data.getD (i+2) 0:=⟨_,rfl⟩
   have gx:data.getD i 0=data[i]'(by omega):=(by simp[List.getD,show i<data.length by omega]);have gy:data.getD (i+1) 0=data[i+1]'(by omega):=(by simp[List.getD,show i+1<data.length by omega]);have gz:data.getD (i+2) 0=data[i+2]'(by omega):=(by simp[List.getD,show i+2<data.length by omega]);have c0:wr.cell? ⟨b,o+i,none⟩=some (.int .u8 (x:Nat)):=(by rw[hx,gx];exact bO i (by omega));obtain⟨i1,yd⟩:∃x,x=i+1:=⟨_,rfl⟩
   obtain⟨i2,uD⟩:∃x,x=i+2:=⟨_,rfl⟩
   have c1:wr.cell? ⟨b,o+i1,none⟩=some (.int .u8 (y:Nat)):=(by rw[hy,gy,yd];exact bO (i+1) (by omega));have c2:wr.cell? ⟨b,o+i2,none⟩=some (.int .u8 (z:Nat)):=(by rw[hz,gz,uD];exact bO (i+2) (by omega));have a1:(i:Int)+1=(i1:Int):=(by omega);have a2:(i:Int)+2=(i2:Int):=(by omega);have w1:IntKind.i64.wrap (i1:Int)=(i1:Int):=(by rw[IntKind.wrap_i64];omega);have w2:IntKind.i64.wrap (i2:Int)=(i2:Int):=(by rw[IntKind.wrap_i64];omega);have l1:i1<L:=(by omega);have l2:i2<L:=(by omega);have l0:i<L:=(by omega);have HX:Hid (x<256/\y<256/\z<256):=hid ⟨by rw[hx,gx];exact HB.out _ (List.getElem_mem _),by rw[hy,gy];exact HB.out _ (List.getElem_mem _),by rw[hz,gz];exact HB.out _ (List.getElem_mem _)⟩;have HXE:Hid (data.getD i 0=x/\data.getD (i+1) 0=y/\data.getD (i+2) 0=z):=hid ⟨hx.symm,hy.symm,hz.symm⟩;have hal:Same wr (wr.alloc (.cells #[.int .u8 0,.int .u8 0,.int .u8 0] 204)):=(Kept.refl _ wr).alloc _;have d0:=hal.cell c0 (λf=>f);have d1:=hal.cell c1 (λf=>f);have d2:=hal.cell c2 (λf=>f);have HLT:Hid (i+1<=L-2):=hid (by omega);clear bO hx hy hz gx gy gz yd uD UX hlt hal;go_wp2_with fail;go_region;obtain⟨W,hW⟩:∃W,W=(wr.alloc (.cells #[.int .u8 (x:Nat),.int .u8 (y:Nat),.int .u8 (z:Nat)] 204)).drew:=⟨_,rfl⟩
   have hkW:Same wr W:=(by rw[hW];exact((Kept.refl _ wr).alloc _).drew);have HBW:Hid (Blk W wr.heap.size #[.int .u8 (x:Nat),.int .u8 (y:Nat),.int .u8 (z:Nat)] 204):=hid (by rw[hW];exact Blk.new wr _ _);have b0:W.cell? ⟨wr.heap.size,0,none⟩=some (.int .u8 (x:Nat)):=HBW.out.cell 0;have b1:W.cell? ⟨wr.heap.size,1,none⟩=some (.int .u8 (y:Nat)):=HBW.out.cell 1;have b2:W.cell? ⟨wr.heap.size,2,none⟩=some (.int .u8 (z:Nat)):=HBW.out.cell 2;have HOW:Hid (W.ownsMap Tryz.prog 204 (plainElem Tryz.prog 3) w.heap.size i D):=hid (by rw[hW];exact(HO.out.alloc _).drew);have HKW:Hid (Same w W):=hid (Same.trans HK.out hkW);have HRW:Hid (oR (w.heap.size+1) W u3 ((nT data).take i)):=hid (HR.out.kept hkW (λ_ _ f=>f));have HKEY:Hid (keyOf Tryz.prog 204 (.agg #[.int .u8 (x:Nat),.int .u8 (y:Nat),.int .u8 (z:Nat)])=some (kT x y z)):=hid (Jt HX.out.1 HX.out.2.1 HX.out.2.2);have HMN:Hid (MapI (D.put (kT x y z) (.lit (.int .i64 (i:Nat)))) data (i+1)):=hid (HM.out.put HX.out.1 HX.out.2.1 HX.out.2.2 HXE.out.1 HXE.out.2.1 HXE.out.2.2);have VF:wr.heap.size<W.heap.size:=HBW.out.lt;have HTK:Hid ((nT data).take (i+1)=(nT data).take i++[oH data i]):=hid (by
    have h2:i<(nT data).length:=(by rw[gM,<-HL.out];omega);rw[List.take_succ_eq_append_getElem h2,Bc data i (by rw[<-HL.out];omega)])
   have HNE:Hid (some w.heap.size≠u3.ownBlock):=hid (λe=>by have:=HR.out.ge e.symm;omega);have HRNE:Hid (∀j,u3.ownBlock=some j->w.heap.size+1<=j/\j<wr.heap.size):=hid (λj e=>⟨HR.out.ge e,HR.out.lt e⟩);have HLN:Hid (((nT data).take i).length+1<=1000000000):=hid (by rw[List.length_take];omega);rw[<-hW];clear hW hkW c0 c1 c2 d0 d1 d2 a1 a2 w1 w2 l1 l2 HO HR HK;have J1:=HM.out.has x y z HX.out.1 HX.out.2.1 HX.out.2.2;have Mu:=HM.out.tells x y z;obtain⟨cv,MM⟩:∃c,c=oH data i:=⟨_,rfl⟩
   have Km:cv=match iS data x y z i with | some q=>(q:Int) | none=>-1:=by rw[MM];unfold oH;rw[HXE.out.1,HXE.out.2.1,HXE.out.2.2];rfl
   have HCV:Hid (cv=oH data i):=MM;clear MM HM;cases ce:iS data x y z i with
   | none=>
    rw[ce]at J1 Km;simp only[Option.isSome_none]at J1 Km;subst Km;clear Mu ce;go_wp2_with (first
     | (at_lookup;refine wpList_lookup_own_ok_int _ rfl _ _ 203 rfl 204 3 .i64 triKey Tryz.underlying203 Tryz.underlying3 (Kt _) w.heap.size i D rfl HOW.out _ _ rfl HKEY.out ?_;intro c hat Q2;clear hat Q2)
     | (at_builtin;refine aX _ bI mY (w.heap.size+1) 138 3 (bI 0) 8 Tryz.underlying138 Tryz.infoI rfl (by decide) rfl (.tmp 40) (.tmp 42) rfl u3 ((nT data).take i) rfl (World.ownsRow.alloc HRW.out _) ⟨W.heap.size,0,none⟩ 1 1 [-1] rfl rfl (bw _ _ _) HLN.out (by simp;omega) ?_;intro v5 w5 hr5 d8;have HR5:=hid hr5;have hk5:Kept (λj=>u3.ownBlock=some j) W w5:=((Kept.refl (λj=>u3.ownBlock=some j) W).alloc _).grown d8 (λj e=>.inl e);have HK5:=hid hk5;have HB5:Hid (Blk w5 wr.heap.size #[.int .u8 (x:Nat),.int .u8 (y:Nat),.int .u8 (z:Nat)] 204):=hid (HBW.out.kept hk5 (λe=>by have:=HRNE.out _ e;omega));have HO5:Hid (w5.ownsMap Tryz.prog 204 (plainElem Tryz.prog 3) w.heap.size i D):=hid ((HOW.out.alloc _).kept d8 HNE.out);have e0:w5.cell? ⟨wr.heap.size,0,none⟩=some (.int .u8 (x:Nat)):=HB5.out.cell 0;have e1:w5.cell? ⟨wr.heap.size,1,none⟩=some (.int .u8 (y:Nat)):=HB5.out.cell 1;have e2:w5.cell? ⟨wr.heap.size,2,none⟩=some (.int .u8 (z:Nat)):=HB5.out.cell 2;clear hr5 d8 hk5)
     | (at_mapUpdate;refine wpList_mapUpdate_own _ rfl _ _ _ 203 rfl 204 3 triKey Tryz.underlying203 _ w.heap.size i D rfl HO5.out (by unfold maxLen;omega) _ _ _ rfl rfl HKEY.out _ [] (plainElem_int Tryz.underlying3 (WalkArith.wf_i64 (by omega))) ?_;intro w6 th ra))
    have HR6:Hid (oR (w.heap.size+1) w6 v5 ((nT data).take (i+1))):=hid (by
     rw[HTK.out,<-HCV.out];exact RowE.kept HR5.out (((Kept.refl (λj=>j=w.heap.size) w5).grown ra (λj e=>.inl (by simpa using e.symm)))) (λj e e2=>by have:=RowE.ge HR5.out e;omega))
    have HK6:Hid (Same w w6):=hid (Kept.trans (H:=λ_=>False) (Kept.trans (H:=λj=>w.heap.size+1<=j) HKW.out HK5.out (λ_ _ f=>f.elim) (λj _ e=>(HRNE.out j e).1)) ((Kept.refl (λj=>j=w.heap.size) w5).grown ra (λj e=>.inl (by simpa using e.symm))) (λj hj f=>by omega) (λj hj f=>by omega));have HO6:Hid (w6.ownsMap Tryz.prog 204 (plainElem Tryz.prog 3) w.heap.size (i+1) (D.put (kT x y z) (.lit (.int .i64 (i:Nat))))):=hid th;go_roundg (gk-1)
    case measure=>omega
    case rel=>exact⟨i+1,_,by omega,HLT.out,by go_num,HR6,HK6,HO6,HMN⟩
   | some q=>
    rw[ce]at J1 Km;simp only[Option.isSome_some]at J1 Km;have HTQ:Hid (D.atKey (kT x y z) (.lit (.int .i64 0))=.lit (.int .i64 (q:Nat))):=hid (Mu q HX.out.1 HX.out.2.1 HX.out.2.2 ce);have HCQ:Hid (cv=(q:Int)):=Km;clear Mu ce Km;go_wp2_with (first
     | (at_lookup;refine wpList_lookup_own_ok_int _ rfl _ _ 203 rfl 204 3 .i64 triKey Tryz.underlying203 Tryz.underlying3 (Kt _) w.heap.size i D rfl HOW.out _ _ rfl HKEY.out ?_;intro c hat Q2;have hcq:c=cv:=(by rw[HTQ.out]at hat;simp at hat;rw[HCQ.out];exact hat.symm);have HCC:Hid (c=cv):=hcq;clear hat Q2 hcq)
     | (at_builtin;refine aX _ bI mY (w.heap.size+1) 138 3 (bI 0) 8 Tryz.underlying138 Tryz.infoI rfl (by decide) rfl (.tmp 40) (.tmp 42) rfl u3 ((nT data).take i) rfl (World.ownsRow.alloc HRW.out _) ⟨W.heap.size,0,none⟩ 1 1 [c] rfl rfl (bw _ _ _) HLN.out (by simp;omega) ?_;intro v5 w5 hr5 d8;have HR5:=hid hr5;have hk5:Kept (λj=>u3.ownBlock=some j) W w5:=((Kept.refl (λj=>u3.ownBlock=some j) W).alloc _).grown d8 (λj e=>.inl e);have HK5:=hid hk5;have HB5:Hid (Blk w5 wr.heap.size #[.int .u8 (x:Nat),.int .u8 (y:Nat),.int .u8 (z:Nat)] 204):=hid (HBW.out.kept hk5 (λe=>by have:=HRNE.out _ e;omega));have HO5:Hid (w5.ownsMap Tryz.prog 204 (plainElem Tryz.prog 3) w.heap.size i D):=hid ((HOW.out.alloc _).kept d8 HNE.out);have e0:w5.cell? ⟨wr.heap.size,0,none⟩=some (.int .u8 (x:Nat)):=HB5.out.cell 0;have e1:w5.cell? ⟨wr.heap.size,1,none⟩=some (.int .u8 (y:Nat)):=HB5.out.cell 1;have e2:w5.cell? ⟨wr.heap.size,2,none⟩=some (.int .u8 (z:Nat)):=HB5.out.cell 2;clear hr5 d8 hk5)
     | (at_mapUpdate;refine wpList_mapUpdate_own _ rfl _ _ _ 203 rfl 204 3 triKey Tryz.underlying203 _ w.heap.size i D rfl HO5.out (by unfold maxLen;omega) _ _ _ rfl rfl HKEY.out _ [] (plainElem_int Tryz.underlying3 (WalkArith.wf_i64 (by omega))) ?_;intro w6 th ra))
    have HR6:Hid (oR (w.heap.size+1) w6 v5 ((nT data).take (i+1))):=hid (by
     rw[HTK.out,<-HCV.out,<-HCC.out];exact RowE.kept HR5.out (((Kept.refl (λj=>j=w.heap.size) w5).grown ra (λj e=>.inl (by simpa using e.symm)))) (λj e e2=>by have:=RowE.ge HR5.out e;omega))
    have HK6:Hid (Same w w6):=hid (Kept.trans (H:=λ_=>False) (Kept.trans (H:=λj=>w.heap.size+1<=j) HKW.out HK5.out (λ_ _ f=>f.elim) (λj _ e=>(HRNE.out j e).1)) ((Kept.refl (λj=>j=w.heap.size) w5).grown ra (λj e=>.inl (by simpa using e.symm))) (λj hj f=>by omega) (λj hj f=>by omega));have HO6:Hid (w6.ownsMap Tryz.prog 204 (plainElem Tryz.prog 3) w.heap.size (i+1) (D.put (kT x y z) (.lit (.int .i64 (i:Nat))))):=hid th;go_roundg (gk-1)
    case measure=>omega
    case rel=>exact⟨i+1,_,by omega,HLT.out,by go_num,HR6,HK6,HO6,HMN⟩
  ·have g1:decide ((i:Int)<(L:Int)-3+1)=false:=(by simp;omega);have HR2:Hid (oR w.heap.size wr u3 (nT data)):=hid (by
    have h:=HR.out;rw[show i=(nT data).length by rw[gM,<-HL.out];omega,List.take_length]at h;exact RowE.base h (by omega))
   clear hlt;go_wp2_with fail;go_ret;exact⟨_,rfl,HR2.out,HK.out⟩
end Go.Proofs.YtllcnlnbpikhdaaGreatDoor
