import Derived.Test.YtkhagfgineifhaaGreatDoorDfK
set_option maxHeartbeats 400000
set_option maxRecDepth 100000
namespace Go.Proofs.YtkhagfgineifhaaGreatDoor
open Go.RowKit
theorem DG{lit dist:List Nat}{many:Nat}{cs:List Nat}{sn:List (Nat×Nat)}(h:l6 lit dist many cs sn)(hl:sn.length<=316):(bB lit.length dist.length many cs sn).length<=10000:=by
 have h1:∀ss:List (Nat×Nat),(ss.flatMap (aC cs)).length<=14*ss.length:=λss=>by
  induction ss with
  | nil=>simp
  | cons s r ih=>
   rw[List.flatMap_cons,List.length_append,fS,List.length_cons];have h2:=key_le h.c7 s.1;have h3:dF s.1<=7:=(by unfold dF;split<;>(try split)<;>(try split)<;>omega);omega
 have h4:=h1 sn;have h5:=h.m2;unfold bB;simp only[List.length_append,af,cP];omega
def rY(ts:List TK):List Nat:=kW (aV (cC ts)) (aV (bl ts)) (dL (cZ (ba (aV (cC ts)++aV (bl ts)))) 19) (cZ (ba (aV (cC ts)++aV (bl ts)))) (eW (aV (cC ts)++aV (bl ts))) ts
def uj(ts:List TK):Prop:=l6 (aV (cC ts)) (aV (bl ts)) (dL (cZ (ba (aV (cC ts)++aV (bl ts)))) 19) (cZ (ba (aV (cC ts)++aV (bl ts)))) (eW (aV (cC ts)++aV (bl ts)))
theorem Ci(l:List Nat):(l.map (fun(n:Nat)=>(n:Int))).map Int.toNat=l:=by
 rw[List.map_map];conv=>rhs;rw[<-List.map_id l]
 exact List.map_congr_left (λn _=>by simp)
theorem Me{w:World}(h:Tab w):0<w.heap.size:=World.block_lt_of_cell? w _ (h 0 (by decide))
theorem xW(w:World)(v:Value)(I:Nat→Prop)(ts:List TK)(n:Nat)(hs:TkSrc w I v ts)(hm:ce 16384 ts 0=.ok n)(hb:∀t∈ts,t.lit<256)(hT:Tab w):
  Calls Tryz.prog 64 #[v] w λe w'=>∃v' bs,e=.returned v'/\NB w w' v' bs/\mz bs (rY ts)/\uj ts:=by
 have hdy:=Hb hm hb;have HCN:=Ey w v I ts n hs hm hb;have HC1:Hid (∀W u J,SrcE am W J u (cC ts)->Calls Tryz.prog 95 #[u] W λe w'=>∃v',e=.returned v'/\NRow W.heap.size w' v' (aV (cC ts))/\Same W w'):=hid (λW u J h=>qN W u J _ h (by rw[hdy.ll];decide) (by rw[hdy.ll];decide) hdy.lc);have HC2:Hid (∀W u J,SrcE am W J u (bl ts)->Calls Tryz.prog 95 #[u] W λe w'=>∃v',e=.returned v'/\NRow W.heap.size w' v' (aV (bl ts))/\Same W w'):=hid (λW u J h=>qN W u J _ h (by rw[hdy.dl];decide) (by rw[hdy.dl];decide) hdy.dc);have HLT:Hid ((ts.flatMap (aw (aV (cC ts)) (aV (bl ts)))).length+key (aV (cC ts)) 256<=1000000):=hid (by
  have h1:=jw (key_le hdy.ok.lit.le) (key_le hdy.ok.le) ts (λt ht=>Bn hm hdy.toks t ht);have h2:=fI hm;have h3:=key_le hdy.ok.lit.le 256;omega)
 have HLY:Hid (∀w3 w4 p s l d X,NW w w3 p s X->Same w3 w4->X.length<=100000->SrcE am w4 (Off w4 p s) l (aV (cC ts))->SrcE am w4 (Off w4 p s) d (aV (bl ts))->Calls Tryz.prog 91 #[.pointer (some ⟨p,0,none⟩),v,l,d] w4 λe w'=>(∃u,e=.returned u)/\∃s',NW w w' p s' (X++(ts.flatMap (aw (aV (cC ts)) (aV (bl ts)))++aE (aV (cC ts)) 256))):=hid (λw3 w4 p s l d X h1 h2 hX h3 h4=>by
  have h5:=h1.same' h2;refine(lC w4 p s _ v l d ts _ _ n h5.wr h5.bit hX (TkSrc.off hs h5) h3 h4 hdy.ok hdy.toks hm).mono ?_;rintro e w' ⟨he,s',h6⟩;exact⟨he,s',h5.ws h6⟩)
 have HWR:Hid (∀w3 p s X al ad cl cd I J,NW w w3 p s X->X.length<=100->SrcE am w3 I (.slice al (aV (cC ts)).length cl) (aV (cC ts))->SrcE am w3 J (.slice ad (aV (bl ts)).length cd) (aV (bl ts))->Calls Tryz.prog 96 #[.pointer (some ⟨p,0,none⟩),.slice al (aV (cC ts)).length cl,.slice ad (aV (bl ts)).length cd] w3 λe w'=>e=.returned (.int .i64 0)/\F1 w3 w' p s X (aV (cC ts)) (aV (bl ts))):=hid (λw3 p s X al ad cl cd I J h1 hX h2 h3=>by
  have h9:=CL w3 p s X al ad _ cl _ cd I J _ _ (h2.recode (enc':=bI) (ys:=(aV (cC ts)).map (fun(n:Nat)=>(n:Int))) (by rw[List.map_map];rfl)) (h3.recode (enc':=bI) (ys:=(aV (bl ts)).map (fun(n:Nat)=>(n:Int))) (by rw[List.map_map];rfl)) hdy.may (WS.start h1.wr h1.bit) (by omega) (hT.kept h1.same (λf=>f)) (λf=>by have:=h1.own _ f;have:=Me hT;omega);rw[Ci,Ci]at h9;exact h9)
 have HLEN:Hid ((aV (cC ts)).length+(aV (bl ts)).length<=316):=hid (by
  have h1:=(tT (cC ts) (by rw[hdy.ll];decide) (by rw[hdy.ll];decide)).max;have h2:=(tT (bl ts) (by rw[hdy.dl];decide) (by rw[hdy.dl];decide)).max;rw[hdy.ll]at h1;rw[hdy.dl]at h2;omega)
 have HGO:Hid (∀X,rY ts=X->True):=hid (λ_ _=>trivial);clear hs hm hb hT hdy HGO;go_enter Tryz.func64,Tryz.ntmps64;go_wp2_with fail;refine HCN.mono ?_;rintro e w1 ⟨vl,vd,rfl,hl,hd,hk1⟩;have HL1:Hid (NRow w.heap.size w1 vl (cC ts)):=hl;have HD1:Hid (NRow w.heap.size w1 vd (bl ts)):=hd;have HK1:Hid (Same w w1):=hk1;have HA:=HC1.out w1 vl _ (SrcE.ofRow hl);clear hl hd hk1 HCN HC1;go_wp2_with fail;refine HA.mono ?_;rintro e w2 ⟨cl,rfl,hl,hk2⟩;have HL2:Hid (NRow w1.heap.size w2 cl (aV (cC ts))):=hl;have HK2:Hid (Same w1 w2):=hk2;have HB:=HC2.out w2 vd _ (SrcE.ofRow (HD1.out.same hk2));clear hl hk2 HA HC2;go_wp2_with fail;refine HB.mono ?_;rintro e w3 ⟨cd,rfl,hd,hk3⟩;have HL3:Hid (NRow w1.heap.size w3 cl (aV (cC ts))):=hid (HL2.out.same hk3);have HD3:Hid (NRow w2.heap.size w3 cd (aV (bl ts))):=hd;have HK3:Hid (Same w w3):=hid (Same.trans HK1.out (Same.trans HK2.out hk3));have HB0:=oe w3 2 (by decide);clear hd hk3 HB HL2 HL1 HD1;go_wp2_with fail;refine HB0.mono ?_;rintro e w4 ⟨p,s,rfl,hw4⟩;obtain⟨a1,jh,fA,_⟩:=HL3.out.shape;obtain⟨a2,Ii,rL,_⟩:=HD3.out.shape;subst fA rL;have HW4:Hid (NW w w4 p s ([1]++aj 2 2)):=hid ⟨hw4.wr,hw4.bit,Same.trans HK3.out hw4.same,λk f=>Nat.le_trans HK3.out.size (hw4.own k f)⟩;have HL4:Hid (NRow w1.heap.size w4 (.slice a1 (aV (cC ts)).length jh) (aV (cC ts))/\∀k,(Value.slice a1 (aV (cC ts)).length jh).ownBlock=some k->Off w4 p s k):=hid ⟨HL3.out.same hw4.same,λk e=>by
  have h:=HL3.out.lt e;exact⟨Nat.lt_of_lt_of_le h hw4.same.size,λf=>by have:=hw4.own k f;omega⟩⟩
 have HD4:Hid (NRow w2.heap.size w4 (.slice a2 (aV (bl ts)).length Ii) (aV (bl ts))/\∀k,(Value.slice a2 (aV (bl ts)).length Ii).ownBlock=some k->Off w4 p s k):=hid ⟨HD3.out.same hw4.same,λk e=>by
  have h:=HD3.out.lt e;exact⟨Nat.lt_of_lt_of_le h hw4.same.size,λf=>by have:=hw4.own k f;omega⟩⟩
 have HW:=HWR.out w4 p s _ a1 a2 jh Ii _ _ HW4.out (by simp[aj]) (SrcE.ofRow HL4.out.1) (SrcE.ofRow HD4.out.1);clear hw4 HB0 HL3 HD3 HWR HK1 HK2 HK3;go_wp2_with fail;refine HW.mono ?_;rintro e w5 ⟨rfl,s5,many,cs,sn,⟨e1,e2,e3⟩,hho,Jj,hws⟩;subst e1 e2 e3;have HHO:Hid (uj ts):=hho;have XC:=DG hho (Nat.le_trans Jj HLEN.out);have jU:=HW4.out.ws hws;have HLA:=HLY.out w5 w5 p s5 _ _ _ jU (Kept.refl _ _) (by rw[List.length_append,List.length_append,af];simp;omega)
  (((SrcE.ofRow HL4.out.1).kept hws.kept (λk e _=>(HL4.out.2 k e).2)).mono (λk e=>⟨Nat.lt_of_lt_of_le (HL4.out.2 k e).1 hws.kept.size,hws.off (HL4.out.2 k e)⟩))
  (((SrcE.ofRow HD4.out.1).kept hws.kept (λk e _=>(HD4.out.2 k e).2)).mono (λk e=>⟨Nat.lt_of_lt_of_le (HD4.out.2 k e).1 hws.kept.size,hws.off (HD4.out.2 k e)⟩))
 have eq:[1]++aj 2 2++bB (aV (cC ts)).length (aV (bl ts)).length (dL (cZ (ba (aV (cC ts)++aV (bl ts)))) 19) (cZ (ba (aV (cC ts)++aV (bl ts)))) (eW (aV (cC ts)++aV (bl ts)))++(ts.flatMap (aw (aV (cC ts)) (aV (bl ts)))++aE (aV (cC ts)) 256)=rY ts:=by unfold rY kW;rw[List.append_assoc];rfl
 have HDL:Hid ((rY ts).length<=10000000):=hid (by
  rw[<-eq];have:=HLT.out;simp only[List.length_append,aq,af,List.length_cons,List.length_nil];omega)
 rw[eq]at HLA;clear hws hho Jj XC jU HW HLY HW4 HL4 HD4 eq;go_wp2_with fail;refine HLA.mono ?_;rintro e w6 ⟨⟨u6,rfl⟩,s6,hw6⟩;have HBY:=hw6.bytes w w6 p s6 _ (by have:=HDL.out;omega);have HBT:Hid (∀b∈rY ts,b<2):=hid hw6.bit;clear hw6 HLA;go_wp2_with fail;refine HBY.mono ?_;rintro e w7 ⟨v7,bs,rfl,hnb,hn5,IP⟩;have HE:Hid (NB w w7 v7 bs/\mz bs (rY ts)):=hid ⟨hnb,GD bs _ hnb.byte HBT.out hn5 IP⟩;obtain⟨a5,c5,gt,_⟩:=hnb.row.shape;subst gt;clear hnb hn5 IP HBY;go_wp2_with fail;go_ret;exact⟨_,bs,rfl,HE.out.1,HE.out.2,HHO.out⟩
end Go.Proofs.YtkhagfgineifhaaGreatDoor
