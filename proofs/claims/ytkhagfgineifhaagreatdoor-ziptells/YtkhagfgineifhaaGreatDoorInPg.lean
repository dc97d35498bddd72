import Derived.Test.YtkhagfgineifhaaGreatDoorInPf
set_option maxHeartbeats 4000000
set_option maxRecDepth 100000
namespace Go.Proofs.YtkhagfgineifhaaGreatDoor
open Go.RowKit
theorem xE(l:List Nat)(h0:0<l.length)(hl:l.length<=288)(h15:∀x∈l,x<=15):chk (l.map (fun(n:Nat)=>(n:Int)))=bw l:=by
 have hok:eC (l.map (fun(n:Nat)=>(n:Int))) 0 15=true:=by simp only[eC,List.length_map,Bool.and_eq_true,decide_eq_true_eq,Bool.not_eq_true',List.any_eq_false];refine⟨⟨by omega,by omega⟩,λz hz=>?_⟩;obtain⟨n,hn,rfl⟩:=List.mem_map.1 hz;have:=h15 n hn;simp[d6];omega
 unfold chk;rw[if_pos hok,List.map_map];have e:l.map (Int.toNat ∘ fun(n:Nat)=>(n:Int))=l:=by
  conv=>rhs;rw[<-List.map_id l]
  exact List.map_congr_left (λn _=>by simp)
 rw[e]
theorem nn(w:World)(v:Value)(I:Nat→Prop)(ns:List Nat)(hs:SrcE am w I v ns)(hg:Lok ns):
  Calls Tryz.prog 163 #[v] w λe w'=>(∃d vc vs,e=.returned (.tuple #[.pointer (some ⟨d,0,none⟩),.int .i64 0])/\Dec w' d vc vs ns/\∀k,DF d vc vs k->w.heap.size<=k)/\Same w w':=
 vE w v I _ ns (hs.recode hg.good.eq.symm) hg.good (by rw[xE ns hg.pos hg.max hg.le];exact hg.ok)
def Cd(a b k:Nat):Prop:=a<=k/\k<b
theorem zc(w:World):
  Calls Tryz.prog 133 #[] w λe w'=>∃k,e=.returned (.pointer (some ⟨k,0,none⟩))/\CodesP w' k fixL fixD (Cd w.heap.size w'.heap.size)/\Same w w':=by
 have H1:=iV w 8 144 (by decide);have H2:=λwx:World=>iV wx 9 112 (by decide)
 have H3:=λwx:World=>iV wx 7 24 (by decide)
 have H4:=λwx:World=>iV wx 8 8 (by decide)
 have H5:=λwx:World=>iV wx 5 32 (by decide)
 go_enter Tryz.func133,Tryz.ntmps133;go_wp2_with fail;refine H1.mono ?_;rintro e w1 ⟨g1,rfl,hr1,hk1⟩;have HR1:Hid (NRow w.heap.size w1 (.slice (some ⟨g1,0,none⟩) 144 144) (List.replicate 144 8)):=hr1;have HK1:Hid (Same w w1):=hk1;clear hr1 hk1 H1;go_wp2_with fail;refine(H2 w1).mono ?_;rintro e w2 ⟨g2,rfl,hr2,hk2⟩;have HR2:Hid (NRow w1.heap.size w2 (.slice (some ⟨g2,0,none⟩) 112 112) (List.replicate 112 9)):=hr2;have HK2:Hid (Same w1 w2):=hk2;clear hr2 hk2 H2;go_wp2_with fail;refine(H3 w2).mono ?_;rintro e w3 ⟨g3,rfl,hr3,hk3⟩;have HR3:Hid (NRow w2.heap.size w3 (.slice (some ⟨g3,0,none⟩) 24 24) (List.replicate 24 7)):=hr3;have HK3:Hid (Same w2 w3):=hk3;clear hr3 hk3 H3;go_wp2_with fail;refine(H4 w3).mono ?_;rintro e w4 ⟨g4,rfl,hr4,hk4⟩;have HR4:Hid (NRow w3.heap.size w4 (.slice (some ⟨g4,0,none⟩) 8 8) (List.replicate 8 8)):=hr4;have HK4:Hid (Same w3 w4):=hk4;clear hr4 hk4 H4;have HCC:Hid (∀W:World,Same w4 W→∀h,W.cell? ⟨h,0,none⟩=some (.slice (some ⟨g1,0,none⟩) 144 144)→W.cell? ⟨h,1,none⟩=some (.slice (some ⟨g2,0,none⟩) 112 112)→W.cell? ⟨h,2,none⟩=some (.slice (some ⟨g3,0,none⟩) 24 24)→W.cell? ⟨h,3,none⟩=some (.slice (some ⟨g4,0,none⟩) 8 8) →
   Calls Tryz.prog 122 #[.slice (some ⟨h,0,none⟩) 4 4] W λe w'=>∃v',e=.returned v'/\NRow W.heap.size w' v' fixL/\Same W w'):=hid (λW hW h h0 h1 h2 h3=>by
  have hB:=Same.trans HK4.out hW;have hC:=Same.trans HK3.out hB;have hD:=Same.trans HK2.out hC;exact oQ W h 144 112 24 8 g1 g2 g3 g4 _ _ _ _ h0 h1 h2 h3 (RowE.base (HR1.out.same hD) (Nat.zero_le _)) (RowE.base (HR2.out.same hC) (Nat.zero_le _)) (RowE.base (HR3.out.same hB) (Nat.zero_le _)) (RowE.base (HR4.out.same hW) (Nat.zero_le _)) (by decide) (by decide) (by decide) (by decide) (by decide))
 have HK04:Hid (Same w w4):=hid (Same.trans HK1.out (Same.trans HK2.out (Same.trans HK3.out HK4.out)));clear HR1 HR2 HR3 HR4 HK1 HK2 HK3 HK4;go_wp2_with fail;refine(HCC.out _ ((Kept.refl _ w4).alloc _) w4.heap.size (by simp) (by simp) (by simp) (by simp)).mono ?_;rintro e w5 ⟨v5,rfl,hr5,hk5⟩;have yG:Same w4 w5:=Same.trans ((Kept.refl _ w4).alloc _) hk5;have HK5:Hid (Same w w5):=hid (Same.trans HK04.out yG);have HN1:=nn w5 v5 _ fixL (SrcE.ofRow hr5) fix_ok.lit;obtain⟨a5,jT,rfl,_⟩:=hr5.shape;clear hr5 hk5 HCC HK04 yG;go_wp2_with fail;refine HN1.mono ?_;rintro e w6 ⟨⟨d,vc,vs,rfl,fR,yA⟩,hk6⟩;have HDEC:Hid (Dec w6 d vc vs fixL):=fR;have HDF:Hid (∀k,DF d vc vs k->w.heap.size<=k):=hid (λk hk=>Nat.le_trans HK5.out.size (yA k hk));have HK6:Hid (Same w w6):=hid (Same.trans HK5.out hk6);clear fR yA hk6 HN1;go_wp2_with fail;refine(H5 w6).mono ?_;rintro e w7 ⟨g7,rfl,Lh,dk⟩;have HN2:=nn w7 _ _ fixD (SrcE.ofRow Lh) (fix_ok.dist (by decide));have HDEC7:Hid (Dec w7 d vc vs fixL):=hid (HDEC.out.kept dk (λ_ _ f=>f));have HK7:Hid (Same w w7):=hid (Same.trans HK6.out dk);clear Lh dk H5 HDEC;go_wp2_with fail;refine HN2.mono ?_;rintro e w8 ⟨⟨d2,LN,LE,rfl,fR,yA⟩,hk8⟩;have HD1:Hid (Dec w8 d vc vs fixL):=hid (HDEC7.out.kept hk8 (λ_ _ f=>f));have HD2:Hid (Dec w8 d2 LN LE fixD):=fR;have HF2:Hid (∀k,DF d2 LN LE k->w.heap.size<=k):=hid (λk hk=>Nat.le_trans HK7.out.size (yA k hk));have HK8:Hid (Same w w8):=hid (Same.trans HK7.out hk8);clear fR yA hk8 HN2;go_wp2_with fail;go_ret;have SM:Same w8 (w8.alloc (.cells #[.pointer (some ⟨d,0,none⟩),.pointer (some ⟨d2,0,none⟩)] 238)):=(Kept.refl _ w8).alloc _;have dA:(w8.alloc (.cells #[.pointer (some ⟨d,0,none⟩),.pointer (some ⟨d2,0,none⟩)] 238)).heap.size=w8.heap.size+1:=by simp
 refine⟨w8.heap.size,rfl,⟨d,vc,vs,_,Blk.new w8 _ _,HD1.out.kept SM (λ_ _ f=>f),λj hj=>⟨HDF.out j hj,?_⟩,.inr ⟨by decide,d2,LN,LE,rfl,HD2.out.kept SM (λ_ _ f=>f),λj hj=>⟨HF2.out j hj,?_⟩⟩,⟨HK8.out.size,?_⟩⟩,Same.trans HK8.out SM⟩
 ·rw[dA];exact Nat.lt_succ_of_lt (HD1.out.lt hj)
 ·rw[dA];exact Nat.lt_succ_of_lt (HD2.out.lt hj)
 ·rw[dA];exact Nat.lt_succ_self _
abbrev Lg(bx fx:Nat):Value:=.func (.func 162) #[] #[.pointer (some ⟨bx,0,none⟩),.pointer (some ⟨fx,0,none⟩)]
def Onc(w:World)(bx fx:Nat)(O:Nat->Prop):Prop:=
 Blk w fx #[.func (.func 133) #[] #[]] 192/\(Blk w bx #[.pointer none] 199\/∃k,Blk w bx #[.pointer (some ⟨k,0,none⟩)] 199/\CodesP w k fixL fixD O)
theorem Onc.kept{F O:Nat->Prop}{w w':World}{bx fx:Nat}(h:Onc w bx fx O)(hk:Kept F w w')(hO:∀j,O j->¬F j)(hb:¬F bx)(hf:¬F fx):Onc w' bx fx O:=by
 refine⟨h.1.kept hk hf,?_⟩;rcases h.2 with h2 | ⟨k,h2,h3⟩
 ·exact .inl (h2.kept hk hb)
 ·exact .inr ⟨k,h2.kept hk hb,h3.kept hk hO⟩
theorem Onc.less{O O':Nat->Prop}{w:World}{bx fx:Nat}(h:Onc w bx fx O)(hO:∀j,O j->O' j):Onc w bx fx O':=by
 refine⟨h.1,?_⟩;rcases h.2 with h2 | ⟨k,h2,h3⟩
 ·exact .inl h2
 ·exact .inr ⟨k,h2,h3.less hO⟩
theorem Dw(w:World):
  Calls Tryz.prog 132 #[.func (.func 133) #[] #[]] w λe w'=>e=.returned (Lg (w.heap.size+1) w.heap.size)/\Onc w' (w.heap.size+1) w.heap.size (λ_=>False)/\Same w w'/\w'.heap.size=w.heap.size+2:=by
 go_enter Tryz.func132,Tryz.ntmps132;go_wp2_with fail;go_ret;refine⟨rfl,⟨?_,.inl ?_⟩,((Kept.refl _ w).alloc _).alloc _,by simp⟩
 ·exact(Blk.new w _ _).kept ((Kept.refl (λ_=>False) _).alloc _) (λf=>f)
 ·have:=Blk.new (w.alloc (.cells #[.func (.func 133) #[] #[]] 192)) #[.pointer none] 199;simpa using this
theorem yZ(w:World)(bx fx:Nat)(O:Nat→Prop)(h:Onc w bx fx O)(KB:bx≠fx):
  Calls Tryz.prog 162 #[.pointer (some ⟨bx,0,none⟩),.pointer (some ⟨fx,0,none⟩)] w λe w'=>∃k O',e=.returned (.pointer (some ⟨k,0,none⟩))/\Onc w' bx fx O'/\CodesP w' k fixL fixD O'/\(∀j,O j->O' j)/\(∀j,O' j->O j\/Cd w.heap.size w'.heap.size j)/\Kept (·=bx) w w':=by
 obtain⟨hf,hb | ⟨k,hb,hc⟩⟩:=id h
 ·have HO:Hid (Onc w bx fx O):=h;have b0:=hb.cell 0;have f0:=hf.cell 0;have hbl:=hb.lt;simp at b0 f0;have HB:Hid (Blk w bx #[.pointer none] 199):=hb;have HF:Hid (Blk w fx #[.func (.func 133) #[] #[]] 192):=hf;have HP:=zc w;clear h hf hb;go_enter Tryz.func162,Tryz.ntmps162;go_wp2_with fail;refine HP.mono ?_;rintro e w2 ⟨k,rfl,hc,hk⟩;have HB2:Hid (Blk w2 bx #[.pointer none] 199):=hid (HB.out.kept hk (λf=>f));have HF2:Hid (Blk w2 fx #[.func (.func 133) #[] #[]] 192):=hid (HF.out.kept hk (λf=>f));have c0:=HB2.out.cell 0;have z0:=HB2.out.frozen 0;simp at c0;have HC:Hid (CodesP w2 k fixL fixD (Cd w.heap.size w2.heap.size)):=hc;have HK:Hid (Same w w2):=hk;clear hc hk HP;go_wp2_with fail;go_ret;have hks:Kept (·=bx) w2 (w2.setCell ⟨bx,0,none⟩ (.pointer (some ⟨k,0,none⟩))):=(Kept.refl (·=bx) w2).setCell ⟨bx,0,none⟩ _ (.inl rfl);have dA:(w2.setCell ⟨bx,0,none⟩ (.pointer (some ⟨k,0,none⟩))).heap.size=w2.heap.size:=(by simp[World.setCell]);have Wk:Blk (w2.setCell ⟨bx,0,none⟩ (.pointer (some ⟨k,0,none⟩))) bx #[.pointer (some ⟨k,0,none⟩)] 199:=by
   have:=HB2.out.set 0 (.pointer (some ⟨k,0,none⟩));simpa using this
  have TU:CodesP (w2.setCell ⟨bx,0,none⟩ (.pointer (some ⟨k,0,none⟩))) k fixL fixD (λj=>O j\/Cd w.heap.size w2.heap.size j):=(HC.out.kept hks (λj hj e=>by have:=hj.1;omega)).less (λj hj=>.inr hj);refine⟨k,λj=>O j\/Cd w.heap.size w2.heap.size j,rfl,⟨HF2.out.kept hks (λe=>KB e.symm),.inr ⟨k,Wk,TU⟩⟩,TU,λj hj=>.inl hj,λj hj=>?_,Kept.trans (HK.out.mono (λ_ _ f=>f.elim)) hks (λ_ _ f=>f) (λ_ _ f=>f)⟩;rw[dA];exact hj
 ·have HO:Hid (Onc w bx fx O):=h;have b0:=hb.cell 0;simp at b0;have HC:Hid (CodesP w k fixL fixD O):=hc;clear h hf hb hc;go_enter Tryz.func162,Tryz.ntmps162;go_wp2_with fail;go_ret;exact⟨k,O,rfl,HO.out,HC.out,λ_ h=>h,λ_ h=>.inl h,Kept.refl _ _⟩
end Go.Proofs.YtkhagfgineifhaaGreatDoor
