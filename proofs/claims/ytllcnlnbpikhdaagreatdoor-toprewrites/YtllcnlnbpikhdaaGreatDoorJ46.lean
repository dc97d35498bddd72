import Derived.Deep.RegionHeld3
import Derived.Test.YtllcnlnbpikhdaaGreatDoorJ40
import Derived.Test.YtllcnlnbpikhdaaGreatDoorJ38
import Derived.Test.YtllcnlnbpikhdaaGreatDoorJ39
import Derived.Test.YtllcnlnbpikhdaaGreatDoorJ45
set_option maxHeartbeats 4000000
set_option maxRecDepth 100000
namespace Go.Proofs.YtllcnlnbpikhdaaGreatDoor
open Go.RowKit
theorem wg(a b:Nat)(ha:a<2 ^ 62)(hb:b<2 ^ 62):bits .and .i64 (a:Int) (b:Int)=((a &&& b:Nat):Int):=by
 have h9:(2:Nat) ^ 62=4611686018427387904:=by decide
 have hx:a &&& b<2 ^ 62:=Nat.and_lt_two_pow _ hb;have ho:∀c:Nat,c<2 ^ 62->(BitVec.ofInt 64 (c:Int)).toNat=c:=λc hc=>by rw[BitVec.ofInt_natCast,BitVec.toNat_ofNat];exact Nat.mod_eq_of_lt (by omega)
 show IntKind.i64.wrap ((BitVec.ofInt 64 (a:Int) &&& BitVec.ofInt 64 (b:Int)).toNat:Int)=_;rw[BitVec.toNat_and,ho a ha,ho b hb,IntKind.wrap_i64];omega
theorem sB(n wd:Nat)(hn:n<=100000)(hw:wd<=27):IntKind.u32.wrap (bits BinOp.and IntKind.i64 (n:Int) (IntKind.i64.wrap (IntKind.i64.wrap (2 ^ wd)-1)))=((n % 2 ^ wd:Nat):Int):=by
 have h9:(2:Nat) ^ 62=4611686018427387904:=by decide
 have XW:(2:Nat) ^ 27=134217728:=by decide
 have hp:2 ^ wd<=2 ^ 27:=Nat.pow_le_pow_right (by decide) hw;have yn:0<2 ^ wd:=Nat.two_pow_pos wd;have e1:((2:Int) ^ wd)=((2 ^ wd:Nat):Int):=by simp
 have TB:n % 2 ^ wd<=n:=Nat.mod_le _ _;have e2:IntKind.i64.wrap (IntKind.i64.wrap (2 ^ wd)-1)=((2 ^ wd-1:Nat):Int):=by rw[e1];generalize 2 ^ wd=p at hp yn;rw[IntKind.wrap_i64,IntKind.wrap_i64];omega
 rw[e2,wg n (2 ^ wd-1) (by omega) (by omega),vZ,IntKind.wrap_u32'];generalize n % 2 ^ wd=x at TB;omega
theorem A4(n wd k:Nat)(hn:n<=100000)(hw:wd<=27)(hk:k<=4):IntKind.i64.wrap (IntKind.i64.wrap ((wd:Int)*(k:Int))+(n:Int) / 2 ^ wd)=((wd*k+n / 2 ^ wd:Nat):Int):=by
 have hq:(n:Int) / 2 ^ wd=((n / 2 ^ wd:Nat):Int):=by simp
 have Oc:n / 2 ^ wd<=n:=Nat.div_le_self _ _;have hm:wd*k<=27*4:=Nat.mul_le_mul hw hk;rw[hq,<-Int.natCast_mul];generalize n / 2 ^ wd=q at Oc;generalize wd*k=m at hm;rw[IntKind.wrap_i64,IntKind.wrap_i64];omega
theorem y9(w:World)(n:Nat)(hn:n≤254):
  Calls Tryz.prog 137 #[.int .i64 (n:Nat),.int .i64 3] w λe w'=>e=.returned (.agg #[.int .i64 (eD n 3:Nat),.int .u32 (dX n 3:Nat),.int .i64 (bW n 3:Nat)])/\Same w w':=by
 have H:=wR (w.alloc (.cells #[.int .i64 0,.int .u32 0,.int .i64 0] 168)) (n:Int) (by omega) (by omega);rw[show((n:Int)).toNat=n from rfl]at H;obtain⟨b,hb⟩:∃b,oM n=b:=⟨_,rfl⟩
 obtain⟨wd,mc⟩:∃wd,bW n 3=wd:=⟨_,rfl⟩
 rw[hb]at H;have rn:max ((b:Int)-3) 0=(wd:Int):=by unfold bW at mc;omega
 have Mr:b<=20:=by rw[<-hb];exact(fQ n 20).2 (by omega)
 have hz:wrap64 ((b:Int)-3)=(b:Int)-3:=by unfold wrap64;omega
 have hw2:IntKind.i64.wrap 2=2:=rfl;have x9:wd<=27:=by unfold bW at mc;omega
 clear Mr;go_enter Tryz.func137,Tryz.ntmps137;go_wp2_with fail;refine H.mono ?_;rintro e w1 ⟨rfl,hw1⟩;subst hw1;clear H;go_wp2_with fail;go_region_with fail;have v1:IntKind.i64.wrap (IntKind.i64.wrap ((wd:Int)*4)+(n:Int) / 2 ^ wd)=((eD n 3:Nat):Int):=by have:=A4 n wd 4 (by omega) x9 (by decide);unfold eD;rw[mc];exact this
 have v2:IntKind.u32.wrap (bits BinOp.and IntKind.i64 (n:Int) (IntKind.i64.wrap (IntKind.i64.wrap (2 ^ wd)-1)))=((dX n 3:Nat):Int):=by unfold dX;rw[mc];exact sB n wd (by omega) x9
 rw[v1,v2];go_wp2_with fail;refine bodyPost_ret (v:=.agg #[.int .i64 (eD n 3:Nat),.int .u32 (dX n 3:Nat),.int .i64 (wd:Nat)]) (by rw[br rfl];simp[go_sem]) rfl ?_;exact⟨by rw[mc],((Kept.refl _ w).alloc _).drewN _⟩
theorem Aj(w:World)(n:Nat)(hn:n≤16383):
  Calls Tryz.prog 137 #[.int .i64 (n:Nat),.int .i64 2] w λe w'=>e=.returned (.agg #[.int .i64 (eD n 2:Nat),.int .u32 (dX n 2:Nat),.int .i64 (bW n 2:Nat)])/\Same w w':=by
 have H:=wR (w.alloc (.cells #[.int .i64 0,.int .u32 0,.int .i64 0] 168)) (n:Int) (by omega) (by omega);rw[show((n:Int)).toNat=n from rfl]at H;obtain⟨b,hb⟩:∃b,oM n=b:=⟨_,rfl⟩
 obtain⟨wd,mc⟩:∃wd,bW n 2=wd:=⟨_,rfl⟩
 rw[hb]at H;have rn:max ((b:Int)-2) 0=(wd:Int):=by unfold bW at mc;omega
 have Mr:b<=20:=by rw[<-hb];exact(fQ n 20).2 (by omega)
 have hz:wrap64 ((b:Int)-2)=(b:Int)-2:=by unfold wrap64;omega
 have hw2:IntKind.i64.wrap 1=1:=rfl;have x9:wd<=27:=by unfold bW at mc;omega
 clear Mr;go_enter Tryz.func137,Tryz.ntmps137;go_wp2_with fail;refine H.mono ?_;rintro e w1 ⟨rfl,hw1⟩;subst hw1;clear H;go_wp2_with fail;go_region_with fail;have v1:IntKind.i64.wrap (IntKind.i64.wrap ((wd:Int)*2)+(n:Int) / 2 ^ wd)=((eD n 2:Nat):Int):=by have:=A4 n wd 2 (by omega) x9 (by decide);unfold eD;rw[mc];exact this
 have v2:IntKind.u32.wrap (bits BinOp.and IntKind.i64 (n:Int) (IntKind.i64.wrap (IntKind.i64.wrap (2 ^ wd)-1)))=((dX n 2:Nat):Int):=by unfold dX;rw[mc];exact sB n wd (by omega) x9
 rw[v1,v2];go_wp2_with fail;refine bodyPost_ret (v:=.agg #[.int .i64 (eD n 2:Nat),.int .u32 (dX n 2:Nat),.int .i64 (wd:Nat)]) (by rw[br rfl];simp[go_sem]) rfl ?_;exact⟨by rw[mc],((Kept.refl _ w).alloc _).drewN _⟩
def kQ(t:TK):Value:=.agg #[.int .u8 (t.lit:Nat),.int .i64 t.len,.int .i64 t.dist]
def De(m:MK):Value:=.agg #[.int .i64 (m.sym:Nat),.int .u32 (m.extra:Nat),.int .i64 (m.width:Nat)]
theorem gp(w:World)(t:TK):Calls Tryz.prog 108 #[kQ t] w λe w'=>e=.returned (.bool (decide (0<t.len)))/\Same w w':=by unfold kQ;obtain⟨l,n,d⟩:=t;simp only;go_enter Tryz.func108,Tryz.ntmps108;go_wp2_with fail;go_ret;exact⟨rfl,(Kept.refl _ w).alloc _⟩
theorem mV(w:World)(t:TK)(h1:1<=t.dist)(h2:t.dist<=16384):Calls Tryz.prog 109 #[kQ t] w λe w'=>e=.returned (De (aH t))/\Same w w':=by
 unfold kQ;obtain⟨l,n,d⟩:=t;simp only at h1 h2 ⊢;obtain⟨x,hx⟩:∃x:Nat,d=(x:Int)+1:=⟨d.toNat-1,by omega⟩
 subst hx;obtain⟨W,hW⟩:∃W,W=(w.alloc (.cells #[.int .u8 (l:Nat),.int .i64 n,.int .i64 ((x:Int)+1)] 133)).alloc (.cells #[.int .i64 0,.int .u32 0,.int .i64 0] 168):=⟨_,rfl⟩
 have HW:Hid (Same w W):=hid (by rw[hW];exact((Kept.refl _ w).alloc _).alloc _);have HB:Hid (Blk W (w.heap.size+1) #[.int .i64 0,.int .u32 0,.int .i64 0] 168):=hid (by rw[hW];have h:=Blk.new (w.alloc (.cells #[.int .u8 (l:Nat),.int .i64 n,.int .i64 ((x:Int)+1)] 133)) #[.int .i64 0,.int .u32 0,.int .i64 0] 168;rw[World.size_alloc]at h;exact h);have H:=Aj W x (by omega);have hd:(x:Int)+1-1=(x:Int):=by omega
 have HM:Hid (aH ⟨l,n,((x:Int)+1)⟩=⟨eD x 2,dX x 2,bW x 2⟩):=hid (by
  unfold aH;simp only;rw[show((x:Int)+1).toNat-1=x by omega])
 generalize eD x 2=sa at H HM;generalize dX x 2=sb at H HM;generalize bW x 2=sc at H HM;go_enter Tryz.func109,Tryz.ntmps109;go_wp2_with fail;rw[<-hW];clear hW;refine H.mono ?_;rintro e w1 ⟨rfl,hk1⟩;have HB1:Hid (Blk w1 (w.heap.size+1) #[.int .i64 0,.int .u32 0,.int .i64 0] 168):=hid (HB.out.kept hk1 (λf=>f));have HK1:Hid (Same w w1):=hid (Same.trans HW.out hk1);have c0:=HB1.out.cell 0;have c1:=HB1.out.cell 1;have c2:=HB1.out.cell 2;have f0:=HB1.out.frozen 0;have f1:=HB1.out.frozen 1;have f2:=HB1.out.frozen 2;simp at c0 c1 c2;clear hk1 H;go_wp2_with fail;have hb3:=((HB1.out.set 0 (.int .i64 (sa:Nat))).set 1 (.int .u32 (sb:Nat))).set 2 (.int .i64 (sc:Nat));have d0:=hb3.cell 0;have d1:=hb3.cell 1;have d2:=hb3.cell 2;simp at d0 d1 d2;refine bodyPost_ret (v:=.agg #[.int .i64 (sa:Nat),.int .u32 (sb:Nat),.int .i64 (sc:Nat)]) (by rw[br rfl];simp[go_sem,d0,d1,d2]) rfl ?_;refine⟨by rw[HM.out];rfl,((HK1.out.setCell _ _ (.inr (by simp))).setCell _ _ (.inr (by simp))).setCell _ _ (.inr (by simp))⟩
theorem Fq(w:World)(l:Nat)(d:Int)(hl:l<256):Calls Tryz.prog 107 #[.agg #[.int .u8 (l:Nat),.int .i64 0,.int .i64 d]] w λe w'=>e=.returned (.agg #[.int .i64 (l:Nat),.int .u32 0,.int .i64 0])/\Same w w':=by
 obtain⟨W,hW⟩:∃W,W=(w.alloc (.cells #[.int .u8 (l:Nat),.int .i64 0,.int .i64 d] 133)).alloc (.cells #[.int .i64 0,.int .u32 0,.int .i64 0] 168):=⟨_,rfl⟩
 have HW:Hid (Same w W):=hid (by rw[hW];exact((Kept.refl _ w).alloc _).alloc _);have HA:Hid (Blk W w.heap.size #[.int .u8 (l:Nat),.int .i64 0,.int .i64 d] 133):=hid (by rw[hW];exact(Blk.new w _ _).kept ((Kept.refl (λ_=>False) _).alloc _) (λf=>f));have HB:Hid (Blk W (w.heap.size+1) #[.int .i64 0,.int .u32 0,.int .i64 0] 168):=hid (by rw[hW];have h:=Blk.new (w.alloc (.cells #[.int .u8 (l:Nat),.int .i64 0,.int .i64 d] 133)) #[.int .i64 0,.int .u32 0,.int .i64 0] 168;rw[World.size_alloc]at h;exact h);have HC:=gp W ⟨l,0,d⟩;unfold kQ at HC;simp only at HC;simp only[show decide ((0:Int)<0)=false from by decide]at HC;have R5:wrap64 (l:Int)=(l:Int):=by unfold wrap64;omega
 go_enter Tryz.func107,Tryz.ntmps107;go_wp2_with fail;rw[<-hW];clear hW;refine HC.mono ?_;rintro e w1 ⟨rfl,hk1⟩;have HA1:Hid (Blk w1 w.heap.size #[.int .u8 (l:Nat),.int .i64 0,.int .i64 d] 133):=hid (HA.out.kept hk1 (λf=>f));have HB1:Hid (Blk w1 (w.heap.size+1) #[.int .i64 0,.int .u32 0,.int .i64 0] 168):=hid (HB.out.kept hk1 (λf=>f));have HK1:Hid (Same w w1):=hid (Same.trans HW.out hk1);have e0:=HA1.out.cell 0;have e1:=HA1.out.cell 1;simp at e0 e1;have c0:=HB1.out.cell 0;have c1:=HB1.out.cell 1;have c2:=HB1.out.cell 2;have f0:=HB1.out.frozen 0;have f1:=HB1.out.frozen 1;have f2:=HB1.out.frozen 2;simp at c0 c1 c2;clear hk1 HC;go_wp2_with fail;have hb3:=((HB1.out.set 0 (.int .i64 (l:Nat))).set 1 (.int .u32 0)).set 2 (.int .i64 0);have d0:=hb3.cell 0;have d1:=hb3.cell 1;have d2:=hb3.cell 2;simp at d0 d1 d2;refine bodyPost_ret (v:=.agg #[.int .i64 (l:Nat),.int .u32 0,.int .i64 0]) (by rw[br rfl];simp[go_sem,d0,d1,d2]) rfl ?_;exact⟨rfl,((HK1.out.setCell _ _ (.inr (by simp))).setCell _ _ (.inr (by simp))).setCell _ _ (.inr (by simp))⟩
theorem zP(w:World)(l:Nat)(d:Int)  : Calls Tryz.prog 107 #[.agg #[.int .u8 (l:Nat),.int .i64 258,.int .i64 d]] w λe w'=>e=.returned (.agg #[.int .i64 285,.int .u32 0,.int .i64 0])/\Same w w':=by
 obtain⟨W,hW⟩:∃W,W=(w.alloc (.cells #[.int .u8 (l:Nat),.int .i64 258,.int .i64 d] 133)).alloc (.cells #[.int .i64 0,.int .u32 0,.int .i64 0] 168):=⟨_,rfl⟩
 have HW:Hid (Same w W):=hid (by rw[hW];exact((Kept.refl _ w).alloc _).alloc _);have HA:Hid (Blk W w.heap.size #[.int .u8 (l:Nat),.int .i64 258,.int .i64 d] 133):=hid (by rw[hW];exact(Blk.new w _ _).kept ((Kept.refl (λ_=>False) _).alloc _) (λf=>f));have HB:Hid (Blk W (w.heap.size+1) #[.int .i64 0,.int .u32 0,.int .i64 0] 168):=hid (by rw[hW];have h:=Blk.new (w.alloc (.cells #[.int .u8 (l:Nat),.int .i64 258,.int .i64 d] 133)) #[.int .i64 0,.int .u32 0,.int .i64 0] 168;rw[World.size_alloc]at h;exact h);have HC:=gp W ⟨l,258,d⟩;unfold kQ at HC;simp only at HC;simp only[show decide ((0:Int)<258)=true from by decide]at HC;go_enter Tryz.func107,Tryz.ntmps107;go_wp2_with fail;rw[<-hW];clear hW;refine HC.mono ?_;rintro e w1 ⟨rfl,hk1⟩;have HA1:Hid (Blk w1 w.heap.size #[.int .u8 (l:Nat),.int .i64 258,.int .i64 d] 133):=hid (HA.out.kept hk1 (λf=>f));have HB1:Hid (Blk w1 (w.heap.size+1) #[.int .i64 0,.int .u32 0,.int .i64 0] 168):=hid (HB.out.kept hk1 (λf=>f));have HK1:Hid (Same w w1):=hid (Same.trans HW.out hk1);have e0:=HA1.out.cell 0;have e1:=HA1.out.cell 1;simp at e0 e1;have c0:=HB1.out.cell 0;have c1:=HB1.out.cell 1;have c2:=HB1.out.cell 2;have f0:=HB1.out.frozen 0;have f1:=HB1.out.frozen 1;have f2:=HB1.out.frozen 2;simp at c0 c1 c2;clear hk1 HC;go_wp2_with fail;have hb3:=((HB1.out.set 0 (.int .i64 285)).set 1 (.int .u32 0)).set 2 (.int .i64 0);have d0:=hb3.cell 0;have d1:=hb3.cell 1;have d2:=hb3.cell 2;simp at d0 d1 d2;refine bodyPost_ret (v:=.agg #[.int .i64 285,.int .u32 0,.int .i64 0]) (by rw[br rfl];simp[go_sem,d0,d1,d2]) rfl ?_;exact⟨rfl,((HK1.out.setCell _ _ (.inr (by simp))).setCell _ _ (.inr (by simp))).setCell _ _ (.inr (by simp))⟩
theorem GM(w:World)(l:Nat)(d:Int)(x:Nat)(hx:x<=254):Calls Tryz.prog 107 #[.agg #[.int .u8 (l:Nat),.int .i64 ((x:Int)+3),.int .i64 d]] w λe w'=>e=.returned (.agg #[.int .i64 ((257+eD x 3:Nat):Int),.int .u32 (dX x 3:Nat),.int .i64 (bW x 3:Nat)])/\Same w w':=by
 obtain⟨W,hW⟩:∃W,W=(w.alloc (.cells #[.int .u8 (l:Nat),.int .i64 ((x:Int)+3),.int .i64 d] 133)).alloc (.cells #[.int .i64 0,.int .u32 0,.int .i64 0] 168):=⟨_,rfl⟩
 have HW:Hid (Same w W):=hid (by rw[hW];exact((Kept.refl _ w).alloc _).alloc _);have HA:Hid (Blk W w.heap.size #[.int .u8 (l:Nat),.int .i64 ((x:Int)+3),.int .i64 d] 133):=hid (by rw[hW];exact(Blk.new w _ _).kept ((Kept.refl (λ_=>False) _).alloc _) (λf=>f));have HB:Hid (Blk W (w.heap.size+1) #[.int .i64 0,.int .u32 0,.int .i64 0] 168):=hid (by rw[hW];have h:=Blk.new (w.alloc (.cells #[.int .u8 (l:Nat),.int .i64 ((x:Int)+3),.int .i64 d] 133)) #[.int .i64 0,.int .u32 0,.int .i64 0] 168;rw[World.size_alloc]at h;exact h);have HC:=gp W ⟨l,((x:Int)+3),d⟩;unfold kQ at HC;simp only at HC;have uu:decide ((0:Int)<(x:Int)+3)=true:=by simp;omega
 rw[uu]at HC;have BU:((x:Int)+3==258)=false:=by simp;omega
 have MH:(x:Int)+3-3=(x:Int):=by omega
 have HSP:Hid (∀wx,Calls Tryz.prog 137 #[.int .i64 (x:Nat),.int .i64 3] wx λe w'=>e=.returned (.agg #[.int .i64 (eD x 3:Nat),.int .u32 (dX x 3:Nat),.int .i64 (bW x 3:Nat)])/\Same wx w'):=hid (λwx=>y9 wx x hx);have QJ:=gS x 3 5 (by omega) (by decide);generalize eD x 3=sa at HSP QJ ⊢;generalize dX x 3=sb at HSP ⊢;generalize bW x 3=sc at HSP ⊢;have Wn:sa<=30:=by simp at QJ;omega
 obtain⟨s2,hs2⟩:∃s,257+sa=s:=⟨_,rfl⟩
 rw[hs2];have U8:(sa:Int)+257=(s2:Int):=by omega
 clear QJ uu hs2;go_enter Tryz.func107,Tryz.ntmps107;go_wp2_with fail;rw[<-hW];clear hW;refine HC.mono ?_;rintro e w1 ⟨rfl,hk1⟩;have HA1:Hid (Blk w1 w.heap.size #[.int .u8 (l:Nat),.int .i64 ((x:Int)+3),.int .i64 d] 133):=hid (HA.out.kept hk1 (λf=>f));have HB1:Hid (Blk w1 (w.heap.size+1) #[.int .i64 0,.int .u32 0,.int .i64 0] 168):=hid (HB.out.kept hk1 (λf=>f));have HK1:Hid (Same w w1):=hid (Same.trans HW.out hk1);have e0:=HA1.out.cell 0;have e1:=HA1.out.cell 1;simp at e0 e1;clear hk1 HC;go_wp2_with fail;refine(HSP.out w1).mono ?_;rintro e w2 ⟨rfl,hk2⟩;have HB2:Hid (Blk w2 (w.heap.size+1) #[.int .i64 0,.int .u32 0,.int .i64 0] 168):=hid (HB1.out.kept hk2 (λf=>f));have HK2:Hid (Same w w2):=hid (Same.trans HK1.out hk2);have qY:w.heap.size+1<w2.heap.size:=HB2.out.lt;have c0:=HB2.out.cell 0;have c1:=HB2.out.cell 1;have c2:=HB2.out.cell 2;have f0:=HB2.out.frozen 0;have f1:=HB2.out.frozen 1;have f2:=HB2.out.frozen 2;simp at c0 c1 c2;clear hk2 e0 e1;go_wp2_with fail;have hb3:=(((HB2.out.set 0 (.int .i64 (s2:Nat))).set 1 (.int .u32 (sb:Nat))).set 2 (.int .i64 (sc:Nat))).kept ((Kept.refl (λ_=>False) _).alloc (.cells #[.int .i64 (s2:Nat),.int .u32 (sb:Nat),.int .i64 (sc:Nat)] 168)) (λf=>f);have d0:=hb3.cell 0;have d1:=hb3.cell 1;have d2:=hb3.cell 2;simp at d0 d1 d2;refine bodyPost_ret (v:=.agg #[.int .i64 (s2:Nat),.int .u32 (sb:Nat),.int .i64 (sc:Nat)]) (by rw[br rfl];simp[go_sem,d0,d1,d2]) rfl ?_;exact⟨rfl,(((HK2.out.setCell _ _ (.inr (by simp))).setCell _ _ (.inr (by simp))).setCell _ _ (.inr (by simp))).alloc _⟩
theorem oB(w:World)(t:TK)(h:t.len=0\/(3<=t.len/\t.len<=258))(hl:t.lit<256):Calls Tryz.prog 107 #[kQ t] w λe w'=>e=.returned (De (aJ t))/\Same w w':=by
 obtain⟨l,n,d⟩:=t;simp only at h hl;by_cases h0:n=0
 ·subst h0;have hm:aJ ⟨l,0,d⟩=⟨l,0,0⟩:=(by unfold aJ;rw[if_pos rfl]);rw[hm];exact Fq w l d hl
 ·by_cases h258:n=258
  ·subst h258;have hm:aJ ⟨l,258,d⟩=⟨285,0,0⟩:=(by unfold aJ;rw[if_neg (by simp),if_pos rfl]);rw[hm];exact zP w l d
  ·obtain⟨x,rfl⟩:∃x:Nat,n=(x:Int)+3:=⟨n.toNat-3,by omega⟩
   have hm:aJ ⟨l,(x:Int)+3,d⟩=⟨257+eD x 3,dX x 3,bW x 3⟩:=(by unfold aJ;simp only;rw[if_neg h0,if_neg h258,show((x:Int)+3).toNat-3=x by omega]);rw[hm];exact GM w l d x (by omega)
structure NW(wb w:World)(p:Nat)(s:Value)(X:List Nat):Prop where
 wr:Wr w p s (n2 X) X.length
 bit:∀b∈X,b<2
 same:Same wb w
 own:∀k,Fp p s k->wb.heap.size<=k
theorem NW.put(wb w:World)(p:Nat)(s:Value)(X:List Nat)(v n:Nat)(h:NW wb w p s X)(hn:n≤32)(hv:v<2 ^ n)(hc:X.length≤1000000000):
  Calls Tryz.prog 79 #[.pointer (some ⟨p,0,none⟩),.int .u32 (v:Nat),.int .i64 (n:Nat)] w λe w'=>e=.returned (.int .i64 0)/\Same wb w'/\Kept (Fp p s) w w'/\∃s',NW wb w' p s' (X++aj v n):=by
 refine(jr w w p s s X v n (WS.start h.wr h.bit) hn hv hc).mono ?_;rintro e w' ⟨rfl,⟨s',hs⟩,hk⟩;have fK:Same wb w':=Same.then h.same hk (λk hk9 f=>by have:=h.own k f;omega);refine⟨rfl,fK,hk,s',hs.wr,hs.bit,fK,λk f=>?_⟩;rcases f with e | e
 ·rw[e];exact h.own p (.inl rfl)
 ·rcases hs.own k e with h9 | h9
  ·exact h.own k (.inr h9)
  ·exact Nat.le_trans h.same.size h9
theorem NW.same'{wb w w':World}{p:Nat}{s:Value}{X:List Nat}(h:NW wb w p s X)(hk:Same w w'):NW wb w' p s X:=
 ⟨h.wr.kept hk (λ_ _ f=>f),h.bit,Same.trans h.same hk,h.own⟩
theorem nW(w:World)(k:Nat)(hk:k<4):Calls Tryz.prog 77 #[.int .u32 (k:Nat)] w λe w'=>∃p s,e=.returned (.pointer (some ⟨p,0,none⟩))/\NW w w' p s ([1]++aj k 2):=by
 have HN:=rA w;go_enter Tryz.func77,Tryz.ntmps77;go_wp2_with fail;refine HN.mono ?_;rintro e w1 ⟨rfl,hw1,hk1,_⟩;have hnw:NW w w1 w.heap.size (.slice none 0 0) []:=⟨by simpa[n2]using hw1,by simp,hk1,λk f=>by
  rcases f with e | e
  ·omega
  ·cases e⟩
 have H1:=hnw.put w w1 _ _ [] 1 1 (by decide) (by decide) (by simp);clear hw1 hk1 hnw HN;go_wp2_with fail;refine H1.mono ?_;rintro e w2 ⟨rfl,_,_,s2,hs2⟩;have H2:=hs2.put w w2 _ _ _ k 2 (by decide) (by omega) (by simp[aj]);clear hs2 H1;go_wp2_with fail;refine H2.mono ?_;rintro e w3 ⟨rfl,_,_,s3,hs3⟩;have HS:Hid (NW w w3 w.heap.size s3 ([]++aj 1 1++aj k 2)):=hs3;clear hs3 H2;go_wp2_with fail;go_ret;exact⟨_,s3,rfl,HS.out⟩
theorem FD(bs X:List Nat)(hb:∀b∈bs,b<256)(hX:∀b∈X,b<2)(hn:aN bs=n2 X)(hl:bs.length=(X.length+7) / 8):jX bs X:=by
 refine⟨⟨8*bs.length-X.length,?_⟩,hl⟩;refine pW _ _ (by rw[aq,List.length_append,List.length_replicate];omega) (az bs) (λx hx=>?_) ?_
 ·rcases List.mem_append.1 hx with h | h
  ·exact hX x h
  ·have:=List.eq_of_mem_replicate h;omega
 ·rw[pD bs hb,pX,hn]
structure NB(wb w:World)(v:Value)(bs:List Nat):Prop where
 row:Row w v bs
 byte:∀b∈bs,b<256
 same:Same wb w
 new:∀k,v.ownBlock=some k->wb.heap.size<=k
theorem NW.bytes(wb w:World)(p:Nat)(s:Value)(X:List Nat)(h:NW wb w p s X)(hc:X.length≤1000000000):
  Calls Tryz.prog 80 #[.pointer (some ⟨p,0,none⟩)] w λe w'=>∃v bs,e=.returned v/\NB wb w' v bs/\aN bs=n2 X/\bs.length=(X.length+7) / 8:=by
 refine(zt p _ _ s w h.wr (by omega)).mono ?_;rintro e w' ⟨g,bs,rfl,hr,hb,hn,hl,hk,hg⟩;exact⟨_,bs,rfl,⟨hr,hb,Same.trans h.same hk,λk e=>by
  have e1:g=k:=(by simpa[Value.ownBlock]using e);have:=h.same.size;omega⟩,hn,hl⟩
theorem NW.align(wb w:World)(p:Nat)(s:Value)(X:List Nat)(h:NW wb w p s X)(hc:X.length≤1000000000):
  Calls Tryz.prog 78 #[.pointer (some ⟨p,0,none⟩)] w λe w'=>e=.returned (.int .i64 0)/\NW wb w' p s (X++List.replicate ((X.length+7) / 8*8-X.length) 0):=by
 refine(yA p _ _ s w h.wr (by omega)).mono ?_;rintro e w' ⟨rfl,hw,hk⟩;refine⟨rfl,?_,λb hb=>?_,Same.then h.same hk (λk hk9 f=>by have:=h.own k f;omega),h.own⟩
 ·rw[pX,List.length_append,List.length_replicate,show X.length+((X.length+7) / 8*8-X.length)=(X.length+7) / 8*8 by omega];exact hw
 ·rcases List.mem_append.1 hb with h9 | h9
  ·exact h.bit b h9
  ·have:=List.eq_of_mem_replicate h9;omega
theorem Nr(x:Nat)(hx:x<65536):bits BinOp.xor IntKind.u32 (x:Int) 65535=((65535-x:Nat):Int):=by
 have e:=u32_xor_nat x 65535 (by omega) (by decide);have h4:(2:Nat) ^ 16-1=65535:=by decide
 have h5:=BitVec.toNat_not (x:=BitVec.ofNat 16 x);have h6:(BitVec.ofNat 16 x ^^^ BitVec.allOnes 16).toNat=x ^^^ 65535:=by rw[BitVec.toNat_xor,BitVec.toNat_ofNat,BitVec.toNat_allOnes,Nat.mod_eq_of_lt (by omega)]
 have h7:x ^^^ 65535=65535-x:=by rw[<-h6,BitVec.xor_allOnes,h5,BitVec.toNat_ofNat,Nat.mod_eq_of_lt (by omega)]
 rw[show(65535:Int)=((65535:Nat):Int)from rfl,e,h7]
theorem wS{bs:List Nat}{n:Nat}(hb:∀b∈bs,b<256)(J0:n<=16384)(hn:aN bs=n2 ([1]++aj 0 2++List.replicate 5 0++aj n 16++aj (65535-n) 16))(hl:bs.length=5):bs=[1,n % 256,n / 256,255-n % 256,255-n / 256]:=by
 refine FP _ _ (by rw[hl];rfl) hb (λx hx=>?_) ?_
 ·simp at hx;omega
 ·rw[hn,dj,dj,dq,dq,Nat.mod_eq_of_lt (by omega),Nat.mod_eq_of_lt (by omega)];simp only[List.length_append,List.length_replicate,af,List.length_cons,List.length_nil];have e1:n2 ([1]++aj 0 2++List.replicate 5 0)=1:=(by decide);rw[e1];simp only[aN];omega
theorem yM(w:World)(v:Value)(I:Nat→Prop)(data:List Nat)(hs:Src w I v data)(hb:∀b∈data,b<256)(fh:∀n c,v=.slice none n c→n=0∧c=0)(ag:data.length≤16384):
  Calls Tryz.prog 54 #[v] w λe w'=>∃v',e=.returned v'/\NB w w' v' (bH data):=by
 obtain⟨av,cv,Ar,_⟩:=id hs;obtain⟨n,hn⟩:∃n,data.length=n:=⟨_,rfl⟩
 rw[hn]at Ar ag;subst Ar;have HS:Hid (Src w I (.slice av n cv) data):=hs;have HB:Hid (∀b∈data,b<256):=hb;have HN:Hid (∀n' c,Value.slice av n cv=.slice none n' c->n'=0/\c=0):=fh;have HL:Hid (data.length=n):=hn;have H0:=nW w 0 (by decide);have hnw:IntKind.u32.wrap (n:Int)=(n:Int):=by rw[IntKind.wrap_u32'];omega
 have Mp:=Nr n (by omega);obtain⟨m,hm⟩:∃m,65535-n=m:=⟨_,rfl⟩
 rw[hm]at Mp;have HM:Hid (65535-n=m):=hm;clear hs hb fh hn hm;go_enter Tryz.func54,Tryz.ntmps54;go_wp2_with fail;refine H0.mono ?_;rintro e w1 ⟨p,s,rfl,hw1⟩;have H1:=hw1.align w w1 p s _ (by simp[aj]);clear hw1 H0;go_wp2_with fail;refine H1.mono ?_;rintro e w2 ⟨rfl,hw2⟩;have hw2:NW w w2 p s ([1]++aj 0 2++List.replicate 5 0):=hw2;have H2:=hw2.put w w2 p s _ n 16 (by decide) (by omega) (by simp[aj]);clear hw2 H1;go_wp2_with fail;refine H2.mono ?_;rintro e w3 ⟨rfl,_,_,s3,hw3⟩;have H3:=hw3.put w w3 p s3 _ m 16 (by decide) (by have:=HM.out;omega) (by simp[af]);clear hw3 H2;go_wp2_with fail;refine H3.mono ?_;rintro e w4 ⟨rfl,_,_,s4,hw4⟩;have H4:=hw4.bytes w w4 p s4 _ (by simp[af]);clear hw4 H3;go_wp2_with fail;refine H4.mono ?_;rintro e w5 ⟨v5,bs,rfl,hnb,hn5,Hp⟩;have Qe:bs=[1,n % 256,n / 256,255-n % 256,255-n / 256]:=wS hnb.byte ag (by rw[HM.out];exact hn5) (by rw[Hp];simp[af]);rw[Qe]at hnb;have HNB:Hid (NB w w5 v5 [1,n % 256,n / 256,255-n % 256,255-n / 256]):=hnb;have HR5:Hid (Row w5 v5 [1,n % 256,n / 256,255-n % 256,255-n / 256]):=hid hnb.row;have HS5:Hid (Src w5 I (.slice av n cv) data):=hid (HS.out.kept hnb.same (λ_ _ _ f=>f));have HLB:Hid (([1,n % 256,n / 256,255-n % 256,255-n / 256]:List Nat).length+data.length<=1000000000000):=hid (by rw[HL.out];simp;omega);obtain⟨a5,c5,fJ,_⟩:=hnb.row.shape;simp only[List.length_cons,List.length_nil]at fJ;subst fJ;clear hnb hn5 Hp Qe H4 Mp hnw;go_wp2_with (at_builtin;refine bE _ rfl (.tmp 19) (.tmp 20) rfl _ [1,n % 256,n / 256,255-n % 256,255-n / 256] rfl HR5.out I (.slice av n cv) data rfl HN.out HS5.out HLB.out ?_);intro v6 w6 hr6 Ky OV;have O4:Kept (λk=>(Value.slice a5 (0+1+1+1+1+1) c5).ownBlock=some k) w5 w6:=(Kept.refl _ w5).grown Ky (λk e=>.inl e);have HF:Hid (NB w w6 v6 (bH data)):=hid ⟨by unfold bH;rw[HL.out];exact hr6,λb hb=>by
  unfold bH at hb;rw[HL.out]at hb;rcases List.mem_append.1 hb with h | h
  ·exact HNB.out.byte b h
  ·exact HB.out b h,Same.then HNB.out.same O4 (λk hk e=>by have:=HNB.out.new k e;omega),λk e=>by
   rcases OV with h | h
   ·rw[h]at e;exact HNB.out.new k e
   ·rw[h]at e;injection e with e;have:=HNB.out.same.size;omega⟩
 obtain⟨a6,c6,oK,_⟩:=hr6.shape;clear hr6 Ky OV O4;go_wp2_with fail;go_ret;exact⟨_,rfl,HF.out⟩
structure BookIn(w:World)(J:Nat->Prop)(cv lv:Value)(ns:List Nat):Prop where
 codes:SrcE mu w J cv (dN ns)
 lens:SrcE am w J lv ns
theorem BookIn.kept{F:Nat->Prop}{w w':World}{J:Nat->Prop}{cv lv:Value}{ns:List Nat}(h:BookIn w J cv lv ns)(hk:Kept F w w')(hn:∀k,J k->¬F k):BookIn w' J cv lv ns:=
 ⟨h.codes.kept hk (λk hj _=>hn k hj),h.lens.kept hk (λk hj _=>hn k hj)⟩
theorem F2(wb w:World)(p:Nat)(s0 s:Value)(X:List Nat)(ns:List Nat)(J:Nat→Prop)(cv lv:Value)(m:MK)(hw:WS wb w p s0 s X)(hb:BookIn w J cv lv ns)(hJ:∀k,J k→¬Fp p s k)(h15:∀x,key ns x≤15)(hm:m.sym<ns.length)(hk:key ns m.sym≠0)(hx:m.extra<2 ^ m.width)(mc:m.width≤16)(hX:X.length≤100000000):
  Calls Tryz.prog 106 #[.agg #[cv,lv],.pointer (some ⟨p,0,none⟩),De m] w λe w'=>(∃u,e=.returned u)/\∃s',WS wb w' p s0 s' (X++cC ns m):=by
 obtain⟨sy,ex,wd⟩:=m;simp only at hm hk hx mc;unfold De cC;simp only;obtain⟨b1,o1,jb,e1,OM,_,c1⟩:=hb.codes.get sy (by rw[fi];exact hm);obtain⟨b2,o2,Hx,e2,BT,_,c2⟩:=hb.lens.get sy hm;rw[pJ]at c1;rw[fi]at e1;subst e1 e2;obtain⟨C,hC⟩:∃C,ji ns sy=C:=⟨_,rfl⟩
 obtain⟨k,hkk⟩:∃k,key ns sy=k:=⟨_,rfl⟩
 have Iq:ns[sy]=k:=by rw[<-hkk,aY hm]
 have R6:=Ks ns sy hk;have Ew:=vm ns sy hk;have LW:=h15 sy;rw[hC,hkk]at R6 Ew;rw[hkk]at LW;rw[hC]at c1;rw[Iq]at c2;unfold mu at c1;unfold am at c2;obtain⟨L,hL⟩:∃L,ns.length=L:=⟨_,rfl⟩
 rw[hL]at hm ⊢;obtain⟨W,hW⟩:∃W,W=(w.alloc (.cells #[.slice (some ⟨b1,o1,none⟩) L jb,.slice (some ⟨b2,o2,none⟩) L Hx] 164)).alloc (.cells #[.int .i64 (sy:Nat),.int .u32 (ex:Nat),.int .i64 (wd:Nat)] 168):=⟨_,rfl⟩
 have hkW:Same w W:=by rw[hW];exact((Kept.refl _ w).alloc _).alloc _
 have HA:Hid (Blk W w.heap.size #[.slice (some ⟨b1,o1,none⟩) L jb,.slice (some ⟨b2,o2,none⟩) L Hx] 164):=hid (by rw[hW];exact(Blk.new w _ _).kept ((Kept.refl (λ_=>False) _).alloc _) (λf=>f));have HB:Hid (Blk W (w.heap.size+1) #[.int .i64 (sy:Nat),.int .u32 (ex:Nat),.int .i64 (wd:Nat)] 168):=hid (by rw[hW];have h:=Blk.new (w.alloc (.cells #[.slice (some ⟨b1,o1,none⟩) L jb,.slice (some ⟨b2,o2,none⟩) L Hx] 164)) #[.int .i64 (sy:Nat),.int .u32 (ex:Nat),.int .i64 (wd:Nat)] 168;rw[World.size_alloc]at h;exact h);have a0:=HA.out.cell 0;have a1:=HA.out.cell 1;have m0:=HB.out.cell 0;simp at a0 a1 m0;have d1:W.cell? ⟨b1,o1+sy,none⟩=some (.int .u32 (C:Nat)):=hkW.cell c1 (λf=>f);have d2:W.cell? ⟨b2,o2+sy,none⟩=some (.int .i64 (k:Nat)):=hkW.cell c2 (λf=>f);have HP1:Hid (∀W2,Same W W2->Calls Tryz.prog 79 #[.pointer (some ⟨p,0,none⟩),.int .u32 (C:Nat),.int .i64 (k:Nat)] W2 λe w'=>e=.returned (.int .i64 0)/\(∃s',WS wb w' p s0 s' (X++aj C k))/\Kept (Fp p s) W2 w'):=hid (λW2 hk2=>jr wb W2 p s0 s X C k (hw.same (Same.trans hkW hk2)) (by omega) R6 (by omega));have HFW:Hid (∀j,J j->¬Fp p s j):=hJ;have HFP:Hid (∀j,Fp p s j->j<w.heap.size):=hid (λj f=>hw.wr.fp_lt f);have HRB:Hid (aj C k=aE ns sy):=Ew;have HXL:Hid (X.length<=100000000/\k<=15):=hid ⟨hX,LW⟩;have HEX:Hid (ex<2 ^ wd/\wd<=16):=hid ⟨hx,mc⟩;have q1:sy<L:=hm;have q2:(0:Int)<=(sy:Int):=by omega
 have q3:(sy:Int)<(L:Int):=by omega
 have HJ1:Hid (¬Fp p s b1):=hid (HFW.out b1 OM);have HJ2:Hid (¬Fp p s b2):=hid (HFW.out b2 BT);have HJ3:Hid (¬Fp p s w.heap.size):=hid (λf=>by have:=HFP.out _ f;omega);have HJ4:Hid (¬Fp p s (w.heap.size+1)):=hid (λf=>by have:=HFP.out _ f;omega);clear hw hb h15 hk hx mc hX c1 c2 hC hkk Iq R6 Ew LW hL hkW hm hJ;go_enter Tryz.func106,Tryz.ntmps106;go_wp2_with fail;rw[<-hW];clear hW;go_region_held3 (λw'=>w'.cell? ⟨w.heap.size,0,none⟩=some (.slice (some ⟨b1,o1,none⟩) L jb)/\w'.cell? ⟨w.heap.size,1,none⟩=some (.slice (some ⟨b2,o2,none⟩) L Hx)/\w'.cell? ⟨w.heap.size+1,0,none⟩=some (.int .i64 (sy:Nat))/\w'.cell? ⟨b1,o1+sy,none⟩=some (.int .u32 (C:Nat))/\w'.cell? ⟨b2,o2+sy,none⟩=some (.int .i64 (k:Nat)))
  (first
   | (go_split_ands;exact⟨hk5.cell (by assumption) HJ3.out,hk5.cell (by assumption) HJ3.out,hk5.cell (by assumption) HJ4.out,hk5.cell (by assumption) HJ1.out,hk5.cell (by assumption) HJ2.out⟩)
   | go_keep)
  (first
   | (go_at_call 79;refine(HP1.out _ ((Kept.refl _ W).drew)).mono ?_;rintro e w5 ⟨rfl,⟨s5,Ih⟩,hk5⟩))
 all_goals
  have hB5:Blk w5 (w.heap.size+1) #[.int .i64 (sy:Nat),.int .u32 (ex:Nat),.int .i64 (wd:Nat)] 168:=Blk.kept (show Blk W.drew (w.heap.size+1) #[.int .i64 (sy:Nat),.int .u32 (ex:Nat),.int .i64 (wd:Nat)] 168 from HB.out) hk5 HJ4.out;have e1:=hB5.cell 1;have e2:=hB5.cell 2;simp at e1 e2;have HP2:=jr wb w5 p s0 s5 _ ex wd Ih (by have:=HEX.out;omega) HEX.out.1 (by rw[List.length_append,af];have:=HXL.out;omega);clear Ih hk5 hB5 a0 a1 m0 d1 d2;go_wp2_with fail;refine HP2.mono ?_;rintro e w6 ⟨rfl,⟨s6,hws6⟩,_⟩;have HW6:Hid (WS wb w6 p s0 s6 (X++(aE ns sy++aj ex wd))):=hid (by rw[<-HRB.out,<-List.append_assoc];exact hws6);clear hws6 HP2;go_wp2_with fail;go_end0;exact⟨⟨_,rfl⟩,s6,HW6.out⟩
theorem xL{ns:List Nat}(h:Lok ns):Good (ns.map (fun(n:Nat)=>(n:Int))) ns/\chk (ns.map (fun(n:Nat)=>(n:Int)))=0:=by have h9:=wJ ns h.pos h.max h.le;have h8:=h.ok;exact⟨⟨by rw[List.map_map];rfl,by rw[List.length_map],h.pos,h.max,h.le,h8,rfl⟩,by rw[h9];exact h8⟩
theorem tp(w:World)(a:Option Addr)(n c:Nat)(I:Nat→Prop)(ns:List Nat)(hs:SrcE am w I (.slice a n c) ns)(hl:Lok ns):
  Calls Tryz.prog 105 #[.slice a n c] w λe w'=>∃cv,e=.returned (.agg #[cv,.slice a n c])/\SrcE mu w' (λk=>w.heap.size<=k/\k<w'.heap.size) cv (dN ns)/\Same w w':=by
 obtain⟨W,hW⟩:∃W,W=w.alloc (.cells #[.slice none 0 0,.slice none 0 0] 164):=⟨_,rfl⟩
 have hkW:Same w W:=by rw[hW];exact(Kept.refl _ w).alloc _
 have HB:Hid (Blk W w.heap.size #[.slice none 0 0,.slice none 0 0] 164):=hid (by rw[hW];exact Blk.new w _ _);have HC:=pG W (.slice a n c) I _ ns ((hs.same hkW).recode (enc':=bI) (by rw[List.map_map];rfl)) (xL hl).1 (xL hl).2;have HK:Hid (Same w W):=hkW;clear hs hl hkW;go_enter Tryz.func105,Tryz.ntmps105;go_wp2_with fail;rw[<-hW];clear hW;refine HC.mono ?_;rintro e w1 ⟨⟨g,n1,c1,rfl,hr1⟩,hk1⟩;have HB1:Hid (Blk w1 w.heap.size #[.slice none 0 0,.slice none 0 0] 164):=hid (HB.out.kept hk1 (λf=>f));have HR1:Hid (Ag W.heap.size w1 (.slice (some ⟨g,0,none⟩) n1 c1) (dN ns)):=hr1;have HK1:Hid (Same w w1):=hid (Same.trans HK.out hk1);have HGE:Hid (W.heap.size<=g/\w.heap.size<W.heap.size/\g<w1.heap.size):=hid ⟨hr1.ge rfl,HB.out.lt,hr1.lt rfl⟩;have b0:=HB1.out.cell 0;have b1:=HB1.out.cell 1;have f0:=HB1.out.frozen 0;have f1:=HB1.out.frozen 1;simp at b0 b1;clear hr1 hk1 HC;go_wp2_with fail;have hb3:=(HB1.out.set 0 (.slice (some ⟨g,0,none⟩) n1 c1)).set 1 (.slice a n c);have d0:=hb3.cell 0;have d1:=hb3.cell 1;simp at d0 d1;refine bodyPost_ret (v:=.agg #[.slice (some ⟨g,0,none⟩) n1 c1,.slice a n c]) (by rw[br rfl];simp[go_sem,d0,d1]) rfl ?_;have hk2:Kept (·=w.heap.size) w1 ((w1.setCell ⟨w.heap.size,0,none⟩ (.slice (some ⟨g,0,none⟩) n1 c1)).setCell ⟨w.heap.size,1,none⟩ (.slice a n c)):=((Kept.refl (·=w.heap.size) w1).setCell ⟨w.heap.size,0,none⟩ _ (.inl rfl)).setCell ⟨w.heap.size,1,none⟩ _ (.inl rfl);refine⟨_,rfl,((SrcE.ofRow HR1.out).kept hk2 (λk e _ e2=>?_)).mono (λk e=>?_),Same.then HK1.out hk2 (λk hk e=>by omega)⟩
 ·have e1:g=k:=(by simpa[Value.ownBlock]using e);have:=HGE.out;omega
 ·have e1:g=k:=(by simpa[Value.ownBlock]using e);have:=HGE.out;have:=hk2.size;omega
theorem xr(w:World)(a:Option Addr)(n c:Nat)(I:Nat→Prop)(ns:List Nat)(hs:SrcE am w I (.slice a n c) ns)(ag:ns.length≤1000000)(bh:chk (ns.map (fun(n:Nat)=>(n:Int)))≠0):
  Calls Tryz.prog 105 #[.slice a n c] w λe w'=>e=.returned (.agg #[.slice none 0 0,.slice a n c])/\Same w w':=by
 obtain⟨W,hW⟩:∃W,W=w.alloc (.cells #[.slice none 0 0,.slice none 0 0] 164):=⟨_,rfl⟩
 have hkW:Same w W:=by rw[hW];exact(Kept.refl _ w).alloc _
 have HB:Hid (Blk W w.heap.size #[.slice none 0 0,.slice none 0 0] 164):=hid (by rw[hW];exact Blk.new w _ _);have HC:=D2 W (.slice a n c) I (ns.map (fun(n:Nat)=>(n:Int))) ((hs.same hkW).recode (enc':=bI) (by rw[List.map_map];rfl)) (by rw[List.length_map];exact ag) bh;generalize chk (ns.map (fun(n:Nat)=>(n:Int)))=ck at HC;have HK:Hid (Same w W):=hkW;clear hs ag hkW bh;go_enter Tryz.func105,Tryz.ntmps105;go_wp2_with fail;rw[<-hW];clear hW;refine HC.mono ?_;rintro e w1 ⟨rfl,hk1⟩;have HB1:Hid (Blk w1 w.heap.size #[.slice none 0 0,.slice none 0 0] 164):=hid (HB.out.kept hk1 (λf=>f));have HK1:Hid (Same w w1):=hid (Same.trans HK.out hk1);have b0:=HB1.out.cell 0;have b1:=HB1.out.cell 1;have f0:=HB1.out.frozen 0;have f1:=HB1.out.frozen 1;simp at b0 b1;clear hk1 HC;go_wp2_with fail;have hb3:=(HB1.out.set 0 (.slice none 0 0)).set 1 (.slice a n c);have d0:=hb3.cell 0;have d1:=hb3.cell 1;simp at d0 d1;refine bodyPost_ret (v:=.agg #[.slice none 0 0,.slice a n c]) (by rw[br rfl];simp[go_sem,d0,d1]) rfl ?_;exact⟨rfl,(HK1.out.setCell _ _ (.inr (Nat.le_refl _))).setCell _ _ (.inr (Nat.le_refl _))⟩
def Off(w:World)(p:Nat)(s:Value)(k:Nat):Prop:=k<w.heap.size/\¬Fp p s k
theorem Off.later{w w':World}{p:Nat}{s:Value}{k:Nat}(h:Off w p s k)(hk:w.heap.size<=w'.heap.size):Off w' p s k:=⟨Nat.lt_of_lt_of_le h.1 hk,h.2⟩
theorem WS.off{wb w:World}{p:Nat}{s0 s:Value}{X:List Nat}(h:WS wb w p s0 s X){k:Nat}(ho:Off wb p s0 k):¬Fp p s k:=by
 intro f;rcases f with e | e
 ·exact ho.2 (.inl e)
 ·rcases h.own k e with e | e
  ·exact ho.2 (.inr e)
  ·have:=ho.1;omega
theorem tQ(wb w:World)(p:Nat)(s0 s:Value)(X ns:List Nat)(cv lv:Value)(m:MK)(hw:WS wb w p s0 s X)(hb:BookIn wb (Off wb p s0) cv lv ns)(h15:∀x,key ns x≤15)(hm:m.sym<ns.length)(hk:key ns m.sym≠0)(hx:m.extra<2 ^ m.width)(mc:m.width≤16)(hX:X.length≤100000000):
  Calls Tryz.prog 106 #[.agg #[cv,lv],.pointer (some ⟨p,0,none⟩),De m] w λe w'=>(∃u,e=.returned u)/\∃s',WS wb w' p s0 s' (X++cC ns m)/\Kept (Fp p s) w w'/\∀k,Fp p s' k->Fp p s k\/w.heap.size<=k:=by
 refine(F2 w w p s s X ns (Off wb p s0) cv lv m (WS.start hw.wr hw.bit) (hb.kept hw.kept (λk h=>h.2)) (λk h=>hw.off h) h15 hm hk hx mc hX).mono ?_;rintro e w' ⟨he,s',h'⟩;exact⟨he,s',hw.trans (Kept.refl _ _) h',h'.kept,λk f=>by
  rcases f with e | e
  ·exact .inl (.inl e)
  ·rcases h'.own k e with e | e
   ·exact .inl (.inr e)
   ·exact .inr e⟩
theorem yu{l:List Nat}(h0:0<l.length)(hl:l.length<=288)(h15:∀x∈l,x<=15)(h:bR l=false):chk (l.map (fun(n:Nat)=>(n:Int)))≠0:=by rw[wJ l h0 hl h15];have hm:=qG h;unfold bm;rw[hm];simp
theorem oA(w:World)(a:Option Addr)(n c:Nat)(I:Nat→Prop)(ns:List Nat)(hs:SrcE am w I (.slice a n c) ns)(h0:0<ns.length)(hl:ns.length≤288)(h15:∀x∈ns,x≤15)(hu:bR ns=true→Lok ns):
  Calls Tryz.prog 105 #[.slice a n c] w λe w'=>∃ca cn cc,e=.returned (.agg #[.slice ca cn cc,.slice a n c])/\(bR ns=true->SrcE mu w' (λk=>w.heap.size<=k/\k<w'.heap.size) (.slice ca cn cc) (dN ns))/\Same w w':=by
 cases h:bR ns with
 | true=>
  refine(tp w a n c I ns hs (hu h)).mono ?_;rintro e w' ⟨cv,he,h1,h2⟩;obtain⟨ca,cc,rfl,_⟩:=id h1;exact⟨ca,_,cc,he,λ_=>h1,h2⟩
 | false=>
  refine(xr w a n c I ns hs (by omega) (yu h0 hl h15 h)).mono ?_;rintro e w' ⟨he,h2⟩;exact⟨_,_,_,he,(λh=>nomatch h),h2⟩
structure qf(lit dist:List Nat)(t:TK):Prop where
 len:t.len=0\/(3<=t.len/\t.len<=258)
 byte:t.lit<256
 far:t.len≠0->1<=t.dist/\t.dist<=16384
 has:Ln lit dist t
 lx:(aJ t).extra<2 ^ (aJ t).width/\(aJ t).width<=5
 dx:t.len≠0->(aH t).extra<2 ^ (aH t).width/\(aH t).width<=13
theorem A8{lit dist:List Nat}{ts:List TK}{n:Nat}(hm:b7 16384 ts 0=.ok n)(hk:od lit dist ts)(t:TK)(ht:t∈ts):qf lit dist t:=by
 obtain⟨said,h1,h2⟩:=jm hm (by decide) t ht;have h3:=pq h2 h1 (hk.byte t ht);have h4:=xp h2 h1;refine⟨?_,hk.byte t ht,?_,hk.has t ht,⟨h3.2.1,h3.2.2.1⟩,λh=>(h3.2.2.2.2 h).2.2⟩
 ·rcases eY h2 with⟨h,_⟩ | ⟨n,d,h,_,_,h5,h6,_⟩
  ·exact .inl h
  ·exact .inr ⟨by omega,by omega⟩
 ·intro h0;rcases eY h2 with⟨h,_⟩ | ⟨n,d,h,h9,_,_,_,h6,_⟩
  ·exact absurd h h0
  ·exact⟨by omega,h4⟩
theorem xm{lit dist:List Nat}(hl:∀x,key lit x<=15)(hd:∀x,key dist x<=15){t:TK}(h:qf lit dist t):(ay lit dist t).length<=48:=by
 unfold ay cC;have h1:=hl (aJ t).sym;have h2:=h.lx.2;by_cases h0:t.len=0
 ·rw[if_pos h0];simp only[List.length_append,aw,af,List.length_nil];omega
 ·rw[if_neg h0];have h3:=hd (aH t).sym;have h4:=(h.dx h0).2;simp only[List.length_append,aw,af];omega
theorem jk{lit dist:List Nat}(hl:∀x,key lit x<=15)(hd:∀x,key dist x<=15)(ts:List TK)(h:∀t∈ts,qf lit dist t):(ts.flatMap (ay lit dist)).length<=48*ts.length:=by
 induction ts with
 | nil=>simp
 | cons t r ih=>
  rw[List.flatMap_cons,List.length_append,List.length_cons];have h1:=xm hl hd (h t (by simp));have h2:=ih (λt ht=>h t (by simp[ht]));omega
theorem fw{ts:List TK}{n:Nat}(h:b7 16384 ts 0=.ok n):ts.length<=16385:=by refine Classical.byContradiction (λhc=>?_);obtain⟨c,h1,_,h3⟩:=vy h (Nat.le_refl _) 16385 (by omega);omega
theorem C5{α:Type}(f:α->List Nat)(ts:List α)(i:Nat)(h:i<ts.length):(ts.take (i+1)).flatMap f=(ts.take i).flatMap f++f ts[i]:=by rw[List.take_succ_eq_append_getElem h,List.flatMap_append];simp
theorem kX(w:World)(p:Nat)(s:Value)(X:List Nat)(v lv dv:Value)(ts:List TK)(lit dist:List Nat)(n:Nat)(hw:Wr w p s (n2 X) X.length)(hX:∀b∈X,b<2)(M0:X.length≤100000)(hs:TkSrc w (Off w p s) v ts)(hl:SrcE am w (Off w p s) lv lit)(hd:SrcE am w (Off w p s) dv dist)(ho:OkL lit dist)(hk:od lit dist ts)(hm:b7 16384 ts 0=.ok n):
  Calls Tryz.prog 81 #[.pointer (some ⟨p,0,none⟩),v,lv,dv] w λe w'=>(∃u,e=.returned u)/\∃s',WS w w' p s s' (X++(ts.flatMap (ay lit dist)++aE lit 256)):=by
 have MU:=fw hm;have HTI:Hid (∀t∈ts,qf lit dist t):=hid (λt ht=>A8 hm hk t ht);have HL15:Hid (∀x,key lit x<=15):=hid (key_le ho.lit.le);have HD15:Hid (∀x,key dist x<=15):=hid (key_le ho.le);have HLU:Hid (bR lit=true):=hid (j6 hk.end'.1 hk.end'.2);have HEND:Hid (256<lit.length/\key lit 256≠0):=hid hk.end';have HXL:Hid (X.length<=100000):=hid M0;obtain⟨ao,cap,rfl,fO,fX⟩:=id hs;clear fO fX;obtain⟨al,cl,rfl,fO,fX⟩:=id hl;obtain⟨ad,cd,rfl,ID,AC⟩:=id hd;have hn1:=oA w al lit.length cl _ lit hl ho.lit.pos ho.lit.max ho.lit.le (λ_=>ho.lit);have hn2:∀w',Same w w'->_:=λw' hk=>oA w' ad dist.length cd _ dist (hd.same hk) ho.pos ho.max ho.le ho.dist
 have HS:Hid (TkSrc w (Off w p s) (.slice ao ts.length cap) ts):=hs;have HSL:Hid (SrcE am w (Off w p s) (.slice al lit.length cl) lit):=hl;have HSD:Hid (SrcE am w (Off w p s) (.slice ad dist.length cd) dist):=hd;have HW:Hid (Wr w p s (n2 X) X.length/\∀b∈X,b<2):=hid ⟨hw,hX⟩;clear hs hl hd hw hX M0 fO fX ID AC hk hm ho;go_enter Tryz.func81,Tryz.ntmps81;go_wp2_with fail;refine hn1.mono ?_;rintro e w1 ⟨c1,c2,c3,rfl,eH,hk1⟩;have HN2:=hn2 w1 hk1;have HC1:Hid (SrcE mu w1 (λk=>w.heap.size<=k/\k<w1.heap.size) (.slice c1 c2 c3) (dN lit)):=hid (eH HLU.out);have HK1:Hid (Same w w1):=hk1;clear hn1 hn2 eH hk1;go_wp2_with fail;refine HN2.mono ?_;rintro e w2 ⟨d1,d2,d3,rfl,cm,hk2⟩;have HC2:Hid (bR dist=true->SrcE mu w2 (λk=>w1.heap.size<=k/\k<w2.heap.size) (.slice d1 d2 d3) (dN dist)):=cm;have HK2:Hid (Same w1 w2):=hk2;clear HN2 cm hk2;obtain⟨Wa,Mj⟩:∃Wa,Wa=(w2.alloc (.cells #[.slice c1 c2 c3,.slice al lit.length cl] 164)).alloc (.cells #[.slice d1 d2 d3,.slice ad dist.length cd] 164):=⟨_,rfl⟩
 have HKa:Hid (Same w Wa):=hid (Same.trans (Same.trans HK1.out HK2.out) (by rw[Mj];exact((Kept.refl _ w2).alloc _).alloc _));have cX:w.heap.size<=w1.heap.size/\w1.heap.size<=w2.heap.size/\Wa.heap.size=w2.heap.size+2:=⟨HK1.out.size,HK2.out.size,by rw[Mj];simp only[World.size_alloc]⟩
 have HFP:Hid (∀k,Fp p s k->k<w.heap.size):=hid (λk f=>HW.out.1.fp_lt f);have HA:Hid (Blk Wa w2.heap.size #[.slice c1 c2 c3,.slice al lit.length cl] 164/\Off Wa p s w2.heap.size):=hid ⟨by rw[Mj];exact(Blk.new w2 _ _).kept ((Kept.refl (λ_=>False) _).alloc _) (λf=>f),by omega,λf=>by have:=HFP.out _ f;omega⟩;have HB:Hid (Blk Wa (w2.heap.size+1) #[.slice d1 d2 d3,.slice ad dist.length cd] 164/\Off Wa p s (w2.heap.size+1)):=hid ⟨by rw[Mj];have h:=Blk.new (w2.alloc (.cells #[.slice c1 c2 c3,.slice al lit.length cl] 164)) #[.slice d1 d2 d3,.slice ad dist.length cd] 164;rw[World.size_alloc]at h;exact h,by omega,λf=>by have:=HFP.out _ f;omega⟩;have Mb:Same w2 Wa:=by rw[Mj];exact((Kept.refl _ w2).alloc _).alloc _
 have HBL:Hid (BookIn Wa (Off Wa p s) (.slice c1 c2 c3) (.slice al lit.length cl) lit):=hid ⟨((HC1.out.same (Same.trans HK2.out Mb))).mono (λk h=>⟨by omega,λf=>by have:=HFP.out _ f;omega⟩),(HSL.out.same HKa.out).mono (λk h=>h.later HKa.out.size)⟩;have HBD:Hid (bR dist=true->BookIn Wa (Off Wa p s) (.slice d1 d2 d3) (.slice ad dist.length cd) dist):=hid (λhu=>⟨((HC2.out hu).same Mb).mono (λk h=>⟨by omega,λf=>by have:=HFP.out _ f;omega⟩),(HSD.out.same HKa.out).mono (λk h=>h.later HKa.out.size)⟩);have HSa:Hid (TkSrc Wa (Off Wa p s) (.slice ao ts.length cap) ts):=hid ((SrcC.kept fd HS.out HKa.out (λ_ _ _ f=>f)).mono (λk h=>h.later HKa.out.size));have HW0:Hid (WS Wa Wa p s s X):=hid (WS.start (HW.out.1.kept HKa.out (λ_ _ f=>f)) HW.out.2);obtain⟨A,hA⟩:∃A,A=w2.heap.size:=⟨_,rfl⟩
 clear cX Mb HC1 HC2 HK1 HK2 HSL HSD HS HFP HW;go_wp2_with fail;rw[<-Mj,<-hA];rw[<-hA]at HA HB;clear Mj hA;go_loopg [18] ts.length (λq zi wr=>∃(i:Nat) (s2:Value),ts.length-i<=q/\i<=ts.length/\zi=.int .i64 (i:Nat)/\Hid (WS Wa wr p s s2 (X++(ts.take i).flatMap (ay lit dist))))
 case atStart=>exact⟨0,s,by omega,by omega,rfl,hid (by simpa using HW0.out)⟩
 case round=>
  clear HW0;obtain⟨i,s2,hq,hi,rfl,HS2⟩:=hrel;have HY:Hid ((X++(ts.take i).flatMap (ay lit dist)).length<=10000000):=hid (by
   have h1:=jk HL15.out HD15.out (ts.take i) (λt ht=>HTI.out t (List.mem_of_mem_take ht));have h2:=HXL.out;rw[List.length_append];rw[List.length_take]at h1;omega)
  have HJA:Hid (¬Fp p s2 A):=hid (HS2.out.off HA.out.2);have TE:Hid (¬Fp p s2 (A+1)):=hid (HS2.out.off HB.out.2);have HA1:Hid (Blk wr A #[.slice c1 c2 c3,.slice al lit.length cl] 164):=hid (HA.out.1.kept HS2.out.kept HA.out.2.2);by_cases hlt:i<ts.length
  ·obtain⟨b,o,e1,k1,k2,k3⟩:=TkSrc.at (SrcC.kept fd HSa.out HS2.out.kept (λ_ h _=>h.2)) (Kept.refl _ wr) i hlt;subst e1;obtain⟨t,ht⟩:∃t,t=ts[i]:=⟨_,rfl⟩
   rw[<-ht]at k1 k2 k3;have htI:=HTI.out t (by rw[ht];exact List.getElem_mem _);have HSN:Hid ((ts.take (i+1)).flatMap (ay lit dist)=(ts.take i).flatMap (ay lit dist)++ay lit dist t):=hid (by rw[ht];exact C5 _ ts i hlt);obtain⟨W4,BZ⟩:∃W4,W4=wr.alloc (.cells #[.int .u8 (t.lit:Nat),.int .i64 t.len,.int .i64 t.dist] 133):=⟨_,rfl⟩
   have HK4:Hid (Same wr W4):=hid (by rw[BZ];exact(Kept.refl _ wr).alloc _);have HT4:Hid (Blk W4 wr.heap.size #[.int .u8 (t.lit:Nat),.int .i64 t.len,.int .i64 t.dist] 133):=hid (by rw[BZ];exact Blk.new wr _ _);have HJT:Hid (¬Fp p s2 wr.heap.size):=hid (λf=>by have:=HS2.out.wr.fp_lt f;omega);have HLM:Hid (∀W2,Calls Tryz.prog 107 #[kQ t] W2 λe w'=>e=.returned (De (aJ t))/\Same W2 w'):=hid (λW2=>oB W2 t htI.len htI.byte);have HIC:Hid (∀W2,Calls Tryz.prog 108 #[kQ t] W2 λe w'=>e=.returned (.bool (decide (0<t.len)))/\Same W2 w'):=hid (λW2=>gp W2 t);have HLY:Hid (∀W2,Same wr W2->Calls Tryz.prog 106 #[.agg #[.slice c1 c2 c3,.slice al lit.length cl],.pointer (some ⟨p,0,none⟩),De (aJ t)] W2 λe w'=>(∃u,e=.returned u)/\∃s',WS Wa w' p s s' (X++(ts.take i).flatMap (ay lit dist)++cC lit (aJ t))/\Kept (Fp p s2) W2 w'/\∀k,Fp p s' k->Fp p s2 k\/W2.heap.size<=k):=hid (λW2 hk2=>tQ Wa W2 p s s2 _ lit _ _ (aJ t) (HS2.out.same hk2) HBL.out HL15.out htI.has.1 htI.has.2.1 htI.lx.1 (by have:=htI.lx.2;omega) (by have:=HY.out;omega));have HTN:Hid (qf lit dist t):=htI;have q0:=HA1.out.cell 0;have q1:=HA1.out.cell 1;simp at q0 q1;replace q0:=HK4.out.cell q0 (λf=>f);replace q1:=HK4.out.cell q1 (λf=>f);have t0:=HT4.out.cell 0;have t1:=HT4.out.cell 1;have t2:=HT4.out.cell 2;simp at t0 t1 t2;unfold kQ at HLM HIC;obtain⟨M,hM⟩:∃M,De (aJ t)=M:=⟨_,rfl⟩
   rw[hM]at HLM HLY;clear hM htI ht;go_wp2_with fail;rw[<-BZ];clear BZ k1 k2 k3;go_region_held3 (λw'=>w'.cell? ⟨A,0,none⟩=some (.slice c1 c2 c3)/\w'.cell? ⟨A,1,none⟩=some (.slice al lit.length cl)/\w'.cell? ⟨wr.heap.size,0,none⟩=some (.int .u8 (t.lit:Nat))/\w'.cell? ⟨wr.heap.size,1,none⟩=some (.int .i64 t.len)/\w'.cell? ⟨wr.heap.size,2,none⟩=some (.int .i64 t.dist))
    (first
     | (go_split_ands;exact⟨hk6.cell (by assumption) HJA.out,hk6.cell (by assumption) HJA.out,hk6.cell (by assumption) HJT.out,hk6.cell (by assumption) HJT.out,hk6.cell (by assumption) HJT.out⟩)
     | (go_split_ands;exact⟨hk5.cell (by assumption) (λf=>f),hk5.cell (by assumption) (λf=>f),hk5.cell (by assumption) (λf=>f),hk5.cell (by assumption) (λf=>f),hk5.cell (by assumption) (λf=>f)⟩)
     | go_keep)
    (first
     | (go_at_call 107;refine(HLM.out _).mono ?_;rintro e w5 ⟨rfl,hk5⟩)
     | (go_at_call 106;refine(HLY.out _ (Same.trans (HK4.out.drew) hk5)).mono ?_;rintro e w6 ⟨⟨u6,rfl⟩,s6,hws6,hk6,th⟩))
   all_goals
    have HT6:Hid (Blk w6 wr.heap.size #[.int .u8 (t.lit:Nat),.int .i64 t.len,.int .i64 t.dist] 133):=hid (((show Blk W4.drew wr.heap.size #[.int .u8 (t.lit:Nat),.int .i64 t.len,.int .i64 t.dist] 133 from HT4.out).kept hk5 (λf=>f)).kept hk6 HJT.out);have HS6:Hid (WS Wa w6 p s s6 (X++(ts.take i).flatMap (ay lit dist)++cC lit (aJ t))):=hws6;have HJT6:Hid (¬Fp p s6 wr.heap.size):=hid (λf=>by
     rcases th _ f with h | h
     ·exact HJT.out h
     ·have h1:=hk5.size;have h2:=HT4.out.lt;have h3:W4.drew.heap.size=W4.heap.size:=rfl;omega)
    clear hk5 hk6 hws6 th q0 q1 t0 t1 t2 HLY HLM HK4 HT4 HJT HJA TE HA1 HS2;have t0:=HT6.out.cell 0;have t1:=HT6.out.cell 1;have t2:=HT6.out.cell 2;simp at t0 t1 t2;by_cases h0:t.len=0
    ·have BO:decide (0<t.len)=false:=(by simp;omega);rw[BO]at HIC;have HSF:Hid ((ts.take (i+1)).flatMap (ay lit dist)=(ts.take i).flatMap (ay lit dist)++cC lit (aJ t)):=hid (by rw[HSN.out];congr 1;unfold ay;rw[if_pos h0,List.append_nil]);clear h0 BO HSN HTN;go_wp2_with fail;refine(HIC.out _).mono ?_;rintro e w7 ⟨rfl,dh⟩;have HS7:Hid (WS Wa w7 p s s6 (X++(ts.take (i+1)).flatMap (ay lit dist))):=hid (by rw[HSF.out,<-List.append_assoc];exact HS6.out.same dh);clear dh HIC t0 t1 t2;go_wp2_with fail;go_roundg (gk-1)
     case measure=>omega
     case rel=>exact⟨i+1,s6,by omega,by omega,by go_num,HS7⟩
    ·have BO:decide (0<t.len)=true:=(by have:=HTN.out.len;simp;omega);rw[BO]at HIC;have hti:=HTN.out;have ja:=hti.far h0;have T6:=hti.dx h0;have Hc:=hti.has.2.2 h0;have HU:Hid (bR dist=true):=hid (j6 Hc.1 Hc.2);have HDM:Hid (∀W2,Calls Tryz.prog 109 #[kQ t] W2 λe w'=>e=.returned (De (aH t))/\Same W2 w'):=hid (λW2=>mV W2 t ja.1 ja.2);have HSF:Hid ((ts.take (i+1)).flatMap (ay lit dist)=(ts.take i).flatMap (ay lit dist)++(cC lit (aJ t)++cC dist (aH t))):=hid (by rw[HSN.out];congr 1;unfold ay;rw[if_neg h0]);have HY6:Hid ((X++(ts.take i).flatMap (ay lit dist)++cC lit (aJ t)).length<=100000000):=hid (by
      have h1:=HY.out;have h2:=HL15.out (aJ t).sym;have h3:=hti.lx.2;unfold cC;rw[List.length_append]at h1;simp only[List.length_append,aw,af];omega)
     have HLY:Hid (∀W2,Same w6 W2->Calls Tryz.prog 106 #[.agg #[.slice d1 d2 d3,.slice ad dist.length cd],.pointer (some ⟨p,0,none⟩),De (aH t)] W2 λe w'=>(∃u,e=.returned u)/\∃s',WS Wa w' p s s' (X++(ts.take i).flatMap (ay lit dist)++cC lit (aJ t)++cC dist (aH t))/\Kept (Fp p s6) W2 w'/\∀k,Fp p s' k->Fp p s6 k\/W2.heap.size<=k):=hid (λW2 hk2=>tQ Wa W2 p s s6 _ dist _ _ (aH t) (HS6.out.same hk2) (HBD.out HU.out) HD15.out Hc.1 Hc.2 T6.1 (by omega) HY6.out);unfold kQ at HDM;obtain⟨M2,SD⟩:∃M2,De (aH t)=M2:=⟨_,rfl⟩
     rw[SD]at HDM HLY;clear SD hti ja T6 Hc h0 BO HTN HSN;go_wp2_with fail;refine(HIC.out _).mono ?_;rintro e w7 ⟨rfl,dh⟩;have HJB6:Hid (¬Fp p s6 (A+1)):=hid (HS6.out.off HB.out.2);have HB7:Hid (Blk w7 (A+1) #[.slice d1 d2 d3,.slice ad dist.length cd] 164):=hid ((HB.out.1.kept HS6.out.kept HB.out.2.2).kept dh (λf=>f));have HT7:Hid (Blk w7 wr.heap.size #[.int .u8 (t.lit:Nat),.int .i64 t.len,.int .i64 t.dist] 133):=hid (HT6.out.kept dh (λf=>f));have HK7:Hid (Same w6 w7):=dh;clear dh HIC t0 t1 t2;have q0:=HB7.out.cell 0;have q1:=HB7.out.cell 1;have t0:=HT7.out.cell 0;have t1:=HT7.out.cell 1;have t2:=HT7.out.cell 2;simp at q0 q1 t0 t1 t2;go_wp2_with fail;go_region_held3 (λw'=>w'.cell? ⟨A+1,0,none⟩=some (.slice d1 d2 d3)/\w'.cell? ⟨A+1,1,none⟩=some (.slice ad dist.length cd)/\w'.cell? ⟨wr.heap.size,0,none⟩=some (.int .u8 (t.lit:Nat))/\w'.cell? ⟨wr.heap.size,1,none⟩=some (.int .i64 t.len)/\w'.cell? ⟨wr.heap.size,2,none⟩=some (.int .i64 t.dist))
      (first
       | (go_split_ands;exact⟨hk9.cell (by assumption) HJB6.out,hk9.cell (by assumption) HJB6.out,hk9.cell (by assumption) HJT6.out,hk9.cell (by assumption) HJT6.out,hk9.cell (by assumption) HJT6.out⟩)
       | (go_split_ands;exact⟨hk8.cell (by assumption) (λf=>f),hk8.cell (by assumption) (λf=>f),hk8.cell (by assumption) (λf=>f),hk8.cell (by assumption) (λf=>f),hk8.cell (by assumption) (λf=>f)⟩)
       | go_keep)
      (first
       | (go_at_call 109;refine(HDM.out _).mono ?_;rintro e w8 ⟨rfl,hk8⟩)
       | (go_at_call 106;refine(HLY.out _ (Same.trans (HK7.out.drew) hk8)).mono ?_;rintro e w9 ⟨⟨u9,rfl⟩,s9,Eb,hk9,_⟩))
     all_goals
      have Wx:Hid (WS Wa w9 p s s9 (X++(ts.take (i+1)).flatMap (ay lit dist))):=hid (by rw[HSF.out,<-List.append_assoc,<-List.append_assoc];exact Eb);clear Eb hk8 hk9 q0 q1 t0 t1 t2 HLY HDM;go_wp2_with fail;go_roundg (gk-1)
      case measure=>omega
      case rel=>exact⟨i+1,s9,by omega,by omega,by go_num,Wx⟩
  ·have ye:i=ts.length:=(by omega);have HS3:Hid (WS Wa wr p s s2 (X++ts.flatMap (ay lit dist))):=hid (by have h:=HS2.out;rwa [ye,List.take_length]at h);have HY3:Hid ((X++ts.flatMap (ay lit dist)).length<=10000000):=hid (by have h:=HY.out;rwa [ye,List.take_length]at h);have q0:=HA1.out.cell 0;have q1:=HA1.out.cell 1;simp at q0 q1;have HLY:Calls Tryz.prog 106 #[.agg #[.slice c1 c2 c3,.slice al lit.length cl],.pointer (some ⟨p,0,none⟩),.agg #[.int .i64 256,.int .u32 0,.int .i64 0]] wr λe w'=>(∃u,e=.returned u)/\∃s',WS Wa w' p s s' (X++ts.flatMap (ay lit dist)++cC lit ⟨256,0,0⟩)/\Kept (Fp p s2) wr w'/\(∀k,Fp p s' k->Fp p s2 k\/wr.heap.size<=k):=tQ Wa wr p s s2 _ lit _ _ ⟨256,0,0⟩ HS3.out HBL.out HL15.out HEND.out.1 HEND.out.2 (by decide) (by decide) (by have:=HY3.out;omega)
   clear ye HY3 HS2 HY HA1 HJA TE;go_wp2_with fail;refine HLY.mono ?_;rintro e w6 ⟨⟨u6,rfl⟩,s6,hws6,_⟩;have HS6:Hid (WS w w6 p s s6 (X++(ts.flatMap (ay lit dist)++aE lit 256))):=hid (by
    have h:cC lit ⟨256,0,0⟩=aE lit 256:=(by unfold cC;simp[aj]);rw[h,List.append_assoc]at hws6;exact hws6.base HKa.out)
   clear hws6 HLY q0 q1;go_wp2_with fail;go_end0;exact⟨⟨_,rfl⟩,s6,HS6.out⟩
theorem ko(w:World)(N y:Nat)(hN:N≤1000):
  Calls Tryz.prog 110 #[.int .i64 (N:Nat),.int .i64 (y:Nat)] w λe w'=>∃g,e=.returned (.slice (some ⟨g,0,none⟩) N N)/\NRow w.heap.size w' (.slice (some ⟨g,0,none⟩) N N) (List.replicate N y)/\Same w w':=by
 have HR:=ic (w.alloc (.cells #[.int .i64 (y:Nat)] 3)) ⟨w.heap.size,0,none⟩ y N (bw w 3 (am y)) hN;go_enter Tryz.func110,Tryz.ntmps110;go_wp2_with fail;refine HR.mono ?_;rintro e w1 ⟨g,rfl,hr,hk⟩;have HR1:Hid (RowC (w.alloc (.cells #[.int .i64 (y:Nat)] 3)).heap.size 3 1 fD w1 (.slice (some ⟨g,0,none⟩) N N) (List.replicate N y)):=hr;have HK1:Hid (Same (w.alloc (.cells #[.int .i64 (y:Nat)] 3)) w1):=hk;clear hr hk HR;go_wp2_with fail;go_ret;exact⟨g,rfl,RowE.base HR1.out.nat (by simp),Same.trans ((Kept.refl _ w).alloc _) HK1.out⟩
theorem qi(w:World):
  Calls Tryz.prog 83 #[] w λe w'=>∃v,e=.returned v/\NRow w.heap.size w' v fixD/\Same w w':=by
 have HR:=ic (w.alloc (.cells #[.int .i64 5] 3)) ⟨w.heap.size,0,none⟩ 5 32 (bw w 3 (am 5)) (by decide);go_enter Tryz.func83,Tryz.ntmps83;go_wp2_with fail;refine HR.mono ?_;rintro e w1 ⟨g,rfl,hr,hk⟩;have HR1:Hid (RowC (w.alloc (.cells #[.int .i64 5] 3)).heap.size 3 1 fD w1 (.slice (some ⟨g,0,none⟩) 32 32) fixD):=hr;have HK1:Hid (Same (w.alloc (.cells #[.int .i64 5] 3)) w1):=hk;clear hr hk HR;go_wp2_with fail;go_ret;exact⟨_,rfl,RowE.base HR1.out.nat (by simp),Same.trans ((Kept.refl _ w).alloc _) HK1.out⟩
theorem rC(w:World):
  Calls Tryz.prog 82 #[] w λe w'=>∃v,e=.returned v/\NRow w.heap.size w' v fixL/\Same w w':=by
 have H1:=ko w 144 8 (by decide);have H2:=λwx:World=>ko wx 112 9 (by decide)
 have H3:=λwx:World=>ko wx 24 7 (by decide)
 have H4:=λwx:World=>ko wx 8 8 (by decide)
 go_enter Tryz.func82,Tryz.ntmps82;go_wp2_with fail;refine H1.mono ?_;rintro e w1 ⟨g1,rfl,hr1,hk1⟩;have HR1:Hid (NRow w.heap.size w1 (.slice (some ⟨g1,0,none⟩) 144 144) (List.replicate 144 8)):=hr1;have HK1:Hid (Same w w1):=hk1;clear hr1 hk1 H1;go_wp2_with fail;refine(H2 w1).mono ?_;rintro e w2 ⟨g2,rfl,hr2,hk2⟩;have HR2:Hid (NRow w1.heap.size w2 (.slice (some ⟨g2,0,none⟩) 112 112) (List.replicate 112 9)):=hr2;have HK2:Hid (Same w1 w2):=hk2;clear hr2 hk2 H2;go_wp2_with fail;refine(H3 w2).mono ?_;rintro e w3 ⟨g3,rfl,hr3,hk3⟩;have HR3:Hid (NRow w2.heap.size w3 (.slice (some ⟨g3,0,none⟩) 24 24) (List.replicate 24 7)):=hr3;have HK3:Hid (Same w2 w3):=hk3;clear hr3 hk3 H3;go_wp2_with fail;refine(H4 w3).mono ?_;rintro e w4 ⟨g4,rfl,hr4,hk4⟩;have HR4:Hid (NRow w3.heap.size w4 (.slice (some ⟨g4,0,none⟩) 8 8) (List.replicate 8 8)):=hr4;have HK4:Hid (Same w3 w4):=hk4;clear hr4 hk4 H4;have HCC:Hid (∀W:World,Same w4 W→∀h,W.cell? ⟨h,0,none⟩=some (.slice (some ⟨g1,0,none⟩) 144 144)→W.cell? ⟨h,1,none⟩=some (.slice (some ⟨g2,0,none⟩) 112 112)→W.cell? ⟨h,2,none⟩=some (.slice (some ⟨g3,0,none⟩) 24 24)→W.cell? ⟨h,3,none⟩=some (.slice (some ⟨g4,0,none⟩) 8 8) →
   Calls Tryz.prog 112 #[.slice (some ⟨h,0,none⟩) 4 4] W λe w'=>∃v',e=.returned v'/\NRow W.heap.size w' v' fixL/\Same W w'):=hid (λW hW h h0 h1 h2 h3=>by
  have hB:=Same.trans HK4.out hW;have hC:=Same.trans HK3.out hB;have hD:=Same.trans HK2.out hC;exact oE W h 144 112 24 8 g1 g2 g3 g4 _ _ _ _ h0 h1 h2 h3 (RowE.base (HR1.out.same hD) (Nat.zero_le _)) (RowE.base (HR2.out.same hC) (Nat.zero_le _)) (RowE.base (HR3.out.same hB) (Nat.zero_le _)) (RowE.base (HR4.out.same hW) (Nat.zero_le _)) (by decide) (by decide) (by decide) (by decide) (by decide))
 have HK04:Hid (Same w w4):=hid (Same.trans HK1.out (Same.trans HK2.out (Same.trans HK3.out HK4.out)));clear HR1 HR2 HR3 HR4 HK1 HK2 HK3 HK4;go_wp2_with fail;refine(HCC.out _ ((Kept.refl _ w4).alloc _) w4.heap.size (by simp) (by simp) (by simp) (by simp)).mono ?_;rintro e w5 ⟨v5,rfl,hr5,hk5⟩;have yi:Same w4 w5:=Same.trans ((Kept.refl _ w4).alloc _) hk5;have HK5:Hid (Same w w5):=hid (Same.trans HK04.out yi);have HR5:Hid (NRow w.heap.size w5 v5 fixL):=hid (RowE.base hr5 (by have:=HK04.out.size;rw[World.size_alloc];omega));obtain⟨a5,jG,rfl,_⟩:=hr5.shape;clear hr5 hk5 HCC HK04 yi;go_wp2_with fail;go_ret;exact⟨_,rfl,HR5.out,HK5.out⟩
theorem NW.ws{wb w w':World}{p:Nat}{s s':Value}{X Y:List Nat}(h:NW wb w p s X)(hs:WS w w' p s s' Y):NW wb w' p s' Y:=by
 have fK:Same wb w':=Same.then h.same hs.kept (λk hk9 f=>by have:=h.own k f;omega);refine⟨hs.wr,hs.bit,fK,λk f=>?_⟩;rcases f with e | e
 ·rw[e];exact h.own p (.inl rfl)
 ·rcases hs.own k e with h9 | h9
  ·exact h.own k (.inr h9)
  ·exact Nat.le_trans h.same.size h9
theorem NRow.off{B:Nat}{w:World}{v:Value}{xs:List Nat}(h:NRow B w v xs){p:Nat}{s:Value}(hf:∀k,Fp p s k->k<B):SrcE am w (Off w p s) v xs:=by refine((SrcE.ofRow h).low).mono (λk hk=>⟨hk.2,λf=>?_⟩);have h1:=hf k f;have h2:=h.ge hk.1;omega
theorem TkSrc.off{wb w:World}{p:Nat}{s:Value}{X:List Nat}{I:Nat->Prop}{v:Value}{ts:List TK}(h:TkSrc wb I v ts)(hw:NW wb w p s X):TkSrc w (Off w p s) v ts:=
 (SrcC.kept fd (SrcC.low fd h) hw.same (λ_ _ _ f=>f)).mono (λk hk=>⟨Nat.lt_of_lt_of_le hk.2 hw.same.size,λf=>by have:=hw.own k f;omega⟩)
theorem Da(w:World)(v:Value)(I:Nat→Prop)(ts:List TK)(n:Nat)(hs:TkSrc w I v ts)(hm:b7 16384 ts 0=.ok n)(hb:∀t∈ts,t.lit<256):
  Calls Tryz.prog 56 #[v] w λe w'=>∃v' bs,e=.returned v'/\NB w w' v' bs/\jX bs (fj ts):=by
 have htk:=qW hm hb;have HB0:=nW w 1 (by decide);have HLT:Hid ((fj ts).length<=10000000):=hid (by
  have h1:=jk (lit:=fixL) (dist:=fixD) (key_le fix_ok.lit.le) (key_le fix_ok.le) ts (λt ht=>A8 hm htk t ht);have h2:=fw hm;have h3:=key_le fix_ok.lit.le 256;unfold fj;simp only[List.length_append,aw,List.length_cons,List.length_nil];omega)
 have HLY:Hid (∀w1 w3 p s l d B,NW w w1 p s ([1]++aj 1 2)->Same w1 w3->w1.heap.size<=B->NRow B w3 l fixL->NRow B w3 d fixD->Calls Tryz.prog 81 #[.pointer (some ⟨p,0,none⟩),v,l,d] w3 λe w'=>(∃u,e=.returned u)/\∃s',NW w w' p s' (fj ts)):=hid (λw1 w3 p s l d B h1 h2 hB h3 h4=>by
  have h5:=h1.same' h2;have G0:∀k,Fp p s k->k<B:=λk f=>Nat.lt_of_lt_of_le (h1.wr.fp_lt f) hB
  refine(kX w3 p s _ v l d ts fixL fixD n h5.wr h5.bit (by simp[aj]) (TkSrc.off hs h5) (h3.off G0) (h4.off G0) fix_ok htk hm).mono ?_;rintro e w' ⟨he,s',h6⟩;exact⟨he,s',h5.ws h6⟩)
 clear hs hm hb htk;go_enter Tryz.func56,Tryz.ntmps56;go_wp2_with fail;refine HB0.mono ?_;rintro e w1 ⟨p,s,rfl,hw1⟩;have HW1:Hid (NW w w1 p s ([1]++aj 1 2)):=hw1;have HF:=rC w1;clear hw1 HB0;go_wp2_with fail;refine HF.mono ?_;rintro e w2 ⟨l,rfl,hr2,hk2⟩;have HR2:Hid (NRow w1.heap.size w2 l fixL):=hr2;have HK2:Hid (Same w1 w2):=hk2;have HD:=qi w2;clear hr2 hk2 HF;go_wp2_with fail;refine HD.mono ?_;rintro e w3 ⟨d,rfl,hr3,hk3⟩;have HL:=HLY.out w1 w3 p s l d _ HW1.out (Same.trans HK2.out hk3) (Nat.le_refl _) (HR2.out.same hk3) (RowE.base hr3 HK2.out.size);clear hr3 hk3 HD HW1 HR2 HK2 HLY;go_wp2_with fail;refine HL.mono ?_;rintro e w4 ⟨⟨u4,rfl⟩,s4,hw4⟩;have HBY:=hw4.bytes w w4 p s4 _ (by have:=HLT.out;omega);have HBT:Hid (∀b∈fj ts,b<2):=hid hw4.bit;clear hw4 HL;go_wp2_with fail;refine HBY.mono ?_;rintro e w5 ⟨v5,bs,rfl,hnb,hn5,Hp⟩;have HE:Hid (NB w w5 v5 bs/\jX bs (fj ts)):=hid ⟨hnb,FD bs _ hnb.byte HBT.out hn5 Hp⟩;obtain⟨a5,c5,fJ,_⟩:=hnb.row.shape;subst fJ;clear hnb hn5 Hp HBY;go_wp2_with fail;go_ret;exact⟨_,bs,rfl,HE.out.1,HE.out.2⟩
end Go.Proofs.YtllcnlnbpikhdaaGreatDoor
namespace Go.Proofs.YtllcnlnbpikhdaaGreatDoor
def g6(l:List Nat)(i:Nat):List Nat:=l.set i (key l i+1)
theorem fE(l:List Nat)(i:Nat):(g6 l i).length=l.length:=by simp[g6]
theorem pC(l:List Nat)(i j:Nat)(hi:i<l.length):key (g6 l i) j=key l j+(if i=j then 1 else 0):=by
 unfold g6;by_cases h:i=j
 ·subst h;rw[if_pos rfl,aY (by simpa using hi)];simp
 ·simp only[key,List.getD_eq_getElem?_getD,List.getElem?_set];rw[if_neg h,if_neg h];rfl
def iv:List TK->List Nat->List Nat
 | [],l=>l
 | t::r,l=>iv r (g6 l (aJ t).sym)
def iB:List TK->List Nat->List Nat
 | [],l=>l
 | t::r,l=>iB r (if t.len=0 then l else g6 l (aH t).sym)
theorem Cg(ts:List TK)(i:Nat)(h:i<ts.length)(l:List Nat):iv (ts.take (i+1)) l=g6 (iv (ts.take i) l) (aJ ts[i]).sym:=by
 induction ts generalizing l i with
 | nil=>simp at h
 | cons t r ih=>
  cases i with
  | zero=>rfl
  | succ i=>simp only[List.take_succ_cons,iv,List.getElem_cons_succ];exact ih i (by simpa using h) _
theorem CY(ts:List TK)(i:Nat)(h:i<ts.length)(l:List Nat):iB (ts.take (i+1)) l=if ts[i].len=0 then iB (ts.take i) l else g6 (iB (ts.take i) l) (aH ts[i]).sym:=by
 induction ts generalizing l i with
 | nil=>simp at h
 | cons t r ih=>
  cases i with
  | zero=>rfl
  | succ i=>simp only[List.take_succ_cons,iB,List.getElem_cons_succ];exact ih i (by simpa using h) _
theorem j8(ts:List TK)(l:List Nat):(iv ts l).length=l.length:=by
 induction ts generalizing l with
 | nil=>rfl
 | cons t r ih=>rw[iv,ih,fE]
theorem ot(ts:List TK)(l:List Nat):(iB ts l).length=l.length:=by
 induction ts generalizing l with
 | nil=>rfl
 | cons t r ih=>
  rw[iB,ih];split
  ·rfl
  ·rw[fE]
theorem qM(ts:List TK)(l:List Nat)(hs:∀t∈ts,(aJ t).sym<l.length)(j:Nat):key l j<=key (iv ts l) j/\key (iv ts l) j<=key l j+ts.length/\((∃t∈ts,(aJ t).sym=j)->1<=key (iv ts l) j):=by
 induction ts generalizing l with
 | nil=>exact⟨Nat.le_refl _,Nat.le_refl _,fun⟨t,h,_⟩=>by cases h⟩
 | cons t r ih=>
  have h1:=pC l (aJ t).sym j (hs t (by simp));have h2:=ih (g6 l (aJ t).sym) (λt ht=>by rw[fE];exact hs t (by simp[ht]));rw[iv,List.length_cons];refine⟨by omega,by split at h1<;>omega,?_⟩;rintro⟨t',Hs,hj⟩;rcases List.mem_cons.1 Hs with rfl | Hs
  ·rw[if_pos hj]at h1;omega
  ·exact h2.2.2 ⟨t',Hs,hj⟩
theorem wn(ts:List TK)(l:List Nat)(hs:∀t∈ts,t.len≠0->(aH t).sym<l.length)(j:Nat):key l j<=key (iB ts l) j/\key (iB ts l) j<=key l j+ts.length/\((∃t∈ts,t.len≠0/\(aH t).sym=j)->1<=key (iB ts l) j):=by
 induction ts generalizing l with
 | nil=>exact⟨Nat.le_refl _,Nat.le_refl _,fun⟨t,h,_⟩=>by cases h⟩
 | cons t r ih=>
  rw[iB,List.length_cons];by_cases h0:t.len=0
  ·rw[if_pos h0];have h2:=ih l (λt ht=>hs t (by simp[ht]));refine⟨h2.1,by omega,?_⟩;rintro⟨t',Hs,hn,hj⟩;rcases List.mem_cons.1 Hs with rfl | Hs
   ·exact absurd h0 hn
   ·exact h2.2.2 ⟨t',Hs,hn,hj⟩
  ·rw[if_neg h0];have h1:=pC l (aH t).sym j (hs t (by simp) h0);have h2:=ih (g6 l (aH t).sym) (λt ht=>by rw[fE];exact hs t (by simp[ht]));refine⟨by omega,by split at h1<;>omega,?_⟩;rintro⟨t',Hs,hn,hj⟩;rcases List.mem_cons.1 Hs with rfl | Hs
   ·rw[if_pos hj]at h1;omega
   ·exact h2.2.2 ⟨t',Hs,hn,hj⟩
def jU:Nat->List Nat->List Nat
 | 0,l=>l
 | k+1,l=>if 1<l.length/\key l (l.length-1)=0 then jU k (l.take (l.length-1))else l
theorem EN(k:Nat)(l:List Nat)(hl:1<=l.length):∃m,jU k l=l.take m/\1<=m/\m<=l.length/\∀j,m<=j->key l j=0:=by
 induction k generalizing l with
 | zero=>exact⟨l.length,by simp[jU],hl,Nat.le_refl _,λj hj=>by simp[key,List.getD_eq_getElem?_getD,List.getElem?_eq_none hj]⟩
 | succ k ih=>
  unfold jU;split
  ·rename_i h;obtain⟨m,h1,h2,h3,h4⟩:=ih (l.take (l.length-1)) (by rw[List.length_take];omega);rw[List.length_take]at h3;refine⟨m,by rw[h1,List.take_take];congr 1;omega,h2,by omega,λj hj=>?_⟩;by_cases PF:j<l.length-1
   ·have:=h4 j hj;simp only[key,List.getD_eq_getElem?_getD,List.getElem?_take]at this ⊢;rw[if_pos PF]at this;exact this
   ·by_cases he:j=l.length-1
    ·rw[he];exact h.2
    ·simp[key,List.getD_eq_getElem?_getD,List.getElem?_eq_none (show l.length<=j by omega)]
  ·exact⟨l.length,by simp,hl,Nat.le_refl _,λj hj=>by simp[key,List.getD_eq_getElem?_getD,List.getElem?_eq_none hj]⟩
end Go.Proofs.YtllcnlnbpikhdaaGreatDoor
namespace Go.Proofs.YtllcnlnbpikhdaaGreatDoor
open Go.RowKit
theorem BD(n:Nat)(hn:n<=1000000):∃M:World->World,(∀w,(Instr.makeSlice 138 (.int .i64 (n:Int)) (.int .i64 (n:Int))).run Tryz.prog w=.ok (.slice (some ⟨w.heap.size,0,none⟩) n n) (M w))/\(∀w,NRow w.heap.size (M w) (.slice (some ⟨w.heap.size,0,none⟩) n n) (List.replicate n 0)/\Same w (M w)):=by
 have h:∀w:World,∃w',(Instr.makeSlice 138 (.int .i64 (n:Int)) (.int .i64 (n:Int))).run Tryz.prog w=.ok (.slice (some ⟨w.heap.size,0,none⟩) n n) w'/\NRow w.heap.size w' (.slice (some ⟨w.heap.size,0,none⟩) n n) (List.replicate n 0)/\Same w w':=λw=>by obtain⟨i0,hi,iq,iG,fW⟩:=info_parts Tryz.infoN;obtain⟨w',h1,h2,h3⟩:=run_make_full (P:=Tryz.prog) w w.heap.size 138 3 i0 (am 0) 1 Tryz.underlying138 hi iq iG .i64 .i64 n (by rw[fW];omega) (by simp only[maxLen];omega) (Nat.le_refl _);refine⟨w',h1,?_,(Kept.refl _ w).grown h3 (λk e=>by cases e)⟩;have hz:(am 0).cells=#[am 0]:=rfl;rw[hz,Nat.mul_one,toList_madeCells_one]at h2;unfold NRow RowE;simpa using h2
 obtain⟨M,hM⟩:=Classical.axiomOfChoice h;exact⟨M,λw=>(hM w).1,λw=>(hM w).2⟩
theorem Tryz.markSym(w:World)(y:Int)(b c:Value):(Instr.field 168 (.agg #[.int .i64 y,b,c]) 0).run Tryz.prog w=.ok (.int .i64 y) w:=by kernel_rfl
theorem NRow.bumped{B:Nat}{w:World}{g n cap:Nat}{l:List Nat}(h:NRow B w (.slice (some ⟨g,0,none⟩) n cap) l)(y x:Nat)(hy:y<l.length)(hx:x=key l y):w.cell? ⟨g,y,none⟩=some (.int .i64 (x:Nat))/\w.frozen? ⟨g,y,none⟩=false/\NRow B (w.setCell ⟨g,y,none⟩ (.int .i64 ((x:Int)+1))) (.slice (some ⟨g,0,none⟩) n cap) (g6 l y):=by subst hx;refine⟨by rw[RowE.cell h y hy,aY hy];rfl,RowE.frozen h y,?_⟩;have h9:=RowE.lay h y (key l y+1);unfold g6;exact h9
theorem Cw(w:World)(v:Value)(I:Nat→Prop)(ts:List TK)(n:Nat)(hs:TkSrc w I v ts)(hm:b7 16384 ts 0=.ok n)(hb:∀t∈ts,t.lit<256):
  Calls Tryz.prog 84 #[v] w λe w'=>∃vl vd,e=.returned (.tuple #[vl,vd])/\NRow w.heap.size w' vl (g6 (iv ts (List.replicate 286 0)) 256)/\NRow w.heap.size w' vd (iB ts (List.replicate 30 0))/\Same w w':=by
 have htk:=qW hm hb;have HTI:Hid (∀t∈ts,qf fixL fixD t):=hid (λt ht=>A8 hm htk t ht);have HSY:Hid (∀t∈ts,(aJ t).sym<286/\(t.len≠0->(aH t).sym<30)):=hid (λt ht=>by
  obtain⟨said,h1,h2⟩:=jm hm (by decide) t ht;have h3:=pq h2 h1 (hb t ht);exact⟨by omega,λh=>by have:=(h3.2.2.2.2 h).2.1;omega⟩)
 have MU:=fw hm;obtain⟨ao,cap,rfl,fO,fX⟩:=id hs;have HS:Hid (TkSrc w (λk=>I k/\k<w.heap.size) (.slice ao ts.length cap) ts):=hid (SrcC.low fd hs);obtain⟨MA,Pv,PX⟩:=BD 286 (by decide);obtain⟨MB,Pt,HMB⟩:=BD 30 (by decide);have HA:Hid (∀w,NRow w.heap.size (MA w) (.slice (some ⟨w.heap.size,0,none⟩) 286 286) (List.replicate 286 0)/\Same w (MA w)):=PX;have HB:Hid (∀w,NRow w.heap.size (MB w) (.slice (some ⟨w.heap.size,0,none⟩) 30 30) (List.replicate 30 0)/\Same w (MB w)):=HMB;replace Pv:∀w,(Instr.makeSlice 138 (.int .i64 286) (.int .i64 286)).run Tryz.prog w=.ok (.slice (some ⟨w.heap.size,0,none⟩) 286 286) (MA w):=Pv;replace Pt:∀w,(Instr.makeSlice 138 (.int .i64 30) (.int .i64 30)).run Tryz.prog w=.ok (.slice (some ⟨w.heap.size,0,none⟩) 30 30) (MB w):=Pt;have QK:w.drew.heap.size=w.heap.size:=rfl;obtain⟨g0,GW⟩:∃g,g=w.heap.size:=⟨_,rfl⟩
 obtain⟨gA,NF⟩:∃g,g=(MA w.drew).heap.size:=⟨_,rfl⟩
 obtain⟨gB,NQ⟩:∃g,g=(MB w.drew).heap.size:=⟨_,rfl⟩
 obtain⟨W1,hW1⟩:∃W,W=MB (MA w.drew):=⟨_,rfl⟩
 obtain⟨W2,oh⟩:∃W,W=MA (MB w.drew):=⟨_,rfl⟩
 have J5:=PX w.drew;have hB0:=HMB w.drew;have N4:=PX (MB w.drew);have OH:=HMB (MA w.drew);have N5:=J5.1.lt (k:=w.drew.heap.size) rfl;have Pq:=hB0.1.lt (k:=w.drew.heap.size) rfl;rw[<-oh,<-NQ]at N4;rw[<-hW1,<-NF]at OH;rw[<-NF]at N5;rw[<-NQ]at Pq;have HX1:Hid (NRow w.heap.size W1 (.slice (some ⟨g0,0,none⟩) 286 286) (List.replicate 286 0)/\NRow w.heap.size W1 (.slice (some ⟨gA,0,none⟩) 30 30) (List.replicate 30 0)/\Same w W1/\g0≠gA):=hid ⟨by rw[GW];exact J5.1.same OH.2,RowE.base OH.1 (by omega),Same.trans ((Kept.refl _ w).drew) (Same.trans J5.2 OH.2),by omega⟩;have HX2:Hid (NRow w.heap.size W2 (.slice (some ⟨gB,0,none⟩) 286 286) (List.replicate 286 0)/\NRow w.heap.size W2 (.slice (some ⟨g0,0,none⟩) 30 30) (List.replicate 30 0)/\Same w W2/\gB≠g0):=hid ⟨RowE.base N4.1 (by omega),by rw[GW];exact hB0.1.same N4.2,Same.trans ((Kept.refl _ w).drew) (Same.trans hB0.2 N4.2),by omega⟩;clear hs fO fX hm hb htk PX HMB QK J5 hB0 N4 OH N5 Pq HA HB;go_enter Tryz.func84,Tryz.ntmps84;go_wp2_with fail;go_region
 all_goals first
  | (rw[<-NF,<-hW1,<-GW];clear Pv Pt oh hW1 GW NF NQ HX2;generalize g0=gl at HX1 ⊢;generalize gA=gd at HX1 ⊢;generalize W1=WW at HX1 ⊢;have HX:=HX1;clear HX1)
  | (rw[<-NQ,<-oh,<-GW];clear Pv Pt oh hW1 GW NF NQ HX1;generalize gB=gl at HX2 ⊢;generalize g0=gd at HX2 ⊢;generalize W2=WW at HX2 ⊢;have HX:=HX2;clear HX2)
 all_goals
  have bh:gl≠gd:=HX.out.2.2.2;go_wp2_with fail;go_loopg [10] ts.length (λq zi wr=>∃(i:Nat),ts.length-i<=q/\i<=ts.length/\zi=.int .i64 (i:Nat)/\Hid (NRow w.heap.size wr (.slice (some ⟨gl,0,none⟩) 286 286) (iv (ts.take i) (List.replicate 286 0))/\NRow w.heap.size wr (.slice (some ⟨gd,0,none⟩) 30 30) (iB (ts.take i) (List.replicate 30 0))/\Same w wr))
  case atStart=>exact⟨0,by omega,by omega,rfl,hid ⟨HX.out.1,HX.out.2.1,HX.out.2.2.1⟩⟩
  case round=>
   clear HX;obtain⟨i,hq,hi,rfl,HR⟩:=hrel;have HGE:Hid (w.heap.size<=gl/\w.heap.size<=gd/\gl<wr.heap.size/\gd<wr.heap.size):=hid ⟨HR.out.1.ge rfl,HR.out.2.1.ge rfl,HR.out.1.lt rfl,HR.out.2.1.lt rfl⟩;by_cases hlt:i<ts.length
   ·obtain⟨b,o,e1,k1,k2,k3⟩:=TkSrc.at (SrcC.kept fd HS.out HR.out.2.2 (λ_ _ _ f=>f)) (Kept.refl _ wr) i hlt;subst e1;obtain⟨t,ht⟩:∃t,t=ts[i]:=⟨_,rfl⟩
    rw[<-ht]at k1 k2 k3;have htI:=HTI.out t (by rw[ht];exact List.getElem_mem _);have jd:=HSY.out t (by rw[ht];exact List.getElem_mem _);obtain⟨LA,Ij⟩:∃l,l=iv (ts.take i) (List.replicate 286 0):=⟨_,rfl⟩
    obtain⟨LB,lA⟩:∃l,l=iB (ts.take i) (List.replicate 30 0):=⟨_,rfl⟩
    have hkA:=qM (ts.take i) (List.replicate 286 0) (λt ht=>by rw[List.length_replicate];exact(HSY.out t (List.mem_of_mem_take ht)).1) (aJ t).sym;have uB:=wn (ts.take i) (List.replicate 30 0) (λt ht h=>by rw[List.length_replicate];exact(HSY.out t (List.mem_of_mem_take ht)).2 h) (aH t).sym;have hz:∀n j,key (List.replicate n 0) j=0:=λn j=>by simp only[key,List.getD_eq_getElem?_getD,List.getElem?_replicate];split<;>rfl
    rw[hz,List.length_take,<-Ij]at hkA;rw[hz,List.length_take,<-lA]at uB;have HSA:Hid (iv (ts.take (i+1)) (List.replicate 286 0)=g6 LA (aJ t).sym):=hid (by rw[Cg ts i hlt,<-Ij,ht]);have HSB:Hid (iB (ts.take (i+1)) (List.replicate 30 0)=if t.len=0 then LB else g6 LB (aH t).sym):=hid (by rw[CY ts i hlt,<-lA,ht]);have N5:LA.length=286:=(by rw[Ij,j8,List.length_replicate]);have Pq:LB.length=30:=(by rw[lA,ot,List.length_replicate]);rw[<-Ij,<-lA]at HR;obtain⟨y,hy⟩:∃y,y=(aJ t).sym:=⟨_,rfl⟩
    obtain⟨x,hx⟩:∃x,x=key LA y:=⟨_,rfl⟩
    have T7:y<286:=(by rw[hy];exact jd.1);rw[<-hy,<-hx]at hkA;rw[<-hy]at HSA;obtain⟨W4,BZ⟩:∃W4,W4=wr.alloc (.cells #[.int .u8 (t.lit:Nat),.int .i64 t.len,.int .i64 t.dist] 133):=⟨_,rfl⟩
    have HK4:Hid (Same wr W4):=hid (by rw[BZ];exact(Kept.refl _ wr).alloc _);have HT4:Hid (Blk W4 wr.heap.size #[.int .u8 (t.lit:Nat),.int .i64 t.len,.int .i64 t.dist] 133):=hid (by rw[BZ];exact Blk.new wr _ _);have HLM:=oB W4 t htI.len htI.byte;have HIC:Hid (∀W2,Calls Tryz.prog 108 #[kQ t] W2 λe w'=>e=.returned (.bool (decide (0<t.len)))/\Same W2 w'):=hid (λW2=>gp W2 t);unfold De at HLM;unfold kQ at HLM HIC;rw[<-hy]at HLM;have HTN:Hid (qf fixL fixD t):=htI;have HHS:Hid (t.len≠0->(aH t).sym<30):=hid jd.2;have fO:x<=20000:=(by omega);have HKX:Hid (x=key LA y/\y<LA.length):=hid ⟨hx,by omega⟩;have HKB:Hid (key LB (aH t).sym<=20000):=hid (by omega);have XY:(0:Int)<=(y:Int):=(by omega);have XR:(y:Int)<286:=(by omega);clear hkA uB hz Ij lA jd htI ht hx hy Pq;go_wp2_with fail;rw[<-BZ];clear BZ k1 k2 k3;refine HLM.mono ?_;rintro e w5 ⟨rfl,hk5⟩;have HR5:Hid (NRow w.heap.size w5 (.slice (some ⟨gl,0,none⟩) 286 286) LA/\NRow w.heap.size w5 (.slice (some ⟨gd,0,none⟩) 30 30) LB/\Same w w5):=hid (by
     have h:=Same.trans HK4.out hk5;exact⟨HR.out.1.same h,HR.out.2.1.same h,Same.trans HR.out.2.2 h⟩)
    have HT5:Hid (Blk w5 wr.heap.size #[.int .u8 (t.lit:Nat),.int .i64 t.len,.int .i64 t.dist] 133):=hid (HT4.out.kept hk5 (λf=>f));obtain⟨cg,fg,hrg⟩:=NRow.bumped HR5.out.1 y x HKX.out.2 HKX.out.1;have HRG:Hid (NRow w.heap.size (w5.setCell ⟨gl,y,none⟩ (.int .i64 ((x:Int)+1))) (.slice (some ⟨gl,0,none⟩) 286 286) (g6 LA y)):=hrg;have t0:=HT5.out.cell 0;have t1:=HT5.out.cell 1;have t2:=HT5.out.cell 2;simp at t0 t1 t2;have Lu:=λw (y:Int) b c=>Tryz.markSym w y b c
    have Pz:wr.heap.size≠gl:=(by have:=HGE.out;omega);clear hk5 HLM HR HT4 HK4 hrg;go_wp2_with fail;obtain⟨W6,Pr⟩:∃W,W=w5.setCell ⟨gl,y,none⟩ (.int .i64 ((x:Int)+1)):=⟨_,rfl⟩
    have hk6:Kept (·=gl) w5 W6:=(by rw[Pr];exact(Kept.refl (·=gl) w5).setCell _ _ (.inl rfl));have HR6:Hid (NRow w.heap.size W6 (.slice (some ⟨gl,0,none⟩) 286 286) (g6 LA y)/\NRow w.heap.size W6 (.slice (some ⟨gd,0,none⟩) 30 30) LB/\Same w W6):=hid ⟨by rw[Pr];exact HRG.out,RowE.kept HR5.out.2.1 hk6 (λk e f=>by simp[Value.ownBlock]at e;omega),Same.then HR5.out.2.2 hk6 (λk hk f=>by have:=HGE.out;omega)⟩;have HT6:Hid (Blk W6 wr.heap.size #[.int .u8 (t.lit:Nat),.int .i64 t.len,.int .i64 t.dist] 133):=hid (HT5.out.kept hk6 Pz);rw[<-Pr];clear Pr hk6 HRG HR5 HT5 cg fg t0 t1 t2 Lu Pz;refine(HIC.out _).mono ?_;rintro e w7 ⟨rfl,dh⟩;have HR7:Hid (NRow w.heap.size w7 (.slice (some ⟨gl,0,none⟩) 286 286) (g6 LA y)/\NRow w.heap.size w7 (.slice (some ⟨gd,0,none⟩) 30 30) LB/\Same w w7):=hid ⟨HR6.out.1.same dh,HR6.out.2.1.same dh,Same.trans HR6.out.2.2 dh⟩;have HT7:Hid (Blk w7 wr.heap.size #[.int .u8 (t.lit:Nat),.int .i64 t.len,.int .i64 t.dist] 133):=hid (HT6.out.kept dh (λf=>f));clear dh HR6 HT6 HIC;by_cases h0:t.len=0
    ·have BO:decide (0<t.len)=false:=(by simp;omega);rw[BO];have HR8:Hid (NRow w.heap.size w7 (.slice (some ⟨gl,0,none⟩) 286 286) (iv (ts.take (i+1)) (List.replicate 286 0))/\NRow w.heap.size w7 (.slice (some ⟨gd,0,none⟩) 30 30) (iB (ts.take (i+1)) (List.replicate 30 0))/\Same w w7):=hid (by rw[HSA.out,HSB.out,if_pos h0];exact HR7.out);clear h0 BO HR7;go_wp2_with fail;go_roundg (gk-1)
     case measure=>omega
     case rel=>exact⟨i+1,by omega,by omega,by go_num,HR8⟩
    ·have BO:decide (0<t.len)=true:=(by have:=HTN.out.len;simp;omega);rw[BO];have ja:=HTN.out.far h0;have HDM:=mV w7 t ja.1 ja.2;obtain⟨z,hz⟩:∃z,z=(aH t).sym:=⟨_,rfl⟩
     have WE:z<30:=(by rw[hz];exact HHS.out h0);obtain⟨x2,fX⟩:∃x,x=key LB z:=⟨_,rfl⟩
     have Uy:x2<=20000:=(by rw[fX,hz];exact HKB.out);have HKZ:Hid (x2=key LB z/\z<LB.length):=hid ⟨fX,by have:=HR7.out.2.1.len;omega⟩;have HSB2:Hid (iB (ts.take (i+1)) (List.replicate 30 0)=g6 LB z):=hid (by rw[HSB.out,if_neg h0,hz]);unfold De at HDM;unfold kQ at HDM;rw[<-hz]at HDM;have XM:(0:Int)<=(z:Int):=(by omega);have Yw:(z:Int)<30:=(by omega);have Lu:=λw (y:Int) b c=>Tryz.markSym w y b c
     have t0:=HT7.out.cell 0;have t1:=HT7.out.cell 1;have t2:=HT7.out.cell 2;simp at t0 t1 t2;clear hz fX h0 BO ja;go_wp2_with fail;refine HDM.mono ?_;rintro e w8 ⟨rfl,hk8⟩;have HR8:Hid (NRow w.heap.size w8 (.slice (some ⟨gl,0,none⟩) 286 286) (g6 LA y)/\NRow w.heap.size w8 (.slice (some ⟨gd,0,none⟩) 30 30) LB/\Same w w8):=hid ⟨HR7.out.1.same hk8,HR7.out.2.1.same hk8,Same.trans HR7.out.2.2 hk8⟩;obtain⟨cg,fg,hrg⟩:=NRow.bumped HR8.out.2.1 z x2 HKZ.out.2 HKZ.out.1;have HR9:Hid (NRow w.heap.size (w8.setCell ⟨gd,z,none⟩ (.int .i64 ((x2:Int)+1))) (.slice (some ⟨gl,0,none⟩) 286 286) (iv (ts.take (i+1)) (List.replicate 286 0))/\NRow w.heap.size (w8.setCell ⟨gd,z,none⟩ (.int .i64 ((x2:Int)+1))) (.slice (some ⟨gd,0,none⟩) 30 30) (iB (ts.take (i+1)) (List.replicate 30 0))/\Same w (w8.setCell ⟨gd,z,none⟩ (.int .i64 ((x2:Int)+1)))):=hid (by
      have hk9:Kept (·=gd) w8 (w8.setCell ⟨gd,z,none⟩ (.int .i64 ((x2:Int)+1))):=(Kept.refl (·=gd) w8).setCell _ _ (.inl rfl);rw[HSA.out,HSB2.out];exact⟨RowE.kept HR8.out.1 hk9 (λk e f=>by simp[Value.ownBlock]at e;omega),hrg,Same.then HR8.out.2.2 hk9 (λk hk f=>by have:=HGE.out;omega)⟩)
     clear hk8 HDM HR7 HT7 hrg t0 t1 t2;go_wp2_with fail;go_roundg (gk-1)
     case measure=>omega
     case rel=>exact⟨i+1,by omega,by omega,by go_num,HR9⟩
   ·have ye:i=ts.length:=(by omega);obtain⟨LA,Ij⟩:∃l,l=iv ts (List.replicate 286 0):=⟨_,rfl⟩
    have hkA:=qM ts (List.replicate 286 0) (λt ht=>by rw[List.length_replicate];exact(HSY.out t ht).1) 256;have hz:key (List.replicate 286 0) 256=0:=(by decide +kernel);rw[hz,<-Ij]at hkA;have HR2:Hid (NRow w.heap.size wr (.slice (some ⟨gl,0,none⟩) 286 286) LA/\NRow w.heap.size wr (.slice (some ⟨gd,0,none⟩) 30 30) (iB ts (List.replicate 30 0))/\Same w wr):=hid (by have h:=HR.out;rw[ye,List.take_length,<-Ij]at h;exact h);obtain⟨x,hx⟩:∃x,x=key LA 256:=⟨_,rfl⟩
    have fO:x<=20000:=(by omega);obtain⟨cg,fg,hrg⟩:=NRow.bumped HR2.out.1 256 x (by rw[Ij,j8,List.length_replicate];decide) hx;have HR9:Hid (NRow w.heap.size (wr.setCell ⟨gl,256,none⟩ (.int .i64 ((x:Int)+1))) (.slice (some ⟨gl,0,none⟩) 286 286) (g6 (iv ts (List.replicate 286 0)) 256)/\NRow w.heap.size (wr.setCell ⟨gl,256,none⟩ (.int .i64 ((x:Int)+1))) (.slice (some ⟨gd,0,none⟩) 30 30) (iB ts (List.replicate 30 0))/\Same w (wr.setCell ⟨gl,256,none⟩ (.int .i64 ((x:Int)+1)))):=hid (by
     have hk9:Kept (·=gl) wr (wr.setCell ⟨gl,256,none⟩ (.int .i64 ((x:Int)+1))):=(Kept.refl (·=gl) wr).setCell _ _ (.inl rfl);exact⟨by rw[<-Ij];exact hrg,RowE.kept HR2.out.2.1 hk9 (λk e f=>by simp[Value.ownBlock]at e;omega),Same.then HR2.out.2.2 hk9 (λk hk f=>by have:=HGE.out;omega)⟩)
    clear ye hkA hz hx hrg HR2 HR Ij;go_wp2_with fail;go_ret2;exact⟨_,_,rfl,HR9.out.1,HR9.out.2.1,HR9.out.2.2⟩
def aV(ns:List Nat):List Nat:=jU (dO ns 15).length (dO ns 15)
theorem RowE.raise{α:Type}{enc:α->Value}{B B' t:Nat}{w:World}{g n cap:Nat}{xs:List α}(h:RowE B t enc w (.slice (Option.some ⟨g,0,none⟩) n cap) xs)(hb:B'<=g):RowE B' t enc w (.slice (Option.some ⟨g,0,none⟩) n cap) xs:=by
 refine⟨h.1,?_⟩;rcases h.2 with Ao | ⟨g',cap',cur,e,iH,rest⟩
 ·exact .inl Ao
 ·have:g=g':=(by simp at e;exact e.1);exact .inr ⟨g',cap',cur,e,by omega,rest⟩
theorem lj{l:List Nat}{m:Nat}(h:m<=l.length)(h1:1<=m):key (l.take m) ((l.take m).length-1)=key l (m-1):=by rw[List.length_take,Nat.min_eq_left h];simp only[key,List.getD_eq_getElem?_getD,List.getElem?_take];rw[if_pos (by omega)]
theorem pS(w:World)(v:Value)(I:Nat→Prop)(ns:List Nat)(hs:SrcE am w I v ns)(h0:0<ns.length)(hl:ns.length≤288)(hb:∀x∈ns,x≤1000000):
  Calls Tryz.prog 85 #[v] w λe w'=>∃v',e=.returned v'/\NRow w.heap.size w' v' (aV ns)/\Same w w':=by
 obtain⟨av,cv,Ar,_⟩:=id hs;subst Ar;have hok:eC (ns.map (fun(n:Nat)=>(n:Int))) 0 1000000000000=true:=by simp only[eC,List.length_map,Bool.and_eq_true,decide_eq_true_eq,Bool.not_eq_true',List.any_eq_false];refine⟨⟨by omega,by omega⟩,λz hz=>?_⟩;obtain⟨n,hn,rfl⟩:=List.mem_map.1 hz;have:=hb n hn;simp[d7];omega
 have HL:=pV w _ I (ns.map (fun(n:Nat)=>(n:Int))) ns 15 (hs.recode (enc':=bI) (by rw[List.map_map];rfl)) hok (by
  rw[List.map_map];conv=>lhs;rw[<-List.map_id ns]
  exact List.map_congr_left (λn _=>by simp)) (by decide) (by decide) (by have:=cI ns;omega)
 have HLL:Hid ((dO ns 15).length=ns.length):=hid (ig ns 15);have HCH:Hid (aV ns=jU (dO ns 15).length (dO ns 15)):=hid rfl;generalize hlm:dO ns 15=lm at HL HLL HCH;obtain⟨L,hL⟩:∃L,L=ns.length:=⟨_,rfl⟩
 rw[<-hL]at h0 hl HLL;rw[<-hL]at HL;clear hs hb hok hlm;rw[<-hL];clear hL;go_enter Tryz.func85,Tryz.ntmps85;go_wp2_with fail;refine HL.mono ?_;rintro e w1 ⟨⟨g,n,cap,rfl,hr,hg⟩,hk⟩;have hn:=hr.len;rw[HLL.out]at hn;subst hn;have HR:Hid (NRow w.heap.size w1 (.slice (some ⟨g,0,none⟩) L cap) lm):=hid (RowE.raise hr hg);have HK:Hid (Same w w1):=hk;have cj:L<=cap:=by obtain⟨_,_,e,_,_,h9,_⟩:=hr.shape;injection e with _ _ e;rw[HLL.out]at h9;omega
 clear hr hg hk HL;go_wp2_with fail;go_loopg [3] L (λq zl wr=>∃(m k:Nat),m<=q/\1<=m/\m<=L/\zl=.slice (some ⟨g,0,none⟩) m cap/\wr=w1/\Hid (jU k (lm.take m)=aV ns/\m<=k))
 case atStart=>exact⟨L,L,by omega,by omega,by omega,rfl,rfl,hid ⟨by rw[HCH.out,HLL.out,List.take_of_length_le (by rw[HLL.out];exact Nat.le_refl _)],Nat.le_refl _⟩⟩
 case round=>
  obtain⟨m,k,hq,hm1,PL,rfl,rfl,HT⟩:=hrel;have HRM:Hid (NRow w.heap.size wr (.slice (some ⟨g,0,none⟩) m cap) (lm.take m)):=hid (by
   have h:=HR.out;rw[<-List.take_append_drop m lm]at h;have h2:=RowE.cut h;rw[List.length_take,HLL.out,Nat.min_eq_left PL]at h2;exact h2)
  obtain⟨x,hx⟩:∃x,x=key lm (m-1):=⟨_,rfl⟩
  obtain⟨m1,hm⟩:∃m1,m=m1+1:=⟨m-1,by omega⟩
  subst hm;have cg:wr.cell? ⟨g,m1,none⟩=some (.int .i64 (x:Nat)):=by have h:=HR.out.cell m1 (by rw[HLL.out];omega);rw[h,hx,Nat.add_sub_cancel,aY (by rw[HLL.out];omega)];rfl
  have ju:((m1+1:Nat):Int)-1=(m1:Int):=(by omega);by_cases G7:m1=0
  ·subst G7;have HF:Hid (aV ns=lm.take 1):=hid (by
    rw[<-HT.out.1];cases k with
    | zero=>rfl
    | succ k=>unfold jU;rw[if_neg (by rw[List.length_take,HLL.out];omega)])
   clear HT hx cg ju;go_wp2_with fail;go_ret;exact⟨_,rfl,by rw[HF.out];exact HRM.out,HK.out⟩
  ·by_cases hz:x=0
   ·have HF:Hid (jU (k-1) (lm.take m1)=aV ns∧m1≤k-1):=hid ⟨by
     rw[<-HT.out.1];have hk:=HT.out.2;obtain⟨k',rfl⟩:∃k',k=k'+1:=⟨k-1,by omega⟩
     rw[jU,if_pos ⟨by rw[List.length_take,HLL.out];omega,by rw[lj (by rw[HLL.out];exact PL) (by omega),<-hx];exact hz⟩,Nat.add_sub_cancel,List.take_take,List.length_take,HLL.out];congr 2;omega,by have:=HT.out.2;omega⟩
    subst hz;clear HT hx;go_wp2_with fail;go_roundg (gk-1)
    case measure=>omega
    case rel=>exact⟨m1,k-1,by omega,by omega,by omega,by go_num,rfl,HF⟩
   ·have HF:Hid (aV ns=lm.take (m1+1)):=hid (by
     rw[<-HT.out.1];cases k with
     | zero=>rfl
     | succ k=>unfold jU;rw[if_neg (by rw[lj (by rw[HLL.out];exact PL) (by omega),<-hx];exact λh=>hz h.2)])
    have XN:((x:Int)==0)=false:=(by simp;omega);clear HT hx hz;go_wp2_with fail;go_ret;exact⟨_,rfl,by rw[HF.out];exact HRM.out,HK.out⟩
end Go.Proofs.YtllcnlnbpikhdaaGreatDoor
namespace Go.Proofs.YtllcnlnbpikhdaaGreatDoor
theorem pE{l:List Nat}{j:Nat}(h:l.length<=j):key l j=0:=by simp[key,List.getD_eq_getElem?_getD,List.getElem?_eq_none h]
theorem nU{l:List Nat}{j:Nat}(h:key l j≠0):j<l.length:=by refine Classical.byContradiction (λhc=>h (pE (by omega)))
theorem Ey{l:List Nat}{m:Nat}(hz:∀j,m<=j->key l j=0)(j:Nat):key (l.take m) j=key l j:=by
 by_cases h:j<m
 ·simp only[key,List.getD_eq_getElem?_getD,List.getElem?_take];rw[if_pos h]
 ·rw[hz j (by omega)];exact pE (by rw[List.length_take];omega)
theorem Cv{l:List Nat}{m:Nat}(hz:∀j,m<=j->key l j=0):bm (l.take m)=bm l:=by
 have hd:∀x∈l.drop m,x=0:=by intro x hx;obtain⟨i,hi,rfl⟩:=List.getElem_of_mem hx;rw[List.length_drop]at hi;have:=hz (m+i) (by omega);rw[aY (by omega)]at this;rw[List.getElem_drop];exact this
 have h1:measure l=measure (l.take m):=by
  conv=>lhs;rw[<-List.take_append_drop m l]
  unfold measure;rw[List.map_append,List.sum_append];have:((l.drop m).map ep).sum=0:=by
   generalize l.drop m=d at hd
   induction d with
   | nil=>rfl
   | cons x r ih=>
    rw[List.map_cons,List.sum_cons,hd x (by simp),ih (λy hy=>hd y (by simp[hy]))];rfl
  omega
 have h2:dB l=dB (l.take m):=by
  conv=>lhs;rw[<-List.take_append_drop m l]
  unfold dB;rw[List.countP_append];have:(l.drop m).countP (λn=>n != 0)=0:=List.countP_eq_zero.2 (λx hx=>by simp[hd x hx]);omega
 unfold bm;rw[h1,h2]
structure Uc(ns:List Nat)(l:List Nat):Prop where
 pos:1<=l.length
 max:l.length<=ns.length
 le:∀x∈l,x<=15
 key:∀s,key ns s≠0->key l s≠0
 ok:(∃s,Go.Proofs.YtllcnlnbpikhdaaGreatDoor.key ns s≠0)->bm l=0
 back:∀s,Go.Proofs.YtllcnlnbpikhdaaGreatDoor.key l s≠0->Go.Proofs.YtllcnlnbpikhdaaGreatDoor.key ns s≠0
theorem tD(ns:List Nat)(h0:0<ns.length)(hl:ns.length<=288):Uc ns (aV ns):=by
 have cJ:(aD ns).length<=2 ^ 15:=by have:=cI ns;omega
 have yf:=ig ns 15;obtain⟨m,h1,h2,h3,h4⟩:=EN (dO ns 15).length (dO ns 15) (by omega);have hc:aV ns=(dO ns 15).take m:=h1;have hkk:=Ey h4;refine⟨by rw[hc,List.length_take];omega,by rw[hc,List.length_take];omega,λx hx=>?_,λs hs=>?_,fun⟨s,hs⟩=>?_,λs hs=>?_⟩
 ·rw[hc]at hx;exact EA ns 15 cJ (by decide) (by decide) x (List.mem_of_mem_take hx)
 ·rw[hc,hkk];exact Bm ns 15 s (nU hs) hs cJ (by decide) (by decide)
 ·rw[hc,Cv h4];exact sM ns 15 (List.length_pos_of_mem (aU.2 ⟨nU hs,hs⟩)) cJ (by decide) (by decide)
 ·rw[hc,hkk]at hs;have hsl:=nU hs;rw[aY hsl,qD]at hs;intro h9;rw[if_pos h9]at hs;exact hs rfl
def cf(ts:List TK):List Nat:=g6 (iv ts (List.replicate 286 0)) 256
def bl(ts:List TK):List Nat:=iB ts (List.replicate 30 0)
theorem sf(n j:Nat):key (List.replicate n 0) j=0:=by simp only[key,List.getD_eq_getElem?_getD,List.getElem?_replicate];split<;>rfl
structure Nn(ts:List TK):Prop where
 ok:OkL (aV (cf ts)) (aV (bl ts))
 toks:od (aV (cf ts)) (aV (bl ts)) ts
 may:EY ((aV (cf ts)).map (fun(n:Nat)=>(n:Int))) ((aV (bl ts)).map (fun(n:Nat)=>(n:Int)))=true
 lc:∀x∈cf ts,x<=1000000
 dc:∀x∈bl ts,x<=1000000
 ll:(cf ts).length=286
 dl:(bl ts).length=30
theorem t6{l:List Nat}{x:Nat}(h:x∈l):∃j,x=key l j:=by obtain⟨i,hi,rfl⟩:=List.getElem_of_mem h;exact⟨i,(aY hi).symm⟩
theorem GG{ts:List TK}{n:Nat}(hm:b7 16384 ts 0=.ok n)(hb:∀t∈ts,t.lit<256):Nn ts:=by
 have jd:∀t∈ts,(aJ t).sym<286/\(t.len≠0->(aH t).sym<30):=λt ht=>by obtain⟨said,h1,h2⟩:=jm hm (by decide) t ht;have h3:=pq h2 h1 (hb t ht);exact⟨by omega,λh=>by have:=(h3.2.2.2.2 h).2.1;omega⟩
 have Yz:=fw hm;have J5:(iv ts (List.replicate 286 0)).length=286:=by rw[j8,List.length_replicate]
 have hA:(cf ts).length=286:=by unfold cf;rw[fE,J5]
 have hB:(bl ts).length=30:=by unfold bl;rw[ot,List.length_replicate]
 have kA:=λj=>qM ts (List.replicate 286 0) (λt ht=>by rw[List.length_replicate];exact(jd t ht).1) j
 have kB:=λj=>wn ts (List.replicate 30 0) (λt ht h=>by rw[List.length_replicate];exact(jd t ht).2 h) j
 have kb:=λj=>pC (iv ts (List.replicate 286 0)) 256 j (by omega)
 have LP:key (cf ts) 256≠0:=by have:=kb 256;rw[if_pos rfl]at this;unfold cf;omega
 have cA:=tD (cf ts) (by omega) (by omega);have cB:=tD (bl ts) (by omega) (by omega);have Mn:∀t∈ts,key (cf ts) (aJ t).sym≠0:=λt ht=>by have h1:=(kA (aJ t).sym).2.2 ⟨t,ht,rfl⟩;have h2:=kb (aJ t).sym;unfold cf;omega
 have Sd:∀t∈ts,t.len≠0->key (bl ts) (aH t).sym≠0:=λt ht h=>by have h1:=(kB (aH t).sym).2.2 ⟨t,ht,h,rfl⟩;unfold bl;omega
 have Or:=nU (cA.key 256 LP);have VX:=cA.max;have Wt:=cB.max;have Xf:=cB.pos;refine⟨⟨⟨cA.pos,by omega,cA.le,cA.ok ⟨256,LP⟩⟩,cB.pos,by omega,cB.le,λhu=>?_⟩,⟨λt ht=>?_,⟨Or,cA.key 256 LP⟩,hb⟩,?_,λx hx=>?_,λx hx=>?_,hA,hB⟩
 ·refine⟨cB.pos,by omega,cB.le,cB.ok ?_⟩;unfold bR at hu;obtain⟨x,hx,h9⟩:=List.any_eq_true.1 hu;obtain⟨j,rfl⟩:=t6 hx;exact⟨j,cB.back j (by simpa using h9)⟩
 ·have h1:=cA.key _ (Mn t ht);refine⟨nU h1,h1,λh=>?_⟩;have h2:=cB.key _ (Sd t ht h);exact⟨nU h2,h2⟩
 ·unfold EY;have e1:cH ((aV (cf ts)).map (fun(n:Nat)=>(n:Int)))=true:=(eQ _).2 (λz hz=>by
   obtain⟨x,hx,rfl⟩:=List.mem_map.1 hz;have:=cA.le x hx;omega)
  have e2:cH ((aV (bl ts)).map (fun(n:Nat)=>(n:Int)))=true:=(eQ _).2 (λz hz=>by
   obtain⟨x,hx,rfl⟩:=List.mem_map.1 hz;have:=cB.le x hx;omega)
  rw[e1,e2];simp only[List.length_map,Bool.and_true,Bool.and_eq_true,decide_eq_true_eq];omega
 ·obtain⟨j,rfl⟩:=t6 hx;have h1:=kb j;have h2:=(kA j).2.1;rw[sf]at h2;unfold cf;split at h1<;>omega
 ·obtain⟨j,rfl⟩:=t6 hx;have h2:=(kB j).2.1;rw[sf]at h2;unfold bl;omega
end Go.Proofs.YtllcnlnbpikhdaaGreatDoor
namespace Go.Proofs.YtllcnlnbpikhdaaGreatDoor
open Go.RowKit
theorem DU{lit dist:List Nat}{many:Nat}{cs:List Nat}{sn:List (Nat×Nat)}(h:lT lit dist many cs sn)(hl:sn.length<=316):(bC lit.length dist.length many cs sn).length<=10000:=by
 have h1:∀ss:List (Nat×Nat),(ss.flatMap (aC cs)).length<=14*ss.length:=λss=>by
  induction ss with
  | nil=>simp
  | cons s r ih=>
   rw[List.flatMap_cons,List.length_append,fL,List.length_cons];have h2:=key_le h.c7 s.1;have h3:dC s.1<=7:=(by unfold dC;split<;>(try split)<;>(try split)<;>omega);omega
 have h4:=h1 sn;have h5:=h.m2;unfold bC;simp only[List.length_append,af,cM];omega
def vE(ts:List TK):List Nat:=mQ (aV (cf ts)) (aV (bl ts)) (dE (cZ (aZ (aV (cf ts)++aV (bl ts)))) 19) (cZ (aZ (aV (cf ts)++aV (bl ts)))) (eJ (aV (cf ts)++aV (bl ts))) ts
def uf(ts:List TK):Prop:=lT (aV (cf ts)) (aV (bl ts)) (dE (cZ (aZ (aV (cf ts)++aV (bl ts)))) 19) (cZ (aZ (aV (cf ts)++aV (bl ts)))) (eJ (aV (cf ts)++aV (bl ts)))
theorem BE(l:List Nat):(l.map (fun(n:Nat)=>(n:Int))).map Int.toNat=l:=by
 rw[List.map_map];conv=>rhs;rw[<-List.map_id l]
 exact List.map_congr_left (λn _=>by simp)
theorem La{w:World}(h:Tab w):0<w.heap.size:=World.block_lt_of_cell? w _ (h 0 (by decide))
theorem xg(w:World)(v:Value)(I:Nat→Prop)(ts:List TK)(n:Nat)(hs:TkSrc w I v ts)(hm:b7 16384 ts 0=.ok n)(hb:∀t∈ts,t.lit<256)(hT:Tab w):
  Calls Tryz.prog 58 #[v] w λe w'=>∃v' bs,e=.returned v'/\NB w w' v' bs/\jX bs (vE ts)/\uf ts:=by
 have hdy:=GG hm hb;have HCN:=Cw w v I ts n hs hm hb;have HC1:Hid (∀W u J,SrcE am W J u (cf ts)->Calls Tryz.prog 85 #[u] W λe w'=>∃v',e=.returned v'/\NRow W.heap.size w' v' (aV (cf ts))/\Same W w'):=hid (λW u J h=>pS W u J _ h (by rw[hdy.ll];decide) (by rw[hdy.ll];decide) hdy.lc);have HC2:Hid (∀W u J,SrcE am W J u (bl ts)->Calls Tryz.prog 85 #[u] W λe w'=>∃v',e=.returned v'/\NRow W.heap.size w' v' (aV (bl ts))/\Same W w'):=hid (λW u J h=>pS W u J _ h (by rw[hdy.dl];decide) (by rw[hdy.dl];decide) hdy.dc);have HLT:Hid ((ts.flatMap (ay (aV (cf ts)) (aV (bl ts)))).length+key (aV (cf ts)) 256<=1000000):=hid (by
  have h1:=jk (key_le hdy.ok.lit.le) (key_le hdy.ok.le) ts (λt ht=>A8 hm hdy.toks t ht);have h2:=fw hm;have h3:=key_le hdy.ok.lit.le 256;omega)
 have HLY:Hid (∀w3 w4 p s l d X,NW w w3 p s X->Same w3 w4->X.length<=100000->SrcE am w4 (Off w4 p s) l (aV (cf ts))->SrcE am w4 (Off w4 p s) d (aV (bl ts))->Calls Tryz.prog 81 #[.pointer (some ⟨p,0,none⟩),v,l,d] w4 λe w'=>(∃u,e=.returned u)/\∃s',NW w w' p s' (X++(ts.flatMap (ay (aV (cf ts)) (aV (bl ts)))++aE (aV (cf ts)) 256))):=hid (λw3 w4 p s l d X h1 h2 hX h3 h4=>by
  have h5:=h1.same' h2;refine(kX w4 p s _ v l d ts _ _ n h5.wr h5.bit hX (TkSrc.off hs h5) h3 h4 hdy.ok hdy.toks hm).mono ?_;rintro e w' ⟨he,s',h6⟩;exact⟨he,s',h5.ws h6⟩)
 have HWR:Hid (∀w3 p s X al ad cl cd I J,NW w w3 p s X->X.length<=100->SrcE am w3 I (.slice al (aV (cf ts)).length cl) (aV (cf ts))->SrcE am w3 J (.slice ad (aV (bl ts)).length cd) (aV (bl ts))->Calls Tryz.prog 86 #[.pointer (some ⟨p,0,none⟩),.slice al (aV (cf ts)).length cl,.slice ad (aV (bl ts)).length cd] w3 λe w'=>e=.returned (.int .i64 0)/\Fz w3 w' p s X (aV (cf ts)) (aV (bl ts))):=hid (λw3 p s X al ad cl cd I J h1 hX h2 h3=>by
  have h9:=Dn w3 p s X al ad _ cl _ cd I J _ _ (h2.recode (enc':=bI) (ys:=(aV (cf ts)).map (fun(n:Nat)=>(n:Int))) (by rw[List.map_map];rfl)) (h3.recode (enc':=bI) (ys:=(aV (bl ts)).map (fun(n:Nat)=>(n:Int))) (by rw[List.map_map];rfl)) hdy.may (WS.start h1.wr h1.bit) (by omega) (hT.kept h1.same (λf=>f)) (λf=>by have:=h1.own _ f;have:=La hT;omega);rw[BE,BE]at h9;exact h9)
 have HLEN:Hid ((aV (cf ts)).length+(aV (bl ts)).length<=316):=hid (by
  have h1:=(tD (cf ts) (by rw[hdy.ll];decide) (by rw[hdy.ll];decide)).max;have h2:=(tD (bl ts) (by rw[hdy.dl];decide) (by rw[hdy.dl];decide)).max;rw[hdy.ll]at h1;rw[hdy.dl]at h2;omega)
 have HGO:Hid (∀X,vE ts=X->True):=hid (λ_ _=>trivial);clear hs hm hb hT hdy HGO;go_enter Tryz.func58,Tryz.ntmps58;go_wp2_with fail;refine HCN.mono ?_;rintro e w1 ⟨vl,vd,rfl,hl,hd,hk1⟩;have HL1:Hid (NRow w.heap.size w1 vl (cf ts)):=hl;have HD1:Hid (NRow w.heap.size w1 vd (bl ts)):=hd;have HK1:Hid (Same w w1):=hk1;have HA:=HC1.out w1 vl _ (SrcE.ofRow hl);clear hl hd hk1 HCN HC1;go_wp2_with fail;refine HA.mono ?_;rintro e w2 ⟨cl,rfl,hl,hk2⟩;have HL2:Hid (NRow w1.heap.size w2 cl (aV (cf ts))):=hl;have HK2:Hid (Same w1 w2):=hk2;have HB:=HC2.out w2 vd _ (SrcE.ofRow (HD1.out.same hk2));clear hl hk2 HA HC2;go_wp2_with fail;refine HB.mono ?_;rintro e w3 ⟨cd,rfl,hd,hk3⟩;have HL3:Hid (NRow w1.heap.size w3 cl (aV (cf ts))):=hid (HL2.out.same hk3);have HD3:Hid (NRow w2.heap.size w3 cd (aV (bl ts))):=hd;have HK3:Hid (Same w w3):=hid (Same.trans HK1.out (Same.trans HK2.out hk3));have HB0:=nW w3 2 (by decide);clear hd hk3 HB HL2 HL1 HD1;go_wp2_with fail;refine HB0.mono ?_;rintro e w4 ⟨p,s,rfl,hw4⟩;obtain⟨a1,jb,fv,_⟩:=HL3.out.shape;obtain⟨a2,Hx,oe,_⟩:=HD3.out.shape;subst fv oe;have HW4:Hid (NW w w4 p s ([1]++aj 2 2)):=hid ⟨hw4.wr,hw4.bit,Same.trans HK3.out hw4.same,λk f=>Nat.le_trans HK3.out.size (hw4.own k f)⟩;have HL4:Hid (NRow w1.heap.size w4 (.slice a1 (aV (cf ts)).length jb) (aV (cf ts))/\∀k,(Value.slice a1 (aV (cf ts)).length jb).ownBlock=some k->Off w4 p s k):=hid ⟨HL3.out.same hw4.same,λk e=>by
  have h:=HL3.out.lt e;exact⟨Nat.lt_of_lt_of_le h hw4.same.size,λf=>by have:=hw4.own k f;omega⟩⟩
 have HD4:Hid (NRow w2.heap.size w4 (.slice a2 (aV (bl ts)).length Hx) (aV (bl ts))/\∀k,(Value.slice a2 (aV (bl ts)).length Hx).ownBlock=some k->Off w4 p s k):=hid ⟨HD3.out.same hw4.same,λk e=>by
  have h:=HD3.out.lt e;exact⟨Nat.lt_of_lt_of_le h hw4.same.size,λf=>by have:=hw4.own k f;omega⟩⟩
 have HW:=HWR.out w4 p s _ a1 a2 jb Hx _ _ HW4.out (by simp[aj]) (SrcE.ofRow HL4.out.1) (SrcE.ofRow HD4.out.1);clear hw4 HB0 HL3 HD3 HWR HK1 HK2 HK3;go_wp2_with fail;refine HW.mono ?_;rintro e w5 ⟨rfl,s5,many,cs,sn,⟨e1,e2,e3⟩,hho,Ip,hws⟩;subst e1 e2 e3;have HHO:Hid (uf ts):=hho;have Va:=DU hho (Nat.le_trans Ip HLEN.out);have l5:=HW4.out.ws hws;have HLA:=HLY.out w5 w5 p s5 _ _ _ l5 (Kept.refl _ _) (by rw[List.length_append,List.length_append,af];simp;omega)
  (((SrcE.ofRow HL4.out.1).kept hws.kept (λk e _=>(HL4.out.2 k e).2)).mono (λk e=>⟨Nat.lt_of_lt_of_le (HL4.out.2 k e).1 hws.kept.size,hws.off (HL4.out.2 k e)⟩))
  (((SrcE.ofRow HD4.out.1).kept hws.kept (λk e _=>(HD4.out.2 k e).2)).mono (λk e=>⟨Nat.lt_of_lt_of_le (HD4.out.2 k e).1 hws.kept.size,hws.off (HD4.out.2 k e)⟩))
 have eq:[1]++aj 2 2++bC (aV (cf ts)).length (aV (bl ts)).length (dE (cZ (aZ (aV (cf ts)++aV (bl ts)))) 19) (cZ (aZ (aV (cf ts)++aV (bl ts)))) (eJ (aV (cf ts)++aV (bl ts)))++(ts.flatMap (ay (aV (cf ts)) (aV (bl ts)))++aE (aV (cf ts)) 256)=vE ts:=by unfold vE mQ;rw[List.append_assoc];rfl
 have HDL:Hid ((vE ts).length<=10000000):=hid (by
  rw[<-eq];have:=HLT.out;simp only[List.length_append,aw,af,List.length_cons,List.length_nil];omega)
 rw[eq]at HLA;clear hws hho Ip Va l5 HW HLY HW4 HL4 HD4 eq;go_wp2_with fail;refine HLA.mono ?_;rintro e w6 ⟨⟨u6,rfl⟩,s6,hw6⟩;have HBY:=hw6.bytes w w6 p s6 _ (by have:=HDL.out;omega);have HBT:Hid (∀b∈vE ts,b<2):=hid hw6.bit;clear hw6 HLA;go_wp2_with fail;refine HBY.mono ?_;rintro e w7 ⟨v7,bs,rfl,hnb,hn5,Hp⟩;have HE:Hid (NB w w7 v7 bs/\jX bs (vE ts)):=hid ⟨hnb,FD bs _ hnb.byte HBT.out hn5 Hp⟩;obtain⟨a5,c5,fJ,_⟩:=hnb.row.shape;subst fJ;clear hnb hn5 Hp HBY;go_wp2_with fail;go_ret;exact⟨_,bs,rfl,HE.out.1,HE.out.2,HHO.out⟩
def cQ(a b:List Nat):List Nat:=if b.length<a.length then b else a
theorem NB.later{wb w w':World}{v:Value}{bs:List Nat}(h:NB wb w v bs)(hk:Same w w'):NB wb w' v bs:=⟨h.row.kept hk (λ_ _ f=>f),h.byte,Same.trans h.same hk,h.new⟩
theorem NB.base{wa wb w:World}{v:Value}{bs:List Nat}(h:NB wb w v bs)(hk:Same wa wb):NB wa w v bs:=⟨h.row,h.byte,Same.trans hk h.same,λk e=>Nat.le_trans hk.size (h.new k e)⟩
abbrev Lp(b:Nat):Value:=.func (.func 53) #[] #[.pointer (some ⟨b,0,none⟩)]
abbrev K9(b:Nat):Value:=.func (.func 55) #[] #[.pointer (some ⟨b,0,none⟩)]
abbrev K1(b:Nat):Value:=.func (.func 57) #[] #[.pointer (some ⟨b,0,none⟩)]
theorem DM(w:World)(h b1 b2:Nat)(P1 P2 P3:List Nat→Prop)
  (c0:w.cell? ⟨h,0,none⟩=some (Lp b1)) (c1:w.cell? ⟨h,1,none⟩=some (K9 b2)) (c2:w.cell? ⟨h,2,none⟩=some (K1 b2))
  (H1:∀W,Same w W->Calls Tryz.prog 53 #[.pointer (some ⟨b1,0,none⟩)] W λe w'=>∃v' x,e=.returned v'/\NB W w' v' x/\P1 x)
  (H2:∀W,Same w W->Calls Tryz.prog 55 #[.pointer (some ⟨b2,0,none⟩)] W λe w'=>∃v' x,e=.returned v'/\NB W w' v' x/\P2 x)
  (H3:∀W,Same w W->Calls Tryz.prog 57 #[.pointer (some ⟨b2,0,none⟩)] W λe w'=>∃v' x,e=.returned v'/\NB W w' v' x/\P3 x):
  Calls Tryz.prog 52 #[.slice (some ⟨h,0,none⟩) 3 3] w λe w'=>∃v' x1 x2 x3,e=.returned v'/\NB w w' v' (cQ (cQ x1 x2) x3)/\P1 x1/\P2 x2/\P3 x3:=by
 have HH1:=H1 w (Kept.refl _ w);have HH2:Hid (∀W,Same w W->Calls Tryz.prog 55 #[.pointer (some ⟨b2,0,none⟩)] W λe w'=>∃v' x,e=.returned v'/\NB W w' v' x/\P2 x):=H2;have HH3:Hid (∀W,Same w W->Calls Tryz.prog 57 #[.pointer (some ⟨b2,0,none⟩)] W λe w'=>∃v' x,e=.returned v'/\NB W w' v' x/\P3 x):=H3;clear H1 H2 H3;go_enter Tryz.func52,Tryz.ntmps52;go_wp2_with fail;refine HH1.mono ?_;rintro e w1 ⟨v1,x1,rfl,hn1,Es⟩;have HN1:Hid (NB w w1 v1 x1):=hn1;have HP1:Hid (P1 x1):=Es;have d1:=hn1.same.cell c1 (λf=>f);have d2:=hn1.same.cell c2 (λf=>f);have HB2:=HH2.out w1 hn1.same;obtain⟨a1,p1,fv,_⟩:=hn1.row.shape;obtain⟨L1,Rw⟩:∃L,L=x1.length:=⟨_,rfl⟩
 rw[<-Rw]at fv;subst fv;have HL1:Hid (L1=x1.length):=Rw;clear hn1 Es HH1 HH2 Rw;go_wp2_with fail;refine wp_loop_rounds 3 ?_;rw[rounds_succ];go_wp2_with fail;refine HB2.mono ?_;rintro e w2 ⟨v2,x2,rfl,hn2,Az⟩;have HK2:Hid (Same w w2):=hid (Same.trans HN1.out.same hn2.same);have HN2:Hid (NB w w2 (.slice a1 L1 p1) x1/\NB w w2 v2 x2):=hid ⟨HN1.out.later hn2.same,hn2.base HN1.out.same⟩;have HP2:Hid (P2 x2):=Az;have d3:=hn2.same.cell d2 (λf=>f);have HB3:=HH3.out w2 HK2.out;obtain⟨a2,p2,oe,_⟩:=hn2.row.shape;obtain⟨L2,Pl⟩:∃L,L=x2.length:=⟨_,rfl⟩
 rw[<-Pl]at oe;subst oe;have HL2:Hid (L2=x2.length):=Pl;clear hn2 Az HB2 HH3 Pl HN1;have HX:Hid (∃a L p,NB w w2 (.slice a L p) (cQ x1 x2)/\L=(cQ x1 x2).length/\(if L2<L1 then(a,L,p)=(a2,L2,p2) else(a,L,p)=(a1,L1,p1))):=hid (by
  unfold cQ;rw[<-HL1.out,<-HL2.out];by_cases hlt:L2<L1
  ·rw[if_pos hlt];exact⟨a2,L2,p2,HN2.out.2,HL2.out,by rw[if_pos hlt]⟩
  ·rw[if_neg hlt];exact⟨a1,L1,p1,HN2.out.1,HL1.out,by rw[if_neg hlt]⟩)
 obtain⟨a,L,p,hnx,Ts,MJ⟩:=HX.out;have HNX:Hid (NB w w2 (.slice a L p) (cQ x1 x2)/\L=(cQ x1 x2).length):=hid ⟨hnx,Ts⟩;clear HX hnx Ts;by_cases hlt:L2<L1
 all_goals
  first
   | rw[if_pos hlt]at MJ
   | rw[if_neg hlt]at MJ
  simp only[Prod.mk.injEq]at MJ;obtain⟨rfl,rfl,rfl⟩:=MJ;clear HN2 HL1 HL2;go_wp2_with fail;rw[rounds_succ];go_wp2_with fail;refine HB3.mono ?_;rintro e w3 ⟨v3,x3,rfl,hn3,Oo⟩;have HN3:Hid (NB w w3 (.slice a L p) (cQ x1 x2)/\NB w w3 v3 x3):=hid ⟨HNX.out.1.later hn3.same,hn3.base HK2.out⟩;have HP3:Hid (P3 x3):=Oo;obtain⟨a3,p3,pc,_⟩:=hn3.row.shape;obtain⟨L3,PP⟩:∃L,L=x3.length:=⟨_,rfl⟩
  rw[<-PP]at pc;subst pc;have HBB:Hid ((L3<L->NB w w3 (.slice a3 L3 p3) (cQ (cQ x1 x2) x3))/\(¬L3<L->NB w w3 (.slice a L p) (cQ (cQ x1 x2) x3))):=hid (by
   rw[HNX.out.2,PP];refine⟨λh=>?_,λh=>?_⟩
   ·rw[show cQ (cQ x1 x2) x3=x3 from if_pos h];rw[<-PP];exact HN3.out.2
   ·rw[show cQ (cQ x1 x2) x3=cQ x1 x2 from if_neg h];rw[<-HNX.out.2];exact HN3.out.1)
  clear hn3 Oo HB3 HNX HN3 PP;by_cases qY:L3<L
  ·go_wp2_with fail;rw[rounds_succ];go_wp2_with fail;go_ret;exact⟨_,x1,x2,x3,rfl,HBB.out.1 qY,HP1.out,HP2.out,HP3.out⟩
  ·go_wp2_with fail;rw[rounds_succ];go_wp2_with fail;go_ret;exact⟨_,x1,x2,x3,rfl,HBB.out.2 qY,HP1.out,HP2.out,HP3.out⟩
theorem Ce{data:List Nat}(hb:∀b∈data,b<256)(f i:Nat):∀t∈bJ data f i,t.lit<256:=by
 induction f generalizing i with
 | zero=>intro t ht;simp[bJ]at ht
 | succ f ih=>
  intro t ht;unfold bJ at ht;split at ht
  ·rename_i hi;split at ht
   ·rcases List.mem_cons.1 ht with rfl | h
    ·simp only;rw[List.getD_eq_getElem?_getD,List.getElem?_eq_getElem hi];exact hb _ (List.getElem_mem _)
    ·exact ih _ t h
   ·rcases List.mem_cons.1 ht with rfl | h
    ·show 0<256;decide
    ·exact ih _ t h
  ·simp at ht
theorem vw{data:List Nat}(hb:∀b∈data,b<256)(hl:data.length<=16384):b7 16384 (dG data) 0=.ok data.length/\(∀t∈dG data,t.lit<256)/\xj (dG data) []=data:=by rw[xC hl];exact⟨zS (by omega) (Nat.zero_le _) hl,Ce hb _ _,by have:=CX (data:=data) (f:=data.length) (i:=0) (by omega) (Nat.zero_le _);simpa using this⟩
def PFix(ts:List TK)(x:List Nat):Prop:=jX x (fj ts)/\∀b∈x,b<256
def PDyn(ts:List TK)(x:List Nat):Prop:=(jX x (vE ts)/\∀b∈x,b<256)/\uf ts
theorem Gp(w:World)(b:Nat)(v:Value)(I:Nat→Prop)(data:List Nat)(hc:w.cell? ⟨b,0,none⟩=some v)(hs:Src w I v data)(hb:∀b∈data,b<256)(fh:∀n c,v=.slice none n c→n=0∧c=0)(ag:data.length≤16384):
  Calls Tryz.prog 53 #[.pointer (some ⟨b,0,none⟩)] w λe w'=>∃v' x,e=.returned v'/\NB w w' v' x/\x=bH data:=by
 have HS:=yM w v I data hs hb fh ag;clear hs hb fh ag;go_enter Tryz.func53,Tryz.ntmps53;go_wp2_with fail;refine HS.mono ?_;rintro e w1 ⟨v1,rfl,hn⟩;have HN:Hid (NB w w1 v1 (bH data)):=hn;obtain⟨a1,p1,fv,_⟩:=hn.row.shape;subst fv;clear hn HS;go_wp2_with fail;go_ret;exact⟨_,_,rfl,HN.out,rfl⟩
theorem GO(w:World)(b:Nat)(v:Value)(I:Nat→Prop)(ts:List TK)(n:Nat)(hc:w.cell? ⟨b,0,none⟩=some v)(hs:TkSrc w I v ts)(hm:b7 16384 ts 0=.ok n)(hb:∀t∈ts,t.lit<256):
  Calls Tryz.prog 55 #[.pointer (some ⟨b,0,none⟩)] w λe w'=>∃v' x,e=.returned v'/\NB w w' v' x/\PFix ts x:=by
 have HS:=Da w v I ts n hs hm hb;clear hs hm hb;go_enter Tryz.func55,Tryz.ntmps55;go_wp2_with fail;refine HS.mono ?_;rintro e w1 ⟨v1,bs,rfl,hn,hp⟩;have HN:Hid (NB w w1 v1 bs/\PFix ts bs):=hid ⟨hn,hp,hn.byte⟩;obtain⟨a1,p1,fv,_⟩:=hn.row.shape;subst fv;clear hn hp HS;go_wp2_with fail;go_ret;exact⟨_,_,rfl,HN.out.1,HN.out.2⟩
theorem F5(w:World)(b:Nat)(v:Value)(I:Nat→Prop)(ts:List TK)(n:Nat)(hc:w.cell? ⟨b,0,none⟩=some v)(hs:TkSrc w I v ts)(hm:b7 16384 ts 0=.ok n)(hb:∀t∈ts,t.lit<256)(hT:Tab w):
  Calls Tryz.prog 57 #[.pointer (some ⟨b,0,none⟩)] w λe w'=>∃v' x,e=.returned v'/\NB w w' v' x/\PDyn ts x:=by
 have HS:=xg w v I ts n hs hm hb hT;clear hs hm hb hT;go_enter Tryz.func57,Tryz.ntmps57;go_wp2_with fail;refine HS.mono ?_;rintro e w1 ⟨v1,bs,rfl,hn,hp,hh⟩;have HN:Hid (NB w w1 v1 bs/\PDyn ts bs):=hid ⟨hn,⟨hp,hn.byte⟩,hh⟩;obtain⟨a1,p1,fv,_⟩:=hn.row.shape;subst fv;clear hn hp hh HS;go_wp2_with fail;go_ret;exact⟨_,_,rfl,HN.out.1,HN.out.2⟩
def PDef(data bs:List Nat):Prop:=∃x2 x3,bs=cQ (cQ (bH data) x2) x3/\PFix (dG data) x2/\PDyn (dG data) x3
theorem xx(w:World)(v:Value)(I:Nat→Prop)(data:List Nat)(hs:Src w I v data)(hb:∀b∈data,b<256)(fh:∀n c,v=.slice none n c→n=0∧c=0)(ag:data.length≤16384)(hT:Tab w):
  Calls Tryz.prog 32 #[v] w λe w'=>∃v' bs,e=.returned (.tuple #[v',.int .i64 0])/\NB w w' v' bs/\PDef data bs:=by
 obtain⟨Qg,Iz,_⟩:=vw hb ag;obtain⟨av,cv,Ar,_⟩:=id hs;obtain⟨n,hn⟩:∃n,data.length=n:=⟨_,rfl⟩
 rw[hn]at Ar;subst Ar;obtain⟨W,hW⟩:∃W,W=w.alloc (.cells #[.slice av n cv] 22):=⟨_,rfl⟩
 have hkW:Same w W:=by rw[hW];exact(Kept.refl _ w).alloc _
 have HKW:Hid (Same w W):=hkW;have HBW:Hid (Blk W w.heap.size #[.slice av n cv] 22):=hid (by rw[hW];exact Blk.new w _ _);have HSW:Hid (Src W I (.slice av n cv) data):=hid (hs.kept hkW (λ_ _ _ f=>f));have HF:=C4 W (.slice av n cv) I data HSW.out hb (by omega);have HW1:Hid (∀W2,Same W W2->Calls Tryz.prog 53 #[.pointer (some ⟨w.heap.size,0,none⟩)] W2 λe w'=>∃v' x,e=.returned v'/\NB W2 w' v' x/\x=bH data):=hid (λW2 h2=>Gp W2 _ _ I data (by have:=(HBW.out.kept h2 (λf=>f)).cell 0;simpa using this) (HSW.out.kept h2 (λ_ _ _ f=>f)) hb fh ag);have HW2:Hid (∀W2 v2 b J,W2.cell? ⟨b,0,none⟩=some v2->TkSrc W2 J v2 (dG data)->Calls Tryz.prog 55 #[.pointer (some ⟨b,0,none⟩)] W2 λe w'=>∃v' x,e=.returned v'/\NB W2 w' v' x/\PFix (dG data) x):=hid (λW2 v2 b J h1 h2=>GO W2 b v2 J _ _ h1 h2 Qg Iz);have HW3:Hid (∀W2 v2 b J,Same w W2->W2.cell? ⟨b,0,none⟩=some v2->TkSrc W2 J v2 (dG data)->Calls Tryz.prog 57 #[.pointer (some ⟨b,0,none⟩)] W2 λe w'=>∃v' x,e=.returned v'/\NB W2 w' v' x/\PDyn (dG data) x):=hid (λW2 v2 b J h0 h1 h2=>F5 W2 b v2 J _ _ h1 h2 Qg Iz (hT.kept h0 (λf=>f)));have b0:=HBW.out.cell 0;simp at b0;have J0:n<=16384:=by omega
 clear hs hb fh ag hT Qg Iz hn hkW;go_enter Tryz.func32,Tryz.ntmps32;go_wp2_with fail;rw[<-hW];clear hW;refine HF.mono ?_;rintro e w1 ⟨v1,rfl,hr1,hk1⟩;have HR1:Hid (xG W.heap.size w1 v1 (dG data)):=hr1;have HK1:Hid (Same W w1):=hk1;have My:∃a n c,v1=.slice a n c:=by obtain⟨a,c,e,_⟩:=SrcC.ofRow fd hr1;exact⟨a,_,c,e⟩
 obtain⟨a1,n1,c1,rfl⟩:=My;clear hr1 hk1 HF b0;obtain⟨Wb,Pa⟩:∃W,W=w1.alloc (.cells #[.slice a1 n1 c1] 97):=⟨_,rfl⟩
 have Ra:Same w1 Wb:=by rw[Pa];exact(Kept.refl _ w1).alloc _
 have HBb:Hid (Blk Wb w1.heap.size #[.slice a1 n1 c1] 97):=hid (by rw[Pa];exact Blk.new w1 _ _);obtain⟨Wc,Qj⟩:∃W,W=Wb.alloc (.cells #[Lp w.heap.size,K9 w1.heap.size,K1 w1.heap.size] 101):=⟨_,rfl⟩
 have Ev:Same Wb Wc:=by rw[Qj];exact(Kept.refl _ Wb).alloc _
 have HSb:Hid (TkSrc Wc (λ_=>True) (.slice a1 n1 c1) (dG data)):=hid ((SrcC.kept fd (SrcC.ofRow fd HR1.out) (Same.trans Ra Ev) (λ_ _ _ f=>f)).mono (λ_ _=>trivial));have HKc:Hid (Same W Wc):=hid (Same.trans HK1.out (Same.trans Ra Ev));have HBc:Hid (Blk Wc Wb.heap.size #[Lp w.heap.size,K9 w1.heap.size,K1 w1.heap.size] 101):=hid (by rw[Qj];exact Blk.new Wb _ _);have HBt:Hid (Blk Wc w1.heap.size #[.slice a1 n1 c1] 97):=hid (HBb.out.kept Ev (λf=>f));have HL:=DM Wc Wb.heap.size w.heap.size w1.heap.size (λx=>x=bH data) (PFix (dG data)) (PDyn (dG data))
  (by have:=HBc.out.cell 0;simpa using this) (by have:=HBc.out.cell 1;simpa using this) (by have:=HBc.out.cell 2;simpa using this)
  (λW2 h2=>HW1.out W2 (Same.trans HKc.out h2))
  (λW2 h2=>HW2.out W2 _ _ _ (by have:=(HBt.out.kept h2 (λf=>f)).cell 0;simpa using this) (SrcC.kept fd HSb.out h2 (λ_ _ _ f=>f)))
  (λW2 h2=>HW3.out W2 _ _ _ (Same.trans HKW.out (Same.trans HKc.out h2)) (by have:=(HBt.out.kept h2 (λf=>f)).cell 0;simpa using this) (SrcC.kept fd HSb.out h2 (λ_ _ _ f=>f)))
 have Pd:Wb.heap.size=w1.heap.size+1:=by rw[Pa,World.size_alloc]
 have HKN:Hid (Same w Wc):=hid (Same.trans HKW.out HKc.out);clear Ra Ev HR1 HW1 HW2 HW3 HSb HBc HBt HBb;go_wp2_with fail;rw[<-Pa,<-Qj,<-Pd];clear Pa Qj Pd;refine HL.mono ?_;rintro e w2 ⟨v2,x1,x2,x3,rfl,hn2,rfl,Az,Oo⟩;have HE:Hid (NB w w2 v2 (cQ (cQ (bH data) x2) x3)/\PDef data (cQ (cQ (bH data) x2) x3)):=hid ⟨hn2.base HKN.out,x2,x3,rfl,Az,Oo⟩;obtain⟨a2,p2,oe,_⟩:=hn2.row.shape;subst oe;clear hn2 Az Oo HL;go_wp2_with fail;go_ret2;exact⟨_,_,rfl,HE.out.1,HE.out.2⟩
end Go.Proofs.YtllcnlnbpikhdaaGreatDoor
namespace Go.Proofs.YtllcnlnbpikhdaaGreatDoor
theorem PFix.reads{ts:List TK}{x:List Nat}(h:PFix ts x){n most:Nat}(hm:b7 16384 ts 0=.ok n)(hb:∀t∈ts,t.lit<256)(hn:n<=most)(rO:most<=16384):∃t,Ends (ae x) most ps0 t 0/\t.out=xj ts []/\(t.c+7) / 8=x.length:=uU hm hb hn rO h.1
theorem PDyn.reads{ts:List TK}{x:List Nat}(h:PDyn ts x){n most:Nat}(hm:b7 16384 ts 0=.ok n)(hb:∀t∈ts,t.lit<256)(hn:n<=most)(rO:most<=16384):∃t,Ends (ae x) most ps0 t 0/\t.out=xj ts []/\(t.c+7) / 8=x.length:=by have hd:=GG hm hb;exact D1 hd.ok h.2 hd.toks hm hn rO h.1.1
theorem PDef.cases{data bs:List Nat}(h:PDef data bs):bs=bH data\/PFix (dG data) bs\/PDyn (dG data) bs:=by
 obtain⟨x2,x3,rfl,h2,h3⟩:=h;have hb:∀a b:List Nat,cQ a b=a\/cQ a b=b:=λa b=>by unfold cQ;split<;>simp
 rcases hb (cQ (bH data) x2) x3 with e | e
 ·rw[e];rcases hb (bH data) x2 with e | e
  ·exact .inl e
  ·rw[e];exact .inr (.inl h2)
 ·rw[e];exact .inr (.inr h3)
theorem PDef.reads{data bs:List Nat}(h:PDef data bs)(hb:∀b∈data,b<256){most:Nat}(hl:data.length<=most)(rO:most<=16384):∃t,Ends (ae bs) most ps0 t 0/\t.out=data/\(t.c+7) / 8=bs.length:=by
 obtain⟨hm,Iz,he⟩:=vw hb (Nat.le_trans hl rO);rcases h.cases with rfl | h | h
 ·exact tO hb hl rO
 ·have:=h.reads hm Iz hl rO;rwa [he]at this
 ·have:=h.reads hm Iz hl rO;rwa [he]at this
theorem Ch{x y:Nat}(hx:x<256)(hy:y<256)(h:aj x 8=aj y 8):x=y:=by have:=congrArg n2 h;rw[dq,dq,Nat.mod_eq_of_lt (by omega),Nat.mod_eq_of_lt (by omega)]at this;exact this
theorem ud{a b:List Nat}(ha:∀x∈a,x<256)(hb:∀x∈b,x<256)(h:ae a=ae b):a=b:=by
 induction a generalizing b with
 | nil=>
  have:=congrArg List.length h;rw[aq,aq]at this;cases b with
  | nil=>rfl
  | cons y r=>simp at this
 | cons x r ih=>
  cases b with
  | nil=>
   have:=congrArg List.length h;rw[aq,aq]at this;simp at this
  | cons y s=>
   have e:∀z (l:List Nat),ae (z::l)=aj z 8++ae l:=λz l=>by simp[ae]
   rw[e,e]at h;have h2:=List.append_inj h (by rw[af,af]);rw[Ch (ha x (by simp)) (hb y (by simp)) h2.1,ih (λz hz=>ha z (by simp[hz])) (λz hz=>hb z (by simp[hz])) h2.2]
theorem sP{a b X:List Nat}(ha:jX a X)(hb:jX b X)(h1:∀x∈a,x<256)(h2:∀x∈b,x<256):a=b:=by
 obtain⟨k,hk⟩:=ha.pad;obtain⟨j,hj⟩:=hb.pad;have l1:=congrArg List.length hk;have l2:=congrArg List.length hj;rw[aq,List.length_append,List.length_replicate]at l1 l2;have l3:=ha.len;have l4:=hb.len;have e:k=j:=by omega
 subst e;exact ud h1 h2 (hk.trans hj.symm)
theorem PDef.same{data a b:List Nat}(ha:PDef data a)(hb:PDef data b):a=b:=by obtain⟨x2,x3,rfl,h2,h3⟩:=ha;obtain⟨y2,y3,rfl,g2,g3⟩:=hb;rw[sP h2.1 g2.1 h2.2 g2.2,sP h3.1.1 g3.1.1 h3.1.2 g3.1.2]
theorem yY{ls:List Nat}(hb:∀b∈ls,b<2){bk bk':Bk}{c c' v:Nat}(h:bA ls bk c=.ok ((.byte v,bk'),c')):v<256:=by
 cases bk with
 | raw last n=>
  cases n with
  | zero=>rw[gD]at h;simp at h
  | succ n=>
   rw[ec]at h;obtain⟨x,c1,h1,h2⟩:=aI.1 h;simp only[Except.ok.injEq,Prod.mk.injEq,Tok.byte.injEq]at h2;obtain⟨⟨rfl,_⟩,_⟩:=h2;rw[(dY h1).1];exact CD ls hb c 8
 | sym last lit dist=>
  rw[ea]at h;obtain⟨y,c1,_,h2⟩:=aI.1 h;unfold jl at h2;split at h2
  ·simp only[Except.ok.injEq,Prod.mk.injEq,Tok.byte.injEq]at h2;omega
  ·split at h2
   ·simp at h2
   ·obtain⟨z,c2,_,h3⟩:=aI.1 h2;simp at h3
theorem wl{ls:List Nat}(hb:∀b∈ls,b<2){most:Nat}{s t:Ps}{d:Bool}(h:jF ls most s=.ok (t,d))(hs:∀b∈s.out,b<256):∀b∈t.out,b<256:=by
 cases hk:s.bk with
 | none=>
  cases hg:ez ls s.c with
  | error e=>rw[fV hk hg]at h;cases h
  | ok x=>
   obtain⟨b,c⟩:=x;rw[dF hk hg]at h;simp only[Except.ok.injEq,Prod.mk.injEq]at h;rw[<-h.1];exact hs
 | some b=>
  cases hg:bA ls b s.c with
  | error e=>rw[en hk hg]at h;cases h
  | ok x=>
   rw[b8 hk hg]at h;obtain⟨⟨tk,b'⟩,c⟩:=x;rcases nV h with⟨_,_,h1⟩ | ⟨_,_,h1⟩ | ⟨ht,⟨e,_,h1⟩ | ⟨out,hl,h1⟩⟩
   ·simp only[Except.ok.injEq,Prod.mk.injEq]at h1;rw[h1.1];exact hs
   ·simp only[Except.ok.injEq,Prod.mk.injEq]at h1;rw[h1.1];exact hs
   ·cases h1
   ·simp only[Except.ok.injEq,Prod.mk.injEq]at h1;rw[h1.1];cases tk with
    | fin=>exact absurd rfl ht
    | byte v=>
     simp only[dA]at hl;split at hl
     ·cases hl
     ·simp only[Except.ok.injEq]at hl;subst hl;intro b iH;rcases List.mem_append.1 iH with h9 | h9
      ·exact hs b h9
      ·simp only[List.mem_singleton]at h9;subst h9;exact yY hb hg
    | copy n far=>
     simp only[dA]at hl;split at hl
     ·cases hl
     ·split at hl
      ·cases hl
      ·simp only[Except.ok.injEq]at hl;subst hl;exact Di far n s.out hs
theorem Ends.byte{ls:List Nat}(hb:∀b∈ls,b<2){most:Nat}{s t:Ps}{e:Nat}(h:Ends ls most s t e)(hs:∀b∈s.out,b<256):∀b∈t.out,b<256:=by
 induction h with
 | stop _=>exact hs
 | done h=>exact wl hb h hs
 | step h _ ih=>exact ih (wl hb h hs)
theorem sF{x:List Nat}{most:Nat}{t:Ps}{e:Nat}(h:Ends (ae x) most ps0 t e):∀b∈t.out,b<256:=
 h.byte (az x) (λ_ hb=>nomatch hb)
end Go.Proofs.YtllcnlnbpikhdaaGreatDoor
