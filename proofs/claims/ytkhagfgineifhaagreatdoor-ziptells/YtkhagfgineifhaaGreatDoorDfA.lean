import Derived.Test.YtkhagfgineifhaaGreatDoorDfN
import Derived.Test.YtkhagfgineifhaaGreatDoorMtJ
import Derived.Test.YtkhagfgineifhaaGreatDoorMtZ
import Derived.Test.YtkhagfgineifhaaGreatDoorLnWrg
set_option maxHeartbeats 4000000
set_option maxRecDepth 100000
namespace Go.Proofs.YtkhagfgineifhaaGreatDoor
open Go.RowKit
theorem wv(a b:Nat)(ha:a<2 ^ 62)(hb:b<2 ^ 62):bits .and .i64 (a:Int) (b:Int)=((a &&& b:Nat):Int):=by
 have h9:(2:Nat) ^ 62=4611686018427387904:=by decide
 have hx:a &&& b<2 ^ 62:=Nat.and_lt_two_pow _ hb;have ho:∀c:Nat,c<2 ^ 62->(BitVec.ofInt 64 (c:Int)).toNat=c:=λc hc=>by rw[BitVec.ofInt_natCast,BitVec.toNat_ofNat];exact Nat.mod_eq_of_lt (by omega)
 show IntKind.i64.wrap ((BitVec.ofInt 64 (a:Int) &&& BitVec.ofInt 64 (b:Int)).toNat:Int)=_;rw[BitVec.toNat_and,ho a ha,ho b hb,IntKind.wrap_i64];omega
theorem te(n wd:Nat)(hn:n<=100000)(hw:wd<=27):IntKind.u32.wrap (bits BinOp.and IntKind.i64 (n:Int) (IntKind.i64.wrap (IntKind.i64.wrap (2 ^ wd)-1)))=((n % 2 ^ wd:Nat):Int):=by
 have h9:(2:Nat) ^ 62=4611686018427387904:=by decide
 have Zm:(2:Nat) ^ 27=134217728:=by decide
 have hp:2 ^ wd<=2 ^ 27:=Nat.pow_le_pow_right (by decide) hw;have yO:0<2 ^ wd:=Nat.two_pow_pos wd;have e1:((2:Int) ^ wd)=((2 ^ wd:Nat):Int):=by simp
 have UT:n % 2 ^ wd<=n:=Nat.mod_le _ _;have e2:IntKind.i64.wrap (IntKind.i64.wrap (2 ^ wd)-1)=((2 ^ wd-1:Nat):Int):=by rw[e1];generalize 2 ^ wd=p at hp yO;rw[IntKind.wrap_i64,IntKind.wrap_i64];omega
 rw[e2,wv n (2 ^ wd-1) (by omega) (by omega),ye,IntKind.wrap_u32'];generalize n % 2 ^ wd=x at UT;omega
theorem BL(n wd k:Nat)(hn:n<=100000)(hw:wd<=27)(hk:k<=4):IntKind.i64.wrap (IntKind.i64.wrap ((wd:Int)*(k:Int))+(n:Int) / 2 ^ wd)=((wd*k+n / 2 ^ wd:Nat):Int):=by
 have hq:(n:Int) / 2 ^ wd=((n / 2 ^ wd:Nat):Int):=by simp
 have PQ:n / 2 ^ wd<=n:=Nat.div_le_self _ _;have hm:wd*k<=27*4:=Nat.mul_le_mul hw hk;rw[hq,<-Int.natCast_mul];generalize n / 2 ^ wd=q at PQ;generalize wd*k=m at hm;rw[IntKind.wrap_i64,IntKind.wrap_i64];omega
theorem zr(w:World)(n:Nat)(hn:n≤254):
  Calls Tryz.prog 147 #[.int .i64 (n:Nat),.int .i64 3] w λe w'=>e=.returned (.agg #[.int .i64 (eD n 3:Nat),.int .u32 (ec n 3:Nat),.int .i64 (bW n 3:Nat)])/\Same w w':=by
 have H:=xj (w.alloc (.cells #[.int .i64 0,.int .u32 0,.int .i64 0] 172)) (n:Int) (by omega) (by omega);rw[show((n:Int)).toNat=n from rfl]at H;obtain⟨b,hb⟩:∃b,pt n=b:=⟨_,rfl⟩
 obtain⟨wd,my⟩:∃wd,bW n 3=wd:=⟨_,rfl⟩
 rw[hb]at H;have rP:max ((b:Int)-3) 0=(wd:Int):=by unfold bW at my;omega
 have Ng:b<=20:=by rw[<-hb];exact(fZ n 20).2 (by omega)
 have hz:wrap64 ((b:Int)-3)=(b:Int)-3:=by unfold wrap64;omega
 have hw2:IntKind.i64.wrap 2=2:=rfl;have yz:wd<=27:=by unfold bW at my;omega
 clear Ng;go_enter Tryz.func147,Tryz.ntmps147;go_wp2_with fail;refine H.mono ?_;rintro e w1 ⟨rfl,hw1⟩;subst hw1;clear H;go_wp2_with fail;go_region_with fail;have v1:IntKind.i64.wrap (IntKind.i64.wrap ((wd:Int)*4)+(n:Int) / 2 ^ wd)=((eD n 3:Nat):Int):=by have:=BL n wd 4 (by omega) yz (by decide);unfold eD;rw[my];exact this
 have v2:IntKind.u32.wrap (bits BinOp.and IntKind.i64 (n:Int) (IntKind.i64.wrap (IntKind.i64.wrap (2 ^ wd)-1)))=((ec n 3:Nat):Int):=by unfold ec;rw[my];exact te n wd (by omega) yz
 rw[v1,v2];go_wp2_with fail;refine bodyPost_ret (v:=.agg #[.int .i64 (eD n 3:Nat),.int .u32 (ec n 3:Nat),.int .i64 (wd:Nat)]) (by rw[br rfl];simp[go_sem]) rfl ?_;exact⟨by rw[my],((Kept.refl _ w).alloc _).drewN _⟩
theorem yW(w:World)(n:Nat)(hn:n≤16383):
  Calls Tryz.prog 147 #[.int .i64 (n:Nat),.int .i64 2] w λe w'=>e=.returned (.agg #[.int .i64 (eD n 2:Nat),.int .u32 (ec n 2:Nat),.int .i64 (bW n 2:Nat)])/\Same w w':=by
 have H:=xj (w.alloc (.cells #[.int .i64 0,.int .u32 0,.int .i64 0] 172)) (n:Int) (by omega) (by omega);rw[show((n:Int)).toNat=n from rfl]at H;obtain⟨b,hb⟩:∃b,pt n=b:=⟨_,rfl⟩
 obtain⟨wd,my⟩:∃wd,bW n 2=wd:=⟨_,rfl⟩
 rw[hb]at H;have rP:max ((b:Int)-2) 0=(wd:Int):=by unfold bW at my;omega
 have Ng:b<=20:=by rw[<-hb];exact(fZ n 20).2 (by omega)
 have hz:wrap64 ((b:Int)-2)=(b:Int)-2:=by unfold wrap64;omega
 have hw2:IntKind.i64.wrap 1=1:=rfl;have yz:wd<=27:=by unfold bW at my;omega
 clear Ng;go_enter Tryz.func147,Tryz.ntmps147;go_wp2_with fail;refine H.mono ?_;rintro e w1 ⟨rfl,hw1⟩;subst hw1;clear H;go_wp2_with fail;go_region_with fail;have v1:IntKind.i64.wrap (IntKind.i64.wrap ((wd:Int)*2)+(n:Int) / 2 ^ wd)=((eD n 2:Nat):Int):=by have:=BL n wd 2 (by omega) yz (by decide);unfold eD;rw[my];exact this
 have v2:IntKind.u32.wrap (bits BinOp.and IntKind.i64 (n:Int) (IntKind.i64.wrap (IntKind.i64.wrap (2 ^ wd)-1)))=((ec n 2:Nat):Int):=by unfold ec;rw[my];exact te n wd (by omega) yz
 rw[v1,v2];go_wp2_with fail;refine bodyPost_ret (v:=.agg #[.int .i64 (eD n 2:Nat),.int .u32 (ec n 2:Nat),.int .i64 (wd:Nat)]) (by rw[br rfl];simp[go_sem]) rfl ?_;exact⟨by rw[my],((Kept.refl _ w).alloc _).drewN _⟩
def kZ(t:TK):Value:=.agg #[.int .u8 (t.lit:Nat),.int .i64 t.len,.int .i64 t.dist]
def CW(m:MK):Value:=.agg #[.int .i64 (m.sym:Nat),.int .u32 (m.extra:Nat),.int .i64 (m.width:Nat)]
theorem gF(w:World)(t:TK):Calls Tryz.prog 118 #[kZ t] w λe w'=>e=.returned (.bool (decide (0<t.len)))/\Same w w':=by unfold kZ;obtain⟨l,n,d⟩:=t;simp only;go_enter Tryz.func118,Tryz.ntmps118;go_wp2_with fail;go_ret;exact⟨rfl,(Kept.refl _ w).alloc _⟩
theorem mC(w:World)(t:TK)(h1:1<=t.dist)(h2:t.dist<=16384):Calls Tryz.prog 119 #[kZ t] w λe w'=>e=.returned (CW (aH t))/\Same w w':=by
 unfold kZ;obtain⟨l,n,d⟩:=t;simp only at h1 h2 ⊢;obtain⟨x,hx⟩:∃x:Nat,d=(x:Int)+1:=⟨d.toNat-1,by omega⟩
 subst hx;obtain⟨W,hW⟩:∃W,W=(w.alloc (.cells #[.int .u8 (l:Nat),.int .i64 n,.int .i64 ((x:Int)+1)] 138)).alloc (.cells #[.int .i64 0,.int .u32 0,.int .i64 0] 172):=⟨_,rfl⟩
 have HW:Hid (Same w W):=hid (by rw[hW];exact((Kept.refl _ w).alloc _).alloc _);have HB:Hid (Blk W (w.heap.size+1) #[.int .i64 0,.int .u32 0,.int .i64 0] 172):=hid (by rw[hW];have h:=Blk.new (w.alloc (.cells #[.int .u8 (l:Nat),.int .i64 n,.int .i64 ((x:Int)+1)] 138)) #[.int .i64 0,.int .u32 0,.int .i64 0] 172;rw[World.size_alloc]at h;exact h);have H:=yW W x (by omega);have hd:(x:Int)+1-1=(x:Int):=by omega
 have HM:Hid (aH ⟨l,n,((x:Int)+1)⟩=⟨eD x 2,ec x 2,bW x 2⟩):=hid (by
  unfold aH;simp only;rw[show((x:Int)+1).toNat-1=x by omega])
 generalize eD x 2=sa at H HM;generalize ec x 2=sb at H HM;generalize bW x 2=sc at H HM;go_enter Tryz.func119,Tryz.ntmps119;go_wp2_with fail;rw[<-hW];clear hW;refine H.mono ?_;rintro e w1 ⟨rfl,hk1⟩;have HB1:Hid (Blk w1 (w.heap.size+1) #[.int .i64 0,.int .u32 0,.int .i64 0] 172):=hid (HB.out.kept hk1 (λf=>f));have HK1:Hid (Same w w1):=hid (Same.trans HW.out hk1);have c0:=HB1.out.cell 0;have c1:=HB1.out.cell 1;have c2:=HB1.out.cell 2;have f0:=HB1.out.frozen 0;have f1:=HB1.out.frozen 1;have f2:=HB1.out.frozen 2;simp at c0 c1 c2;clear hk1 H;go_wp2_with fail;have hb3:=((HB1.out.set 0 (.int .i64 (sa:Nat))).set 1 (.int .u32 (sb:Nat))).set 2 (.int .i64 (sc:Nat));have d0:=hb3.cell 0;have d1:=hb3.cell 1;have d2:=hb3.cell 2;simp at d0 d1 d2;refine bodyPost_ret (v:=.agg #[.int .i64 (sa:Nat),.int .u32 (sb:Nat),.int .i64 (sc:Nat)]) (by rw[br rfl];simp[go_sem,d0,d1,d2]) rfl ?_;refine⟨by rw[HM.out];rfl,((HK1.out.setCell _ _ (.inr (by simp))).setCell _ _ (.inr (by simp))).setCell _ _ (.inr (by simp))⟩
end Go.Proofs.YtkhagfgineifhaaGreatDoor
