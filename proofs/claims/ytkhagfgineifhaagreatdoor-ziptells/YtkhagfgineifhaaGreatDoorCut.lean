import Derived.Test.YtkhagfgineifhaaGreatDoorOwn2
import Derived.Laws.BitsAllLaws
set_option maxHeartbeats 1000000
namespace Go.Proofs.YtkhagfgineifhaaGreatDoor
open Go.RowKit
theorem FA(V b u k got:Nat)(hV:V<2 ^ got)(hb:b<256)(hk:k≤8)(hg:got+k≤32):
  bits .or .u32 (V:Int) (bits .and .u32 ((b:Int) % 4294967296 / 2 ^ u) ((2 ^ k-1) % 4294967296)*2 ^ got % 4294967296)=((V+2 ^ got*(b / 2 ^ u % 2 ^ k):Nat):Int):=by
 have hk2:2 ^ k<=2 ^ 8:=Nat.pow_le_pow_right (by omega) hk;have hk0:0<2 ^ k:=Nat.two_pow_pos k;have e1:((b:Int) % 4294967296 / 2 ^ u)=((b / 2 ^ u:Nat):Int):=by rw[show((b:Int) % 4294967296)=(b:Int)by omega];simp
 have e2:(((2:Int) ^ k-1) % 4294967296)=((2 ^ k-1:Nat):Int):=by have:((2:Int) ^ k)=((2 ^ k:Nat):Int):=(by simp);rw[this];omega
 have h1:b / 2 ^ u<4294967296:=Nat.lt_of_le_of_lt (Nat.div_le_self _ _) (by omega);have h2:2 ^ k-1<4294967296:=by omega
 rw[e1,e2,u32_and_nat _ _ h1 h2,ye];have hm:b / 2 ^ u % 2 ^ k<2 ^ k:=Nat.mod_lt _ hk0;have hlt:b / 2 ^ u % 2 ^ k*2 ^ got<4294967296:=by have h3:b / 2 ^ u % 2 ^ k*2 ^ got<2 ^ k*2 ^ got:=Nat.mul_lt_mul_of_pos_right hm (Nat.two_pow_pos _);have h4:2 ^ k*2 ^ got<=2 ^ 32:=(by rw[<-Nat.pow_add];exact Nat.pow_le_pow_right (by omega) (by omega));omega
 have e3:(((b / 2 ^ u % 2 ^ k:Nat):Int)*2 ^ got % 4294967296)=((b / 2 ^ u % 2 ^ k*2 ^ got:Nat):Int):=by have:((2:Int) ^ got)=((2 ^ got:Nat):Int):=(by simp);rw[this,<-Int.natCast_mul];omega
 have Sk:V<4294967296:=by have:2 ^ got<=2 ^ 32:=Nat.pow_le_pow_right (by omega) (by omega);omega
 rw[e3,u32_or_nat _ _ Sk hlt,Nat.mul_comm,Gs _ _ _ hV]
theorem Ce{w wr:World}{p:Nat}{s:Value}{bs:List Nat}{c n got k gk nq V b:Nat}(hs:St wr p s bs (c+got))(hkp:Kept (·=p) w wr)(hlt:(c+got) / 8<bs.length)(hb:b=bs[(c+got) / 8])(hV:V=aO bs / 2 ^ c % 2 ^ got)
  (hk:(c+got) % 8+k<=8) (Rr:got+k<=n) (hn:n<=32) (oY:n-(got+k)<=gk) {M G C:Int} (hM:M=bits .or .u32 (V:Int) (bits .and .u32 ((b:Int) % 4294967296 / 2 ^ ((c+got) % 8)) ((2 ^ k-1) % 4294967296)*2 ^ got % 4294967296))
  (hG:G=((got+k:Nat):Int)) (hC:C=((c+(got+k):Nat):Int)):
  ∃got':Nat,got'<=n/\n-got'<=gk/\Value.int .u32 M=.int .u32 (aO bs / 2 ^ c % 2 ^ got':Nat)/\Value.int .i64 G=.int .i64 (got':Nat)/\St ((wr.drewN nq).setCell ⟨p,1,none⟩ (.int .i64 C)) p s bs (c+got')/\Kept (·=p) w ((wr.drewN nq).setCell ⟨p,1,none⟩ (.int .i64 C)):=by
 have RT:b<256:=by rw[hb];exact hs.byte _ (List.getElem_mem _)
 have SH:V<2 ^ got:=by rw[hV];exact Nat.mod_lt _ (Nat.two_pow_pos _)
 have e:=G9 bs hs.byte c got k hk hlt;subst hG hC;refine⟨got+k,Rr,oY,?_,rfl,(hs.drewN nq).setCount _,(hkp.drewN nq).setCell _ _ (.inl rfl)⟩;rw[hM,FA V b _ k got SH RT (by omega) (by omega),<-e,hb,hV]
theorem Kl(w:World)(p:Nat)(s:Value)(bs:List Nat)(c n:Nat)(hst:St w p s bs c)(hn:n≤32)(hc:c+n≤8*bs.length)(ag:bs.length≤100000000000):
  Calls Tryz.prog 161 #[.pointer (some ⟨p,0,none⟩),.int .i64 (n:Nat)] w λe w'=>e=.returned (.int .u32 (aO bs / 2 ^ c % 2 ^ n:Nat)) /\
   St w' p s bs (c+n)/\Kept (·=p) w w':=by
 go_enter Tryz.func161,Tryz.ntmps161;go_wp2;go_step3;go_wp2;go_step3;go_wp2;go_loopg [5,6] n (λk x y wr=>∃got:Nat,got<=n/\n-got<=k/\x=.int .u32 (aO bs / 2 ^ c % 2 ^ got:Nat)/\y=.int .i64 (got:Nat)/\St wr p s bs (c+got)/\Kept (·=p) w wr)
 case atStart=>exact⟨0,by omega,by omega,by simp[Nat.mod_one],rfl,hst,Kept.refl _ _⟩
 case round=>
  obtain⟨got,pL,nN,rfl,rfl,hs,hk⟩:=hrel;have HS:Hid (St wr p s bs (c+got)):=hs;have HK:Hid (Kept (·=p) w wr):=hk;by_cases h0:got=n
  ·subst h0;clear hst hs;go_wp2;rw[Exit.noGoto_ret];go_ret;exact⟨rfl,HS.out,HK.out⟩
  ·obtain⟨ao,cap,hv,hg⟩:=hs.row.shape;have hlt:(c+got) / 8<bs.length:=(by omega);obtain⟨g,Lk⟩:=hg (by intro e;rw[e]at hlt;simp at hlt);subst Lk;have bZ:wr.cell? ⟨g,(c+got) / 8,none⟩=some (.int .u8 (bs[(c+got) / 8]:Nat)):=by
    have hr:=hs.row;rw[hv]at hr;exact Row.cell hr _ hlt
   have pJ:=hs.cb;have mv:=hs.cc;have NK:=hs.fc;rw[hv]at pJ;obtain⟨u,hu⟩:∃u,u=(c+got) % 8:=⟨_,rfl⟩
   obtain⟨b,hb⟩:∃b,b=bs[(c+got) / 8]:=⟨_,rfl⟩
   rw[<-hb]at bZ;obtain⟨V,hV⟩:∃V,V=aO bs / 2 ^ c % 2 ^ got:=⟨_,rfl⟩
   rw[<-hV];have HB:Hid (b=bs[(c+got) / 8]):=hb;have HU:Hid (V=aO bs / 2 ^ c % 2 ^ got):=hV;clear hst hs hk hv hg hu hb hV;by_cases hp:8-(c+got) % 8<=n-got
   ·go_wp2
    go_quiet (fail)
    go_wp2
    go_roundg (gk-1)
    case measure=>omega
    case rel=>
     exact Ce (k:=8-(c+got) % 8) HS.out HK.out hlt HB.out HU.out (by omega) (by omega) hn (by omega) rfl (by omega) (by omega)
   ·go_wp2
    go_quiet (fail)
    go_wp2
    go_roundg (gk-1)
    case measure=>omega
    case rel=>
     exact Ce (k:=n-got) HS.out HK.out hlt HB.out HU.out (by omega) (by omega) hn (by omega) rfl (by omega) (by omega)
end Go.Proofs.YtkhagfgineifhaaGreatDoor
