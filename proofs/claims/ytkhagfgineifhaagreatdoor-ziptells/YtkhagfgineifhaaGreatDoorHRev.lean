import Derived.Test.YtkhagfgineifhaaGreatDoorHChk
import Derived.Laws.BitsAllLaws
set_option maxHeartbeats 1000000
namespace Go.Proofs.YtkhagfgineifhaaGreatDoor
open Go.RowKit
def sw(s m x:Nat):Nat:=(x / 2 ^ s &&& m) ||| ((x &&& m)*2 ^ s % 4294967296)
def uf(s i:Nat):Nat:=if i % (2*s)<s then i+s else i-s
theorem uM(s m x i:Nat)(hi:i<32)(hs:s=1\/s=2\/s=4\/s=8)(hm:∀j,j<32->m.testBit j=decide (j % (2*s)<s)):(sw s m x).testBit i=x.testBit (uf s i):=by
 unfold sw uf;rw[Nat.testBit_or,Nat.testBit_and,Nat.testBit_div_two_pow,show(4294967296:Nat)=2 ^ 32 by rfl,Nat.testBit_mod_two_pow,Nat.testBit_mul_two_pow,Nat.testBit_and,hm i hi];by_cases h:i % (2*s)<s
 ·have h2:¬(s<=i/\(i-s) % (2*s)<s):=by rcases hs with rfl | rfl | rfl | rfl<;>omega
  by_cases h3:s<=i
  ·rw[hm (i-s) (by omega)];have h4:¬(i-s) % (2*s)<s:=λh=>h2 ⟨h3,h⟩
   simp[h,h4]
  ·simp[h,h3]
 ·have h2:s<=i/\(i-s) % (2*s)<s:=by rcases hs with rfl | rfl | rfl | rfl<;>omega
  rw[hm (i-s) (by omega)];simp[h,h2.1,h2.2,hi]
theorem jL(s m x:Nat)(hx:x<4294967296):sw s m x<4294967296:=by
 unfold sw;rw[show(4294967296:Nat)=2 ^ 32 by rfl]at *
 refine Nat.or_lt_two_pow ?_ (Nat.mod_lt _ (by decide));exact Nat.lt_of_le_of_lt Nat.and_le_left (Nat.lt_of_le_of_lt (Nat.div_le_self _ _) hx)
def uq(x:Nat):Nat:=x / 2 ^ 16 ||| x*2 ^ 16 % 4294967296
theorem GB(x i:Nat)(hi:i<32)(hx:x<4294967296):(uq x).testBit i=x.testBit (if i<16 then i+16 else i-16):=by
 unfold uq;rw[Nat.testBit_or,Nat.testBit_div_two_pow,show(4294967296:Nat)=2 ^ 32 by rfl,Nat.testBit_mod_two_pow,Nat.testBit_mul_two_pow];by_cases h:i<16
 ·simp[h,show ¬16<=i by omega]
 ·have hz:x.testBit (i+16)=false:=Nat.testBit_lt_two_pow (Nat.lt_of_lt_of_le hx (Nat.pow_le_pow_right (n:=2) (by omega) (show 32<=i+16 by omega)));simp[h,show 16<=i by omega,hi,hz]
def jG(x:Nat):Nat:=uq (sw 8 16711935 (sw 4 252645135 (sw 2 858993459 (sw 1 1431655765 x))))
theorem CJ(x i:Nat)(hi:i<32)(hx:x<4294967296):(jG x).testBit i=x.testBit (31-i):=by
 unfold jG;have e:∀i,i<32->uf 1 (uf 2 (uf 4 (uf 8 (if i<16 then i+16 else i-16))))=31-i:=by decide
 have l0:∀i,i<32->(if i<16 then i+16 else i-16)<32:=by decide
 have l8:∀i,i<32->uf 8 i<32:=by decide
 have l4:∀i,i<32->uf 4 i<32:=by decide
 have l2:∀i,i<32->uf 2 i<32:=by decide
 rw[GB _ i hi (jL _ _ _ (jL _ _ _ (jL _ _ _ (jL _ _ _ hx)))),
  uM 8 _ _ _ (l0 i hi) (by omega) (by decide),uM 4 _ _ _ (l8 _ (l0 i hi)) (by omega) (by decide),uM 2 _ _ _ (l4 _ (l8 _ (l0 i hi))) (by omega) (by decide),
  uM 1 _ _ _ (l2 _ (l4 _ (l8 _ (l0 i hi)))) (by omega) (by decide),e i hi]
theorem Jo(x:Nat)(hx:x<4294967296):uq x<4294967296:=by
 unfold uq;rw[show(4294967296:Nat)=2 ^ 32 by rfl]at *
 exact Nat.or_lt_two_pow (Nat.lt_of_le_of_lt (Nat.div_le_self _ _) hx) (Nat.mod_lt _ (by decide))
theorem wS(x:Nat)(hx:x<4294967296):jG x<4294967296:=Jo _ (jL _ _ _ (jL _ _ _ (jL _ _ _ (jL _ _ _ hx))))
def rv:Nat->Nat->Nat
 | 0,_=>0
 | n+1,c=>c % 2*2 ^ n+rv n (c / 2)
theorem F6(n c:Nat):rv n c<2 ^ n:=by
 induction n generalizing c with
 | zero=>simp[rv]
 | succ n ih=>
  have h1:=ih (c / 2);have h2:c % 2*2 ^ n<=1*2 ^ n:=Nat.mul_le_mul_right _ (by omega);simp only[rv,Nat.pow_succ];omega
theorem gS(n c k:Nat):(rv n c).testBit k=(decide (k<n) && c.testBit (n-1-k)):=by
 induction n generalizing c k with
 | zero=>simp[rv]
 | succ n ih=>
  simp only[rv];rw[Nat.mul_comm,Nat.testBit_two_pow_mul_add _ (F6 n (c / 2)),ih];by_cases h:k<n
  ·rw[if_pos h,Nat.testBit_div_two];simp[h,show k<n+1 by omega,show n-1-k+1=n-k by omega]
  ·rw[if_neg h];by_cases h2:k=n
   ·subst h2;simp[Nat.testBit_zero]
   ·have:(c % 2).testBit (k-n)=false:=Nat.testBit_lt_two_pow (Nat.lt_of_lt_of_le (Nat.mod_lt _ (by decide)) (by
     have:=Nat.pow_le_pow_right (n:=2) (by omega) (show 1<=k-n by omega);omega))
    rw[this];simp;omega
theorem F7(x n:Nat)(hx:x<4294967296)(hn:n<=32):jG x / 2 ^ (32-n)=rv n x:=by
 refine Nat.eq_of_testBit_eq (λk=>?_);rw[Nat.testBit_div_two_pow,gS];by_cases h:k<n
 ·rw[CJ x _ (by omega) hx];simp[h,show 31-(k+(32-n))=n-1-k by omega]
 ·have:(jG x).testBit (k+(32-n))=false:=Nat.testBit_lt_two_pow (Nat.lt_of_lt_of_le (wS x hx) (Nat.pow_le_pow_right (n:=2) (by omega) (show 32<=k+(32-n)by omega)));rw[this];simp[h]
theorem ut(s m x:Nat)(hx:x<4294967296)(hm:m<4294967296)(_hs:s≤8):
  bits .or .u32 (bits .and .u32 ((x:Int) / 2 ^ s) (m:Int)) (bits .and .u32 (x:Int) (m:Int)*2 ^ s % 4294967296)=((sw s m x:Nat):Int):=by
 have e1:((x:Int) / 2 ^ s)=((x / 2 ^ s:Nat):Int):=by simp
 have hd:x / 2 ^ s<4294967296:=Nat.lt_of_le_of_lt (Nat.div_le_self _ _) hx;rw[e1,u32_and_nat _ _ hd hm,u32_and_nat _ _ hx hm];have e2:((x &&& m:Nat):Int)*2 ^ s % 4294967296=(((x &&& m)*2 ^ s % 4294967296:Nat):Int):=by simp
 rw[e2,u32_or_nat _ _ (Nat.lt_of_le_of_lt Nat.and_le_left hd) (Nat.mod_lt _ (by decide))];rfl
theorem uF(w:World)(x:Nat)(hx:x<4294967296):Calls Tryz.prog 193 #[.int .u32 (x:Nat)] w λe w'=>e=.returned (.int .u32 ((uq (sw 8 16711935 x):Nat):Int))/\w'=w:=by
 obtain⟨y,hy⟩:∃y,y=sw 8 16711935 x:=⟨_,rfl⟩
 have vn:y<4294967296:=by rw[hy];exact jL 8 16711935 x hx
 have e1:bits .or .u32 (bits .and .u32 ((x:Int) / 256) 16711935) (bits .and .u32 (x:Int) 16711935*256 % 4294967296)=(y:Int):=by have h:=ut 8 16711935 x hx (by decide) (by decide);rw[<-hy]at h;exact h
 have e2:bits .or .u32 ((y:Int) / 65536) ((y:Int)*65536 % 4294967296)=((uq y:Nat):Int):=by have d1:(y:Int) / 65536=((y / 2 ^ 16:Nat):Int):=(by omega);have d2:(y:Int)*65536 % 4294967296=((y*2 ^ 16 % 4294967296:Nat):Int):=(by omega);rw[d1,d2,u32_or_nat _ _ (Nat.lt_of_le_of_lt (Nat.div_le_self _ _) vn) (Nat.mod_lt _ (by decide))];rfl
 have HY:Hid (y=sw 8 16711935 x):=hy;clear hy vn hx;go_enter Tryz.func193,Tryz.ntmps193;go_wp2_with fail;go_ret;exact⟨by rw[<-HY.out];rfl,rfl⟩
theorem wQ(w:World)(x:Nat)(hx:x<4294967296):Calls Tryz.prog 174 #[.int .u32 (x:Nat)] w λe w'=>e=.returned (.int .u32 ((jG x:Nat):Int))/\w'=w:=by
 obtain⟨y,hy⟩:∃y,y=sw 1 1431655765 x:=⟨_,rfl⟩
 have vn:y<4294967296:=by rw[hy];exact jL 1 1431655765 x hx
 obtain⟨z,hz⟩:∃z,z=sw 2 858993459 y:=⟨_,rfl⟩
 have OG:z<4294967296:=by rw[hz];exact jL 2 858993459 y vn
 obtain⟨t,ht⟩:∃t,t=sw 4 252645135 z:=⟨_,rfl⟩
 have NP:t<4294967296:=by rw[ht];exact jL 4 252645135 z OG
 have e1:bits .or .u32 (bits .and .u32 ((x:Int) / 2) 1431655765) (bits .and .u32 (x:Int) 1431655765*2 % 4294967296)=(y:Int):=by have h:=ut 1 1431655765 x hx (by decide) (by decide);rw[<-hy]at h;exact h
 have e2:bits .or .u32 (bits .and .u32 ((y:Int) / 4) 858993459) (bits .and .u32 (y:Int) 858993459*4 % 4294967296)=(z:Int):=by have h:=ut 2 858993459 y vn (by decide) (by decide);rw[<-hz]at h;exact h
 have e3:bits .or .u32 (bits .and .u32 ((z:Int) / 16) 252645135) (bits .and .u32 (z:Int) 252645135*16 % 4294967296)=(t:Int):=by have h:=ut 4 252645135 z OG (by decide) (by decide);rw[<-ht]at h;exact h
 have HC:=uF w t NP;have HV:Hid (jG x=uq (sw 8 16711935 t)):=hid (by rw[jG,<-hy,<-hz,<-ht]);generalize uq (sw 8 16711935 t)=r at HC HV;clear hy hz ht vn OG NP hx;go_enter Tryz.func174,Tryz.ntmps174;go_wp2_with fail;refine HC.mono ?_;rintro e w2 ⟨rfl,rfl⟩;clear HC;go_wp2_with fail;go_ret;exact⟨by rw[HV.out];rfl,rfl⟩
end Go.Proofs.YtkhagfgineifhaaGreatDoor
