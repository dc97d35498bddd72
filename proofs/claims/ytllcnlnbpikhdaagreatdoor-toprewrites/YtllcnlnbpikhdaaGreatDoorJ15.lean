import Derived.Lib.Strings
import Derived.Lib.Slices
import Derived.Lib.Small
import Derived.Lib.Walk
import Derived.Lib.BitFns
import Derived.Test.YtllcnlnbpikhdaaGreatDoorJ14
set_option maxHeartbeats 1000000
set_option maxRecDepth 100000
namespace Go.Proofs.YtllcnlnbpikhdaaGreatDoor
open Go.RowKit
theorem Dr(n:Nat)(h:n<2 ^ 64):Lib.bitLen n=oM n:=by
 induction n using Nat.strongRecOn with
 | ind n ih=>
  by_cases h0:n=0
  ·subst h0;rfl
  ·rw[Lib.bitLen_half n h0 h,ih (n / 2) (by omega) (by omega)];by_cases h1:n=1
   ·subst h1;rfl
   ·unfold oM;rw[if_neg (by omega),if_neg h0];rw[Nat.log2_def n,if_pos (by omega)];omega
theorem AK(y:Int)(h:y.toNat<Lib.len8tab.size)(h0:0<=y)(h1:y<256):((Lib.len8tab[y.toNat]'h).toNat:Int)=(Lib.bitLen y.toNat:Nat):=by have e:=Lib.len8_of y h0 (by omega);unfold Lib.len8 at e;rw[getElem?_pos Lib.len8tab y.toNat h]at e;exact e
theorem lJ(a:Nat)(ha:a<=100):wrap64 (a:Int)=(a:Int):=by unfold wrap64;omega
theorem Cm(w:World)(x:Int)(h0:0≤x)(h1:x<65536):
  Calls Tryz.prog 190 #[.int .u64 x] w λe w'=>e=.returned (.int .i64 (oM x.toNat:Nat))/\w'=w:=by
 rw[<-Dr x.toNat (by omega)];by_cases hs:x<256
 ·have l:=Lib.bitLen_le8' x h0 (by omega);go_enter Tryz.func190,Tryz.ntmps190;go_wp2
  all_goals first
   | (go_ret
      refine⟨congrArg Ending.returned (congrArg (Value.int IntKind.i64) ?_),rfl⟩;rw[AK x _ h0 hs,lJ _ (by omega),lJ _ (by omega)])
   | (exfalso
      have hz:=tab8_size;omega)
 ·obtain⟨y,hy⟩:∃y,y=x / 256:=⟨_,rfl⟩
  have l:=Lib.bitLen_le8' y (by omega) (by omega);have sh:=Lib.bitLen_shift8 x.toNat (by omega) (by omega);have AC:x.toNat / 256=y.toNat:=(by omega);rw[AC]at sh;have HY:Hid (0<=y/\y<256):=hid (by omega);have HSH:Hid (Lib.bitLen x.toNat=8+Lib.bitLen y.toNat/\Lib.bitLen y.toNat<=8):=hid ⟨sh,l⟩;have X9:x / 256=y:=hy.symm;have TR:y % 256=y:=(by have:=HY.out;omega);have XG:IntKind.u8.wrap y=y:=(by rw[IntKind.wrap_u8];exact TR);clear hy AC l sh;go_enter Tryz.func190,Tryz.ntmps190;go_wp2
  all_goals first
   | (go_ret
      refine⟨congrArg Ending.returned (congrArg (Value.int IntKind.i64) ?_),rfl⟩;have h7:=HSH.out;rw[AK y _ HY.out.1 HY.out.2,lJ _ (by omega),h7.1];unfold wrap64;omega)
   | (exfalso
      have hz:=tab8_size;have:=HY.out;omega)
theorem wR(w:World)(x:Int)(h0:0≤x)(h1:x<65536):
  Calls Tryz.prog 169 #[.int .u64 x] w λe w'=>e=.returned (.int .i64 (oM x.toNat:Nat))/\w'=w:=by
 have H:=Cm w x h0 h1;go_enter Tryz.func169,Tryz.ntmps169;go_wp2_with fail;refine H.mono ?_;rintro e w1 ⟨rfl,rfl⟩;clear H;go_wp2_with fail;go_ret;exact⟨rfl,rfl⟩
theorem vy{most:Nat}{ts:List TK}{n:Nat}(h:b7 most ts 0=.ok n)(hm:most<=16384):∀i (hi:i<ts.length),∃c,c<=16384/\o5 ts[i] c=true/\i<=c:=by
 have key:∀i,i<=ts.length->∃c,b7 most (ts.drop i) c=.ok n/\c<=most/\i<=c:=by
  intro i
  induction i with
  | zero=>intro _;exact⟨0,by simpa using h,by omega,by omega⟩
  | succ i ih=>
   intro hi;obtain⟨c,h1,h2,h3⟩:=ih (by omega);rw[List.drop_eq_getElem_cons (by omega),b7]at h1;split at h1
   ·cases h1
   ·split at h1
    ·cases h1
    ·have:=EE ts[i];exact⟨_,h1,by omega,by omega⟩
 intro i hi;obtain⟨c,h1,h2,h3⟩:=key i (by omega);rw[List.drop_eq_getElem_cons hi,b7]at h1;split at h1
 ·cases h1
 ·rename_i h4;exact⟨c,by omega,by simpa using h4,h3⟩
end Go.Proofs.YtllcnlnbpikhdaaGreatDoor
