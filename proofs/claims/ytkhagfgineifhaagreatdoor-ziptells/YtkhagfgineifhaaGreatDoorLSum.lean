import Derived.Test.YtkhagfgineifhaaGreatDoorLRef
import Derived.Laws.BitsAllLaws
set_option maxHeartbeats 1000000
namespace Go.Proofs.YtkhagfgineifhaaGreatDoor
open Go.RowKit
theorem JS(u:Nat)(h:u<4294967296):bits .and .u32 (u:Int) 1=((u % 2:Nat):Int):=by have e:=u32_and_nat u 1 h (by omega);rw[Nat.and_one_is_mod]at e;exact e
theorem GJ(n:Nat)(h:n<4294967296):bits .xor .u32 (n:Int) 3988292384=((n ^^^ 3988292384:Nat):Int):=u32_xor_nat n 3988292384 h (by decide)
theorem Ag(n:Nat)(h:n<4294967296):bits .xor .u32 (n:Int) 0=(n:Int):=by have e:=u32_xor_nat n 0 h (by decide);rw[Nat.xor_zero]at e;exact e
theorem vP(u:Nat)(h:u % 2=1):jN u=u / 2 ^^^ 3988292384:=by unfold jN;rw[h,Nat.one_mul]
theorem uL(u:Nat)(h:u % 2=0):jN u=u / 2:=by unfold jN;rw[h,Nat.zero_mul,Nat.xor_zero]
theorem GY(u:Nat)(h:u<4294967296)(h1:u % 2=1):bits .xor .u32 ((u:Int) / 2) 3988292384=((jN u:Nat):Int):=by
 have e2:(u:Int) / 2=((u / 2:Nat):Int):=by omega
 rw[e2,vP u h1];exact GJ (u / 2) (by omega)
theorem Fj(u:Nat)(h:u<4294967296):bits .xor .u32 ((u:Int) / 2) (bits .and .u32 (u:Int) 1*3988292384 % 4294967296)=((jN u:Nat):Int):=by
 rw[JS u h];rcases Nat.mod_two_eq_zero_or_one u with h1 | h1
 ·have e3:((u % 2:Nat):Int)*3988292384 % 4294967296=0:=(by rw[h1];rfl);have e2:(u:Int) / 2=((u / 2:Nat):Int):=(by omega);rw[e3,e2,uL u h1];exact Ag (u / 2) (by omega)
 ·have e3:((u % 2:Nat):Int)*3988292384 % 4294967296=3988292384:=(by rw[h1];rfl);rw[e3];exact GY u h h1
theorem BB(u:Nat)(h:u<4294967296):bits .xor .u32 4294967295 (u:Int)=((iT u:Nat):Int):=by
 have e:=u32_xor_nat 4294967295 u (by omega) h;have e2:4294967295 ^^^ u=iT u:=by have hb:(BitVec.allOnes 32 ^^^ BitVec.ofNat 32 u).toNat=(~~~ BitVec.ofNat 32 u).toNat:=(by rw[BitVec.allOnes_xor]);rw[BitVec.toNat_xor,BitVec.toNat_not,BitVec.toNat_allOnes,BitVec.toNat_ofNat,Nat.mod_eq_of_lt (show u<2 ^ 32 by omega)]at hb;exact hb
 rw[e2]at e;exact e
theorem yk(w:World)(r:Nat)(hr:r<4294967296):
  Calls Tryz.prog 85 #[.int .u32 (r:Nat)] w λe w'=>e=.returned (.int .u32 (dV r:Nat))/\w'=w:=by
 go_enter Tryz.func85,Tryz.ntmps85;go_wp2;go_loopg [0,4] 8 (λk x z wr=>∃i u:Nat,i<=8/\8-i<=k/\z=.int .i64 (i:Nat)/\x=.int .u32 (u:Nat)/\u=iZ i r/\wr=w)
 case atStart=>exact⟨0,r,by omega,by omega,rfl,rfl,rfl,rfl⟩
 case round=>
  obtain⟨i,u,hi,Ik,rfl,rfl,hu,rfl⟩:=hrel;have HU:Hid (u=iZ i r):=hu;have yB:u<4294967296:=(by rw[hu];exact mD hr i);clear hu;by_cases hlt:i<8
  ·go_wp2
   go_roundg (gk-1)
   case measure=>omega
   case rel=>
    exact⟨i+1,jN u,by omega,by omega,by go_num,by rw[Fj u yB],by rw[HU.out];rfl,rfl⟩
  ·have yK:i=8:=(by omega);subst yK;go_wp2;go_ret;rw[HU.out];exact⟨rfl,rfl⟩
theorem C4(w:World)(v:Value)(I:Nat→Prop)(cs:List Nat)(hsrc:Src w I v cs)(hb:∀b∈cs,b<256)(s:Nat)(hs:s<4294967296)(ag:cs.length≤100000000):
  Calls Tryz.prog 56 #[.int .u32 (s:Nat),v] w λe w'=>e=.returned (.int .u32 (more s cs:Nat))/\w'=w:=by
 obtain⟨ao,cap,rfl,Jm⟩:=id hsrc;have HB:Hid (∀b∈cs,b<256):=hb;have HSA:Hid (cs≠[]->∃b o,ao=some ⟨b,o,none⟩/\I b/\∀j (_:j<cs.length),w.cell? ⟨b,o+j,none⟩=some (.int .u8 (cs[j]:Nat))):=Jm;clear hsrc Jm hb;go_enter Tryz.func56,Tryz.ntmps56;go_wp2_with fail;go_loopg [5,12] cs.length (λk x z wr=>∃i u:Nat,i<=cs.length/\cs.length-i<=k/\z=.int .i64 (i:Nat)/\x=.int .u32 (u:Nat)/\u=nO (iT s) (cs.take i)/\wr=w)
 case atStart=>exact⟨0,iT s,by omega,by omega,rfl,by rw[<-BB s hs];first | rfl | simp,rfl,rfl⟩
 case round=>
  obtain⟨i,u,hi,Ik,rfl,rfl,hu,rfl⟩:=hrel;have HU:Hid (u=nO (iT s) (cs.take i)):=hu;have yB:u<4294967296:=(by rw[hu];exact rB (nt _) _ (λb hb=>HB.out b (List.mem_of_mem_take hb)));clear hu;by_cases hlt:i<cs.length
  ·obtain⟨b,o,rfl,_,pJ⟩:=HSA.out (by intro e;rw[e]at hlt;simp at hlt);have d1:=pJ i hlt;obtain⟨x,hx⟩:∃x,x=cs[i]:=⟨_,rfl⟩
   have gh:x<256:=(by rw[hx];exact HB.out _ (List.getElem_mem _));have HX:Hid (x=cs[i]):=hx;have HC:=λw=>yk w (u ^^^ x) (kd yB (by omega))
   have Y4:bits .xor .u32 (u:Int) (x:Int)=((u ^^^ x:Nat):Int):=u32_xor_nat u x yB (by omega);rw[<-hx]at d1;clear pJ hx HSA;go_wp2_with fail;refine(HC _).mono ?_;rintro e w' ⟨rfl,rfl⟩;go_wp2_with fail;go_roundg (gk-1)
   case measure=>omega
   case rel=>
    refine⟨i+1,dV (u ^^^ x),by omega,by omega,by go_num,rfl,?_,rfl⟩;rw[List.take_succ_eq_append_getElem hlt,wM,<-HU.out,<-HX.out]
  ·have yK:i=cs.length:=(by omega);subst yK;go_wp2_with fail;go_ret;have h1:=HU.out;rw[List.take_of_length_le (Nat.le_refl _)]at h1;refine⟨?_,rfl⟩;have h2:=BB u yB;unfold more;rw[<-h1,<-h2]
   first | rfl | simp
theorem jb(w:World)(v:Value)(I:Nat→Prop)(cs:List Nat)(hsrc:Src w I v cs)(hb:∀b∈cs,b<256)(ag:cs.length≤100000000):
  Calls Tryz.prog 35 #[v] w λe w'=>e=.returned (.int .u32 (more 0 cs:Nat))/\w'=w:=by
 have HC:=C4 w v I cs hsrc hb 0 (by omega) ag;go_enter Tryz.func35,Tryz.ntmps35;go_wp2_with fail;refine HC.mono ?_;rintro e w' ⟨rfl,rfl⟩;go_wp2_with fail;go_ret;exact⟨rfl,rfl⟩
end Go.Proofs.YtkhagfgineifhaaGreatDoor
