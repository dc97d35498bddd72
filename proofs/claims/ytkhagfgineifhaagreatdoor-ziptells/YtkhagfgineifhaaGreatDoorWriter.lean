import Derived.Test.YtkhagfgineifhaaGreatDoorLay
set_option maxHeartbeats 400000
namespace Go.Proofs.YtkhagfgineifhaaGreatDoor
open Go.RowKit
structure Wr(w:World)(p:Nat)(s:Value)(X c:Nat):Prop where
 ex:∃bs,St w p s bs c/\aO bs=X/\c<=8*bs.length/\8*bs.length<c+8
 lt:X<2 ^ c
def Rg(w:World)(s s':Value):Prop:=s'.ownBlock=s.ownBlock\/∀k,s'.ownBlock=some k->w.heap.size<=k
theorem Wr.kept{F:Nat->Prop}{w w':World}{p:Nat}{s:Value}{X c:Nat}(h:Wr w p s X c)(hk:Kept F w w')(hn:∀k,Fp p s k->¬F k):Wr w' p s X c:=by obtain⟨bs,h1,h2⟩:=h.ex;exact⟨⟨bs,h1.kept hk hn,h2⟩,h.lt⟩
theorem Wr.fp_lt{w:World}{p:Nat}{s:Value}{X c:Nat}(h:Wr w p s X c){k:Nat}(hk:Fp p s k):k<w.heap.size:=by obtain⟨bs,h1,_⟩:=h.ex;exact h1.fp_lt hk
theorem rR(w:World):
  Calls Tryz.prog 112 #[] w λe w'=>e=.returned (.pointer (some ⟨w.heap.size,0,none⟩))/\Wr w' w.heap.size (.slice none 0 0) 0 0/\Kept (λ_=>False) w w'/\w'.heap.size=w.heap.size+1:=by
 go_enter Tryz.func112,Tryz.ntmps112;go_wp2;go_ret;refine⟨rfl,⟨⟨[],⟨by simp,by simp,by simp,by simp,World.ownsRow_nil _ _ _ _,by simp[Value.ownBlock],by simp⟩,rfl,by simp,by simp⟩,by simp⟩,(Kept.refl _ w).alloc _,by simp⟩
theorem rh(n:Int)(w:World):
  Calls Tryz.prog 113 #[.int .i64 n] w λe w'=>e=.returned (.bool (decide (0<=n/\n<=32)))/\w'=w:=by
 by_cases h0:0<=n
 ·by_cases h1:n<=32
  all_goals
   go_enter Tryz.func113,Tryz.ntmps113;go_wp2;go_ret;exact⟨by simp[h0,h1],rfl⟩
 ·go_enter Tryz.func113,Tryz.ntmps113;go_wp2;go_ret;exact⟨by simp;omega,rfl⟩
theorem Gl(p v n X c:Nat)(s:Value)(w:World)(h:n≤32)(hv:v<2 ^ n)(hw:Wr w p s X c)(hc:c≤1000000000000):
  Calls Tryz.prog 89 #[.pointer (some ⟨p,0,none⟩),.int .u32 (v:Nat),.int .i64 (n:Nat)] w λe w'=>e=.returned (.int .i64 0) /\
   ∃s',Wr w' p s' (X+v*2 ^ c) (c+n)/\Kept (Fp p s) w w'/\Rg w s s':=by
 have hd:decide (0<=(n:Int)/\(n:Int)<=32)=true:=by simp;omega
 have hq:(v:Int) / 2 ^ n=0:=by rw[show((v:Int) / 2 ^ n)=((v / 2 ^ n:Nat):Int)by simp,Nat.div_eq_of_lt hv];rfl
 obtain⟨bs,hst,hX,lO,yR⟩:=hw.ex;have HX:Hid (aO bs=X):=hX;have HW:Hid (X<2 ^ c):=hw.lt;have HC:=JN w p s bs c v n hst hv h hc lO yR (by rw[hX];exact hw.lt);clear hX hw hst lO yR;go_enter Tryz.func89,Tryz.ntmps89;go_wp2_with (first | (go_at_call 113;refine(rh _ _).mono ?_;rintro e w' ⟨rfl,rfl⟩;rw[hd]) | (go_at_call 114;refine HC.mono ?_;rintro e w' ⟨rfl,s',bs',hl⟩));go_ret;refine⟨rfl,s',⟨⟨bs',hl.st,?_,hl.lo,?_⟩,?_⟩,hl.kept,hl.own⟩
 ·have:=hl.sum;rw[HX.out]at this;simpa using this
 ·have:=hl.hi;have:=hl.hn;omega
 ·have h1:=hl.sum;have h2:=hl.hx;rw[HX.out]at h1;simp at h1;omega
theorem zq(p:Nat)(c X:Nat)(s:Value)(w:World)(h:Wr w p s X c)(hc:c≤1000000000000):
  Calls Tryz.prog 88 #[.pointer (some ⟨p,0,none⟩)] w λe w'=>e=.returned (.int .i64 0)/\Wr w' p s X ((c+7) / 8*8)/\Kept (Fp p s) w w':=by
 obtain⟨bs,hst,hX,lO,yR⟩:=h.ex;have NK:=hst.fc;have mv:=hst.cc;have pJ:=hst.cb;have HX:Hid (aO bs=X):=hX;have HW:Hid (X<2 ^ c):=h.lt;have HS:Hid (St w p s bs c):=hst;obtain⟨ao,cap,hs,_⟩:=hst.row.shape;rw[hs]at pJ;have hL:bs.length<=1000000000000:=by omega
 clear h hst hX hs;go_enter Tryz.func88,Tryz.ntmps88;go_wp2;go_ret;have e:(c+7) / 8*8=bs.length*8:=by omega
 refine⟨rfl,?_,(Kept.refl _ w).setCell _ _ (.inl (.inl rfl))⟩;rw[e];refine⟨⟨bs,HS.out.setCount (bs.length*8),HX.out,by omega,by omega⟩,?_⟩;exact Nat.lt_of_lt_of_le HW.out (Nat.pow_le_pow_right (by omega) (by omega))
end Go.Proofs.YtkhagfgineifhaaGreatDoor
