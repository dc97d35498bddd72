import Derived.Test.YtkhagfgineifhaaGreatDoorCut
import Derived.Test.YtkhagfgineifhaaGreatDoorWriter
set_option maxHeartbeats 400000
namespace Go.Proofs.YtkhagfgineifhaaGreatDoor
open Go.RowKit
theorem JI{k:IntKind}{a b:Int}(h:a=b):Ending.returned (.int k a)=.returned (.int k b):=by rw[h]
theorem pZ(p c:Nat)(s:Value)(bs:List Nat)(w:World)(h:St w p s bs c)(hc:c≤8*bs.length)(ag:bs.length≤100000000000):
  Calls Tryz.prog 160 #[.pointer (some ⟨p,0,none⟩)] w λe w'=>e=.returned (.int .i64 ((8*bs.length-c:Nat):Int))/\∃m,w'=w.drewN m:=by
 obtain⟨ao,cap,hv,_⟩:=h.row.shape;have pJ:=h.cb;have mv:=h.cc;rw[hv]at pJ;clear h hv;go_enter Tryz.func160,Tryz.ntmps160;go_wp2;go_quiet (fail);go_wp2;go_ret;exact⟨JI (by omega),_,rfl⟩
theorem cU(p c:Nat)(s:Value)(bs:List Nat)(w:World)(h:St w p s bs c):
  Calls Tryz.prog 135 #[.pointer (some ⟨p,0,none⟩)] w λe w'=>e=.returned (.int .i64 (c:Nat))/\w'=w:=by
 have mv:=h.cc;clear h;go_enter Tryz.func135,Tryz.ntmps135;go_wp2;go_ret;exact⟨rfl,rfl⟩
theorem Oh(p c:Nat)(n:Int)(s:Value)(bs:List Nat)(w:World)(h:St w p s bs c)(hn:n<0∨(c:Int)<n):
  Calls Tryz.prog 200 #[.pointer (some ⟨p,0,none⟩),.int .i64 n] w λe w'=>e=.returned (.int .i64 1)/\w'=w:=by
 have mv:=h.cc;clear h;by_cases h0:n<0
 ·clear hn;go_enter Tryz.func200,Tryz.ntmps200;go_wp2;go_ret;exact⟨rfl,rfl⟩
 ·have h1:(c:Int)<n:=(by omega);clear hn;go_enter Tryz.func200,Tryz.ntmps200;go_wp2;go_ret;exact⟨rfl,rfl⟩
theorem om(p c n:Nat)(s:Value)(bs:List Nat)(w:World)(h:St w p s bs c)(hn:n≤c)(hc:c≤1000000000000):
  Calls Tryz.prog 200 #[.pointer (some ⟨p,0,none⟩),.int .i64 (n:Nat)] w λe w'=>e=.returned (.int .i64 0)/\St w' p s bs (c-n)/\Kept (·=p) w w':=by
 have mv:=h.cc;have NK:=h.fc;have HS:Hid (St w p s bs c):=h;clear h;go_enter Tryz.func200,Tryz.ntmps200;go_wp2;go_ret;refine⟨rfl,?_,(Kept.refl _ w).setCell _ _ (.inl rfl)⟩;have:=HS.out.setCount (c-n);rw[show((c-n:Nat):Int)=(c:Int)-(n:Int)by omega]at this;exact this
theorem mf(p c:Nat)(s:Value)(bs:List Nat)(w:World)(h:St w p s bs c)(hc:c≤1000000000000):
  Calls Tryz.prog 138 #[.pointer (some ⟨p,0,none⟩)] w λe w'=>e=.returned (.int .i64 0)/\St w' p s bs ((c+7) / 8*8)/\Kept (·=p) w w':=by
 have mv:=h.cc;have NK:=h.fc;have HS:Hid (St w p s bs c):=h;clear h;go_enter Tryz.func138,Tryz.ntmps138;go_wp2;go_ret;refine⟨rfl,?_,(Kept.refl _ w).setCell _ _ (.inl rfl)⟩;have:=HS.out.setCount ((c+7) / 8*8);rw[show(((c+7) / 8*8:Nat):Int)=((c:Int)+8-1) / 8*8 by omega]at this;exact this
theorem rC(p c n:Nat)(s:Value)(bs:List Nat)(w:World)(h:St w p s bs c)(hc:c≤8*bs.length)(ag:bs.length≤100000000000)(hn:n≤32)(hm:8*bs.length<c+n):
  Calls Tryz.prog 131 #[.pointer (some ⟨p,0,none⟩),.int .i64 (n:Nat)] w λe w'=>e=.returned (.tuple #[.int .u32 0,.int .i64 10])/\∃m,w'=w.drewN m:=by
 have hd:decide (0<=(n:Int)/\(n:Int)<=32)=true:=by simp;omega
 have hh:((8*bs.length-c:Nat):Int)<(n:Int):=by omega
 have HC:=pZ p c s bs w h hc ag;obtain⟨q,hq⟩:∃q,q=8*bs.length-c:=⟨_,rfl⟩
 rw[<-hq]at HC hh;clear h hc ag hm hq;go_enter Tryz.func131,Tryz.ntmps131;go_wp2_with (first | (go_at_call 113;refine(rh _ _).mono ?_;rintro e w' ⟨rfl,rfl⟩;rw[hd]) | (go_at_call 160;refine HC.mono ?_;rintro e w' ⟨rfl,mq,rfl⟩));go_ret2;exact⟨rfl,_,rfl⟩
theorem gC(p c n:Nat)(s:Value)(bs:List Nat)(w:World)(h:St w p s bs c)(ag:bs.length≤100000000000)(hn:n≤32)(hm:c+n≤8*bs.length):
  Calls Tryz.prog 131 #[.pointer (some ⟨p,0,none⟩),.int .i64 (n:Nat)] w λe w'=>e=.returned (.tuple #[.int .u32 (aO bs / 2 ^ c % 2 ^ n:Nat),.int .i64 0]) /\
   St w' p s bs (c+n)/\Kept (·=p) w w':=by
 have hd:decide (0<=(n:Int)/\(n:Int)<=32)=true:=by simp;omega
 have hh:¬((8*bs.length-c:Nat):Int)<(n:Int):=by omega
 have HC:=pZ p c s bs w h (by omega) ag;have HD:=λm=>Kl (w.drewN m) p s bs c n (h.drewN m) hn hm ag
 obtain⟨q,hq⟩:∃q,q=8*bs.length-c:=⟨_,rfl⟩
 rw[<-hq]at HC hh;clear h ag hm hq;go_enter Tryz.func131,Tryz.ntmps131;go_wp2_with (first | (go_at_call 113;refine(rh _ _).mono ?_;rintro e w' ⟨rfl,rfl⟩;rw[hd]) | (go_at_call 160;refine HC.mono ?_;rintro e w' ⟨rfl,mq,rfl⟩) | (go_at_call 161;refine(HD mq).mono ?_;rintro e w' ⟨rfl,PL,hk'⟩));go_ret2;exact⟨rfl,PL,⟨hk'.os,hk'.tape,hk'.output,hk'.size,hk'.block⟩⟩
theorem rQ(v:Value)(I:Nat→Prop)(cs:List Nat)(w:World)(h:Src w I v cs)(ag:cs.length≤100000000000)(hb:∀b∈cs,b<256):
  Calls Tryz.prog 130 #[v] w λe w'=>∃p s,e=.returned (.pointer (some ⟨p,0,none⟩))/\St w' p s cs 0/\Kept (λ_=>False) w w'/\(∀k,Fp p s k->w.heap.size<=k):=by
 obtain⟨ao,cap,rfl,hsrc⟩:=id h;have HS:Hid (Src w I (.slice ao cs.length cap) cs):=h;clear h hsrc;go_enter Tryz.func130,Tryz.ntmps130;go_wp2_with (first | (at_make;refine eF _ rfl _ _ rfl _ _ _ _ cs.length rfl rfl rfl rfl (by omega) ?_;intro w1 hr1 pL hs1;have HR:Hid (Row w1 (.slice (some ⟨w.heap.size,0,none⟩) cs.length cs.length) (List.replicate cs.length 0)):=hr1;have HK:Hid (Kept (λ_=>False) w w1):=(Kept.refl _ w).grown pL (by simp);clear hr1 pL) | (with_reducible refine oy ?_;refine dD _ rfl (.tmp 12) (.tmp 13) rfl w.heap.size cs.length cs.length ao cs.length cap (List.replicate cs.length 0) cs I rfl rfl (World.ownsRow.alloc HR.out _) (HS.out.kept (HK.out.alloc _) (λ_ _ _ h=>h)) (by simp) ?_;intro w2 hr2 nN hs2));go_ret;have hk2:Kept (·=w.heap.size) (w1.alloc (.cells #[.slice (some ⟨w.heap.size,0,none⟩) cs.length cs.length,.int .i64 0] 232)) w2:=(Kept.refl _ _).grown nN (λk e=>.inl (by simpa using e.symm));have bm:¬w1.heap.size=w.heap.size:=by omega
 refine⟨w1.heap.size,.slice (some ⟨w.heap.size,0,none⟩) cs.length cs.length,rfl,⟨hk2.cell (by simp) bm,hk2.cell (by simp) bm,(hk2.frozen (by simp) bm).trans (by simp),(hk2.frozen (by simp) bm).trans (by simp),?_,by simp[Value.ownBlock];omega,hb⟩,?_,?_⟩
 ·simpa using hr2
 ·exact Kept.trans (H:=λ_=>False) (HK.out.alloc _) hk2 (λ_ _ h=>h) (λx hx e=>by omega)
 ·intro k hk;rcases hk with rfl | hk
  ·exact HK.out.size
  ·simp[Value.ownBlock]at hk;omega
theorem y6(p X c:Nat)(s:Value)(w:World)(h:Wr w p s X c)(hc:c≤100000000000):
  Calls Tryz.prog 90 #[.pointer (some ⟨p,0,none⟩)] w λe w'=>∃g bs,e=.returned (.slice (some ⟨g,0,none⟩) bs.length bs.length)/\Row w' (.slice (some ⟨g,0,none⟩) bs.length bs.length) bs/\(∀b∈bs,b<256) /\
   aO bs=X/\bs.length=(c+7) / 8/\Kept (λ_=>False) w w'/\w.heap.size<=g:=by
 obtain⟨bs,hst,hX,lO,yR⟩:=h.ex;obtain⟨ao,cap,hv,_⟩:=hst.row.shape;have pJ:=hst.cb;have Ph:∀w1,Kept (λ_=>False) w w1->w1.cell? ⟨p,0,none⟩=some (.slice ao bs.length cap):=λw1 hk=>hk.cell (by rw[pJ,hv]) (λh=>h)
 rw[hv]at pJ;have HS:Hid (Src w (λk=>(Value.slice ao bs.length cap).ownBlock=some k) (.slice ao bs.length cap) bs):=by have:=Src.ofRow hst.row;rw[hv]at this;exact this
 have HB:Hid (∀b∈bs,b<256):=hst.byte;have HX:Hid (aO bs=X):=hX;have ag:bs.length<=100000000000:=by omega
 have HL:Hid (bs.length=(c+7) / 8):=by show _=_;omega
 clear h hst hX lO yR hc hv;go_enter Tryz.func90,Tryz.ntmps90;go_wp2_with (first | (at_make;refine eF _ rfl _ _ rfl _ _ _ _ bs.length rfl rfl rfl rfl (by omega) ?_;intro w1 hr1 pL hs1;have HR:Hid (Row w1 (.slice (some ⟨w.heap.size,0,none⟩) bs.length bs.length) (List.replicate bs.length 0)):=hr1;have HK:Hid (Kept (λ_=>False) w w1):=(Kept.refl _ w).grown pL (by simp);have WU:=Ph w1 HK.out;clear hr1 pL) | (with_reducible refine oy ?_;refine dD _ rfl (.tmp 12) (.tmp 16) rfl w.heap.size bs.length bs.length ao bs.length cap (List.replicate bs.length 0) bs _ rfl rfl HR.out (HS.out.kept HK.out (λ_ _ _ h=>h)) (by simp) ?_;intro w2 hr2 nN hs2));go_ret;refine⟨w.heap.size,bs,rfl,by simpa using hr2,HB.out,HX.out,HL.out,?_,Nat.le_refl _⟩;refine HK.out.grown nN (λk e=>.inr ?_);simp at e;omega
end Go.Proofs.YtkhagfgineifhaaGreatDoor
